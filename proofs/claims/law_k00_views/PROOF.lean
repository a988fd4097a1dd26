import PyProof.Rows.All
import Wide.All
import OpenK.AllK
import Wide.FinOn
import PySem.Challenge.RW_laidviews_k00_views
import HandS.ForMost
import HandS.Exc
import HandS.TryOnly
import HandS.TryMany
import HandS.ExcInit
import HandS.ExcInitHot
import HandS.ExcField
import HandS.ExcIs
import HandS.RaiseFrom
import HandS.SuiteRaise
import HandS.Style
import HandS.IsInst
import HandS.TupMul
import HandS.TupAny
import HandS.Flow
import HandS.FStr
import HandS.More
import HandS.Deep
import HandS.WordsExc
import HandS.Defaults
import HandS.Head0
import HandS.Head1
import HandS.Head2
import HandS.HeadEnd
import HandS.HeadHook1
import HandS.HeadHook2
import HandS.HeadHook3
import HandS.HeadHook4
import HandS.HeadWalk
import KE.GoesEnum
import KE.GoesMore
import HandS.SortInts
import HandS.Zip
import KE.GoesComp
import KE.GoesRaise
import HandS.Evl
import HandS.Conv
import HandS.Dict
import HandS.Iter
import HandS.ListItems
import HandS.Sort
import KE.KDictList
import HandS.WordsDict
import PyProof.StrLawsAffix
import PyProof.StrLawsTight
import PyProof.Rows.StrItems
import KE.IntText
import HandS.RaiseMore
import HandS.Star
import HandS.StrMore
import HandS.DictComp
import PyProof.DictUpdate
import HandS.SortKw
import HandS.Slots
import HandS.Rev
import KE.KMinBuiltin
set_option Elab.async false
set_option linter.all false
set_option maxRecDepth 100000
set_option maxHeartbeats 4000000
namespace Y
open PySem PySem.Spec PyProof.Rows L2

/-! ### what is known, and the heap -/
abbrev Ex (G H : Hp) : Prop := ∀ a o, G a = some o → H a = some o
theorem Ex.refl (H : Hp) : Ex H H := fun _ _ h => h
theorem Ex.trans {A B C : Hp} (a : Ex A B) (b : Ex B C) : Ex A C := fun x o h => b x o (a x o h)
theorem Ex.new {H : Hp} {p : Addr} {o : HO} (h : H p = none) : Ex H (upd H p o) := fun a u e => by
  rw [upd_ne (ne_of_none e h)]; exact e
theorem Ex.both {G H : Hp} {p : Addr} {o : HO} (e : Ex G H) : Ex (upd G p o) (upd H p o) := fun a u h => by
  by_cases q : a = p
  · subst q; rw [upd_same] at h ⊢; exact h
  · rw [upd_ne q] at h ⊢; exact e a u h
theorem Ex.out {G H : Hp} {p : Addr} {o : HO} (e : Ex G H) (h : G p = none) : Ex G (upd H p o) := fun a u q => by
  rw [upd_ne (ne_of_none q h)]; exact e a u q
theorem Ex.put {G H : Hp} {p : Addr} {o : HO} (e : Ex G H) (h : H p = some o) : Ex (upd G p o) H := fun a u q => by
  by_cases z : a = p
  · subst z; rw [upd_same] at q; rw [h]; exact q
  · rw [upd_ne z] at q; exact e a u q
theorem Ex.free {G H : Hp} (e : Ex G H) {p : Addr} (h : H p = none) : G p = none := by
  cases q : G p with
  | none => rfl
  | some o => rw [e p o q] at h; cases h
theorem Ex.seqL {K : PySem.W.Frag} {G H : Hp} (e : Ex G H) {a : Addr} {xs : List V} (h : SqL K G a xs) : SqL K H a xs := by
  rcases h with (h | ⟨o, h⟩) | h
  · exact .inl (.inl (e _ _ h))
  · exact .inl (.inr ⟨o, e _ _ h⟩)
  · exact .inr h
theorem Ex.seqT {K : PySem.W.Frag} {G H : Hp} (e : Ex G H) {a : Addr} {xs : List V} (h : SqT K G a xs) : SqT K H a xs := by
  rcases h with (h | ⟨o, h⟩) | h
  · exact .inl (.inl (e _ _ h))
  · exact .inl (.inr ⟨o, e _ _ h⟩)
  · exact .inr h

/-- a step: known part and heap, before and after; M: the cells that may change -/
structure Nx (M : List Addr) (G H G' H' : Hp) : Prop where
  gg : Ex G G'
  gh : Ex G' H'
  old : ∀ b, G b = none → H b ≠ none → G' b = none
  live : ∀ b, H b ≠ none → H' b ≠ none
  fr : ∀ b o, b ∉ M → H b = some o → H' b = some o
section
variable {M M' : List Addr} {G H G' H' G1 H1 G2 H2 : Hp} {p : Addr} {o : HO}
theorem Nx.refl (e : Ex G H) : Nx M G H G H := ⟨Ex.refl _, e, fun _ h _ => h, fun _ h => h, fun _ _ _ h => h⟩
theorem Nx.trans (a : Nx M G H G1 H1) (b : Nx M G1 H1 G2 H2) : Nx M G H G2 H2 :=
  ⟨a.gg.trans b.gg, b.gh, fun c h1 h2 => b.old c (a.old c h1 h2) (a.live c h2), fun c h => b.live c (a.live c h), fun c o hc h => b.fr c o hc (a.fr c o hc h)⟩
theorem Nx.mono (a : Nx M G H G' H') (h : ∀ x, x ∈ M → x ∈ M') : Nx M' G H G' H' := ⟨a.gg, a.gh, a.old, a.live, fun c o hc q => a.fr c o (fun z => hc (h c z)) q⟩
theorem Nx.pure (a : Nx [] G H G' H') : Nx M G H G' H' := a.mono fun _ z => absurd z (by simp)
theorem live_new (h : H p = none) : ∀ b, H b ≠ none → (upd H p o) b ≠ none := fun b q => by
  have z : b ≠ p := fun z => q (by rw [z]; exact h)
  rw [upd_ne z]; exact q
/-- a new object that is known from then on -/
theorem Nx.new (e : Ex G H) (h : H p = none) : Nx [] G H (upd G p o) (upd H p o) :=
  ⟨Ex.new (e.free h), e.both, fun b q1 q2 => by rw [upd_ne (fun z => q2 (by rw [z]; exact h))]; exact q1, live_new h, fun c u _ q => by rw [upd_ne (ne_of_none q h)]; exact q⟩
/-- a new object that may change -/
theorem Nx.own (e : Ex G H) (h : H p = none) : Nx [] G H G (upd H p o) :=
  ⟨Ex.refl _, e.out (e.free h), fun _ q _ => q, live_new h, fun c u _ q => by rw [upd_ne (ne_of_none q h)]; exact q⟩
/-- a change -/
theorem Nx.set (e : Ex G H) (h : G p = none) (hp : p ∈ M) : Nx M G H G (upd H p o) :=
  ⟨Ex.refl _, e.out h, fun _ q _ => q, fun b q => by
    by_cases z : b = p
    · subst z; rw [upd_same]; exact fun w => nomatch w
    · rw [upd_ne z]; exact q, fun c u hc q => by rw [upd_ne (fun z => hc (by rw [z]; exact hp))]; exact q⟩
/-- a cell that was new need not be told -/
theorem Nx.drop (a : Nx (p :: M) G H G' H') (h : H p = none) : Nx M G H G' H' := ⟨a.gg, a.gh, a.old, a.live, fun c u hc q => a.fr c u (fun z => by
  rcases List.mem_cons.mp z with z | z
  · rw [z, h] at q; cases q
  · exact hc z) q⟩
/-- what stands is known from now on -/
theorem Nx.know (a : Nx M G H G' H') (h : H p = none) (q : H' p = some o) (g : G' p = none) : Nx M G H (upd G' p o) H' :=
  ⟨a.gg.trans (Ex.new g), a.gh.put q, fun b h1 h2 => by rw [upd_ne (fun z => h2 (by rw [z]; exact h))]; exact a.old b h1 h2, a.live, a.fr⟩
theorem Nx.fresh (a : Nx M G H G' H') (h : H' p = none) : H p = none := by
  cases q : H p with
  | none => rfl
  | some o => exact absurd h (a.live p (by rw [q]; exact fun z => nomatch z))
end

/-! ### data -/
section
variable {K : PySem.W.Frag} {G G' H : Hp} {v : V} {vs ws : List V} {d : PyData} {ds es : List PyData}
mutual
theorem dp_mono (e : Ex G G') : ∀ {v : V} {d : PyData}, Dp K G v d → Dp K G' v d
  | _, _, .non => .non
  | _, _, .bl b => .bl b
  | _, _, .int i => .int i
  | _, _, .str x => .str x
  | _, _, .lst h a => .lst (e.seqL h) (dpAll_mono e a)
  | _, _, .tup h a => .tup (e.seqT h) (dpAll_mono e a)
theorem dpAll_mono (e : Ex G G') : ∀ {vs : List V} {ds : List PyData}, DpAll K G vs ds → DpAll K G' vs ds
  | _, _, .nil => .nil
  | _, _, .cons h t => .cons (dp_mono e h) (dpAll_mono e t)
end
theorem dpAll_len : ∀ {vs : List V} {ds : List PyData}, DpAll K G vs ds → vs.length = ds.length
  | _, _, .nil => rfl
  | _, _, .cons _ t => congrArg (· + 1) (dpAll_len t)
theorem dpAll_get : ∀ {vs : List V} {ds : List PyData} {i : Nat} {d : PyData}, DpAll K G vs ds → ds[i]? = some d → ∃ v, vs[i]? = some v ∧ Dp K G v d
  | _, _, 0, _, .cons h _, e => ⟨_, rfl, by cases (Option.some.inj e); exact h⟩
  | _, _, i + 1, _, .cons _ t, e => dpAll_get (i := i) t e
  | _, _, i, _, .nil, e => by simp at e
theorem dpAll_got : ∀ {vs : List V} {ds : List PyData} {i : Nat} {v : V}, DpAll K G vs ds → vs[i]? = some v → ∃ d, ds[i]? = some d ∧ Dp K G v d
  | _, _, 0, _, .cons h _, e => ⟨_, rfl, by cases (Option.some.inj e); exact h⟩
  | _, _, i + 1, _, .cons _ t, e => dpAll_got (i := i) t e
  | _, _, i, _, .nil, e => by simp at e
theorem dpAll_app : ∀ {vs ws : List V} {ds es : List PyData}, DpAll K G vs ds → DpAll K G ws es → DpAll K G (vs ++ ws) (ds ++ es)
  | _, _, _, _, .nil, h => h
  | _, _, _, _, .cons a t, h => .cons a (dpAll_app t h)
theorem dpAll_snoc (h : DpAll K G vs ds) (hv : Dp K G v d) : DpAll K G (vs ++ [v]) (ds ++ [d]) := dpAll_app h (.cons hv .nil)
theorem dpAll_take : ∀ {vs : List V} {ds : List PyData} (n : Nat), DpAll K G vs ds → DpAll K G (vs.take n) (ds.take n)
  | _, _, 0, _ => .nil
  | _, _, _ + 1, .nil => .nil
  | _, _, n + 1, .cons a t => .cons a (dpAll_take n t)
theorem dpAll_drop : ∀ {vs : List V} {ds : List PyData} (n : Nat), DpAll K G vs ds → DpAll K G (vs.drop n) (ds.drop n)
  | _, _, 0, h => h
  | _, _, _ + 1, .nil => .nil
  | _, _, n + 1, .cons _ t => dpAll_drop n t
theorem dp_int {i : Int} (h : Dp K G v (.int i)) : v = .int i := by cases h; rfl
theorem dp_bl {b : Bool} (h : Dp K G v (.bool b)) : v = .bl b := by cases h; rfl
theorem dp_str {x : Str} (h : Dp K G v (.str x)) : v = .str x := by cases h; rfl
theorem dp_non (h : Dp K G v .none) : v = .non := by cases h; rfl
theorem dp_tup (h : Dp K G v (.tuple ds)) : ∃ a vs, v = .ref a ∧ SqT K G a vs ∧ DpAll K G vs ds := by cases h; exact ⟨_, _, rfl, ‹_›, ‹_›⟩
theorem dp_lst (h : Dp K G v (.list ds)) : ∃ a vs, v = .ref a ∧ SqL K G a vs ∧ DpAll K G vs ds := by cases h; exact ⟨_, _, rfl, ‹_›, ‹_›⟩
theorem dp_nodict {kvs : List (PyData × PyData)} (h : Dp K G v (.dict kvs)) : False := by cases h
theorem dpAll_ints : ∀ ns : List Int, DpAll K G (ns.map V.int) (ns.map PyData.int)
  | [] => .nil
  | n :: r => .cons (.int n) (dpAll_ints r)
theorem dpAll_ints_inv : ∀ {ns : List Int} {vs : List V}, DpAll K G vs (ns.map PyData.int) → vs = ns.map V.int
  | [], _, h => by cases h; rfl
  | n :: r, _, h => by
    cases h with
    | cons a t =>
      cases a
      rw [dpAll_ints_inv t]; rfl
theorem dpAll_bools_inv : ∀ {ns : List Bool} {vs : List V}, DpAll K G vs (ns.map PyData.bool) → vs = ns.map V.bl
  | [], _, h => by cases h; rfl
  | n :: r, _, h => by
    cases h with
    | cons a t =>
      cases a
      rw [dpAll_bools_inv t]; rfl
/-- the type's name -/
def tyN : PyData → String
  | .none => "NoneType"
  | .bool _ => "bool"
  | .int _ => "int"
  | .str _ => "str"
  | .list _ => "list"
  | .tuple _ => "tuple"
  | .dict _ => "dict"
/-- isinstance with a built-in type -/
def isA (d : PyData) (n : String) : Bool := (kitB (tyN d) n).getD false
theorem ty_dp (h : Dp K H v d) : TyX K H v (.type (tyN d)) := by
  cases h with
  | non => exact .base .non
  | bl b => exact .base (.bl b)
  | int i => exact .base (.int i)
  | str x => exact .base (.str x)
  | lst hs _ =>
    rcases hs with (hs | ⟨o, hs⟩) | ⟨o, its, n, hs, hc, _⟩
    · exact .base (.lst hs)
    · exact .base (.frz hs)
    · exact .kList hs hc
  | tup hs _ =>
    rcases hs with (hs | ⟨o, hs⟩) | ⟨o, its, n, hs, hc, _⟩
    · exact .base (.tup hs)
    · exact .fTuple hs
    · exact .kTuple hs hc
end
end Y

namespace Y
open PySem PySem.Spec PyProof.Rows L2
section
variable {K : PySem.W.Frag} {σ : L2.St} {G H H' : Hp} {Q : VK} {D : Ends} {v x y : V} {d e : PyData} {ds es : List PyData} {ta tb te tc : TE} {ts tu tw : TS} {tt uu : TT} {ar : TA} {QA : List V → Hp → Prop} {QT : Bool → Hp → Prop} {i j : Int} {n : Nat}
/-! names, constants, statements -/
theorem g_var {k : Nat} (h : σ[k]? = some (some v)) (q : Q v H) : tVar k σ H Q := ⟨v, h, q⟩
theorem g_c (q : Q v H) : tC v σ H Q := q
theorem g_seq (q : ts { D with nx := tu D } σ H) : tSeq ts tu D σ H := q
theorem g_asg {g : TG} (q : te σ H fun x H1 => g x σ H1 D.nx) : tAsg te g D σ H := q
theorem g_name {k : Nat} {R : L2.St → Hp → Prop} (q : R (σ.set k (some v)) H) : gName k v σ H R := q
theorem g_ret (q : te σ H D.rt) : tRet te D σ H := q
theorem g_retN (q : D.rt .non H) : tRetN D σ H := q
theorem g_drop (q : te σ H fun _ H1 => D.nx σ H1) : tDrop te D σ H := q
theorem g_next (q : D.nx σ H) : tNext D σ H := q
theorem g_ifS (q : tt σ H fun b H1 => if b = true then ts D σ H1 else tu D σ H1) : tIfS tt ts tu D σ H := q
theorem g_ifE (q : tt σ H fun b H1 => if b = true then ta σ H1 Q else tb σ H1 Q) : tIf tt ta tb σ H Q := q
theorem g_nil (q : QA [] H) : tNil σ H QA := q
theorem g_cons (q : ta σ H fun x H1 => ar σ H1 fun xs H2 => QA (x :: xs) H2) : tCons ta ar σ H QA := q
theorem g_op {r : R2} (q : ta σ H fun x H1 => tb σ H1 fun y H2 => r x y H2 Q) : tOp r ta tb σ H Q := q
theorem g_un {r : V → Hp → VK → Prop} (q : ta σ H fun x H1 => r x H1 Q) : tUn r ta σ H Q := q
theorem g_cb {r : List V → Hp → VK → Prop} (q : ar σ H fun vs H1 => r vs H1 Q) : tCB r ar σ H Q := q
theorem g_call {sp : Sp} {dvs : List V} {E : XK} (q : ar σ H fun vs H1 => sp (vs ++ dvs) H1 Q E) : tCall sp dvs E ar σ H Q := q
/-! tests -/
theorem g_test (q : te σ H fun x H' => ∃ k, x = .bl k ∧ QT k H') : tTest te σ H QT := q
theorem g_tB (q : te σ H fun x H' => ∃ k, x = .bl k ∧ QT k H') : tB te σ H QT := q
theorem g_isbl {b : Bool} {P : Bool → Prop} (q : P b) : ∃ k, V.bl b = .bl k ∧ P k := ⟨b, rfl, q⟩
theorem g_and (q : tt σ H fun c H1 => if c = true then uu σ H1 QT else QT false H1) : tAnd tt uu σ H QT := q
theorem g_or (q : tt σ H fun c H1 => if c = true then QT true H1 else uu σ H1 QT) : tOr tt uu σ H QT := q
theorem g_not (q : tt σ H fun c H1 => QT (!c) H1) : tNot tt σ H QT := q
theorem g_andV (q : ta σ H fun x H1 => ∃ c, x = .bl c ∧ if c = true then tb σ H1 Q else Q (.bl false) H1) : tAndV ta tb σ H Q := q
theorem g_orV (q : ta σ H fun x H1 => ∃ c, x = .bl c ∧ if c = true then Q (.bl true) H1 else tb σ H1 Q) : tOrV ta tb σ H Q := q
theorem g_notV (q : ta σ H fun x H1 => ∃ c, x = .bl c ∧ Q (.bl (!c)) H1) : tNotV ta σ H Q := q
theorem g_chain {r r' : R2} (q : ta σ H fun x H1 => tb σ H1 fun y H2 => r x y H2 fun z H3 => ∃ k, z = .bl k ∧ (if k = true then tc σ H3 fun w' H4 => r' y w' H4 Q else Q (.bl false) H3)) : tChain r r' ta tb tc σ H Q := q
theorem g_isN (q : ta σ H fun x H1 => Q (.bl (decide (x = .non))) H1) : tIsN ta σ H Q := q
theorem g_notN (q : ta σ H fun x H1 => Q (.bl (!decide (x = .non))) H1) : tNotN ta σ H Q := q
theorem g_I0 {g : Int → Int → V} (q : Q (g i j) H) : rI0 g (.int i) (.int j) H Q := ⟨i, j, rfl, rfl, q⟩
theorem g_I {C : Int → Int → Prop} {g : Int → Int → V} (c : C i j) (q : Q (g i j) H) : rI C g (.int i) (.int j) H Q := ⟨i, j, rfl, rfl, c, q⟩
theorem g_U {g : Int → V} (q : Q (g i) H) : rU g (.int i) H Q := ⟨i, rfl, q⟩
theorem g_eq (h : scal x y = true) (q : Q (.bl (decide (x = y))) H) : rEq x y H Q := ⟨h, q⟩
theorem g_ne (h : scal x y = true) (q : Q (.bl (!decide (x = y))) H) : rNe x y H Q := ⟨h, q⟩
theorem g_eqII (q : Q (.bl (decide (i = j))) H) : rEq (.int i) (.int j) H Q := ⟨rfl, by
  have z : decide (V.int i = V.int j) = decide (i = j) := by simp
  rw [z]; exact q⟩
theorem g_eqSS {a b : Str} (q : Q (.bl (decide (a = b))) H) : rEq (.str a) (.str b) H Q := ⟨rfl, by
  have z : decide (V.str a = V.str b) = decide (a = b) := by simp
  rw [z]; exact q⟩
theorem g_neII (q : Q (.bl (!decide (i = j))) H) : rNe (.int i) (.int j) H Q := ⟨rfl, by
  have z : decide (V.int i = V.int j) = decide (i = j) := by simp
  rw [z]; exact q⟩
theorem g_neSS {a b : Str} (q : Q (.bl (!decide (a = b))) H) : rNe (.str a) (.str b) H Q := ⟨rfl, by
  have z : decide (V.str a = V.str b) = decide (a = b) := by simp
  rw [z]; exact q⟩
/-! over data -/
theorem g_isi {nm : String} {b : Bool} (e : Ex G H) (h : Dp K G x d) (hb : kitB (tyN d) nm = some b) (q : Q (.bl b) H) : rIsi K [x, .ty nm] H Q :=
  ⟨x, .ty nm, _, _, b, rfl, .ty nm, ty_dp (dp_mono e h), kit_ty hb, q⟩
theorem g_eqD (e : Ex G H) (hx : Dp K G x d) (hy : Dp K G y d') (s1 : SeqAt.shaped d = true) (s2 : SeqAt.shaped d' = true) (q : Q (.bl (PyData.eqv d d')) H) : rEqD K x y H Q :=
  ⟨d, d', dp_mono e hx, dp_mono e hy, s1, s2, q⟩
theorem g_neD (e : Ex G H) (hx : Dp K G x d) (hy : Dp K G y d') (s1 : SeqAt.shaped d = true) (s2 : SeqAt.shaped d' = true) (q : Q (.bl (!PyData.eqv d d')) H) : rNeD K x y H Q :=
  ⟨d, d', dp_mono e hx, dp_mono e hy, s1, s2, q⟩
theorem g_ixT {k : Nat} (e : Ex G H) (h : Dp K G x (.tuple ds)) (hi : ds[k]? = some d) (hj : i = (k : Int)) (q : ∀ v, Dp K G v d → Q v H) : rIxT K x (.int i) H Q := by
  obtain ⟨a, vs, rfl, hs, hd⟩ := dp_tup h
  obtain ⟨v, hv, hD⟩ := dpAll_get hd hi
  subst hj
  exact ⟨a, vs, _, v, rfl, rfl, e.seqT hs, atI_nat hv, q v hD⟩
theorem g_ixL {k : Nat} (e : Ex G H) (h : Dp K G x (.list ds)) (hi : ds[k]? = some d) (hj : i = (k : Int)) (q : ∀ v, Dp K G v d → Q v H) : rIxL K x (.int i) H Q := by
  obtain ⟨a, vs, rfl, hs, hd⟩ := dp_lst h
  obtain ⟨v, hv, hD⟩ := dpAll_get hd hi
  subst hj
  exact ⟨a, vs, _, v, rfl, rfl, e.seqL hs, atI_nat hv, q v hD⟩
end
end Y
namespace Y
open PySem PySem.Spec PyProof.Rows L2
theorem g_dec {p A B : Prop} {d : Decidable p} {i : Decidable (decide p = true)} (h1 : p → A) (h2 : ¬ p → B) : @ite Prop (decide p = true) i A B := by
  by_cases h : p
  · rw [if_pos (decide_eq_true h)]; exact h1 h
  · rw [if_neg (by simp [h])]; exact h2 h
theorem g_ndec {p A B : Prop} {d : Decidable p} {i : Decidable ((!decide p) = true)} (h1 : ¬ p → A) (h2 : p → B) : @ite Prop ((!decide p) = true) i A B := by
  by_cases h : p
  · rw [if_neg (by simp [h])]; exact h2 h
  · rw [if_pos (by simp [h])]; exact h1 h
theorem g_iT {A B : Prop} {i : Decidable (true = true)} (h : A) : @ite Prop (true = true) i A B := by rw [if_pos rfl]; exact h
theorem g_iF {A B : Prop} {i : Decidable (false = true)} (h : B) : @ite Prop (false = true) i A B := by rw [if_neg (by simp)]; exact h
theorem g_inT {A B : Prop} {i : Decidable ((!true) = true)} (h : B) : @ite Prop ((!true) = true) i A B := by rw [if_neg (by simp)]; exact h
theorem g_inF {A B : Prop} {i : Decidable ((!false) = true)} (h : A) : @ite Prop ((!false) = true) i A B := by rw [if_pos (by simp)]; exact h
theorem g_bool {b : Bool} {A B : Prop} {i : Decidable (b = true)} (h1 : b = true → A) (h2 : b = false → B) : @ite Prop (b = true) i A B := by
  cases b with
  | true => rw [if_pos rfl]; exact h1 rfl
  | false => rw [if_neg (by simp)]; exact h2 rfl
theorem q_bl {Q : VK} {H : Hp} {a b : Bool} (q : Q (.bl a) H) (e : a = b) : Q (.bl b) H := e ▸ q
theorem q_int {Q : VK} {H : Hp} {a b : Int} (q : Q (.int a) H) (e : a = b) : Q (.int b) H := e ▸ q
theorem q_str {Q : VK} {H : Hp} {a b : Str} (q : Q (.str a) H) (e : a = b) : Q (.str b) H := e ▸ q
end Y

namespace Y
open PySem PySem.Spec PyProof.Rows L2
/-! ### what the head tells, by names -/
def fdOf (K : PySem.W.Frag) (a : Addr) : FuncData := match K.lookup a with
  | some ⟨_, _, .func fd, _⟩ => fd
  | _ => PySem.W.fnOf "" "" (defArgs (.Pass ⟨0, 0, 0, 0⟩)) [] (defScope (.Pass ⟨0, 0, 0, 0⟩)) .none .none .none .none none .none .none
structure Tx (fa : List He.Fa) (fn : List He.DefD) (bx : PySem.W.Frag → Bool) (K : PySem.W.Frag) (mg : Str → Option Value) : Prop where
  says : He.SaysD fa fn K
  more : bx K = true
  ex : ∃ h : Heap, K.In h ∧ h.Ns mainGlobals mg
section
variable {fa : List He.Fa} {fl : List He.DefD} {bx : PySem.W.Frag → Bool} {K : PySem.W.Frag} {mg : Str → Option Value}
theorem Tx.fn (T : Tx fa fl bx K mg) (i : Nat) {d : He.DefD} (h : fl[i]? = some d) : FunD K d.name d.qual d.params d.body d.scope (d.dvs K) (d.kws K) (He.fAd K d.at_) (fdOf K (He.fAd K d.at_)) := by
  obtain ⟨fd, F⟩ := T.says.def_ i h
  have e : fdOf K (He.fAd K d.at_) = fd := by
    obtain ⟨oc, od, dV, kV, doc, pm, an, cdv, ct, osl, rfl, lk, _⟩ := F.ex
    unfold fdOf
    rw [lk]
  rw [e]
  exact F
theorem Tx.glo (T : Tx fa fl bx K mg) (i : Nat) {x : Str} (h : fa[i]? = some (.glo x) := by rfl) : mg x = some (.ref (He.ga K x)) := let ⟨_, X, G⟩ := T.ex; He.glo_ok X G (T.says.fact i h)
theorem Tx.free (T : Tx fa fl bx K mg) (i : Nat) {x : Str} (h : fa[i]? = some (.free x) := by rfl) : mg x = none := let ⟨_, X, G⟩ := T.ex; He.free_ok X G (T.says.fact i h)
theorem Tx.int (T : Tx fa fl bx K mg) (i : Nat) {x : Str} {n : Int} (h : fa[i]? = some (.int x n) := by rfl) : ∃ t, mg x = some (.int n t) := let ⟨_, X, G⟩ := T.ex; He.int_ok X G (T.says.fact i h)
theorem Tx.str (T : Tx fa fl bx K mg) (i : Nat) {x z : Str} (h : fa[i]? = some (.str x z) := by rfl) : ∃ t, mg x = some (.str z t) := let ⟨_, X, G⟩ := T.ex; He.str_ok X G (T.says.fact i h)
theorem Tx.cls (T : Tx fa fl bx K mg) (i : Nat) {x : Str} (h : fa[i]? = some (.cls x) := by rfl) : Cls K (He.ga K x) := He.cls_ok (T.says.fact i h)
theorem Tx.noat (T : Tx fa fl bx K mg) (i : Nat) {x f : Str} (h : fa[i]? = some (.noat x f) := by rfl) : NoAttr K (He.ga K x) f := He.noat_ok (T.says.fact i h)
theorem Tx.meth (T : Tx fa fl bx K mg) (i : Nat) {x m : Str} (h : fa[i]? = some (.meth x m) := by rfl) : Meth K (He.ga K x) m (He.ma K (He.ga K x) m) := He.meth_ok (T.says.fact i h)
theorem Tx.mkr (T : Tx fa fl bx K mg) (i : Nat) {x : Str} (h : fa[i]? = some (.mkr x) := by rfl) : Mk K (He.ga K x) (He.ma K (He.ga K x) "__init__") := He.mkr_ok (T.says.fact i h)
theorem Tx.exm (T : Tx fa fl bx K mg) (i : Nat) {x y : Str} {b : Bool} (h : fa[i]? = some (.exm x y b) := by rfl) : PySem.W.exmOne K (.ref (He.ga K x)) (.ref (He.ga K y)) = some b := He.exm_ok (T.says.fact i h)
theorem Tx.keep (T : Tx fa fl bx K mg) (i : Nat) {x : Str} (h : fa[i]? = some (.keep x) := by rfl) : PySem.W.keepIn K (.ref (He.ga K x)) = true := He.keep_ok (T.says.fact i h)
end
/-- what a call by name wants -/
structure Cal (K : PySem.W.Frag) (mg : Str → Option Value) (x : Str) (ps : List Str) : Prop where
  g : mg x = some (.ref (He.ga K x))
  k : PySem.W.keepIn K (.ref (He.ga K x)) = true
  b : Binds K (fdOf K (He.ga K x)) ps []
structure CalM (K : PySem.W.Frag) (a : Addr) (ps : List Str) : Prop where
  k : PySem.W.keepIn K (.ref a) = true
  b : Binds K (fdOf K a) ps []
/-- a call of a def without defaults -/
def tCall1 (sp : Sp) (E : XK) (t : TA) : TE := fun σ H Q => t σ H fun vs H1 => sp vs H1 Q E
section
variable {X : Cx} {CX : CXT} {k : Nat} {C : Addr} {ps : List Str} {sp : Sp} {E : XK} {x m : Str} {p pos apos : Pos} {e o : Expr} {es : List Expr} {ta : TE} {t : TA}
theorem pe_callC (F : FnOk X.prog X.w X.K X.mg X.base CX k (He.ga X.K x) (fdOf X.K (He.ga X.K x)) ps sp) (c : Cal X.K X.mg x ps) (hr : Room k X.A) (hg : Gl X x) (hx : Passes CX X E)
    (ha : PA X (e :: es) t) (hdb : (x == ("__debug__" : Str)) = false := by decide) (he : starEach (e :: es) X.env = (false, eval e X.env) :: starEach es X.env := by rfl) (hpl : (backTo pos (starEach es X.env)).any (·.1) = false := by rfl) :
    PE X (.Call (.Name x p) (e :: es) [] pos) (tCall1 sp E t) := by
  have h := pe_call (p := p) (pos := pos) (dvs := []) F hr hg c.g c.k c.b .nil hx ha hdb he hpl
  have e1 : tCall sp [] E t = tCall1 sp E t := by
    unfold tCall tCall1
    simp only [List.append_nil]
  rw [← e1]
  exact h
theorem pe_call0C (F : FnOk X.prog X.w X.K X.mg X.base CX k (He.ga X.K x) (fdOf X.K (He.ga X.K x)) ps sp) (c : Cal X.K X.mg x ps) (hr : Room k X.A) (hg : Gl X x) (hx : Passes CX X E)
    (hdb : (x == ("__debug__" : Str)) = false := by decide) : PE X (.Call (.Name x p) [] [] pos) (tCall1 sp E tNil) := pe_call0 (dvs := []) F hr hg c.g c.k c.b .nil hx hdb
/-- o.m(..) -/
def tMeth1 (C : Addr) (m : Str) (sp : Sp) (E : XK) (ta : TE) (t : TA) : TE := fun σ H Q => ta σ H fun x H1 => ∃ a dx fs, x = .ref a ∧ H1 a = some (.ins C dx fs) ∧ fs.lookup m = none ∧ t σ H1 fun vs H2 => sp (.ref a :: vs) H2 Q E
theorem pe_gint {i : Int} {pos : Pos} (h : ∃ t, X.mg x = some (.int i t)) (hg : Gl X x := by rfl) (hd : (x == ("__debug__" : Str)) = false := by decide) : PE X (.Name x pos) (tC (.int i)) := let ⟨t, h⟩ := h; pe_glob hg h ⟨t, rfl⟩ hd
theorem pe_gstr {i : Str} {pos : Pos} (h : ∃ t, X.mg x = some (.str i t)) (hg : Gl X x := by rfl) (hd : (x == ("__debug__" : Str)) = false := by decide) : PE X (.Name x pos) (tC (.str i)) := let ⟨t, h⟩ := h; pe_glob hg h ⟨t, rfl⟩ hd
end
section
variable {σ : L2.St} {H : Hp} {Q : VK}
theorem g_call1 {sp : Sp} {E : XK} {ar : TA} (q : ar σ H fun vs H1 => sp vs H1 Q E) : tCall1 sp E ar σ H Q := q
end
end Y

namespace Y
open PySem PySem.Spec PyProof.Rows L2
/-! ### readings by name -/
def rLen (K : PySem.W.Frag) : List V → Hp → VK → Prop := fun xs H Q => ∃ p ys, xs = [.ref p] ∧ (SqL K H p ys ∨ SqT K H p ys) ∧ Q (.int ys.length) H
def rLenS : List V → Hp → VK → Prop := fun xs H Q => ∃ z, xs = [.str z] ∧ z.length ≤ sizeLine ∧ Q (.int z.length) H
def rAbs : List V → Hp → VK → Prop := fun xs H Q => ∃ i, xs = [.int i] ∧ Q (.int (if i < 0 then -i else i)) H
def rInt1 : List V → Hp → VK → Prop := fun xs H Q => (∃ i, xs = [.int i] ∧ Q (.int i) H) ∨ ∃ k, xs = [.bl k] ∧ Q (.int (if k then 1 else 0)) H
def rStrI : List V → Hp → VK → Prop := fun xs H Q => ∃ i, xs = [.int i] ∧ i.natAbs.log2 < 1920 ∧ Q (.str (toString i)) H
def rListOf (K : PySem.W.Frag) : List V → Hp → VK → Prop := fun xs H Q => ∃ p ys, xs = [.ref p] ∧ (SqL K H p ys ∨ SqT K H p ys) ∧ ∀ l, H l = none → Q (.ref l) (upd H l (.lst ys))
def rTupOf (K : PySem.W.Frag) : List V → Hp → VK → Prop := fun xs H Q => ∃ p ys, xs = [.ref p] ∧ ((SqL K H p ys ∧ ∀ l, H l = none → Q (.ref l) (upd H l (.tup ys))) ∨ (SqT K H p ys ∧ Q (.ref p) H))
def rAddS : R2 := fun x y H Q => ∃ i j, x = .str i ∧ y = .str j ∧ i.length + j.length ≤ sizeLine ∧ Q (.str (i ++ j)) H
def rMin2 : List V → Hp → VK → Prop := fun xs H Q => ∃ i j, xs = [.int i, .int j] ∧ Q (.int (if j < i then j else i)) H
def rMax2 : List V → Hp → VK → Prop := fun xs H Q => ∃ i j, xs = [.int i, .int j] ∧ Q (.int (if j > i then j else i)) H
def rInSign : R2 := fun x y H Q => ∃ (c : Nat) (z : Str), x = .str ⟨#[c]⟩ ∧ y = .str z ∧ Q (.bl (decide (c ∈ z.cps.toList))) H
def rLenD : List V → Hp → VK → Prop := fun xs H Q => ∃ a kvs, xs = [V.ref a] ∧ H a = some (.dK kvs) ∧ Q (.int kvs.length) H
def MkT (xs : List V) (H1 : Hp) (Q : VK) : Prop := xs.length ≤ sizeLine ∧ ∀ p, H1 p = none → Q (.ref p) (upd H1 p (.tup xs))
def MkL (xs : List V) (H1 : Hp) (Q : VK) : Prop := xs.length ≤ sizeLine ∧ ∀ p, H1 p = none → Q (.ref p) (upd H1 p (.lst xs))
section
variable {X : Cx}
theorem call_len : CallR X (.builtin "len") (rLen X.K) := call_len_seq
theorem call_lenS : CallR X (.builtin "len") rLenS := call_len_str
theorem call_lenDk : CallR X (.builtin "len") rLenD := call_lenD
theorem call_abs : CallR X (.builtin "abs") rAbs := L2.call_abs
theorem call_int1 : CallR X (.type "int") rInt1 := L2.call_int1
theorem call_strI : CallR X (.type "str") rStrI := L2.call_str_int
theorem call_list : CallR X (.type "list") (rListOf X.K) := call_list_of
theorem call_tuple : CallR X (.type "tuple") (rTupOf X.K) := call_tuple_of
theorem op_addS : OpR X (binaryOp .Add) rAddS := op_add_str
theorem op_inSign : OpR X (compareOp .In) rInSign := op_in_sign
theorem call_min (hc : X.calm = true) : CallR X (.builtin "min") rMin2 := call_min2 hc
theorem call_max (hc : X.calm = true) : CallR X (.builtin "max") rMax2 := call_max2 hc
end
section
variable {K : PySem.W.Frag} {σ : L2.St} {G H H' : Hp} {Q : VK} {D : Ends} {v x y : V} {d e' : PyData} {ds es : List PyData} {ta tb te tc : TE} {ts tu tw : TS} {tt uu : TT} {ar : TA} {QA : List V → Hp → Prop} {i j : Int} {n : Nat}
theorem g_lenT (e : Ex G H) (h : Dp K G x (.tuple ds)) (q : Q (.int (ds.length : Int)) H) : rLen K [x] H Q := by
  obtain ⟨a, vs, rfl, hs, hd⟩ := dp_tup h
  exact ⟨a, vs, rfl, .inr (e.seqT hs), by rw [dpAll_len hd]; exact q⟩
theorem g_lenL (e : Ex G H) (h : Dp K G x (.list ds)) (q : Q (.int (ds.length : Int)) H) : rLen K [x] H Q := by
  obtain ⟨a, vs, rfl, hs, hd⟩ := dp_lst h
  exact ⟨a, vs, rfl, .inl (e.seqL hs), by rw [dpAll_len hd]; exact q⟩
theorem g_lenM {p : Addr} {xs : List V} (h : H p = some (.lst xs)) (q : Q (.int (xs.length : Int)) H) : rLen K [.ref p] H Q := ⟨p, xs, rfl, .inl (.of h), q⟩
theorem g_lenS {s : Str} (h : s.length ≤ sizeLine) (q : Q (.int (s.length : Int)) H) : rLenS [.str s] H Q := ⟨s, rfl, h, q⟩
theorem g_abs (q : Q (.int (if i < 0 then -i else i)) H) : rAbs [.int i] H Q := ⟨i, rfl, q⟩
theorem g_int1 (q : Q (.int i) H) : rInt1 [.int i] H Q := .inl ⟨i, rfl, q⟩
theorem g_int1b {k : Bool} (q : Q (.int (if k then 1 else 0)) H) : rInt1 [.bl k] H Q := .inr ⟨k, rfl, q⟩
theorem g_addS {a b : Str} (h : a.length + b.length ≤ sizeLine) (q : Q (.str (a ++ b)) H) : rAddS (.str a) (.str b) H Q := ⟨a, b, rfl, rfl, h, q⟩
theorem g_inSign {c : Nat} {z : Str} (q : Q (.bl (decide (c ∈ z.cps.toList))) H) : rInSign (.str ⟨#[c]⟩) (.str z) H Q := ⟨c, z, rfl, rfl, q⟩
theorem g_isB {a b : Bool} (q : Q (.bl (decide (a = b))) H) : rIsB (.bl a) (.bl b) H Q := ⟨a, b, rfl, rfl, q⟩
theorem g_notB {a b : Bool} (q : Q (.bl (!decide (a = b))) H) : rNotB (.bl a) (.bl b) H Q := ⟨a, b, rfl, rfl, q⟩
theorem g_ixS {s : Str} {c k : Nat} (hs : s.length ≤ sizeLine) (hc : s.cps.toList[k]? = some c) (hj : i = (k : Int)) (q : Q (.str ⟨#[c]⟩) H) : rIxS (.str s) (.int i) H Q := by
  subst hj
  exact ⟨s, _, c, rfl, rfl, hs, atI_nat hc, q⟩
/-- a new tuple | a new list -/
theorem g_tup (q : ar σ H fun xs H1 => MkT xs H1 Q) : tTup ar σ H Q := q
theorem g_lst (q : ar σ H fun xs H1 => MkL xs H1 Q) : tLst ar σ H Q := q
theorem nx_tup {G H : Hp} {p : Addr} {xs : List V} (e : Ex G H) (h : DpAll K G xs ds) (hp : H p = none) : Nx [] G H (upd G p (.tup xs)) (upd H p (.tup xs)) ∧ Dp K (upd G p (.tup xs)) (.ref p) (.tuple ds) :=
  ⟨Nx.new e hp, .tup (.of upd_same) (dpAll_mono (Ex.new (e.free hp)) h)⟩
theorem nx_lst {G H : Hp} {p : Addr} {xs : List V} (e : Ex G H) (h : DpAll K G xs ds) (hp : H p = none) : Nx [] G H (upd G p (.lst xs)) (upd H p (.lst xs)) ∧ Dp K (upd G p (.lst xs)) (.ref p) (.list ds) :=
  ⟨Nx.new e hp, .lst (.of upd_same) (dpAll_mono (Ex.new (e.free hp)) h)⟩
/-- a tuple is made and known: what follows, by G' -/
theorem g_tupD {xs : List V} (e : Ex G H) (h : DpAll K G xs ds) (hl : ds.length ≤ sizeLine) (q : ∀ p G' H', Nx [] G H G' H' → Dp K G' (.ref p) (.tuple ds) → Q (.ref p) H') : MkT xs H Q :=
  ⟨by rw [dpAll_len h]; exact hl, fun p hp => let ⟨a, b⟩ := nx_tup e h hp; q p _ _ a b⟩
theorem g_lstD {xs : List V} (e : Ex G H) (h : DpAll K G xs ds) (hl : ds.length ≤ sizeLine) (q : ∀ p G' H', Nx [] G H G' H' → Dp K G' (.ref p) (.list ds) → Q (.ref p) H') : MkL xs H Q :=
  ⟨by rw [dpAll_len h]; exact hl, fun p hp => let ⟨a, b⟩ := nx_lst e h hp; q p _ _ a b⟩
/-- a list is made that may change -/
theorem g_lstM {xs : List V} (e : Ex G H) (hl : xs.length ≤ sizeLine) (q : ∀ p H', Nx [] G H G H' → H p = none → H' p = some (.lst xs) → G p = none → Q (.ref p) H') : MkL xs H Q :=
  ⟨hl, fun p hp => q p _ (Nx.own e hp) hp upd_same (e.free hp)⟩
/-- tuple(list that was just made) -/
theorem g_tupOfM {p : Addr} {ys : List V} (e : Ex G H) (hp : H p = some (.lst ys)) (h : DpAll K G ys ds) (q : ∀ p G' H', Nx [] G H G' H' → Dp K G' (.ref p) (.tuple ds) → Q (.ref p) H') : rTupOf K [.ref p] H Q :=
  ⟨p, ys, rfl, .inl ⟨.of hp, fun l hl => let ⟨a, b⟩ := nx_tup e h hl; q l _ _ a b⟩⟩
theorem g_tupOfL (e : Ex G H) (h : Dp K G x (.list ds)) (q : ∀ p G' H', Nx [] G H G' H' → Dp K G' (.ref p) (.tuple ds) → Q (.ref p) H') : rTupOf K [x] H Q := by
  obtain ⟨a, vs, rfl, hs, hd⟩ := dp_lst h
  exact ⟨a, vs, rfl, .inl ⟨e.seqL hs, fun l hl => let ⟨a, b⟩ := nx_tup e hd hl; q l _ _ a b⟩⟩
theorem g_tupOfT (e : Ex G H) (h : Dp K G x (.tuple ds)) (q : Q x H) : rTupOf K [x] H Q := by
  obtain ⟨a, vs, rfl, hs, hd⟩ := dp_tup h
  exact ⟨a, vs, rfl, .inr ⟨e.seqT hs, q⟩⟩
theorem g_listOf (e : Ex G H) (h : Dp K G x (.list ds) ∨ Dp K G x (.tuple ds)) (q : ∀ p G' H', Nx [] G H G' H' → Dp K G' (.ref p) (.list ds) → Q (.ref p) H') : rListOf K [x] H Q := by
  rcases h with h | h
  · obtain ⟨a, vs, rfl, hs, hd⟩ := dp_lst h
    exact ⟨a, vs, rfl, .inl (e.seqL hs), fun l hl => let ⟨a, b⟩ := nx_lst e hd hl; q l _ _ a b⟩
  · obtain ⟨a, vs, rfl, hs, hd⟩ := dp_tup h
    exact ⟨a, vs, rfl, .inr (e.seqT hs), fun l hl => let ⟨a, b⟩ := nx_lst e hd hl; q l _ _ a b⟩
theorem g_allM {p : Addr} {ys : List V} {bs : List Bool} (hp : H p = some (.lst ys)) (h : DpAll K G ys (bs.map .bool)) (q : Q (.bl (bs.all id)) H) : rAll K [.ref p] H Q :=
  ⟨p, bs, rfl, by rw [dpAll_bools_inv h] at hp; exact .of hp, q⟩
/-- xs.append(e) -/
theorem g_app {p : Addr} {xs : List V} (hp : H p = some (.lst xs)) (hl : xs.length < sizeLine) (q : Q .non (upd H p (.lst (xs ++ [y])))) : rAppend (.ref p) [y] H Q := ⟨p, xs, y, rfl, rfl, hp, hl, q⟩
theorem g_bm {T : String} {r : V → List V → Hp → VK → Prop} (q : ta σ H fun x H1 => tyV K T x H1 ∧ ar σ H1 fun xs H2 => r x xs H2 Q) : tBM K T r ta ar σ H Q := q
theorem g_bm0 {T : String} {r : V → List V → Hp → VK → Prop} (q : ta σ H fun x H1 => tyV K T x H1 ∧ r x [] H1 Q) : tBM0 K T r ta σ H Q := q
theorem g_tyL {p : Addr} {xs : List V} {P : Prop} (hp : H p = some (.lst xs)) (q : P) : tyV K "list" (.ref p) H ∧ P := ⟨.inl ⟨rfl, _, .of hp⟩, q⟩

/-! ### what is walked -/
structure Src (K : PySem.W.Frag) (M : List Addr) (J : It) (G H : Hp) (ds : List PyData) : Prop where
  go : ∀ i G' H', Nx M G H G' H' → i < ds.length → J.go i H'
  stop : ∀ i G' H', Nx M G H G' H' → ds.length ≤ i → J.stop i H'
  yld : ∀ i d G' H' x H'', Nx M G H G' H' → ds[i]? = some d → J.yld i H' x H'' → ∃ G'', Nx [] G' H' G'' H'' ∧ Dp K G'' x d
theorem src_tup {M : List Addr} {a : Addr} {xs : List V} (hs : SqT K G a xs) (hd : DpAll K G xs ds) : Src K M (Itt K a) G H ds where
  go := fun i G' H' n hi => ⟨xs, xs[i]'(by rw [dpAll_len hd]; exact hi), n.gh.seqT (n.gg.seqT hs), by simp [dpAll_len hd, hi]⟩
  stop := fun i G' H' n hi => ⟨xs, n.gh.seqT (n.gg.seqT hs), by rw [dpAll_len hd]; exact hi⟩
  yld := fun i d G' H' x H'' n hi y => by
    obtain ⟨rfl, f⟩ := y
    have hx := f xs (n.gh.seqT (n.gg.seqT hs))
    obtain ⟨v, hv, dv⟩ := dpAll_get hd hi
    rw [hx] at hv
    cases hv
    exact ⟨G', Nx.refl n.gh, dp_mono n.gg dv⟩
theorem src_lst {M : List Addr} {a : Addr} {xs : List V} (hs : SqL K G a xs) (hd : DpAll K G xs ds) : Src K M (Itl K a) G H ds where
  go := fun i G' H' n hi => ⟨xs, xs[i]'(by rw [dpAll_len hd]; exact hi), n.gh.seqL (n.gg.seqL hs), by simp [dpAll_len hd, hi]⟩
  stop := fun i G' H' n hi => ⟨xs, n.gh.seqL (n.gg.seqL hs), by rw [dpAll_len hd]; exact hi⟩
  yld := fun i d G' H' x H'' n hi y => by
    obtain ⟨rfl, f⟩ := y
    have hx := f xs (n.gh.seqL (n.gg.seqL hs))
    obtain ⟨v, hv, dv⟩ := dpAll_get hd hi
    rw [hx] at hv
    cases hv
    exact ⟨G', Nx.refl n.gh, dp_mono n.gg dv⟩
/-- a list that stands in H, not known (it stays while the walk lasts: not in M) -/
theorem src_own {M : List Addr} {a : Addr} {xs : List V} (hs : H a = some (.lst xs)) (ha : a ∉ M) (hd : DpAll K G xs ds) : Src K M (Itl K a) G H ds where
  go := fun i G' H' n hi => ⟨xs, xs[i]'(by rw [dpAll_len hd]; exact hi), .of (n.fr a _ ha hs), by simp [dpAll_len hd, hi]⟩
  stop := fun i G' H' n hi => ⟨xs, .of (n.fr a _ ha hs), by rw [dpAll_len hd]; exact hi⟩
  yld := fun i d G' H' x H'' n hi y => by
    obtain ⟨rfl, f⟩ := y
    have hx := f xs (.of (n.fr a _ ha hs))
    obtain ⟨v, hv, dv⟩ := dpAll_get hd hi
    rw [hx] at hv
    cases hv
    exact ⟨G', Nx.refl n.gh, dp_mono n.gg dv⟩
/-- a text, sign by sign -/
def sgn (s : Str) : List PyData := s.cps.toList.map fun c => .str ⟨#[c]⟩
theorem sgn_len (s : Str) : (sgn s).length = s.length := by unfold sgn; rw [List.length_map]; exact Array.length_toList
theorem sgn_get {s : Str} {i : Nat} {d : PyData} (h : (sgn s)[i]? = some d) : ∃ c, s.cps.toList[i]? = some c ∧ d = .str ⟨#[c]⟩ := by
  simp only [sgn, List.getElem?_map, Option.map_eq_some_iff] at h
  obtain ⟨x, h1, h2⟩ := h
  exact ⟨x, h1, h2.symm⟩
theorem src_str {M : List Addr} (s : Str) : Src K M (Its s) G H (sgn s) where
  go := fun i G' H' n hi => (by simpa [sgn] using hi : i < s.cps.size)
  stop := fun i G' H' n hi => (by simpa [sgn] using hi : s.cps.size ≤ i)
  yld := fun i d G' H' x H'' n hi y => by
    obtain ⟨rfl, c, hc, rfl⟩ := y
    have e1 : s.cps.toList[i]? = some c := by rw [← hc]; simp
    unfold sgn at hi
    rw [List.getElem?_map, e1] at hi
    cases hi
    exact ⟨G', Nx.refl n.gh, .str _⟩
def rng (lo : Int) (n : Nat) : List PyData := (List.range n).map fun (i : Nat) => .int (lo + (i : Int))
theorem src_rng {M : List Addr} (lo : Int) (n : Nat) : Src K M (Itr lo n) G H (rng lo n) where
  go := fun i G' H' _ hi => (by simpa [rng] using hi : i < n)
  stop := fun i G' H' _ hi => (by simpa [rng] using hi : n ≤ i)
  yld := fun i d G' H' x H'' m hi y => by
    obtain ⟨rfl, rfl⟩ := y
    have hl : i < n := by
      have := (List.getElem?_eq_some_iff.mp hi).1
      simpa [rng] using this
    unfold rng at hi
    rw [List.getElem?_map, List.getElem?_range hl] at hi
    cases hi
    exact ⟨G', Nx.refl m.gh, .int _⟩
def prs (k : Nat) : List PyData → List PyData
  | [] => []
  | d :: r => .tuple [.int (k : Int), d] :: prs (k + 1) r
theorem prs_len : ∀ (k : Nat) (ds : List PyData), (prs k ds).length = ds.length
  | _, [] => rfl
  | k, d :: r => congrArg (· + 1) (prs_len (k + 1) r)
theorem prs_get : ∀ (k : Nat) (ds : List PyData) (i : Nat), (prs k ds)[i]? = (ds[i]?).map fun d => .tuple [.int ((k + i : Nat) : Int), d]
  | _, [], i => by simp [prs]
  | k, d :: r, 0 => by simp [prs]
  | k, d :: r, i + 1 => by
    show (prs (k + 1) r)[i]? = _
    rw [prs_get (k + 1) r i]
    simp only [List.getElem?_cons_succ]
    congr 1
    funext d
    congr 4
    omega
theorem src_enumL {M : List Addr} {a : Addr} {xs : List V} (hs : SqL K G a xs) (hd : DpAll K G xs ds) : Src K M (Ite K a) G H (prs 0 ds) where
  go := fun i G' H' n hi => ⟨xs, xs[i]'(by rw [dpAll_len hd, ← prs_len 0 ds]; exact hi), n.gh.seqL (n.gg.seqL hs), by rw [prs_len] at hi; simp [dpAll_len hd, hi]⟩
  stop := fun i G' H' n hi => ⟨xs, n.gh.seqL (n.gg.seqL hs), by rw [dpAll_len hd, ← prs_len 0 ds]; exact hi⟩
  yld := fun i d G' H' x H'' n hi y => by
    obtain ⟨T, u, rfl, hT, rfl, f⟩ := y
    have hx := f xs (n.gh.seqL (n.gg.seqL hs))
    rw [prs_get] at hi
    cases q : ds[i]? with
    | none => rw [q] at hi; cases hi
    | some d0 =>
      rw [q] at hi
      cases hi
      obtain ⟨v, hv, dv⟩ := dpAll_get hd q
      rw [hx] at hv
      cases hv
      have h2 := nx_tup (K := K) n.gh (xs := [.int ((i : Nat) : Int), u]) (ds := [.int ((0 + i : Nat) : Int), d0]) (by rw [Nat.zero_add]; exact .cons (.int _) (.cons (dp_mono n.gg dv) .nil)) hT
      exact ⟨_, h2.1, h2.2⟩
end
end Y

namespace Y
open PySem PySem.Spec PyProof.Rows L2
/-! ### loops -/
/-- what tFor asks behind its walk -/
def ForW (J : It) (g : TG) (tb : TS) (D : Ends) (σ : L2.St) (H1 : Hp) : Prop := ∃ W : Nat → Nat → L2.St → Hp → Prop, (∃ m, W 0 m σ H1) ∧ ∀ i m σ H, W i m σ H →
  (J.stop i H ∧ D.nx σ H) ∨ (J.go i H ∧ ∃ N : L2.St → Hp → Prop, (∀ σ' H', N σ' H' → ∃ m', m' < m ∧ W (i + 1) m' σ' H') ∧ ∀ x H', J.yld i H x H' → g x σ H' fun σ2 H2 => tb { D with nx := N, ct := N, bk := D.nx } σ2 H2)
def LcW (J : It) (g : TG) (tt : TT) (te : TE) (vs : List Nat) (σ : L2.St) (D : Addr) (Q : VK) (H1 : Hp) : Prop := ∃ W : Nat → Nat → Hp → Prop, (∃ m, W 0 m (upd H1 D (.lst []))) ∧ ∀ i m H, W i m H →
  (J.stop i H ∧ Q (.ref D) H) ∨ (J.go i H ∧ ∃ Nx : Hp → Prop, (∀ H', Nx H' → ∃ m', m' < m ∧ W (i + 1) m' H') ∧ ∀ x H', J.yld i H x H' → g x (wipe σ vs) H' fun σ2 H2 => wipe σ2 vs = wipe σ vs ∧ tt σ2 H2 fun b H3 =>
    if b = true then te σ2 H3 fun y H4 => ∃ acc, H4 D = some (.lst acc) ∧ acc.length < sizeLine ∧ Nx (upd H4 D (.lst (acc ++ [y]))) else Nx H3)
section
variable {K : PySem.W.Frag} {σ : L2.St} {G H : Hp} {Q : VK} {D : Ends} {x : V} {ds : List PyData} {tl te : TE} {tb : TS} {tt : TT} {ta : TA} {wi : TI} {g : TG} {J : It} {M : List Addr} {vs : List Nat} {R : It → Hp → Prop}
theorem g_yes {QT : Bool → Hp → Prop} (q : QT true H) : tYes σ H QT := q
theorem g_for (q : wi σ H fun J H1 => ForW J g tb D σ H1) : tFor wi g tb D σ H := q
theorem g_lc (q : wi σ H fun J H1 => ∀ A, H1 A = none → LcW J g tt te vs σ A Q H1) : tLc wi g tt te vs σ H Q := q
theorem g_iTup (q : tl σ H fun x H1 => ∃ a, x = .ref a ∧ (∃ xs, SqT K H1 a xs) ∧ R (Itt K a) H1) : iTup K tl σ H R := q
theorem g_iList (q : tl σ H fun x H1 => ∃ a, x = .ref a ∧ (∃ xs, SqL K H1 a xs) ∧ R (Itl K a) H1) : iList K tl σ H R := q
theorem g_iStr (q : tl σ H fun v H1 => ∃ x, v = .str x ∧ R (Its x) H1) : iStr tl σ H R := q
theorem g_iRng1 (q : ta σ H fun vs H1 => ∃ j : Int, vs = [.int j] ∧ -(2 ^ 62) ≤ j ∧ j < 2 ^ 62 ∧ R (Itr 0 j.toNat) H1) : iRng1 ta σ H R := q
theorem g_iRng2 (q : ta σ H fun vs H1 => ∃ i j : Int, vs = [.int i, .int j] ∧ (-(2 ^ 62) ≤ i ∧ i < 2 ^ 62 ∧ -(2 ^ 62) ≤ j ∧ j < 2 ^ 62) ∧ R (Itr i (j - i).toNat) H1) : iRng2 ta σ H R := q
theorem g_iEnum (q : ta σ H fun vs H1 => ∃ a xs, vs = [.ref a] ∧ SqL K H1 a xs ∧ R (Ite K a) H1) : iEnum K ta σ H R := q
/-- the thing walked is known data -/
theorem g_walkT {P : Addr → Prop} (e : Ex G H) (h : Dp K G x (.tuple ds)) (q : ∀ a, x = .ref a → (∀ M, Src K M (Itt K a) G H ds) → P a) : ∃ a, x = .ref a ∧ (∃ xs, SqT K H a xs) ∧ P a := by
  obtain ⟨a, xs, rfl, hs, hd⟩ := dp_tup h
  exact ⟨a, rfl, ⟨xs, e.seqT hs⟩, q a rfl fun M => src_tup hs hd⟩
theorem g_walkL {P : Addr → Prop} (e : Ex G H) (h : Dp K G x (.list ds)) (q : ∀ a, x = .ref a → (∀ M, Src K M (Itl K a) G H ds) → P a) : ∃ a, x = .ref a ∧ (∃ xs, SqL K H a xs) ∧ P a := by
  obtain ⟨a, xs, rfl, hs, hd⟩ := dp_lst h
  exact ⟨a, rfl, ⟨xs, e.seqL hs⟩, q a rfl fun M => src_lst hs hd⟩
theorem g_walkM {P : Addr → Prop} {a : Addr} {xs : List V} (h : H a = some (.lst xs)) (hd : DpAll K G xs ds) (q : (∀ M, a ∉ M → Src K M (Itl K a) G H ds) → P a) : ∃ b, V.ref a = .ref b ∧ (∃ xs, SqL K H b xs) ∧ P b :=
  ⟨a, rfl, ⟨xs, .of h⟩, q fun M ha => src_own h ha hd⟩
theorem g_walkS {P : Str → Prop} {s : Str} (q : P s) : ∃ x, V.str s = .str x ∧ P x := ⟨s, rfl, q⟩
theorem g_walkR {P : Int → Prop} {j : Int} (h : j < 2 ^ 62) (h0 : -(2 ^ 62) ≤ j) (q : P j) : ∃ i : Int, [V.int j] = [.int i] ∧ -(2 ^ 62) ≤ i ∧ i < 2 ^ 62 ∧ P i := ⟨j, rfl, h0, h, q⟩
theorem g_walkR2 {P : Int → Int → Prop} {i j : Int} (h : -(2 ^ 62) ≤ i ∧ i < 2 ^ 62 ∧ -(2 ^ 62) ≤ j ∧ j < 2 ^ 62) (q : P i j) :
    ∃ k l : Int, [V.int i, V.int j] = [.int k, .int l] ∧ (-(2 ^ 62) ≤ k ∧ k < 2 ^ 62 ∧ -(2 ^ 62) ≤ l ∧ l < 2 ^ 62) ∧ P k l := ⟨i, j, rfl, h, q⟩
theorem g_walkE {P : Addr → Prop} (e : Ex G H) (h : Dp K G x (.list ds)) (q : ∀ a, x = .ref a → (∀ M, Src K M (Ite K a) G H (prs 0 ds)) → P a) : ∃ a xs, [x] = [.ref a] ∧ SqL K H a xs ∧ P a := by
  obtain ⟨a, xs, rfl, hs, hd⟩ := dp_lst h
  exact ⟨a, xs, rfl, e.seqL hs, q a rfl fun M => src_enumL hs hd⟩

/-- THE LOOP: Pv by the turn, the slots, what is known, the heap; M: the cells that it changes -/
theorem g_forS (S : Src K M J G H ds) (e : Ex G H) (Pv : Nat → L2.St → Hp → Hp → Prop) (h0 : Pv 0 σ G H)
    (hs : ∀ i d v σ' G' H' G1 H1, ds[i]? = some d → Nx M G H G' H' → Pv i σ' G' H' → Nx [] G' H' G1 H1 → Dp K G1 v d →
      g v σ' H1 fun σ2 H2 => tb { D with nx := fun σ3 H3 => ∃ G3, Nx M G H G3 H3 ∧ Pv (i + 1) σ3 G3 H3, ct := fun σ3 H3 => ∃ G3, Nx M G H G3 H3 ∧ Pv (i + 1) σ3 G3 H3, bk := D.nx } σ2 H2)
    (hd : ∀ σ' G' H', Nx M G H G' H' → Pv ds.length σ' G' H' → D.nx σ' H') : ForW J g tb D σ H := by
  refine ⟨fun i m σ' H' => m = ds.length - i ∧ i ≤ ds.length ∧ ∃ G', Nx M G H G' H' ∧ Pv i σ' G' H', ⟨ds.length, by simp, Nat.zero_le _, G, Nx.refl e, h0⟩, ?_⟩
  rintro i m σ' H' ⟨rfl, hi, G', n, p⟩
  by_cases hlt : i < ds.length
  · refine .inr ⟨S.go i G' H' n hlt, fun σ3 H3 => ∃ G3, Nx M G H G3 H3 ∧ Pv (i + 1) σ3 G3 H3, fun σ3 H3 ⟨G3, n3, p3⟩ => ⟨ds.length - (i + 1), by omega, rfl, hlt, G3, n3, p3⟩, fun v H1 y => ?_⟩
    have hg : ds[i]? = some ds[i] := by simp [hlt]
    obtain ⟨G1, n1, d1⟩ := S.yld i _ G' H' v H1 n hg y
    exact hs i _ v σ' G' H' G1 H1 hg n p n1 d1
  · have e' : i = ds.length := by omega
    subst e'
    exact .inl ⟨S.stop _ G' H' n (Nat.le_refl _), hd σ' G' H' n p⟩
theorem wipe1 {σ : L2.St} {j : Nat} {v : V} : wipe ((wipe σ [j]).set j (some v)) [j] = wipe σ [j] := by
  show ((σ.set j none).set j (some v)).set j none = σ.set j none
  rw [List.set_set, List.set_set]
/-- THE COMPREHENSION over one name, with tests: Jv tells the items so far and what else holds of the heap -/
theorem g_lcH {A : Addr} {j : Nat} (S : Src K M J G H ds) (e : Ex G H) (hA : H A = none) (hM : ∀ b ∈ M, H b ≠ none) (hz : ds.length < sizeLine) (Jv : Nat → List PyData → Hp → Hp → Prop)
    (jA : ∀ i acc G' H' o, Jv i acc G' H' → Jv i acc G' (upd H' A o)) (jN : ∀ i acc G' H' G1 H1, Nx [] G' H' G1 H1 → Jv i acc G' H' → Jv i acc G1 H1) (j0 : Jv 0 [] G H)
    (hs : ∀ i d v acc G' H', ds[i]? = some d → Dp K G' v d → Nx M G H G' H' → acc.length ≤ i → Jv i acc G' H' → ∀ (QE : VK) (QN : Hp → Prop),
      (∀ y G4 H4 d', Nx M G' H' G4 H4 → Dp K G4 y d' → Jv (i + 1) (acc ++ [d']) G4 H4 → QE y H4) → (∀ G3 H3, Nx M G' H' G3 H3 → Jv (i + 1) acc G3 H3 → QN H3) →
      tt ((wipe σ [j]).set j (some v)) H' fun b H3 => if b = true then te ((wipe σ [j]).set j (some v)) H3 QE else QN H3)
    (hd : ∀ G' H' ys acc, Jv ds.length acc G' H' → Nx M G H G' H' → G' A = none → H' A = some (.lst ys) → DpAll K G' ys acc → Q (.ref A) H') : LcW J (gName j) tt te [j] σ A Q H := by
  have st0 : Nx [] G H G (upd H A (.lst [])) := Nx.own e hA
  refine ⟨fun i m H' => m = ds.length - i ∧ i ≤ ds.length ∧ ∃ G' ys acc, Nx M G H G' H' ∧ G' A = none ∧ H' A = some (.lst ys) ∧ DpAll K G' ys acc ∧ acc.length ≤ i ∧ Jv i acc G' H',
    ⟨ds.length, by simp, Nat.zero_le _, G, [], [], st0.pure, e.free hA, upd_same, .nil, Nat.le_refl _, jA _ _ _ _ _ j0⟩, ?_⟩
  rintro i m H' ⟨rfl, hi, G', ys, acc, n, gA, hys, da, hl, jv⟩
  have hAM : A ∉ M := fun z => hM A z hA
  by_cases hlt : i < ds.length
  · refine .inr ⟨S.go i G' H' n hlt, fun H'' => ∃ G'' ys acc, Nx M G H G'' H'' ∧ G'' A = none ∧ H'' A = some (.lst ys) ∧ DpAll K G'' ys acc ∧ acc.length ≤ i + 1 ∧ Jv (i + 1) acc G'' H'',
      fun H'' ⟨G'', ys', acc', r⟩ => ⟨ds.length - (i + 1), by omega, rfl, hlt, G'', ys', acc', r⟩, fun v H1 y => ?_⟩
    have hg : ds[i]? = some ds[i] := by simp [hlt]
    obtain ⟨G1, n1, d1⟩ := S.yld i _ G' H' v H1 n hg y
    have n2 : Nx M G H G1 H1 := n.trans n1.pure
    have gA1 : G1 A = none := n1.old A gA (by rw [hys]; exact fun z => nomatch z)
    have hys1 : H1 A = some (.lst ys) := n1.fr A _ (by simp) hys
    refine ⟨wipe1, hs i _ v acc G1 H1 hg d1 n2 hl (jN _ _ _ _ _ _ n1 jv) _ _ (fun y G4 H4 d' n4 dy jv' => ?_) (fun G3 H3 n3 jv' => ?_)⟩
    · have gA4 : G4 A = none := n4.old A gA1 (by rw [hys1]; exact fun z => nomatch z)
      have hys4 : H4 A = some (.lst ys) := n4.fr A _ hAM hys1
      have n5 : Nx M G H G4 H4 := n2.trans n4
      have n6 : Nx [A] G4 H4 G4 (upd H4 A (.lst (ys ++ [y]))) := Nx.set n4.gh gA4 (by simp)
      have n7 : Nx (A :: M) G H G4 (upd H4 A (.lst (ys ++ [y]))) := (n5.mono fun _ z => List.mem_cons_of_mem _ z).trans (n6.mono fun b z => by simp at z; simp [z])
      refine ⟨ys, hys4, ?_, G4, ys ++ [y], acc ++ [d'], n7.drop hA, gA4, upd_same, dpAll_snoc (dpAll_mono (n1.gg.trans n4.gg) da) dy, by simp; omega, jA _ _ _ _ _ jv'⟩
      have := dpAll_len da
      omega
    · exact ⟨G3, ys, acc, n2.trans n3, n3.old A gA1 (by rw [hys1]; exact fun z => nomatch z), n3.fr A _ hAM hys1, dpAll_mono (n1.gg.trans n3.gg) da, by omega, jv'⟩
  · have e' : i = ds.length := by omega
    subst e'
    exact .inl ⟨S.stop _ G' H' n (Nat.le_refl _), hd G' H' ys acc jv n gA hys da⟩
theorem g_lcG {A : Addr} {j : Nat} (S : Src K M J G H ds) (e : Ex G H) (hA : H A = none) (hM : ∀ b ∈ M, H b ≠ none) (hz : ds.length < sizeLine) (P : Hp → Hp → Prop) (p0 : P G H) (pA : ∀ G' H' o, P G' H' → P G' (upd H' A o)) (pN : ∀ G' H' G1 H1, Nx [] G' H' G1 H1 → P G' H' → P G1 H1)
    (Jv : Nat → List PyData → Prop) (j0 : Jv 0 [])
    (hs : ∀ i d v acc G' H', ds[i]? = some d → Dp K G' v d → Nx M G H G' H' → P G' H' → acc.length ≤ i → Jv i acc → ∀ (QE : VK) (QN : Hp → Prop),
      (∀ y G4 H4 d', Nx M G' H' G4 H4 → P G4 H4 → Dp K G4 y d' → Jv (i + 1) (acc ++ [d']) → QE y H4) → (∀ G3 H3, Nx M G' H' G3 H3 → P G3 H3 → Jv (i + 1) acc → QN H3) →
      tt ((wipe σ [j]).set j (some v)) H' fun b H3 => if b = true then te ((wipe σ [j]).set j (some v)) H3 QE else QN H3)
    (hd : ∀ G' H' ys acc, Jv ds.length acc → Nx M G H G' H' → P G' H' → G' A = none → H' A = some (.lst ys) → DpAll K G' ys acc → Q (.ref A) H') : LcW J (gName j) tt te [j] σ A Q H :=
  g_lcH S e hA hM hz (fun i acc G' H' => P G' H' ∧ Jv i acc) (fun _ _ G' H' o h => ⟨pA G' H' o h.1, h.2⟩) (fun _ _ _ _ _ _ n h => ⟨pN _ _ _ _ n h.1, h.2⟩) ⟨p0, j0⟩
    (fun i d v acc G' H' a1 a2 a3 a4 a5 QE QN k1 k2 => hs i d v acc G' H' a1 a2 a3 a5.1 a4 a5.2 QE QN (fun y G4 H4 d' b1 b2 b3 b4 => k1 y G4 H4 d' b1 b3 ⟨b2, b4⟩) fun G3 H3 b1 b2 b3 => k2 G3 H3 b1 ⟨b2, b3⟩) fun G' H' ys acc a1 a2 a3 a4 a5 => hd G' H' ys acc a1.2 a2 a1.1 a3 a4 a5
theorem g_lcS {A : Addr} {j : Nat} (S : Src K M J G H ds) (e : Ex G H) (hA : H A = none) (hM : ∀ b ∈ M, H b ≠ none) (hz : ds.length < sizeLine) (Jv : Nat → List PyData → Prop) (j0 : Jv 0 [])
    (hs : ∀ i d v acc G' H', ds[i]? = some d → Dp K G' v d → Nx M G H G' H' → acc.length ≤ i → Jv i acc → ∀ (QE : VK) (QN : Hp → Prop),
      (∀ y G4 H4 d', Nx M G' H' G4 H4 → Dp K G4 y d' → Jv (i + 1) (acc ++ [d']) → QE y H4) → (∀ G3 H3, Nx M G' H' G3 H3 → Jv (i + 1) acc → QN H3) →
      tt ((wipe σ [j]).set j (some v)) H' fun b H3 => if b = true then te ((wipe σ [j]).set j (some v)) H3 QE else QN H3)
    (hd : ∀ G' H' ys acc, Jv ds.length acc → Nx M G H G' H' → G' A = none → H' A = some (.lst ys) → DpAll K G' ys acc → Q (.ref A) H') : LcW J (gName j) tt te [j] σ A Q H :=
  g_lcG S e hA hM hz (fun _ _ => True) trivial (fun _ _ _ _ => trivial) (fun _ _ _ _ _ _ => trivial) Jv j0 (fun i d v acc G' H' a1 a2 a3 _ a4 a5 QE QN k1 k2 => hs i d v acc G' H' a1 a2 a3 a4 a5 QE QN (fun y G4 H4 d' b1 b2 b3 => k1 y G4 H4 d' b1 trivial b2 b3) fun G3 H3 b1 b2 => k2 G3 H3 b1 trivial b2) fun G' H' ys acc a1 a2 _ a3 a4 a5 => hd G' H' ys acc a1 a2 a3 a4 a5
/-- .. that maps: es by place -/
theorem g_lcMap {A : Addr} {j : Nat} {es : List PyData} (S : Src K M J G H ds) (e : Ex G H) (hA : H A = none) (hM : ∀ b ∈ M, H b ≠ none) (hz : ds.length < sizeLine) (hl : es.length = ds.length)
    (hs : ∀ (i : Nat) d d' v G' H', ds[i]? = some d → es[i]? = some d' → Dp K G' v d → Nx M G H G' H' → ∀ (QE : VK), (∀ y G4 H4, Nx M G' H' G4 H4 → Dp K G4 y d' → QE y H4) → te ((wipe σ [j]).set j (some v)) H' QE)
    (hd : ∀ G' H' ys, Nx M G H G' H' → G' A = none → H' A = some (.lst ys) → DpAll K G' ys es → Q (.ref A) H') : LcW J (gName j) tYes te [j] σ A Q H := by
  refine g_lcS S e hA hM hz (fun i acc => acc = es.take i) (by simp) (fun i d v acc G' H' hi dv n _ hj QE QN k1 k2 => ?_) (fun G' H' ys acc hj n g h da => ?_)
  · show (if true = true then te ((wipe σ [j]).set j (some v)) H' QE else QN H')
    rw [if_pos rfl]
    have hlt : i < es.length := by rw [hl]; exact (List.getElem?_eq_some_iff.mp hi).1
    refine hs i d es[i] v G' H' hi (by simp [hlt]) dv n QE fun y G4 H4 n4 dy => k1 y G4 H4 es[i] n4 dy ?_
    rw [hj, List.take_add_one]
    simp [hlt]
  · refine hd G' H' ys n g h ?_
    rw [hj, ← hl, List.take_length] at da
    exact da
end
end Y

namespace Y
open PySem PySem.Spec PyProof.Rows L2
/-! ### data of a size that the machine takes -/
mutual
def fit : PyData → Bool
  | .none => true
  | .bool _ => true
  | .int _ => true
  | .str s => decide (s.length ≤ 100000) && PyData.strOk s
  | .list xs => decide (xs.length ≤ 100000) && fitAll xs
  | .tuple xs => decide (xs.length ≤ 100000) && fitAll xs
  | .dict _ => false
def fitAll : List PyData → Bool
  | [] => true
  | x :: xs => fit x && fitAll xs
end
theorem fit_get : ∀ {xs : List PyData} {i : Nat} {d : PyData}, fitAll xs = true → xs[i]? = some d → fit d = true
  | [], i, d, _, h => by simp at h
  | x :: xs, 0, d, f, h => by
    rw [fitAll, Bool.and_eq_true] at f
    cases h
    exact f.1
  | x :: xs, i + 1, d, f, h => by
    rw [fitAll, Bool.and_eq_true] at f
    exact fit_get (i := i) f.2 h
theorem fit_str {s : Str} (h : fit (.str s) = true) : s.length ≤ sizeLine := by
  rw [fit, Bool.and_eq_true] at h
  exact Nat.le_trans (of_decide_eq_true h.1) (by decide)
theorem fit_tup {xs : List PyData} (h : fit (.tuple xs) = true) : xs.length ≤ 100000 ∧ fitAll xs = true := by
  rw [fit, Bool.and_eq_true] at h
  exact ⟨of_decide_eq_true h.1, h.2⟩
theorem fit_lst {xs : List PyData} (h : fit (.list xs) = true) : xs.length ≤ 100000 ∧ fitAll xs = true := by
  rw [fit, Bool.and_eq_true] at h
  exact ⟨of_decide_eq_true h.1, h.2⟩
theorem fitAll_iff : ∀ {xs : List PyData}, fitAll xs = true ↔ ∀ d ∈ xs, fit d = true
  | [] => by simp [fitAll]
  | x :: xs => by
    rw [fitAll, Bool.and_eq_true, fitAll_iff (xs := xs)]
    simp
theorem szl {n : Nat} (h : n ≤ 100000) : n < sizeLine := Nat.lt_of_le_of_lt h (by decide)
theorem szle {n : Nat} (h : n ≤ 100000) : n ≤ sizeLine := Nat.le_of_lt (szl h)
theorem canLay_fit : ∀ d : PyData, fit d = true → d.canLay0 = true
  | .none, _ => rfl
  | .bool _, _ => rfl
  | .int _, _ => rfl
  | .str s, h => by
    rw [PyData.canLay0]
    rw [fit, Bool.and_eq_true] at h
    exact h.2
  | .list xs, h => by
    rw [PyData.canLay0]
    exact canLayAll_fit xs (fit_lst h).2
  | .tuple xs, h => by
    rw [PyData.canLay0]
    exact canLayAll_fit xs (fit_tup h).2
  | .dict _, h => by rw [fit] at h; cases h
where canLayAll_fit : ∀ xs : List PyData, fitAll xs = true → PyData.canLayAll0 xs = true
  | [], _ => rfl
  | x :: xs, h => by
    rw [fitAll, Bool.and_eq_true] at h
    rw [PyData.canLayAll0, canLay_fit x h.1, canLayAll_fit xs h.2]
    rfl
/-- shaped: data of a depth that is written -/
theorem shaped_fit {d : PyData} (h : fit d = true) (hd : d.depth ≤ 64) : SeqAt.shaped d = true := by
  unfold SeqAt.shaped
  rw [canLay_fit d h, decide_eq_true hd]
  rfl
end Y

namespace PySem
namespace YEn
open PySem PyProof.Rows
theorem new1 {v : Value} {o : Obj} {H : Heap → Prop} (B : Begins v o H) :
    Meets (Builtin.«enumerate.__new__» ⟨[.type "enumerate", v], []⟩) (fun _ R s => H s.heap ∧
      R (.ok (.ret (.ref (s.heap.push o).objs.size))) { s with heap := (s.heap.push o).push { cls := .type "enumerate", data := .fields #[.none, .bool false, .ref s.heap.objs.size, rawInt 0, .none, .none] } }) :=
  .of_wp fun prog w A R s h => by
    obtain ⟨hp, g, d, tk, os⟩ := s; obtain ⟨h1, h⟩ := h
    have hsub := sub_enumerate
    have q1 : ∀ {A' : Around} {E : Value → Shared → Prop} {Q : Value → Shared → Prop}, Q (.ref hp.objs.size) ⟨hp.push o, g, d, tk, os⟩ → wpAny (model prog w) A' (pyIter v) Q E ⟨hp, g, d, tk, os⟩ :=
      fun q => B.iter prog w _ _ ⟨hp, g, d, tk, os⟩ _ h1 q
    wp_walk using q1
    refine wpAny_stack_any fun st => wpAny_pure ?_
    split
    · rename_i c _ _ _ _ _
      cases (c == Value.type "enumerate")
      · wp_walk using q1
        exact ⟨_, rfl, h⟩
      · wp_walk using q1
        exact ⟨_, rfl, h⟩
    · wp_walk using q1
      exact ⟨_, rfl, h⟩
section
variable {prog : Program} {w : World} {A : Around} {E : Value → Shared → Prop} {s : Shared}
theorem begins1 {v : Value} {o : Obj} {H : Heap → Prop} {Q : Value → Shared → Prop} (B : Begins v o H) (h1 : H s.heap)
    (h : ∀ h', IsEnum h' (s.heap.objs.size + 1) s.heap.objs.size 0 .none → h'.get? s.heap.objs.size = some o → h'.objs.size = s.heap.objs.size + 2 →
      (∀ b o, s.heap.get? b = some o → h'.get? b = some o) → Q (.ref (s.heap.objs.size + 1)) { s with heap := h' }) :
    wpAny (model prog w) A (call (.type "enumerate") [v]) Q E s := by
  refine callType_new F.called_enumerate (by decide) (F.typeCall_enumerate_1 _) (F.newCall_enumerate_1 _) (fun obj => F.args_object_init_2 obj _) F.entry_enumerate_new
    (new1 B) ⟨h1, ?_⟩
  have hz : (s.heap.push o).objs.size = s.heap.objs.size + 1 := Heap.size_push ..
  show _ ∧ _
  rw [hz]
  have he : IsEnum ((s.heap.push o).push { cls := .type "enumerate", data := .fields #[.none, .bool false, .ref s.heap.objs.size, rawInt 0, .none, .none] }) (s.heap.objs.size + 1) s.heap.objs.size 0 .none := by
    have := Heap.get?_push_size (s.heap.push o) (o := { cls := .type "enumerate", data := .fields #[.none, .bool false, .ref s.heap.objs.size, rawInt 0, .none, .none] }) rfl
    rw [hz] at this; exact this
  refine ⟨⟨_, he, rfl⟩, h _ he (Heap.get?_push_of_some _ (Heap.get?_push_size _ B.free)) (by rw [Heap.size_push, hz]) fun b o x => Heap.get?_push_of_some _ (Heap.get?_push_of_some _ x)⟩
end
end YEn
end PySem
namespace Y
open PySem PySem.Spec PyProof.Rows L2
/-- the tuple at a, each item in a new pair -/
def Itu (K : PySem.W.Frag) (a : Addr) : It :=
  ⟨fun i H => ∃ (xs : List V) (x : V), SqT K H a xs ∧ xs[i]? = some x, fun i H v H' => ∃ T x, v = .ref T ∧ H T = none ∧ H' = upd H T (.tup [.int (i : Nat), x]) ∧ ∀ xs, SqT K H a xs → xs[i]? = some x, fun i H => ∃ xs : List V, SqT K H a xs ∧ xs.length ≤ i⟩
theorem turn_enumT {P : Program} {w : World} {K : PySem.W.Frag} {elts : List Expr} {kk : Nat} {tpos : Pos} (a e it : Addr) (items : Array Value) (hae : a ≠ it) :
    Turn P w K (.Tuple elts kk tpos) (Itu K a) [e, it] e (fun i h => (∃ old, IsEnum h e it ((i : Nat) : Int) old) ∧ h.IsTupleIter it a i ∧ e ≠ it) where
  mem := by simp
  obj := fun i h st b hb => by
    obtain ⟨⟨old, he⟩, ⟨o, ho, hc, hd⟩, _⟩ := st
    have e' : b = e ∨ b = it := by simpa using hb
    rcases e' with z | z
    · rw [z]; exact ⟨_, he, fun v q => nomatch q⟩
    · rw [z]; exact ⟨o, ho, fun v q => by rw [hd] at q; cases q⟩
  keep := fun i h h' st k => let ⟨⟨old, he⟩, hi, hne⟩ := st; ⟨⟨old, k e (by simp) _ he⟩, hi.at fun o q => k it (by simp) o q, hne⟩
  item := by
    intro X hP hw hK hc i pins s σ H E I hf st hg
    subst hP hw hK
    obtain ⟨⟨old, he⟩, hit, hne⟩ := st
    obtain ⟨xs, x, hq, hx⟩ := hg
    obtain ⟨its, rv, p, hz⟩ := I.tuple hq
    obtain ⟨u, hu, ru⟩ := rv.get hx
    have hel : e < s.heap.objs.size := Heap.lt_size he
    have D := Draws.tuple (prog := X.prog) (w := X.w) (A := X.A.in1) (I.ok.hd hc) it a hae its.toArray
    have hea : e ≠ a := fun z => by
      obtain ⟨o, ho, ho2, _⟩ := p
      rw [← z, he] at ho; cases ho; injection ho2 with h3; exact absurd h3 (by decide)
    have hlt : i < its.toArray.size := by
      have := (List.getElem?_eq_some_iff.mp hu).1
      simpa using this
    refine wpAny_pyNext_enum_itemD D he ⟨hit, p⟩ hlt hne (by simp [hne, hea]) fun y h' tk hy ho hst' hT hsz hk => ?_
    have ey : y = u := by
      have : its.toArray[i]? = some u := by simpa using hu
      rw [this] at hy
      exact (Option.some.inj hy).symm
    subst ey
    refine ⟨_, rfl, wpAny_letOwnedTupleGo_enum (s := { s with heap := h', toks := tk + 1 }) ho fun h'' he' sb => ?_⟩
    have hT2 : h''.get? s.heap.objs.size = some { cls := .type "tuple", data := .seq #[.int i tk, y] } := (sb.2 _ (Nat.ne_of_gt hel)).trans hT
    have new : ObjOk X.prog X.w (upd H s.heap.objs.size (.tup [.int (i : Nat), x])) h'' s.heap.objs.size (.tup [.int (i : Nat), x]) :=
      ⟨by show 2 ≤ sizeLine; decide, [.int i tk, y], .cons ⟨_, rfl⟩ (.cons ru .nil), ⟨_, hT2, rfl, _, rfl⟩⟩
    have I1 : Inv X pins σ (upd H s.heap.objs.size (.tup [.int (i : Nat), x])) { s with heap := h'', toks := tk + 1 } :=
      I.turnedNew (ch := [e, it]) (fun b ob hb q => (sb.2 b (fun z => hb (by simp [z]))).trans (hk b ob (fun z => hb (by simp [z])) (fun z => hb (by simp [z])) q)) hf (Nat.le_refl _) new
    refine ⟨.ref s.heap.objs.size, _, I1, rfl, ⟨_, x, rfl, I.hok.fresh (Nat.le_refl _), rfl, fun ys hy => by rw [I.tuple_inj hy hq]; exact hx⟩, ⟨⟨y, ?_⟩, hst'.1.at fun o q => (sb.2 it (Ne.symm hne)).trans q, hne⟩, fun b hb => ?_⟩
    · have e1 : ((i + 1 : Nat) : Int) = (i : Int) + 1 := by omega
      rw [e1]; exact he'
    · have hil : it < s.heap.objs.size := by obtain ⟨_, q, _⟩ := hit; exact Heap.lt_size q
      have e' : b = e ∨ b = it := by simpa using hb
      have hb' : b < s.heap.objs.size := by
        rcases e' with z | z
        · rw [z]; exact hel
        · rw [z]; exact hil
      rw [upd_ne (Nat.ne_of_lt hb')]
      exact (hf b hb).1
  done := by
    intro X hP hw hK hc i pins s σ H E I hf st hg
    subst hP hw hK
    obtain ⟨⟨old, he⟩, hit, hne⟩ := st
    obtain ⟨xs, hq, hx⟩ := hg
    obtain ⟨its, rv, p, hz⟩ := I.tuple hq
    obtain ⟨f0, f1, f2, f3, f4, f5⟩ := hf it (by simp)
    have hl := rv.length
    have hT : s.TypeIs (.ref e) "enumerate" := ⟨_, he, rfl⟩
    unfold pyNext
    refine wpAny_bind (wpAny_attempt (wpAny_callSpecial?_slot (name := Str.ofString "__next__") hT F.slot_enumerate_next
      (wpAny_call_entry F.slot_enumerate_next hT F.entry_enumerate_next ?_ (F.args_enumerate_next_1 _))))
    show wpAny _ _ (field (.ref e) 2 >>= _) _ _ _
    refine wpAny_bind (wpAny_field he rfl (x := .ref it) rfl ?_)
    refine wpAny_bind (wpAny_nextOf_tuple_end (I.ok.hd hc) hit p (by simp; omega) fun h' x eb hx' => ?_)
    obtain ⟨o, ho, hcl⟩ := hx'
    refine wpAny_bind (wpAny_isInstance (T := "StopIteration") (b := true) ⟨o, ho, hcl⟩ isSubtype_stop ?_)
    exact wpAny_pure ⟨rfl, I.turned (t' := s.toks) (fun b o hb q => eb b o hb q) f0 f1 f3 f4 f5⟩
  self := fun A i s Q E st h => let ⟨⟨_, he⟩, _⟩ := st; wpAny_pyIter_enum he h
def iEnT (K : PySem.W.Frag) (ta : TA) : TI := fun σ H R => ta σ H fun vs H1 => ∃ a xs, vs = [.ref a] ∧ SqT K H1 a xs ∧ R (Itu K a) H1
theorem pi_enumT {X : Cx} {e : Expr} {ta : TA} {p pos tpos : Pos} {elts : List Expr} {kk : Nat} (hg : Gl X "enumerate") (hm : X.mg "enumerate" = none) (ha : PA X [e] ta) (hs : starEach [e] X.env = [(false, eval e X.env)] := by rfl) :
    PI X (.Tuple elts kk tpos) (.Call (.Name "enumerate" p) [e] [] pos) (iEnT X.K ta) := by
  refine ⟨fun pins s σ H R I h => ?_⟩
  refine Call_ (ld_blt I hg hm boot_enumerate (PyProof.Rows.callWith_type1 (thn (ha.run pos pins s σ H _ I h) fun us s1 ⟨vs, H1, I1, r1, q1⟩ => ?_) hs rfl))
  obtain ⟨a, xs, ex, hq, q⟩ := q1
  subst ex
  cases r1 with
  | cons r rr =>
    cases rr
    cases r
    obtain ⟨its, rv, p', hz⟩ := I1.tuple hq
    have hal : a < s1.heap.objs.size := by obtain ⟨o, ho, _⟩ := p'; exact Heap.lt_size ho
    refine PySem.YEn.begins1 (begins_tuple a its.toArray) p' fun h' he hit hsz hk => wpAny_pyIter_enum he ?_
    have I2 : Inv X pins σ H1 { s1 with heap := h' } := I1.kept (t' := s1.toks) hk
    have hit2 : h'.IsTupleIter s1.heap.objs.size a 0 := ⟨_, hit, rfl, rfl⟩
    refine ⟨s1.heap.objs.size + 1, [s1.heap.objs.size + 1, s1.heap.objs.size], _, _, H1, rfl, I2, turn_enumT a (s1.heap.objs.size + 1) s1.heap.objs.size its.toArray (Nat.ne_of_lt hal), ⟨⟨.none, he⟩, hit2, Nat.succ_ne_self _⟩, fun b hb => ?_, q⟩
    have e' : b = s1.heap.objs.size + 1 ∨ b = s1.heap.objs.size := by simpa using hb
    have hle : s1.heap.objs.size ≤ b := by
      rcases e' with z | z
      · rw [z]; exact Nat.le_add_right _ _
      · rw [z]; exact Nat.le_refl _
    exact I1.fpOk hle (I1.hok.fresh hle)
section
variable {K : PySem.W.Frag} {σ : L2.St} {G H : Hp} {Q : VK} {x : V} {ds : List PyData} {ta : TA} {R : It → Hp → Prop}
theorem src_enumT {M : List Addr} {a : Addr} {xs : List V} (hs : SqT K G a xs) (hd : DpAll K G xs ds) : Src K M (Itu K a) G H (prs 0 ds) where
  go := fun i G' H' n hi => ⟨xs, xs[i]'(by rw [dpAll_len hd, ← prs_len 0 ds]; exact hi), n.gh.seqT (n.gg.seqT hs), by rw [prs_len] at hi; simp [dpAll_len hd, hi]⟩
  stop := fun i G' H' n hi => ⟨xs, n.gh.seqT (n.gg.seqT hs), by rw [dpAll_len hd, ← prs_len 0 ds]; exact hi⟩
  yld := fun i d G' H' x H'' n hi y => by
    obtain ⟨T, u, rfl, hT, rfl, f⟩ := y
    have hx := f xs (n.gh.seqT (n.gg.seqT hs))
    rw [prs_get] at hi
    cases q : ds[i]? with
    | none => rw [q] at hi; cases hi
    | some d0 =>
      rw [q] at hi
      cases hi
      obtain ⟨v, hv, dv⟩ := dpAll_get hd q
      rw [hx] at hv
      cases hv
      have h2 := nx_tup (K := K) n.gh (xs := [.int ((i : Nat) : Int), u]) (ds := [.int ((0 + i : Nat) : Int), d0]) (by rw [Nat.zero_add]; exact .cons (.int _) (.cons (dp_mono n.gg dv) .nil)) hT
      exact ⟨_, h2.1, h2.2⟩
theorem g_iEnT (q : ta σ H fun vs H1 => ∃ a xs, vs = [.ref a] ∧ SqT K H1 a xs ∧ R (Itu K a) H1) : iEnT K ta σ H R := q
theorem g_walkEt {P : Addr → Prop} (e : Ex G H) (h : Dp K G x (.tuple ds)) (q : ∀ a, x = .ref a → (∀ M, Src K M (Itu K a) G H (prs 0 ds)) → P a) : ∃ a xs, [x] = [.ref a] ∧ SqT K H a xs ∧ P a := by
  obtain ⟨a, xs, rfl, hs, hd⟩ := dp_tup h
  exact ⟨a, xs, rfl, e.seqT hs, q a rfl fun M => src_enumT hs hd⟩
end
end Y

namespace Y
open PySem PySem.Spec PyProof.Rows L2
section
variable {K : PySem.W.Frag} {σ : L2.St} {G H : Hp} {R : L2.St → Hp → Prop} {v : V} {d1 d2 d3 d4 d5 : PyData} {i j k l m : Nat}
theorem g_un2 (e : Ex G H) (h : Dp K G v (.tuple [d1, d2])) (q : ∀ v1 v2, Dp K G v1 d1 → Dp K G v2 d2 → R ((σ.set i (some v1)).set j (some v2)) H) : gTup K 2 (gCons (gName i) (gCons (gName j) gNil)) v σ H R := by
  obtain ⟨a, xs, rfl, hs, hd⟩ := dp_tup h
  cases hd with
  | cons h1 t => cases t with
    | cons h2 t => cases t; exact ⟨a, _, rfl, e.seqT hs, rfl, _, _, rfl, _, _, rfl, rfl, q _ _ h1 h2⟩
theorem g_un3 (e : Ex G H) (h : Dp K G v (.tuple [d1, d2, d3])) (q : ∀ v1 v2 v3, Dp K G v1 d1 → Dp K G v2 d2 → Dp K G v3 d3 → R (((σ.set i (some v1)).set j (some v2)).set k (some v3)) H) : gTup K 3 (gCons (gName i) (gCons (gName j) (gCons (gName k) gNil))) v σ H R := by
  obtain ⟨a, xs, rfl, hs, hd⟩ := dp_tup h
  cases hd with
  | cons h1 t => cases t with
    | cons h2 t => cases t with
      | cons h3 t => cases t; exact ⟨a, _, rfl, e.seqT hs, rfl, _, _, rfl, _, _, rfl, _, _, rfl, rfl, q _ _ _ h1 h2 h3⟩
theorem g_un5 (e : Ex G H) (h : Dp K G v (.tuple [d1, d2, d3, d4, d5])) (q : ∀ v1 v2 v3 v4 v5, Dp K G v1 d1 → Dp K G v2 d2 → Dp K G v3 d3 → Dp K G v4 d4 → Dp K G v5 d5 → R (((((σ.set i (some v1)).set j (some v2)).set k (some v3)).set l (some v4)).set m (some v5)) H) :
    gTup K 5 (gCons (gName i) (gCons (gName j) (gCons (gName k) (gCons (gName l) (gCons (gName m) gNil))))) v σ H R := by
  obtain ⟨a, xs, rfl, hs, hd⟩ := dp_tup h
  cases hd with
  | cons h1 t => cases t with
    | cons h2 t => cases t with
      | cons h3 t => cases t with
        | cons h4 t => cases t with
          | cons h5 t => cases t; exact ⟨a, _, rfl, e.seqT hs, rfl, _, _, rfl, _, _, rfl, _, _, rfl, _, _, rfl, _, _, rfl, rfl, q _ _ _ _ _ h1 h2 h3 h4 h5⟩
theorem dp_non_iff {d : PyData} (h : Dp K G v d) : v = .non ↔ d = .none := by
  constructor
  · intro e; subst e; cases h; rfl
  · intro e; subst e; exact dp_non h
end
def isNn : PyData → Bool
  | .none => true
  | _ => false
theorem isNn_iff {d : PyData} : isNn d = true ↔ d = .none := by cases d <;> simp [isNn]
theorem isNn_f {d : PyData} (h : ¬ d = .none) : isNn d = false := by
  cases e : isNn d with
  | true => exact absurd (isNn_iff.mp e) h
  | false => rfl
/-- lengths of data -/
def dlen : PyData → Nat
  | .tuple xs => xs.length
  | .list xs => xs.length
  | .str s => s.length
  | _ => 0
end Y

namespace Y
open PySem PySem.Spec PyProof.Rows L2
/-! ### the rules with the written part by name -/
section
variable {X : Cx} {K : PySem.W.Frag}
theorem ix_listK (h : X.K = K) : IxR X (rIxL K) := h ▸ ix_list
theorem ix_tupK (h : X.K = K) : IxR X (rIxT K) := h ▸ ix_tup
theorem call_lenK (h : X.K = K) : CallR X (.builtin "len") (rLen K) := h ▸ call_len
theorem call_isiK (h : X.K = K) : CallR X (.builtin "isinstance") (rIsi K) := h ▸ call_isi
theorem call_listK (h : X.K = K) : CallR X (.type "list") (rListOf K) := h ▸ call_list
theorem call_tupleK (h : X.K = K) : CallR X (.type "tuple") (rTupOf K) := h ▸ call_tuple
theorem cr_allK (h : X.K = K) (hc : X.calm = true) : CallR X (.builtin "all") (rAll K) := h ▸ cr_all hc
theorem cr_anyK (h : X.K = K) (hc : X.calm = true) : CallR X (.builtin "any") (rAny K) := h ▸ cr_any hc
theorem cr_sumK (h : X.K = K) (hc : X.calm = true) : CallR X (.builtin "sum") (rSum K) := h ▸ cr_sum hc
theorem cr_maxK (h : X.K = K) (hc : X.calm = true) : CallR X (.builtin "max") (rMax K) := h ▸ cr_max hc
theorem cr_minK (h : X.K = K) (hc : X.calm = true) : CallR X (.builtin "min") (rMin K) := h ▸ cr_min hc
theorem op_eqDK (h : X.K = K) (hu : X.A.units + 64 < cLine) : OpR X (compareOp .Eq) (rEqD K) := h ▸ op_eqD hu
theorem op_neDK (h : X.K = K) (hu : X.A.units + 64 < cLine) : OpR X (compareOp .NotEq) (rNeD K) := h ▸ op_neD hu
theorem op_catAK (h : X.K = K) : OpR X (binaryOp .Add) (rCatA K) := h ▸ op_catA
theorem op_repTK (h : X.K = K) : OpR X (binaryOp .Mult) (rRepT K) := h ▸ op_repT
theorem op_inK (h : X.K = K) : OpR X (compareOp .In) (rIn K false) := h ▸ op_in_seq
theorem op_notInK (h : X.K = K) : OpR X (compareOp .NotIn) (rIn K true) := h ▸ op_notIn_seq
theorem sl_listK (h : X.K = K) : SlR X (rSlL K) := h ▸ sl_list
theorem sl_tupAK (h : X.K = K) : SlR X (rSlA K) := h ▸ sl_tupA
variable {l o e e2 value tg : Expr} {es elts : List Expr} {f name : Str} {pos pos' apos cpos p tpos : Pos} {tl ta tv te to : TE} {kk n k : Nat} {t : TA} {ts : TGs} {T id : String} {r : V → List V → Hp → VK → Prop}
theorem pi_listK (h : X.K = K) (hl : PE X l tl) : PI X tg l (iList K tl) := h ▸ pi_list hl
theorem pi_tupK (h : X.K = K) (hl : PE X l tl) : PI X tg l (iTup K tl) := h ▸ pi_tup hl
theorem pi_enumK (h : X.K = K) (hg : Gl X "enumerate") (hm : X.mg "enumerate" = none) (ha : PA X [e] t) (hs : starEach [e] X.env = [(false, eval e X.env)] := by rfl) :
    PI X (.Tuple elts kk tpos) (.Call (.Name "enumerate" p) [e] [] pos) (iEnum K t) := h ▸ pi_enum hg hm ha hs
theorem pi_enumTK (h : X.K = K) (hg : Gl X "enumerate") (hm : X.mg "enumerate" = none) (ha : PA X [e] t) (hs : starEach [e] X.env = [(false, eval e X.env)] := by rfl) :
    PI X (.Tuple elts kk tpos) (.Call (.Name "enumerate" p) [e] [] pos) (iEnT K t) := h ▸ pi_enumT hg hm ha hs
theorem pi_zipK (h : X.K = K) (hg : Gl X "zip") (hm : X.mg "zip" = none) (ha : PA X [e, e2] t)
    (hs : starEach [e, e2] X.env = (false, eval e X.env) :: starEach [e2] X.env := by rfl) (hpl : (backTo pos (starEach [e2] X.env)).any (·.1) = false := by rfl) :
    PI X (.Tuple elts kk tpos) (.Call (.Name "zip" p) [e, e2] [] pos) (iZip K t) := h ▸ pi_zip hg hm ha hs hpl
theorem pi_reversedK (h : X.K = K) (hg : Gl X "reversed") (hm : X.mg "reversed" = none) (ha : PA X [e] t) (hs : starEach [e] X.env = [(false, eval e X.env)] := by rfl) : PI X tg (.Call (.Name "reversed" p) [e] [] pos) (iRev K t) := h ▸ pi_reversed hg hm ha hs
theorem pg_tupK (h : X.K = K) (hc : X.calm = true) (hp : PGs X es ts) (hn : (assignEach es X.env).length = n := by rfl) (hst : (assignEach es X.env).findIdx? (·.1) = none := by rfl) : PG X (.Tuple es k pos) (gTup K n ts) := h ▸ pg_tup hc hp hn hst
theorem pg_lstK (h : X.K = K) (hc : X.calm = true) (hp : PGs X es ts) (hn : (assignEach es X.env).length = n := by rfl) (hst : (assignEach es X.env).findIdx? (·.1) = none := by rfl) : PG X (.Tuple es k pos) (gLst K n ts) := h ▸ pg_lst hc hp hn hst
theorem pe_fldK (h : X.K = K) (he : PE X e ta) (hb : attributeBase e f X.env (eval e X.env) = eval e X.env) : PE X (.Attribute e f pos) (tFld K ta f) := h ▸ pe_fld he hb
theorem ps_fldK (h : X.K = K) (ha : PE X o ta) (hv : PE X value tv) (hs : swapsWith value (some (.Attribute o f pos')) pos.line X.env = pure false) : PS X (.Assign [.Attribute o f pos'] value pos) (sFld K ta tv f) := h ▸ ps_fld ha hv hs
theorem pe_bmK (h : X.K = K) (pa : PlainAttrs T) (slot : Slot T name id) (hty : typeOf (.builtin id) = pure (.type "method_descriptor")) (hm : MtR X id r) (ho : PE X o to) (ha : PA X (e :: es) t)
    (hbase : attributeBase o name X.env (eval o X.env) = eval o X.env := by rfl)
    (hfew : ((backTo cpos (starEach (e :: es) X.env)).all (fun x => !x.1) && (backToKw cpos (keywordEach [] X.env)).all (fun x => x.1.isSome)
      && decide ((e :: es).length + ([] : List Keyword).length + (if ([] : List Keyword).isEmpty then 0 else 1) < 30)) = true := by rfl)
    (hline : (apos.endLine == cpos.line) = true := by rfl) (hs : starEach (e :: es) X.env = (false, eval e X.env) :: starEach es X.env := by rfl) (hplain : (backTo cpos (starEach es X.env)).any (·.1) = false := by rfl) :
    PE X (.Call (.Attribute o name apos) (e :: es) [] cpos) (tBM K T r to t) := h ▸ pe_bm pa slot hty hm ho ha hbase hfew hline hs hplain
theorem pe_bm0K (h : X.K = K) (pa : PlainAttrs T) (slot : Slot T name id) (hty : typeOf (.builtin id) = pure (.type "method_descriptor")) (hm : MtR X id r) (ho : PE X o to)
    (hbase : attributeBase o name X.env (eval o X.env) = eval o X.env := by rfl) (hline : (apos.endLine == cpos.line) = true := by rfl) :
    PE X (.Call (.Attribute o name apos) [] [] cpos) (tBM0 K T r to) := h ▸ pe_bm0 pa slot hty hm ho hbase hline
def rJoin (K : PySem.W.Frag) : V → List V → Hp → VK → Prop := fun x xs H Q => ∃ a p, ∃ ys : List Str, x = .str a ∧ xs = [.ref p] ∧ (SqL K H p (ys.map V.str) ∨ SqT K H p (ys.map V.str)) ∧
      (ys.map (·.length)).sum + ys.length * a.length ≤ 16777216 ∧ Q (.str (Txt.join a ys)) H
theorem pe_joinK (h : X.K = K) (ho : PE X o to) (he : PE X e te) (hs : starEach [e] X.env = [(false, eval e X.env)] := by rfl) (hbase : attributeBase o "join" X.env (eval o X.env) = eval o X.env := by rfl) (hline : (apos.endLine == pos.line) = true := by rfl) :
    PE X (.Call (.Attribute o "join" apos) [e] [] pos) (tM1 (rJoin K) to te) := h ▸ pe_join ho he hs hbase hline
end
theorem dec_ni (a b : Nat) : decide ((a : Int) = (b : Int)) = decide (a = b) := by rw [decide_eq_decide]; omega
end Y

namespace Y
open PySem PySem.Spec PyProof.Rows L2
/-! ### an exception in the air of a body or of a comprehension's block: the frame L that notes it is told -/
def XEL (X : Cx) (E : XK) (L : Addr) (u : Value) (s' : Shared) : Prop :=
  ∃ (a : Addr) (B : Heap) (sI : Shared) (pins : List (Addr × Obj)) (σ : L2.St) (H : Hp) (cls : Value) (d : Option Addr),
    u = .ref a ∧ Inv X pins σ H sI ∧ (∀ b o, sI.heap.get? b = some o → b ∉ frs X.stack → B.get? b = some o) ∧ sI.heap.UpToSlots s'.heap ∧
      Sky B X.stack a (Zc cls d) L s'.heap ∧ H a = none ∧ s'.os = sI.os ∧ AllBare s'.gens ∧ E cls d H
def TakesL (X : Cx) (E : XK) (L : Addr) : Prop := ∀ u s', XEL X E L u s' → X.xe u s'
theorem takesL_of {X : Cx} {E : XK} (t : Takes X fun cls d _ H => E cls d H) : TakesL X E X.env.locals := fun u s' ⟨a, B, sI, pins, σ, H, cls, d, e, I, r⟩ => t u s' ⟨a, B, sI, pins, σ, H, cls, d, e, I, r⟩
theorem takes_ofL {X : Cx} {E : XK} (t : TakesL X E X.env.locals) : Takes X fun cls d _ H => E cls d H := fun u s' ⟨a, B, sI, pins, σ, H, cls, d, e, I, r⟩ => t u s' ⟨a, B, sI, pins, σ, H, cls, d, e, I, r⟩
/-- a call's exception is in flight: it is in our air, whatever frame is told -/
theorem passL {X : Cx} {E : XK} {L : Addr} (t : TakesL X E L) : Passes (L2.CX X.prog X.w) X E := fun pins σ H s u s' I c => by
  obtain ⟨a, B, sI, pins', σ', H', cls, d, rfl, J, nb, up, sky, na, os, ag, w⟩ := XE.of_call (W := fun cls d _ H => E cls d H) I (fun _ _ _ h => h) c
  obtain ⟨a2, B2, H2, cls2, d2, e2, fl, _⟩ := c
  have ea : a2 = a := by injection e2 with z; exact z.symm
  subst ea
  refine t _ _ ⟨a2, B, sI, pins', σ', H', cls, d, rfl, J, nb, up, ?_, na, os, ag, w⟩
  obtain ⟨_, _, _, oe, vs, T, oT, ts, he, _, hd, h1, _, _, hT, hdT, h3⟩ := fl
  rcases sky with ⟨_, _, _, oe', vs', he', _, hd', h1'⟩ | z | ⟨_, _, _, oe', vs', T', oT', ts', he', _, hd', h1', _, _, hT', hdT', h3'⟩
  · rw [he] at he'; cases he'; rw [hd] at hd'; cases hd'; rw [h1] at h1'; cases h1'
  · exact .inr (.inl z)
  · rw [he] at he'; cases he'; rw [hd] at hd'; cases hd'; rw [h1] at h1'; cases h1'; rw [hT] at hT'; cases hT'; rw [hdT] at hdT'; cases hdT'; rw [h3] at h3'; cases h3'

section
variable {X : Cx} {pins : List (Addr × Obj)} {σ : L2.St} {H : Hp} {s : Shared}
/-- an untracked object of ours is not looked at any more -/
theorem inv_hide {C : Addr} (I : Inv X pins σ H s) (hC : H C = none) (h1 : C ∈ X.ex ∨ X.s_0.heap.objs.size ≤ C) (h2 : C ≠ X.env.locals) (h3 : ∀ x c, X.env.cells.lookup x = some c → c ≠ C) (h4 : ∀ p ∈ X.pn ++ pins, p.1 ≠ C) {G : Heap}
    (g : ∀ b, b ≠ C → G.get? b = s.heap.get? b) : Inv X pins σ H { s with heap := G } := by
  refine I.step (g' := s.gens) (d' := s.drawn) (t' := s.toks) (ch := [C]) (fun b hb => ?_) (fun b o _ _ hc q _ => ?_) (fun b o _ _ hc q _ => ⟨o.slots, ?_⟩) (fun _ _ _ _ n => n) (fun b o hc q => ⟨o, ?_⟩) (fun _ _ q => q) (fun _ _ _ q => q) (fun b ps q => ⟨#[], by rw [q]; simp⟩) (fun m hm => ?_) (fun b u q => ?_) I.bare
  · have z : b = C := by simpa using hb
    subst z
    exact ⟨h1, h2, h3, h4⟩
  · rw [g b (by simpa using hc)]; exact q
  · rw [g b (by simpa using hc)]; exact q
  · rw [g b (by simpa using hc)]; exact q
  · obtain ⟨o, es, ep, ho, r⟩ := hm
    exact ⟨o, es, ep, (g _ (Ne.symm h2)).trans ho, r⟩
  · refine (I.hok b u q).stay (fun c v hc z => (g c ?_).trans z) (fun _ z => z) fun _ _ z => z
    intro e
    subst e
    rcases hc with z | z
    · rw [← z, hC] at q; cases q
    · rw [hC] at z; cases z
/-- out of a block with its variables at C: noted by the frame L, the block let go, handed on -/
theorem block_fails {E : XK} {L C : Addr} {env0 ce : Env} {outer0 : List Env} {B : Heap} {sI s' : Shared} {a : Addr} {cls : Value} {d : Option Addr} {m : Str → Option Value} (hst : X.stack = env0 :: outer0) (hf : env0.frame = some L) (hc : ce.frame = some L) (tk : TakesL X E L)
    (hC : ce.locals = C) (I : Inv X pins σ H sI) (nC : H C = none) (h1 : C ∈ X.ex ∨ X.s_0.heap.objs.size ≤ C) (h2 : C ≠ X.env.locals) (h3 : ∀ x c, X.env.cells.lookup x = some c → c ≠ C) (h4 : ∀ p ∈ X.pn ++ pins, p.1 ≠ C) (hn : sI.heap.Ns C m)
    (nb : ∀ b o, sI.heap.get? b = some o → b ∉ frs X.stack → B.get? b = some o) (up : sI.heap.UpToSlots s'.heap) (sky : Sky B X.stack a (Zc cls d) L s'.heap) (na : H a = none) (os : s'.os = sI.os) (ag : AllBare s'.gens) (w : E cls d H) :
    notedBy (model X.prog X.w) X.A ce (CompFails (model X.prog X.w) X.A X.xe ce) (.ref a) s' := by
  have hfr : X.A.frames = some (env0 :: outer0) := by rw [I.ok.frames, hst]
  rw [hst] at sky
  have fin : ∀ hp1, HandSPX.HeldZ B (env0 :: outer0) a (Zc cls d) L hp1 → s'.heap.UpToSlots hp1 → CompFails (model X.prog X.w) X.A X.xe ce (.ref a) { s' with heap := hp1 } := by
    intro hp1 hh up1
    have up01 := up.trans up1
    have hn1 : hp1.Ns C m := by
      obtain ⟨o, es, ep, ho, hd, r⟩ := hn
      obtain ⟨sl, q⟩ := up01 C o ho fun vs z => by rw [hd] at z; cases z
      exact ⟨_, es, ep, q, hd, r⟩
    refine ⟨m, by rw [hC]; exact hn1, fun hp2 m2 hn2 hs2 => ?_⟩
    rw [hC] at hn2 hs2
    obtain ⟨f1, f2, f3, oe, vs, T, oT, ts, q1, q2, q3, q4, q5, q6, q7, q8, q9⟩ := hh
    have notC : ∀ {b : Addr} {o : Obj} {xs : Array Value}, hp1.get? b = some o → o.data = .fields xs → b ≠ C := fun {b o xs} z z2 z3 => by
      obtain ⟨o', es, ep, ho, hd, _⟩ := hn1
      rw [z3, ho] at z; cases z
      rw [hd] at z2; cases z2
    obtain ⟨B2, b1, b2⟩ := restrict B fun b => decide (b ≠ C)
    have bB : ∀ b, b ≠ C → B2.get? b = B.get? b := fun b hb => b1 b (by simp [hb])
    have bC : B2.get? C = none := b2 C (by simp)
    have st2 : B2.StaysIn hp2 := fun b o z => by
      by_cases hb : b = C
      · subst hb; rw [bC] at z; cases z
      · rw [bB b hb] at z
        exact (hs2.2 b hb).trans (f1 b o z)
    have ff2 : hp2.FunFrames B2 (env0 :: outer0) := by
      refine funFrames_none (Heap.FunFrames.sameBut hs2 hn2 f3) fun b hb => ?_
      by_cases z : b = C
      · rw [z]; exact bC
      · rw [bB b z]; exact (f3.mem hb).1
    have tr2 : HandSPX.TracedZ hp2 B2 a (Zc cls d) (rawInt L) := by
      refine ⟨oe, vs, T, oT, ts, (hs2.2 a (notC q1 q3)).trans q1, q2, q3, q4, ?_, q6, (hs2.2 T (notC q7 q8)).trans q7, q8, q9⟩
      rw [bB T (notC q7 q8)]
      exact q5
    have na2 : B2.get? a = none := by rw [bB a (notC q1 q3)]; exact f2
    unfold PySem.passOn
    refine wpAny_bind (wpAny_field ((hs2.2 a (notC q1 q3)).trans q1) q3 q4 ?_)
    rw [if_neg (show ¬ ((Value.ref T == Value.none) = true) from by simp)]
    rw [hc]
    have go : wpAny (model X.prog X.w) X.A (setFlight (.ref a) (some L)) (fun _ s4 => wpAny (model X.prog X.w) X.A (throw (.ref a) : Sem Value) (fun _ _ => False) X.xe s4) X.xe { s' with heap := hp2 } := by
      refine HandSPX.setFlight_anyZ (s := { s' with heap := hp2 }) st2 ff2 tr2 fun hp3 k1 k2 k3 k4 => wpAny_throw (tk _ _ ?_)
      obtain ⟨G, g1, g2⟩ := restrict sI.heap fun b => decide (b ≠ C)
      have gG : ∀ b, b ≠ C → G.get? b = sI.heap.get? b := fun b hb => g1 b (by simp [hb])
      have gC : G.get? C = none := g2 C (by simp)
      refine ⟨a, B2, { sI with heap := G }, pins, σ, H, cls, d, rfl, inv_hide I nC h1 h2 h3 h4 gG, fun b o z hb => ?_, fun b o z hnf => ?_, ?_, na, os, ag, w⟩
      · by_cases q : b = C
        · subst q; rw [show (Shared.heap { sI with heap := G }).get? b = G.get? b from rfl, gC] at z; cases z
        · rw [bB b q]
          exact nb b o ((gG b q).symm.trans z) hb
      · by_cases q : b = C
        · subst q; rw [show (Shared.heap { sI with heap := G }).get? b = G.get? b from rfl, gC] at z; cases z
        · obtain ⟨sl, z1⟩ := up01 b o ((gG b q).symm.trans z) hnf
          obtain ⟨sl2, z2⟩ := k4 b _ ((hs2.2 b q).trans z1) hnf
          exact ⟨sl2, z2⟩
      · rw [hst]
        exact .inr (.inr ⟨k1, na2, k2, k3⟩)
    first
      | exact wpAny_bind (wpAny_pure (wpAny_bind go))
      | exact wpAny_bind go
  show wpAny (model X.prog X.w) X.A (noteFrame (.ref a) ce) _ _ s'
  rw [noteFrame_env _ (hc.trans hf.symm)]
  rcases sky with ⟨hB, hn', hl, oe, vs, he, hz, hd, z1⟩ | fl | hh
  · exact HandSPX.look_newZ Zc.steady hfr hl hf he hB hn' hd z1 hz fin
  · exact HandSPX.looks_onZ Zc.steady hfr hf fl fin
  · exact HandSPX.againZ hf hh.2.2.2 (fin s'.heap hh (Heap.UpToSlots.refl _))
end
end Y

namespace Y
open PySem PySem.Spec PyProof.Rows L2
theorem ends_of_post {M : Model} {A : Around} {E : Value → Shared → Prop} {use : Option (Value → Sem Unit)} {Q : Value → Shared → Prop} {acc : Value} {ce : Env} {s' : Shared} (h : compPost M A E use Q acc ce.locals (.ok .next) s') : compEnds M A E use Q acc ce (.ok .next) s' := by
  cases use <;> exact h
section
variable {X : Cx}
/-- [elt for target in iter if ..] whose element may raise -/
theorem lc_coreX {pins : List (Addr × Obj)} {s : Shared} {σ : L2.St} {H : Hp} {Q : VK} {elt tg iter : Expr} {ifs : List Expr} {scope : Scope} {own : List (Str × Nat)} {pos pos' : Pos} {wi : TI} {g : TG} {tt : TT} {te : TE} {use : Option (Value → Sem Unit)} {Qf : Value → Shared → Prop}
    {E : XK} {L : Addr} {env0 : Env} {outer0 : List Env} (hst : X.stack = env0 :: outer0) (hf0 : env0.frame = some L) (hfE : X.env.frame = some L) (tk : TakesL X E L)
    (hc : X.calm = true) (hN : X.N.Nodup) (I : Inv X pins σ H s) (hi : PI X tg iter wi) (ok : BlkOk X.N X.env.scope scope own)
    (hg : ∀ (s : Shared) (H : Hp) (C : Addr) (cl : List (Str × Addr)) (fp : List Addr), PG (X.blk s H scope (compEnvC scope cl C X.env) fp) tg g) (ht : ∀ (s : Shared) (H : Hp) (C : Addr) (cl : List (Str × Addr)) (fp : List Addr), PTs (X.blk s H scope (compEnvC scope cl C X.env) fp) ifs tt)
    (he : ∀ (s : Shared) (H : Hp) (C : Addr) (cl : List (Str × Addr)) (fp : List Addr) (xe : Value → Shared → Prop), TakesL ((X.blk s H scope (compEnvC scope cl C X.env) fp).wish xe) E L → PE ((X.blk s H scope (compEnvC scope cl C X.env) fp).wish xe) elt te)
    (hs : ∀ x, foldedSetIterable iter X.env x = pure x) (h : tLc wi g tt te (own.map (·.2)) σ H Q)
    (hRR : ∀ D C s' m H', Inv X pins σ H' s' → Q (.ref D) H' → s'.heap.Ns C m → FpOk X pins H' C → compPost (model X.prog X.w) X.A X.xe use Qf (.ref D) C (.ok .next) s') :
    wpAny (model X.prog X.w) X.A (comprehension (.ListComp elt [⟨tg, iter, ifs, 0⟩] scope pos) scope X.env pos' (newList []) false (eval iter X.env) use) Qf X.xe s := by
  have hfree : ∀ y ∈ scope.names, y.2 = .free → ∃ c, X.env.cells.lookup y.1 = some c := fun y hy e => by
    rcases ok.free y hy e with k | k
    · exact I.ok.has _ (.inl k)
    · exact I.ok.has _ (.inr k)
  refine comprehension_at (use := use) rfl hs (closure_ok hfree) ok.kind (fun y hy e => by rw [ok.uniq y hy, e])
    (thn (hi.run pins s σ H _ I h) fun xv s1 hx => thn hx fun itv s2 h2 => ?_)
  obtain ⟨it, fp, tn, J, H2, e, I2, T, st2, f2, q⟩ := h2
  subst e
  refine wpAny_newObj_type (newEnv_comp ?_) (by show 0 ≤ sizeLine; decide)
  generalize hD : s2.heap.objs.size = D
  have hDn : H2 D = none := I2.hok.fresh (Nat.le_of_eq hD)
  obtain ⟨W, ⟨m0, w0⟩, turn⟩ := q D hDn
  generalize hs3 : ({ s2 with heap := s2.heap.push { cls := .type "list", data := .seq ([] : List Value).toArray } } : Shared) = s3
  have h3 : s3.heap = s2.heap.push { cls := .type "list", data := .seq ([] : List Value).toArray } := by rw [← hs3]
  have I3 : Inv X pins σ (upd H2 D (.lst [])) s3 := by
    rw [← hs3]
    refine I2.laid (t' := s2.toks) (fun b o e => Heap.get?_push_of_some _ e) (Nat.le_of_eq hD) ⟨Nat.zero_le _, [], 0, .nil, ?_⟩
    rw [← hD]
    exact Heap.get?_push_size _ rfl
  have f3 : ∀ b ∈ fp, FpOk X pins (upd H2 D (.lst [])) b ∧ b < s3.heap.objs.size := fun b hb => by
    obtain ⟨o, e, _⟩ := T.obj _ _ st2 b hb
    have hlt := Heap.lt_size e
    have nb : b ≠ D := by rw [← hD]; exact Nat.ne_of_lt hlt
    exact ⟨⟨by rw [upd_ne nb]; exact (f2 b hb).1, (f2 b hb).2⟩, by rw [h3, Heap.size_push]; exact Nat.lt_succ_of_lt hlt⟩
  have st3 : tn 0 s3.heap := T.keep _ _ _ st2 fun b _ o e => by rw [h3]; exact Heap.get?_push_of_some _ e
  have I4 := block_start I3 ok hN f3
  generalize hcl : cellsFrom (s3.heap.objs.size + 1) scope.names (cloFrom X.env.cells scope.names []) = cl at I4 ⊢
  have fC : FpOk X pins (upd H2 D (.lst [])) s3.heap.objs.size := I3.fpOk (Nat.le_refl _) (I3.hok.fresh (Nat.le_refl _))
  have pg := hg s3 (upd H2 D (.lst [])) s3.heap.objs.size cl fp
  have pt := ht s3 (upd H2 D (.lst [])) s3.heap.objs.size cl fp
  have pe := he s3 (upd H2 D (.lst [])) s3.heap.objs.size cl fp
  have nfp : ∀ b ∈ fp, (upd H2 D (.lst [])) b = none := fun b hb => (f3 b hb).1.1
  show codeAny _ _ (.compStart (.ListComp elt [⟨tg, iter, ifs, 0⟩] scope pos) 0 (.ref it) (.ref D) (compEnvC scope cl s3.heap.objs.size X.env)) (compEnds (model X.prog X.w) X.A X.xe use Qf (.ref D) (compEnvC scope cl s3.heap.objs.size X.env)) _
  generalize hce : compEnvC scope cl s3.heap.objs.size X.env = ce at I4 pg pt pe ⊢
  have cL : ce.locals = s3.heap.objs.size := by rw [← hce]; rfl
  have cF : ce.frame = some L := by rw [← hce]; exact hfE
  generalize hH3 : upd H2 D (.lst []) = H3 at I3 I4 pg pt pe w0 nfp f3 fC
  generalize hs4 : ({ s3 with heap := pushCells (s3.heap.push { cls := .type "dict", data := .dict #[] }) scope.names } : Shared) = s4 at I4 ⊢
  have st4 : tn 0 s4.heap := T.keep _ _ _ st3 fun b _ o e => by rw [← hs4]; exact pushCells_keeps _ _ _ _ (Heap.get?_push_of_some _ e)
  -- back in the context ahead
  have back : ∀ {pn : List (Addr × Obj)} {σ' : L2.St} {H' : Hp} {s' : Shared}, Inv (X.blk s3 H3 scope ce fp) pn σ' H' s' → Inv X pins σ H' s' ∧ H' s3.heap.objs.size = none := fun {pn σ' H' s'} I' =>
    ⟨I3.call' (ch := fp) I'.os I'.base I'.hok I'.bare fun b hb => ⟨(f3 b hb).1.2.2.2.1, (f3 b hb).1.2.1, (f3 b hb).1.2.2.2.2.1, (f3 b hb).1.2.2.2.2.2⟩, by rw [← cL]; exact I'.free⟩
  have stat : ∀ {σ' : L2.St} {H' : Hp} {s' : Shared}, Inv (X.blk s3 H3 scope ce fp) [] σ' H' s' → (∀ b ∈ fp, H' b = none) → ∀ b ∈ fp, FpOk (X.blk s3 H3 scope ce fp) [] H' b := fun {σ' H' s'} I' hn b hb =>
    ⟨hn b hb, (I'.ok.exf b hb).1, I'.ok.exfs b hb, .inl hb, fun x c e => (I'.ok.exf b hb).2 x c e, fun p hp => absurd (show p ∈ ([] : List (Addr × Obj)) ++ [] from hp) (by simp)⟩
  -- what the element may let out
  have tkB : TakesL ((X.blk s3 H3 scope ce fp).wish (notedBy (model X.prog X.w) X.A ce (CompFails (model X.prog X.w) X.A X.xe ce))) E L := by
    rintro u s' ⟨a, B, sI, pins', σ', H', cls, d, rfl, J', nb, up, sky, na, os, ag, w⟩
    have J0 : Inv (X.blk s3 H3 scope ce fp) pins' σ' H' sI := J'.unwish
    obtain ⟨I7, nC⟩ := back J0
    obtain ⟨m, hn, _⟩ := J0.loc
    have hn : sI.heap.Ns ce.locals m := hn
    rw [cL] at hn
    exact block_fails hst hf0 cF tk cL I7 nC fC.2.2.2.1 fC.2.1 fC.2.2.2.2.1 fC.2.2.2.2.2 hn nb up sky na os ag w
  have pe' := pe _ tkB
  have loop : codeAny (model X.prog X.w) X.A (.compLoop (.ListComp elt [⟨tg, iter, ifs, 0⟩] scope pos) 0 (.ref it) (.ref D) ce) (compEnds (model X.prog X.w) X.A X.xe use Qf (.ref D) ce) s4 := by
    refine compLoop_any (fun n s' => ∃ i H', Inv (X.blk s3 H3 scope ce fp) [] (wipe σ (own.map (·.2))) H' s' ∧ tn i s'.heap ∧ (∀ b ∈ fp, H' b = none) ∧ W i n H') ?_ m0 ⟨0, H3, I4, st4, nfp, w0⟩
    rintro n s5 ⟨i, H5, I5, st5, n5, w5⟩
    rcases turn i n H5 w5 with ⟨stop, qq⟩ | ⟨go, Nx, hNx, step⟩
    · refine thnF (T.done (X.blk s3 H3 scope ce fp) rfl rfl rfl hc i [] s5 _ H5 (fun _ _ => False) I5 (stat I5 n5) st5 stop) fun r s6 ⟨hr, I6⟩ => ?_
      subst hr
      obtain ⟨I7, nC⟩ := back I6
      obtain ⟨m, hn, _⟩ := I6.loc
      have hn : s6.heap.Ns ce.locals m := hn
      rw [cL] at hn
      refine ends_of_post ?_
      rw [cL]
      exact hRR D s3.heap.objs.size s6 m H5 I7 qq hn (I3.fpOk (Nat.le_refl _) nC)
    · refine thnF (T.item (X.blk s3 H3 scope ce fp) rfl rfl rfl hc i [] s5 _ H5 (fun _ _ => False) I5 (stat I5 n5) st5 go) fun r s6 ⟨u, hr, h6⟩ => ?_
      subst hr
      refine thnF h6 fun _ s7 ⟨x, H7, I7, r7, y7, st7, n7⟩ => ?_
      refine thnF (pg.run _ s7 _ H7 x u _ (I7.pinned (stat I7 n7) (T.obj _ _ st7)) r7 (step x H7 y7)) fun _ s8 ⟨σ8, H8, I8, hw8, q8⟩ => ?_
      refine thnF (pt.run _ s8 σ8 H8 _ I8 q8) fun b s9 ⟨H9, I9, q9⟩ => ?_
      have fin : ∀ {s' : Shared} {H' : Hp}, Inv (X.blk s3 H3 scope ce fp) ([] ++ pinsAt fp s7.heap) σ8 H' s' → Nx H' → ∃ m, m < n ∧ ∃ i H', Inv (X.blk s3 H3 scope ce fp) [] (wipe σ (own.map (·.2))) H' s' ∧ tn i s'.heap ∧ (∀ b ∈ fp, H' b = none) ∧ W i m H' := fun {s' H'} I' nx => by
        obtain ⟨m', hm, w'⟩ := hNx H' nx
        have pin' : ∀ b ∈ fp, ∀ o, s7.heap.get? b = some o → s'.heap.get? b = some o ∧ H' b = none := fun b hb o e =>
          let z := I'.pin (b, o) (List.mem_append_right _ (List.mem_append_right _ (mem_pinsAt hb e)))
          ⟨z.1, z.2.1⟩
        refine ⟨m', hm, i + 1, H', (I'.unpinned (pins := [])).weak (by rw [← hw8, wipe_length]) (fun j v e => ?_), T.keep _ _ _ st7 fun b hb o e => (pin' b hb o e).1, fun b hb => ?_, w'⟩
        · rw [← hw8] at e
          exact (wipe_some e).1
        · obtain ⟨o, e, _⟩ := T.obj _ _ st7 b hb
          exact (pin' b hb o e).2
      cases b with
      | false =>
        simp only [Bool.false_eq_true, if_false] at q9 ⊢
        exact fin I9 q9
      | true =>
        simp only [if_true] at q9 ⊢
        refine thn (pe'.run _ s9 σ8 H9 _ (I9.wish _) q9) fun z s10 ⟨yv, H10, I10, r10, acc, hD10, hz10, nx⟩ => ?_
        exact app_ok (X := X.blk s3 H3 scope ce fp) I10.unwish hD10 hz10 r10 fun s11 I11 => fin I11 nx
  exact codeAny_compStart_list loop (T.self X.A 0 _ _ _ st4 loop)
theorem pe_lcX {elt tg iter : Expr} {ifs : List Expr} {scope : Scope} {own : List (Str × Nat)} {pos : Pos} {wi : TI} {g : TG} {tt : TT} {te : TE} {E : XK} {L : Addr} {env0 : Env} {outer0 : List Env} (tk : TakesL X E L) (hst : X.stack = env0 :: outer0) (hf0 : env0.frame = some L) (hfE : X.env.frame = some L)
    (hc : X.calm = true) (hN : X.N.Nodup) (hi : PI X tg iter wi) (ok : BlkOk X.N X.env.scope scope own)
    (hg : ∀ (s : Shared) (H : Hp) (C : Addr) (cl : List (Str × Addr)) (fp : List Addr), PG (X.blk s H scope (compEnvC scope cl C X.env) fp) tg g) (ht : ∀ (s : Shared) (H : Hp) (C : Addr) (cl : List (Str × Addr)) (fp : List Addr), PTs (X.blk s H scope (compEnvC scope cl C X.env) fp) ifs tt)
    (he : ∀ (s : Shared) (H : Hp) (C : Addr) (cl : List (Str × Addr)) (fp : List Addr) (xe : Value → Shared → Prop), TakesL ((X.blk s H scope (compEnvC scope cl C X.env) fp).wish xe) E L → PE ((X.blk s H scope (compEnvC scope cl C X.env) fp).wish xe) elt te)
    (hs : ∀ x, foldedSetIterable iter X.env x = pure x := by intro _; rfl) :
    PE X (.ListComp elt [⟨tg, iter, ifs, 0⟩] scope pos) (tLc wi g tt te (own.map (·.2))) := by
  refine ⟨fun pins s σ H Q I h => ?_⟩
  rw [eval_ListComp]
  refine lc_coreX hst hf0 hfE tk hc hN I hi ok hg ht he hs h fun D C s' m H' I' q hn f => ⟨m, hn, fun h'' sb => ?_⟩
  obtain ⟨f0, f1, f2, f3, f4, f5⟩ := f
  exact ⟨.ref D, H', I'.turned (t' := s'.toks) (fun b o hb e => (sb.2 b hb).trans e) f0 f1 f3 f4 f5, rfl, q⟩
end
end Y

/-! isinstance of a caught error that has fields of its own -/
namespace PySem.W
open PySem PySem.Spec PySem.Calls PyProof.Rows
section
variable {prog : Program} {w : World} {A : Around} {E : Value → Shared → Prop} {s : Shared} {K : Frag} {x D : Addr} {ox od : Obj}
theorem yObj_data {C : Addr} {name : Str} {a g : Value} {o : Option Obj} (hc : (clsIn K C).isSome = true) (ha : findIn K (.ref C) name = some (some a)) (hg : specialIn K a "__get__" = some (some g)) (ht : takesIn K a = some true) : findObj K C o name = some (.bind g a) := by
  obtain ⟨cd, hc⟩ := Option.isSome_iff_exists.mp hc
  unfold findObj
  rw [hc, Option.bind_some, ha, Option.bind_some]
  simp [hg, ht]
theorem yin_class {Q : Option Value → Shared → Prop} (hga : findIn K (.ref D) "__getattribute__" = some (some (.builtin "BaseException.__getattribute__"))) (hgt : findIn K (.ref D) "__getattr__" = some none) (hsub : subIn K (.ref D) (.type "BaseException") = some true)
    (hdct : hasDictIn K D = true) (ha : findIn K (.ref D) "__class__" = some (some (.builtin "object.__class__")))
    (hn : specialIn K (.builtin "object.__class__") "__get__" = some (some (.builtin "getset_descriptor.__get__"))) (htk : takesIn K (.builtin "object.__class__") = some true) (hm : mroIn K D (.type "object") = some true)
    (X : K.In s.heap) (I : InstAt s.heap x ox D (some od)) (h : Q (some (.ref D)) { s with toks := s.toks + 1 }) : wpAny (model prog w) A (getAttr? (.ref x) "__class__") Q E s := by
  have hf : findObj K D (some od) "__class__" = some (.bind (.builtin "getset_descriptor.__get__") (.builtin "object.__class__")) := yObj_data (by obtain ⟨cd, hc, _⟩ := any_some hdct; rw [hc]; rfl) ha hn htk
  obtain ⟨hp, g, d, t, os⟩ := s
  have L0 := I.type (M := model prog w)
  have L1 := looks_findIn (M := model prog w) X hga
  have L2 := looks_findIn (M := model prog w) X hgt
  have L3 := looks_find (M := model prog w) X I hf
  have sub : Looks (model prog w) hp (isInstance (.ref x) (.type "BaseException")) true := L0.andThen (looks_subIn X hsub)
  have z0 : (false && onTheHeap (Value.builtin "BaseException.__getattribute__")) = false := rfl
  have z1 : (onTheHeap (Value.ref D) && Value.builtin "BaseException.__getattribute__" == Value.builtin "object.__getattribute__") = false := by
    rw [show (Value.builtin "BaseException.__getattribute__" == Value.builtin "object.__getattribute__") = false from by decide +kernel, Bool.and_false]
  unfold getAttr? getAttrBy? getAttrBy
  refine wpAny_bind (wpAny_mkText (wpAny_bind (wpAny_attempt (wpAny_holding (wpAny_bind (L0.at (wpAny_bind (L1.at ?_))))))))
  show wpAny _ _ (if (onTheHeap (Value.ref D) && Value.builtin "BaseException.__getattribute__" == Value.builtin "object.__getattribute__") = true then _ else _) _ _ _
  rw [z1, if_neg Bool.false_ne_true]
  unfold getAttrByItsOwn hookBefore
  refine wpAny_bind ?_
  rw [if_pos (show onTheHeap (Value.ref D) = true from rfl)]
  refine L2.at (wpAny_bind (wpAny_attempt (wpAny_holding ?_)))
  unfold callGetattribute
  rw [z0, if_neg Bool.false_ne_true]
  unfold boundAndCalled
  rw [PySem.F.excAttr_ValueError.ga.bind (.ref x)]
  refine wpAny_bind (wpAny_pure ?_)
  show wpAny _ _ (call (.builtin "BaseException.__getattribute__") [.ref x, .str "__class__" t]) _ _ _
  refine wpAny_call (codeAny_call_builtin PySem.F.excAttr_ValueError.ga.plain PySem.F.entry_bexc_ga ?_)
  refine @check_slot (model prog w) _ _ ⟨hp, g, d, t + 1, os⟩ "BaseException.__getattribute__" "BaseException" "__getattribute__" (.ref x) [.str "__class__" t] [] _ (by decide +kernel) (by decide +kernel) sub (PySem.F.args_bexc_ga (.ref x) (.str "__class__" t)) ?_
  unfold Builtin.«object.__getattribute__»
  refine wpAny_bind (wpAny_of_eq (a := ((Value.ref x : Value), [Value.str "__class__" t])) (by first | rfl | (simp only [slotArgs]; rfl)) ?_)
  refine wpAny_bind (wpAny_pure (wpAny_bind (L0.at (wpAny_bind (L3.at ?_)))))
  show wpAny _ _ (holding [Value.builtin "object.__class__"] (call (.builtin "getset_descriptor.__get__") [.builtin "object.__class__", .ref x, .ref D]) >>= ret) _ _ _
  refine wpAny_bind (wpAny_holding (wpAny_call (class_get (s := ⟨hp, g, d, t + 1, os⟩) (ox := ox) (od := some od) X I hm (wpAny_pure ?_))))
  show wpAny _ _ (handedOut (.ref D)) _ _ _
  rw [handedOut_of (v := .ref D) rfl]
  first
    | exact wpAny_pure (wpAny_pure h)
    | exact wpAny_pure h
    | exact wpAny_pure (wpAny_bind (wpAny_pure (wpAny_pure h)))
theorem y_kitx (hga : findIn K (.ref D) "__getattribute__" = some (some (.builtin "BaseException.__getattribute__"))) (hgt : findIn K (.ref D) "__getattr__" = some none) (hsub : subIn K (.ref D) (.type "BaseException") = some true) (hdct : hasDictIn K D = true)
    (ha : findIn K (.ref D) "__class__" = some (some (.builtin "object.__class__")))
    (hn : specialIn K (.builtin "object.__class__") "__get__" = some (some (.builtin "getset_descriptor.__get__"))) (htk : takesIn K (.builtin "object.__class__") = some true) (hm : mroIn K D (.type "object") = some true) :
    KitX K (.ref x) (.ref D) (fun h => ∃ od, InstAt h x ox D (some od)) where
  ty := fun _ _ _ ⟨_, I⟩ => I.type
  it := fun M h X _ A' Q' E' s' k q => by
    obtain ⟨cd, hc, _⟩ := any_some hdct
    unfold clsIn at hc
    split at hc
    · rename_i ho
      unfold isType loadHead
      exact wpAny_bind (wpAny_loadPart (k _ _ (X _ _ ho)) (wpAny_pure q))
    · cases hc
  ne := (handS_kitx_exc (x := x) (ox := ox) hga hgt hsub hdct ha hn htk hm).ne
  ca := fun X ⟨_, I⟩ k => yin_class hga hgt hsub hdct ha hn htk hm X I k
end
end PySem.W
namespace Y
open PySem PySem.Spec PyProof.Rows L2
theorem all_at {l : List Bool} {b : Bool} (h : l.all id = true) (i : Nat) (e : l[i]? = some b) : b = true := List.all_eq_true.mp h b (List.mem_of_getElem? e)
/-! ### own exception classes over ValueError with one field -/
/-- what the text says of such a class -/
def exB (K : PySem.W.Frag) (C : Addr) (f : Str) : Bool :=
  (match K.lookup C with
    | some ⟨.type "type", _, .cls cd, sl⟩ => (match cd.mro, sl.toList with
      | .ref D :: bm, [_, _, _, _, some (.builtin n), _] => D == C && n == "ValueError.__new__" && !cd.hasDel && cd.hasDict && HandSPX.refsVE bm
      | _, _ => false)
    | _ => false) &&
  (decide (PySem.W.findIn K (.ref C) "__setattr__" = some (some (.builtin "object.__setattr__"))) && decide (PySem.W.subIn K (.ref C) (.type "BaseException") = some true) && decide (PySem.W.typeIn K (.ref C) = some (.type "type")) && PySem.W.keepIn K (.ref C)) &&
  (decide (PySem.W.findIn K (.ref C) "__getattribute__" = some (some (.builtin "BaseException.__getattribute__"))) && decide (PySem.W.findIn K (.ref C) "__getattr__" = some none) && PySem.W.hasDictIn K C) &&
  (decide (PySem.W.findIn K (.ref C) f = some none) && decide (PySem.W.findIn K (.ref C) "__init__" = some (some (.ref (He.ma K C "__init__")))) && decide (PySem.W.typeIn K (.ref (He.ma K C "__init__")) = some (.type "function"))) &&
  (decide (PySem.W.findIn K (.ref C) "__class__" = some (some (.builtin "object.__class__"))) && decide (PySem.W.specialIn K (.builtin "object.__class__") "__get__" = some (some (.builtin "getset_descriptor.__get__"))) &&
    decide (PySem.W.takesIn K (.builtin "object.__class__") = some true) && decide (PySem.W.mroIn K C (.type "object") = some true))
structure ExC (K : PySem.W.Frag) (C : Addr) (f : Str) : Prop where
  oex : OexC K C
  xf : XfC K C
  no : PySem.W.findIn K (.ref C) f = some none
  iC : PySem.W.findIn K (.ref C) "__init__" = some (some (.ref (He.ma K C "__init__")))
  tI : PySem.W.typeIn K (.ref (He.ma K C "__init__")) = some (.type "function")
  ec : ExcC K C
theorem exB_ok {K : PySem.W.Frag} {C : Addr} {f : Str} (h : exB K C f = true) : ExC K C f := by
  unfold exB at h
  simp only [Bool.and_eq_true, decide_eq_true_eq] at h
  obtain ⟨⟨⟨⟨h1, ⟨⟨h2, h3⟩, h4⟩, h5⟩, ⟨h6, h7⟩, h8⟩, ⟨h9, h10⟩, h11⟩, ⟨⟨h12, h13⟩, h14⟩, h15⟩ := h
  refine ⟨⟨?_, h2, h3, h4, h5⟩, ⟨h6, h7, h3, h8⟩, h9, h10, h11, ⟨h6, h7, h3, h8, h12, h13, h14, h15⟩⟩
  split at h1
  · rename_i dd cd sl ho
    split at h1
    · rename_i D bm k0 k1 k2 k3 n k5 hm hs
      simp only [Bool.and_eq_true, beq_iff_eq, Bool.not_eq_true'] at h1
      obtain ⟨⟨⟨⟨rfl, rfl⟩, hdel⟩, hdc⟩, hr⟩ := h1
      obtain ⟨nm, bs, mro, ns, qn, hd, sn, sub, ab, col, del⟩ := cd
      dsimp only at hm hdel hdc
      subst hm hdel hdc
      have hsl : sl = #[k0, k1, k2, k3, some (.builtin "ValueError.__new__"), k5] := by
        obtain ⟨l⟩ := sl
        simp only at hs
        rw [hs]
      subst hsl
      exact ⟨nm, qn, ns, bs, bm, sn, sub, ab, col, dd, k0, k1, k2, k3, k5, ho, hr⟩
    · cases h1
  · cases h1
/-- __init__(self, v): self.f = v -/
def spXi (C : Addr) (f : Str) : Sp := fun vs H Q _ => ∃ a v, vs = [.ref a, v] ∧ H a = some (exo a C none) ∧ ∀ dx, H dx = none → dx ≠ a → Q .non (upd (upd H dx (exd dx [(f, v)])) a (exo a C (some dx)))
/-- raise C(e) -/
def tRaiseI (C : Addr) (f : Str) (E : XK) (ta : TA) : TS := fun _ σ H => ta σ H fun vs H1 => ∃ v, vs = [v] ∧ ∀ d, H1 d = none → E (.ref C) (some d) (upd H1 d (.xd [(f, v)]))
section
variable {X : Cx} {es : List Expr} {ta : TA}
/-- arguments, what they give weakened -/
def upA (ta : TA) : TA := fun σ H Q => ∃ R : List V → Hp → Prop, ta σ H R ∧ ∀ vs H1, R vs H1 → Q vs H1
theorem pa_up (h : PA X es ta) : PA X es (upA ta) := ⟨fun pos pins s σ H Q I ⟨R, hR, hQ⟩ => thn (h.run pos pins s σ H R I hR) fun us s1 ⟨vs, H1, I1, r, q⟩ => ⟨vs, H1, I1, r, hQ vs H1 q⟩⟩
theorem xd_heap {H : Hp} {a d : Addr} {o u : HO} {z : HO} (ha : H a = none) (hd : d ≠ a) : upd (del (upd (upd (upd H a o) d u) a z) a) d (.xd fs) = upd H d (.xd fs) := by
  funext b
  by_cases h1 : b = d
  · rw [h1, upd_same, upd_same]
  · rw [upd_ne h1, upd_ne h1]
    by_cases h2 : b = a
    · rw [h2, del_same, ha]
    · rw [del_ne h2, upd_ne h2, upd_ne h1, upd_ne h2]
theorem mk_read {C : Addr} {f : Str} {E : XK} {σ : L2.St} {H : Hp} (h : ta σ H fun vs H1 => ∃ v, vs = [v] ∧ ∀ d, H1 d = none → E (.ref C) (some d) (upd H1 d (.xd [(f, v)]))) :
    tMkO C (spXi C f) [] (upA ta) σ H fun cls d H' => E cls d H' := by
  refine ⟨_, h, fun vs H1 ⟨v, e, k⟩ => ?_⟩
  subst e
  refine ⟨by show 1 ≤ 1000; decide, fun a ha => ⟨a, v, rfl, upd_same, fun dx hdx hne => ⟨rfl, dx, [(f, v)], upd_same, by rw [upd_ne hne, upd_same], ?_, ?_⟩⟩⟩
  · rw [upd_ne hne] at hdx
    exact hdx
  · rw [xd_heap ha hne]
    rw [upd_ne hne] at hdx
    exact k dx hdx
theorem ps_raiseI {C : Addr} {f x : Str} {k : Nat} {E : XK} {e : Expr} {p pos pos' : Pos} (T : ExC X.K C f) (hm : X.mg x = some (.ref C))
    (F : FnOk X.prog X.w X.K X.mg X.base CX0 k (He.ma X.K C "__init__") (fdOf X.K (He.ma X.K C "__init__")) ["self", f] (spXi C f)) (b : Binds X.K (fdOf X.K (He.ma X.K C "__init__")) ["self", f] []) (hr : Room (k + 1) X.A) (hg : Gl X x) (hc : X.calm = true)
    (tk : Takes X fun cls d _ H => E cls d H) (ha : PA X (e :: es) ta) (hdb : (x == ("__debug__" : Str)) = false := by decide) (he : starEach (e :: es) X.env = (false, eval e X.env) :: starEach es X.env := by rfl) (hpl : (backTo pos (starEach es X.env)).any (·.1) = false := by rfl) :
    PS X (.Raise (some (.Call (.Name x p) (e :: es) [] pos)) none pos') (tRaiseI C f E ta) := by
  have h := ps_raise (pos := pos') hc tk (pmk_oex (p := p) (pos := pos) (dvs := []) T.oex T.iC T.tI F hr b .nil (pass0 : Passes CX0 X E0) hg hm (pa_up ha) hdb he hpl)
  exact ⟨fun pins s σ H D I q => h.run pins s σ H D I (mk_read q)⟩
end
/-- isinstance(e, c) of a caught error with fields -/
theorem call_isEf {X : Cx} {a D dd : Addr} {oe : Obj} {pn : List (Addr × Obj)} {fs : List (Str × V)} (C : ExcC X.K D) (hz : Zc (.ref D) (some dd) oe) (hf : ∃ vs, oe.data = .fields vs) :
    CallR (X.suite a ((a, oe) :: pn)) (.builtin "isinstance") (fun xs H Q => (∃ fs, H dd = some (.xd fs)) ∧ rIsE X.K D a xs H Q) := by
  intro pins s σ H xs us Q I r h
  obtain ⟨⟨fs, hd0⟩, c, cv, b, rfl, hcv, e, q⟩ := h
  cases r with
  | cons rx rr =>
    cases rr with
    | cons rt rr =>
      cases rr
      cases rx
      have ec := hcv _ rt
      subst ec
      obtain ⟨hget, _⟩ := I.pin (a, oe) (List.mem_append.mpr (.inl List.mem_cons_self))
      obtain ⟨vs, hv⟩ := hf
      obtain ⟨mA, ⟨od, es, ep, ho, _⟩, _⟩ := (show ObjOk X.prog X.w H s.heap dd (.xd fs) from I.hok dd _ hd0)
      have J : PySem.W.InstAt s.heap a oe D (some od) := by
        obtain ⟨oc, od', oda, osl⟩ := oe
        obtain ⟨h1, h2⟩ := hz
        dsimp only at h1 h2 hv
        subst h1 h2 hv
        exact ⟨hget, rfl, rfl, ho⟩
      exact PySem.W.kia_one (PySem.W.y_kitx C.hg C.hk C.hs C.hd C.ha C.hn C.ht C.hm) I.kIn ⟨od, J⟩ e (fun z => nomatch z) fun tk => ⟨.bl b, H, I.kept (t' := tk) fun _ _ z => z, rfl, q⟩
end Y

namespace Y
open PySem PySem.Spec PyProof.Rows L2
/-- a tuple times 1 is the tuple itself -/
theorem tuple_mul1 (l : Addr) (items : Array Value) (n : Nat) (dd : Option Addr) (sl : Array (Option Value)) (u : Tok) :
    Meets (Builtin.«tuple.__mul__» ⟨[.ref l, .int 1 u], []⟩) (fun _ R s => s.heap.get? l = some { cls := .type "tuple", dict := dd, data := .seq items n, slots := sl } ∧ R (.ok (.ret (Value.ref l))) s) :=
  .of_wp fun prog w A R s h => by
    obtain ⟨hp, g, d, tk, os⟩ := s
    obtain ⟨hl, h⟩ := h
    have c0 : (decide ((1 : Int) < -(2 ^ 63)) || decide ((1 : Int) ≥ 2 ^ 63)) = false := by decide
    have c1 : (items.isEmpty || ((1 : Int) == 1)) = true := by simp
    have f1 := AutoSeq1.idx_int
    wp_walk using wpAny_loadPart' hl
    repeat (first
      | (refine wpAny_ite_false (decide_eq_false (by rw [c0]; exact Bool.false_ne_true)) ?_; wp_walk using wpAny_loadPart' hl)
      | (refine wpAny_ite_true (decide_eq_true c1) ?_; wp_walk using wpAny_loadPart' hl))
    exact ⟨_, rfl, h⟩
end Y
namespace Y
open PySem PySem.Spec PyProof.Rows L2
/-- tuple * int, from 1 on -/
def rRepU (K : PySem.W.Frag) : R2 := fun x y H Q => rRepT K x y H Q ∨ ∃ l xs, x = .ref l ∧ y = .int 1 ∧ SqT K H l xs ∧ Q (.ref l) H
def rRepS : R2 := fun x y H Q => ∃ z k, x = .str z ∧ y = .int k ∧ 2 ≤ k ∧ k ≤ 1000 ∧ 1 ≤ z.length ∧ z.length ≤ 1000 ∧ Q (.str ⟨(List.replicate k.toNat z.cps).foldl (· ++ ·) #[]⟩) H
section
variable {X : Cx} {K : PySem.W.Frag}
theorem op_repU (hK : X.K = K) : OpR X (binaryOp .Mult) (rRepU K) := by
  subst hK
  intro pins s σ H x y v u Q I rx ry h
  rcases h with h | ⟨l, xs, rfl, rfl, hT, q⟩
  · exact op_repT pins s σ H x y v u Q I rx ry h
  · cases rx
    obtain ⟨t, rfl⟩ := ry
    obtain ⟨its, r, ⟨⟨cls, dd, data, sl⟩, ho, hc, n, hd⟩, hs⟩ := I.tuple hT
    simp only at hc hd
    subst hc hd
    refine wpAny_binaryOp_repeat_ref (T := "tuple") (U := "int") (by decide) ⟨_, ho, rfl⟩ (fun s' => typeIs_int s' 1 t) noFill_tuple_mul F.fills_int_mul F.slot_int_rmul repeat_tuple F.slot_int_index.lookup
      (call_meets F.slot_int_rmul (typeIs_int s 1 t) F.entry_int_rmul (F.args_int_rmul_2 _ _) (int_rmul_tuple 1 t l its.toArray n dd sl)
        ⟨ho, rfl, ⟨_, ho, rfl⟩, call_meets F.slot_tuple_mul ⟨_, ho, rfl⟩ F.entry_tuple_mul (F.args_tuple_mul_2 _ _) (tuple_mul1 l its.toArray n dd sl t) ⟨ho, ?_⟩⟩)
    exact ⟨.ref l, H, I, rfl, q⟩
theorem rep_size (c : Array Nat) : ∀ (n : Nat) (a : Array Nat), ((List.replicate n c).foldl (· ++ ·) a).size = a.size + n * c.size
  | 0, a => by simp
  | n + 1, a => by
    rw [List.replicate_succ, List.foldl_cons, rep_size c n, Array.size_append, Nat.succ_mul]
    omega
theorem op_repS : OpR X (binaryOp .Mult) rRepS := by
  intro pins s σ H x y v u Q I rx ry h
  obtain ⟨z, k, rfl, rfl, h1, h2, h3, h4, q⟩ := h
  obtain ⟨t, rfl⟩ := rx
  obtain ⟨t', rfl⟩ := ry
  have hb : z.length * k.toNat ≤ 1000000 := Nat.le_trans (Nat.mul_le_mul h4 (show k.toNat ≤ 1000 by omega)) (by decide)
  have e1 : ¬ k < 1 := by omega
  have e2 : ¬ (k == 1 || z.length == 0) = true := by simp; omega
  refine PySem.P.mul_str (by rw [decide_eq_false (by omega), decide_eq_false (by omega)]; rfl) (fun _ _ => ?_) (fun _ _ => ?_) ?_
  · have : (9223372036854775807 : Int) / k ≥ 9223372036854775807 / 1000 := by
      apply Int.le_ediv_of_mul_le (by omega)
      calc (9223372036854775807 : Int) / 1000 * k ≤ 9223372036854775807 / 1000 * 1000 := Int.mul_le_mul_of_nonneg_left h2 (by decide)
        _ ≤ 9223372036854775807 := by decide
    have : (2 ^ 63 - 1 : Int) / k ≥ 9223372036854775 := by
      show (9223372036854775807 : Int) / k ≥ _
      exact this
    omega
  · unfold Builtin.Str.tooLong
    rw [sizeLine_eq]
    exact decide_eq_false (by omega)
  · rw [if_neg e1, if_neg e2]
    refine ⟨?_, .str _, H, I.tok _, ⟨_, rfl⟩, q⟩
    show Array.size _ ≤ _
    rw [rep_size, sizeLine_eq]
    show 0 + k.toNat * z.length ≤ _
    rw [Nat.mul_comm] at hb
    omega
end
end Y

namespace Y
open PySem PySem.Spec PyProof.Rows L2
/-! ### a list that changes: read, stored -/
section
variable {K : PySem.W.Frag} {σ : L2.St} {G H H' G' : Hp} {Q : VK} {v x y : V} {d d' : PyData} {ds es : List PyData} {i : Int} {M : List Addr}
theorem g_ixM {p : Addr} {xs : List V} {k : Nat} (h : H p = some (.lst xs)) (hv : xs[k]? = some v) (hj : i = (k : Int)) (q : Q v H) : rIxL K (.ref p) (.int i) H Q := by
  subst hj
  exact ⟨p, xs, _, v, rfl, rfl, .of h, atI_nat hv, q⟩
theorem g_ixK {p : Addr} {xs : List V} {k : Nat} (e : Ex G H) (h : SqL K G p xs) (hv : xs[k]? = some v) (hj : i = (k : Int)) (q : Q v H) : rIxL K (.ref p) (.int i) H Q := by
  subst hj
  exact ⟨p, xs, _, v, rfl, rfl, e.seqL h, atI_nat hv, q⟩
theorem g_lenK {p : Addr} {xs : List V} (e : Ex G H) (h : SqL K G p xs) (q : Q (.int (xs.length : Int)) H) : rLen K [.ref p] H Q := ⟨p, xs, rfl, .inl (e.seqL h), q⟩
theorem g_sub {to ti : TE} {t : TSet} {R : L2.St → Hp → Prop} (q : to σ H fun o H1 => ti σ H1 fun i H2 => t o i v H2 fun H3 => R σ H3) : gSub to ti t v σ H R := q
theorem g_setM {p : Addr} {xs : List V} {k : Nat} {R : Hp → Prop} (h : H p = some (.lst xs)) (hj : i = (k : Int)) (hk : k < xs.length) (q : R (upd H p (.lst (xs.set k v)))) : rSetL (.ref p) (.int i) v H R := by
  subst hj
  exact ⟨p, xs, _, k, rfl, rfl, h, Evl.ixN_nat hk, q⟩
/-- an item at a drawn place -/
theorem g_ixLn (e : Ex G H) (h : Dp K G x (.list ds)) (h0 : 0 ≤ i) (h1 : i < (ds.length : Int)) (q : ∀ v d, d ∈ ds → ds[i.toNat]? = some d → Dp K G v d → Q v H) : rIxL K x (.int i) H Q := by
  have hl : i.toNat < ds.length := by omega
  exact g_ixL e h (k := i.toNat) (d := ds[i.toNat]) (by simp [hl]) (by omega) fun v dv => q v _ (List.getElem_mem hl) (by simp [hl]) dv
theorem g_ixTn (e : Ex G H) (h : Dp K G x (.tuple ds)) (h0 : 0 ≤ i) (h1 : i < (ds.length : Int)) (q : ∀ v d, d ∈ ds → ds[i.toNat]? = some d → Dp K G v d → Q v H) : rIxT K x (.int i) H Q := by
  have hl : i.toNat < ds.length := by omega
  exact g_ixT e h (k := i.toNat) (d := ds[i.toNat]) (by simp [hl]) (by omega) fun v dv => q v _ (List.getElem_mem hl) (by simp [hl]) dv
theorem g_ixSn {s : Str} (hs : s.length ≤ sizeLine) (h0 : 0 ≤ i) (h1 : i < (s.length : Int)) (q : ∀ c, c ∈ s.cps.toList → Q (.str ⟨#[c]⟩) H) : rIxS (.str s) (.int i) H Q := by
  have hl : i.toNat < s.cps.toList.length := by rw [Array.length_toList]; show i.toNat < s.length; omega
  exact g_ixS hs (k := i.toNat) (c := s.cps.toList[i.toNat]) (by simp) (by omega) (q _ (List.getElem_mem hl))
theorem g_cat {p b : Addr} {xs zs : List V} (hp : H p = some (.lst xs)) (hb : H b = some (.lst zs)) (hl : xs.length + zs.length ≤ sizeLine) (e : Ex G H) (q : ∀ r H', Nx [] G H G H' → H r = none → H' r = some (.lst (xs ++ zs)) → G r = none → Q (.ref r) H') : rCat (.ref p) (.ref b) H Q :=
  ⟨p, b, xs, zs, rfl, rfl, hp, hb, hl, fun r hr => q r _ (Nx.own e hr) hr upd_same (e.free hr)⟩
theorem g_pop0 {p : Addr} {xs : List V} (hp : H p = some (.lst (v :: xs))) (hl : xs.length < 100000) (q : Q v (upd H p (.lst xs))) : rPopAt (.ref p) [.int 0] H Q :=
  ⟨p, v :: xs, 0, 0, v, rfl, rfl, hp, by decide, by decide, by simp [seqIndex?], rfl, q⟩
/-! ### tuples joined and cut -/
theorem g_catA (e : Ex G H) (hx : Dp K G x (.tuple ds)) (hy : Dp K G y (.tuple es)) (hz : ds.length + es.length ≤ sizeLine) (q : ∀ v G' H', Nx [] G H G' H' → Dp K G' v (.tuple (ds ++ es)) → Q v H') : rCatA K x y H Q := by
  obtain ⟨a, xs, rfl, ha, da⟩ := dp_tup hx
  obtain ⟨b, ys, rfl, hb, db⟩ := dp_tup hy
  refine ⟨a, b, xs, ys, rfl, rfl, e.seqT ha, e.seqT hb, by rw [dpAll_len da, dpAll_len db]; exact hz, fun hn => ?_, fun _ hn => ?_, fun _ _ p hp => ?_⟩
  · subst hn
    cases da
    exact q _ G H (Nx.refl e) hy
  · subst hn
    cases db
    rw [List.append_nil] at q
    exact q _ G H (Nx.refl e) hx
  · have h2 := nx_tup e (dpAll_app da db) hp
    exact q _ _ _ h2.1 h2.2
theorem cut_lo (xs : List V) (k : Nat) : cutV xs (some (k : Int)) none = xs.drop k := by
  unfold cutV
  rw [HT.sIx_nat, HT.sIx_none]
  by_cases h : k ≤ xs.length
  · rw [Nat.min_eq_left h, List.take_of_length_le (by rw [List.length_drop]; omega)]
  · rw [Nat.min_eq_right (by omega), List.drop_eq_nil_of_le (Nat.le_refl _), List.drop_eq_nil_of_le (by omega)]
    simp
theorem cut_hi (xs : List V) (k : Nat) : cutV xs none (some (k : Int)) = xs.take k := by
  unfold cutV
  rw [HT.sIx_nat, HT.sIx_none, List.drop_zero, Nat.sub_zero]
  by_cases h : k ≤ xs.length
  · rw [Nat.min_eq_left h]
  · rw [Nat.min_eq_right (by omega), List.take_of_length_le (Nat.le_refl _), List.take_of_length_le (by omega)]
theorem cut_all {xs : List V} {lo hi : Option Int} (h : HT.sIx xs.length 0 lo = 0 ∧ HT.sIx xs.length xs.length hi = xs.length) : cutV xs lo hi = xs := by
  unfold cutV
  rw [h.1, h.2, List.drop_zero, Nat.sub_zero, List.take_length]
theorem g_sl {r : V → Option Int → Option Int → Hp → VK → Prop} {te : TE} {tl th : TO} (q : te σ H fun x H1 => tl σ H1 fun l H2 => th σ H2 fun u H3 => r x l u H3 Q) : tSl r te tl th σ H Q := q
theorem g_noPart {R : Option Int → Hp → Prop} (q : R none H) : tNoPart σ H R := q
theorem g_part {t : TE} {R : Option Int → Hp → Prop} (q : t σ H fun x H1 => ∃ i, x = .int i ∧ R (some i) H1) : tPart t σ H R := q
theorem g_isint {P : Int → Prop} (q : P i) : ∃ k, V.int i = .int k ∧ P k := ⟨i, rfl, q⟩
theorem g_slAll {lo hi : Option Int} (e : Ex G H) (hx : Dp K G x (.tuple ds)) (hc : ∀ xs : List V, DpAll K G xs ds → DpAll K G (cutV xs lo hi) es) (q : ∀ v G' H', Nx [] G H G' H' → Dp K G' v (.tuple es) → Q v H') : rSlA K x lo hi H Q := by
  obtain ⟨a, xs, rfl, ha, da⟩ := dp_tup hx
  have dc := hc xs da
  refine ⟨a, xs, rfl, e.seqT ha, fun hw => ?_, fun _ p hp => ?_⟩
  · rw [cut_all hw] at dc
    exact q _ G H (Nx.refl e) (.tup ha dc)
  · have h2 := nx_tup e dc hp
    exact q _ _ _ h2.1 h2.2
theorem g_slHi {k : Nat} (e : Ex G H) (hx : Dp K G x (.tuple ds)) (hj : i = (k : Int)) (q : ∀ v G' H', Nx [] G H G' H' → Dp K G' v (.tuple (ds.take k)) → Q v H') : rSlA K x none (some i) H Q := by
  subst hj
  exact g_slAll e hx (fun xs da => by rw [cut_hi]; exact dpAll_take k da) q
theorem g_slLo {k : Nat} (e : Ex G H) (hx : Dp K G x (.tuple ds)) (hj : i = (k : Int)) (q : ∀ v G' H', Nx [] G H G' H' → Dp K G' v (.tuple (ds.drop k)) → Q v H') : rSlA K x (some i) none H Q := by
  subst hj
  exact g_slAll e hx (fun xs da => by rw [cut_lo]; exact dpAll_drop k da) q
theorem dpAll_rep {xs : List V} (h : DpAll K G xs ds) : ∀ n : Nat, DpAll K G (List.replicate n xs).flatten (List.replicate n ds).flatten
  | 0 => .nil
  | n + 1 => by
    rw [List.replicate_succ, List.flatten_cons, List.replicate_succ, List.flatten_cons]
    exact dpAll_app h (dpAll_rep h n)
theorem g_repU {k : Nat} (e : Ex G H) (hx : Dp K G x (.tuple ds)) (hn : ds ≠ []) (hk : 1 ≤ k ∧ k ≤ 1000) (hl : ds.length ≤ 1000) (hj : i = (k : Int)) (q : ∀ v G' H', Nx [] G H G' H' → Dp K G' v (.tuple (List.replicate k ds).flatten) → Q v H') : rRepU K x (.int i) H Q := by
  subst hj
  obtain ⟨a, xs, rfl, ha, da⟩ := dp_tup hx
  by_cases h1 : k = 1
  · subst h1
    refine .inr ⟨a, xs, rfl, rfl, e.seqT ha, q _ G H (Nx.refl e) ?_⟩
    simpa using hx
  · refine .inl ⟨a, _, xs, rfl, rfl, e.seqT ha, fun z => hn (by
      have := dpAll_len da
      rw [z] at this
      exact List.eq_nil_of_length_eq_zero this.symm), by omega, by omega, by rw [dpAll_len da]; exact hl, fun p hp => ?_⟩
    have h2 := nx_tup e (dpAll_rep da k) hp
    exact q _ _ _ h2.1 h2.2

/-! ### the pool of a law: a drawn number, the script's own list, a place -/
def PoolAt (K : PySem.W.Frag) (a : Addr) (G H : Hp) : Prop := G a = none ∧ ∃ (x k : Int) (l : Addr) (ns : List Int), H a = some (.lst [.int x, .ref l, .int k]) ∧ SqL K G l (ns.map V.int) ∧ 0 ≤ x ∧ -1 ≤ k
theorem PoolAt.go {a : Addr} (p : PoolAt K a G H) (n : Nx M G H G' H') (ha : a ∉ M) : PoolAt K a G' H' := by
  obtain ⟨g, x, k, l, ns, h, hl, r⟩ := p
  exact ⟨n.old a g (by rw [h]; exact fun z => nomatch z), x, k, l, ns, n.fr a _ ha h, n.gg.seqL hl, r⟩
theorem PoolAt.live {a : Addr} (p : PoolAt K a G H) : H a ≠ none := by
  obtain ⟨_, _, _, _, _, h, _⟩ := p
  rw [h]; exact fun z => nomatch z
theorem PoolAt.upd {a A : Addr} {o : HO} (p : PoolAt K a G H) (h : A ≠ a) : PoolAt K a G (upd H A o) := by
  obtain ⟨g, x, k, l, ns, h1, hl, r⟩ := p
  exact ⟨g, x, k, l, ns, by rw [upd_ne h.symm]; exact h1, hl, r⟩
/-- a comprehension whose element draws -/
theorem g_lcPool {J : It} {te : TE} {tt : TT} {σ : L2.St} {a A : Addr} {j : Nat} (S : Src K [a] J G H ds) (e : Ex G H) (hA : H A = none) (hp : PoolAt K a G H) (hz : ds.length < sizeLine) (Jv : Nat → List PyData → Prop) (j0 : Jv 0 [])
    (hs : ∀ i d v acc G' H', ds[i]? = some d → Dp K G' v d → Nx [a] G H G' H' → PoolAt K a G' H' → acc.length ≤ i → Jv i acc → ∀ (QE : VK) (QN : Hp → Prop),
      (∀ y G4 H4 d', Nx [a] G' H' G4 H4 → PoolAt K a G4 H4 → Dp K G4 y d' → Jv (i + 1) (acc ++ [d']) → QE y H4) → (∀ G3 H3, Nx [a] G' H' G3 H3 → PoolAt K a G3 H3 → Jv (i + 1) acc → QN H3) →
      tt ((wipe σ [j]).set j (some v)) H' fun b H3 => if b = true then te ((wipe σ [j]).set j (some v)) H3 QE else QN H3)
    (hd : ∀ G' H' ys acc, Jv ds.length acc → Nx [a] G H G' H' → PoolAt K a G' H' → G' A = none → H' A = some (.lst ys) → DpAll K G' ys acc → Q (.ref A) H') : LcW J (gName j) tt te [j] σ A Q H :=
  g_lcG S e hA (fun b hb => by simp at hb; rw [hb]; exact hp.live) hz (PoolAt K a) hp (fun G' H' o p => by
    by_cases z : A = a
    · exact absurd hA (by rw [z]; exact hp.live)
    · exact p.upd z) (fun G' H' G1 H1 n p => p.go n (by simp)) Jv j0 hs hd
/-- the promise of a helper that draws: φ tells the value -/
def Drawn (K : PySem.W.Frag) (a : Addr) (G H : Hp) (Q : VK) (φ : Hp → V → Prop) : Prop := ∀ v G' H', Nx [a] G H G' H' → PoolAt K a G' H' → φ G' v → Q v H'
end
end Y

namespace Y
open PySem PySem.Spec PyProof.Rows L2
section
variable {X : Cx} {k : Nat} {ps : List Str} {sp : Sp} {W : WX} {x : Str} {p pos : Pos} {e : Expr} {es : List Expr} {t : TA}
/-- a call within a try's body -/
theorem pe_callSC (F : FnOk X.prog X.w X.K X.mg X.base (L2.CX X.prog X.w) k (He.ga X.K x) (fdOf X.K (He.ga X.K x)) ps sp) (c : Cal X.K X.mg x ps) (hr : Room k X.A) (hg : Gl X x) (tk : Takes X W)
    (ha : PA X (e :: es) t) (hdb : (x == ("__debug__" : Str)) = false := by decide) (he : starEach (e :: es) X.env = (false, eval e X.env) :: starEach es X.env := by rfl) (hpl : (backTo pos (starEach es X.env)).any (·.1) = false := by rfl) :
    PE X (.Call (.Name x p) (e :: es) [] pos) (tCallS sp (WE W) t) := pe_callS F hr hg c.g c.k c.b (fun σ => passAt tk σ) ha hdb he hpl
end
/-- isinstance(e, c) of the error that a suite holds -/
def rIsEo (K : PySem.W.Frag) (a : Addr) (cls : Value) (d : Option Addr) : List V → Hp → VK → Prop := fun xs H Q => ∃ (D dd : Addr) (fs : List (Str × V)) (c : V) (cv : Value) (b : Bool),
  cls = .ref D ∧ d = some dd ∧ H dd = some (.xd fs) ∧ ExcC K D ∧ xs = [.ref a, c] ∧ (∀ u, RelV c u → u = cv) ∧ PySem.W.kitOne K (.ref D) cv = some b ∧ Q (.bl b) H
theorem call_isEo {X : Cx} {a : Addr} {oe : Obj} {pn : List (Addr × Obj)} {cls : Value} {d : Option Addr} (hz : Zc cls d oe) (hf : ∃ vs, oe.data = .fields vs) : CallR (X.suite a ((a, oe) :: pn)) (.builtin "isinstance") (rIsEo X.K a cls d) := by
  intro pins s σ H xs us Q I r h
  obtain ⟨D, dd, fs, c, cv, b, rfl, rfl, h1, h2, h3, h4, h5, q⟩ := h
  exact call_isEf (fs := fs) h2 hz hf pins s σ H xs us Q I r ⟨⟨fs, h1⟩, c, cv, b, h3, h4, h5, q⟩
section
variable {K : PySem.W.Frag} {σ : L2.St} {H : Hp} {Q : VK}
theorem g_callS {sp : Sp} {E : L2.St → XK} {ar : TA} (q : ar σ H fun vs H1 => sp vs H1 Q (E σ)) : tCallS sp E ar σ H Q := q
theorem g_isE {a D dd C : Addr} {fs : List (Str × V)} {b : Bool} (h : H dd = some (.xd fs)) (hc : ExcC K D) (hk : PySem.W.kitOne K (.ref D) (.ref C) = some b) (q : Q (.bl b) H) : rIsEo K a (.ref D) (some dd) [.ref a, .ref C] H Q :=
  ⟨D, dd, fs, .ref C, .ref C, b, rfl, rfl, h, hc, rfl, fun u r => r, hk, q⟩
theorem g_xf {a C dd : Addr} {f : Str} {fs : List (Str × V)} {v : V} {i : Nat} (hv : σ[i]? = some (some (.ref a))) (h : H dd = some (.xd fs)) (hl : fs.lookup f = some v) (q : Q v H) : tXf a (.ref C) (some dd) C f (tVar i) σ H Q :=
  ⟨_, hv, rfl, rfl, dd, fs, v, rfl, h, hl, q⟩
end
end Y

namespace Y
open PySem PySem.Spec PyProof.Rows L2
/-! ### list(e.values()) -/
def rListVals : V → Hp → VK → Prop := fun x H Q => ∃ (d : Addr) (kvs : List (Key × V)), x = .ref d ∧ H d = some (.dK kvs) ∧ ∀ p, H p = none → Q (.ref p) (upd H p (.lst (kvs.map (·.2))))
def tListVals (te : TE) : TE := fun σ H Q => te σ H fun x H1 => rListVals x H1 Q
section
variable {X : Cx} {e : Expr} {te : TE} {p apos cpos pos : Pos}
theorem pe_listVals (hc : X.calm = true) (he : PE X e te) (hg : Gl X "list") (hm : X.mg "list" = none) (hv : bootBuiltins "list" = some (.type "list") := by decide +kernel) (hbase : attributeBase e "values" X.env (eval e X.env) = eval e X.env := by rfl) (hline : (apos.endLine == cpos.line) = true := by rfl)
    (hs : starEach [.Call (.Attribute e "values" apos) [] [] cpos] X.env = (false, eval (.Call (.Attribute e "values" apos) [] [] cpos) X.env) :: starEach [] X.env := by rfl) :
    PE X (.Call (.Name "list" p) [.Call (.Attribute e "values" apos) [] [] cpos] [] pos) (tListVals te) := by
  refine ⟨fun pins s σ H Q I hq => ?_⟩
  refine wpAny_Call_Name_kw (ld_blt I hg hm hv ?_)
  refine PyProof.Rows.callWith_type1 ?_ hs rfl
  rw [hs]
  show wpAny _ _ (spliced ((false, eval (.Call (.Attribute e "values" apos) [] [] cpos) X.env) :: backTo pos (starEach [] X.env))) _ _ s
  refine Calls.spliced_cons ?_
  refine wpAny_Call_method (T := "dict") (id := "dict.values") hbase rfl hline F.plainAttrs_dict F.slot_dict_values F.type_dict_values (thn (he.run pins s σ H _ I hq) fun u s1 ⟨x, H1, I1, rx, d, kvs, ex, hd, q⟩ => ?_)
  subst ex
  obtain rfl : u = Value.ref d := rx
  obtain ⟨hz, hs0, vs, kv, hdo⟩ := I1.hok d _ hd
  obtain ⟨ep, hat⟩ := hdo.dictAt
  have lk : kvs.length = vs.length := Paired.length kv
  have I2 : Inv X pins σ H1 { s1 with heap := s1.heap.push { cls := .type "dict_values", data := .fields #[.ref d] } } := I1.kept (t' := s1.toks) fun b ob q => Heap.get?_push_of_some _ q
  refine ⟨hdo.typeIs, hdo.mapOf.noDict, ?_⟩
  show wpAny _ _ (callWith cpos (.builtin "dict.values") [.ref d] [] []) _ X.xe s1
  refine method_meetsIn F.slot_dict_values F.entry_dict_values rfl (PySem.evalArgs_none ⟨rfl, hdo.typeIs, F.args_dict_values_1 _, _, meets_dict_values (mixKind X.prog X.w) d hs0, ⟨vs, hdo⟩, ?_⟩)
  refine Calls.spliced_nil ?_
  refine PySem.W.kdl_call (PySem.W.kdl_values (knd := mixKind X.prog X.w) (kvs := vs) (ep := ep)) (I1.ok.hd hc) ⟨⟨_, Heap.get?_push_size _ rfl, rfl, rfl⟩, hat.push _⟩ (by rw [← lk]; exact hz) fun h' tk acc c hk hS hacc => ?_
  refine ⟨.ref _, upd H1 _ (.lst (kvs.map (·.2))), I2.laid hk (Nat.le_refl _) (show ObjOk X.prog X.w _ _ _ (.lst (kvs.map (·.2))) from ⟨?_, acc.toList, c, ?_, ?_⟩), rfl, q _ (I2.hok.fresh (Nat.le_refl _))⟩
  · rw [List.length_map]; exact hz
  · have el : acc.toList.length = acc.size := by simp
    refine vals_of_at (by rw [List.length_map, el, hacc.1, lk]) fun j x w h1 h2 => ?_
    obtain ⟨k, hky⟩ := hacc.2 j w (by rw [← Array.getElem?_toList]; exact h2)
    obtain ⟨y, g1, g2⟩ := KV.at' kv hky
    rw [List.getElem?_map, g1] at h1
    cases h1
    exact g2
  · rw [Array.toArray_toList]; exact hS
end
end Y

namespace Y
open PySem PySem.Spec PyProof.Rows L2
/-! ### several except clauses, with names or without -/
abbrev HdT := Value × Option Nat × (Addr → Value → Option Addr → TS)
/-- the ends behind a named clause: the name is unbound -/
def endsAs (D : Ends) (i : Nat) : Ends := { nx := fun σ' H' => D.nx (σ'.set i none) H', rt := D.rt, bk := fun σ' H' => D.bk (σ'.set i none) H', ct := fun σ' H' => D.ct (σ'.set i none) H' }
def runA (D : Ends) (i : Option Nat) (t : TS) (a : Addr) (σ : L2.St) (H : Hp) : Prop := match i with
  | none => t D σ H
  | some i => t (endsAs D i) (σ.set i (some (.ref a))) H
def wManyA (K : PySem.W.Frag) (Wout : WX) (D : Ends) : List HdT → WX
  | [] => Wout
  | (c, i, ts) :: r => fun cls d σ H => ∃ b, PySem.W.exmOne K cls c = some b ∧ (b = true → ∀ a, H a = none → runA D i (ts a cls d) a σ H) ∧ (b = false → wManyA K Wout D r cls d σ H)
inductive HdsA (X : Cx) : List ExceptHandler → List HdT → Prop
  | nil : HdsA X [] []
  | cons {x : Str} {c : Value} {ts : Addr → Value → Option Addr → TS} {b₀ : Stmt} {suite : List Stmt} {np pos' : Pos} {hds : List ExceptHandler} {l : List HdT} (hc : Names X x c)
      (hsu : ∀ (a : Addr) (oe : Obj) (cls : Value) (d : Option Addr) (pn : List (Addr × Obj)), Zc cls d oe → (∃ vs, oe.data = .fields vs) → PSs (X.suite a ((a, oe) :: pn)) (b₀ :: suite) (ts a cls d)) (r : HdsA X hds l) :
      HdsA X (.ExceptHandler (some (.Name x np)) none (b₀ :: suite) pos' :: hds) ((c, none, ts) :: l)
  | as_ {x n : Str} {i : Nat} {c : Value} {ts : Addr → Value → Option Addr → TS} {b₀ : Stmt} {suite : List Stmt} {np pos' : Pos} {hds : List ExceptHandler} {l : List HdT} (hi : X.N[i]? = some n) (hln : X.env.kindOf n = some .local) (hc : Names X x c)
      (hsu : ∀ (a : Addr) (oe : Obj) (cls : Value) (d : Option Addr) (pn : List (Addr × Obj)), Zc cls d oe → (∃ vs, oe.data = .fields vs) → PSs (X.suite a ((a, oe) :: pn)) (b₀ :: suite) (ts a cls d)) (r : HdsA X hds l) :
      HdsA X (.ExceptHandler (some (.Name x np)) (some n) (b₀ :: suite) pos' :: hds) ((c, some i, ts) :: l)
section
variable {X : Cx} {body : List Stmt} {h₀ : ExceptHandler} {hds : List ExceptHandler} {l : List HdT} {pos : Pos} {tb : WX → TS} {Wout : WX}
theorem ps_try_manyA (hs : X.stack = X.env :: X.outer) (hf : X.env.frame = some X.env.locals) (hN : X.N.Nodup) (tk : Takes X Wout)
    (hb : ∀ (W : WX) (pn : List (Addr × Obj)) (xe : Value → Shared → Prop), Takes (X.tr pn xe) W → PassesOwn (model X.prog X.w) X.A X.env xe → PSs (X.tr pn xe) body (tb W))
    (hh : HdsA X (h₀ :: hds) l) : PS X (.Try body (h₀ :: hds) [] [] pos) (fun D σ H => tb (wManyA X.K Wout D l) D σ H) := by
  refine ⟨fun pins s σ H D I h => ?_⟩
  have ok := I.ok
  have hfr : X.A.frames = some (X.env :: X.outer) := by rw [ok.frames, hs]
  refine wpAny_Try_except ?_
  refine wpAny_mono ((hb (wManyA X.K Wout D l) (X.pn ++ pins) (fun e s₁ => wpAny (model X.prog X.w) X.A (noteFrame e X.env) (fun _ s₂ => wpAny (model X.prog X.w) X.A (setFlight e none) (fun _ s₃ =>
    wpAny (model X.prog X.w) X.A (handleBy e X.env (h₀ :: hds)) (SP X pins D) X.xe s₃) X.xe s₂) X.xe s₁) (fun u s' xx => ?_) PassesOwn.looking).run [] s σ H D (I.toTry _) h) (fun f s1 hsp => ?_) (fun e s1 he => he)
  · -- the catch
    obtain ⟨a, B, sI, pins', σ', H', cls, d, rfl, J', nb, up, sky, na, os, ag, w⟩ := xx
    have J : Inv X pins σ' H' sI := J'.ofTry ok
    have sky' : Sky B (X.env :: X.outer) a (Zc cls d) X.env.locals s'.heap := by rw [← hs]; exact sky
    show wpAny (model X.prog X.w) X.A (noteFrame (.ref a) X.env) _ _ _
    refine Sky.land Zc.steady hfr hf sky' fun h3 fl3 up3 => ?_
    have J3 : Inv X pins σ' H' { s' with heap := h3 } := J.landed nb fl3.1 (up.trans up3) os ag
    obtain ⟨oe3, vs3, he3, hz3, hd3⟩ := fl3.there
    have notFr : ∀ {h : Heap} {o : Obj} {vs : Array Value}, h.FunFrames B (X.env :: X.outer) → h.get? a = some o → o.data = .fields vs → a ∉ frs (X.env :: X.outer) := fun {h o vs} ff e dd hm => by
      obtain ⟨_, o', e', hnf⟩ := ff.mem hm
      rw [e] at e'; cases e'
      exact hnf _ dd
    have nfr := notFr fl3.2.2.1 he3 hd3
    have nL : a ≠ X.env.locals := fun z => nfr (List.mem_filterMap.mpr ⟨X.env, List.mem_cons_self, by rw [hf, z]⟩)
    have nF : a ∉ X.fs := fun hm => by
      obtain ⟨e, he, q⟩ := List.mem_filterMap.mp hm
      exact nfr (List.mem_filterMap.mpr ⟨e, List.mem_cons_of_mem _ he, q⟩)
    have S3 := J3.suite he3 hd3 na nL nF
    have LT : PySem.W.Looks (model X.prog X.w) h3 (typeOf (.ref a)) cls := fun A Q E s k q => wpAny_typeOf_ref (k _ _ he3) (by rw [hz3.1]; exact q)
    have test : ∀ {x : Str} {c : Value} {np : Pos} (hc : Names X x c) {Q : Value → Shared → Prop} {E : Value → Shared → Prop}, Q c { s' with heap := h3 } → wpAny (model X.prog X.w) (X.A.mark (some (.ref a))) (eval (.Name x np) X.env) Q E { s' with heap := h3 } := fun {x c np} hc {Q E} q => by
      obtain ⟨hg, hdbg, hm | ⟨hm, hv, hnn⟩⟩ := hc
      · exact ld_glob (X := X.suite a ((a, oe3) :: (X.pn ++ pins))) S3 hg hm q hdbg
      · exact ld_blt (X := X.suite a ((a, oe3) :: (X.pn ++ pins))) S3 hg hm hv q hnn hdbg
    have go : ∀ {hds' : List ExceptHandler} {l' : List HdT}, HdsA X hds' l' → wManyA X.K Wout D l' cls d σ' H' →
        wpAny (model X.prog X.w) X.A (handleBy (.ref a) X.env hds') (SP X pins D) X.xe { s' with heap := h3 } := by
      intro hds' l' hk
      induction hk with
      | nil =>
        intro w
        refine wpAny_handleBy_nil ?_
        obtain ⟨k1, k2, k3, oe, vs, T, oT, ts', he, hz, hd, h1, hr⟩ := id fl3
        unfold PySem.passOn
        refine wpAny_bind (wpAny_field he hd h1 ?_)
        rw [if_neg (show ¬ ((Value.ref T == Value.none) = true) from by simp)]
        have fin : wpAny (model X.prog X.w) X.A (setFlight (.ref a) X.env.frame) (fun _ s4 => wpAny (model X.prog X.w) X.A (throw (.ref a) : Sem Flow) (SP X pins D) X.xe s4) X.xe { s' with heap := h3 } := by
          rw [hf]
          refine HandSPX.setFlight_upZ fl3 fun h4 hh4 up4 => wpAny_throw (tk _ _ ?_)
          exact ⟨a, B, sI, pins, σ', H', cls, d, rfl, J, nb, (up.trans up3).trans up4, .inr (.inr (by rw [hs]; exact hh4)), na, os, ag, w⟩
        first
          | exact wpAny_bind (wpAny_pure (wpAny_bind fin))
          | exact wpAny_bind fin
      | @cons x c ts b₀ suite np pos' hds2 l2 hc hsu r ih =>
        intro w
        obtain ⟨b, hb1, hyes, hno⟩ := w
        refine wpAny_handleBy_cons (codeAny_handlers_test ?_) (by intro q; cases q)
        have LM := PySem.W.exm_one (M := model X.prog X.w) (J3.kIn) LT hb1
        refine test hc (LM.here ?_)
        cases b with
        | true =>
          refine codeAny_handlers_suite ?_
          refine HandSPX.lands_againZ fl3 fun h4 fl4 up4 => ?_
          have J4 : Inv X pins σ' H' { s' with heap := h4 } := J.landed nb fl4.1 ((up.trans up3).trans up4) os ag
          obtain ⟨oe4, vs4, he4, hz4, hd4⟩ := fl4.there
          have S4 := J4.suite he4 hd4 na nL nF
          refine wpAny_mono ((hsu a oe4 cls d (X.pn ++ pins) hz4 ⟨_, hd4⟩).run [] _ _ H' _ S4 (hyes rfl a na)) (fun f s6 hsp => ?_) (fun _ _ z => False.elim z)
          cases f with
          | next =>
            obtain ⟨σ6, H6, S6, q6⟩ := hsp
            exact ⟨_, _, S6.unsuite ok, q6⟩
          | brk =>
            obtain ⟨σ6, H6, S6, q6⟩ := hsp
            exact ⟨_, _, S6.unsuite ok, q6⟩
          | cont =>
            obtain ⟨σ6, H6, S6, q6⟩ := hsp
            exact ⟨_, _, S6.unsuite ok, q6⟩
          | ret u =>
            obtain ⟨v6, σ6, H6, S6, r6, q6⟩ := hsp
            exact ⟨_, _, _, S6.unsuite ok, r6, q6⟩
        | false =>
          show wpAny _ X.A (handleBy (.ref a) X.env hds2) _ _ _
          exact ih (hno rfl)
      | @as_ x n i c ts b₀ suite np pos' hds2 l2 hi hln hc hsu r ih =>
        intro w
        obtain ⟨b, hb1, hyes, hno⟩ := w
        refine wpAny_handleBy_cons (codeAny_handlers_test ?_) (by intro q; cases q)
        have LM := PySem.W.exm_one (M := model X.prog X.w) (J3.kIn) LT hb1
        refine test hc (LM.here ?_)
        cases b with
        | true =>
          refine codeAny_handlers_suite_as ?_
          refine HandSPX.lands_againZ fl3 fun h4 fl4 up4 => ?_
          have J4 : Inv X pins σ' H' { s' with heap := h4 } := J.landed nb fl4.1 ((up.trans up3).trans up4) os ag
          obtain ⟨oe4, vs4, he4, hz4, hd4⟩ := fl4.there
          have S4 := J4.suite he4 hd4 na nL nF
          refine store_ok (X := X.suite a ((a, oe4) :: (X.pn ++ pins))) (v := .ref a) S4 hN hi (.inl hln) rfl (fun s5 S5 => ?_) (.inr hln)
          refine wpAny_mono ((hsu a oe4 cls d (X.pn ++ pins) hz4 ⟨_, hd4⟩).run [] s5 _ H' _ S5 (hyes rfl a na)) (fun f s6 hsp => ?_) (fun _ _ z => False.elim z)
          have end_ : ∀ {σ6 : L2.St} {H6 : Hp} {Q : Shared → Prop}, Inv (X.suite a ((a, oe4) :: (X.pn ++ pins))) [] σ6 H6 s6 → (∀ s7, Inv X pins (σ6.set i none) H6 s7 → Q s7) →
              wpAny (model X.prog X.w) X.A (do bindName X.env n .none; unbindBehindTheSuite X.env n pos') (fun _ s7 => Q s7) X.xe s6 := fun {σ6 H6 Q} S6 hq => gone_ok (S6.unsuite ok) hN hi hln hq
          cases f with
          | next =>
            obtain ⟨σ6, H6, S6, q6⟩ := hsp
            exact end_ S6 fun s7 J7 => ⟨_, _, J7, q6⟩
          | brk =>
            obtain ⟨σ6, H6, S6, q6⟩ := hsp
            exact end_ S6 fun s7 J7 => ⟨_, _, J7, q6⟩
          | cont =>
            obtain ⟨σ6, H6, S6, q6⟩ := hsp
            exact end_ S6 fun s7 J7 => ⟨_, _, J7, q6⟩
          | ret u =>
            obtain ⟨v6, σ6, H6, S6, r6, q6⟩ := hsp
            exact end_ S6 fun s7 J7 => ⟨_, _, _, J7, r6, q6⟩
        | false =>
          show wpAny _ X.A (handleBy (.ref a) X.env hds2) _ _ _
          exact ih (hno rfl)
    exact go hh w
  · cases f with
    | next =>
      obtain ⟨σ', H', J', q⟩ := hsp
      exact wpAny_execs_nil ⟨σ', H', J'.ofTry ok, q⟩
    | brk =>
      obtain ⟨σ', H', J', q⟩ := hsp
      exact ⟨σ', H', J'.ofTry ok, q⟩
    | cont =>
      obtain ⟨σ', H', J', q⟩ := hsp
      exact ⟨σ', H', J'.ofTry ok, q⟩
    | ret u =>
      obtain ⟨v, σ', H', J', r, q⟩ := hsp
      exact ⟨v, σ', H', J'.ofTry ok, r, q⟩
end
end Y

namespace Y
open PySem PySem.Spec PyProof.Rows L2
/-! ### objects: methods and fields -/
def tMethS1 (C : Addr) (m : Str) (sp : Sp) (E : L2.St → XK) (ta : TE) (t : TA) : TE := fun σ H Q => ta σ H fun x H1 => ∃ a dx fs, x = .ref a ∧ H1 a = some (.ins C dx fs) ∧ fs.lookup m = none ∧ t σ H1 fun vs H2 => sp (.ref a :: vs) H2 Q (E σ)
section
variable {X : Cx} {CX : CXT} {k : Nat} {C : Addr} {ps : List Str} {sp : Sp} {E : XK} {m : Str} {f : Addr} {pos apos : Pos} {e o : Expr} {es : List Expr} {ta : TE} {t : TA}
theorem pe_methC {pl : Sem Bool} (he : PE X o ta) (c : Cls X.K C) (hm : Meth X.K C m f) (F : FnOk X.prog X.w X.K X.mg X.base CX k f (fdOf X.K f) ps sp) (hr : Room k X.A) (ca : CalM X.K f ps) (hx : Passes CX X E) (ha : PA X (e :: es) t)
    (hst : starEach (e :: es) X.env = (false, eval e X.env) :: starEach es X.env := by rfl) (hpl : (backTo pos (starEach es X.env)).any (·.1) = false := by rfl)
    (ht : eval (.Call (.Attribute o m apos) (e :: es) [] pos) X.env = (do
      let ov ← eval o X.env
      standAt apos.atName
      let (f, first) ← holding [ov] (getMethod ov m pl)
      callWith pos f first (backTo pos (starEach (e :: es) X.env)) (backToKw pos (keywordEach [] X.env))) := by rfl) :
    PE X (.Call (.Attribute o m apos) (e :: es) [] pos) (tMeth1 C m sp E ta t) := by
  refine ⟨fun pins s σ H Q I h => ?_⟩
  refine PySem.W.methodCall_KW (pl := pl) (thn (he.run pins s σ H _ I h) fun u s1 ⟨x, H1, I1, rx, a, dx, fs, ex, ea, l, q⟩ => ?_) ht
  subst ex
  obtain rfl : u = Value.ref a := rx
  refine getmeth_ok I1 ea c hm l ?_
  refine PySem.W.callWith_K (first := [.ref a]) (h₀ := X.base) I.ok.mod.kin hm.kp (thn (ha.run pos pins s1 σ H1 _ I1 q) fun us s2 ⟨vs, H2, I2, r, q2⟩ => ⟨I2.kIn, ?_⟩) hst hpl
  exact run_fn (us := .ref a :: us) (vs := .ref a :: vs) F hr ca.b .nil hx I2 (.cons rfl r) (by rw [List.append_nil]; exact q2)
theorem pe_meth0C {pl : Sem Bool} (he : PE X o ta) (c : Cls X.K C) (hm : Meth X.K C m f) (F : FnOk X.prog X.w X.K X.mg X.base CX k f (fdOf X.K f) ps sp) (hr : Room k X.A) (ca : CalM X.K f ps) (hx : Passes CX X E)
    (ht : eval (.Call (.Attribute o m apos) [] [] pos) X.env = (do
      let ov ← eval o X.env
      standAt apos.atName
      let (f, first) ← holding [ov] (getMethod ov m pl)
      callWith pos f first (backTo pos (starEach [] X.env)) (backToKw pos (keywordEach [] X.env))) := by rfl) :
    PE X (.Call (.Attribute o m apos) [] [] pos) (tMeth1 C m sp E ta tNil) := by
  refine ⟨fun pins s σ H Q I h => ?_⟩
  refine PySem.W.methodCall_KW (pl := pl) (thn (he.run pins s σ H _ I h) fun u s1 ⟨x, H1, I1, rx, a, dx, fs, ex, ea, l, q⟩ => ?_) ht
  subst ex
  obtain rfl : u = Value.ref a := rx
  refine getmeth_ok I1 ea c hm l ?_
  exact PySem.W.callWith_K0 (first := [.ref a]) I1.kIn hm.kp (run_fn (us := [.ref a]) (vs := [.ref a]) F hr ca.b .nil hx I1 (.cons rfl .nil) (by rw [List.append_nil]; exact q))
theorem pe_methCS {pl : Sem Bool} {E : L2.St → XK} (he : PE X o ta) (c : Cls X.K C) (hm : Meth X.K C m f) (F : FnOk X.prog X.w X.K X.mg X.base CX k f (fdOf X.K f) ps sp) (hr : Room k X.A) (ca : CalM X.K f ps) (hx : ∀ σ, PassesAt CX X σ (E σ)) (ha : PA X (e :: es) t)
    (hst : starEach (e :: es) X.env = (false, eval e X.env) :: starEach es X.env := by rfl) (hpl : (backTo pos (starEach es X.env)).any (·.1) = false := by rfl)
    (ht : eval (.Call (.Attribute o m apos) (e :: es) [] pos) X.env = (do
      let ov ← eval o X.env
      standAt apos.atName
      let (f, first) ← holding [ov] (getMethod ov m pl)
      callWith pos f first (backTo pos (starEach (e :: es) X.env)) (backToKw pos (keywordEach [] X.env))) := by rfl) :
    PE X (.Call (.Attribute o m apos) (e :: es) [] pos) (tMethS1 C m sp E ta t) := by
  refine ⟨fun pins s σ H Q I h => ?_⟩
  refine PySem.W.methodCall_KW (pl := pl) (thn (he.run pins s σ H _ I h) fun u s1 ⟨x, H1, I1, rx, a, dx, fs, ex, ea, l, q⟩ => ?_) ht
  subst ex
  obtain rfl : u = Value.ref a := rx
  refine getmeth_ok I1 ea c hm l ?_
  refine PySem.W.callWith_K (first := [.ref a]) (h₀ := X.base) I.ok.mod.kin hm.kp (thn (ha.run pos pins s1 σ H1 _ I1 q) fun us s2 ⟨vs, H2, I2, r, q2⟩ => ⟨I2.kIn, ?_⟩) hst hpl
  exact run_fnS (us := .ref a :: us) (vs := .ref a :: vs) F hr ca.b (hx σ) I2 (.cons rfl r) q2
end
def MthW (C : Addr) (m : Str) (R : Addr → Hp → Prop) (x : V) (H1 : Hp) : Prop := ∃ a dx fs, x = .ref a ∧ H1 a = some (.ins C dx fs) ∧ fs.lookup m = none ∧ R a H1
def FldW (K : PySem.W.Frag) (f : Str) (Q : VK) (x : V) (H1 : Hp) : Prop := ∃ a C dx fs v, x = .ref a ∧ H1 a = some (.ins C dx fs) ∧ Cls K C ∧ NoAttr K C f ∧ fs.lookup f = some v ∧ Q v H1
def SfdW (K : PySem.W.Frag) (f : Str) (y : V) (R : Hp → Prop) (x : V) (H2 : Hp) : Prop := ∃ a C dx fs, x = .ref a ∧ H2 a = some (.ins C dx fs) ∧ Cls K C ∧ NoAttr K C f ∧ fs.length < 1000 ∧ R (upd H2 a (.ins C dx (putF f y fs)))
section
variable {K : PySem.W.Frag} {σ : L2.St} {H : Hp} {Q : VK} {D : Ends} {C : Addr} {m f : Str} {sp : Sp} {E : XK} {ta tv : TE} {ar : TA} {dx : Addr} {a : Addr} {fs : List (Str × V)} {v y : V}
theorem g_meth (q : ta σ H fun x H1 => MthW C m (fun a H2 => ar σ H2 fun vs H3 => sp (.ref a :: vs) H3 Q E) x H1) : tMeth1 C m sp E ta ar σ H Q := q
theorem g_methS {E : L2.St → XK} (q : ta σ H fun x H1 => MthW C m (fun a H2 => ar σ H2 fun vs H3 => sp (.ref a :: vs) H3 Q (E σ)) x H1) : tMethS1 C m sp E ta ar σ H Q := q
theorem g_fld (q : ta σ H fun x H1 => FldW K f Q x H1) : tFld K ta f σ H Q := q
theorem g_sfd (q : tv σ H fun y H1 => ta σ H1 fun x H2 => SfdW K f y (fun H3 => D.nx σ H3) x H2) : sFld K ta tv f D σ H := q
theorem g_mth {R : Addr → Hp → Prop} (h : H a = some (.ins C dx fs)) (hl : fs.lookup m = none) (q : R a H) : MthW C m R (.ref a) H := ⟨a, dx, fs, rfl, h, hl, q⟩
theorem g_fdW (h : H a = some (.ins C dx fs)) (c : Cls K C) (n : NoAttr K C f) (hl : fs.lookup f = some v) (q : Q v H) : FldW K f Q (.ref a) H := ⟨a, C, dx, fs, v, rfl, h, c, n, hl, q⟩
theorem g_sfW {R : Hp → Prop} (h : H a = some (.ins C dx fs)) (c : Cls K C) (n : NoAttr K C f) (hl : fs.length < 1000) (q : R (upd H a (.ins C dx (putF f y fs)))) : SfdW K f y R (.ref a) H := ⟨a, C, dx, fs, rfl, h, c, n, hl, q⟩
end
theorem g_nbool {b : Bool} {A B : Prop} {i : Decidable ((!b) = true)} (h1 : b = false → A) (h2 : b = true → B) : @ite Prop ((!b) = true) i A B := by
  cases b with
  | true => rw [if_neg (by simp)]; exact h2 rfl
  | false => rw [if_pos (by simp)]; exact h1 rfl
/-! ### dicts -/
def DInW (Q : VK) (y x : V) (H : Hp) : Prop := ∃ a o, x = V.ref a ∧ DGet H a y o ∧ Q (V.bl (Option.isSome o)) H
def DNiW (Q : VK) (y x : V) (H : Hp) : Prop := ∃ a o, x = V.ref a ∧ DGet H a y o ∧ Q (V.bl (!Option.isSome o)) H
def DGeW (Q : VK) (x y : V) (H : Hp) : Prop := ∃ a v, x = V.ref a ∧ DGet H a y (some v) ∧ Q v H
def DPuW (R : Hp → Prop) (v x y : V) (H : Hp) : Prop := ∃ a H4, x = V.ref a ∧ DPut H a y v H4 ∧ R H4
def DDeW (R : Hp → Prop) (x y : V) (H : Hp) : Prop := ∃ a kvs k, x = V.ref a ∧ H a = some (HO.dK kvs) ∧ y = kV k ∧ (valV kvs k).isSome = true ∧ R (upd H a (HO.dK (dropK kvs k)))
section
variable {K : PySem.W.Frag} {σ : L2.St} {H : Hp} {Q : VK} {D : Ends} {td ty tv te : TE} {d : Addr} {kvs : List (Key × V)} {s : Str} {v : V}
theorem g_din (q : ty σ H fun y H1 => td σ H1 fun x H2 => DInW Q y x H2) : tDIn ty td σ H Q := q
theorem g_dni (q : ty σ H fun y H1 => td σ H1 fun x H2 => DNiW Q y x H2) : tDNotIn ty td σ H Q := q
theorem g_dge (q : td σ H fun x H1 => ty σ H1 fun y H2 => DGeW Q x y H2) : tDGet td ty σ H Q := q
theorem g_dpu (q : tv σ H fun v H1 => td σ H1 fun x H2 => ty σ H2 fun y H3 => DPuW (fun H4 => D.nx σ H4) v x y H3) : sDPut td ty tv D σ H := q
theorem g_dde (q : td σ H fun x H1 => ty σ H1 fun y H2 => DDeW (fun H4 => D.nx σ H4) x y H2) : sDDel td ty D σ H := q
theorem g_lvs (q : te σ H fun x H1 => rListVals x H1 Q) : tListVals te σ H Q := q
theorem g_new (q : ∀ p, H p = none → Q (.ref p) (upd H p (.dK []))) : tDNewK σ H Q := q
theorem g_dinW (h : H d = some (.dK kvs)) (q : Q (.bl (valV kvs (Sum.inr s : Key)).isSome) H) : DInW Q (.str s) (.ref d) H := ⟨d, _, rfl, .inl ⟨kvs, .inr s, .inl h, rfl, rfl⟩, q⟩
theorem g_dniW (h : H d = some (.dK kvs)) (q : Q (.bl (!(valV kvs (Sum.inr s : Key)).isSome)) H) : DNiW Q (.str s) (.ref d) H := ⟨d, _, rfl, .inl ⟨kvs, .inr s, .inl h, rfl, rfl⟩, q⟩
theorem g_dgeW (h : H d = some (.dK kvs)) (hv : valV kvs (Sum.inr s : Key) = some v) (q : Q v H) : DGeW Q (.ref d) (.str s) H := ⟨d, v, rfl, .inl ⟨kvs, .inr s, .inl h, rfl, hv.symm⟩, q⟩
theorem g_ddeW {R : Hp → Prop} (h : H d = some (.dK kvs)) (hv : (valV kvs (Sum.inr s : Key)).isSome = true) (q : R (upd H d (.dK (dropK kvs (Sum.inr s : Key))))) : DDeW R (.ref d) (.str s) H := ⟨d, kvs, .inr s, rfl, h, rfl, hv, q⟩
end
/-- raised from (G, H): an error of the class at C whose field f is z -/
def RaX (C : Addr) (f : Str) (z : V) (G H : Hp) (E : XK) : Prop := ∀ G' H' dd, Nx [] G H G' H' → H' dd = some (.xd [(f, z)]) → E (.ref C) (some dd) H'
theorem RaX.go {C : Addr} {f : Str} {z : V} {G H G1 H1 : Hp} {E : XK} (r : RaX C f z G H E) (n : Nx [] G H G1 H1) {dd : Addr} (hd : H1 dd = none) : E (.ref C) (some dd) (upd H1 dd (.xd [(f, z)])) := r G1 _ dd (n.trans (Nx.own n.gh hd)) upd_same
theorem RaX.trans {C : Addr} {f : Str} {z : V} {G H G1 H1 : Hp} {E : XK} (r : RaX C f z G H E) (n : Nx [] G H G1 H1) : RaX C f z G1 H1 E := fun G' H' dd n' h => r G' H' dd (n.trans n') h
/-- a list that stands, apart from what is known -/
def LstAt (K : PySem.W.Frag) (p : Addr) (G H : Hp) (L : List PyData) : Prop := ∃ vs, H p = some (.lst vs) ∧ G p = none ∧ DpAll K G vs L
section
variable {K : PySem.W.Frag} {p A : Addr} {G H G' H' G0 H0 : Hp} {L : List PyData} {M : List Addr} {o : HO}
theorem LstAt.go (r : LstAt K p G H L) (n : Nx M G H G' H') (hp : p ∉ M) : LstAt K p G' H' L := by
  obtain ⟨vs, h, g, d⟩ := r
  exact ⟨vs, n.fr p _ hp h, n.old p g (by rw [h]; exact fun z => nomatch z), dpAll_mono n.gg d⟩
theorem LstAt.upd (r : LstAt K p G H L) (h : A ≠ p) : LstAt K p G (upd H A o) L := by
  obtain ⟨vs, h1, g, d⟩ := r
  exact ⟨vs, by rw [upd_ne h.symm]; exact h1, g, d⟩
theorem LstAt.live (r : LstAt K p G H L) : H p ≠ none := by
  obtain ⟨vs, h1, _⟩ := r
  rw [h1]; exact fun z => nomatch z
/-- .. known from now on -/
theorem LstAt.know (r : LstAt K p G H L) (n : Nx M G0 H0 G H) (h : H0 p = none) : ∃ G', Nx M G0 H0 G' H ∧ Y.Ex G G' ∧ Dp K G' (.ref p) (.list L) := by
  obtain ⟨vs, h1, g, d⟩ := r
  exact ⟨_, n.know h h1 g, Ex.new g, .lst (.of upd_same) (dpAll_mono (Ex.new g) d)⟩
theorem Nx.sub {M' : List Addr} (a : Nx M' G H G' H') (h : ∀ x ∈ M', x ∈ M ∨ H x = none) : Nx M G H G' H' := ⟨a.gg, a.gh, a.old, a.live, fun c u hc q => a.fr c u (fun z => by
  rcases h c z with z | z
  · exact hc z
  · rw [z] at q; cases q) q⟩
theorem g_make0 {C : Addr} {sp : Sp} {E : XK} {σ : L2.St} {Q : VK} (q : ∀ x dx, H x = none → H dx = none → dx ≠ x → sp [.ref x] (L2.upd (L2.upd H dx (.own x)) x (.ins C dx [])) (fun v H2 => v = .non ∧ Q (.ref x) H2) E) : tMake C sp [] E tNil σ H Q := q
theorem nx_make {C x dx : Addr} (e : Y.Ex G H) (h1 : H x = none) (h2 : H dx = none) (h3 : dx ≠ x) : Nx [] G H G (L2.upd (L2.upd H dx (.own x)) x (.ins C dx [])) :=
  (Nx.own e h2).trans (Nx.own (e.out (e.free h2)) (by rw [upd_ne h3.symm]; exact h1))
theorem g_listM {x : V} {Q : VK} (e : Y.Ex G H) (h : Dp K G x (.list L)) (q : ∀ p H', Nx [] G H G H' → H p = none → LstAt K p G H' L → Q (.ref p) H') : rListOf K [x] H Q := by
  obtain ⟨a, vs, rfl, hs, hd⟩ := dp_lst h
  exact ⟨a, vs, rfl, .inl (e.seqL hs), fun l hl => q l _ (Nx.own e hl) hl ⟨vs, upd_same, e.free hl, hd⟩⟩
theorem g_listL {Q : VK} (e : Y.Ex G H) (h : LstAt K A G H L) (q : ∀ p H', Nx [] G H G H' → H p = none → LstAt K p G H' L → Q (.ref p) H') : rListOf K [.ref A] H Q := by
  obtain ⟨vs, hs, g, hd⟩ := h
  exact ⟨A, vs, rfl, .inl (.of hs), fun l hl => q l _ (Nx.own e hl) hl ⟨vs, upd_same, e.free hl, hd⟩⟩
end
def rDictC : List V → Hp → VK → Prop := fun xs H Q => ∃ a kvs, xs = [V.ref a] ∧ Rd H a (.dK kvs) ∧ ∀ (p : Addr), H p = none → Q (V.ref p) (upd H p (.dK kvs))
theorem call_dictC {X : Cx} : CallR X (.type "dict") rDictC := call_dictD
theorem g_dictC {H : Hp} {Q : VK} {a : Addr} {kvs : List (Key × V)} (h : H a = some (.dK kvs)) (q : ∀ p, H p = none → Q (.ref p) (upd H p (.dK kvs))) : rDictC [.ref a] H Q := ⟨a, kvs, rfl, .inl h, q⟩
theorem g_listDk {H : Hp} {Q : VK} {a : Addr} {kvs : List (Key × V)} (h : H a = some (.dK kvs)) (q : ∀ p, H p = none → Q (.ref p) (upd H p (.lst (kvs.map fun kv => kV kv.1)))) : rListD [.ref a] H Q := ⟨a, kvs, rfl, h, q⟩
theorem g_listVs {H : Hp} {Q : VK} {a : Addr} {kvs : List (Key × V)} (h : H a = some (.dK kvs)) (q : ∀ p, H p = none → Q (.ref p) (upd H p (.lst (kvs.map (·.2))))) : rListVals (.ref a) H Q := ⟨a, kvs, rfl, h, q⟩
def DelW (R : Hp → Prop) (x y : V) (H : Hp) : Prop := ∃ l xs i k, x = V.ref l ∧ y = V.int i ∧ H l = some (HO.lst xs) ∧ -2 ^ 63 ≤ i ∧ i < 2 ^ 63 ∧ seqIndex? i xs.length = some k ∧ R (upd H l (HO.lst (xs.eraseIdx k)))
theorem g_del {D : Ends} {σ : L2.St} {H : Hp} {to ti : TE} (q : to σ H fun x H1 => ti σ H1 fun y H2 => DelW (fun H3 => D.nx σ H3) x y H2) : tDelL to ti D σ H := q
theorem g_delW {R : Hp → Prop} {H : Hp} {l : Addr} {xs : List V} {i : Int} (h : H l = some (.lst xs)) (h0 : 0 ≤ i) (h1 : i < (xs.length : Int)) (hs : xs.length ≤ 100000) (q : R (upd H l (.lst (xs.eraseIdx i.toNat)))) : DelW R (.ref l) (.int i) H :=
  ⟨l, xs, i, i.toNat, rfl, rfl, h, by omega, by omega, by simp [seqIndex?, show ¬ i < 0 by omega, h0, h1], q⟩
section
variable {K : PySem.W.Frag} {G H : Hp} {Q : VK} {y : V} {a b s : Str}
theorem g_nin2 (e : Y.Ex G H) (h : Dp K G y (.tuple [.str a, .str b])) (q : Q (.bl (!(decide (a = s) || decide (b = s)))) H) : rIn K true (.str s) y H Q := by
  obtain ⟨p, xs, rfl, hs, hd⟩ := dp_tup h
  cases hd with
  | cons d1 t => cases t with
    | cons d2 t =>
      cases t; cases d1; cases d2
      refine ⟨p, _, rfl, .inr (e.seqT hs), rfl, rfl, ?_⟩
      have z : ∀ a : Str, (a == s) = decide (a = s) := fun a => by
        by_cases h : a = s
        · subst h; rw [decide_eq_true rfl]; exact beq_self_eq_true a
        · rw [decide_eq_false h]; exact beq_eq_false_iff_ne.mpr h
      have e2 : inV (.str s) [V.str a, V.str b] = (decide (a = s) || decide (b = s)) := by
        show (a == s || (b == s || false)) = _
        rw [z, z, Bool.or_false]
      rw [e2]
      exact q
/-- xs.index(s) for texts -/
theorem g_index {p : Addr} {ss : List Str} {j : Nat} (h : H p = some (.lst (ss.map V.str))) (hj : ss[j]? = some s) (hm : ∀ m, m < j → ss[m]? ≠ some s) (q : Q (.int (j : Int)) H) : rIndex K (.ref p) [.str s] H Q := by
  refine ⟨p, _, _, j, .str s, rfl, rfl, .of h, rfl, ?_, by rw [List.getElem?_map, hj]; rfl, beq_self_eq_true s, fun m z' hlt hz => ?_, q⟩
  · rw [List.all_map]
    exact List.all_eq_true.mpr fun _ _ => rfl
  · rw [List.getElem?_map] at hz
    obtain ⟨t, ht, rfl⟩ := Option.map_eq_some_iff.mp hz
    refine beq_eq_false_iff_ne.mpr fun z => hm m hlt ?_
    rw [ht, z]
end
theorem cutS_hi (z : Str) (k : Nat) : (cutS z none (some (k : Int))).cps.toList = z.cps.toList.take k := by
  unfold cutS
  rw [HT.sIx_nat, HT.sIx_none, List.drop_zero, Nat.sub_zero, List.toList_toArray]
  have hl : z.cps.toList.length = z.length := Array.length_toList
  by_cases h : k ≤ z.length
  · rw [Nat.min_eq_left h]
  · rw [Nat.min_eq_right (by omega), List.take_of_length_le (by omega), List.take_of_length_le (by omega)]
theorem dpAll_str_inv {K : PySem.W.Frag} {G : Hp} : ∀ {ns : List Str} {vs : List V}, DpAll K G vs (ns.map PyData.str) → vs = ns.map V.str
  | [], _, h => by cases h; rfl
  | n :: r, _, h => by
    cases h with
    | cons a t =>
      cases a
      rw [dpAll_str_inv t]; rfl
theorem dpAll_str {K : PySem.W.Frag} {G : Hp} : ∀ ns : List Str, DpAll K G (ns.map V.str) (ns.map PyData.str)
  | [] => .nil
  | n :: r => .cons (.str n) (dpAll_str r)
theorem rng_get {n i : Nat} {d : PyData} (h : (rng 0 n)[i]? = some d) : i < n ∧ d = .int (i : Int) := by
  have hl : i < n := by
    have := (List.getElem?_eq_some_iff.mp h).1
    simpa [rng] using this
  unfold rng at h
  rw [List.getElem?_map, List.getElem?_range hl] at h
  cases h
  exact ⟨hl, by simp⟩
theorem rng_len (n : Nat) : (rng 0 n).length = n := by simp [rng]
theorem take_get {xs : List PyData} {i : Nat} {d : PyData} (h : xs[i]? = some d) : xs.take (i + 1) = xs.take i ++ [d] := by
  rw [List.take_add_one, h]
  rfl
/-- a text among texts -/
theorem g_inS {K : PySem.W.Frag} {H : Hp} {Q : VK} {p : Addr} {ss : List Str} {t : Str} {neg : Bool} (h : SqL K H p (ss.map V.str)) (q : Q (.bl (if neg = true then !decide (t ∈ ss) else decide (t ∈ ss))) H) : rIn K neg (.str t) (.ref p) H Q := by
  refine ⟨p, _, rfl, .inl h, rfl, ?_, ?_⟩
  · rw [List.all_map]
    exact List.all_eq_true.mpr fun _ _ => rfl
  · have e : inV (.str t) (ss.map V.str) = decide (t ∈ ss) := by
      show (ss.map V.str).any (fun y => eqV y (.str t)) = _
      rw [List.any_map, Bool.eq_iff_iff, List.any_eq_true, decide_eq_true_eq]
      constructor
      · rintro ⟨x, hx, hx2⟩
        have : x = t := eq_of_beq hx2
        exact this ▸ hx
      · intro hx
        exact ⟨t, hx, beq_self_eq_true t⟩
    rw [e]
    exact q
theorem g_strI {H : Hp} {Q : VK} {i : Int} (h : i.natAbs.log2 < 1920) (q : Q (.str (toString i)) H) : rStrI [.int i] H Q := ⟨i, rfl, h, q⟩
theorem g_slS {H : Hp} {Q : VK} {z : Str} {lo hi : Option Int} (h : z.length ≤ sizeLine) (q : Q (.str (cutS z lo hi)) H) : rSlS (.str z) lo hi H Q := ⟨z, rfl, h, q⟩
theorem g_inSF {K : PySem.W.Frag} {H : Hp} {Q : VK} {p : Addr} {ss : List Str} {t : Str} (h : SqL K H p (ss.map V.str)) (q : Q (.bl (decide (t ∈ ss))) H) : rIn K false (.str t) (.ref p) H Q := g_inS h q
theorem g_inST {K : PySem.W.Frag} {H : Hp} {Q : VK} {p : Addr} {ss : List Str} {t : Str} (h : SqL K H p (ss.map V.str)) (q : Q (.bl (!decide (t ∈ ss))) H) : rIn K true (.str t) (.ref p) H Q := g_inS h q
theorem g_runS {D : Ends} {i : Nat} {t : TS} {a : Addr} {σ : L2.St} {H : Hp} (q : t (endsAs D i) (σ.set i (some (.ref a))) H) : runA D (some i) t a σ H := q
section
variable {H : Hp} {Q : VK} {l b : Addr} {xs zs : List V} {i : Int}
theorem g_popN (h : H l = some (.lst xs)) (h0 : 0 ≤ i) (h1 : i < (xs.length : Int)) (hs : xs.length ≤ 100000) (q : ∀ y, Q y (upd H l (.lst (xs.eraseIdx i.toNat)))) : rPopAt (.ref l) [.int i] H Q := by
  have hl : i.toNat < xs.length := by omega
  exact ⟨l, xs, i, i.toNat, xs[i.toNat], rfl, rfl, h, by omega, by omega, by simp [seqIndex?, show ¬ i < 0 by omega, h0, h1], by simp [hl], q _⟩
theorem g_clr (h : H l = some (.lst xs)) (q : Q .non (upd H l (.lst []))) : rClear (.ref l) [] H Q := ⟨l, xs, rfl, rfl, h, q⟩
theorem g_ext (h : H l = some (.lst xs)) (h2 : H b = some (.lst zs)) (hl : xs.length + zs.length ≤ sizeLine) (q : Q .non (upd H l (.lst (xs ++ zs)))) : rExtend (.ref l) [.ref b] H Q := ⟨l, b, xs, zs, rfl, rfl, h, h2, hl, q⟩
end
theorem depthAll_le {n : Nat} : ∀ {xs : List PyData}, (∀ d ∈ xs, d.depth ≤ n) → PyData.depthAll xs ≤ n
  | [], _ => by simp [PyData.depthAll]
  | x :: xs, h => by
    have h1 := h x (by simp)
    have h2 := depthAll_le (xs := xs) fun d hd => h d (by simp [hd])
    simp only [PyData.depthAll]
    omega
theorem depth_tup {n : Nat} {xs : List PyData} (h : ∀ d ∈ xs, d.depth ≤ n) : (PyData.tuple xs).depth ≤ n + 1 := by
  have := depthAll_le h
  simp only [PyData.depth]
  omega
theorem depth_lst {n : Nat} {xs : List PyData} (h : ∀ d ∈ xs, d.depth ≤ n) : (PyData.list xs).depth ≤ n + 1 := by
  have := depthAll_le h
  simp only [PyData.depth]
  omega
theorem shaped_lay {d : PyData} (h : SeqAt.shaped d = true) : d.canLay0 = true := by
  unfold SeqAt.shaped at h
  rw [Bool.and_eq_true] at h
  exact h.1
theorem LstAt.dp {K : PySem.W.Frag} {p : Addr} {G H : Hp} {L : List PyData} (r : LstAt K p G H L) (e : Y.Ex G H) : Dp K H (.ref p) (.list L) := by
  obtain ⟨vs, h, _, d⟩ := r
  exact .lst (.of h) (dpAll_mono e d)
/-- what is compared with itself -/
theorem g_neSame {K : PySem.W.Frag} {H : Hp} {x y : V} {d : PyData} {Q : VK} (h1 : Dp K H x d) (h2 : Dp K H y d) (s : SeqAt.shaped d = true) (q : Q (.bl false) H) : rNeD K x y H Q :=
  ⟨d, d, h1, h2, s, s, by rw [SeqAt.eqv_refl _ (shaped_lay s)]; exact q⟩
theorem g_neL {K : PySem.W.Frag} {G H : Hp} {a b : Addr} {L : List PyData} {Q : VK} (e : Y.Ex G H) (h1 : LstAt K a G H L) (h2 : LstAt K b G H L) (s : SeqAt.shaped (.list L) = true) (q : Q (.bl false) H) : rNeD K (.ref a) (.ref b) H Q :=
  g_neSame (h1.dp e) (h2.dp e) s q
/-- a loop over a range, all told by the invariant -/
theorem g_forR {g : TG} {tb : TS} {D : Ends} {σ : L2.St} {H : Hp} {n : Nat} (Pv : Nat → L2.St → Hp → Prop) (h0 : Pv 0 σ H)
    (hs : ∀ i σ' H', i < n → Pv i σ' H' → g (.int (i : Int)) σ' H' fun σ2 H2 => tb { D with nx := Pv (i + 1), ct := Pv (i + 1), bk := D.nx } σ2 H2) (hd : ∀ σ' H', Pv n σ' H' → D.nx σ' H') : ForW (Itr 0 n) g tb D σ H := by
  refine ⟨fun i m σ' H' => m = n - i ∧ i ≤ n ∧ Pv i σ' H', ⟨n, by simp, Nat.zero_le _, h0⟩, ?_⟩
  rintro i m σ' H' ⟨rfl, hi, p⟩
  by_cases hlt : i < n
  · refine .inr ⟨hlt, Pv (i + 1), fun σ3 H3 p3 => ⟨n - (i + 1), by omega, rfl, hlt, p3⟩, fun v H1 y => ?_⟩
    obtain ⟨rfl, rfl⟩ := y
    rw [Int.zero_add]
    exact hs i σ' _ hlt p
  · have e' : i = n := by omega
    subst e'
    exact .inl ⟨Nat.le_refl _, hd σ' H' p⟩
theorem nodup_le {α : Type} [DecidableEq α] : ∀ {xs ys : List α}, xs.Nodup → (∀ x ∈ xs, x ∈ ys) → xs.length ≤ ys.length
  | [], _, _, _ => Nat.zero_le _
  | x :: xs, ys, hn, hm => by
    rw [List.nodup_cons] at hn
    have hx : x ∈ ys := hm x (by simp)
    have ih := nodup_le (xs := xs) (ys := ys.erase x) hn.2 fun y hy => by
      have hne : y ≠ x := fun z => hn.1 (z ▸ hy)
      exact (List.mem_erase_of_ne hne).mpr (hm y (by simp [hy]))
    rw [List.length_erase_of_mem hx] at ih
    have : 0 < ys.length := List.length_pos_of_mem hx
    simp only [List.length_cons]
    omega
end Y

namespace Y
open PySem PySem.Spec PyProof.Rows L2
/-! ### texts as lists of signs -/
theorem str_ext {a b : Str} (h : a.cps.toList = b.cps.toList) : a = b := by
  cases a with
  | mk x => cases b with
    | mk y =>
      have : x = y := Array.toList_inj.mp h
      rw [this]
theorem lst_app (a b : Str) : (a ++ b).cps.toList = a.cps.toList ++ b.cps.toList := by
  show (a.cps ++ b.cps).toList = _
  simp
def glue (c : Nat) : List (List Nat) → List Nat
  | [] => []
  | [x] => x
  | x :: y :: r => x ++ c :: glue c (y :: r)
theorem join_lst (c : Nat) : ∀ ws : List Str, (Str.join ⟨#[c]⟩ ws).cps.toList = glue c (ws.map (·.cps.toList))
  | [] => rfl
  | [x] => rfl
  | x :: y :: r => by
    show (x ++ ⟨#[c]⟩ ++ Str.join ⟨#[c]⟩ (y :: r)).cps.toList = _
    rw [lst_app, lst_app, join_lst c (y :: r)]
    show (x.cps.toList ++ [c]) ++ _ = x.cps.toList ++ c :: _
    rw [List.append_assoc]
    rfl
theorem cut_inj {c : Nat} : ∀ {x y a b : List Nat}, c ∉ x → c ∉ y → x ++ c :: a = y ++ c :: b → x = y ∧ a = b
  | [], [], a, b, _, _, h => by
    simp only [List.nil_append, List.cons.injEq] at h
    exact ⟨rfl, h.2⟩
  | [], z :: y, a, b, _, h2, h => by
    simp only [List.nil_append, List.cons_append, List.cons.injEq] at h
    exact absurd (by rw [← h.1]; simp : c ∈ z :: y) h2
  | z :: x, [], a, b, h1, _, h => by
    simp only [List.nil_append, List.cons_append, List.cons.injEq] at h
    exact absurd (by rw [h.1]; simp : c ∈ z :: x) h1
  | z :: x, w :: y, a, b, h1, h2, h => by
    simp only [List.cons_append, List.cons.injEq] at h
    obtain ⟨e1, e2⟩ := cut_inj (fun m => h1 (by simp [m])) (fun m => h2 (by simp [m])) h.2
    exact ⟨by rw [h.1, e1], e2⟩
theorem glue_inj {c : Nat} : ∀ {A B : List (List Nat)}, A ≠ [] → B ≠ [] → (∀ p ∈ A, c ∉ p) → (∀ p ∈ B, c ∉ p) → glue c A = glue c B → A = B
  | [], _, h, _, _, _, _ => absurd rfl h
  | _ :: _, [], _, h, _, _, _ => absurd rfl h
  | [x], [y], _, _, _, _, h => by rw [show x = y from h]
  | [x], y :: z :: r, _, _, h1, _, h => by
    have : c ∈ x := by
      rw [show x = y ++ c :: glue c (z :: r) from h]
      simp
    exact absurd this (h1 x (by simp))
  | x :: y :: r, [z], _, _, _, h2, h => by
    have : c ∈ z := by
      rw [show z = x ++ c :: glue c (y :: r) from h.symm]
      simp
    exact absurd this (h2 z (by simp))
  | x :: y :: r, z :: w :: t, _, _, h1, h2, h => by
    obtain ⟨e1, e2⟩ := cut_inj (h1 x (by simp)) (h2 z (by simp)) (show x ++ c :: glue c (y :: r) = z ++ c :: glue c (w :: t) from h)
    rw [e1, glue_inj (by simp) (by simp) (fun p hp => h1 p (by simp at hp ⊢; exact .inr hp)) (fun p hp => h2 p (by simp at hp ⊢; exact .inr hp)) e2]
theorem map_cps_inj : ∀ {A B : List Str}, A.map (·.cps.toList) = B.map (·.cps.toList) → A = B
  | [], [], _ => rfl
  | [], _ :: _, h => by simp at h
  | _ :: _, [], h => by simp at h
  | a :: A, b :: B, h => by
    simp only [List.map_cons, List.cons.injEq] at h
    rw [str_ext h.1, map_cps_inj h.2]
theorem split_join (c : Nat) {ws : List Str} (h0 : ws ≠ []) (h : ∀ w ∈ ws, c ∉ w.cps.toList) : Txt.split (Str.join ⟨#[c]⟩ ws) ⟨#[c]⟩ = ws := by
  have hp := split_pos (Str.join ⟨#[c]⟩ ws) ⟨#[c]⟩
  refine map_cps_inj (glue_inj (c := c) (fun z => ?_) (fun z => h0 (List.map_eq_nil_iff.mp z)) (fun p hp => ?_) (fun p hp => ?_) ?_)
  · rw [List.map_eq_nil_iff] at z
    rw [z] at hp
    simp at hp
  · obtain ⟨q, hq, rfl⟩ := List.mem_map.mp hp
    exact StrLaws.split_free _ c q hq
  · obtain ⟨q, hq, rfl⟩ := List.mem_map.mp hp
    exact h q hq
  · rw [← join_lst, ← join_lst, StrLaws.join_split]
theorem join_eq (a : Str) (ys : List Str) : Txt.join a ys = Str.join a ys := StrLaws.glued_eq_join a ys
theorem emp_lst : Str.empty.cps.toList = [] := rfl
/-- each line with its end: joined, with one empty text behind -/
theorem ends_join (c : Nat) : ∀ ws : List Str, Str.join Str.empty (ws.map fun w => w ++ ⟨#[c]⟩) = Str.join ⟨#[c]⟩ (ws ++ [Str.empty])
  | [] => rfl
  | [x] => str_ext (by
    show (x ++ ⟨#[c]⟩).cps.toList = (x ++ ⟨#[c]⟩ ++ Str.empty).cps.toList
    simp only [lst_app, emp_lst, List.append_nil])
  | x :: y :: r => str_ext (by
    have ih := congrArg (fun s : Str => s.cps.toList) (ends_join c (y :: r))
    show (x ++ ⟨#[c]⟩ ++ Str.empty ++ Str.join Str.empty ((y :: r).map fun w => w ++ ⟨#[c]⟩)).cps.toList = (x ++ ⟨#[c]⟩ ++ Str.join ⟨#[c]⟩ ((y :: r) ++ [Str.empty])).cps.toList
    simp only [lst_app, emp_lst, List.append_nil] at ih ⊢
    rw [ih])
/-! ### numbers -/
def dig (c : Nat) : Bool := decide (48 ≤ c ∧ c ≤ 57)
def digs : List Nat → Bool
  | [] => false
  | c :: r => decide (r.length ≤ 8) && decide (c ≠ 48) && (c :: r).all dig
def numOk (w : Str) : Bool := match w.cps.toList with
  | [48] => true
  | 45 :: r => digs r
  | r => digs r
theorem digs_inv {r : List Nat} (h : digs r = true) : r ≠ [] ∧ r.length ≤ 9 ∧ r.all dig = true := by
  cases r with
  | nil => cases h
  | cons c r =>
    simp only [digs, Bool.and_eq_true, decide_eq_true_eq] at h
    exact ⟨by simp, by simp; omega, h.2⟩
theorem dig_dig {c : Nat} (h : dig c = true) : 48 ≤ c ∧ c ≤ 57 := by simpa [dig] using h
open PySem.NumText in
theorem fold_digs : ∀ (r : List Nat) (p : Array Nat × Bool), r.all dig = true → ∃ q : Array Nat × Bool, r.foldlM (NumText.step 10) p = some q ∧ (r ≠ [] → q.2 = true)
  | [], p, _ => ⟨p, rfl, fun h => absurd rfl h⟩
  | c :: r, p, h => by
    simp only [List.all_cons, Bool.and_eq_true] at h
    have hc := dig_dig h.1
    have e : NumText.step 10 p c = some (p.1.push (c - 48), true) := by
      have h1 : (c == 95) = false := by simp; omega
      have h2 : digit? c = some (c - 48) := by
        unfold digit?
        rw [if_pos (by simp; omega)]
      unfold NumText.step
      rw [h1, h2]
      have h3 : c - 48 < 10 := by omega
      simp [h3]
    obtain ⟨q, hq, hq2⟩ := fold_digs r (p.1.push (c - 48), true) h.2
    refine ⟨q, ?_, fun _ => ?_⟩
    · rw [List.foldlM_cons, e]
      exact hq
    · cases r with
      | nil =>
        have : some (p.1.push (c - 48), true) = some q := hq
        cases this
        rfl
      | cons d r => exact hq2 (by simp)
open PySem.NumText in
theorem digits_ok {r : List Nat} (h0 : r ≠ []) (h : r.all dig = true) : ∃ ds, digits? 10 r = some ds := by
  obtain ⟨q, hq, hq2⟩ := fold_digs r (#[], false) h
  refine ⟨q.1, ?_⟩
  unfold digits?
  rw [hq]
  show (if q.2 = true then some q.1 else none) = _
  rw [if_pos (hq2 h0)]
theorem blank_dig {c : Nat} (h : dig c = true) : NumText.blank c = false := by
  have := dig_dig h
  simp [NumText.blank]
  omega
theorem dropW_none {p : Nat → Bool} {l : List Nat} (h : ∀ c, l.head? = some c → p c = false) : l.dropWhile p = l := by
  cases l with
  | nil => rfl
  | cons c r => rw [List.dropWhile_cons, if_neg (by rw [h c rfl]; simp)]
open PySem.NumText in
theorem int_of {l r : List Nat} {b : Bool} {w : Str} (hl : w.cps.toList = l) (hlt : ∀ c ∈ l, 0 < c ∧ c < 128) (hb : ∀ c, l.head? = some c → blank c = false) (hs : sign l = (b, r)) (h0 : r ≠ []) (hr : r.all dig = true) (h9 : r.length ≤ 4300) : ∃ n, intText? w = some n := by
  have e1 : numTextOf w = l := by
    unfold numTextOf
    have : w.cps.all (· < 128) = true := by
      rw [← Array.all_toList, hl]
      exact List.all_eq_true.mpr fun c hc => decide_eq_true (hlt c hc).2
    rw [if_pos this, hl]
  have e2 : numSeenOf w = l := by
    unfold numSeenOf
    rw [e1]
    have : ∀ l : List Nat, (∀ c ∈ l, 0 < c) → l.takeWhile (· != 0) = l := by
      intro l
      induction l with
      | nil => intro _; rfl
      | cons c r ih =>
        intro h
        rw [List.takeWhile_cons, if_pos (by have := h c (by simp); simp; omega), ih fun x hx => h x (by simp [hx])]
    exact this l fun c hc => (hlt c hc).1
  have e3 : l.dropWhile blank = l := dropW_none hb
  have e4 : core l = r := by
    unfold core
    rw [e3, hs]
    show (r.reverse.dropWhile blank).reverse = r
    rw [dropW_none fun c hc => blank_dig (List.all_eq_true.mp hr c (List.mem_reverse.mp (List.mem_of_mem_head? hc))), List.reverse_reverse]
  obtain ⟨ds, hds⟩ := digits_ok h0 hr
  have hsz := digits_size hds
  unfold intText?
  rw [e1, e2, if_pos (beq_self_eq_true _), e4, hds]
  exact ⟨_, if_pos (by omega)⟩
theorem int_ok {w : Str} (h : numOk w = true) : ∃ n, intText? w = some n := by
  unfold numOk at h
  have pos : ∀ {r : List Nat}, r.all dig = true → ∀ c ∈ r, 0 < c ∧ c < 128 := fun hr c hc => by
    have := dig_dig (List.all_eq_true.mp hr c hc)
    omega
  split at h
  · rename_i e
    exact int_of (b := false) (r := [48]) e (by simp) (by intro c hc; cases hc; decide) rfl (by simp) (by decide) (by simp)
  · rename_i r e
    obtain ⟨h0, h9, hr⟩ := digs_inv h
    refine int_of (b := true) (r := r) e (fun c hc => ?_) (by intro c hc; cases hc; decide) rfl h0 hr (by omega)
    rcases List.mem_cons.mp hc with rfl | hc
    · omega
    · exact pos hr c hc
  · rename_i h48 h45
    obtain ⟨h0, h9, hr⟩ := digs_inv h
    refine int_of (b := false) (l := w.cps.toList) (r := w.cps.toList) rfl (pos hr) (fun c hc => blank_dig (List.all_eq_true.mp hr c (List.mem_of_mem_head? hc))) ?_ h0 hr (by omega)
    unfold NumText.sign
    split
    · rename_i r e
      rw [e] at hr
      simp [dig] at hr
    · rename_i r e
      rw [e] at hr
      simp [dig] at hr
    · rfl
def numV (w : Str) : Int := (intText? w).getD 0
theorem num_v {w : Str} (h : numOk w = true) : intText? w = some (numV w) := by
  obtain ⟨n, hn⟩ := int_ok h
  unfold numV
  rw [hn]
  rfl
/-! ### a list of parts, all of which are there -/
def allSome (f : PyData → Option PyData) : List PyData → Option (List PyData)
  | [] => some []
  | d :: r => match f d, allSome f r with
    | some a, some b => some (a :: b)
    | _, _ => none
theorem allSome_snoc {f : PyData → Option PyData} {d d' : PyData} (h : f d = some d') : ∀ {ds acc : List PyData}, allSome f ds = some acc → allSome f (ds ++ [d]) = some (acc ++ [d'])
  | [], acc, e => by
    simp only [allSome] at e
    cases e
    simp [allSome, h]
  | x :: r, acc, e => by
    simp only [allSome] at e
    cases hx : f x with
    | none => rw [hx] at e; cases e
    | some a =>
      rw [hx] at e
      cases hr : allSome f r with
      | none => rw [hr] at e; cases e
      | some b =>
        rw [hr] at e
        cases e
        show (match f x, allSome f (r ++ [d]) with | some a, some b => some (a :: b) | _, _ => none) = _
        rw [hx, allSome_snoc h hr]
        rfl
theorem allSome_none {f : PyData → Option PyData} {d : PyData} (h : f d = none) : ∀ {ds : List PyData}, d ∈ ds → allSome f ds = none
  | x :: r, hm => by
    rcases List.mem_cons.mp hm with e | hm
    · subst e; simp [allSome, h]
    · have := allSome_none h hm
      simp only [allSome]
      rw [this]
      cases f x <;> rfl
theorem fit_tuple {ds : List PyData} (h1 : ds.length ≤ 100000) (h : ∀ d ∈ ds, fit d = true) : fit (.tuple ds) = true := by rw [fit, decide_eq_true h1, Bool.true_and]; exact fitAll_iff.mpr h
/-! ### small numbers as texts -/
theorem small_num : ∀ n : Nat, n < 1000 → (numOk (toString (n : Int)) = true ∧ intText? (toString (n : Int)) = some (n : Int) ∧ Str.length (toString (n : Int)) ≤ 4) ∧ (n ≠ 0 → numOk (toString (-(n : Int))) = true ∧ intText? (toString (-(n : Int))) = some (-(n : Int)) ∧ Str.length (toString (-(n : Int))) ≤ 4) := by decide +kernel
theorem small_int {i : Int} (h : -999 ≤ i ∧ i ≤ 999) : numOk (toString i) = true ∧ intText? (toString i) = some i ∧ Str.length (toString i) ≤ 4 := by
  by_cases h0 : 0 ≤ i
  · have := (small_num i.toNat (by omega)).1
    rw [show ((i.toNat : Nat) : Int) = i by omega] at this
    exact this
  · have := (small_num (-i).toNat (by omega)).2 (by omega)
    rw [show -(((-i).toNat : Nat) : Int) = i by omega] at this
    exact this
theorem small_log {i : Int} (h : -999 ≤ i ∧ i ≤ 999) : i.natAbs.log2 < 1920 := Nat.lt_of_le_of_lt (Nat.log2_le_self _) (by omega)
theorem sum_le {n : Nat} : ∀ {xs : List Nat}, (∀ x ∈ xs, x ≤ n) → xs.sum ≤ n * xs.length
  | [], _ => Nat.zero_le _
  | x :: r, h => by
    have h1 := h x (by simp)
    have h2 := sum_le (xs := r) fun y hy => h y (by simp [hy])
    simp only [List.sum_cons, List.length_cons, Nat.mul_succ]
    omega
/-- a sign of a number -/
def numCh (c : Nat) : Bool := decide (c = 45) || dig c
theorem small_chr0 : ∀ n : Nat, n < 1000 → ((toString (n : Int) : Str).cps.toList.all numCh = true ∧ (toString (n : Int) : Str).cps.toList ≠ []) ∧ ((toString (-(n : Int)) : Str).cps.toList.all numCh = true ∧ (toString (-(n : Int)) : Str).cps.toList ≠ []) := by decide +kernel
theorem small_chr {i : Int} (h : -999 ≤ i ∧ i ≤ 999) : (toString i : Str).cps.toList.all numCh = true ∧ (toString i : Str).cps.toList ≠ [] := by
  by_cases h0 : 0 ≤ i
  · have := (small_chr0 i.toNat (by omega)).1
    rw [show ((i.toNat : Nat) : Int) = i by omega] at this
    exact this
  · have := (small_chr0 (-i).toNat (by omega)).2
    rw [show -(((-i).toNat : Nat) : Int) = i by omega] at this
    exact this
theorem numCh_ne {c : Nat} (h : numCh c = true) : c ≠ 10 ∧ c ≠ 32 ∧ c < 128 ∧ c ≠ 101 := by
  unfold numCh at h
  rcases (Bool.or_eq_true _ _).mp h with h | h
  · have := of_decide_eq_true h
    omega
  · have := dig_dig h
    omega
end Y

namespace Y
open PySem PySem.Spec PyProof.Rows L2
section
variable {P : Program} {w : World} {K : PySem.W.Frag} {mg : Str → Option Value} {base : Heap} {k : Nat} {f : Addr} {fd : FuncData} {ps : List Str} {sp : Sp}
/-- what is let out with an empty context is let out -/
theorem okN (F : FnOk P w K mg base (L2N.CX P w) k f fd ps sp) : FnOk P w K mg base (L2.CX P w) k f fd ps sp := by
  refine ⟨F.len, fun A outer s H args us vs Q E hr he hb hv hs => codeAny_mono (F.run A outer s H args us vs Q E hr he hb hv hs) fun r s' h => ?_⟩
  cases r with
  | ok fl => cases fl <;> exact h
  | error e =>
    obtain ⟨a, B, H', cls, d, e1, fl, more⟩ := h
    exact ⟨a, B, H', cls, d, e1, L2H.flyingZ_imp (fun o z => z.zc) fl, more⟩
end
section
variable {X : Cx} {es : List Expr} {ta : TA}
theorem passN {E : XK} (t : L2N.Takes X fun cls d _ H => E cls d H) : Passes (L2N.CX X.prog X.w) X E := fun pins σ H s u s' I c => L2N.passes_call (W := fun cls d _ H => E cls d H) t (fun _ _ _ _ z => z) pins σ H s u s' I c
/-- C(e, ..) made where nothing is handled: its context is empty -/
theorem pmk_oexN {CX : CXT} {x : Str} {e : Expr} {p pos : Pos} {C fI : Addr} {k : Nat} {fd : FuncData} {ps : List Str} {sp : Sp} (T : OexC X.K C) (iC : PySem.W.findIn X.K (.ref C) "__init__" = some (some (.ref fI))) (tI : PySem.W.typeIn X.K (.ref fI) = some (.type "function"))
    (F1 : FnOk X.prog X.w X.K X.mg X.base CX k fI fd ps sp) (hr : Room (k + 1) X.A) (bnd : Binds X.K fd ps []) (hx : Passes CX X (fun _ _ _ => False)) (hg : Gl X x) (hm : X.mg x = some (.ref C)) (ha : PA X (e :: es) ta)
    (hdb : (x == ("__debug__" : Str)) = false := by decide) (hst : starEach (e :: es) X.env = (false, eval e X.env) :: starEach es X.env := by rfl) (hpl : (backTo pos (starEach es X.env)).any (·.1) = false := by rfl) :
    L2N.PMk X (.Call (.Name x p) (e :: es) [] pos) (tMkO C sp [] ta) := by
  intro pins s σ H Q I q0
  obtain ⟨nm, qq, N, bs, bm, sn, sub, ab, col, dd, k0, k1, k2, k3, k5, hC, hbm⟩ := T.cls
  refine wpAny_Call_Name_kw (ld_glob I hg hm ?_ hdb)
  refine PySem.W.callWith_K (h₀ := X.base) I.ok.mod.kin T.kC (thn (ha.run pos pins s σ H _ I q0) fun us s1 ⟨vs, H1, J, r1, hz, q1⟩ => ⟨J.kIn, ?_⟩) hst hpl
  show wpAny _ _ (call (.ref C) us) _ _ _
  obtain ⟨hp, g, dr, tk, os⟩ := s1
  -- the new instance stands behind the tuple of its arguments
  obtain ⟨D, hD⟩ : ∃ D, D = hp.objs.size := ⟨_, rfl⟩
  obtain ⟨hp2, hhp2⟩ : ∃ h : Heap, h = (hp.push (PySem.W.kdv_tup us)).push (PySem.HandSPX.excO C hp.objs.size) := ⟨_, rfl⟩
  have le1 : hp.objs.size ≤ D + 1 := by omega
  have fr1 : H1 (D + 1) = none := J.hok.fresh le1
  have qs := q1 (D + 1) fr1
  rw [List.append_nil] at qs
  have old : ∀ b o, hp.get? b = some o → hp2.get? b = some o := fun b o z => by rw [hhp2]; exact Heap.get?_push_of_some _ (Heap.get?_push_of_some _ z)
  have it : hp2.get? (D + 1) = some (PySem.HandSPX.excO C hp.objs.size) := by rw [hhp2, hD]; heap_get
  have J2 : Inv X pins σ (upd H1 (D + 1) (exo (D + 1) C none)) ⟨hp2, g, dr, tk, os⟩ := J.laid (t' := tk) (a := D + 1) (o := exo (D + 1) C none) (h' := hp2) old le1 (exo_ok it)
  have rv : Vals (V.ref (D + 1) :: vs) (Value.ref (D + 1) :: us) := .cons rfl r1
  have ln : (Value.ref (D + 1) :: us ++ []).length = ps.length := by
    rw [List.append_nil, ← rv.length]
    exact F1.len _ _ _ _ qs
  have lu : us.length ≤ sizeLine := by
    have := Paired.length r1
    rw [sizeLine_eq]
    omega
  have bb := bnd _ (Value.ref (D + 1) :: us) J2.kIn ln
  rw [List.append_nil] at bb
  subst hD
  subst hhp2
  refine wpAny_call (PySem.HandSPX.call_own F.excBase_ValueError (fun Y => PySem.HandSPX.refsVE_contains Y bm hbm) (J.kIn _ _ hC) (PySem.W.looks_findIn J.kIn iC) (fun self => PySem.W.bind_fn J.kIn self tI) lu
    (codeAny_mono (F1.run _ X.stack _ _ ⟨Value.ref (hp.objs.size + 1) :: us, []⟩ (Value.ref (hp.objs.size + 1) :: us) _ _ (fun _ _ _ => False) (hr.make C us []) (J2.env0.make C us []) bb rv qs) fun r s' res => ?_))
  cases r with
  | error er => exact hx pins σ _ _ er s' J2 res
  | ok fl =>
    cases fl with
    | ret u =>
      obtain ⟨v, H2, o2, bare2, un2, hok2, rr, ev, d, fs, ea, ed, hd1, q2⟩ := res
      subst ev
      obtain ⟨h2, g2, d2, t2, os'⟩ := s'
      obtain ⟨t0, G, JJ, kG, ge, hoe, na⟩ := mk_end0 (d2 := d2) (t2 := t2) J le1 old un2 hok2 o2 bare2 ea ed hd1
      refine ⟨rr, hp.objs.size + 1, _, _, ⟨G, g2, d2, t2, os'⟩, _, .ref C, some d, rfl, JJ, kG, ge, hoe, ⟨rfl, rfl, fun ws hw => ?_⟩, rfl, rfl, na, rfl, bare2, raises_own T.exC T.tyC, q2⟩
      cases hw
      rfl
    | next => exact False.elim res
    | brk => exact False.elim res
    | cont => exact False.elim res
/-- raise C(e) where nothing is handled -/
theorem ps_raiseIN {C : Addr} {f x : Str} {k : Nat} {E : XK} {e : Expr} {p pos pos' : Pos} (T : ExC X.K C f) (hm : X.mg x = some (.ref C))
    (F : FnOk X.prog X.w X.K X.mg X.base CX0 k (He.ma X.K C "__init__") (fdOf X.K (He.ma X.K C "__init__")) ["self", f] (spXi C f)) (b : Binds X.K (fdOf X.K (He.ma X.K C "__init__")) ["self", f] []) (hr : Room (k + 1) X.A) (hg : Gl X x) (hc : X.calm = true)
    (tk : L2N.Takes X fun cls d _ H => E cls d H) (ha : PA X (e :: es) ta) (hdb : (x == ("__debug__" : Str)) = false := by decide) (he : starEach (e :: es) X.env = (false, eval e X.env) :: starEach es X.env := by rfl) (hpl : (backTo pos (starEach es X.env)).any (·.1) = false := by rfl) :
    PS X (.Raise (some (.Call (.Name x p) (e :: es) [] pos)) none pos') (tRaiseI C f E ta) := by
  have h := L2N.ps_raise (pos := pos') hc tk (pmk_oexN (p := p) (pos := pos) T.oex T.iC T.tI F hr b (pass0 : Passes CX0 X E0) hg hm (pa_up ha) hdb he hpl)
  exact ⟨fun pins s σ H D I q => h.run pins s σ H D I (mk_read q)⟩
/-- raise C(e) from None in an except suite -/
theorem ps_raiseIH {C : Addr} {f x : Str} {k j : Nat} {E : XK} {e : Expr} {p pos pos' cpos : Pos} (T : ExC X.K C f) (hm : X.mg x = some (.ref C))
    (F : L2H.FnH X.prog X.w X.K X.mg X.base CX0 k (He.ma X.K C "__init__") (fdOf X.K (He.ma X.K C "__init__")) ["self", f] (spXi C f)) (b : Binds X.K (fdOf X.K (He.ma X.K C "__init__")) ["self", f] []) (hr : L2H.RoomH (k + 1) X.A) (hg : Gl X x) (hc : L2H.HotC X)
    (tk : L2.Takes X fun cls d _ H => E cls d H) (ha : PA X (e :: es) ta) (hdb : (x == ("__debug__" : Str)) = false := by decide) (he : starEach (e :: es) X.env = (false, eval e X.env) :: starEach es X.env := by rfl) (hpl : (backTo pos (starEach es X.env)).any (·.1) = false := by rfl) :
    PS X (.Raise (some (.Call (.Name x p) (e :: es) [] pos)) (some (.Constant .none j cpos)) pos') (tRaiseI C f E ta) := by
  have h := L2H.ps_raiseHN (j := j) (cpos := cpos) (pos := pos') hc tk (L2H.pmk5_oexH (p := p) (pos := pos) T.oex T.iC T.tI F hr hc b (pass0 : Passes CX0 X E0) hg hm (pa_up ha) hdb he hpl)
  exact ⟨fun pins s σ H D I q => h.run pins s σ H D I (mk_read q)⟩
end
section
variable {P : Program} {w : World} {K : PySem.W.Frag} {mg : Str → Option Value} {base : Heap} {x qual : Str} {params : Arguments} {body : List Stmt} {scope : Scope} {dvs : List V} {kws : List (Str × V)} {f : Addr} {fd : FuncData}
theorem okH {CX : CXT} {N ps : List Str} {k : Nat} {sp : Sp} (F : FunD K x qual params body scope dvs kws f fd) (S : FnScope N ps scope) (len : ∀ vs H Q E, sp vs H Q E → vs.length = ps.length)
    (hbody : ∀ (cdv : Value) (A : Around) (outer : List Env) (s : Shared) (H : Hp) (vs : List V) (Q : VK) (E : XK) (p : Addr × Obj), sp vs H Q E →
      ∃ t, PSs (L2H.cxH CX P w K mg base N qual scope f cdv A outer s H E p) body t ∧ t { nx := fun _ H' => Q .non H', rt := Q } (start N vs) H) : L2H.FnH P w K mg base CX (k + 1) f fd ps sp := by
  obtain ⟨oc, od, dV, kV, doc, pm, an, cdv, ct, osl, rfl, lk, hcd, _, _⟩ := F.ex
  exact L2H.fn_ofH lk hcd S len fun A outer s H vs Q E p _ _ hsp => hbody cdv A outer s H vs Q E p hsp
end
/-! ### texts joined and split, made -/
def rSplit : V → List V → Hp → VK → Prop := fun x xs H Q => ∃ a b : Str, x = .str a ∧ xs = [.str b] ∧ (b.length == 0) = false ∧ a.length + 2 ≤ sizeLine ∧ rNewStrs (Txt.split a b) H Q
def rRmp : V → List V → Hp → VK → Prop := fun x xs H Q => ∃ a b : Str, x = .str a ∧ xs = [.str b] ∧ a.length ≤ sizeLine ∧ Q (.str (Txt.removeprefix a b)) H
def rStrS : List V → Hp → VK → Prop := fun xs H Q => ∃ a : Str, xs = [.str a] ∧ Q (.str a) H
def rStrA : List V → Hp → VK → Prop := fun xs H Q => rStrI xs H Q ∨ rStrS xs H Q
def rIntS : List V → Hp → VK → Prop := fun xs H Q => ∃ (a : Str) (n : Int), xs = [.str a] ∧ intText? a = some n ∧ a.length ≤ 640 ∧ Q (.int n) H
def tFs (ts : List TE) : TE := fun σ H Q => tJs ts Str.empty σ H fun out H1 => Q (.str out) H1
def StarW (K : PySem.W.Frag) (t : TA) (σ : L2.St) (Q : List V → Hp → Prop) (x : V) (H1 : Hp) : Prop := ∃ p xs, x = V.ref p ∧ (SqT K H1 p xs ∨ SqL K H1 p xs) ∧ t σ H1 fun ys H2 => Q (xs ++ ys) H2
section
variable {X : Cx} {K : PySem.W.Frag} {o e : Expr} {es : List Expr} {to te : TE} {t : TA} {apos pos p : Pos}
theorem call_strS : CallR X (.type "str") rStrS := SkE.call_str_str
theorem call_strA : CallR X (.type "str") rStrA := fun pins s σ H xs us Q I r h => h.elim (fun h => call_strI pins s σ H xs us Q I r h) fun h => call_strS pins s σ H xs us Q I r h
theorem call_intS : CallR X (.type "int") rIntS := L2.call_int_str
theorem pe_splitR (ho : PE X o to) (he : PE X e te) (hs : starEach [e] X.env = [(false, eval e X.env)] := by rfl) (hbase : attributeBase o "split" X.env (eval o X.env) = eval o X.env := by rfl) (hline : (apos.endLine == pos.line) = true := by rfl) :
    PE X (.Call (.Attribute o "split" apos) [e] [] pos) (tM1 rSplit to te) := pe_split ho he hs hbase hline
theorem pe_rmpre (ho : PE X o to) (he : PE X e te) (hs : starEach [e] X.env = [(false, eval e X.env)] := by rfl) (hbase : attributeBase o "removeprefix" X.env (eval o X.env) = eval o X.env := by rfl) (hline : (apos.endLine == pos.line) = true := by rfl) :
    PE X (.Call (.Attribute o "removeprefix" apos) [e] [] pos) (tM1 rRmp to te) := pe_m1 F.slot_str_removeprefix F.type_str_removeprefix mt_removeprefix ho he hs hbase hline
theorem pe_fs {v1 v2 : Expr} {rest : List Expr} {ts : List TE} (h : PJ X (v1 :: v2 :: rest) ts) : PE X (.JoinedStr (v1 :: v2 :: rest) pos) (tFs ts) := pe_joined h
theorem pa_starK (h : X.K = K) (he : PE X e te) (hr : PA X es t) (hs : starEach (.Starred e p :: es) X.env = (true, eval e X.env) :: starEach es X.env := by rfl) : PA X (.Starred e p :: es) (StX.tStar K te t) := h ▸ StX.pa_star he hr hs
end
section
variable {K : PySem.W.Frag} {σ : L2.St} {G H : Hp} {Q : VK} {to te : TE} {t : TA} {ts : List TE} {a b acc y : Str} {QA : List V → Hp → Prop} {ds : List PyData} {x : V}
theorem g_m1 {r : V → List V → Hp → VK → Prop} (q : to σ H fun x H1 => (∃ a, x = .str a) ∧ te σ H1 fun y H2 => r x [y] H2 Q) : tM1 r to te σ H Q := q
theorem g_isS {P : Prop} (q : P) : (∃ a', V.str a = .str a') ∧ P := ⟨⟨a, rfl⟩, q⟩
theorem g_fs (q : tJs ts Str.empty σ H fun out H1 => Q (.str out) H1) : tFs ts σ H Q := q
theorem g_js {QS : Str → Hp → Prop} (q : te σ H fun x H1 => ∃ y : Str, x = .str y ∧ (acc ++ y).length ≤ sizeLine ∧ tJs ts (acc ++ y) σ H1 QS) : tJs (te :: ts) acc σ H QS := q
theorem g_js0 {QS : Str → Hp → Prop} (q : QS acc H) : tJs [] acc σ H QS := q
theorem g_jsW {QS : Str → Hp → Prop} (h : (acc ++ y).length ≤ sizeLine) (q : tJs ts (acc ++ y) σ H QS) : ∃ z : Str, V.str y = .str z ∧ (acc ++ z).length ≤ sizeLine ∧ tJs ts (acc ++ z) σ H QS := ⟨y, rfl, h, q⟩
def FmtW (Q : VK) (x : V) (H1 : Hp) : Prop := (∃ y : Str, x = .str y ∧ y.length ≤ sizeLine ∧ Q (.str y) H1) ∨ ∃ i : Int, x = .int i ∧ i.natAbs.log2 < 1920 ∧ Q (.str (toString i)) H1
theorem g_fmt (q : te σ H fun x H1 => FmtW Q x H1) : tFmt te σ H Q := q
theorem g_fmtS (h : y.length ≤ sizeLine) (q : Q (.str y) H) : FmtW Q (.str y) H := .inl ⟨y, rfl, h, q⟩
theorem g_fmtI {i : Int} (h : i.natAbs.log2 < 1920) (q : Q (.str (toString i)) H) : FmtW Q (.int i) H := .inr ⟨i, rfl, h, q⟩
theorem g_star (q : te σ H fun x H1 => StarW K t σ QA x H1) : StX.tStar K te t σ H QA := q
theorem g_starM {p : Addr} {xs : List V} (h : H p = some (.lst xs)) (q : t σ H fun ys H2 => QA (xs ++ ys) H2) : StarW K t σ QA (.ref p) H := ⟨p, xs, rfl, .inr (.of h), q⟩
theorem g_split {c : Nat} (h : a.length ≤ 100000) (e : Ex G H) (q : ∀ p G' H', Nx [] G H G' H' → Dp K G' (.ref p) (.list ((Txt.split a ⟨#[c]⟩).map .str)) → Q (.ref p) H') : rSplit (.str a) [.str ⟨#[c]⟩] H Q :=
  ⟨a, _, rfl, rfl, rfl, by rw [sizeLine_eq]; omega, fun p hp => let ⟨n, d⟩ := nx_lst e (dpAll_str _) hp; q p _ _ n d⟩
theorem g_rmp (h : a.length ≤ sizeLine) (q : Q (.str (Txt.removeprefix a b)) H) : rRmp (.str a) [.str b] H Q := ⟨a, b, rfl, rfl, h, q⟩
theorem g_intS {n : Int} (h : intText? a = some n) (hl : a.length ≤ 640) (q : Q (.int n) H) : rIntS [.str a] H Q := ⟨a, n, rfl, h, hl, q⟩
theorem g_strAI {i : Int} (h : i.natAbs.log2 < 1920) (q : Q (.str (toString i)) H) : rStrA [.int i] H Q := .inl ⟨i, rfl, h, q⟩
theorem g_strAS (q : Q (.str a) H) : rStrA [.str a] H Q := .inr ⟨a, rfl, q⟩
theorem g_joinM {p : Addr} {ys : List Str} (h : H p = some (.lst (ys.map V.str))) (hl : (ys.map (·.length)).sum + ys.length * a.length ≤ 16777216) (q : Q (.str (Str.join a ys)) H) : rJoin K (.str a) [.ref p] H Q :=
  ⟨a, p, ys, rfl, rfl, .inl (.of h), hl, by rw [join_eq]; exact q⟩
end
end Y
namespace Y
open PySem PySem.Spec PyProof.Rows L2
section
variable {K : PySem.W.Frag} {σ : L2.St} {G H : Hp} {Q : VK} {ds es : List PyData} {x v : V} {lo hi : Option Int} {R : L2.St → Hp → Prop} {d1 d2 d3 : PyData} {i j k : Nat}
/-- a part of a known list -/
theorem g_slK (e : Ex G H) (hx : Dp K G x (.list ds)) (hc : ∀ xs : List V, DpAll K G xs ds → DpAll K G (cutV xs lo hi) es) (q : ∀ p G' H', Nx [] G H G' H' → Dp K G' (.ref p) (.list es) → Q (.ref p) H') : rSlL K x lo hi H Q := by
  obtain ⟨a, xs, rfl, ha, da⟩ := dp_lst hx
  exact ⟨a, xs, rfl, e.seqL ha, fun p hp => let ⟨n, d⟩ := nx_lst e (hc xs da) hp; q p _ _ n d⟩
theorem g_unL2 (e : Ex G H) (h : Dp K G v (.list [d1, d2])) (q : ∀ v1 v2, Dp K G v1 d1 → Dp K G v2 d2 → R ((σ.set i (some v1)).set j (some v2)) H) : gLst K 2 (gCons (gName i) (gCons (gName j) gNil)) v σ H R := by
  obtain ⟨a, xs, rfl, hs, hd⟩ := dp_lst h
  cases hd with
  | cons h1 t => cases t with
    | cons h2 t => cases t; exact ⟨a, _, rfl, e.seqL hs, rfl, _, _, rfl, _, _, rfl, rfl, q _ _ h1 h2⟩
theorem g_unLM3 {p : Addr} {xs : List V} (h : H p = some (.lst xs)) (hd : DpAll K G xs [d1, d2, d3]) (q : ∀ v1 v2 v3, Dp K G v1 d1 → Dp K G v2 d2 → Dp K G v3 d3 → R (((σ.set i (some v1)).set j (some v2)).set k (some v3)) H) : gLst K 3 (gCons (gName i) (gCons (gName j) (gCons (gName k) gNil))) (.ref p) σ H R := by
  cases hd with
  | cons h1 t => cases t with
    | cons h2 t => cases t with
      | cons h3 t => cases t; exact ⟨p, _, rfl, .of h, rfl, _, _, rfl, _, _, rfl, _, _, rfl, rfl, q _ _ _ h1 h2 h3⟩
end
end Y
namespace Y
open PySem PySem.Spec PyProof.Rows L2
def vwOf (n : Str) (rs : List PyData) : PyData := .tuple [.str n, .tuple rs]
theorem g_cont {D : Ends} {σ : L2.St} {H : Hp} (q : D.ct σ H) : tCont D σ H := q
theorem g_brk {D : Ends} {σ : L2.St} {H : Hp} (q : D.bk σ H) : tBreak D σ H := q
end Y

namespace Y
open PySem PySem.Spec PyProof.Rows L2
/-! ### tables -/
section
variable {κ α : Type} [DecidableEq κ]
def gtM (m : List (κ × α)) (k : κ) : Option α := (m.find? fun p => decide (p.1 = k)).map (·.2)
def ptM (m : List (κ × α)) (k : κ) (a : α) : List (κ × α) :=
  if (m.any fun p => decide (p.1 = k)) = true then m.map (fun p => if p.1 = k then (p.1, a) else p) else m ++ [(k, a)]
theorem gtM_cons {p : κ × α} {m : List (κ × α)} {k : κ} : gtM (p :: m) k = if p.1 = k then some p.2 else gtM m k := by
  unfold gtM
  rw [List.find?_cons]
  by_cases h : p.1 = k
  · simp [h]
  · simp [h]
theorem gtM_none {m : List (κ × α)} {k : κ} : gtM m k = none ↔ k ∉ m.map (·.1) := by
  induction m with
  | nil => simp [gtM]
  | cons p m ih =>
    rw [gtM_cons]
    by_cases h : p.1 = k
    · simp [h]
    · rw [if_neg h, ih, List.map_cons, List.mem_cons]
      exact ⟨fun a b => b.elim (fun z => h z.symm) a, fun a b => a (.inr b)⟩
theorem gtM_any {m : List (κ × α)} {k : κ} : (m.any fun p => decide (p.1 = k)) = (gtM m k).isSome := by
  induction m with
  | nil => rfl
  | cons p m ih =>
    rw [gtM_cons, List.any_cons, ih]
    by_cases h : p.1 = k <;> simp [h]
theorem gtM_map {m : List (κ × α)} {k k' : κ} {a : α} : gtM (m.map fun p => if p.1 = k then (p.1, a) else p) k' = if k = k' then (if (gtM m k).isSome then some a else none) else gtM m k' := by
  induction m with
  | nil => simp [gtM]
  | cons p m ih =>
    rw [List.map_cons, gtM_cons, ih, gtM_cons, gtM_cons]
    by_cases h1 : p.1 = k
    · subst h1
      by_cases h2 : p.1 = k' <;> simp [h2]
    · simp only [h1, if_false]
      by_cases h2 : k = k'
      · subst h2
        simp [h1]
      · simp [h2]
theorem gtM_app {m m' : List (κ × α)} {k : κ} : gtM (m ++ m') k = (gtM m k).or (gtM m' k) := by
  induction m with
  | nil => simp [gtM]
  | cons p m ih =>
    rw [List.cons_append, gtM_cons, gtM_cons, ih]
    by_cases h : p.1 = k <;> simp [h]
theorem gtM_ptM {m : List (κ × α)} {k k' : κ} {a : α} : gtM (ptM m k a) k' = if k = k' then some a else gtM m k' := by
  unfold ptM
  rw [gtM_any]
  by_cases h : (gtM m k).isSome = true
  · rw [if_pos h, gtM_map, if_pos h]
  · rw [if_neg h, gtM_app, gtM_cons]
    have h' : gtM m k = none := by simpa using h
    by_cases h2 : k = k'
    · subst h2
      simp [h']
    · simp [h2, gtM]
theorem keys_map {m : List (κ × α)} {k : κ} {a : α} : (m.map fun p => if p.1 = k then (p.1, a) else p).map (·.1) = m.map (·.1) := by
  rw [List.map_map]
  refine List.map_congr_left fun p _ => ?_
  show (if p.1 = k then (p.1, a) else p).1 = p.1
  split <;> rfl
theorem keys_ptM {m : List (κ × α)} {k : κ} {a : α} : (ptM m k a).map (·.1) = if k ∈ m.map (·.1) then m.map (·.1) else m.map (·.1) ++ [k] := by
  unfold ptM
  rw [gtM_any]
  by_cases h : k ∈ m.map (·.1)
  · have : (gtM m k).isSome = true := by
      cases e : gtM m k with
      | none => exact absurd h (gtM_none.mp e)
      | some _ => rfl
    rw [if_pos this, if_pos h, keys_map]
  · rw [if_neg (by rw [gtM_none.mpr h]; simp), if_neg h, List.map_append]
    rfl
theorem len_ptM {m : List (κ × α)} {k : κ} {a : α} : (ptM m k a).length ≤ m.length + 1 := by
  unfold ptM
  split <;> simp
theorem ptM_new {m : List (κ × α)} {k : κ} {a : α} (h : k ∉ m.map (·.1)) : ptM m k a = m ++ [(k, a)] := by
  unfold ptM
  rw [gtM_any, gtM_none.mpr h]
  simp
end
section
variable {K : PySem.W.Frag} {G : Hp} {κ : Type} [DecidableEq κ]
theorem gt_rel (k : κ) : ∀ {kvs : List (κ × V)} {md : List (κ × PyData)}, kvs.map (·.1) = md.map (·.1) → DpAll K G (kvs.map (·.2)) (md.map (·.2)) →
    (∀ x, gtM md k = some x → ∃ v, valV kvs k = some v ∧ Dp K G v x) ∧ (gtM md k = none → valV kvs k = none)
  | [], [], _, _ => ⟨(fun _ h => nomatch h), fun _ => rfl⟩
  | [], _ :: _, h, _ => by simp at h
  | _ :: _, [], h, _ => by simp at h
  | (k1, v) :: kvs, (k2, x) :: md, h, hd => by
    simp only [List.map_cons, List.cons.injEq] at h
    obtain ⟨rfl, h2⟩ := h
    cases hd with
    | cons d1 d2 =>
      have ih := gt_rel k h2 d2
      rw [gtM_cons]
      by_cases hk : k1 = k
      · rw [valV_pos (p := (k1, v)) hk]
        simp only [hk, if_true]
        exact ⟨fun y hy => by cases hy; exact ⟨v, rfl, d1⟩, fun z => nomatch z⟩
      · rw [valV_neg (p := (k1, v)) hk]
        simp only [hk, if_false]
        exact ih
theorem dpAll_at {vs : List V} {ds : List PyData} (hl : vs.length = ds.length) (h : ∀ (i : Nat) v d, vs[i]? = some v → ds[i]? = some d → Dp K G v d) : DpAll K G vs ds := by
  induction vs generalizing ds with
  | nil =>
    cases ds with
    | nil => exact .nil
    | cons _ _ => simp at hl
  | cons v vs ih =>
    cases ds with
    | nil => simp at hl
    | cons d ds =>
      exact .cons (h 0 v d rfl rfl) (ih (by simpa using hl) fun i v' d' h1 h2 => h (i + 1) v' d' h1 h2)
theorem pt_map (k : κ) {v : V} {x : PyData} (dv : Dp K G v x) : ∀ {kvs : List (κ × V)} {md : List (κ × PyData)}, kvs.map (·.1) = md.map (·.1) → DpAll K G (kvs.map (·.2)) (md.map (·.2)) →
    DpAll K G ((kvs.map fun p => if p.1 = k then (p.1, v) else p).map (·.2)) ((md.map fun p => if p.1 = k then (p.1, x) else p).map (·.2))
  | [], [], _, _ => .nil
  | [], _ :: _, h, _ => by simp at h
  | _ :: _, [], h, _ => by simp at h
  | (k1, u) :: kvs, (k2, y) :: md, h, hd => by
    simp only [List.map_cons, List.cons.injEq] at h
    obtain ⟨rfl, h2⟩ := h
    cases hd with
    | cons d1 d2 =>
      have ih := pt_map k dv h2 d2
      rw [List.map_cons, List.map_cons, List.map_cons, List.map_cons]
      refine .cons ?_ ih
      by_cases hk : k1 = k
      · simp only [hk, if_true]; exact dv
      · simp only [hk, if_false]; exact d1
theorem pt_rel (k : κ) {v : V} {x : PyData} (dv : Dp K G v x) {kvs : List (κ × V)} {md : List (κ × PyData)} (h : kvs.map (·.1) = md.map (·.1)) (hd : DpAll K G (kvs.map (·.2)) (md.map (·.2))) :
    (putK kvs k v).map (·.1) = (ptM md k x).map (·.1) ∧ DpAll K G ((putK kvs k v).map (·.2)) ((ptM md k x).map (·.2)) := by
  have e : putK kvs k v = ptM kvs k v := rfl
  refine ⟨by rw [e, keys_ptM, keys_ptM, h], ?_⟩
  rw [e]
  unfold ptM
  have ea : (kvs.any fun p => decide (p.1 = k)) = (md.any fun p => decide (p.1 = k)) := by
    have q1 : ∀ {β : Type} (m : List (κ × β)), (m.any fun p => decide (p.1 = k)) = (m.map (·.1)).any fun a => decide (a = k) := fun m => by rw [List.any_map]; rfl
    rw [q1, q1, h]
  rw [ea]
  split
  · exact pt_map k dv h hd
  · rw [List.map_append, List.map_append]
    exact dpAll_snoc hd dv
end
/-- a dict of data that stands, apart from what is known -/
def DctAt (K : PySem.W.Frag) (d : Addr) (G H : Hp) (md : List (Key × PyData)) : Prop := ∃ kvs, H d = some (.dK kvs) ∧ G d = none ∧ kvs.map (·.1) = md.map (·.1) ∧ DpAll K G (kvs.map (·.2)) (md.map (·.2))
section
variable {K : PySem.W.Frag} {d A : Addr} {G H G' H' : Hp} {md : List (Key × PyData)} {M : List Addr} {o : HO} {k : Key} {x y v : V} {dx : PyData} {Q : VK} {R : Hp → Prop}
theorem DctAt.go (r : DctAt K d G H md) (n : Nx M G H G' H') (hd : d ∉ M) : DctAt K d G' H' md := by
  obtain ⟨kvs, h, g, hk, dd⟩ := r
  exact ⟨kvs, n.fr d _ hd h, n.old d g (by rw [h]; exact fun z => nomatch z), hk, dpAll_mono n.gg dd⟩
theorem DctAt.upd (r : DctAt K d G H md) (h : A ≠ d) : DctAt K d G (upd H A o) md := by
  obtain ⟨kvs, h1, g, r⟩ := r
  exact ⟨kvs, by rw [upd_ne h.symm]; exact h1, g, r⟩
theorem DctAt.live (r : DctAt K d G H md) : H d ≠ none := by
  obtain ⟨kvs, h1, _⟩ := r
  rw [h1]; exact fun z => nomatch z
theorem DctAt.len (r : DctAt K d G H md) : ∃ kvs, H d = some (.dK kvs) ∧ kvs.length = md.length := by
  obtain ⟨kvs, h1, _, hk, _⟩ := r
  exact ⟨kvs, h1, by simpa using congrArg List.length hk⟩
theorem g_newD (e : Ex G H) (q : ∀ p H', Nx [] G H G H' → H p = none → DctAt K p G H' [] → Q (.ref p) H') : tDNewK σ H Q := g_new fun p hp => q p _ (Nx.own e hp) hp ⟨[], upd_same, e.free hp, rfl, .nil⟩
theorem g_dcGet (r : DctAt K d G H md) (hk : y = kV k) (hg : gtM md k = some dx) (q : ∀ v, Dp K G v dx → Q v H) : DGeW Q (.ref d) y H := by
  obtain ⟨kvs, h, g, he, dd⟩ := r
  obtain ⟨v, hv, dv⟩ := (gt_rel k he dd).1 dx hg
  exact ⟨d, v, rfl, .inl ⟨kvs, k, .inl h, hk, hv.symm⟩, q v dv⟩
theorem isSome_rel {kvs : List (Key × V)} (he : kvs.map (·.1) = md.map (·.1)) (dd : DpAll K G (kvs.map (·.2)) (md.map (·.2))) : (valV kvs k).isSome = (gtM md k).isSome := by
  have h := gt_rel k he dd
  cases e : gtM md k with
  | none => rw [h.2 e]; rfl
  | some z =>
    obtain ⟨v, hv, _⟩ := h.1 z e
    rw [hv]; rfl
theorem g_dcIn (r : DctAt K d G H md) (hk : y = kV k) (q : Q (.bl (gtM md k).isSome) H) : DInW Q y (.ref d) H := by
  obtain ⟨kvs, h, g, he, dd⟩ := r
  exact ⟨d, _, rfl, .inl ⟨kvs, k, .inl h, hk, rfl⟩, by rw [isSome_rel he dd]; exact q⟩
theorem g_dcNi (r : DctAt K d G H md) (hk : y = kV k) (q : Q (.bl (!(gtM md k).isSome)) H) : DNiW Q y (.ref d) H := by
  obtain ⟨kvs, h, g, he, dd⟩ := r
  exact ⟨d, _, rfl, .inl ⟨kvs, k, .inl h, hk, rfl⟩, by rw [isSome_rel he dd]; exact q⟩
theorem g_dcPut (e : Ex G H) (r : DctAt K d G H md) (hk : y = kV k) (dv : Dp K G v dx) (hl : md.length < 100000) (q : ∀ H', Nx [d] G H G H' → DctAt K d G H' (ptM md k dx) → R H') : DPuW R v (.ref d) y H := by
  obtain ⟨kvs, h, g, he, dd⟩ := r
  have hlen : kvs.length = md.length := by simpa using congrArg List.length he
  obtain ⟨p1, p2⟩ := pt_rel k dv he dd
  exact ⟨d, _, rfl, .inl ⟨kvs, k, h, hk, szl (by omega), rfl⟩, q _ (Nx.set e g (by simp)) ⟨_, upd_same, g, p1, p2⟩⟩
end
/-! ### while, truth, parts of lists that stand -/
section
variable {K : PySem.W.Frag} {σ : L2.St} {G H : Hp} {Q : VK} {D : Ends} {c : TT} {tb : TS} {ta : TE} {QT : Bool → Hp → Prop} {x y : V} {p b : Addr} {ds es L L' : List PyData}
theorem g_while (n : Nat) (Pv : Nat → L2.St → Hp → Prop) (h0 : Pv n σ H)
    (hs : ∀ m σ' H', Pv m σ' H' → c σ' H' fun b H1 => if b = true then ∃ N : L2.St → Hp → Prop, (∀ σ2 H2, N σ2 H2 → ∃ m', m' < m ∧ Pv m' σ2 H2) ∧ tb { D with nx := N, ct := N, bk := D.nx } σ' H1 else D.nx σ' H1) : tWhile c tb D σ H :=
  ⟨Pv, ⟨n, h0⟩, hs⟩
theorem g_whN {n : Nat} {Pv : Nat → L2.St → Hp → Prop} (q : tb { D with nx := fun σ2 H2 => ∃ m, m < n ∧ Pv m σ2 H2, ct := fun σ2 H2 => ∃ m, m < n ∧ Pv m σ2 H2, bk := D.nx } σ H) :
    ∃ N : L2.St → Hp → Prop, (∀ σ2 H2, N σ2 H2 → ∃ m', m' < n ∧ Pv m' σ2 H2) ∧ tb { D with nx := N, ct := N, bk := D.nx } σ H := ⟨_, fun _ _ z => z, q⟩
def tTru (K : PySem.W.Frag) (ta : TE) : TT := fun σ H Q => ta σ H fun x H' => ∃ k, TruV K x H' k ∧ Q k H'
theorem pt_truthK {X : Cx} {a : Expr} (h : X.K = K) (ha : PE X a ta) (he : ∀ whole, isTrue a X.env whole = (do let v ← whole; standAt a.pos; holding [v] (truthy v))) : PT X a (tTru K ta) := h ▸ pt_truth ha he
def TruW (K : PySem.W.Frag) (QT : Bool → Hp → Prop) (x : V) (H' : Hp) : Prop := ∃ k, TruV K x H' k ∧ QT k H'
theorem g_tru (q : ta σ H fun x H' => TruW K QT x H') : tTru K ta σ H QT := q
theorem g_truL {xs : List V} (h : SqL K H p xs) (q : QT (!xs.isEmpty) H) : TruW K QT (.ref p) H := ⟨_, .inl ⟨xs, h, rfl⟩, q⟩
theorem g_slM {lo hi : Option Int} (e : Ex G H) (r : LstAt K b G H L) (hc : ∀ xs : List V, DpAll K G xs L → DpAll K G (cutV xs lo hi) es) (q : ∀ p H', Nx [] G H G H' → H p = none → LstAt K p G H' es → Q (.ref p) H') : rSlL K (.ref b) lo hi H Q := by
  obtain ⟨xs, h, g, d⟩ := r
  exact ⟨b, xs, rfl, .of h, fun p hp => q p _ (Nx.own e hp) hp ⟨_, upd_same, e.free hp, hc xs d⟩⟩
theorem g_slMHi {k : Nat} {i : Int} (e : Ex G H) (r : LstAt K b G H L) (hj : i = (k : Int)) (q : ∀ p H', Nx [] G H G H' → H p = none → LstAt K p G H' (L.take k) → Q (.ref p) H') : rSlL K (.ref b) none (some i) H Q := by
  subst hj
  exact g_slM e r (fun xs d => by rw [cut_hi]; exact dpAll_take k d) q
theorem g_slMLo {k : Nat} {i : Int} (e : Ex G H) (r : LstAt K b G H L) (hj : i = (k : Int)) (q : ∀ p H', Nx [] G H G H' → H p = none → LstAt K p G H' (L.drop k) → Q (.ref p) H') : rSlL K (.ref b) (some i) none H Q := by
  subst hj
  exact g_slM e r (fun xs d => by rw [cut_lo]; exact dpAll_drop k d) q
theorem g_catM (e : Ex G H) (r1 : LstAt K p G H L) (r2 : LstAt K b G H L') (hl : L.length + L'.length ≤ 100000) (q : ∀ r H', Nx [] G H G H' → H r = none → LstAt K r G H' (L ++ L') → Q (.ref r) H') : rCat (.ref p) (.ref b) H Q := by
  obtain ⟨xs, h, g, d⟩ := r1
  obtain ⟨ys, h2, g2, d2⟩ := r2
  refine ⟨p, b, xs, ys, rfl, rfl, h, h2, by rw [dpAll_len d, dpAll_len d2]; exact szle hl, fun r hr => q r _ (Nx.own e hr) hr ⟨_, upd_same, e.free hr, dpAll_app d d2⟩⟩
theorem g_ixLs {i : Int} {k : Nat} {d : PyData} (r : LstAt K p G H L) (hi : L[k]? = some d) (hj : i = (k : Int)) (q : ∀ v, Dp K G v d → Q v H) : rIxL K (.ref p) (.int i) H Q := by
  obtain ⟨xs, h, g, da⟩ := r
  obtain ⟨v, hv, dv⟩ := dpAll_get da hi
  subst hj
  exact ⟨p, xs, _, v, rfl, rfl, .of h, atI_nat hv, q v dv⟩
theorem g_lenLs (r : LstAt K p G H L) (q : Q (.int (L.length : Int)) H) : rLen K [.ref p] H Q := by
  obtain ⟨xs, h, g, da⟩ := r
  exact ⟨p, xs, rfl, .inl (.of h), by rw [dpAll_len da]; exact q⟩
theorem g_appLs (e : Ex G H) (r : LstAt K p G H L) (dy : Dp K G y d) (hl : L.length < 100000) (q : ∀ H', Nx [p] G H G H' → LstAt K p G H' (L ++ [d]) → Q .non H') : rAppend (.ref p) [y] H Q := by
  obtain ⟨xs, h, g, da⟩ := r
  exact ⟨p, xs, y, rfl, rfl, h, by rw [dpAll_len da]; exact szl (by omega), q _ (Nx.set e g (by simp)) ⟨_, upd_same, g, dpAll_snoc da dy⟩⟩
theorem g_tyLs {P : Prop} (r : LstAt K p G H L) (q : P) : tyV K "list" (.ref p) H ∧ P := by
  obtain ⟨xs, h, g, da⟩ := r
  exact g_tyL h q
theorem g_setLs {i : Int} {k : Nat} {R : Hp → Prop} (e : Ex G H) (r : LstAt K p G H L) (dy : Dp K G y d) (hj : i = (k : Int)) (hk : k < L.length) (q : ∀ H', Nx [p] G H G H' → LstAt K p G H' (L.set k d) → R H') : rSetL (.ref p) (.int i) y H R := by
  obtain ⟨xs, h, g, da⟩ := r
  refine g_setM h hj (by rw [dpAll_len da]; exact hk) (q _ (Nx.set e g (by simp)) ⟨_, upd_same, g, ?_⟩)
  refine dpAll_at (by simp [dpAll_len da]) fun j u w hu hw => ?_
  rw [List.getElem?_set] at hu hw
  rw [dpAll_len da] at hu
  by_cases hkj : k = j
  · subst hkj
    rw [if_pos rfl, if_pos hk] at hu hw
    cases hu; cases hw
    exact dy
  · rw [if_neg hkj] at hu hw
    obtain ⟨d', hd', dd⟩ := dpAll_got da hu
    rw [hw] at hd'
    cases hd'
    exact dd
theorem g_walkLs {P : Addr → Prop} (r : LstAt K p G H L) (q : (∀ M, p ∉ M → Src K M (Itl K p) G H L) → P p) : ∃ b, V.ref p = .ref b ∧ (∃ xs, SqL K H b xs) ∧ P b := by
  obtain ⟨xs, h, g, da⟩ := r
  exact g_walkM h da q
theorem g_lstLs {xs : List V} (e : Ex G H) (h : DpAll K G xs L) (hl : L.length ≤ 100000) (q : ∀ p H', Nx [] G H G H' → H p = none → LstAt K p G H' L → Q (.ref p) H') : MkL xs H Q :=
  ⟨by rw [dpAll_len h]; exact szle hl, fun p hp => q p _ (Nx.own e hp) hp ⟨_, upd_same, e.free hp, h⟩⟩
theorem g_inSs {neg : Bool} {ss : List Str} {t : Str} (r : LstAt K p G H (ss.map .str)) (q : Q (.bl (if neg = true then !decide (t ∈ ss) else decide (t ∈ ss))) H) : rIn K neg (.str t) (.ref p) H Q := by
  obtain ⟨xs, h, g, da⟩ := r
  rw [dpAll_str_inv da] at h
  exact g_inS (.of h) q
theorem g_inSsF {ss : List Str} {t : Str} (r : LstAt K p G H (ss.map .str)) (q : Q (.bl (decide (t ∈ ss))) H) : rIn K false (.str t) (.ref p) H Q := g_inSs r q
theorem g_inSsT {ss : List Str} {t : Str} (r : LstAt K p G H (ss.map .str)) (q : Q (.bl (!decide (t ∈ ss))) H) : rIn K true (.str t) (.ref p) H Q := g_inSs r q
theorem g_eqSame {H : Hp} {x y : V} {d : PyData} {Q : VK} (h1 : Dp K H x d) (h2 : Dp K H y d) (s : SeqAt.shaped d = true) (q : Q (.bl true) H) : rEqD K x y H Q :=
  ⟨d, d, h1, h2, s, s, by rw [SeqAt.eqv_refl _ (shaped_lay s)]; exact q⟩
theorem g_eqL {a b : Addr} (e : Ex G H) (h1 : LstAt K a G H L) (h2 : LstAt K b G H L) (s : SeqAt.shaped (.list L) = true) (q : Q (.bl true) H) : rEqD K (.ref a) (.ref b) H Q :=
  g_eqSame (h1.dp e) (h2.dp e) s q
end
/-! ### a comprehension whose items are told as they are -/
theorem g_lcV {K : PySem.W.Frag} {σ : L2.St} {G H : Hp} {Q : VK} {te : TE} {tt : TT} {J : It} {M : List Addr} {ds : List PyData} {A : Addr} {j : Nat} (S : Src K M J G H ds) (e : Ex G H) (hA : H A = none) (hM : ∀ b ∈ M, H b ≠ none) (hz : ds.length < sizeLine) (Jv : Nat → List V → Hp → Hp → Prop)
    (jA : ∀ i acc G' H' o, Jv i acc G' H' → Jv i acc G' (upd H' A o)) (jN : ∀ i acc G' H' G1 H1, Nx [] G' H' G1 H1 → Jv i acc G' H' → Jv i acc G1 H1) (j0 : Jv 0 [] G H)
    (hs : ∀ i d v acc G' H', ds[i]? = some d → Dp K G' v d → Nx M G H G' H' → acc.length ≤ i → Jv i acc G' H' → ∀ (QE : VK) (QN : Hp → Prop),
      (∀ y G4 H4, Nx M G' H' G4 H4 → Jv (i + 1) (acc ++ [y]) G4 H4 → QE y H4) → (∀ G3 H3, Nx M G' H' G3 H3 → Jv (i + 1) acc G3 H3 → QN H3) →
      tt ((wipe σ [j]).set j (some v)) H' fun b H3 => if b = true then te ((wipe σ [j]).set j (some v)) H3 QE else QN H3)
    (hd : ∀ G' H' ys, Jv ds.length ys G' H' → Nx M G H G' H' → G' A = none → H' A = some (.lst ys) → ys.length ≤ ds.length → Q (.ref A) H') : LcW J (gName j) tt te [j] σ A Q H := by
  have st0 : Nx [] G H G (upd H A (.lst [])) := Nx.own e hA
  have hAM : A ∉ M := fun z => hM A z hA
  refine ⟨fun i m H' => m = ds.length - i ∧ i ≤ ds.length ∧ ∃ G' ys, Nx M G H G' H' ∧ G' A = none ∧ H' A = some (.lst ys) ∧ ys.length ≤ i ∧ Jv i ys G' H',
    ⟨ds.length, by simp, Nat.zero_le _, G, [], st0.pure, e.free hA, upd_same, Nat.le_refl _, jA _ _ _ _ _ j0⟩, ?_⟩
  rintro i m H' ⟨rfl, hi, G', ys, n, gA, hys, hl, jv⟩
  by_cases hlt : i < ds.length
  · refine .inr ⟨S.go i G' H' n hlt, fun H'' => ∃ G'' ys, Nx M G H G'' H'' ∧ G'' A = none ∧ H'' A = some (.lst ys) ∧ ys.length ≤ i + 1 ∧ Jv (i + 1) ys G'' H'',
      fun H'' ⟨G'', ys', r⟩ => ⟨ds.length - (i + 1), by omega, rfl, hlt, G'', ys', r⟩, fun v H1 y => ?_⟩
    have hg : ds[i]? = some ds[i] := by simp [hlt]
    obtain ⟨G1, n1, d1⟩ := S.yld i _ G' H' v H1 n hg y
    have n2 : Nx M G H G1 H1 := n.trans n1.pure
    have gA1 : G1 A = none := n1.old A gA (by rw [hys]; exact fun z => nomatch z)
    have hys1 : H1 A = some (.lst ys) := n1.fr A _ (by simp) hys
    refine ⟨wipe1, hs i _ v ys G1 H1 hg d1 n2 hl (jN _ _ _ _ _ _ n1 jv) _ _ (fun y G4 H4 n4 jv' => ?_) (fun G3 H3 n3 jv' => ?_)⟩
    · have gA4 : G4 A = none := n4.old A gA1 (by rw [hys1]; exact fun z => nomatch z)
      have hys4 : H4 A = some (.lst ys) := n4.fr A _ hAM hys1
      have n5 : Nx M G H G4 H4 := n2.trans n4
      have n6 : Nx [A] G4 H4 G4 (upd H4 A (.lst (ys ++ [y]))) := Nx.set n4.gh gA4 (by simp)
      have n7 : Nx (A :: M) G H G4 (upd H4 A (.lst (ys ++ [y]))) := (n5.mono fun _ z => List.mem_cons_of_mem _ z).trans (n6.mono fun b z => by simp at z; simp [z])
      exact ⟨ys, hys4, by omega, G4, ys ++ [y], n7.drop hA, gA4, upd_same, by simp; omega, jA _ _ _ _ _ jv'⟩
    · exact ⟨G3, ys, n2.trans n3, n3.old A gA1 (by rw [hys1]; exact fun z => nomatch z), n3.fr A _ hAM hys1, by omega, jv'⟩
  · have e' : i = ds.length := by omega
    subst e'
    exact .inl ⟨S.stop _ G' H' n (Nat.le_refl _), hd G' H' ys jv n gA hys hl⟩
end Y
namespace Y
open PySem PySem.Spec PyProof.Rows L2
section
variable {K : PySem.W.Frag} {G H : Hp} {Q : VK} {p : Addr} {ns : List Str} {i : Int} {L : List PyData}
theorem g_ixLsN (r : LstAt K p G H (ns.map .str)) (h0 : 0 ≤ i) (h1 : i < (ns.length : Int)) (q : ∀ s, s ∈ ns → ns[i.toNat]? = some s → Q (.str s) H) : rIxL K (.ref p) (.int i) H Q := by
  have hl : i.toNat < ns.length := by omega
  refine g_ixLs (k := i.toNat) (d := .str ns[i.toNat]) r (by rw [List.getElem?_map, List.getElem?_eq_getElem hl]; rfl) (by omega) fun v dv => ?_
  cases dp_str dv
  exact q _ (List.getElem_mem hl) (by simp [hl])
theorem g_ixLsD (r : LstAt K p G H L) (h0 : 0 ≤ i) (h1 : i < (L.length : Int)) (q : ∀ v d, d ∈ L → L[i.toNat]? = some d → Dp K G v d → Q v H) : rIxL K (.ref p) (.int i) H Q := by
  have hl : i.toNat < L.length := by omega
  exact g_ixLs (k := i.toNat) (d := L[i.toNat]) r (by simp [hl]) (by omega) fun v dv => q v _ (List.getElem_mem hl) (by simp [hl]) dv
end
end Y
namespace Y
open PySem PySem.Spec PyProof.Rows L2
/-- a loop over a list that stands, its items told as they are -/
theorem g_forV {K : PySem.W.Frag} {σ : L2.St} {G H : Hp} {D : Ends} {g : TG} {tb : TS} {M : List Addr} {a : Addr} {xs : List V} (ha : H a = some (.lst xs)) (hM : a ∉ M) (e : Ex G H) (Pv : Nat → L2.St → Hp → Hp → Prop) (h0 : Pv 0 σ G H)
    (hs : ∀ i v σ' G' H', xs[i]? = some v → Nx M G H G' H' → Pv i σ' G' H' →
      g v σ' H' fun σ2 H2 => tb { D with nx := fun σ3 H3 => ∃ G3, Nx M G H G3 H3 ∧ Pv (i + 1) σ3 G3 H3, ct := fun σ3 H3 => ∃ G3, Nx M G H G3 H3 ∧ Pv (i + 1) σ3 G3 H3, bk := D.nx } σ2 H2)
    (hd : ∀ σ' G' H', Nx M G H G' H' → Pv xs.length σ' G' H' → D.nx σ' H') : ForW (Itl K a) g tb D σ H := by
  refine ⟨fun i m σ' H' => m = xs.length - i ∧ i ≤ xs.length ∧ ∃ G', Nx M G H G' H' ∧ Pv i σ' G' H', ⟨xs.length, by simp, Nat.zero_le _, G, Nx.refl e, h0⟩, ?_⟩
  rintro i m σ' H' ⟨rfl, hi, G', n, p⟩
  have hH : H' a = some (.lst xs) := n.fr a _ hM ha
  by_cases hlt : i < xs.length
  · refine .inr ⟨⟨xs, xs[i], .of hH, by simp [hlt]⟩, fun σ3 H3 => ∃ G3, Nx M G H G3 H3 ∧ Pv (i + 1) σ3 G3 H3, fun σ3 H3 ⟨G3, n3, p3⟩ => ⟨xs.length - (i + 1), by omega, rfl, hlt, G3, n3, p3⟩, fun v H1 y => ?_⟩
    obtain ⟨rfl, f⟩ := y
    exact hs i v σ' G' _ (f xs (.of hH)) n p
  · have e' : i = xs.length := by omega
    subst e'
    exact .inl ⟨⟨xs, .of hH, Nat.le_refl _⟩, hd σ' G' H' n p⟩
theorem g_walkV {H : Hp} {K : PySem.W.Frag} {P : Addr → Prop} {a : Addr} {xs : List V} (h : H a = some (.lst xs)) (q : P a) : ∃ b, V.ref a = .ref b ∧ (∃ xs, SqL K H b xs) ∧ P b := ⟨a, rfl, ⟨xs, .of h⟩, q⟩
/-- a known list of texts, just so -/
def KnL (G : Hp) (v : V) (ss : List Str) : Prop := ∃ b, v = .ref b ∧ G b = some (.lst (ss.map V.str))
theorem KnL.ex {G G' : Hp} {v : V} {ss : List Str} (h : KnL G v ss) (e : Ex G G') : KnL G' v ss := by
  obtain ⟨b, rfl, hb⟩ := h
  exact ⟨b, rfl, e _ _ hb⟩
theorem LstAt.knowL {K : PySem.W.Frag} {p : Addr} {G H G0 H0 : Hp} {M : List Addr} {ss : List Str} (r : LstAt K p G H (ss.map .str)) (n : Nx M G0 H0 G H) (h : H0 p = none) : ∃ G', Nx M G0 H0 G' H ∧ Y.Ex G G' ∧ KnL G' (.ref p) ss := by
  obtain ⟨vs, h1, g, d⟩ := r
  rw [dpAll_str_inv d] at h1
  exact ⟨_, n.know h h1 g, Ex.new g, p, rfl, upd_same⟩
theorem g_catK {K : PySem.W.Frag} {G H : Hp} {Q : VK} {p : Addr} {v : V} {ss ts : List Str} (e : Ex G H) (r1 : LstAt K p G H (ss.map .str)) (r2 : KnL G v ts) (hl : ss.length + ts.length ≤ 100000) (q : ∀ r H', Nx [] G H G H' → H r = none → LstAt K r G H' ((ss ++ ts).map .str) → Q (.ref r) H') : rCat (.ref p) v H Q := by
  obtain ⟨xs, h, g, d⟩ := r1
  obtain ⟨b, rfl, h2⟩ := r2
  rw [dpAll_str_inv d] at h
  refine ⟨p, b, _, _, rfl, rfl, h, e _ _ h2, by rw [List.length_map, List.length_map]; exact szle hl, fun r hr => q r _ (Nx.own e hr) hr ⟨_, upd_same, e.free hr, ?_⟩⟩
  rw [← List.map_append]
  exact dpAll_str _
/-- a list of one text, repeated -/
theorem g_repM {K : PySem.W.Frag} {G H : Hp} {Q : VK} {p : Addr} {L : List PyData} {i : Int} (e : Ex G H) (r : LstAt K p G H L) (h0 : 0 ≤ i) (h1 : i < 1000) (hl : L.length ≤ 100) (q : ∀ r H', Nx [] G H G H' → H r = none → LstAt K r G H' (List.replicate i.toNat L).flatten → Q (.ref r) H') : rRep (.ref p) (.int i) H Q := by
  obtain ⟨xs, h, g, d⟩ := r
  have hb : xs.length * i.toNat ≤ 100 * 1000 := Nat.mul_le_mul (by rw [dpAll_len d]; exact hl) (by omega)
  exact ⟨p, i, xs, rfl, rfl, h, by omega, by omega, Nat.le_trans hb (by rw [sizeLine_eq]; decide), fun r hr => q r _ (Nx.own e hr) hr ⟨_, upd_same, e.free hr, dpAll_rep d _⟩⟩
end Y
namespace Y
open PySem PySem.Spec PyProof.Rows L2
def rInsert : V → List V → Hp → VK → Prop := fun x vs H Q => ∃ (l : Addr) (xs : List V) (i : Int) (y : V), x = .ref l ∧ vs = [.int i, y] ∧ H l = some (.lst xs) ∧ xs.length < sizeLine ∧ 0 ≤ i ∧ i < 2 ^ 63 ∧ Q .non (upd H l (.lst (xs.take i.toNat ++ [y] ++ xs.drop i.toNat)))
theorem mt_insert {X : Cx} : MtR X "list.insert" rInsert := L2.mt_insert
section
variable {K : PySem.W.Frag} {G H : Hp} {Q : VK} {p : Addr} {L : List PyData} {y : V} {d : PyData}
theorem g_insLs {k : Nat} {i : Int} (e : Ex G H) (r : LstAt K p G H L) (dy : Dp K G y d) (hl : L.length < 100000) (hj : i = (k : Int)) (hk : k < 1000) (q : ∀ H', Nx [p] G H G H' → LstAt K p G H' (L.take k ++ [d] ++ L.drop k) → Q .non H') : rInsert (.ref p) [.int i, y] H Q := by
  obtain ⟨xs, h, g, da⟩ := r
  subst hj
  refine ⟨p, xs, _, y, rfl, rfl, h, by rw [dpAll_len da]; exact szl (by omega), by omega, by omega, q _ (Nx.set e g (by simp)) ⟨_, upd_same, g, ?_⟩⟩
  rw [show (k : Int).toNat = k by omega]
  exact dpAll_app (dpAll_app (dpAll_take k da) (.cons dy .nil)) (dpAll_drop k da)
theorem cut_m1 (xs : List V) : cutV xs none (some (-1)) = xs.take (xs.length - 1) := by
  unfold cutV
  rw [HT.sIx_none, List.drop_zero, Nat.sub_zero]
  congr 1
  show (if (-1 : Int) < 0 then ((-1 : Int) + (xs.length : Int)).toNat else min (-1 : Int).toNat xs.length) = _
  rw [if_pos (by decide)]
  omega
theorem g_repLs {i : Int} (e : Ex G H) (r : LstAt K p G H L) (h0 : 0 ≤ i) (h1 : i < 1000) (hl : L.length ≤ 100) (q : ∀ r H', Nx [] G H G H' → H r = none → LstAt K r G H' (List.replicate i.toNat L).flatten → Q (.ref r) H') : rRep (.ref p) (.int i) H Q := g_repM e r h0 h1 hl q
end
end Y

namespace Y
open PySem PySem.Spec PyProof.Rows L2
/-! ### d.update(e) -/
def rUpd : V → List V → Hp → VK → Prop := fun x xs H Q => ∃ (d o : Addr) (kvs more : List (Key × V)), x = .ref d ∧ xs = [.ref o] ∧ H d = some (.dK kvs) ∧ H o = some (.dK more) ∧ d ≠ o ∧ kvs.length + more.length ≤ sizeLine ∧ Q .non (upd H d (.dK (mergeK kvs more)))
theorem mt_update {X : Cx} : MtR X "dict.update" rUpd := by
  intro pins s σ H x xs v us Q I rx rxs h
  obtain ⟨d, o, kvs, more, rfl, rfl, hd, ho, hne, hz, q⟩ := h
  cases rx
  cases rxs with
  | cons ru rn =>
    cases rn
    cases ru
    obtain ⟨z, h0, vs, rel, dd⟩ := dk_of I.hok hd
    obtain ⟨z2, h02, vs2, rel2, dd2⟩ := dk_of I.hok ho
    refine call_meetsIn PySem.F.slot_dict_update dd.typeIs PySem.F.entry_dict_update (PySem.F.args_dict_update_2 _ _) (meets_dict_update (mixKind X.prog X.w) d o hne h02) ⟨vs, vs2, dd, dd2, by rw [← rel.length, ← rel2.length]; exact hz, fun h' dd' _ hs => ?_⟩
    have he : ∃ q, h'.get? d = some q := let ⟨q, _, _, hq, _⟩ := dd'; ⟨q, hq⟩
    exact ⟨.non, _, d_write (t' := s.toks) I (by rw [hd]; exact True.intro) hs he (dk_new (Nat.le_trans (length_mergeK more kvs) hz) h0 (KV.merge rel2 rel) dd'), rfl, q⟩
theorem keys_merge {κ : Type} [DecidableEq κ] (k : κ) : ∀ {more kvs : List (κ × V)}, k ∈ ((more.foldl (fun acc kv => putK acc kv.1 kv.2) kvs).map (·.1)) ↔ k ∈ kvs.map (·.1) ∨ k ∈ more.map (·.1)
  | [], kvs => by simp
  | p :: r, kvs => by
    rw [List.foldl_cons, keys_merge k (more := r)]
    have e : (putK kvs p.1 p.2).map (·.1) = if p.1 ∈ kvs.map (·.1) then kvs.map (·.1) else kvs.map (·.1) ++ [p.1] := keys_ptM (m := kvs)
    rw [e, List.map_cons, List.mem_cons]
    split
    · rename_i h
      constructor
      · rintro (h1 | h1)
        · exact .inl h1
        · exact .inr (.inr h1)
      · rintro (h1 | h1 | h1)
        · exact .inl h1
        · exact .inl (h1 ▸ h)
        · exact .inr h1
    · rw [List.mem_append, List.mem_singleton, or_assoc]
/-- a dict whose keys alone are told -/
def KeysAt (d : Addr) (G H : Hp) (n : Nat) (S : Key → Prop) : Prop := ∃ kvs, H d = some (.dK kvs) ∧ G d = none ∧ kvs.length ≤ n ∧ ∀ k, k ∈ kvs.map (·.1) ↔ S k
section
variable {K : PySem.W.Frag} {G H G' H' : Hp} {Q : VK} {d o : Addr} {n m : Nat} {S S' : Key → Prop} {M : List Addr} {md : List (Key × PyData)} {k : Key} {y : V}
theorem KeysAt.go (r : KeysAt d G H n S) (x : Nx M G H G' H') (hd : d ∉ M) : KeysAt d G' H' n S := by
  obtain ⟨kvs, h, g, r⟩ := r
  exact ⟨kvs, x.fr d _ hd h, x.old d g (by rw [h]; exact fun z => nomatch z), r⟩
theorem KeysAt.live (r : KeysAt d G H n S) : H d ≠ none := by
  obtain ⟨kvs, h1, _⟩ := r
  rw [h1]; exact fun z => nomatch z
theorem DctAt.keys (r : DctAt K d G H md) : KeysAt d G H md.length (fun k => k ∈ md.map (·.1)) := by
  obtain ⟨kvs, h, g, hk, _⟩ := r
  exact ⟨kvs, h, g, by rw [← List.length_map (f := (·.1)), hk, List.length_map]; exact Nat.le_refl _, fun k => by rw [hk]⟩
theorem g_upd (e : Ex G H) (r : KeysAt d G H n S) (r2 : KeysAt o G H m S') (hne : d ≠ o) (hz : n + m ≤ 100000) (q : ∀ H', Nx [d] G H G H' → KeysAt d G H' (n + m) (fun k => S k ∨ S' k) → Q .non H') : rUpd (.ref d) [.ref o] H Q := by
  obtain ⟨kvs, h, g, hl, hk⟩ := r
  obtain ⟨more, h2, g2, hl2, hk2⟩ := r2
  refine ⟨d, o, kvs, more, rfl, rfl, h, h2, hne, szle (by omega), q _ (Nx.set e g (by simp)) ⟨_, upd_same, g, Nat.le_trans (length_mergeK more kvs) (by omega), fun k => ?_⟩⟩
  have e := keys_merge k (more := more) (kvs := kvs)
  rw [hk, hk2] at e
  exact e
theorem g_tyKe {P : Prop} (r : KeysAt d G H n S) (q : P) : tyV K "dict" (.ref d) H ∧ P := by
  obtain ⟨kvs, h, _⟩ := r
  exact ⟨.inr (.inr (.inl ⟨rfl, .inl ⟨kvs, h⟩⟩)), q⟩
theorem valV_keys {kvs : List (Key × V)} : (valV kvs k).isSome = true ↔ k ∈ kvs.map (·.1) := by
  have e : valV kvs k = gtM kvs k := rfl
  rw [e]
  constructor
  · intro h
    exact Classical.byContradiction fun z => by rw [gtM_none.mpr z] at h; cases h
  · intro h
    cases e : gtM kvs k with
    | none => exact absurd h (gtM_none.mp e)
    | some v => rfl
theorem g_keIn {b : Bool} (r : KeysAt d G H n S) (hk : y = kV k) (hb : b = true ↔ S k) (q : Q (.bl b) H) : DInW Q y (.ref d) H := by
  obtain ⟨kvs, h, g, hl, hs⟩ := r
  refine ⟨d, _, rfl, .inl ⟨kvs, k, .inl h, hk, rfl⟩, ?_⟩
  have : (valV kvs k).isSome = b := by rw [Bool.eq_iff_iff, valV_keys, hb]; exact hs k
  rw [this]
  exact q
theorem g_keNi {b : Bool} (r : KeysAt d G H n S) (hk : y = kV k) (hb : b = true ↔ S k) (q : Q (.bl (!b)) H) : DNiW Q y (.ref d) H := by
  obtain ⟨kvs, h, g, hl, hs⟩ := r
  refine ⟨d, _, rfl, .inl ⟨kvs, k, .inl h, hk, rfl⟩, ?_⟩
  have : (valV kvs k).isSome = b := by rw [Bool.eq_iff_iff, valV_keys, hb]; exact hs k
  rw [this]
  exact q
theorem g_keNew (e : Ex G H) (q : ∀ p H', Nx [] G H G H' → H p = none → KeysAt p G H' 0 (fun _ => False) → Q (.ref p) H') : tDNewK σ H Q := g_new fun p hp => q p _ (Nx.own e hp) hp ⟨[], upd_same, e.free hp, Nat.le_refl _, by simp⟩
end
/-! ### {k: v for ..} -/
def DcW (J : It) (g : TG) (tt : TT) (tk tv : TE) (vs : List Nat) (σ : L2.St) (D : Addr) (Q : VK) (H1 : Hp) : Prop := ∃ W : Nat → Nat → Hp → Prop, (∃ m, W 0 m (upd H1 D (.dK []))) ∧ ∀ i m H, W i m H →
  (J.stop i H ∧ Q (.ref D) H) ∨ (J.go i H ∧ ∃ Nx : Hp → Prop, (∀ H', Nx H' → ∃ m', m' < m ∧ W (i + 1) m' H') ∧ ∀ x H', J.yld i H x H' → g x (wipe σ vs) H' fun σ2 H2 => wipe σ2 vs = wipe σ vs ∧ tt σ2 H2 fun b H3 =>
    if b = true then tk σ2 H3 fun y H4 => tv σ2 H4 fun z H5 => ∃ kvs k, y = kV k ∧ H5 D = some (.dK kvs) ∧ kvs.length < sizeLine ∧ Nx (upd H5 D (.dK (putK kvs k z))) else Nx H3)
theorem g_dc {wi : TI} {g : TG} {tt : TT} {tk tv : TE} {vs : List Nat} {σ : L2.St} {H : Hp} {Q : VK} (q : wi σ H fun J H1 => ∀ D, H1 D = none → DcW J g tt tk tv vs σ D Q H1) : tDc wi g tt tk tv vs σ H Q := q
/-- .. over one name -/
theorem g_dcC {K : PySem.W.Frag} {σ : L2.St} {G H : Hp} {Q : VK} {tk tv : TE} {tt : TT} {J : It} {M : List Addr} {ds : List PyData} {A : Addr} {j : Nat} (S : Src K M J G H ds) (e : Ex G H) (hA : H A = none) (hM : ∀ b ∈ M, H b ≠ none) (hz : ds.length < 100000) (Jv : Nat → List (Key × V) → Hp → Hp → Prop)
    (jA : ∀ i kvs G' H' o, Jv i kvs G' H' → Jv i kvs G' (upd H' A o)) (jN : ∀ i kvs G' H' G1 H1, Nx [] G' H' G1 H1 → Jv i kvs G' H' → Jv i kvs G1 H1) (j0 : Jv 0 [] G H)
    (hs : ∀ i d v kvs G' H', ds[i]? = some d → Dp K G' v d → Nx M G H G' H' → H' A ≠ none → Jv i kvs G' H' → ∀ (QE : V → V → Hp → Prop) (QN : Hp → Prop),
      (∀ y z k G4 H4, y = kV k → Nx M G' H' G4 H4 → Jv (i + 1) (putK kvs k z) G4 H4 → QE y z H4) → (∀ G3 H3, Nx M G' H' G3 H3 → Jv (i + 1) kvs G3 H3 → QN H3) →
      tt ((wipe σ [j]).set j (some v)) H' fun b H3 => if b = true then tk ((wipe σ [j]).set j (some v)) H3 fun y H4 => tv ((wipe σ [j]).set j (some v)) H4 fun z H5 => QE y z H5 else QN H3)
    (hd : ∀ G' H' kvs, Jv ds.length kvs G' H' → Nx M G H G' H' → G' A = none → H' A = some (.dK kvs) → kvs.length ≤ ds.length → Q (.ref A) H') : DcW J (gName j) tt tk tv [j] σ A Q H := by
  have st0 : Nx [] G H G (upd H A (.dK [])) := Nx.own e hA
  have hAM : A ∉ M := fun z => hM A z hA
  refine ⟨fun i m H' => m = ds.length - i ∧ i ≤ ds.length ∧ ∃ G' kvs, Nx M G H G' H' ∧ G' A = none ∧ H' A = some (.dK kvs) ∧ kvs.length ≤ i ∧ Jv i kvs G' H',
    ⟨ds.length, by simp, Nat.zero_le _, G, [], st0.pure, e.free hA, upd_same, Nat.le_refl _, jA _ _ _ _ _ j0⟩, ?_⟩
  rintro i m H' ⟨rfl, hi, G', kvs, n, gA, hys, hl, jv⟩
  by_cases hlt : i < ds.length
  · refine .inr ⟨S.go i G' H' n hlt, fun H'' => ∃ G'' kvs, Nx M G H G'' H'' ∧ G'' A = none ∧ H'' A = some (.dK kvs) ∧ kvs.length ≤ i + 1 ∧ Jv (i + 1) kvs G'' H'',
      fun H'' ⟨G'', kvs', r⟩ => ⟨ds.length - (i + 1), by omega, rfl, hlt, G'', kvs', r⟩, fun v H1 y => ?_⟩
    have hg : ds[i]? = some ds[i] := by simp [hlt]
    obtain ⟨G1, n1, d1⟩ := S.yld i _ G' H' v H1 n hg y
    have n2 : Nx M G H G1 H1 := n.trans n1.pure
    have gA1 : G1 A = none := n1.old A gA (by rw [hys]; exact fun z => nomatch z)
    have hys1 : H1 A = some (.dK kvs) := n1.fr A _ (by simp) hys
    refine ⟨wipe1, hs i _ v kvs G1 H1 hg d1 n2 (by rw [hys1]; exact fun z => nomatch z) (jN _ _ _ _ _ _ n1 jv) (fun y z H5 => ∃ kvs k, y = kV k ∧ H5 A = some (.dK kvs) ∧ kvs.length < sizeLine ∧ _) _ (fun y z k G4 H4 ey n4 jv' => ?_) (fun G3 H3 n3 jv' => ?_)⟩
    · have gA4 : G4 A = none := n4.old A gA1 (by rw [hys1]; exact fun z => nomatch z)
      have hys4 : H4 A = some (.dK kvs) := n4.fr A _ hAM hys1
      have n5 : Nx M G H G4 H4 := n2.trans n4
      have n6 : Nx [A] G4 H4 G4 (upd H4 A (.dK (putK kvs k z))) := Nx.set n4.gh gA4 (by simp)
      have n7 : Nx (A :: M) G H G4 (upd H4 A (.dK (putK kvs k z))) := (n5.mono fun _ z => List.mem_cons_of_mem _ z).trans (n6.mono fun b z => by simp at z; simp [z])
      exact ⟨kvs, k, ey, hys4, szl (by omega), G4, putK kvs k z, n7.drop hA, gA4, upd_same, Nat.le_trans (len_ptM (m := kvs)) (by omega), jA _ _ _ _ _ jv'⟩
    · exact ⟨G3, kvs, n2.trans n3, n3.old A gA1 (by rw [hys1]; exact fun z => nomatch z), n3.fr A _ hAM hys1, by omega, jv'⟩
  · have e' : i = ds.length := by omega
    subst e'
    exact .inl ⟨S.stop _ G' H' n (Nat.le_refl _), hd G' H' kvs jv n gA hys hl⟩
/-! ### {k: v} -/
def DiW (Q : VK) (p : Addr) (ps : List (V × V)) (H2 : Hp) : Prop := H2 p = some (.dK []) ∧ ∃ kvs : List (Key × V), ps = kvs.map (fun kv => (kV kv.1, kv.2)) ∧ kvs.length ≤ 15 ∧ Q (.ref p) (upd H2 p (.dK (mergeK [] kvs)))
section
variable {K : PySem.W.Frag} {σ : L2.St} {G H : Hp} {Q : VK} {trs : List (TE × TE)} {tk tv : TE} {p : Addr} {y : V} {R : List (V × V) → Hp → Prop} {k : Key}
theorem g_disp (q : ∀ p, H p = none → tPairs trs σ (upd H p (.dK [])) fun ps H2 => DiW Q p ps H2) : tDisp trs σ H Q := q
theorem g_pair (q : tk σ H fun x H1 => tv σ H1 fun y H2 => tPairs trs σ H2 fun ps H3 => R ((x, y) :: ps) H3) : tPairs ((tk, tv) :: trs) σ H R := q
theorem g_pair0 (q : R [] H) : tPairs [] σ H R := q
theorem g_di1 {x : V} (h : H p = some (.dK [])) (hx : x = kV k) (q : Q (.ref p) (upd H p (.dK [(k, y)]))) : DiW Q p [(x, y)] H := ⟨h, [(k, y)], by rw [hx]; rfl, by show 1 ≤ 15; decide, q⟩
end
/-! ### for k, v in d.items() -/
theorem unlock_nx {M : List Addr} {G H G' H' : Hp} {d : Addr} {u : HO} {od : Obj} (hd : H d = some u) (gd : G d = none) (hM : d ∉ M) (n : Nx M G (upd H d (.frz od u)) G' H') : H' d = some (.frz od u) ∧ G' d = none ∧ Nx M G H G' (upd H' d u) := by
  have h1 : H' d = some (.frz od u) := n.fr d _ hM upd_same
  have h2 : G' d = none := n.old d gd (by rw [upd_same]; exact fun z => nomatch z)
  have lv : ∀ b, H b ≠ none → (upd H d (.frz od u)) b ≠ none := fun b hb => by
    by_cases z : b = d
    · subst z; rw [upd_same]; exact fun w => nomatch w
    · rw [upd_ne z]; exact hb
  refine ⟨h1, h2, n.gg, n.gh.out h2, fun b g hb => n.old b g (lv b hb), fun b hb => ?_, fun b o hb ho => ?_⟩
  · by_cases z : b = d
    · subst z; rw [upd_same]; exact fun w => nomatch w
    · rw [upd_ne z]; exact n.live b (lv b hb)
  · by_cases z : b = d
    · subst z
      rw [hd] at ho
      cases ho
      exact upd_same
    · rw [upd_ne z]
      exact n.fr b o hb (by rw [upd_ne z]; exact ho)
def kD : Key → PyData
  | .inl i => .int i
  | .inr s => .str s
theorem kD_dp {K : PySem.W.Frag} {G : Hp} (k : Key) : Dp K G (kV k) (kD k) := by
  cases k with
  | inl i => exact .int i
  | inr s => exact .str s
def LockW (t : TS) (D : Ends) (σ : L2.St) (H : Hp) : Prop := ∃ d u, H d = some u ∧ Mut (some u) ∧ ∀ od, t ⟨fun σ' H' => H' d = some (.frz od u) ∧ D.nx σ' (upd H' d u), fun v H' => H' d = some (.frz od u) ∧ D.rt v (upd H' d u), fun σ' H' => H' d = some (.frz od u) ∧ D.bk σ' (upd H' d u), fun σ' H' => H' d = some (.frz od u) ∧ D.ct σ' (upd H' d u)⟩ σ (upd H d (.frz od u))
theorem g_lock {t : TS} {D : Ends} {σ : L2.St} {H : Hp} (q : LockW t D σ H) : tLock t D σ H := q
theorem g_iItems {td : TE} {σ : L2.St} {H : Hp} {R : It → Hp → Prop} (q : td σ H fun x H1 => ∃ d o kvs, x = .ref d ∧ H1 d = some (.frz o (.dK kvs)) ∧ R (Iti d o kvs) H1) : iItems td σ H R := q
/-- the walk over the entries of a dict that stands, by the entries of its data; the dict stays -/
theorem g_forItems {K : PySem.W.Frag} {σ : L2.St} {G H : Hp} {D : Ends} {i0 : Nat} {g : TG} {tb : TS} {M : List Addr} {d : Addr} {md : List (Key × PyData)} (r : DctAt K d G H md) (e : Ex G H) (hM : d ∉ M) (hv : σ[i0]? = some (some (.ref d))) (Pv : Nat → L2.St → Hp → Hp → Prop) (h0 : ∀ (od : Obj) (u : HO), Pv 0 σ G (upd H d (.frz od u)))
    (hs : ∀ i k x v σ' G' H' H0 G1 H1, md[i]? = some (k, x) → Nx M G H0 G' H' → Pv i σ' G' H' → Nx [] G' H' G1 H1 → Dp K G1 v (.tuple [kD k, x]) → ∀ R : L2.St → Hp → Prop, (∀ σ3 G3 H3, Nx M G H0 G3 H3 → Pv (i + 1) σ3 G3 H3 → R σ3 H3) → ∀ D' : Ends, D'.nx = R → D'.ct = R →
      g v σ' H1 fun σ2 H2 => tb D' σ2 H2)
    (hd : ∀ (σ' : L2.St) (G' H' : Hp) (od : Obj) (u : HO), Nx M G H G' (upd H' d u) → G' d = none → DctAt K d G' (upd H' d u) md → Pv md.length σ' G' H' → D.nx σ' (upd H' d u)) : tLock (tFor (iItems (tVar i0)) g tb) D σ H := by
  obtain ⟨kvs, h, gd, hk, dd⟩ := id r
  have hlen : kvs.length = md.length := by simpa using congrArg List.length hk
  refine ⟨d, _, h, trivial, fun od => ?_⟩
  show ∃ v, σ[i0]? = some (some v) ∧ _
  refine ⟨_, hv, d, od, kvs, rfl, upd_same, ?_⟩
  have st : Ex G (upd H d (.frz od (.dK kvs))) := e.out gd
  refine ⟨fun i m σ' H' => m = kvs.length - i ∧ i ≤ kvs.length ∧ ∃ G', Nx M G (upd H d (.frz od (.dK kvs))) G' H' ∧ Pv i σ' G' H', ⟨kvs.length, by simp, Nat.zero_le _, G, Nx.refl st, h0 _ _⟩, ?_⟩
  rintro i m σ' H' ⟨rfl, hi, G', n, p⟩
  obtain ⟨hf, gd', nu⟩ := unlock_nx h gd hM n
  by_cases hlt : i < kvs.length
  · refine .inr ⟨⟨hf, hlt⟩, fun σ3 H3 => ∃ G3, Nx M G (upd H d (.frz od (.dK kvs))) G3 H3 ∧ Pv (i + 1) σ3 G3 H3, fun σ3 H3 ⟨G3, n3, p3⟩ => ⟨kvs.length - (i + 1), by omega, rfl, hlt, G3, n3, p3⟩, fun v H1 y => ?_⟩
    obtain ⟨T, k, w, hkw, rfl, hT, rfl⟩ := y
    have hmi : md[i]? = some md[i] := by simp [← hlen, hlt]
    obtain ⟨k2, x2⟩ : Key × PyData := md[i]
    have hk1 : (kvs.map (·.1))[i]? = some k := by rw [List.getElem?_map, hkw]; rfl
    have hmk : ∃ x, md[i]? = some (k, x) ∧ Dp K G w x := by
      have h1 : (md.map (·.1))[i]? = some k := by rw [← hk]; exact hk1
      rw [List.getElem?_map] at h1
      obtain ⟨⟨k3, x3⟩, h3, h4⟩ := Option.map_eq_some_iff.mp h1
      simp only at h4
      subst h4
      obtain ⟨x4, h5, d5⟩ := dpAll_got dd (i := i) (v := w) (by rw [List.getElem?_map, hkw]; rfl)
      rw [List.getElem?_map, h3] at h5
      cases h5
      exact ⟨x3, h3, d5⟩
    obtain ⟨x, hx, dx⟩ := hmk
    have h2 := nx_tup (K := K) n.gh (xs := [kV k, w]) (ds := [kD k, x]) (.cons (kD_dp k) (.cons (dp_mono n.gg dx) .nil)) hT
    exact hs i k x _ σ' G' H' _ _ _ hx n p h2.1 h2.2 _ (fun σ3 G3 H3 n3 p3 => ⟨G3, n3, p3⟩) _ rfl rfl
  · have e' : i = md.length := by omega
    subst e'
    refine .inl ⟨⟨hf, by omega⟩, hf, hd σ' G' H' od _ nu gd' ⟨kvs, upd_same, gd', hk, dpAll_mono n.gg dd⟩ p⟩
/-! ### enumerate(list that stands) -/
section
variable {K : PySem.W.Frag} {G H : Hp} {p : Addr} {L : List PyData}
theorem g_walkEs {P : Addr → Prop} (r : LstAt K p G H L) (q : (∀ M, p ∉ M → Src K M (Ite K p) G H (prs 0 L)) → P p) : ∃ a xs, [V.ref p] = [V.ref a] ∧ SqL K H a xs ∧ P a := by
  obtain ⟨xs, h, g, da⟩ := r
  refine ⟨p, xs, rfl, .of h, q fun M hM => ?_⟩
  refine ⟨fun i G' H' n hi => ⟨xs, xs[i]'(by rw [dpAll_len da, ← prs_len 0 L]; exact hi), .of (n.fr p _ hM h), by rw [prs_len] at hi; simp [dpAll_len da, hi]⟩, fun i G' H' n hi => ⟨xs, .of (n.fr p _ hM h), by rw [dpAll_len da, ← prs_len 0 L]; exact hi⟩, fun i d G' H' x H'' n hi y => ?_⟩
  obtain ⟨T, u, rfl, hT, rfl, f⟩ := y
  have hx := f xs (.of (n.fr p _ hM h))
  rw [prs_get] at hi
  cases q : L[i]? with
  | none => rw [q] at hi; cases hi
  | some d0 =>
    rw [q] at hi
    cases hi
    obtain ⟨v, hv, dv⟩ := dpAll_get da q
    rw [hx] at hv
    cases hv
    have h2 := nx_tup (K := K) n.gh (xs := [.int ((i : Nat) : Int), u]) (ds := [.int ((0 + i : Nat) : Int), d0]) (by rw [Nat.zero_add]; exact .cons (.int _) (.cons (dp_mono n.gg dv) .nil)) hT
    exact ⟨_, h2.1, h2.2⟩
end
/-! ### a constant tuple of ints of the module -/
def tupB (K : PySem.W.Frag) (a : Addr) (ns : List Int) : Bool := match K.lookup a with
  | some ⟨.type "tuple", none, .seq its _, _⟩ => decide (its.toList.map (fun v => match v with | .int i _ => some i | _ => none) = ns.map some)
  | _ => false
end Y
namespace Y
open PySem PySem.Spec PyProof.Rows L2
theorem vals_ints : ∀ {ns : List Int} {vs : List Value}, vs.map (fun v => match v with | .int i _ => some i | _ => none) = ns.map some → Vals (ns.map V.int) vs
  | [], [], _ => .nil
  | [], _ :: _, h => by simp at h
  | _ :: _, [], h => by simp at h
  | n :: ns, v :: vs, h => by
    simp only [List.map_cons, List.cons.injEq] at h
    obtain ⟨h1, h2⟩ := h
    refine .cons ?_ (vals_ints h2)
    split at h1
    · cases h1
      exact ⟨_, rfl⟩
    · cases h1
theorem tupB_ok {K : PySem.W.Frag} {a : Addr} {ns : List Int} {G : Hp} (h : tupB K a ns = true) (hl : ns.length ≤ 100000) : Dp K G (.ref a) (.tuple (ns.map .int)) := by
  unfold tupB at h
  split at h
  · rename_i its n sl e
    have hv := vals_ints (of_decide_eq_true h)
    refine .tup (.inr ⟨_, its, n, e, rfl, rfl, ?_, hv⟩) (dpAll_ints ns)
    have := Paired.length hv
    rw [List.length_map] at this
    have hs : its.size = its.toList.length := Array.length_toList.symm
    rw [hs, ← this]
    exact szle hl
  · cases h
end Y
namespace Y
open PySem PySem.Spec PyProof.Rows L2
/-- name = {k: v for ..} on one line, the name a local -/
theorem ps_setDc {X : Cx} {i : Nat} {y : Str} {py : Pos} {kx vx tg iter : Expr} {ifs : List Expr} {scope : Scope} {own : List (Str × Nat)} {pos spos : Pos} {wi : TI} {g : TG} {tt : TT} {tk tv : TE} (hc : X.calm = true) (nd : X.N.Nodup) (hy : X.N[i]? = some y) (loc : X.env.scope.names.lookup y = some .local)
    (sw : swapsWith (.DictComp kx vx [⟨tg, iter, ifs, 0⟩] scope pos) (some (.Name y py)) spos.line X.env = pure true) (hi : PI X tg iter wi) (ok : BlkOk X.N X.env.scope scope own)
    (hg : ∀ (s : Shared) (H : Hp) (C : Addr) (cl : List (Str × Addr)) (fp : List Addr), PG (X.blk s H scope (compEnvC scope cl C X.env) fp) tg g) (ht : ∀ (s : Shared) (H : Hp) (C : Addr) (cl : List (Str × Addr)) (fp : List Addr), PTs (X.blk s H scope (compEnvC scope cl C X.env) fp) ifs tt)
    (hk : ∀ (s : Shared) (H : Hp) (C : Addr) (cl : List (Str × Addr)) (fp : List Addr), PE (X.blk s H scope (compEnvC scope cl C X.env) fp) kx tk)
    (he : ∀ (s : Shared) (H : Hp) (C : Addr) (cl : List (Str × Addr)) (fp : List Addr), PE (X.blk s H scope (compEnvC scope cl C X.env) fp) vx tv) (hs : ∀ x, foldedSetIterable iter X.env x = pure x := by intro _; rfl) :
    PS X (.Assign [.Name y py] (.DictComp kx vx [⟨tg, iter, ifs, 0⟩] scope pos) spos) (tAsg (tDc wi g tt tk tv (own.map (·.2))) (gName i)) := by
  constructor
  intro pins s σ H D I q0
  rw [exec_Assign_Name_used _ _ _ _ sw]
  refine wpAny_bind (wpAny_standAt (wpAny_bind ?_))
  show wpAny _ X.A (do let _ ← comprehension (.DictComp kx vx [⟨tg, iter, ifs, 0⟩] scope pos) scope X.env (firstIterPos [⟨tg, iter, ifs, 0⟩] pos) newDict false (eval iter X.env) (some (assign (.Name y py) X.env))) _ _ s
  have q1 : tDc wi g tt tk tv (own.map (·.2)) σ H (fun x H1 => gName i x σ H1 D.nx) := q0
  refine wpAny_bind (thn (dc_core (Qf := fun _ s' => SP X pins D .next s') hc nd I hi ok hg ht hk he hs q1 fun L C s' m H' J qq ns fr => ?_) fun _ s' z => wpAny_pure (wpAny_pure z))
  show wpAny _ _ (assign (.Name y py) X.env (.ref L)) _ _ _
  refine wpAny_assign_Name (store_ok2 (v := V.ref L) J nd hy (.inl loc) rfl (fun s2 J2 ⟨a, sb, at_⟩ => ?_) (.inr loc))
  obtain ⟨x0, x1, x2, x3, x4, x5⟩ := fr
  have away : C ≠ a := at_.elim (fun z => by rw [z]; exact x1) fun z w => x4 y a z w.symm
  exact ⟨m, ns.sameBut sb away, fun h3 sb3 => ⟨_, H', J2.turned (t' := s2.toks) (fun b o hb w => (sb3.2 b hb).trans w) x0 x1 x3 x4 x5, qq⟩⟩
theorem sw_trueD {kx vx : Expr} {gs : List Comprehension} {scope : Scope} {pos py : Pos} {y : Str} {l : Nat} {env : Env} (kf : env.scope.kind = .function) (loc : env.scope.names.lookup y = some .local) (hl : (py.line == pos.line) = true)
    (ha : (scope.names.any fun (n, k) => n == y && (k == .local || k == .cell)) = false) : swapsWith (.DictComp kx vx gs scope pos) (some (.Name y py)) l env = pure true := by
  have e1 : env.kindOf y = some .local := loc
  have e2 : env.blockKind = .function := by unfold Env.blockKind; rw [kf]; rfl
  unfold swapsWith
  simp only [e2, e1, ha, Expr.pos, hl]
  rfl
end Y
namespace Y
open PySem PySem.Spec PyProof.Rows L2
theorem g_rawGet {H : Hp} {Q : VK} {d : Addr} {kvs : List (Key × V)} {k : Key} {y v : V} (h : H d = some (.dK kvs)) (hk : y = kV k) (hv : valV kvs k = some v) (q : Q v H) : DGeW Q (.ref d) y H := ⟨d, v, rfl, .inl ⟨kvs, k, .inl h, hk, hv.symm⟩, q⟩
end Y

namespace Y
open PySem PySem.Spec PyProof.Rows L2
/-! ### min(xs, key=len) over a list of tuples: the first of the shortest -/
def rMinLen (K : PySem.W.Frag) : List V → Hp → VK → Prop := fun us H Q => ∃ (a : Addr) (vs : List V) (kf : Nat → Nat), us = [.ref a] ∧ SqL K H a vs ∧ 0 < vs.length ∧
  (∀ i x, vs[i]? = some x → ∃ t xs, x = .ref t ∧ SqT K H t xs ∧ xs.length = kf i) ∧ ∀ i x, vs[i]? = some x → (∀ j, j < vs.length → kf i ≤ kf j ∧ (j < i → kf i < kf j)) → Q x H
def tMinLen (K : PySem.W.Frag) (t : TA) : TE := fun σ H Q => t σ H fun vs H1 => rMinLen K vs H1 Q
section
variable {X : Cx} {pins : List (Addr × Obj)} {σ : List (Option V)} {H : Hp} {s : Shared} {h' : Heap} {m : Str → Option Value} {tk : Nat}
/-- all but this frame's names are kept, and these tell the same -/
theorem inv_same (I : Inv X pins σ H s) (F : Fr X.base X.env.locals s.heap m) (F' : Fr X.base X.env.locals h' m) (k : ∀ b o, b ≠ X.env.locals → s.heap.get? b = some o → h'.get? b = some o) : Inv X pins σ H { s with heap := h', toks := tk } := by
  refine I.step (g' := s.gens) (d' := s.drawn) (ch := []) (fun _ z => nomatch z) (fun b o hb _ _ e _ => k b o hb e) (fun b o hb _ _ e _ => ⟨o.slots, k b o hb e⟩) (fun _ _ _ _ n => n) (fun b o _ e => ?_) (fun _ _ e => e) (fun _ _ _ e => e) (fun _ ps e => ⟨#[], by simpa using e⟩) (fun m' hm => ?_) (fun a o e => ?_) I.bare
  · by_cases hb : b = X.env.locals
    · obtain ⟨o', _, _, ho, _⟩ := F'.ns
      exact ⟨o', hb ▸ ho⟩
    · exact ⟨o, k b o hb e⟩
  · have : m' = m := by
      obtain ⟨o, es, ep, e, d, _, f⟩ := hm
      obtain ⟨o', es', ep', e', d', _, f'⟩ := F.ns
      rw [e] at e'; cases e'
      rw [d] at d'; cases d'
      funext x
      rw [← f x, ← f' x]
    rw [this]
    exact F'.ns
  · refine (I.hok a o e).stay (fun b u c q => k b u (fun z => ?_) q) (fun _ q => q) fun _ _ q => q
    have hf := I.free
    rw [← z] at hf
    rcases c with c | c
    · rw [c, e] at hf; cases hf
    · rw [hf] at c; cases c
theorem vals_back {vs : List V} {us : List Value} {i : Nat} {v : Value} (r : Vals vs us) (h : us[i]? = some v) : ∃ x, vs[i]? = some x ∧ RelV x v := by
  have hi := (List.getElem?_eq_some_iff.mp h).1
  have hl := r.length
  have e : vs[i]? = some vs[i] := by simp [show i < vs.length by omega]
  obtain ⟨u, hu, ru⟩ := r.get e
  rw [h] at hu
  cases hu
  exact ⟨_, e, ru⟩
theorem min_len {us : List V} {ws : List Value} {Q : VK} (hc : X.calm = true) (I : Inv X pins σ H s) (r : Vals us ws) (h : rMinLen X.K us H Q) : wpAny (model X.prog X.w) X.A (call (.builtin "min") ws [(Str.ofString "key", .builtin "len")]) (EP X pins σ Q) X.xe s := by
  obtain ⟨a, vs, kf, rfl, hs, hne, ht, q⟩ := h
  obtain rfl := Vals.ref1 r
  obtain ⟨its, rv, hl, hz⟩ := I.list hs
  obtain ⟨m, F⟩ := I.fr
  have hlen : vs.length = its.length := rv.length
  have keep : ∀ {h : Heap} {more : List (Addr × Obj)}, Fr X.base X.env.locals h m → News X.base X.env.locals h (allNews X.base s.heap X.env.locals ++ more) → ∀ b o, b ≠ X.env.locals → s.heap.get? b = some o → h.get? b = some o := fun {h more} F' N' b o hb e => by
    cases qb : X.base.get? b with
    | some u =>
      have := I.bk b u qb
      rw [e] at this; cases this
      exact F'.keep b _ qb
    | none => exact (N' (b, o) (List.mem_append_left _ (mem_allNews hb qb e))).1
  have keep0 : ∀ {h : Heap}, Fr X.base X.env.locals h m → News X.base X.env.locals h (allNews X.base s.heap X.env.locals) → ∀ b o, b ≠ X.env.locals → s.heap.get? b = some o → h.get? b = some o := fun {h} F' N' => keep (more := []) F' (by rw [List.append_nil]; exact N')
  have notL : ∀ {b : Addr} {o : Obj} {es : Array Value} {n : Nat}, s.heap.get? b = some o → o.data = .seq es n → b ≠ X.env.locals := fun {b o es n} e d z => by
    obtain ⟨o', es', ep', e', d', _⟩ := F.ns
    rw [← z, e] at e'; cases e'
    rw [d] at d'; cases d'
  refine kmb_min (h₀ := X.base) (L := X.env.locals) (m := m) (news := allNews X.base s.heap X.env.locals) (vs := its) (fun i => (kf i : Int)) (I.ok.hd hc) F news_all (fun h F' N' => ?_) (by omega) (fun i v hv h tk own F' N' => ?_) fun i v h' tk' hv hb F' N' => ?_
  · obtain ⟨o, e, c, n, d⟩ := hl.isList
    exact ⟨o, keep0 F' N' _ _ (notL e d) e, c, n, d⟩
  · obtain ⟨x, hx, rx⟩ : ∃ x, vs[i]? = some x ∧ RelV x v := vals_back rv hv
    obtain ⟨t, xs, rfl, hT, hk⟩ := ht i x hx
    obtain ⟨jts, rj, ⟨o, e, c, n, d⟩, hz2⟩ := I.tuple hT
    cases rx
    have hjl : jts.length = kf i := by rw [← hk]; exact rj.length.symm
    have key : (kf i : Int) = ((jts.toArray.size : Nat) : Int) := by rw [List.size_toArray, hjl]
    rw [key]
    exact len_tuple (s := { s with heap := h, toks := tk }) (items := jts.toArray) ⟨o, keep F' N' _ _ (notL e d) e, c, n, d⟩ (by rw [List.size_toArray, hjl, ← hk]; have := hz2; rw [sizeLine_eq] at this; omega) (KskEnd.intro F' N' fun _ hp => hp)
  · obtain ⟨x, hx, rx⟩ : ∃ x, vs[i]? = some x ∧ RelV x v := vals_back rv hv
    refine ⟨x, H, inv_same I F F' (keep0 F' N'), rx, q i x hx fun j hj => ?_⟩
    have := hb j (by omega)
    exact ⟨by omega, fun z => by have := this.2 z; omega⟩
theorem pe_minLenK {K : PySem.W.Frag} {e : Expr} {p pl kp pos : Pos} {t : TA} (h : X.K = K) (hc : X.calm = true) (hg : Gl X "min") (hm : X.mg "min" = none) (hg2 : Gl X "len") (hm2 : X.mg "len" = none) (ha : PA X [e] t)
    (he : backTo pos (starEach [e] X.env) = (false, eval e X.env) :: backTo pos (starEach [] X.env) := by rfl) (hpl : (backTo pos (starEach [e] X.env)).any (·.1) = false := by rfl)
    (hall : (backToKw pos (keywordEach [⟨some (Str.ofString "key"), .Name "len" pl, kp⟩] X.env)).all (·.1.isSome) = true := by rfl) (hnone : (backToKw pos (keywordEach [⟨some (Str.ofString "key"), .Name "len" pl, kp⟩] X.env)).any (·.1.isNone) = false := by rfl) :
    PE X (.Call (.Name "min" p) [e] [⟨some (Str.ofString "key"), .Name "len" pl, kp⟩] pos) (tMinLen K t) := by
  subst h
  refine ⟨fun pins s σ H Q I h => ?_⟩
  refine wpAny_Call_Name_kw (ld_blt I hg hm (by rfl) ?_)
  refine PyProof.Rows.callWith_kw (thn (ha.run pos pins s σ H _ I h) fun us s1 ⟨vs, H1, I1, r1, q1⟩ => kws_cons (ld_blt I1 hg2 hm2 (by rfl) (kws_nil ?_))) he hpl hall hnone
  exact min_len hc I1 r1 q1
end
end Y
namespace Y
open PySem PySem.Spec PyProof.Rows L2
open RT
/-! ### comprehensions over any target, told items or items as they are -/
structure SrcP (M : List Addr) (J : It) (G H : Hp) (n : Nat) (P : Nat → Hp → V → Prop) : Prop where
  go : ∀ i G' H', Nx M G H G' H' → i < n → J.go i H'
  stop : ∀ i G' H', Nx M G H G' H' → n ≤ i → J.stop i H'
  yld : ∀ i G' H' x H'', Nx M G H G' H' → i < n → J.yld i H' x H'' → ∃ G'', Nx [] G' H' G'' H'' ∧ P i G'' x
section
variable {K : PySem.W.Frag} {σ : L2.St} {G H : Hp} {Q : VK} {te : TE} {tt : TT} {g : TG} {J : It} {M : List Addr} {ds : List PyData} {A : Addr} {n : Nat} {P : Nat → Hp → V → Prop} {js : List Nat}
theorem Src.p (S : Src K M J G H ds) : SrcP M J G H ds.length (fun i G x => ∃ d, ds[i]? = some d ∧ Dp K G x d) where
  go := S.go
  stop := S.stop
  yld := fun i G' H' x H'' nx hi y => by
    have hg : ds[i]? = some ds[i] := by simp [hi]
    obtain ⟨G'', n2, d⟩ := S.yld i _ G' H' x H'' nx hg y
    exact ⟨G'', n2, _, hg, d⟩
/-- the values of a list that stands, as they are -/
theorem src_raw {a : Addr} {vs : List V} (h : H a = some (.lst vs)) (ha : a ∉ M) : SrcP M (Itl K a) G H vs.length (fun i _ x => vs[i]? = some x) where
  go := fun i G' H' n hi => ⟨vs, vs[i], .of (n.fr a _ ha h), by simp [hi]⟩
  stop := fun i G' H' n hi => ⟨vs, .of (n.fr a _ ha h), hi⟩
  yld := fun i G' H' x H'' n hi y => by
    obtain ⟨rfl, f⟩ := y
    exact ⟨G', Nx.refl n.gh, f vs (.of (n.fr a _ ha h))⟩
theorem src_revT {a : Addr} {xs : List V} (hs : SqT K G a xs) (hd : DpAll K G xs ds) : Src K M (ItvT K a xs.length) G H ds.reverse where
  go := fun i G' H' n hi => by
    have hl := dpAll_len hd
    rw [List.length_reverse] at hi
    exact ⟨by omega, xs, xs[xs.length - 1 - i]'(by omega), n.gh.seqT (n.gg.seqT hs), by simp⟩
  stop := fun i G' H' n hi => by
    rw [List.length_reverse, ← dpAll_len hd] at hi
    exact hi
  yld := fun i d G' H' x H'' n hi y => by
    obtain ⟨rfl, f⟩ := y
    have hl := dpAll_len hd
    have hil : i < ds.length := by
      have := (List.getElem?_eq_some_iff.mp hi).1
      rwa [List.length_reverse] at this
    rw [List.getElem?_reverse hil] at hi
    have hx := f xs (n.gh.seqT (n.gg.seqT hs))
    rw [hl] at hx
    obtain ⟨v, hv, dv⟩ := dpAll_get hd hi
    rw [hx] at hv
    cases hv
    exact ⟨G', Nx.refl n.gh, dp_mono n.gg dv⟩
theorem g_lcP (S : SrcP M J G H n P) (e : Ex G H) (hA : H A = none) (hM : ∀ b ∈ M, H b ≠ none) (hz : n < sizeLine) (Jv : Nat → List V → Hp → Hp → Prop)
    (jA : ∀ i acc G' H' o, (H' A = none ∨ ∃ ys, H' A = some (.lst ys)) → Jv i acc G' H' → Jv i acc G' (upd H' A o)) (jN : ∀ i acc G' H' G1 H1, Nx [] G' H' G1 H1 → Jv i acc G' H' → Jv i acc G1 H1) (j0 : Jv 0 [] G H)
    (hs : ∀ i v acc G' H', i < n → P i G' v → Nx M G H G' H' → acc.length ≤ i → Jv i acc G' H' → ∀ (QE : VK) (QN : Hp → Prop),
      (∀ y G4 H4, Nx M G' H' G4 H4 → Jv (i + 1) (acc ++ [y]) G4 H4 → QE y H4) → (∀ G3 H3, Nx M G' H' G3 H3 → Jv (i + 1) acc G3 H3 → QN H3) →
      g v (wipe σ js) H' fun σ2 H2 => wipe σ2 js = wipe σ js ∧ tt σ2 H2 fun b H3 => if b = true then te σ2 H3 QE else QN H3)
    (hd : ∀ G' H' ys, Jv n ys G' H' → Nx M G H G' H' → G' A = none → H' A = some (.lst ys) → ys.length ≤ n → Q (.ref A) H') : LcW J g tt te js σ A Q H := by
  have st0 : Nx [] G H G (upd H A (.lst [])) := Nx.own e hA
  have hAM : A ∉ M := fun z => hM A z hA
  refine ⟨fun i m H' => m = n - i ∧ i ≤ n ∧ ∃ G' ys, Nx M G H G' H' ∧ G' A = none ∧ H' A = some (.lst ys) ∧ ys.length ≤ i ∧ Jv i ys G' H',
    ⟨n, by simp, Nat.zero_le _, G, [], st0.pure, e.free hA, upd_same, Nat.le_refl _, jA _ _ _ _ _ (.inl hA) j0⟩, ?_⟩
  rintro i m H' ⟨rfl, hi, G', ys, nx, gA, hys, hl, jv⟩
  by_cases hlt : i < n
  · refine .inr ⟨S.go i G' H' nx hlt, fun H'' => ∃ G'' ys, Nx M G H G'' H'' ∧ G'' A = none ∧ H'' A = some (.lst ys) ∧ ys.length ≤ i + 1 ∧ Jv (i + 1) ys G'' H'',
      fun H'' ⟨G'', ys', r⟩ => ⟨n - (i + 1), by omega, rfl, hlt, G'', ys', r⟩, fun v H1 y => ?_⟩
    obtain ⟨G1, n1, d1⟩ := S.yld i G' H' v H1 nx hlt y
    have n2 : Nx M G H G1 H1 := nx.trans n1.pure
    have gA1 : G1 A = none := n1.old A gA (by rw [hys]; exact fun z => nomatch z)
    have hys1 : H1 A = some (.lst ys) := n1.fr A _ (by simp) hys
    refine hs i v ys G1 H1 hlt d1 n2 hl (jN _ _ _ _ _ _ n1 jv) _ _ (fun y G4 H4 n4 jv' => ?_) (fun G3 H3 n3 jv' => ?_)
    · have gA4 : G4 A = none := n4.old A gA1 (by rw [hys1]; exact fun z => nomatch z)
      have hys4 : H4 A = some (.lst ys) := n4.fr A _ hAM hys1
      have n5 : Nx M G H G4 H4 := n2.trans n4
      have n6 : Nx [A] G4 H4 G4 (upd H4 A (.lst (ys ++ [y]))) := Nx.set n4.gh gA4 (by simp)
      have n7 : Nx (A :: M) G H G4 (upd H4 A (.lst (ys ++ [y]))) := (n5.mono fun _ z => List.mem_cons_of_mem _ z).trans (n6.mono fun b z => by simp at z; simp [z])
      exact ⟨ys, hys4, by omega, G4, ys ++ [y], n7.drop hA, gA4, upd_same, by simp; omega, jA _ _ _ _ _ (.inr ⟨_, hys4⟩) jv'⟩
    · exact ⟨G3, ys, n2.trans n3, n3.old A gA1 (by rw [hys1]; exact fun z => nomatch z), n3.fr A _ hAM hys1, by omega, jv'⟩
  · have e' : i = n := by omega
    subst e'
    exact .inl ⟨S.stop _ G' H' nx (Nat.le_refl _), hd G' H' ys jv nx gA hys hl⟩
/-- told items, any target -/
theorem g_lcPS {es : Nat → List PyData} (S : Src K M J G H ds) (e : Ex G H) (hA : H A = none) (hM : ∀ b ∈ M, H b ≠ none) (hz : ds.length < sizeLine) (e0 : es 0 = [])
    (hs : ∀ i d v acc G' H', ds[i]? = some d → Dp K G' v d → Nx M G H G' H' → DpAll K G' acc (es i) → ∀ (QE : VK) (QN : Hp → Prop),
      (∀ y G4 H4 d', Nx M G' H' G4 H4 → Dp K G4 y d' → es (i + 1) = es i ++ [d'] → QE y H4) → (∀ G3 H3, Nx M G' H' G3 H3 → es (i + 1) = es i → QN H3) →
      g v (wipe σ js) H' fun σ2 H2 => wipe σ2 js = wipe σ js ∧ tt σ2 H2 fun b H3 => if b = true then te σ2 H3 QE else QN H3)
    (hd : ∀ G' H', Nx M G H G' H' → LstAt K A G' H' (es ds.length) → Q (.ref A) H') : LcW J g tt te js σ A Q H := by
  refine g_lcP S.p e hA hM hz (fun i acc G' _ => DpAll K G' acc (es i)) (fun _ _ _ _ _ _ h => h) (fun _ _ _ _ _ _ n h => dpAll_mono n.gg h) (by rw [e0]; exact .nil) (fun i v acc G' H' hi hp n _ hj QE QN k1 k2 => ?_) fun G' H' ys hj n g h _ => hd G' H' n ⟨ys, h, g, hj⟩
  obtain ⟨d, hg, dv⟩ := hp
  exact hs i d v acc G' H' hg dv n hj QE QN (fun y G4 H4 d' n4 dy ee => k1 y G4 H4 n4 (by rw [ee]; exact dpAll_snoc (dpAll_mono n4.gg hj) dy)) fun G3 H3 n3 ee => k2 G3 H3 n3 (by rw [ee]; exact dpAll_mono n3.gg hj)
theorem wipe2 {i j : Nat} {a b : V} : wipe (((wipe σ [i, j]).set i (some a)).set j (some b)) [i, j] = wipe σ [i, j] := by
  show (((((σ.set j none).set i none).set i (some a)).set j (some b)).set j none).set i none = (σ.set j none).set i none
  rw [List.set_set, List.set_set]
  by_cases h : i = j
  · subst h; rw [List.set_set, List.set_set, List.set_set]
  · rw [List.set_comm _ _ (Ne.symm h), List.set_set, List.set_comm _ _ h, List.set_set]
end
theorem pi_revAK {X : Cx} {K : PySem.W.Frag} {tg e : Expr} {te : TE} {p pos : Pos} (h : X.K = K) (hg : Gl X "reversed") (hm : X.mg "reversed" = none) (he : PE X e te) (hs : starEach [e] X.env = (false, eval e X.env) :: starEach [] X.env := by rfl) : PI X tg (.Call (.Name "reversed" p) [e] [] pos) (iRevA K te) := h ▸ pi_revA hg hm he hs
theorem g_revT {K : PySem.W.Frag} {G H : Hp} {x : V} {ds : List PyData} {RL RT : Addr → List V → Prop} (e : Ex G H) (h : Dp K G x (.tuple ds)) (q : ∀ a xs, (∀ M, Src K M (ItvT K a xs.length) G H ds.reverse) → RT a xs) : ∃ (a : Addr) (xs : List V), x = .ref a ∧ ((SqL K H a xs ∧ RL a xs) ∨ (SqT K H a xs ∧ RT a xs)) := by
  obtain ⟨a, xs, rfl, hs, hd⟩ := dp_tup h
  exact ⟨a, xs, rfl, .inr ⟨e.seqT hs, q a xs fun M => src_revT hs hd⟩⟩
end Y
namespace Y
open PySem PySem.Spec PyProof.Rows L2 RT
theorem g_iRevA {K : PySem.W.Frag} {σ : L2.St} {H : Hp} {te : TE} {R : It → Hp → Prop} (q : te σ H fun v H1 => ∃ (a : Addr) (xs : List V), v = .ref a ∧ ((SqL K H1 a xs ∧ R (Itv K a xs.length) H1) ∨ (SqT K H1 a xs ∧ R (ItvT K a xs.length) H1))) : iRevA K te σ H R := q
theorem g_minLen {K : PySem.W.Frag} {σ : L2.St} {H : Hp} {t : TA} {Q : VK} (q : t σ H fun vs H1 => rMinLen K vs H1 Q) : tMinLen K t σ H Q := q
end Y
namespace Y
open PySem PySem.Spec PyProof.Rows L2
section
variable {K : PySem.W.Frag} {G H : Hp} {Q : VK} {p b : Addr} {L L' ds : List PyData} {vs xs : List V} {v : V} {i : Nat}
theorem dpAll_back (h : DpAll K G vs ds) (hi : vs[i]? = some v) : ∃ d, ds[i]? = some d ∧ Dp K G v d := by
  have hl := dpAll_len h
  have hi1 := (List.getElem?_eq_some_iff.mp hi).1
  have e : ds[i]? = some (ds[i]'(by omega)) := by simp [show i < ds.length by omega]
  obtain ⟨u, hu, du⟩ := dpAll_get h e
  rw [hi] at hu
  cases hu
  exact ⟨_, e, du⟩
theorem g_extLs (e : Ex G H) (r : LstAt K p G H L) (r2 : LstAt K b G H L') (hl : L.length + L'.length ≤ 100000) (q : ∀ H', Nx [p] G H G H' → LstAt K p G H' (L ++ L') → Q .non H') : rExtend (.ref p) [.ref b] H Q := by
  obtain ⟨xs, h, g, da⟩ := r
  obtain ⟨ys, h2, g2, db⟩ := r2
  exact g_ext h h2 (by rw [dpAll_len da, dpAll_len db]; exact szle hl) (q _ (Nx.set e g (by simp)) ⟨_, upd_same, g, dpAll_app da db⟩)
/-- a tuple of values as they are -/
theorem g_tupRaw (e : Ex G H) (hl : xs.length ≤ sizeLine) (q : ∀ p G' H', Nx [] G H G' H' → H p = none → SqT K G' p xs → Q (.ref p) H') : MkT xs H Q :=
  ⟨hl, fun p hp => q p (upd G p (.tup xs)) _ ((Nx.own e hp).know hp upd_same (e.free hp)) hp (.of upd_same)⟩
/-- the first of the shortest, told: its place -/
theorem g_minLs (h : H p = some (.lst vs)) (e : Ex G H) (d : DpAll K G vs ds) (ns : List (List PyData)) (hd : ds = ns.map .tuple) (hne : 0 < ds.length)
    (q : ∀ (i : Nat) (x : V) (w : List PyData), vs[i]? = some x → ns[i]? = some w → Dp K G x (.tuple w) → (∀ (j : Nat) (u : List PyData), ns[j]? = some u → w.length ≤ u.length ∧ (j < i → w.length < u.length)) → Q x H) : rMinLen K [.ref p] H Q := by
  subst hd
  have hl := dpAll_len d
  have key : ∀ i x, vs[i]? = some x → ∃ w, ns[i]? = some w ∧ Dp K G x (.tuple w) := fun i x hx => by
    obtain ⟨d', hd', dx⟩ := dpAll_back d hx
    rw [List.getElem?_map] at hd'
    obtain ⟨w, hw, rfl⟩ := Option.map_eq_some_iff.mp hd'
    exact ⟨w, hw, dx⟩
  refine ⟨p, vs, fun i => ((ns[i]?).getD []).length, rfl, .of h, by omega, fun i x hx => ?_, fun i x hx hb => ?_⟩
  · obtain ⟨w, hw, dx⟩ := key i x hx
    obtain ⟨t, xs, rfl, hs, da⟩ := dp_tup dx
    exact ⟨t, xs, rfl, e.seqT hs, by show xs.length = ((ns[i]?).getD []).length; rw [hw, dpAll_len da]; rfl⟩
  · obtain ⟨w, hw, dx⟩ := key i x hx
    refine q i x w hx hw dx fun j u hu => ?_
    have hj : j < vs.length := by
      have := (List.getElem?_eq_some_iff.mp hu).1
      rw [List.length_map] at hl
      omega
    have := hb j hj
    simp only [hw, hu, Option.getD_some] at this
    exact this
end
end Y
namespace Y
open PySem PySem.Spec PyProof.Rows L2
section
variable {K : PySem.W.Frag} {G H : Hp} {σ : L2.St} {R : L2.St → Hp → Prop} {t : Addr} {v1 v2 : V} {i j : Nat} {Q : VK}
theorem g_un2R (e : Ex G H) (h : SqT K G t [v1, v2]) (q : R ((σ.set i (some v1)).set j (some v2)) H) : gTup K 2 (gCons (gName i) (gCons (gName j) gNil)) (.ref t) σ H R :=
  ⟨t, _, rfl, e.seqT h, rfl, _, _, rfl, _, _, rfl, rfl, q⟩
end
def mergeM {κ α : Type} [DecidableEq κ] (md more : List (κ × α)) : List (κ × α) := more.foldl (fun acc kv => ptM acc kv.1 kv.2) md
section
variable {K : PySem.W.Frag} {G H : Hp} {Q : VK} {d o : Addr} {md more : List (Key × PyData)}
theorem merge_rel : ∀ {more : List (Key × PyData)} {ks : List (Key × V)} {kvs : List (Key × V)} {md : List (Key × PyData)}, kvs.map (·.1) = md.map (·.1) → DpAll K G (kvs.map (·.2)) (md.map (·.2)) → ks.map (·.1) = more.map (·.1) → DpAll K G (ks.map (·.2)) (more.map (·.2)) →
    (mergeK kvs ks).map (·.1) = (mergeM md more).map (·.1) ∧ DpAll K G ((mergeK kvs ks).map (·.2)) ((mergeM md more).map (·.2))
  | [], [], _, _, h1, h2, _, _ => ⟨h1, h2⟩
  | (k, x) :: more, (k', v) :: ks, kvs, md, h1, h2, h3, h4 => by
    simp only [List.map_cons, List.cons.injEq] at h3
    obtain ⟨rfl, h3⟩ := h3
    cases h4 with
    | cons a t =>
      obtain ⟨p1, p2⟩ := pt_rel (v := v) (x := x) k' a h1 h2
      exact merge_rel (kvs := putK kvs k' v) (md := ptM md k' x) p1 p2 h3 t
theorem mergeM_len : ∀ {more md : List (Key × PyData)}, (mergeM md more).length ≤ md.length + more.length
  | [], _ => by simp [mergeM]
  | p :: more, md => by
    have := mergeM_len (more := more) (md := ptM md p.1 p.2)
    have h2 := len_ptM (m := md) (k := p.1) (a := p.2)
    show (mergeM (ptM md p.1 p.2) more).length ≤ _
    rw [List.length_cons]
    omega
theorem gtM_merge {k : Key} : ∀ {more md : List (Key × PyData)}, gtM (mergeM md more) k = (gtM more.reverse k).or (gtM md k)
  | [], md => by simp [mergeM, gtM]
  | p :: more, md => by
    show gtM (mergeM (ptM md p.1 p.2) more) k = _
    rw [gtM_merge, gtM_ptM, List.reverse_cons, gtM_app, gtM_cons]
    by_cases h : p.1 = k
    · rw [if_pos h, if_pos h]
      cases gtM more.reverse k <;> rfl
    · rw [if_neg h, if_neg h]
      cases gtM more.reverse k <;> rfl
theorem g_updD (e : Ex G H) (r : DctAt K d G H md) (r2 : DctAt K o G H more) (hne : d ≠ o) (hl : md.length + more.length ≤ 100000) (q : ∀ H', Nx [d] G H G H' → DctAt K d G H' (mergeM md more) → Q .non H') : rUpd (.ref d) [.ref o] H Q := by
  obtain ⟨kvs, h, g, hk, dd⟩ := r
  obtain ⟨ks, h2, g2, hk2, dd2⟩ := r2
  have l1 : kvs.length = md.length := by simpa using congrArg List.length hk
  have l2 : ks.length = more.length := by simpa using congrArg List.length hk2
  obtain ⟨m1, m2⟩ := merge_rel hk dd hk2 dd2
  exact ⟨d, o, kvs, ks, rfl, rfl, h, h2, hne, by rw [l1, l2]; exact szle hl, q _ (Nx.set e g (by simp)) ⟨_, upd_same, g, m1, m2⟩⟩
end
end Y
namespace Y
open PySem PySem.Spec PyProof.Rows L2
theorem g_inSd {K : PySem.W.Frag} {G H : Hp} {Q : VK} {v : V} {ss : List Str} {t : Str} (e : Ex G H) (h : Dp K G v (.list (ss.map .str))) (q : Q (.bl (decide (t ∈ ss))) H) : rIn K false (.str t) v H Q := by
  obtain ⟨a, xs, rfl, hs, da⟩ := dp_lst h
  rw [dpAll_str_inv da] at hs
  exact g_inS (neg := false) (e.seqL hs) q
end Y

set_option Elab.async false
set_option linter.all false
set_option maxRecDepth 100000
set_option maxHeartbeats 4000000
local macro_rules | `(tactic| walk_at "dp") => `(tactic| (first | assumption | exact L2.Dp.non | exact L2.Dp.bl _ | exact L2.Dp.int _ | exact L2.Dp.str _ | (refine Y.dp_mono (Y.Nx.gg (by assumption)) ?_; walk_at "dp")))
local macro_rules | `(tactic| walk_at "isi") => `(tactic| first
  | refine Y.g_isi (b := true) (by assumption) (by walk_at "dp") (by rfl) ?_
  | refine Y.g_isi (b := false) (by assumption) (by walk_at "dp") (by rfl) ?_)
local macro_rules | `(tactic| walk_at "s1") => `(tactic| (with_reducible first
  | exact Y.g_test ?_ | fail))
local macro_rules | `(tactic| walk_at "sx") => `(tactic| repeat' (first
  | ((with_reducible apply Y.g_var); focus (exact rfl))
  | (with_reducible first
      | refine Y.g_seq ?_ | refine Y.g_asg ?_ | refine Y.g_name ?_ | refine Y.g_ret ?_ | refine Y.g_drop ?_ | refine Y.g_next ?_ | refine Y.g_ifS ?_ | refine Y.g_ifE ?_
      | refine Y.g_c ?_ | refine Y.g_nil ?_ | refine Y.g_cons ?_ | refine Y.g_op ?_ | refine Y.g_un ?_ | refine Y.g_cb ?_ | refine Y.g_call ?_ | refine Y.g_call1 ?_ | refine Y.g_callS ?_
      | refine Y.g_test ?_ | refine Y.g_tB ?_ | refine Y.g_isbl ?_ | refine Y.g_and ?_ | refine Y.g_or ?_ | refine Y.g_not ?_ | refine Y.g_andV ?_ | refine Y.g_orV ?_ | refine Y.g_notV ?_
      | refine Y.g_chain ?_ | refine Y.g_isN ?_ | refine Y.g_notN ?_ | refine Y.g_I0 ?_ | refine Y.g_U ?_ | refine Y.g_eqII ?_ | refine Y.g_eqSS ?_ | refine Y.g_neII ?_ | refine Y.g_neSS ?_
      | refine Y.g_iT ?_ | refine Y.g_iF ?_ | refine Y.g_inT ?_ | refine Y.g_inF ?_ | refine Y.g_retN ?_
      | refine Y.g_tup ?_ | refine Y.g_lst ?_ | refine Y.g_bm ?_ | refine Y.g_bm0 ?_ | refine Y.g_yes ?_ | refine Y.g_sub ?_ | refine Y.g_sl ?_ | refine Y.g_noPart ?_ | refine Y.g_part ?_ | refine Y.g_isint ?_ | refine Y.g_for ?_ | refine Y.g_lc ?_ | refine Y.g_iTup ?_ | refine Y.g_iList ?_ | refine Y.g_iStr ?_ | refine Y.g_iRng1 ?_ | refine Y.g_iRng2 ?_ | refine Y.g_iEnum ?_ | refine Y.g_iEnT ?_
      | refine Y.g_meth ?_ | refine Y.g_methS ?_ | refine Y.g_fld ?_ | refine Y.g_sfd ?_ | refine Y.g_din ?_ | refine Y.g_dni ?_ | refine Y.g_dge ?_ | refine Y.g_dpu ?_ | refine Y.g_dde ?_ | refine Y.g_lvs ?_
      | refine Y.g_del ?_ | refine Y.g_abs ?_ | refine Y.g_int1 ?_ | refine Y.g_m1 ?_ | refine Y.g_dc ?_ | refine Y.g_disp ?_ | refine Y.g_pair ?_ | refine Y.g_pair0 ?_ | refine Y.g_tru ?_ | refine Y.g_cont ?_ | refine Y.g_brk ?_ | refine Y.g_isS ?_ | refine Y.g_fs ?_ | refine Y.g_js ?_ | refine Y.g_js0 ?_ | refine Y.g_fmt ?_ | refine Y.g_star ?_ | refine Y.g_inSign ?_ | refine Y.g_isB ?_ | refine Y.g_notB ?_)))
local macro_rules | `(tactic| walk_at "len") => `(tactic| first | refine Y.g_lenT (by assumption) (by walk_at "dp") ?_ | refine Y.g_lenL (by assumption) (by walk_at "dp") ?_)
local macro_rules | `(tactic| walk_at "ix0") => `(tactic| first | refine Y.g_ixT (k := 0) (by assumption) (by walk_at "dp") (by rfl) (by rfl) ?_ | refine Y.g_ixL (k := 0) (by assumption) (by walk_at "dp") (by rfl) (by rfl) ?_)
local macro_rules | `(tactic| walk_at "ix1") => `(tactic| first | refine Y.g_ixT (k := 1) (by assumption) (by walk_at "dp") (by rfl) (by rfl) ?_ | refine Y.g_ixL (k := 1) (by assumption) (by walk_at "dp") (by rfl) (by rfl) ?_)
local macro_rules | `(tactic| walk_at "ix2") => `(tactic| first | refine Y.g_ixT (k := 2) (by assumption) (by walk_at "dp") (by rfl) (by rfl) ?_ | refine Y.g_ixL (k := 2) (by assumption) (by walk_at "dp") (by rfl) (by rfl) ?_)
local macro_rules | `(tactic| walk_at "da") => `(tactic| (repeat (first | exact L2.DpAll.nil | refine L2.DpAll.cons (by walk_at "dp") ?_)))

namespace A
open PySem PySem.Spec PyProof.Rows L2 Y
def topS (i : Nat) : Stmt := PySem.Challenge.pw_laidviews_k00_views.main.body.getD i (.Pass ⟨0, 0, 0, 0⟩)
abbrev s_Misused___init__ : Stmt := inClass (topS 3) 0
theorem sc_Misused___init__ : FnScope ["self", "why"] ["self", "why"] (defScope s_Misused___init__) := ⟨rfl, rfl, rfl, by decide +kernel, rfl, by decide +kernel, by decide +kernel⟩
def d_Misused___init__ : He.DefD := ⟨("Misused", some "__init__"), "__init__", "Misused.__init__", defArgs s_Misused___init__, defBody s_Misused___init__, defScope s_Misused___init__, [], []⟩
abbrev s_is_whole : Stmt := topS 5
theorem sc_is_whole : FnScope ["value"] ["value"] (defScope s_is_whole) := ⟨rfl, rfl, rfl, by decide +kernel, rfl, by decide +kernel, by decide +kernel⟩
def d_is_whole : He.DefD := ⟨("is_whole", none), "is_whole", "is_whole", defArgs s_is_whole, defBody s_is_whole, defScope s_is_whole, [], []⟩
abbrev s_is_within : Stmt := topS 6
theorem sc_is_within : FnScope ["value", "least", "greatest"] ["value", "least", "greatest"] (defScope s_is_within) := ⟨rfl, rfl, rfl, by decide +kernel, rfl, by decide +kernel, by decide +kernel⟩
def d_is_within : He.DefD := ⟨("is_within", none), "is_within", "is_within", defArgs s_is_within, defBody s_is_within, defScope s_is_within, [], []⟩
abbrev s_is_reading : Stmt := topS 16
theorem sc_is_reading : FnScope ["value"] ["value"] (defScope s_is_reading) := ⟨rfl, rfl, rfl, by decide +kernel, rfl, by decide +kernel, by decide +kernel⟩
def d_is_reading : He.DefD := ⟨("is_reading", none), "is_reading", "is_reading", defArgs s_is_reading, defBody s_is_reading, defScope s_is_reading, [], []⟩
abbrev s__moved_reading : Stmt := topS 22
theorem sc__moved_reading : FnScope ["reading", "light", "moved"] ["reading", "light"] (defScope s__moved_reading) := ⟨rfl, rfl, rfl, by decide +kernel, rfl, by decide +kernel, by decide +kernel⟩
def d__moved_reading : He.DefD := ⟨("_moved_reading", none), "_moved_reading", "_moved_reading", defArgs s__moved_reading, defBody s__moved_reading, defScope s__moved_reading, [], []⟩
abbrev s__is_row : Stmt := topS 17
theorem sc__is_row : FnScope ["value", "reading"] ["value"] (defScope s__is_row) := ⟨rfl, rfl, rfl, by decide +kernel, rfl, by decide +kernel, by decide +kernel⟩
def d__is_row : He.DefD := ⟨("_is_row", none), "_is_row", "_is_row", defArgs s__is_row, defBody s__is_row, defScope s__is_row, [], []⟩
abbrev s__is_rows : Stmt := topS 18
theorem sc__is_rows : FnScope ["value", "row"] ["value"] (defScope s__is_rows) := ⟨rfl, rfl, rfl, by decide +kernel, rfl, by decide +kernel, by decide +kernel⟩
def d__is_rows : He.DefD := ⟨("_is_rows", none), "_is_rows", "_is_rows", defArgs s__is_rows, defBody s__is_rows, defScope s__is_rows, [], []⟩
abbrev s_moved_light : Stmt := topS 23
theorem sc_moved_light : FnScope ["view", "light", "name", "rows", "row", "reading"] ["view", "light"] (defScope s_moved_light) := ⟨rfl, rfl, rfl, by decide +kernel, rfl, by decide +kernel, by decide +kernel⟩
def d_moved_light : He.DefD := ⟨("moved_light", none), "moved_light", "moved_light", defArgs s_moved_light, defBody s_moved_light, defScope s_moved_light, [], []⟩
abbrev s__law_lighter : Stmt := topS 33
theorem sc__law_lighter : FnScope ["view", "light", "e"] ["view", "light"] (defScope s__law_lighter) := ⟨rfl, rfl, rfl, by decide +kernel, rfl, by decide +kernel, by decide +kernel⟩
def d__law_lighter : He.DefD := ⟨("_law_lighter", none), "_law_lighter", "_law_lighter", defArgs s__law_lighter, defBody s__law_lighter, defScope s__law_lighter, [], []⟩
abbrev s__law_wide : Stmt := topS 25
theorem sc__law_wide : FnScope ["script", "k", "cell", "mixed"] ["script", "k"] (defScope s__law_wide) := ⟨rfl, rfl, rfl, by decide +kernel, rfl, by decide +kernel, by decide +kernel⟩
def d__law_wide : He.DefD := ⟨("_law_wide", none), "_law_wide", "_law_wide", defArgs s__law_wide, defBody s__law_wide, defScope s__law_wide, [], []⟩
abbrev s__law_take : Stmt := topS 26
theorem sc__law_take : FnScope ["pool", "most", "taken"] ["pool", "most"] (defScope s__law_take) := ⟨rfl, rfl, rfl, by decide +kernel, rfl, by decide +kernel, by decide +kernel⟩
def d__law_take : He.DefD := ⟨("_law_take", none), "_law_take", "_law_take", defArgs s__law_take, defBody s__law_take, defScope s__law_take, [], []⟩
abbrev s_is_name : Stmt := topS 15
theorem sc_is_name : FnScope ["value", "sign"] ["value"] (defScope s_is_name) := ⟨rfl, rfl, rfl, by decide +kernel, rfl, by decide +kernel, by decide +kernel⟩
def d_is_name : He.DefD := ⟨("is_name", none), "is_name", "is_name", defArgs s_is_name, defBody s_is_name, defScope s_is_name, [], []⟩
abbrev s__law_name : Stmt := topS 28
theorem sc__law_name : FnScope ["pool", "letters", "name", "k"] ["pool"] (defScope s__law_name) := ⟨rfl, rfl, rfl, by decide +kernel, rfl, by decide +kernel, by decide +kernel⟩
def d__law_name : He.DefD := ⟨("_law_name", none), "_law_name", "_law_name", defArgs s__law_name, defBody s__law_name, defScope s__law_name, [], []⟩
abbrev s__law_pool : Stmt := topS 27
theorem sc__law_pool : FnScope ["script"] ["script"] (defScope s__law_pool) := ⟨rfl, rfl, rfl, by decide +kernel, rfl, by decide +kernel, by decide +kernel⟩
def d__law_pool : He.DefD := ⟨("_law_pool", none), "_law_pool", "_law_pool", defArgs s__law_pool, defBody s__law_pool, defScope s__law_pool, [], []⟩
abbrev s__law_reading : Stmt := topS 30
theorem sc__law_reading : FnScope ["pool"] ["pool"] (defScope s__law_reading) := ⟨rfl, rfl, rfl, by decide +kernel, rfl, by decide +kernel, by decide +kernel⟩
def d__law_reading : He.DefD := ⟨("_law_reading", none), "_law_reading", "_law_reading", defArgs s__law_reading, defBody s__law_reading, defScope s__law_reading, [], []⟩
abbrev s__law_rows : Stmt := topS 31
theorem sc__law_rows : FnScope ["pool", "most", "width", "height", "y", "x"] ["pool", "most"] (defScope s__law_rows) := ⟨rfl, rfl, rfl, by decide +kernel, rfl, by decide +kernel, by decide +kernel⟩
def d__law_rows : He.DefD := ⟨("_law_rows", none), "_law_rows", "_law_rows", defArgs s__law_rows, defBody s__law_rows, defScope s__law_rows, [], []⟩
abbrev s_is_tuple_of : Stmt := topS 7
theorem sc_is_tuple_of : FnScope ["value", "length"] ["value", "length"] (defScope s_is_tuple_of) := ⟨rfl, rfl, rfl, by decide +kernel, rfl, by decide +kernel, by decide +kernel⟩
def d_is_tuple_of : He.DefD := ⟨("is_tuple_of", none), "is_tuple_of", "is_tuple_of", defArgs s_is_tuple_of, defBody s_is_tuple_of, defScope s_is_tuple_of, [], []⟩
abbrev s_is_view : Stmt := topS 19
theorem sc_is_view : FnScope ["value"] ["value"] (defScope s_is_view) := ⟨rfl, rfl, rfl, by decide +kernel, rfl, by decide +kernel, by decide +kernel⟩
def d_is_view : He.DefD := ⟨("is_view", none), "is_view", "is_view", defArgs s_is_view, defBody s_is_view, defScope s_is_view, [], []⟩
abbrev s__law_spoilt : Stmt := topS 32
theorem sc__law_spoilt : FnScope ["pool", "name", "rows", "choice", "y", "row", "x", "bad"] ["pool", "name", "rows"] (defScope s__law_spoilt) := ⟨rfl, rfl, rfl, by decide +kernel, rfl, by decide +kernel, by decide +kernel⟩
def d__law_spoilt : He.DefD := ⟨("_law_spoilt", none), "_law_spoilt", "_law_spoilt", defArgs s__law_spoilt, defBody s__law_spoilt, defScope s__law_spoilt, [], []⟩
abbrev s_readings : Stmt := topS 21
theorem sc_readings : FnScope ["view", "found", "y", "row", "x", "reading"] ["view"] (defScope s_readings) := ⟨rfl, rfl, rfl, by decide +kernel, rfl, by decide +kernel, by decide +kernel⟩
def d_readings : He.DefD := ⟨("readings", none), "readings", "readings", defArgs s_readings, defBody s_readings, defScope s_readings, [], []⟩
abbrev s_size : Stmt := topS 20
theorem sc_size : FnScope ["view", "rows"] ["view"] (defScope s_size) := ⟨rfl, rfl, rfl, by decide +kernel, rfl, by decide +kernel, by decide +kernel⟩
def d_size : He.DefD := ⟨("size", none), "size", "size", defArgs s_size, defBody s_size, defScope s_size, [], []⟩
abbrev s_law : Stmt := topS 34
theorem sc_law : FnScope ["script", "pool", "name", "rows", "view", "due", "y", "light", "moved", "told", "side", "value", "rest", "new", "row", "number", "x", "old"] ["script"] (defScope s_law) := ⟨rfl, rfl, rfl, by decide +kernel, rfl, by decide +kernel, by decide +kernel⟩
def d_law : He.DefD := ⟨("law", none), "law", "law", defArgs s_law, defBody s_law, defScope s_law, [], []⟩
def fn : List He.DefD := [d_Misused___init__, d_is_whole, d_is_within, d_is_reading, d__moved_reading, d__is_row, d__is_rows, d_moved_light, d__law_lighter, d__law_wide, d__law_take, d_is_name, d__law_name, d__law_pool, d__law_reading, d__law_rows, d_is_tuple_of, d_is_view, d__law_spoilt, d_readings, d_size, d_law]
def fa : List He.Fa := [He.Fa.free "isinstance", He.Fa.free "bool", He.Fa.free "int", He.Fa.free "len", He.Fa.free "tuple", He.Fa.free "str", He.Fa.int "LONGEST_NAME" (8), He.Fa.free "all", He.Fa.str "DIGITS" "0123456789", He.Fa.str "LETTERS" "abcdefghijklmnopqrstuvwxyz", He.Fa.int "GREATEST_READING" (999), He.Fa.int "MOST_COLUMNS" (12), He.Fa.int "MOST_ROWS" (12), He.Fa.free "enumerate", He.Fa.glo "Misused", He.Fa.free "abs", He.Fa.free "list", He.Fa.free "range", He.Fa.exm "Misused" "Misused" true, He.Fa.glo "Clashing", He.Fa.glo "is_whole", He.Fa.glo "is_within", He.Fa.glo "is_reading", He.Fa.glo "_moved_reading", He.Fa.glo "_is_row", He.Fa.glo "_is_rows", He.Fa.glo "moved_light", He.Fa.glo "_law_lighter", He.Fa.glo "_law_wide", He.Fa.glo "_law_take", He.Fa.glo "is_name", He.Fa.glo "_law_name", He.Fa.glo "_law_pool", He.Fa.glo "_law_reading", He.Fa.glo "_law_rows", He.Fa.glo "is_tuple_of", He.Fa.glo "is_view", He.Fa.glo "_law_spoilt", He.Fa.glo "readings", He.Fa.glo "size", He.Fa.glo "law"]
def bxs (K : PySem.W.Frag) : List Bool := [exB K (He.ga K "Clashing") "name", exB K (He.ga K "Misused") "why", decide (PySem.W.kitOne K (.ref (He.ga K "Misused")) (.ref (He.ga K "Clashing")) = some false)]
def bx (K : PySem.W.Frag) : Bool := (bxs K).all id
section
variable {P : Program} {w : World} {K : PySem.W.Frag} {mg : Str → Option Value} {base : Heap}
theorem ex_Clashing (T : Tx fa fn bx K mg) : ExC K (He.ga K "Clashing") "name" := exB_ok (Y.all_at T.more 0 rfl)
theorem ex_Misused (T : Tx fa fn bx K mg) : ExC K (He.ga K "Misused") "why" := exB_ok (Y.all_at T.more 1 rfl)
theorem kit_Misused_Clashing (T : Tx fa fn bx K mg) : PySem.W.kitOne K (.ref (He.ga K "Misused")) (.ref (He.ga K "Clashing")) = some false := of_decide_eq_true (Y.all_at T.more 2 rfl)
theorem F_Misused___init__ (T : Tx fa fn bx K mg) : FunD K "__init__" "Misused.__init__" (defArgs s_Misused___init__) (defBody s_Misused___init__) (defScope s_Misused___init__) [] [] (He.ma K (He.ga K "Misused") "__init__") (fdOf K (He.ma K (He.ga K "Misused") "__init__")) := T.fn 0 rfl
theorem cal_Misused___init__ (T : Tx fa fn bx K mg) : CalM K (He.ma K (He.ga K "Misused") "__init__") ["self", "why"] := ⟨(F_Misused___init__ T).kp, (F_Misused___init__ T).bindsN fun _ _ _ _ _ _ us hl => match us, hl with | [_, _], _ => rfl⟩
theorem F_is_whole (T : Tx fa fn bx K mg) : FunD K "is_whole" "is_whole" (defArgs s_is_whole) (defBody s_is_whole) (defScope s_is_whole) [] [] (He.ga K "is_whole") (fdOf K (He.ga K "is_whole")) := T.fn 1 rfl
theorem cal_is_whole (T : Tx fa fn bx K mg) : Cal K mg "is_whole" ["value"] := ⟨T.glo 20, (F_is_whole T).kp, (F_is_whole T).bindsN fun _ _ _ _ _ _ us hl => match us, hl with | [_], _ => rfl⟩
theorem F_is_within (T : Tx fa fn bx K mg) : FunD K "is_within" "is_within" (defArgs s_is_within) (defBody s_is_within) (defScope s_is_within) [] [] (He.ga K "is_within") (fdOf K (He.ga K "is_within")) := T.fn 2 rfl
theorem cal_is_within (T : Tx fa fn bx K mg) : Cal K mg "is_within" ["value", "least", "greatest"] := ⟨T.glo 21, (F_is_within T).kp, (F_is_within T).bindsN fun _ _ _ _ _ _ us hl => match us, hl with | [_, _, _], _ => rfl⟩
theorem F_is_reading (T : Tx fa fn bx K mg) : FunD K "is_reading" "is_reading" (defArgs s_is_reading) (defBody s_is_reading) (defScope s_is_reading) [] [] (He.ga K "is_reading") (fdOf K (He.ga K "is_reading")) := T.fn 3 rfl
theorem cal_is_reading (T : Tx fa fn bx K mg) : Cal K mg "is_reading" ["value"] := ⟨T.glo 22, (F_is_reading T).kp, (F_is_reading T).bindsN fun _ _ _ _ _ _ us hl => match us, hl with | [_], _ => rfl⟩
theorem F__moved_reading (T : Tx fa fn bx K mg) : FunD K "_moved_reading" "_moved_reading" (defArgs s__moved_reading) (defBody s__moved_reading) (defScope s__moved_reading) [] [] (He.ga K "_moved_reading") (fdOf K (He.ga K "_moved_reading")) := T.fn 4 rfl
theorem cal__moved_reading (T : Tx fa fn bx K mg) : Cal K mg "_moved_reading" ["reading", "light"] := ⟨T.glo 23, (F__moved_reading T).kp, (F__moved_reading T).bindsN fun _ _ _ _ _ _ us hl => match us, hl with | [_, _], _ => rfl⟩
theorem F__is_row (T : Tx fa fn bx K mg) : FunD K "_is_row" "_is_row" (defArgs s__is_row) (defBody s__is_row) (defScope s__is_row) [] [] (He.ga K "_is_row") (fdOf K (He.ga K "_is_row")) := T.fn 5 rfl
theorem cal__is_row (T : Tx fa fn bx K mg) : Cal K mg "_is_row" ["value"] := ⟨T.glo 24, (F__is_row T).kp, (F__is_row T).bindsN fun _ _ _ _ _ _ us hl => match us, hl with | [_], _ => rfl⟩
theorem F__is_rows (T : Tx fa fn bx K mg) : FunD K "_is_rows" "_is_rows" (defArgs s__is_rows) (defBody s__is_rows) (defScope s__is_rows) [] [] (He.ga K "_is_rows") (fdOf K (He.ga K "_is_rows")) := T.fn 6 rfl
theorem cal__is_rows (T : Tx fa fn bx K mg) : Cal K mg "_is_rows" ["value"] := ⟨T.glo 25, (F__is_rows T).kp, (F__is_rows T).bindsN fun _ _ _ _ _ _ us hl => match us, hl with | [_], _ => rfl⟩
theorem F_moved_light (T : Tx fa fn bx K mg) : FunD K "moved_light" "moved_light" (defArgs s_moved_light) (defBody s_moved_light) (defScope s_moved_light) [] [] (He.ga K "moved_light") (fdOf K (He.ga K "moved_light")) := T.fn 7 rfl
theorem cal_moved_light (T : Tx fa fn bx K mg) : Cal K mg "moved_light" ["view", "light"] := ⟨T.glo 26, (F_moved_light T).kp, (F_moved_light T).bindsN fun _ _ _ _ _ _ us hl => match us, hl with | [_, _], _ => rfl⟩
theorem F__law_lighter (T : Tx fa fn bx K mg) : FunD K "_law_lighter" "_law_lighter" (defArgs s__law_lighter) (defBody s__law_lighter) (defScope s__law_lighter) [] [] (He.ga K "_law_lighter") (fdOf K (He.ga K "_law_lighter")) := T.fn 8 rfl
theorem cal__law_lighter (T : Tx fa fn bx K mg) : Cal K mg "_law_lighter" ["view", "light"] := ⟨T.glo 27, (F__law_lighter T).kp, (F__law_lighter T).bindsN fun _ _ _ _ _ _ us hl => match us, hl with | [_, _], _ => rfl⟩
theorem F__law_wide (T : Tx fa fn bx K mg) : FunD K "_law_wide" "_law_wide" (defArgs s__law_wide) (defBody s__law_wide) (defScope s__law_wide) [] [] (He.ga K "_law_wide") (fdOf K (He.ga K "_law_wide")) := T.fn 9 rfl
theorem cal__law_wide (T : Tx fa fn bx K mg) : Cal K mg "_law_wide" ["script", "k"] := ⟨T.glo 28, (F__law_wide T).kp, (F__law_wide T).bindsN fun _ _ _ _ _ _ us hl => match us, hl with | [_, _], _ => rfl⟩
theorem F__law_take (T : Tx fa fn bx K mg) : FunD K "_law_take" "_law_take" (defArgs s__law_take) (defBody s__law_take) (defScope s__law_take) [] [] (He.ga K "_law_take") (fdOf K (He.ga K "_law_take")) := T.fn 10 rfl
theorem cal__law_take (T : Tx fa fn bx K mg) : Cal K mg "_law_take" ["pool", "most"] := ⟨T.glo 29, (F__law_take T).kp, (F__law_take T).bindsN fun _ _ _ _ _ _ us hl => match us, hl with | [_, _], _ => rfl⟩
theorem F_is_name (T : Tx fa fn bx K mg) : FunD K "is_name" "is_name" (defArgs s_is_name) (defBody s_is_name) (defScope s_is_name) [] [] (He.ga K "is_name") (fdOf K (He.ga K "is_name")) := T.fn 11 rfl
theorem cal_is_name (T : Tx fa fn bx K mg) : Cal K mg "is_name" ["value"] := ⟨T.glo 30, (F_is_name T).kp, (F_is_name T).bindsN fun _ _ _ _ _ _ us hl => match us, hl with | [_], _ => rfl⟩
theorem F__law_name (T : Tx fa fn bx K mg) : FunD K "_law_name" "_law_name" (defArgs s__law_name) (defBody s__law_name) (defScope s__law_name) [] [] (He.ga K "_law_name") (fdOf K (He.ga K "_law_name")) := T.fn 12 rfl
theorem cal__law_name (T : Tx fa fn bx K mg) : Cal K mg "_law_name" ["pool"] := ⟨T.glo 31, (F__law_name T).kp, (F__law_name T).bindsN fun _ _ _ _ _ _ us hl => match us, hl with | [_], _ => rfl⟩
theorem F__law_pool (T : Tx fa fn bx K mg) : FunD K "_law_pool" "_law_pool" (defArgs s__law_pool) (defBody s__law_pool) (defScope s__law_pool) [] [] (He.ga K "_law_pool") (fdOf K (He.ga K "_law_pool")) := T.fn 13 rfl
theorem cal__law_pool (T : Tx fa fn bx K mg) : Cal K mg "_law_pool" ["script"] := ⟨T.glo 32, (F__law_pool T).kp, (F__law_pool T).bindsN fun _ _ _ _ _ _ us hl => match us, hl with | [_], _ => rfl⟩
theorem F__law_reading (T : Tx fa fn bx K mg) : FunD K "_law_reading" "_law_reading" (defArgs s__law_reading) (defBody s__law_reading) (defScope s__law_reading) [] [] (He.ga K "_law_reading") (fdOf K (He.ga K "_law_reading")) := T.fn 14 rfl
theorem cal__law_reading (T : Tx fa fn bx K mg) : Cal K mg "_law_reading" ["pool"] := ⟨T.glo 33, (F__law_reading T).kp, (F__law_reading T).bindsN fun _ _ _ _ _ _ us hl => match us, hl with | [_], _ => rfl⟩
theorem F__law_rows (T : Tx fa fn bx K mg) : FunD K "_law_rows" "_law_rows" (defArgs s__law_rows) (defBody s__law_rows) (defScope s__law_rows) [] [] (He.ga K "_law_rows") (fdOf K (He.ga K "_law_rows")) := T.fn 15 rfl
theorem cal__law_rows (T : Tx fa fn bx K mg) : Cal K mg "_law_rows" ["pool", "most"] := ⟨T.glo 34, (F__law_rows T).kp, (F__law_rows T).bindsN fun _ _ _ _ _ _ us hl => match us, hl with | [_, _], _ => rfl⟩
theorem F_is_tuple_of (T : Tx fa fn bx K mg) : FunD K "is_tuple_of" "is_tuple_of" (defArgs s_is_tuple_of) (defBody s_is_tuple_of) (defScope s_is_tuple_of) [] [] (He.ga K "is_tuple_of") (fdOf K (He.ga K "is_tuple_of")) := T.fn 16 rfl
theorem cal_is_tuple_of (T : Tx fa fn bx K mg) : Cal K mg "is_tuple_of" ["value", "length"] := ⟨T.glo 35, (F_is_tuple_of T).kp, (F_is_tuple_of T).bindsN fun _ _ _ _ _ _ us hl => match us, hl with | [_, _], _ => rfl⟩
theorem F_is_view (T : Tx fa fn bx K mg) : FunD K "is_view" "is_view" (defArgs s_is_view) (defBody s_is_view) (defScope s_is_view) [] [] (He.ga K "is_view") (fdOf K (He.ga K "is_view")) := T.fn 17 rfl
theorem cal_is_view (T : Tx fa fn bx K mg) : Cal K mg "is_view" ["value"] := ⟨T.glo 36, (F_is_view T).kp, (F_is_view T).bindsN fun _ _ _ _ _ _ us hl => match us, hl with | [_], _ => rfl⟩
theorem F__law_spoilt (T : Tx fa fn bx K mg) : FunD K "_law_spoilt" "_law_spoilt" (defArgs s__law_spoilt) (defBody s__law_spoilt) (defScope s__law_spoilt) [] [] (He.ga K "_law_spoilt") (fdOf K (He.ga K "_law_spoilt")) := T.fn 18 rfl
theorem cal__law_spoilt (T : Tx fa fn bx K mg) : Cal K mg "_law_spoilt" ["pool", "name", "rows"] := ⟨T.glo 37, (F__law_spoilt T).kp, (F__law_spoilt T).bindsN fun _ _ _ _ _ _ us hl => match us, hl with | [_, _, _], _ => rfl⟩
theorem F_readings (T : Tx fa fn bx K mg) : FunD K "readings" "readings" (defArgs s_readings) (defBody s_readings) (defScope s_readings) [] [] (He.ga K "readings") (fdOf K (He.ga K "readings")) := T.fn 19 rfl
theorem cal_readings (T : Tx fa fn bx K mg) : Cal K mg "readings" ["view"] := ⟨T.glo 38, (F_readings T).kp, (F_readings T).bindsN fun _ _ _ _ _ _ us hl => match us, hl with | [_], _ => rfl⟩
theorem F_size (T : Tx fa fn bx K mg) : FunD K "size" "size" (defArgs s_size) (defBody s_size) (defScope s_size) [] [] (He.ga K "size") (fdOf K (He.ga K "size")) := T.fn 20 rfl
theorem cal_size (T : Tx fa fn bx K mg) : Cal K mg "size" ["view"] := ⟨T.glo 39, (F_size T).kp, (F_size T).bindsN fun _ _ _ _ _ _ us hl => match us, hl with | [_], _ => rfl⟩
theorem F_law (T : Tx fa fn bx K mg) : FunD K "law" "law" (defArgs s_law) (defBody s_law) (defScope s_law) [] [] (He.ga K "law") (fdOf K (He.ga K "law")) := T.fn 21 rfl
theorem cal_law (T : Tx fa fn bx K mg) : Cal K mg "law" ["script"] := ⟨T.glo 40, (F_law T).kp, (F_law T).bindsN fun _ _ _ _ _ _ us hl => match us, hl with | [_], _ => rfl⟩
theorem ok_Misused___init__ (T : Tx fa fn bx K mg) : FnOk P w K mg base CX0 1 (He.ma K (He.ga K "Misused") "__init__") (fdOf K (He.ma K (He.ga K "Misused") "__init__")) ["self", "why"] (spXi (He.ga K "Misused") "why") := by
  refine FunD.ok (F_Misused___init__ T) sc_Misused___init__ (fun vs H Q E h => ?_) (fun cdv A outer s H vs Q E hr h => ?_)
  · obtain ⟨_, _, rfl, _⟩ := h
    rfl
  · obtain ⟨a, v, rfl, ha, q⟩ := h
    refine ⟨_, PSs.nox ((pss_one (ps_ost (pv 0) (pv 1)))), ?_⟩
    exact ⟨_, rfl, _, rfl, a, _, rfl, (ex_Misused T).oex, (ex_Misused T).no, .inl ⟨ha, fun dx hd hne => q dx hd hne⟩⟩
def isWhole (d : PyData) : Bool := match d with
  | .int _ => true
  | _ => false
def sp_is_whole (K : PySem.W.Frag) : Sp := fun vs H Q _ => ∃ G v d, vs = [v] ∧ Y.Ex G H ∧ Dp K G v d ∧ Q (.bl (isWhole d)) H
theorem ok_is_whole (T : Tx fa fn bx K mg) : FnOk P w K mg base CX0 1 (He.ga K "is_whole") (fdOf K (He.ga K "is_whole")) ["value"] (sp_is_whole K) := by
  refine FunD.ok (F_is_whole T) sc_is_whole (fun vs H Q E h => ?_) (fun cdv A outer s H vs Q E hr h => ?_)
  · obtain ⟨_, _, _, rfl, _⟩ := h
    rfl
  · obtain ⟨G, v, d, rfl, e, hd, q⟩ := h
    refine ⟨_, PSs.nox ((pss_one (ps_ret (pe_and (pe_callB (Y.call_isiK (K := K) rfl) (by rfl) (T.free 0) (by decide +kernel) (pa_cons (pv 0) (pa_cons (pe_bltn (v := .ty "int") (by rfl) (T.free 2) (by decide +kernel) rfl) pa_nil))) (pe_one (pe_not (pe_callB (Y.call_isiK (K := K) rfl) (by rfl) (T.free 0) (by decide +kernel) (pa_cons (pv 0) (pa_cons (pe_bltn (v := .ty "bool") (by rfl) (T.free 1) (by decide +kernel) rfl) pa_nil))))))))), ?_⟩
    cases d with
    | dict _ => exact (dp_nodict hd).elim
    | int i =>
      cases dp_int hd
      walk_at "sx"
      walk_at "isi"
      walk_at "sx"
      walk_at "isi"
      walk_at "sx"
      exact q
    | _ =>
      walk_at "sx"
      walk_at "isi"
      walk_at "sx"
      try (walk_at "isi"; walk_at "sx")
      exact q
def within (d : PyData) (lo hi : Int) : Bool := match d with
  | .int i => decide (lo ≤ i ∧ i ≤ hi)
  | _ => false
def sp_is_within (K : PySem.W.Frag) : Sp := fun vs H Q _ => ∃ G v d lo hi, vs = [v, .int lo, .int hi] ∧ Y.Ex G H ∧ Dp K G v d ∧ Q (.bl (within d lo hi)) H
theorem ok_is_within (T : Tx fa fn bx K mg) : FnOk P w K mg base CX0 2 (He.ga K "is_within") (fdOf K (He.ga K "is_within")) ["value", "least", "greatest"] (sp_is_within K) := by
  refine FunD.ok (F_is_within T) sc_is_within (fun vs H Q E h => ?_) (fun cdv A outer s H vs Q E hr h => ?_)
  · obtain ⟨_, _, _, _, _, rfl, _⟩ := h
    rfl
  · obtain ⟨G, v, d, lo, hi, rfl, e, hd, q⟩ := h
    refine ⟨_, PSs.nox ((pss_one (ps_ret (pe_and (Y.pe_callC (ok_is_whole T) (cal_is_whole T) (hr.mono (by decide)) (by rfl) pass0 (pa_cons (pv 0) pa_nil)) (pe_one (pe_chain op_le op_le (pv 1) (pv 0) (pv 2))))))), ?_⟩
    walk_at "sx"
    refine ⟨G, v, d, rfl, e, hd, ?_⟩
    cases d with
    | dict _ => exact (dp_nodict hd).elim
    | int i =>
      cases dp_int hd
      refine ⟨true, rfl, ?_⟩
      walk_at "sx"
      refine g_dec (fun h1 => ?_) (fun h1 => ?_) <;> walk_at "sx" <;> exact q_bl q (by simp [within, h1])
    | _ =>
      refine ⟨false, rfl, ?_⟩
      walk_at "sx"
      exact q
def isRd (d : PyData) : Bool := match d with
  | .none => true
  | .int i => decide (0 ≤ i ∧ i ≤ 999)
  | _ => false
def sp_is_reading (K : PySem.W.Frag) : Sp := fun vs H Q _ => ∃ G v d, vs = [v] ∧ Y.Ex G H ∧ Dp K G v d ∧ Q (.bl (isRd d)) H
theorem ok_is_reading (T : Tx fa fn bx K mg) : FnOk P w K mg base CX0 3 (He.ga K "is_reading") (fdOf K (He.ga K "is_reading")) ["value"] (sp_is_reading K) := by
  refine FunD.ok (F_is_reading T) sc_is_reading (fun vs H Q E h => ?_) (fun cdv A outer s H vs Q E hr h => ?_)
  · obtain ⟨_, _, _, rfl, _⟩ := h
    rfl
  · obtain ⟨G, v, d, rfl, e, hd, q⟩ := h
    refine ⟨_, PSs.nox ((pss_one (ps_ret (pe_or (pe_cmp (pc_isN (pv 0))) (pe_one (Y.pe_callC (ok_is_within T) (cal_is_within T) (hr.mono (by decide)) (by rfl) pass0 (pa_cons (pv 0) (pa_cons pe_int (pa_cons (pe_gint (T.int 10)) pa_nil))))))))), ?_⟩
    walk_at "sx"
    refine g_dec (fun h1 => ?_) (fun h1 => ?_) <;> walk_at "sx"
    · rw [dp_non_iff hd] at h1
      subst h1
      exact q
    · rw [dp_non_iff hd] at h1
      refine ⟨G, v, d, 0, 999, rfl, e, hd, q_bl q ?_⟩
      cases d <;> first | rfl | exact absurd rfl h1
/-- a reading that is moved -/
def mvRd (l : Int) : PyData → Option PyData
  | .none => some .none
  | .int i => if 0 ≤ i + l ∧ i + l ≤ 999 then some (.int (i + l)) else none
  | _ => none
def sp__moved_reading (K : PySem.W.Frag) : Sp := fun vs H Q E => ∃ G v d l, vs = [v, .int l] ∧ Y.Ex G H ∧ Dp K G v d ∧ isRd d = true ∧
  (∀ d', mvRd l d = some d' → ∀ v', Dp K G v' d' → Q v' H) ∧ (mvRd l d = none → RaX (He.ga K "Misused") "why" (.str "light") G H E)
theorem ok__moved_reading (T : Tx fa fn bx K mg) : FnOk P w K mg base (L2.CX P w) 4 (He.ga K "_moved_reading") (fdOf K (He.ga K "_moved_reading")) ["reading", "light"] (sp__moved_reading K) := by
  refine FunD.ok (F__moved_reading T) sc__moved_reading (fun vs H Q E h => ?_) (fun cdv A outer s H vs Q E hr h => ?_)
  · obtain ⟨_, _, _, _, rfl, _⟩ := h
    rfl
  · obtain ⟨G, v, d, l, rfl, e, hd, hrd, q, qe⟩ := h
    refine ⟨_, ((pss_cons (ps_if (pt_cmp (pc_isN (pv 0)))
      (pss_one (ps_ret pe_non))
      pss_nil)
      (pss_cons (ps_set (i := 2) sc__moved_reading.nd rfl (Or.inl rfl) (pe_op op_add (pv 0) (pv 1)))
      (pss_cons (ps_if (pt_not (pt_val (Y.pe_callC (ok_is_reading T) (cal_is_reading T) (hr.mono (by decide)) (by rfl) pass0 (pa_cons (pv 2) pa_nil))))
      (pss_one (Y.ps_raiseI (ex_Misused T) (T.glo 14) (ok_Misused___init__ T) (cal_Misused___init__ T).b (hr.mono (by decide)) (by rfl) rfl (takes_ofL (takesL_of (takes_of rfl rfl rfl rfl))) (by exact (pa_cons pe_str pa_nil))))
      pss_nil)
      (pss_one (ps_ret (pv 2))))))), ?_⟩
    cases d with
    | none =>
      cases dp_non hd
      walk_at "sx"
      refine g_dec (fun h1 => ?_) (fun h1 => absurd rfl h1)
      walk_at "sx"
      exact q .none rfl _ .non
    | int i =>
      cases dp_int hd
      walk_at "sx"
      refine g_dec (fun h1 => nomatch h1) (fun h1 => ?_)
      walk_at "sx"
      refine ⟨G, _, .int (i + l), rfl, e, .int _, ?_⟩
      walk_at "sx"
      by_cases h2 : 0 ≤ i + l ∧ i + l ≤ 999
      · rw [show isRd (.int (i + l)) = true from decide_eq_true h2]
        walk_at "sx"
        exact q (.int (i + l)) (by simp only [mvRd]; rw [if_pos h2]) _ (.int _)
      · rw [show isRd (.int (i + l)) = false from decide_eq_false h2]
        walk_at "sx"
        refine ⟨_, rfl, fun dd hdd => (qe ?_).go (Nx.refl e) hdd⟩
        simp only [mvRd]
        rw [if_neg h2]
    | _ => cases hrd
def rowOk (d : PyData) : Bool := match d with
  | .tuple xs => decide (1 ≤ xs.length ∧ xs.length ≤ 12) && xs.all isRd
  | _ => false
def sp__is_row (K : PySem.W.Frag) : Sp := fun vs H Q _ => ∃ G v d, vs = [v] ∧ Y.Ex G H ∧ Dp K G v d ∧ ∀ G' H', Nx [] G H G' H' → Q (.bl (rowOk d)) H'
theorem ok__is_row (T : Tx fa fn bx K mg) : FnOk P w K mg base CX0 4 (He.ga K "_is_row") (fdOf K (He.ga K "_is_row")) ["value"] (sp__is_row K) := by
  refine FunD.ok (F__is_row T) sc__is_row (fun vs H Q E h => ?_) (fun cdv A outer s H vs Q E hr h => ?_)
  · obtain ⟨_, _, _, rfl, _⟩ := h
    rfl
  · obtain ⟨G, v, d, rfl, e, hd, q⟩ := h
    refine ⟨_, PSs.nox ((pss_cons (ps_if (PW.pt (pw_or (pt_not (pt_val (pe_callB (Y.call_isiK (K := K) rfl) (by rfl) (T.free 0) (by decide +kernel) (pa_cons (pv 0) (pa_cons (pe_bltn (v := .ty "tuple") (by rfl) (T.free 4) (by decide +kernel) rfl) pa_nil))))) (pw_or1 (pt_not (pt_chain op_le op_le pe_int (pe_callB (Y.call_lenK (K := K) rfl) (by rfl) (T.free 3) (by decide +kernel) (pa_cons (pv 0) pa_nil)) (pe_gint (T.int 11)))))))
      (pss_one (ps_ret pe_bl))
      pss_nil)
      (pss_one (ps_ret (pe_callB (Y.cr_allK (K := K) rfl rfl) (by rfl) (T.free 7) (by decide +kernel) (pa_cons (pe_lc (own := [("reading", 1)]) (tt := tYes) rfl sc__is_row.nd (Y.pi_tupK (K := K) rfl (pv 0)) (blkOk_by (own := [("reading", 1)]) (by kernel_rfl)) (fun _ _ _ _ _ => (pg_name (i := 1) sc__is_row.nd rfl (Or.inl rfl))) (fun _ _ _ _ _ => pts_nil) (fun _ _ _ _ _ => (Y.pe_callC (ok_is_reading T) (cal_is_reading T) (hr.mono (by decide)) (by rfl) pass0 (pa_cons (pv 1) pa_nil)))) pa_nil)))))), ?_⟩
    cases d with
    | dict _ => exact (dp_nodict hd).elim
    | tuple xs =>
      walk_at "sx"
      walk_at "isi"
      walk_at "sx"
      walk_at "len"
      walk_at "sx"
      refine g_dec (fun h1 => ?_) (fun h1 => ?_) <;> walk_at "sx"
      · refine g_ndec (fun h2 => ?_) (fun h2 => ?_) <;> walk_at "sx"
        · refine q_bl (q G H (Nx.refl e)) ?_
          simp only [rowOk]
          rw [decide_eq_false (by omega)]
          rfl
        · refine g_walkT e hd fun a ha S => ?_
          intro A hA
          refine g_lcMap (K := K) (M := []) (es := (xs.map isRd).map .bool) (S []) e hA (by simp) (szl (by omega)) (by simp) (fun i d d' v G' H' hi hi' dv n QE k => ?_) (fun G' H' ys n g h da => ?_)
          · have hd' : d' = .bool (isRd d) := by
              simp only [List.getElem?_map, hi, Option.map_some, Option.some.injEq] at hi'
              exact hi'.symm
            subst hd'
            walk_at "sx"
            exact ⟨G', v, d, rfl, n.gh, dv, k _ _ _ (Nx.refl n.gh) (.bl _)⟩
          · refine g_allM h da ?_
            refine q_bl (q G' H' n) ?_
            simp only [rowOk]
            rw [decide_eq_true (by omega), List.all_map]
            rfl
      · refine q_bl (q G H (Nx.refl e)) ?_
        simp only [rowOk]
        rw [decide_eq_false (by omega)]
        rfl
    | _ =>
      walk_at "sx"
      walk_at "isi"
      walk_at "sx"
      exact q G H (Nx.refl e)
def sameLen (xs : List PyData) : Bool := match xs with
  | [] => true
  | r :: _ => xs.all fun x => decide (dlen x = dlen r)
def rowsOk (d : PyData) : Bool := match d with
  | .tuple xs => decide (1 ≤ xs.length ∧ xs.length ≤ 12) && (xs.all rowOk && sameLen xs)
  | _ => false
theorem rowOk_tup {d : PyData} (h : rowOk d = true) : ∃ xs, d = .tuple xs ∧ 1 ≤ xs.length ∧ xs.length ≤ 12 ∧ xs.all isRd = true := by
  cases d with
  | tuple xs =>
    simp only [rowOk, Bool.and_eq_true, decide_eq_true_eq] at h
    exact ⟨xs, rfl, h.1.1, h.1.2, h.2⟩
  | _ => cases h
def sp__is_rows (K : PySem.W.Frag) : Sp := fun vs H Q _ => ∃ G v d, vs = [v] ∧ Y.Ex G H ∧ Dp K G v d ∧ ∀ G' H', Nx [] G H G' H' → Q (.bl (rowsOk d)) H'
theorem ok__is_rows (T : Tx fa fn bx K mg) : FnOk P w K mg base CX0 5 (He.ga K "_is_rows") (fdOf K (He.ga K "_is_rows")) ["value"] (sp__is_rows K) := by
  refine FunD.ok (F__is_rows T) sc__is_rows (fun vs H Q E h => ?_) (fun cdv A outer s H vs Q E hr h => ?_)
  · obtain ⟨_, _, _, rfl, _⟩ := h
    rfl
  · obtain ⟨G, v, d, rfl, e, hd, q⟩ := h
    refine ⟨_, PSs.nox ((pss_cons (ps_if (PW.pt (pw_or (pt_not (pt_val (pe_callB (Y.call_isiK (K := K) rfl) (by rfl) (T.free 0) (by decide +kernel) (pa_cons (pv 0) (pa_cons (pe_bltn (v := .ty "tuple") (by rfl) (T.free 4) (by decide +kernel) rfl) pa_nil))))) (pw_or1 (pt_not (pt_chain op_le op_le pe_int (pe_callB (Y.call_lenK (K := K) rfl) (by rfl) (T.free 3) (by decide +kernel) (pa_cons (pv 0) pa_nil)) (pe_gint (T.int 12)))))))
      (pss_one (ps_ret pe_bl))
      pss_nil)
      (pss_cons (ps_if (pt_not (pt_val (pe_callB (Y.cr_allK (K := K) rfl rfl) (by rfl) (T.free 7) (by decide +kernel) (pa_cons (pe_lc (own := [("row", 1)]) (tt := tYes) rfl sc__is_rows.nd (Y.pi_tupK (K := K) rfl (pv 0)) (blkOk_by (own := [("row", 1)]) (by kernel_rfl)) (fun _ _ _ _ _ => (pg_name (i := 1) sc__is_rows.nd rfl (Or.inl rfl))) (fun _ _ _ _ _ => pts_nil) (fun _ _ _ _ _ => (Y.pe_callC (ok__is_row T) (cal__is_row T) (hr.mono (by decide)) (by rfl) pass0 (pa_cons (pv 1) pa_nil)))) pa_nil))))
      (pss_one (ps_ret pe_bl))
      pss_nil)
      (pss_one (ps_ret (pe_callB (Y.cr_allK (K := K) rfl rfl) (by rfl) (T.free 7) (by decide +kernel) (pa_cons (pe_lc (own := [("row", 1)]) (tt := tYes) rfl sc__is_rows.nd (Y.pi_tupK (K := K) rfl (pv 0)) (blkOk_by (own := [("row", 1)]) (by kernel_rfl)) (fun _ _ _ _ _ => (pg_name (i := 1) sc__is_rows.nd rfl (Or.inl rfl))) (fun _ _ _ _ _ => pts_nil) (fun _ _ _ _ _ => (pe_cmpR op_eq (pe_callB (Y.call_lenK (K := K) rfl) (by rfl) (T.free 3) (by decide +kernel) (pa_cons (pv 1) pa_nil)) (pe_callB (Y.call_lenK (K := K) rfl) (by rfl) (T.free 3) (by decide +kernel) (pa_cons (pe_ix (Y.ix_tupK (K := K) rfl) (pv 0) pe_int (fun _ _ => rfl)) pa_nil)) (nomark _)))) pa_nil))))))), ?_⟩
    cases d with
    | dict _ => exact (dp_nodict hd).elim
    | tuple xs =>
      walk_at "sx"
      walk_at "isi"
      walk_at "sx"
      walk_at "len"
      walk_at "sx"
      refine g_dec (fun h1 => ?_) (fun h1 => ?_) <;> walk_at "sx"
      · refine g_ndec (fun h2 => ?_) (fun h2 => ?_) <;> walk_at "sx"
        · refine q_bl (q G H (Nx.refl e)) ?_
          simp only [rowsOk]
          rw [decide_eq_false (by omega)]
          rfl
        · have h12 : 1 ≤ xs.length ∧ xs.length ≤ 12 := by omega
          refine g_walkT e hd fun a ha S => ?_
          intro A hA
          refine g_lcMap (K := K) (M := []) (es := (xs.map rowOk).map .bool) (S []) e hA (by simp) (szl (by omega)) (by simp) (fun i d d' v G' H' hi hi' dv n QE k => ?_) (fun G' H' ys n g h da => ?_)
          · have hd' : d' = .bool (rowOk d) := by
              simp only [List.getElem?_map, hi, Option.map_some, Option.some.injEq] at hi'
              exact hi'.symm
            subst hd'
            walk_at "sx"
            exact ⟨G', v, d, rfl, n.gh, dv, fun G2 H2 n2 => k _ _ _ n2 (.bl _)⟩
          · walk_at "sx"
            refine g_allM h da ?_
            walk_at "sx"
            have hall : (xs.map rowOk).all id = xs.all rowOk := by rw [List.all_map]; rfl
            rw [hall]
            cases hr : xs.all rowOk with
            | false =>
              walk_at "sx"
              refine q_bl (q G' H' n) ?_
              simp only [rowsOk]
              rw [hr, decide_eq_true h12]
              rfl
            | true =>
              walk_at "sx"
              have hd1 : Dp K G' v (.tuple xs) := dp_mono n.gg hd
              refine g_walkT n.gh hd1 fun a' ha' S' => ?_
              intro B hB
              have hx : ∃ r rs, xs = r :: rs := by
                cases xs with
                | nil => simp at h12
                | cons r rs => exact ⟨r, rs, rfl⟩
              obtain ⟨r, rs, hrs⟩ := hx
              have row : ∀ {i : Nat} {d : PyData}, xs[i]? = some d → ∃ cs, d = .tuple cs := fun {i d} hi => by
                obtain ⟨cs, h1, _⟩ := rowOk_tup (List.all_eq_true.mp hr d (List.mem_of_getElem? hi))
                exact ⟨cs, h1⟩
              refine g_lcMap (K := K) (M := []) (es := (xs.map fun x => decide (dlen x = dlen r)).map .bool) (S' []) n.gh hB (by simp) (szl (by omega)) (by simp) (fun i d d' w G2 H2 hi hi' dv n2 QE k => ?_) (fun G2 H2 ys n2 g h da => ?_)
              · have hd' : d' = .bool (decide (dlen d = dlen r)) := by
                  simp only [List.getElem?_map, hi, Option.map_some, Option.some.injEq] at hi'
                  exact hi'.symm
                subst hd'
                obtain ⟨cs, rfl⟩ := row hi
                obtain ⟨c0, rfl⟩ := row (i := 0) (d := r) (by rw [hrs]; rfl)
                have e2 := n2.gh
                have hd2 : Dp K G2 v (.tuple xs) := dp_mono n2.gg hd1
                walk_at "sx"
                walk_at "len"
                walk_at "sx"
                refine g_ixT (k := 0) e2 hd2 (by rw [hrs]; rfl) rfl fun u hu => ?_
                walk_at "sx"
                walk_at "len"
                walk_at "sx"
                refine k _ _ _ (Nx.refl e2) ?_
                rw [dec_ni]
                exact .bl _
              · walk_at "sx"
                refine g_allM h da ?_
                refine q_bl (q G2 H2 (n.trans n2)) ?_
                simp only [rowsOk]
                rw [hr, decide_eq_true h12, List.all_map]
                simp only [sameLen, hrs, Bool.true_and]
                rfl
      · refine q_bl (q G H (Nx.refl e)) ?_
        simp only [rowsOk]
        rw [decide_eq_false (by omega)]
        rfl
    | _ =>
      walk_at "sx"
      walk_at "isi"
      walk_at "sx"
      exact q G H (Nx.refl e)
def mvRow (l : Int) : PyData → Option PyData
  | .tuple cs => (allSome (mvRd l) cs).map .tuple
  | _ => none
def sp_moved_light (K : PySem.W.Frag) : Sp := fun vs H Q E => ∃ G v nm rs l, vs = [v, .int l] ∧ Y.Ex G H ∧ Dp K G v (.tuple [nm, .tuple rs]) ∧ rowsOk (.tuple rs) = true ∧
  (∀ rs', allSome (mvRow l) rs = some rs' → ∀ p G' H', Nx [] G H G' H' → Dp K G' p (.tuple [nm, .tuple rs']) → Q p H') ∧ (allSome (mvRow l) rs = none → RaX (He.ga K "Misused") "why" (.str "light") G H E)
theorem ok_moved_light (T : Tx fa fn bx K mg) : FnOk P w K mg base (L2.CX P w) 5 (He.ga K "moved_light") (fdOf K (He.ga K "moved_light")) ["view", "light"] (sp_moved_light K) := by
  refine FunD.ok (F_moved_light T) sc_moved_light (fun vs H Q E h => ?_) (fun cdv A outer s H vs Q E hr h => ?_)
  · obtain ⟨_, _, _, _, _, rfl, _⟩ := h
    rfl
  · obtain ⟨G, v, nm, rs, l, rfl, e, hd, hok, q, qe⟩ := h
    refine ⟨_, ((pss_cons (ps_asg (pv 0) (Y.pg_tupK (K := K) (n := 2) rfl rfl (pgs_cons (pg_name (i := 2) sc_moved_light.nd rfl (Or.inl rfl)) (pgs_cons (pg_name (i := 3) sc_moved_light.nd rfl (Or.inl rfl)) pgs_nil))))
      (pss_one (ps_ret (pe_tup (pa_cons (pv 2) (pa_cons (pe_callTy (Y.call_tupleK (K := K) rfl) (by rfl) (T.free 4) (by decide +kernel) (pa_cons (Y.pe_lcX (own := [("row", 4)]) (tt := tYes) (takesL_of (takes_of rfl rfl rfl rfl)) rfl rfl rfl rfl sc_moved_light.nd (Y.pi_tupK (K := K) rfl (pv 3)) (blkOk_by (own := [("row", 4)]) (by kernel_rfl)) (fun _ _ _ _ _ => (pg_name (i := 4) sc_moved_light.nd rfl (Or.inl rfl))) (fun _ _ _ _ _ => pts_nil) (fun _ _ _ _ _ _ tk1 => (pe_callTy (Y.call_tupleK (K := K) rfl) (by rfl) (T.free 4) (by decide +kernel) (pa_cons (Y.pe_lcX (own := [("reading", 5)]) (tt := tYes) tk1 rfl rfl rfl rfl sc_moved_light.nd (Y.pi_tupK (K := K) rfl (pv 4)) (blkOk_by (own := [("reading", 5)]) (by kernel_rfl)) (fun _ _ _ _ _ => (pg_name (i := 5) sc_moved_light.nd rfl (Or.inl rfl))) (fun _ _ _ _ _ => pts_nil) (fun _ _ _ _ _ _ tk2 => (Y.pe_callC (ok__moved_reading T) (cal__moved_reading T) (hr.mono (by decide)) (by rfl) (passL tk2) (pa_cons (pv 5) (pa_cons (pv 1) pa_nil))))) pa_nil)))) pa_nil)) pa_nil))))))), ?_⟩
    simp only [rowsOk, Bool.and_eq_true, decide_eq_true_eq] at hok
    obtain ⟨⟨_, h12⟩, hrow, _⟩ := hok
    walk_at "sx"
    refine g_un2 e hd fun v1 v2 hv1 hv2 => ?_
    walk_at "sx"
    refine g_walkT e hv2 fun a ha S => ?_
    intro A hA
    refine g_lcS (K := K) (M := []) (S []) e hA (by simp) (szl (by omega)) (fun i acc => allSome (mvRow l) (rs.take i) = some acc) rfl (fun i d w acc G1 H1 hi dw n _ hj QE QN k1 k2 => ?_) (fun G1 H1 ys acc hj n g h da => ?_)
    · obtain ⟨cs, rfl, _, c12, hrd⟩ := rowOk_tup (List.all_eq_true.mp hrow d (List.mem_of_getElem? hi))

      walk_at "sx"
      refine g_walkT n.gh dw fun b hb S2 => ?_
      intro B hB
      refine g_lcS (K := K) (M := []) (S2 []) n.gh hB (by simp) (szl (by omega)) (fun j acc => allSome (mvRd l) (cs.take j) = some acc) rfl (fun j d2 w2 acc2 G2 H2 hj2 dw2 n2 _ hjj QE2 QN2 k3 k4 => ?_) (fun G2 H2 ys2 acc2 hjj n2 g2 h2 da2 => ?_)
      · skip
        walk_at "sx"
        refine ⟨G2, w2, d2, l, rfl, n2.gh, dw2, List.all_eq_true.mp hrd d2 (List.mem_of_getElem? hj2), fun d' hd' v' hv' => ?_, fun hn => ?_⟩
        · refine k3 v' G2 H2 d' (Nx.refl n2.gh) hv' ?_
          rw [List.take_add_one, hj2]
          exact allSome_snoc hd' hjj
        · refine (qe ?_).trans (n.trans n2)
          refine allSome_none (d := .tuple cs) ?_ (List.mem_of_getElem? hi)
          simp only [mvRow]
          rw [allSome_none hn (List.mem_of_getElem? hj2)]
          rfl
      · walk_at "sx"
        refine g_tupOfM n2.gh h2 da2 fun p G3 H3 n3 dp => ?_
        refine k1 _ G3 H3 _ (n2.trans n3) dp ?_
        rw [List.take_add_one, hi]
        refine allSome_snoc ?_ hj
        rw [List.take_length] at hjj
        simp only [mvRow]
        rw [hjj]
        rfl
    · walk_at "sx"
      refine g_tupOfM n.gh h da fun p G3 H3 n3 dp => ?_
      walk_at "sx"
      refine g_tupD n3.gh (.cons (dp_mono (n.trans n3).gg hv1) (.cons dp .nil)) (by show 2 ≤ sizeLine; decide) fun t G4 H4 n4 dt => ?_
      rw [List.take_length] at hj
      exact q acc hj _ G4 H4 ((n.trans n3).trans n4) dt
def sp__law_lighter (K : PySem.W.Frag) : Sp := fun vs H Q _ => ∃ G v nm rs l, vs = [v, .int l] ∧ Y.Ex G H ∧ Dp K G v (.tuple [nm, .tuple rs]) ∧ rowsOk (.tuple rs) = true ∧
  (∀ rs', allSome (mvRow l) rs = some rs' → ∀ p G' H', Nx [] G H G' H' → Dp K G' p (.tuple [nm, .tuple rs']) → Q p H') ∧ (allSome (mvRow l) rs = none → ∀ G' H', Nx [] G H G' H' → Q (.str "light") H')
theorem ok__law_lighter (T : Tx fa fn bx K mg) : FnOk P w K mg base CX0 6 (He.ga K "_law_lighter") (fdOf K (He.ga K "_law_lighter")) ["view", "light"] (sp__law_lighter K) := by
  refine FunD.ok (F__law_lighter T) sc__law_lighter (fun vs H Q E h => ?_) (fun cdv A outer s H vs Q E hr h => ?_)
  · obtain ⟨_, _, _, _, _, rfl, _⟩ := h
    rfl
  · obtain ⟨G, v, nm, rs, l, rfl, e, hd, hok, q, qe⟩ := h
    refine ⟨_, PSs.nox ((pss_one (ps_try_as (i := 2) (tb := fun W => tRet (tCallS (sp_moved_light K) (WE W) (tCons (tVar 0) (tCons (tVar 1) tNil)))) (ts := fun a cls d => tSeq (tIfS (tB (tCB (rIsEo K a cls d) (tCons (tVar 2) (tCons (tC (.ref (He.ga K "Clashing"))) tNil)))) (tRet (tC (.str "clashing"))) tNext) (tRet (tXf a cls d (He.ga K "Misused") "why" (tVar 2)))) (Wout := fun _ _ _ _ => False) rfl rfl sc__law_lighter.nd rfl rfl ⟨rfl, by decide, .inl (T.glo 14)⟩ takes0 (fun W pn xe tk _ => pss_one (ps_ret (by exact Y.pe_callSC (ok_moved_light T) (cal_moved_light T) (hr.mono (by decide)) (by rfl) tk (pa_cons (pv 0) (pa_cons (pv 1) pa_nil))))) (fun a oe cls d pn hz hf => pss_cons (ps_if (pt_val (by exact pe_callB (Y.call_isEo hz hf) (by rfl) (T.free 0) (by decide +kernel) (pa_cons (pv 2) (pa_cons (pe_glob (v := .ref (He.ga K "Clashing")) rfl (T.glo 19) rfl) pa_nil)))) (pss_one (ps_ret pe_str)) pss_nil) (pss_one (ps_ret (by exact pe_xf (ex_Misused T).xf (ex_Misused T).no hz hf (pv 2)))))))), ?_⟩
    walk_at "sx"
    refine ⟨G, v, nm, rs, l, rfl, e, hd, hok, q, fun hn G' H' dd n hdd => ?_⟩
    refine ⟨true, T.exm 18, fun _ a ha => ?_, fun z => Bool.noConfusion z⟩
    walk_at "sx"
    refine g_isE hdd (ex_Misused T).ec (kit_Misused_Clashing T) ?_
    walk_at "sx"
    refine g_xf rfl hdd rfl ?_
    exact qe hn G' H' n
def sp__law_wide (K : PySem.W.Frag) : Sp := fun vs H Q _ => ∃ (G : Hp) (a : Addr) (ns : List Int) (k : Int), vs = [.ref a, .int k] ∧ Y.Ex G H ∧ SqL K G a (ns.map V.int) ∧ 0 ≤ k ∧ ∀ r, 0 ≤ r → Q (.int r) H
theorem ok__law_wide (T : Tx fa fn bx K mg) : FnOk P w K mg base CX0 1 (He.ga K "_law_wide") (fdOf K (He.ga K "_law_wide")) ["script", "k"] (sp__law_wide K) := by
  refine FunD.ok (F__law_wide T) sc__law_wide (fun vs H Q E h => ?_) (fun cdv A outer s H vs Q E hr h => ?_)
  · obtain ⟨_, _, _, _, rfl, _⟩ := h
    rfl
  · obtain ⟨G, a, ns, k, rfl, e, hs, hk, q⟩ := h
    refine ⟨_, PSs.nox ((pss_cons (ps_set (i := 2) sc__law_wide.nd rfl (Or.inl rfl) pe_int)
      (pss_cons (ps_if (pt_cmpR op_lt (pv 1) (pe_callB (Y.call_lenK (K := K) rfl) (by rfl) (T.free 3) (by decide +kernel) (pa_cons (pv 0) pa_nil)) (nomark _))
      (pss_one (ps_set (i := 2) sc__law_wide.nd rfl (Or.inl rfl) (pe_callB Y.call_abs (by rfl) (T.free 15) (by decide +kernel) (pa_cons (pe_ix (Y.ix_listK (K := K) rfl) (pv 0) (pv 1) (fun _ _ => rfl)) pa_nil))))
      pss_nil)
      (pss_cons (ps_if (pt_cmpR op_ge (pv 2) pe_int (nomark _))
      (pss_one (ps_ret (pv 2)))
      pss_nil)
      (pss_cons (ps_set (i := 3) sc__law_wide.nd rfl (Or.inl rfl) (pe_op op_modN (pe_callTy Y.call_int1 (by rfl) (T.free 2) (by decide +kernel) (pa_cons (pe_op op_add (pe_op op_mul (pe_op op_add (pv 2) pe_int) pe_int) (pe_op op_mul (pe_op op_add (pv 1) pe_int) pe_int)) pa_nil)) pe_int))
      (pss_one (ps_ret (pe_op op_modN (pe_callTy Y.call_int1 (by rfl) (T.free 2) (by decide +kernel) (pa_cons (pe_op op_add (pe_op op_mul (pv 3) pe_int) (pe_op op_fdivN (pv 3) pe_int)) pa_nil)) pe_int)))))))), ?_⟩
    walk_at "sx"
    refine g_lenK e hs ?_
    walk_at "sx"
    refine g_dec (fun h1 => ?_) (fun h1 => ?_) <;> walk_at "sx"
    · rw [List.length_map] at h1
      have hl : k.toNat < ns.length := by omega
      refine g_ixK e hs (k := k.toNat) (v := .int ns[k.toNat]) (by simp [hl]) (by omega) ?_
      walk_at "sx"
      refine g_dec (fun h2 => ?_) (fun h2 => ?_) <;> walk_at "sx"
      · exact q _ (by omega)
      · refine g_I (.inr (by decide)) ?_
        walk_at "sx"
        refine g_I (.inr (by decide)) ?_
        walk_at "sx"
        refine g_I (by decide) ?_
        walk_at "sx"
        refine g_I (.inr (by decide)) ?_
        walk_at "sx"
        refine g_I ⟨by decide, by decide⟩ ?_
        walk_at "sx"
        refine g_I (by decide) ?_
        walk_at "sx"
        exact q _ (Int.fmod_nonneg_of_pos _ (by decide))
    · refine g_dec (fun h2 => ?_) (fun h2 => ?_) <;> walk_at "sx"
      · exact q _ (Int.le_refl _)
      · refine g_I (.inr (by decide)) ?_
        walk_at "sx"
        refine g_I (.inr (by decide)) ?_
        walk_at "sx"
        refine g_I (by decide) ?_
        walk_at "sx"
        refine g_I (.inr (by decide)) ?_
        walk_at "sx"
        refine g_I ⟨by decide, by decide⟩ ?_
        walk_at "sx"
        refine g_I (by decide) ?_
        walk_at "sx"
        exact q _ (Int.fmod_nonneg_of_pos _ (by decide))
def sp__law_take (K : PySem.W.Frag) : Sp := fun vs H Q _ => ∃ G a m, vs = [.ref a, .int m] ∧ Y.Ex G H ∧ PoolAt K a G H ∧ 0 < m ∧ m < 1073741824 ∧ ∀ i H', 0 ≤ i → i < m → Nx [a] G H G H' → PoolAt K a G H' → Q (.int i) H'
theorem take_end {K : PySem.W.Frag} {G H : Hp} {Q : VK} {a l : Addr} {x k m : Int} {ns : List Int} (e : Y.Ex G H) (g : G a = none) (h : H a = some (.lst [.int x, .ref l, .int k])) (hl : SqL K G l (ns.map V.int)) (hx : 0 ≤ x) (hk : -1 ≤ k) (h0 : 0 < m) (h1 : m < 1073741824)
    (q : ∀ i H', 0 ≤ i → i < m → Nx [a] G H G H' → PoolAt K a G H' → Q (.int i) H') : Q (.int (x.fmod m)) (upd H a (.lst [.int (x.fdiv m), .ref l, .int k])) := by
  refine q _ _ (Int.fmod_nonneg_of_pos _ h0) (Int.fmod_lt_of_pos _ h0) (Nx.set e g (by simp)) ⟨g, _, k, l, ns, upd_same, hl, ?_, hk⟩
  rw [Int.fdiv_eq_ediv_of_nonneg _ (by omega)]
  exact Int.ediv_nonneg hx (by omega)
theorem ok__law_take (T : Tx fa fn bx K mg) : FnOk P w K mg base CX0 2 (He.ga K "_law_take") (fdOf K (He.ga K "_law_take")) ["pool", "most"] (sp__law_take K) := by
  refine FunD.ok (F__law_take T) sc__law_take (fun vs H Q E h => ?_) (fun cdv A outer s H vs Q E hr h => ?_)
  · obtain ⟨_, _, _, rfl, _⟩ := h
    rfl
  · obtain ⟨G, a, m, rfl, e, ⟨g, x, k, l, ns, hp, hl, hx, hk⟩, h0, h1, q⟩ := h
    refine ⟨_, PSs.nox ((pss_cons (ps_if (pt_cmpR op_lt (pe_ix (Y.ix_listK (K := K) rfl) (pv 0) pe_int (fun _ _ => rfl)) pe_int (nomark _))
      (pss_cons (ps_asg (pe_op op_add (pe_ix (Y.ix_listK (K := K) rfl) (pv 0) pe_int (fun _ _ => rfl)) pe_int) (pg_sub (pv 0) pe_int set_list))
      (pss_one (ps_asg (Y.pe_callC (ok__law_wide T) (cal__law_wide T) (hr.mono (by decide)) (by rfl) pass0 (pa_cons (pe_ix (Y.ix_listK (K := K) rfl) (pv 0) pe_int (fun _ _ => rfl)) (pa_cons (pe_ix (Y.ix_listK (K := K) rfl) (pv 0) pe_int (fun _ _ => rfl)) pa_nil))) (pg_sub (pv 0) pe_int set_list))))
      pss_nil)
      (pss_cons (ps_set (i := 2) sc__law_take.nd rfl (Or.inl rfl) (pe_op op_modN (pe_callTy Y.call_int1 (by rfl) (T.free 2) (by decide +kernel) (pa_cons (pe_ix (Y.ix_listK (K := K) rfl) (pv 0) pe_int (fun _ _ => rfl)) pa_nil)) (pv 1)))
      (pss_cons (ps_asg (pe_op op_fdivN (pe_ix (Y.ix_listK (K := K) rfl) (pv 0) pe_int (fun _ _ => rfl)) (pv 1)) (pg_sub (pv 0) pe_int set_list))
      (pss_one (ps_ret (pv 2))))))), ?_⟩
    walk_at "sx"
    refine g_ixM hp (k := 0) rfl rfl ?_
    walk_at "sx"
    refine g_dec (fun h2 => ?_) (fun h2 => ?_) <;> walk_at "sx"
    · refine g_ixM hp (k := 2) rfl rfl ?_
      walk_at "sx"
      refine g_setM hp (k := 2) rfl (by simp) ?_
      have n1 : Nx [a] G H G (upd H a (.lst [.int x, .ref l, .int (k + 1)])) := Nx.set e g (by simp)
      have hp1 : (upd H a (.lst [.int x, .ref l, .int (k + 1)])) a = some (.lst [.int x, .ref l, .int (k + 1)]) := upd_same
      show tSeq _ _ _ _ (upd H a (.lst [.int x, .ref l, .int (k + 1)]))
      generalize upd H a (.lst [.int x, .ref l, .int (k + 1)]) = H1 at n1 hp1 ⊢
      walk_at "sx"
      refine g_ixM hp1 (k := 1) rfl rfl ?_
      walk_at "sx"
      refine g_ixM hp1 (k := 2) rfl rfl ?_
      walk_at "sx"
      refine ⟨G, l, ns, k + 1, rfl, n1.gh, hl, by omega, fun r hr => ?_⟩
      walk_at "sx"
      refine g_setM hp1 (k := 0) rfl (by simp) ?_
      have n2 : Nx [a] G H1 G (upd H1 a (.lst [.int r, .ref l, .int (k + 1)])) := Nx.set n1.gh g (by simp)
      have hp2 : (upd H1 a (.lst [.int r, .ref l, .int (k + 1)])) a = some (.lst [.int r, .ref l, .int (k + 1)]) := upd_same
      show tNext _ _ (upd H1 a (.lst [.int r, .ref l, .int (k + 1)]))
      generalize upd H1 a (.lst [.int r, .ref l, .int (k + 1)]) = H2 at n2 hp2 ⊢
      walk_at "sx"
      refine g_ixM hp2 (k := 0) rfl rfl ?_
      walk_at "sx"
      refine g_I (by omega) ?_
      walk_at "sx"
      refine g_ixM hp2 (k := 0) rfl rfl ?_
      walk_at "sx"
      refine g_I ⟨by omega, by omega⟩ ?_
      walk_at "sx"
      refine g_setM hp2 (k := 0) rfl (by simp) ?_
      walk_at "sx"
      exact take_end n2.gh g hp2 hl hr (by omega) h0 h1 fun i H' a1 a2 n p => q i H' a1 a2 ((n1.trans n2).trans n) p
    · refine g_ixM hp (k := 0) rfl rfl ?_
      walk_at "sx"
      refine g_I (by omega) ?_
      walk_at "sx"
      refine g_ixM hp (k := 0) rfl rfl ?_
      walk_at "sx"
      refine g_I ⟨by omega, by omega⟩ ?_
      walk_at "sx"
      refine g_setM hp (k := 0) rfl (by simp) ?_
      walk_at "sx"
      exact take_end e g hp hl hx hk h0 h1 q
def letq (c : Nat) : Bool := decide (c ∈ ("abcdefghijklmnopqrstuvwxyz" : Str).cps.toList)
def digq (c : Nat) : Bool := decide (c ∈ ("0123456789" : Str).cps.toList)
def nameOk (s : Str) : Bool := decide (1 ≤ s.length ∧ s.length ≤ 8) && (match s.cps.toList with
  | [] => false
  | c :: _ => letq c) && s.cps.toList.all fun c => letq c || digq c
def isName (d : PyData) : Bool := match d with
  | .str s => nameOk s
  | _ => false
def sp_is_name (K : PySem.W.Frag) : Sp := fun vs H Q _ => ∃ G v d, vs = [v] ∧ Y.Ex G H ∧ Dp K G v d ∧ fit d = true ∧ ∀ G' H', Nx [] G H G' H' → Q (.bl (isName d)) H'
theorem ok_is_name (T : Tx fa fn bx K mg) : FnOk P w K mg base CX0 1 (He.ga K "is_name") (fdOf K (He.ga K "is_name")) ["value"] (sp_is_name K) := by
  refine FunD.ok (F_is_name T) sc_is_name (fun vs H Q E h => ?_) (fun cdv A outer s H vs Q E hr h => ?_)
  · obtain ⟨_, _, _, rfl, _⟩ := h
    rfl
  · obtain ⟨G, v, d, rfl, e, hd, hf, q⟩ := h
    refine ⟨_, PSs.nox ((pss_cons (ps_if (PW.pt (pw_or (pt_not (pt_val (pe_callB (Y.call_isiK (K := K) rfl) (by rfl) (T.free 0) (by decide +kernel) (pa_cons (pv 0) (pa_cons (pe_bltn (v := .ty "str") (by rfl) (T.free 5) (by decide +kernel) rfl) pa_nil))))) (pw_or1 (pt_not (pt_chain op_le op_le pe_int (pe_callB Y.call_lenS (by rfl) (T.free 3) (by decide +kernel) (pa_cons (pv 0) pa_nil)) (pe_gint (T.int 6)))))))
      (pss_one (ps_ret pe_bl))
      pss_nil)
      (pss_one (ps_ret (pe_and (pe_cmpR Y.op_inSign (pe_ix ix_str (pv 0) pe_int (fun _ _ => rfl)) (pe_gstr (T.str 9)) (by rfl)) (pe_one (pe_callB (Y.cr_allK (K := K) rfl rfl) (by rfl) (T.free 7) (by decide +kernel) (pa_cons (pe_lc (own := [("sign", 1)]) (tt := tYes) rfl sc_is_name.nd (pi_str (pv 0)) (blkOk_by (own := [("sign", 1)]) (by kernel_rfl)) (fun _ _ _ _ _ => (pg_name (i := 1) sc_is_name.nd rfl (Or.inl rfl))) (fun _ _ _ _ _ => pts_nil) (fun _ _ _ _ _ => (pe_or (pe_cmpR Y.op_inSign (pv 1) (pe_gstr (T.str 9)) (by rfl)) (pe_one (pe_cmpR Y.op_inSign (pv 1) (pe_gstr (T.str 8)) (by rfl)))))) pa_nil)))))))), ?_⟩
    cases d with
    | dict _ => exact (dp_nodict hd).elim
    | str s =>
      cases dp_str hd
      have hz : s.length ≤ sizeLine := fit_str hf
      walk_at "sx"
      walk_at "isi"
      walk_at "sx"
      refine g_lenS hz ?_
      walk_at "sx"
      refine g_dec (fun h1 => ?_) (fun h1 => ?_) <;> walk_at "sx"
      · refine g_ndec (fun h2 => ?_) (fun h2 => ?_) <;> walk_at "sx"
        · refine q_bl (q G H (Nx.refl e)) ?_
          simp only [isName, nameOk]
          rw [decide_eq_false (by omega)]
          rfl
        · obtain ⟨c, r, hc⟩ : ∃ c r, s.cps.toList = c :: r := by
            cases hs : s.cps.toList with
            | nil =>
              have : s.length = 0 := by show s.cps.size = 0; rw [← Array.length_toList, hs]; rfl
              omega
            | cons c r => exact ⟨c, r, rfl⟩
          have hn : nameOk s = (letq c && s.cps.toList.all fun c => letq c || digq c) := by
            unfold nameOk
            rw [hc, decide_eq_true (show 1 ≤ s.length ∧ s.length ≤ 8 by omega)]
            simp
          refine g_ixS (k := 0) (c := c) hz (by rw [hc]; rfl) rfl ?_
          walk_at "sx"
          refine g_dec (fun h3 => ?_) (fun h3 => ?_) <;> walk_at "sx"
          · refine g_walkS ?_
            intro A hA
            refine g_lcMap (K := K) (M := []) (es := (s.cps.toList.map fun c => letq c || digq c).map .bool) (src_str s) e hA (by simp) (by rw [sgn_len]; exact szl (by omega)) (by rw [sgn_len, List.length_map, List.length_map]; exact Array.length_toList) (fun i d d' v G' H' hi hi' dv n QE k => ?_) (fun G' H' ys n g h da => ?_)
            · obtain ⟨x, hx, rfl⟩ := sgn_get hi
              have hd' : d' = .bool (letq x || digq x) := by
                simp only [List.getElem?_map, hx, Option.map_some, Option.some.injEq] at hi'
                exact hi'.symm
              subst hd'
              cases dp_str dv
              walk_at "sx"
              refine g_dec (fun h4 => ?_) (fun h4 => ?_) <;> walk_at "sx"
              · refine k _ _ _ (Nx.refl n.gh) ?_
                rw [show letq x = true from decide_eq_true h4]
                exact .bl _
              · refine k _ _ _ (Nx.refl n.gh) ?_
                rw [show letq x = false from decide_eq_false h4]
                exact .bl _
            · refine g_allM h da ?_
              refine q_bl (q G' H' n) ?_
              show nameOk s = _
              rw [hn, show letq c = true from decide_eq_true h3, List.all_map]
              rfl
          · refine q_bl (q G H (Nx.refl e)) ?_
            show nameOk s = _
            rw [hn, show letq c = false from decide_eq_false h3]
            rfl
      · refine q_bl (q G H (Nx.refl e)) ?_
        simp only [isName, nameOk]
        rw [decide_eq_false (by omega)]
        rfl
    | _ =>
      walk_at "sx"
      walk_at "isi"
      walk_at "sx"
      exact q G H (Nx.refl e)
def headq (s : Str) : Bool := match s.cps.toList with
  | [] => false
  | c :: _ => letq c
def partsq (s : Str) : Bool := s.cps.toList.all fun c => letq c || digq c
theorem nameOk_of {s : Str} (h1 : 1 ≤ s.length) (h2 : s.length ≤ 8) (h3 : headq s = true) (h4 : partsq s = true) : nameOk s = true := by
  unfold nameOk
  rw [decide_eq_true (show 1 ≤ s.length ∧ s.length ≤ 8 from ⟨h1, h2⟩)]
  unfold headq at h3
  unfold partsq at h4
  rw [h4, Bool.and_true, Bool.true_and]
  exact h3
theorem app_list (a b : Str) : (a ++ b).cps.toList = a.cps.toList ++ b.cps.toList := by
  show (a.cps ++ b.cps).toList = _
  simp
theorem app_len (a b : Str) : (a ++ b).length = a.length + b.length := by
  show (a.cps ++ b.cps).size = _
  rw [Array.size_append]
  rfl
theorem headq_app {a b : Str} (h : headq a = true) : headq (a ++ b) = true := by
  unfold headq at h ⊢
  rw [app_list]
  cases e : a.cps.toList with
  | nil => rw [e] at h; cases h
  | cons c r => rw [e] at h; exact h
theorem partsq_app {a b : Str} (h : partsq a = true) (h2 : partsq b = true) : partsq (a ++ b) = true := by
  unfold partsq at h h2 ⊢
  rw [app_list, List.all_append, h, h2]
  rfl
theorem let_mem {c : Nat} (h : c ∈ ("abcdefghijklmnopqrstuvwxyz" : Str).cps.toList) : letq c = true := decide_eq_true h
theorem sign_mem {c : Nat} (h : c ∈ (("abcdefghijklmnopqrstuvwxyz" : Str) ++ ("0123456789" : Str)).cps.toList) : (letq c || digq c) = true := by
  rw [app_list] at h
  rcases List.mem_append.mp h with h | h
  · rw [show letq c = true from decide_eq_true h]; rfl
  · rw [show digq c = true from decide_eq_true h, Bool.or_true]
theorem let_small {c : Nat} (h : letq c = true) : c < 128 := by
  have h2 : c ∈ ("abcdefghijklmnopqrstuvwxyz" : Str).cps.toList := of_decide_eq_true h
  exact (show ∀ c ∈ ("abcdefghijklmnopqrstuvwxyz" : Str).cps.toList, c < 128 by decide +kernel) c h2
theorem dig_small {c : Nat} (h : digq c = true) : c < 128 := by
  have h2 : c ∈ ("0123456789" : Str).cps.toList := of_decide_eq_true h
  exact (show ∀ c ∈ ("0123456789" : Str).cps.toList, c < 128 by decide +kernel) c h2
theorem nameOk_inv {s : Str} (h : nameOk s = true) : 1 ≤ s.length ∧ s.length ≤ 8 ∧ headq s = true ∧ partsq s = true := by
  unfold nameOk at h
  simp only [Bool.and_eq_true, decide_eq_true_eq] at h
  exact ⟨h.1.1.1, h.1.1.2, h.1.2, h.2⟩
theorem fit_name {s : Str} (h : nameOk s = true) : fit (.str s) = true := by
  obtain ⟨h1, h2, _, h4⟩ := nameOk_inv h
  rw [fit, decide_eq_true (by omega), Bool.true_and]
  unfold PyData.strOk
  rw [← Array.all_toList]
  refine List.all_eq_true.mpr fun c hc => ?_
  have := List.all_eq_true.mp h4 c hc
  refine decide_eq_true ?_
  rcases Bool.or_eq_true_iff.mp this with z | z
  · have := let_small z; omega
  · have := dig_small z; omega
theorem fit_list {ds : List PyData} (h1 : ds.length ≤ 100000) (h : ∀ d ∈ ds, fit d = true) : fit (.list ds) = true := by rw [fit, decide_eq_true h1, Bool.true_and]; exact fitAll_iff.mpr h
def sp__law_name (K : PySem.W.Frag) : Sp := fun vs H Q _ => ∃ G a, vs = [.ref a] ∧ Y.Ex G H ∧ PoolAt K a G H ∧ ∀ s G' H', ((nameOk s = true ∧ s ≠ "zz9") ∧ (s.length ≠ 3 ∨ s = "end")) → Nx [a] G H G' H' → PoolAt K a G' H' → Q (.str s) H'
theorem ok__law_name (T : Tx fa fn bx K mg) : FnOk P w K mg base CX0 3 (He.ga K "_law_name") (fdOf K (He.ga K "_law_name")) ["pool"] (sp__law_name K) := by
  refine FunD.ok (F__law_name T) sc__law_name (fun vs H Q E h => ?_) (fun cdv A outer s H vs Q E hr h => ?_)
  · obtain ⟨_, _, rfl, _⟩ := h
    rfl
  · obtain ⟨G, a, rfl, e, hp, q⟩ := h
    refine ⟨_, PSs.nox ((pss_cons (ps_set (i := 1) sc__law_name.nd rfl (Or.inl rfl) pe_str)
      (pss_cons (ps_set (i := 2) sc__law_name.nd rfl (Or.inl rfl) (pe_ix (Y.ix_listK (K := K) rfl) (pe_lst (pa_cons pe_str (pa_cons pe_str (pa_cons pe_str (pa_cons pe_str (pa_cons pe_str (pa_cons pe_str pa_nil))))))) (Y.pe_callC (ok__law_take T) (cal__law_take T) (hr.mono (by decide)) (by rfl) pass0 (pa_cons (pv 0) (pa_cons pe_int pa_nil))) (fun _ _ => rfl)))
      (pss_cons (ps_if (pt_cmpR op_eq (Y.pe_callC (ok__law_take T) (cal__law_take T) (hr.mono (by decide)) (by rfl) pass0 (pa_cons (pv 0) (pa_cons pe_int pa_nil))) pe_int (nomark _))
      (pss_cons (ps_set (i := 2) sc__law_name.nd rfl (Or.inl rfl) (pe_ix ix_str (pv 1) (Y.pe_callC (ok__law_take T) (cal__law_take T) (hr.mono (by decide)) (by rfl) pass0 (pa_cons (pv 0) (pa_cons pe_int pa_nil))) (fun _ _ => rfl)))
      (pss_one (ps_for PassesOwn.never rfl (pi_range1 (by rfl) (T.free 17) (pa_cons (pe_ix (Y.ix_listK (K := K) rfl) (pe_lst (pa_cons pe_int (pa_cons pe_int (pa_cons pe_int (pa_cons pe_int pa_nil))))) (Y.pe_callC (ok__law_take T) (cal__law_take T) (hr.mono (by decide)) (by rfl) pass0 (pa_cons (pv 0) (pa_cons pe_int pa_nil))) (fun _ _ => rfl)) pa_nil)) (pg_name (i := 3) sc__law_name.nd rfl (Or.inl rfl))
      (pss_one (ps_set (i := 2) sc__law_name.nd rfl (Or.inl rfl) (pe_op Y.op_addS (pv 2) (pe_ix ix_str (pe_op Y.op_addS (pv 1) pe_str) (Y.pe_callC (ok__law_take T) (cal__law_take T) (hr.mono (by decide)) (by rfl) pass0 (pa_cons (pv 0) (pa_cons pe_int pa_nil))) (fun _ _ => rfl))))))))
      pss_nil)
      (pss_one (ps_ret (pv 2))))))), ?_⟩
    walk_at "sx"
    refine g_lstD (K := K) (ds := [.str "a", .str "b", .str "view", .str "end", .str "link", .str "c"]) e (by walk_at "da") (by show 6 ≤ sizeLine; decide) fun p G1 H1 n1 dp => ?_
    walk_at "sx"
    refine ⟨G1, a, 6, rfl, n1.gh, hp.go n1 (by simp), by decide, by decide, fun i H2 i0 i1 n2 hp2 => ?_⟩
    walk_at "sx"
    refine g_ixLn n2.gh dp i0 (by simpa using i1) fun v d hm _ dv => ?_
    obtain ⟨s, rfl, hs⟩ : ∃ s, d = .str s ∧ ((nameOk s = true ∧ s ≠ "zz9") ∧ (s.length ≠ 3 ∨ s = "end")) := by
      simp only [List.mem_cons, List.not_mem_nil, or_false] at hm
      rcases hm with h | h | h | h | h | h <;> exact ⟨_, h, by decide +kernel⟩
    cases dp_str dv
    have n12 := n1.pure.trans n2
    clear dp dv hm i0 i1
    walk_at "sx"
    refine ⟨G1, a, 3, rfl, n2.gh, hp2, by decide, by decide, fun i H3 i0 i1 n3 hp3 => ?_⟩
    walk_at "sx"
    have n13 := n12.trans n3
    refine g_dec (fun h2 => ?_) (fun h2 => ?_) <;> walk_at "sx"
    · refine ⟨G1, a, 26, rfl, n3.gh, hp3, by decide, by decide, fun i4 H4 j0 j1 n4 hp4 => ?_⟩
      walk_at "sx"
      refine g_ixSn (by decide) j0 j1 fun c hc => ?_
      walk_at "sx"
      refine g_lstD (K := K) (ds := [.int 0, .int 1, .int 3, .int 7]) n4.gh (by walk_at "da") (by show 4 ≤ sizeLine; decide) fun p2 G5 H5 n5 dp2 => ?_
      walk_at "sx"
      refine ⟨G5, a, 4, rfl, n5.gh, hp4.go n5 (by simp), by decide, by decide, fun i6 H6 k0 k1 n6 hp6 => ?_⟩
      walk_at "sx"
      refine g_ixLn n6.gh dp2 k0 (by simpa using k1) fun v d hm _ dv => ?_
      obtain ⟨m, rfl, hm0, hm7, hm2⟩ : ∃ m : Int, d = .int m ∧ 0 ≤ m ∧ m ≤ 7 ∧ m ≠ 2 := by
        simp only [List.mem_cons, List.not_mem_nil, or_false] at hm
        rcases hm with h | h | h | h <;> exact ⟨_, h, by decide, by decide, by decide⟩
      cases dp_int dv
      walk_at "sx"
      have n16 := ((n13.trans n4).trans n5.pure).trans n6
      refine g_walkR (by omega) (by omega) ?_
      refine g_forS (K := K) (M := [a]) (src_rng 0 m.toNat) n6.gh (fun i σ G' H' => PoolAt K a G' H' ∧ ∃ s y, σ = [some (.ref a), some (.str "abcdefghijklmnopqrstuvwxyz"), some (.str s), y] ∧ s.length = 1 + i ∧ headq s = true ∧ partsq s = true) ⟨hp6, _, _, rfl, rfl, by show letq c = true; exact let_mem hc, ?_⟩ ?_ ?_
      · show ([c] : List Nat).all _ = true
        simp only [List.all_cons, List.all_nil, let_mem hc]
        rfl
      · rintro i d w σ' G7 H7 G8 H8 hi n7 ⟨hp7, s, y, rfl, hl, hh, hq⟩ n8 dw
        have hil : i < m.toNat := by
          have := (List.getElem?_eq_some_iff.mp hi).1
          simpa [rng] using this
        have hp8 := hp7.go n8 (by simp)
        walk_at "sx"
        refine g_addS (by decide) ?_
        walk_at "sx"
        refine ⟨G8, a, 36, rfl, n8.gh, hp8, by decide, by decide, fun i9 H9 l0 l1 n9 hp9 => ?_⟩
        walk_at "sx"
        refine g_ixSn (by decide) l0 l1 fun c2 hc2 => ?_
        walk_at "sx"
        refine g_addS (by rw [hl]; show 1 + i + 1 ≤ sizeLine; rw [sizeLine_eq]; omega) ?_
        walk_at "sx"
        refine ⟨G8, (n7.trans n8.pure).trans n9, hp9, _, _, rfl, ?_, headq_app hh, partsq_app hq ?_⟩
        · rw [app_len, hl]; rfl
        · show ([c2] : List Nat).all _ = true
          simp only [List.all_cons, List.all_nil, sign_mem hc2]
          rfl
      · rintro σ' G7 H7 n7 ⟨hp7, s, y, rfl, hl, hh, hq⟩
        walk_at "sx"
        have : (rng 0 m.toNat).length = m.toNat := by simp [rng]
        refine q s G7 H7 ⟨⟨nameOk_of (by omega) (by omega) hh hq, fun z => ?_⟩, .inl (by omega)⟩ (n16.trans n7) hp7
        rw [z] at hl
        have h3 : ("zz9" : Str).length = 3 := by decide
        omega
    · exact q s G1 H3 hs n13 hp3
def sp__law_pool (K : PySem.W.Frag) : Sp := fun vs H Q _ => ∃ (G : Hp) (a : Addr) (ns : List Int), vs = [.ref a] ∧ Y.Ex G H ∧ SqL K G a (ns.map V.int) ∧ ∀ p G' H', Nx [] G H G' H' → H p = none → PoolAt K p G' H' → Q (.ref p) H'
theorem ok__law_pool (T : Tx fa fn bx K mg) : FnOk P w K mg base CX0 1 (He.ga K "_law_pool") (fdOf K (He.ga K "_law_pool")) ["script"] (sp__law_pool K) := by
  refine FunD.ok (F__law_pool T) sc__law_pool (fun vs H Q E h => ?_) (fun cdv A outer s H vs Q E hr h => ?_)
  · obtain ⟨_, _, _, rfl, _⟩ := h
    rfl
  · obtain ⟨G, a, ns, rfl, e, hs, q⟩ := h
    refine ⟨_, PSs.nox ((pss_one (ps_ret (pe_lst (pa_cons pe_int (pa_cons (pe_callTy (Y.call_listK (K := K) rfl) (by rfl) (T.free 16) (by decide +kernel) (pa_cons (pv 0) pa_nil)) (pa_cons (pe_un un_neg pe_int) pa_nil))))))), ?_⟩
    walk_at "sx"
    refine g_listOf e (.inl (.lst hs (dpAll_ints ns))) fun l G1 H1 n1 dl => ?_
    walk_at "sx"
    refine g_lstM (xs := [.int 0, .ref l, .int (-1)]) n1.gh (by show 3 ≤ sizeLine; decide) fun p H2 n2 np hp gp => ?_
    obtain ⟨l', vs, el, sl, dl'⟩ := dp_lst dl
    cases el
    rw [dpAll_ints_inv dl'] at sl
    exact q p G1 H2 (n1.trans n2) (n1.fresh np) ⟨gp, 0, -1, l, ns, hp, sl, by decide, by decide⟩
def sp__law_reading (K : PySem.W.Frag) : Sp := fun vs H Q _ => ∃ G a, vs = [.ref a] ∧ Y.Ex G H ∧ PoolAt K a G H ∧ ∀ v d G' H', isRd d = true → Dp K G' v d → Nx [a] G H G' H' → PoolAt K a G' H' → Q v H'
theorem ok__law_reading (T : Tx fa fn bx K mg) : FnOk P w K mg base CX0 3 (He.ga K "_law_reading") (fdOf K (He.ga K "_law_reading")) ["pool"] (sp__law_reading K) := by
  refine FunD.ok (F__law_reading T) sc__law_reading (fun vs H Q E h => ?_) (fun cdv A outer s H vs Q E hr h => ?_)
  · obtain ⟨_, _, rfl, _⟩ := h
    rfl
  · obtain ⟨G, a, rfl, e, hp, q⟩ := h
    refine ⟨_, PSs.nox ((pss_one (ps_ret (pe_ix (Y.ix_listK (K := K) rfl) (pe_lst (pa_cons pe_non (pa_cons pe_int (pa_cons pe_int (pa_cons pe_int (pa_cons pe_int (pa_cons pe_int (pa_cons (Y.pe_callC (ok__law_take T) (cal__law_take T) (hr.mono (by decide)) (by rfl) pass0 (pa_cons (pv 0) (pa_cons pe_int pa_nil))) (pa_cons pe_int pa_nil))))))))) (Y.pe_callC (ok__law_take T) (cal__law_take T) (hr.mono (by decide)) (by rfl) pass0 (pa_cons (pv 0) (pa_cons pe_int pa_nil))) (fun _ _ => rfl))))), ?_⟩
    walk_at "sx"
    refine ⟨G, a, 1000, rfl, e, hp, by decide, by decide, fun i H1 i0 i1 n1 hp1 => ?_⟩
    walk_at "sx"
    refine g_lstD (K := K) (ds := [.none, .int 0, .int 999, .int 7, .int 8, .int 9, .int i, .int 10]) n1.gh (by walk_at "da") (by show 8 ≤ sizeLine; decide) fun p G2 H2 n2 dp => ?_
    walk_at "sx"
    refine ⟨G2, a, 8, rfl, n2.gh, hp1.go n2 (by simp), by decide, by decide, fun j H3 j0 j1 n3 hp3 => ?_⟩
    walk_at "sx"
    refine g_ixLn n3.gh dp j0 (by simpa using j1) fun v d hm _ dv => ?_
    refine q v d G2 H3 ?_ dv ((n1.trans n2.pure).trans n3) hp3
    simp only [List.mem_cons, List.not_mem_nil, or_false] at hm
    rcases hm with h | h | h | h | h | h | h | h <;> subst h <;> simp only [isRd] <;> first | rfl | decide | exact decide_eq_true ⟨i0, by omega⟩
theorem rowsOk_of {rs : List PyData} {w : Nat} (h1 : 1 ≤ rs.length) (h2 : rs.length ≤ 12) (h3 : 1 ≤ w) (h4 : w ≤ 12) (h : ∀ d ∈ rs, ∃ cs, d = .tuple cs ∧ cs.length = w ∧ cs.all isRd = true) : rowsOk (.tuple rs) = true := by
  simp only [rowsOk]
  rw [decide_eq_true ⟨h1, h2⟩, Bool.true_and, Bool.and_eq_true]
  refine ⟨List.all_eq_true.mpr fun d hd => ?_, ?_⟩
  · obtain ⟨cs, rfl, hl, ha⟩ := h d hd
    simp only [rowOk]
    rw [ha, decide_eq_true (by omega)]
    rfl
  · cases rs with
    | nil => rfl
    | cons r rs =>
      simp only [sameLen]
      refine List.all_eq_true.mpr fun d hd => ?_
      obtain ⟨cs, rfl, hl, _⟩ := h d hd
      obtain ⟨c0, rfl, hl0, _⟩ := h r (by simp)
      simp only [dlen, hl, hl0, decide_true]
theorem fit_rd {d : PyData} (h : isRd d = true) : fit d = true := by cases d <;> first | rfl | cases h
theorem rows_inv {rs : List PyData} (h : rowsOk (.tuple rs) = true) : 1 ≤ rs.length ∧ rs.length ≤ 12 ∧ (∀ d ∈ rs, rowOk d = true) ∧ sameLen rs = true := by
  simp only [rowsOk, Bool.and_eq_true, decide_eq_true_eq] at h
  exact ⟨h.1.1, h.1.2, List.all_eq_true.mp h.2.1, h.2.2⟩
theorem fit_row {d : PyData} (h : rowOk d = true) : fit d = true := by
  obtain ⟨cs, rfl, _, h2, h3⟩ := rowOk_tup h
  exact fit_tuple (by omega) fun d hd => fit_rd (List.all_eq_true.mp h3 d hd)
def sp__law_rows (K : PySem.W.Frag) : Sp := fun vs H Q _ => ∃ G a m, vs = [.ref a, .int m] ∧ Y.Ex G H ∧ PoolAt K a G H ∧ 1 ≤ m ∧ m ≤ 12 ∧ ∀ v rs G' H', rowsOk (.tuple rs) = true → (rs.length : Int) ≤ m → (∀ d ∈ rs, (dlen d : Int) ≤ m) → Dp K G' v (.tuple rs) → Nx [a] G H G' H' → PoolAt K a G' H' → Q v H'
theorem ok__law_rows (T : Tx fa fn bx K mg) : FnOk P w K mg base CX0 4 (He.ga K "_law_rows") (fdOf K (He.ga K "_law_rows")) ["pool", "most"] (sp__law_rows K) := by
  refine FunD.ok (F__law_rows T) sc__law_rows (fun vs H Q E h => ?_) (fun cdv A outer s H vs Q E hr h => ?_)
  · obtain ⟨_, _, _, rfl, _⟩ := h
    rfl
  · obtain ⟨G, a, m, rfl, e, hp, hm1, hm2, q⟩ := h
    refine ⟨_, PSs.nox ((pss_cons (ps_set (i := 2) sc__law_rows.nd rfl (Or.inr rfl) (pe_op op_add pe_int (Y.pe_callC (ok__law_take T) (cal__law_take T) (hr.mono (by decide)) (by rfl) pass0 (pa_cons (pv 0) (pa_cons (pv 1) pa_nil)))))
      (pss_cons (ps_set (i := 3) sc__law_rows.nd rfl (Or.inl rfl) (pe_op op_add pe_int (Y.pe_callC (ok__law_take T) (cal__law_take T) (hr.mono (by decide)) (by rfl) pass0 (pa_cons (pv 0) (pa_cons (pv 1) pa_nil)))))
      (pss_one (ps_ret (pe_callTy (Y.call_tupleK (K := K) rfl) (by rfl) (T.free 4) (by decide +kernel) (pa_cons (pe_lc (own := [("y", 4)]) (tt := tYes) rfl sc__law_rows.nd (pi_range1 (by rfl) (T.free 17) (pa_cons (pv 3) pa_nil)) (blkOk_by (own := [("y", 4)]) (by kernel_rfl)) (fun _ _ _ _ _ => (pg_name (i := 4) sc__law_rows.nd rfl (Or.inl rfl))) (fun _ _ _ _ _ => pts_nil) (fun _ _ _ _ _ => (pe_callTy (Y.call_tupleK (K := K) rfl) (by rfl) (T.free 4) (by decide +kernel) (pa_cons (pe_lc (own := [("x", 5)]) (tt := tYes) rfl sc__law_rows.nd (pi_range1 (by rfl) (T.free 17) (pa_cons (pv 2) pa_nil)) (blkOk_by (own := [("x", 5)]) (by kernel_rfl)) (fun _ _ _ _ _ => (pg_name (i := 5) sc__law_rows.nd rfl (Or.inl rfl))) (fun _ _ _ _ _ => pts_nil) (fun _ _ _ _ _ => (Y.pe_callC (ok__law_reading T) (cal__law_reading T) (hr.mono (by decide)) (by rfl) pass0 (pa_cons (pv 0) pa_nil)))) pa_nil)))) pa_nil))))))), ?_⟩
    walk_at "sx"
    refine ⟨G, a, m, rfl, e, hp, by omega, by omega, fun w H1 w0 w1 n1 hp1 => ?_⟩
    walk_at "sx"
    refine ⟨G, a, m, rfl, n1.gh, hp1, by omega, by omega, fun t H2 t0 t1 n2 hp2 => ?_⟩
    walk_at "sx"
    refine g_walkR (by omega) (by omega) ?_
    intro A hA
    have lr : ∀ n : Nat, (rng 0 n).length = n := fun n => by simp [rng]
    refine g_lcPool (src_rng 0 _) n2.gh hA hp2 (by rw [lr]; exact szl (by omega)) (fun i acc => acc.length = i ∧ ∀ d ∈ acc, ∃ cs, d = .tuple cs ∧ cs.length = (1 + w).toNat ∧ cs.all isRd = true) ⟨rfl, by simp⟩ (fun i d v acc G3 H3 hi dv n3 hp3 _ hj QE QN k1 k2 => ?_) (fun G3 H3 ys acc hj n3 hp3 g h da => ?_)
    · walk_at "sx"
      refine g_walkR (by omega) (by omega) ?_
      intro B hB
      refine g_lcPool (src_rng 0 _) n3.gh hB hp3 (by rw [lr]; exact szl (by omega)) (fun i acc => acc.length = i ∧ acc.all isRd = true) ⟨rfl, rfl⟩ (fun i2 d2 v2 acc2 G4 H4 hi2 dv2 n4 hp4 _ hj2 QE2 QN2 k3 k4 => ?_) (fun G4 H4 ys2 acc2 hj2 n4 hp4 g2 h2 da2 => ?_)
      · walk_at "sx"
        refine ⟨G4, a, rfl, n4.gh, hp4, fun u du G5 H5 hu hdu n5 hp5 => k3 u H5 |> fun k => ?_⟩
        refine k3 u G5 H5 du n5 hp5 hdu ⟨by rw [List.length_append, hj2.1]; rfl, by rw [List.all_append, hj2.2]; simp [hu]⟩
      · walk_at "sx"
        refine g_tupOfM n4.gh h2 da2 fun p G5 H5 n5 dp => ?_
        refine k1 _ G5 H5 _ (n4.trans n5.pure) (hp4.go n5 (by simp)) dp ⟨by rw [List.length_append, hj.1]; rfl, fun d hd => ?_⟩
        rcases List.mem_append.mp hd with hd | hd
        · exact hj.2 d hd
        · simp only [List.mem_cons, List.not_mem_nil, or_false] at hd
          exact ⟨acc2, hd, by rw [hj2.1, lr], hj2.2⟩
    · walk_at "sx"
      refine g_tupOfM n3.gh h da fun p G4 H4 n4 dp => ?_
      rw [lr] at hj
      refine q _ acc G4 H4 (rowsOk_of (by rw [hj.1]; omega) (by rw [hj.1]; omega) (by omega) (by omega) hj.2) (by rw [hj.1]; omega) (fun d hd => ?_) dp (((n1.trans n2).trans n3).trans n4.pure) (hp3.go n4 (by simp))
      obtain ⟨cs, rfl, hl, _⟩ := hj.2 d hd
      simp only [dlen]
      omega
def tupleOf (d : PyData) (n : Int) : Bool := match d with
  | .tuple xs => decide ((xs.length : Int) = n)
  | _ => false
def sp_is_tuple_of (K : PySem.W.Frag) : Sp := fun vs H Q _ => ∃ G v d n, vs = [v, .int n] ∧ Y.Ex G H ∧ Dp K G v d ∧ Q (.bl (tupleOf d n)) H
theorem ok_is_tuple_of (T : Tx fa fn bx K mg) : FnOk P w K mg base CX0 1 (He.ga K "is_tuple_of") (fdOf K (He.ga K "is_tuple_of")) ["value", "length"] (sp_is_tuple_of K) := by
  refine FunD.ok (F_is_tuple_of T) sc_is_tuple_of (fun vs H Q E h => ?_) (fun cdv A outer s H vs Q E hr h => ?_)
  · obtain ⟨_, _, _, _, rfl, _⟩ := h
    rfl
  · obtain ⟨G, v, d, n, rfl, e, hd, q⟩ := h
    refine ⟨_, PSs.nox ((pss_one (ps_ret (pe_and (pe_callB (Y.call_isiK (K := K) rfl) (by rfl) (T.free 0) (by decide +kernel) (pa_cons (pv 0) (pa_cons (pe_bltn (v := .ty "tuple") (by rfl) (T.free 4) (by decide +kernel) rfl) pa_nil))) (pe_one (pe_cmpR op_eq (pe_callB (Y.call_lenK (K := K) rfl) (by rfl) (T.free 3) (by decide +kernel) (pa_cons (pv 0) pa_nil)) (pv 1) (nomark _))))))), ?_⟩
    cases d with
    | dict _ => exact (dp_nodict hd).elim
    | tuple xs =>
      walk_at "sx"
      walk_at "isi"
      walk_at "sx"
      refine g_lenT e hd ?_
      walk_at "sx"
      exact q
    | _ =>
      walk_at "sx"
      walk_at "isi"
      walk_at "sx"
      exact q
def viewOk (d : PyData) : Bool := match d with
  | .tuple [a, b] => isName a && rowsOk b
  | _ => false
def sp_is_view (K : PySem.W.Frag) : Sp := fun vs H Q _ => ∃ G v d, vs = [v] ∧ Y.Ex G H ∧ Dp K G v d ∧ fit d = true ∧ ∀ G' H', Nx [] G H G' H' → Q (.bl (viewOk d)) H'
theorem ok_is_view (T : Tx fa fn bx K mg) : FnOk P w K mg base CX0 6 (He.ga K "is_view") (fdOf K (He.ga K "is_view")) ["value"] (sp_is_view K) := by
  refine FunD.ok (F_is_view T) sc_is_view (fun vs H Q E h => ?_) (fun cdv A outer s H vs Q E hr h => ?_)
  · obtain ⟨_, _, _, rfl, _⟩ := h
    rfl
  · obtain ⟨G, v, d, rfl, e, hd, hf, q⟩ := h
    refine ⟨_, PSs.nox ((pss_one (ps_ret (pe_and (Y.pe_callC (ok_is_tuple_of T) (cal_is_tuple_of T) (hr.mono (by decide)) (by rfl) pass0 (pa_cons (pv 0) (pa_cons pe_int pa_nil))) (pe_and (Y.pe_callC (ok_is_name T) (cal_is_name T) (hr.mono (by decide)) (by rfl) pass0 (pa_cons (pe_ix (Y.ix_tupK (K := K) rfl) (pv 0) pe_int (fun _ _ => rfl)) pa_nil)) (pe_one (Y.pe_callC (ok__is_rows T) (cal__is_rows T) (hr.mono (by decide)) (by rfl) pass0 (pa_cons (pe_ix (Y.ix_tupK (K := K) rfl) (pv 0) pe_int (fun _ _ => rfl)) pa_nil)))))))), ?_⟩
    walk_at "sx"
    refine ⟨G, v, d, 2, rfl, e, hd, ?_⟩
    walk_at "sx"
    refine g_bool (fun h1 => ?_) (fun h1 => ?_)
    · obtain ⟨a, b, rfl⟩ : ∃ a b, d = .tuple [a, b] := by
        cases d with
        | tuple xs =>
          simp only [tupleOf, decide_eq_true_eq] at h1
          match xs, h1 with
          | [a, b], _ => exact ⟨a, b, rfl⟩
          | [], h | [_], h => simp at h
          | _ :: _ :: _ :: _, h => simp at h; omega
        | _ => cases h1
      walk_at "sx"
      refine g_ixT (k := 0) e hd rfl rfl fun u hu => ?_
      walk_at "sx"
      refine ⟨G, u, a, rfl, e, hu, fit_get (i := 0) (fit_tup hf).2 rfl, fun G1 H1 n1 => ?_⟩
      walk_at "sx"
      refine g_bool (fun h2 => ?_) (fun h2 => ?_)
      · walk_at "sx"
        refine g_ixT (k := 1) n1.gh (dp_mono n1.gg hd) rfl rfl fun u' hu' => ?_
        walk_at "sx"
        refine ⟨G1, u', b, rfl, n1.gh, hu', fun G2 H2 n2 => ?_⟩
        refine q_bl (q G2 H2 (n1.trans n2)) ?_
        simp only [viewOk]
        rw [h2, Bool.true_and]
      · refine q_bl (q G1 H1 n1) ?_
        simp only [viewOk]
        rw [h2, Bool.false_and]
    · refine q_bl (q G H (Nx.refl e)) ?_
      cases d with
      | tuple xs =>
        simp only [tupleOf, decide_eq_false_iff_not] at h1
        match xs, h1 with
        | [a, b], h => exact absurd rfl h
        | [], _ | [_], _ => rfl
        | _ :: _ :: _ :: _, _ => rfl
      | _ => rfl
theorem view_bad {s : Str} {d : PyData} (h : rowsOk d = false) : viewOk (.tuple [.str s, d]) = false := by simp only [viewOk, h, Bool.and_false]
theorem rows_bad {rs : List PyData} {d : PyData} (hm : d ∈ rs) (h : rowOk d = false) : rowsOk (.tuple rs) = false := by
  simp only [rowsOk]
  have : rs.all rowOk = false := by
    rw [List.all_eq_false]
    exact ⟨d, hm, by rw [h]; simp⟩
  rw [this, Bool.false_and, Bool.and_false]
theorem row_bad {cs : List PyData} {d : PyData} (hm : d ∈ cs) (h : isRd d = false) : rowOk (.tuple cs) = false := by
  simp only [rowOk]
  have : cs.all isRd = false := by
    rw [List.all_eq_false]
    exact ⟨d, hm, by rw [h]; simp⟩
  rw [this, Bool.and_false]
def sp__law_spoilt (K : PySem.W.Frag) : Sp := fun vs H Q _ => ∃ G a s vr rs, vs = [.ref a, .str s, vr] ∧ Y.Ex G H ∧ PoolAt K a G H ∧ nameOk s = true ∧ Dp K G vr (.tuple rs) ∧ rowsOk (.tuple rs) = true ∧
  ∀ v d G' H', viewOk d = false → fit d = true → Dp K G' v d → Nx [a] G H G' H' → PoolAt K a G' H' → Q v H'
/-- the end: (name, what) -/
theorem spoilt_end {K : PySem.W.Frag} {Q : VK} {a : Addr} {G H G1 H1 : Hp} {s : Str} {v2 : V} {d : PyData} (q : ∀ v d G' H', viewOk d = false → fit d = true → Dp K G' v d → Nx [a] G H G' H' → PoolAt K a G' H' → Q v H') (hs : nameOk s = true) (n : Nx [a] G H G1 H1) (hp : PoolAt K a G1 H1) (dv : Dp K G1 v2 d) (hf : fit d = true) (hb : rowsOk d = false) : MkT [.str s, v2] H1 Q :=
  g_tupD n.gh (.cons (.str s) (.cons dv .nil)) (by show 2 ≤ sizeLine; decide) fun p G' H' n' dp => q _ _ G' H' (view_bad hb) (fit_tuple (by show 2 ≤ 100000; decide) (by simp [fit_name hs, hf])) dp (n.trans n'.pure) (hp.go n' (by simp))
theorem ok__law_spoilt (T : Tx fa fn bx K mg) : FnOk P w K mg base CX0 3 (He.ga K "_law_spoilt") (fdOf K (He.ga K "_law_spoilt")) ["pool", "name", "rows"] (sp__law_spoilt K) := by
  refine FunD.ok (F__law_spoilt T) sc__law_spoilt (fun vs H Q E h => ?_) (fun cdv A outer s H vs Q E hr h => ?_)
  · obtain ⟨_, _, _, _, _, rfl, _⟩ := h
    rfl
  · obtain ⟨G, a, s, vr, rs, rfl, e, hp, hs, dr, hok, q⟩ := h
    refine ⟨_, PSs.nox ((pss_cons (ps_set (i := 3) sc__law_spoilt.nd rfl (Or.inl rfl) (Y.pe_callC (ok__law_take T) (cal__law_take T) (hr.mono (by decide)) (by rfl) pass0 (pa_cons (pv 0) (pa_cons pe_int pa_nil))))
      (pss_cons (ps_set (i := 4) sc__law_spoilt.nd rfl (Or.inl rfl) (Y.pe_callC (ok__law_take T) (cal__law_take T) (hr.mono (by decide)) (by rfl) pass0 (pa_cons (pv 0) (pa_cons (pe_callB (Y.call_lenK (K := K) rfl) (by rfl) (T.free 3) (by decide +kernel) (pa_cons (pv 2) pa_nil)) pa_nil))))
      (pss_cons (ps_set (i := 5) sc__law_spoilt.nd rfl (Or.inl rfl) (pe_ix (Y.ix_tupK (K := K) rfl) (pv 2) (pv 4) (fun _ _ => rfl)))
      (pss_cons (ps_if (pt_cmpR op_eq (pv 3) pe_int (nomark _))
      (pss_one (ps_ret (pe_tup (pa_cons (pv 1) pa_nil))))
      pss_nil)
      (pss_cons (ps_if (pt_cmpR op_eq (pv 3) pe_int (nomark _))
      (pss_one (ps_ret (pe_lst (pa_cons (pv 1) (pa_cons (pv 2) pa_nil)))))
      pss_nil)
      (pss_cons (ps_if (pt_cmpR op_eq (pv 3) pe_int (nomark _))
      (pss_one (ps_ret (pe_tup (pa_cons (pe_ix (Y.ix_listK (K := K) rfl) (pe_lst (pa_cons pe_str (pa_cons pe_str (pa_cons pe_str (pa_cons pe_str (pa_cons (pe_op Y.op_repS pe_str pe_int) (pa_cons pe_int (pa_cons pe_non pa_nil)))))))) (Y.pe_callC (ok__law_take T) (cal__law_take T) (hr.mono (by decide)) (by rfl) pass0 (pa_cons (pv 0) (pa_cons pe_int pa_nil))) (fun _ _ => rfl)) (pa_cons (pv 2) pa_nil)))))
      pss_nil)
      (pss_cons (ps_if (pt_cmpR op_eq (pv 3) pe_int (nomark _))
      (pss_one (ps_ret (pe_tup (pa_cons (pv 1) (pa_cons (pe_tup pa_nil) pa_nil)))))
      pss_nil)
      (pss_cons (ps_if (pt_cmpR op_eq (pv 3) pe_int (nomark _))
      (pss_one (ps_ret (pe_tup (pa_cons (pv 1) (pa_cons (pe_callTy (Y.call_listK (K := K) rfl) (by rfl) (T.free 16) (by decide +kernel) (pa_cons (pv 2) pa_nil)) pa_nil)))))
      pss_nil)
      (pss_cons (ps_if (pt_cmpR op_eq (pv 3) pe_int (nomark _))
      (pss_one (ps_ret (pe_tup (pa_cons (pv 1) (pa_cons (pe_op (Y.op_catAK (K := K) rfl) (pv 2) (pe_tup (pa_cons (pe_op (Y.op_catAK (K := K) rfl) (pe_ix (Y.ix_tupK (K := K) rfl) (pv 2) pe_int (fun _ _ => rfl)) (pe_tup (pa_cons pe_int pa_nil))) pa_nil))) pa_nil)))))
      pss_nil)
      (pss_cons (ps_if (pt_cmpR op_eq (pv 3) pe_int (nomark _))
      (pss_one (ps_ret (pe_tup (pa_cons (pv 1) (pa_cons (pe_op (Y.op_repU (K := K) rfl) (pe_tup (pa_cons (pe_tup pa_nil) pa_nil)) (pe_callB (Y.call_lenK (K := K) rfl) (by rfl) (T.free 3) (by decide +kernel) (pa_cons (pv 2) pa_nil))) pa_nil)))))
      pss_nil)
      (pss_cons (ps_if (pt_cmpR op_eq (pv 3) pe_int (nomark _))
      (pss_one (ps_ret (pe_tup (pa_cons (pv 1) (pa_cons (pe_op (Y.op_catAK (K := K) rfl) (pe_op (Y.op_catAK (K := K) rfl) (pe_slice (Y.sl_tupAK (K := K) rfl) (pv 2) po_none (po_some (pv 4))) (pe_tup (pa_cons (pe_callTy (Y.call_listK (K := K) rfl) (by rfl) (T.free 16) (by decide +kernel) (pa_cons (pv 5) pa_nil)) pa_nil))) (pe_slice (Y.sl_tupAK (K := K) rfl) (pv 2) (po_some (pe_op op_add (pv 4) pe_int)) po_none)) pa_nil)))))
      pss_nil)
      (pss_cons (ps_if (pt_cmpR op_eq (pv 3) pe_int (nomark _))
      (pss_one (ps_ret (pe_tup (pa_cons (pv 1) (pa_cons (pe_op (Y.op_repU (K := K) rfl) (pv 2) pe_int) pa_nil)))))
      pss_nil)
      (pss_cons (ps_set (i := 6) sc__law_spoilt.nd rfl (Or.inl rfl) (Y.pe_callC (ok__law_take T) (cal__law_take T) (hr.mono (by decide)) (by rfl) pass0 (pa_cons (pv 0) (pa_cons (pe_callB (Y.call_lenK (K := K) rfl) (by rfl) (T.free 3) (by decide +kernel) (pa_cons (pv 5) pa_nil)) pa_nil))))
      (pss_cons (ps_set (i := 7) sc__law_spoilt.nd rfl (Or.inl rfl) (pe_ix (Y.ix_listK (K := K) rfl) (pe_lst (pa_cons (pe_un un_neg pe_int) (pa_cons pe_int (pa_cons pe_bl (pa_cons pe_bl (pa_cons pe_str (pa_cons (pe_tup pa_nil) pa_nil))))))) (Y.pe_callC (ok__law_take T) (cal__law_take T) (hr.mono (by decide)) (by rfl) pass0 (pa_cons (pv 0) (pa_cons pe_int pa_nil))) (fun _ _ => rfl)))
      (pss_one (ps_ret (pe_tup (pa_cons (pv 1) (pa_cons (pe_op (Y.op_catAK (K := K) rfl) (pe_op (Y.op_catAK (K := K) rfl) (pe_slice (Y.sl_tupAK (K := K) rfl) (pv 2) po_none (po_some (pv 4))) (pe_tup (pa_cons (pe_op (Y.op_catAK (K := K) rfl) (pe_op (Y.op_catAK (K := K) rfl) (pe_slice (Y.sl_tupAK (K := K) rfl) (pv 5) po_none (po_some (pv 6))) (pe_tup (pa_cons (pv 7) pa_nil))) (pe_slice (Y.sl_tupAK (K := K) rfl) (pv 5) (po_some (pe_op op_add (pv 6) pe_int)) po_none)) pa_nil))) (pe_slice (Y.sl_tupAK (K := K) rfl) (pv 2) (po_some (pe_op op_add (pv 4) pe_int)) po_none)) pa_nil)))))))))))))))))))), ?_⟩
    obtain ⟨r1, r12, hrow, hsame⟩ := rows_inv hok
    have frs : ∀ d ∈ rs, fit d = true := fun d hd => fit_row (hrow d hd)
    walk_at "sx"
    refine ⟨G, a, 10, rfl, e, hp, by decide, by decide, fun c H1 c0 c1 n1 hp1 => ?_⟩
    walk_at "sx"
    refine g_lenT n1.gh dr ?_
    walk_at "sx"
    refine ⟨G, a, (rs.length : Int), rfl, n1.gh, hp1, by omega, by omega, fun y H2 y0 y1 n2 hp2 => ?_⟩
    walk_at "sx"
    refine g_ixTn n2.gh dr y0 y1 fun vrow drow hm hy dvr => ?_
    obtain ⟨cs, rfl, l1, l2, hrd⟩ := rowOk_tup (hrow drow hm)
    have n12 := n1.trans n2
    have ey : y = ((y.toNat : Nat) : Int) := by omega
    have eyl : y.toNat < rs.length := by omega
    walk_at "sx"
    refine g_dec (fun _ => ?_) (fun _ => ?_) <;> walk_at "sx"
    · refine g_tupD (K := K) n2.gh (ds := [.str s]) (.cons (.str s) .nil) (by show 1 ≤ sizeLine; decide) fun p G' H' n' dp => ?_
      exact q _ _ G' H' rfl (fit_tuple (by show 1 ≤ 100000; decide) (by simp [fit_name hs])) dp (n12.trans n'.pure) (hp2.go n' (by simp))
    refine g_dec (fun _ => ?_) (fun _ => ?_) <;> walk_at "sx"
    · refine g_lstD (K := K) n2.gh (ds := [.str s, .tuple rs]) (.cons (.str s) (.cons dr .nil)) (by show 2 ≤ sizeLine; decide) fun p G' H' n' dp => ?_
      exact q _ _ G' H' rfl (fit_list (by show 2 ≤ 100000; decide) (by simp [fit_name hs, fit_tuple (by omega) frs])) dp (n12.trans n'.pure) (hp2.go n' (by simp))
    refine g_dec (fun _ => ?_) (fun _ => ?_) <;> walk_at "sx"
    · refine ⟨"a", 9, rfl, rfl, by decide, by decide, by decide, by decide, ?_⟩
      walk_at "sx"
      refine g_lstD (K := K) (ds := [.str "", .str "A", .str "1a", .str "a_b", .str ⟨(List.replicate (Int.toNat 9) (("a" : Str).cps)).foldl (· ++ ·) #[]⟩, .int 5, .none]) n2.gh (by walk_at "da") (by show 7 ≤ sizeLine; decide) fun p G3 H3 n3 dp => ?_
      walk_at "sx"
      refine ⟨G3, a, 7, rfl, n3.gh, hp2.go n3 (by simp), by decide, by decide, fun i H4 i0 i1 n4 hp4 => ?_⟩
      walk_at "sx"
      refine g_ixLn n4.gh dp i0 (by simpa using i1) fun v d hm _ dv => ?_
      walk_at "sx"
      have hd : isName d = false ∧ fit d = true := by
        simp only [List.mem_cons, List.not_mem_nil, or_false] at hm
        rcases hm with h | h | h | h | h | h | h <;> subst h <;> exact ⟨by decide +kernel, by decide +kernel⟩
      refine g_tupD (K := K) n4.gh (.cons dv (.cons (dp_mono n3.gg dr) .nil)) (by show 2 ≤ sizeLine; decide) fun p G' H' n' dp' => ?_
      exact q _ _ G' H' (by simp only [viewOk, hd.1, Bool.false_and]) (fit_tuple (by show 2 ≤ 100000; decide) (by simp [hd.2, fit_tuple (by omega) frs])) dp' (((n12.trans n3.pure).trans n4).trans n'.pure) (hp4.go n' (by simp))
    refine g_dec (fun _ => ?_) (fun _ => ?_) <;> walk_at "sx"
    · refine g_tupD (K := K) n2.gh (ds := []) .nil (Nat.zero_le _) fun p G' H' n' dp => ?_
      walk_at "sx"
      exact spoilt_end q hs (n12.trans n'.pure) (hp2.go n' (by simp)) dp rfl rfl
    refine g_dec (fun _ => ?_) (fun _ => ?_) <;> walk_at "sx"
    · refine g_listOf n2.gh (.inr dr) fun p G' H' n' dp => ?_
      walk_at "sx"
      exact spoilt_end q hs (n12.trans n'.pure) (hp2.go n' (by simp)) dp (fit_list (by omega) frs) rfl
    refine g_dec (fun _ => ?_) (fun _ => ?_) <;> walk_at "sx"
    · obtain ⟨r0, rest, hrs⟩ : ∃ r0 rest, rs = r0 :: rest := by
        cases rs with
        | nil => simp at r1
        | cons a b => exact ⟨a, b, rfl⟩
      obtain ⟨c0, rfl, m1, m2, m3⟩ := rowOk_tup (hrow r0 (by rw [hrs]; simp))
      refine g_ixT (k := 0) n2.gh dr (by rw [hrs]; rfl) rfl fun v0 dv0 => ?_
      walk_at "sx"
      refine g_tupD (K := K) n2.gh (ds := [.int 1]) (.cons (.int 1) .nil) (by show 1 ≤ sizeLine; decide) fun p G3 H3 n3 dp => ?_
      walk_at "sx"
      refine g_catA n3.gh (dp_mono n3.gg dv0) dp (szle (by simp; omega)) fun v4 G4 H4 n4 dv4 => ?_
      walk_at "sx"
      refine g_tupD (K := K) n4.gh (.cons dv4 .nil) (by show 1 ≤ sizeLine; decide) fun p5 G5 H5 n5 dp5 => ?_
      walk_at "sx"
      refine g_catA n5.gh (dp_mono ((n3.gg.trans n4.gg).trans n5.gg) dr) dp5 (szle (by simp; omega)) fun v6 G6 H6 n6 dv6 => ?_
      walk_at "sx"
      refine spoilt_end q hs ((((n12.trans n3.pure).trans n4.pure).trans n5.pure).trans n6.pure) ((((hp2.go n3 (by simp)).go n4 (by simp)).go n5 (by simp)).go n6 (by simp)) dv6 (fit_tuple (by simp; omega) fun d hd => ?_) ?_
      · rcases List.mem_append.mp hd with hd | hd
        · exact frs d hd
        · simp only [List.mem_cons, List.not_mem_nil, or_false] at hd
          subst hd
          refine fit_tuple (by simp; omega) fun d hd => ?_
          rcases List.mem_append.mp hd with hd | hd
          · exact fit_rd (List.all_eq_true.mp m3 d hd)
          · simp only [List.mem_cons, List.not_mem_nil, or_false] at hd
            subst hd; rfl
      · simp only [rowsOk]
        have : sameLen (rs ++ [.tuple (c0 ++ [.int 1])]) = false := by
          rw [hrs]
          simp only [sameLen, List.cons_append]
          rw [List.all_eq_false]
          exact ⟨.tuple (c0 ++ [.int 1]), by simp, by simp [dlen]⟩
        rw [this, Bool.and_false, Bool.and_false]
    refine g_dec (fun _ => ?_) (fun _ => ?_) <;> walk_at "sx"
    · refine g_tupD (K := K) n2.gh (ds := []) .nil (Nat.zero_le _) fun p G3 H3 n3 dp => ?_
      walk_at "sx"
      refine g_tupD (K := K) n3.gh (.cons dp .nil) (by show 1 ≤ sizeLine; decide) fun p4 G4 H4 n4 dp4 => ?_
      walk_at "sx"
      refine g_lenT n4.gh (dp_mono (n3.gg.trans n4.gg) dr) ?_
      walk_at "sx"
      refine g_repU (k := rs.length) n4.gh dp4 (by simp) (by omega) (by show 1 ≤ 1000; decide) rfl fun v5 G5 H5 n5 dv5 => ?_
      walk_at "sx"
      refine spoilt_end q hs (((n12.trans n3.pure).trans n4.pure).trans n5.pure) (((hp2.go n3 (by simp)).go n4 (by simp)).go n5 (by simp)) dv5 (fit_tuple (by simp; omega) fun d hd => ?_) (rows_bad (d := .tuple []) ?_ rfl)
      · simp only [List.mem_flatten, List.mem_replicate] at hd
        obtain ⟨l, ⟨_, rfl⟩, hd⟩ := hd
        simp only [List.mem_cons, List.not_mem_nil, or_false] at hd
        subst hd; rfl
      · simp only [List.mem_flatten, List.mem_replicate]
        exact ⟨[.tuple []], ⟨by omega, rfl⟩, by simp⟩
    refine g_dec (fun _ => ?_) (fun _ => ?_) <;> walk_at "sx"
    · refine g_slHi (k := y.toNat) n2.gh dr ey fun v3 G3 H3 n3 dv3 => ?_
      walk_at "sx"
      refine g_listOf n3.gh (.inr (dp_mono n3.gg dvr)) fun p4 G4 H4 n4 dp4 => ?_
      walk_at "sx"
      refine g_tupD (K := K) n4.gh (.cons dp4 .nil) (by show 1 ≤ sizeLine; decide) fun p5 G5 H5 n5 dp5 => ?_
      walk_at "sx"
      refine g_catA n5.gh (dp_mono (n4.gg.trans n5.gg) dv3) dp5 (szle (by simp; omega)) fun v6 G6 H6 n6 dv6 => ?_
      walk_at "sx"
      refine g_slLo (k := y.toNat + 1) n6.gh (dp_mono (((n3.gg.trans n4.gg).trans n5.gg).trans n6.gg) dr) (by omega) fun v7 G7 H7 n7 dv7 => ?_
      walk_at "sx"
      refine g_catA n7.gh (dp_mono n7.gg dv6) dv7 (szle (by simp; omega)) fun v8 G8 H8 n8 dv8 => ?_
      walk_at "sx"
      have n28 := (((((n3.trans n4).trans n5).trans n6).trans n7).trans n8)
      refine spoilt_end q hs (n12.trans n28.pure) (hp2.go n28 (by simp)) dv8 (fit_tuple (by simp; omega) fun d hd => ?_) (rows_bad (d := .list cs) (by simp) rfl)
      rcases List.mem_append.mp hd with hd | hd
      · rcases List.mem_append.mp hd with hd | hd
        · exact frs d (List.mem_of_mem_take hd)
        · simp only [List.mem_cons, List.not_mem_nil, or_false] at hd
          subst hd
          exact fit_list (by omega) fun d hd => fit_rd (List.all_eq_true.mp hrd d hd)
      · exact frs d (List.mem_of_mem_drop hd)
    refine g_dec (fun _ => ?_) (fun _ => ?_) <;> walk_at "sx"
    · refine g_repU (k := 13) n2.gh dr (by intro z; rw [z] at r1; simp at r1) (by decide) (by omega) rfl fun v5 G5 H5 n5 dv5 => ?_
      walk_at "sx"
      have l13 : (List.replicate 13 rs).flatten.length = 13 * rs.length := PyProof.Rows.lm_len_rep_flat _ _
      refine spoilt_end q hs (n12.trans n5.pure) (hp2.go n5 (by simp)) dv5 (fit_tuple (by omega) fun d hd => ?_) ?_
      · simp only [List.mem_flatten, List.mem_replicate] at hd
        obtain ⟨l, ⟨_, rfl⟩, hd⟩ := hd
        exact frs d hd
      · simp only [rowsOk]
        rw [decide_eq_false (by omega), Bool.false_and]
    refine g_lenT n2.gh dvr ?_
    walk_at "sx"
    refine ⟨G, a, (cs.length : Int), rfl, n2.gh, hp2, by omega, by omega, fun x H3 x0 x1 n3 hp3 => ?_⟩
    walk_at "sx"
    refine g_tupD (K := K) n3.gh (ds := []) .nil (Nat.zero_le _) fun p4 G4 H4 n4 dp4 => ?_
    walk_at "sx"
    refine g_lstD (K := K) (ds := [.int (-1), .int 1000, .bool true, .bool false, .str "1", .tuple []]) n4.gh (by walk_at "da") (by show 6 ≤ sizeLine; decide) fun p5 G5 H5 n5 dp5 => ?_
    walk_at "sx"
    refine ⟨G5, a, 6, rfl, n5.gh, (hp3.go n4 (by simp)).go n5 (by simp), by decide, by decide, fun i H6 i0 i1 n6 hp6 => ?_⟩
    walk_at "sx"
    refine g_ixLn n6.gh dp5 i0 (by simpa using i1) fun vb bad hm _ dvb => ?_
    have hb : isRd bad = false ∧ fit bad = true := by
      simp only [List.mem_cons, List.not_mem_nil, or_false] at hm
      rcases hm with h | h | h | h | h | h <;> subst h <;> exact ⟨by decide +kernel, by decide +kernel⟩
    have ex : x = ((x.toNat : Nat) : Int) := by omega
    walk_at "sx"
    refine g_slHi (k := y.toNat) n6.gh (dp_mono (n4.gg.trans n5.gg) dr) ey fun v7 G7 H7 n7 dv7 => ?_
    walk_at "sx"
    refine g_slHi (k := x.toNat) n7.gh (dp_mono ((n4.gg.trans n5.gg).trans n7.gg) dvr) ex fun v8 G8 H8 n8 dv8 => ?_
    walk_at "sx"
    refine g_tupD (K := K) n8.gh (.cons (dp_mono (n7.gg.trans n8.gg) dvb) .nil) (by show 1 ≤ sizeLine; decide) fun p9 G9 H9 n9 dp9 => ?_
    walk_at "sx"
    refine g_catA n9.gh (dp_mono n9.gg dv8) dp9 (szle (by simp; omega)) fun v10 G10 H10 n10 dv10 => ?_
    walk_at "sx"
    refine g_slLo (k := x.toNat + 1) n10.gh (dp_mono ((((n4.gg.trans n5.gg).trans n7.gg).trans (n8.gg.trans n9.gg)).trans n10.gg) dvr) (by omega) fun v11 G11 H11 n11 dv11 => ?_
    walk_at "sx"
    refine g_catA n11.gh (dp_mono n11.gg dv10) dv11 (szle (by simp; omega)) fun v12 G12 H12 nn12 dv12 => ?_
    walk_at "sx"
    refine g_tupD (K := K) nn12.gh (.cons dv12 .nil) (by show 1 ≤ sizeLine; decide) fun p13 G13 H13 n13 dp13 => ?_
    walk_at "sx"
    have n813 := (((((n8.trans n9).trans n10).trans n11).trans nn12).trans n13)
    refine g_catA n13.gh (dp_mono n813.gg dv7) dp13 (szle (by simp; omega)) fun v14 G14 H14 n14 dv14 => ?_
    walk_at "sx"
    have n714 := (n7.trans n813).trans n14
    refine g_slLo (k := y.toNat + 1) n14.gh (dp_mono ((n4.gg.trans n5.gg).trans n714.gg) dr) (by omega) fun v15 G15 H15 n15 dv15 => ?_
    walk_at "sx"
    refine g_catA n15.gh (dp_mono n15.gg dv14) dv15 (szle (by simp; omega)) fun v16 G16 H16 n16 dv16 => ?_
    walk_at "sx"
    have nall := (n714.trans n15).trans n16
    have frow : fit (.tuple ((cs.take x.toNat ++ [bad]) ++ cs.drop (x.toNat + 1))) = true := by
      refine fit_tuple (by simp; omega) fun d hd => ?_
      rcases List.mem_append.mp hd with hd | hd
      · rcases List.mem_append.mp hd with hd | hd
        · exact fit_rd (List.all_eq_true.mp hrd d (List.mem_of_mem_take hd))
        · simp only [List.mem_cons, List.not_mem_nil, or_false] at hd
          rw [hd]; exact hb.2
      · exact fit_rd (List.all_eq_true.mp hrd d (List.mem_of_mem_drop hd))
    refine spoilt_end q hs ((((n12.trans n3).trans (n4.trans n5).pure).trans n6).trans nall.pure) (hp6.go nall (by simp)) dv16 (fit_tuple (by simp; omega) fun d hd => ?_) (rows_bad (d := .tuple ((cs.take x.toNat ++ [bad]) ++ cs.drop (x.toNat + 1))) (by simp) (row_bad (d := bad) (by simp) hb.1))
    rcases List.mem_append.mp hd with hd | hd
    · rcases List.mem_append.mp hd with hd | hd
      · exact frs d (List.mem_of_mem_take hd)
      · simp only [List.mem_cons, List.not_mem_nil, or_false] at hd
        rw [hd]; exact frow
    · exact frs d (List.mem_of_mem_drop hd)
/-- the readings of a row, of rows -/
def rdsRow (y : Nat) : Nat → List PyData → List PyData
  | _, [] => []
  | x, d :: r => (if isNn d = true then [] else [.tuple [.int (x : Int), .int (y : Int), d]]) ++ rdsRow y (x + 1) r
def rds : Nat → List PyData → List PyData
  | _, [] => []
  | y, .tuple r :: rs => rdsRow y 0 r ++ rds (y + 1) rs
  | y, _ :: rs => rds (y + 1) rs
theorem rdsRow_snoc (y : Nat) : ∀ (x : Nat) (r : List PyData) (d : PyData), rdsRow y x (r ++ [d]) = rdsRow y x r ++ (if isNn d = true then [] else [.tuple [.int ((x + r.length : Nat) : Int), .int (y : Int), d]])
  | x, [], d => by simp [rdsRow]
  | x, a :: r, d => by
    show _ ++ rdsRow y (x + 1) (r ++ [d]) = (_ ++ rdsRow y (x + 1) r) ++ _
    rw [rdsRow_snoc y (x + 1) r d, List.append_assoc, show x + 1 + r.length = x + (a :: r).length by rw [List.length_cons]; omega]
theorem rds_snoc : ∀ (y : Nat) (rs : List PyData) (r : List PyData), rds y (rs ++ [.tuple r]) = rds y rs ++ rdsRow (y + rs.length) 0 r
  | y, [], r => by simp [rds]
  | y, a :: rs, r => by
    have ih := rds_snoc (y + 1) rs r
    have e1 : y + 1 + rs.length = y + (a :: rs).length := by rw [List.length_cons]; omega
    cases a with
    | tuple c =>
      show rdsRow y 0 c ++ rds (y + 1) (rs ++ [.tuple r]) = (rdsRow y 0 c ++ rds (y + 1) rs) ++ _
      rw [ih, List.append_assoc, e1]
    | _ =>
      show rds (y + 1) (rs ++ [.tuple r]) = rds (y + 1) rs ++ _
      rw [ih, e1]
theorem rdsRow_len (y : Nat) : ∀ (x : Nat) (r : List PyData), (rdsRow y x r).length ≤ r.length
  | _, [] => Nat.le_refl _
  | x, d :: r => by
    have := rdsRow_len y (x + 1) r
    show (_ ++ rdsRow y (x + 1) r).length ≤ r.length + 1
    rw [List.length_append]
    split <;> simp <;> omega
/-- rows of at most 100 by 100 readings -/
def smallRows (rs : List PyData) : Prop := rs.length ≤ 100 ∧ ∀ d ∈ rs, ∃ r, d = .tuple r ∧ r.length ≤ 100
theorem rds_len : ∀ (y : Nat) (rs : List PyData), (∀ d ∈ rs, ∃ r, d = PyData.tuple r ∧ r.length ≤ 100) → (rds y rs).length ≤ 100 * rs.length
  | _, [], _ => Nat.le_refl _
  | y, d :: rs, h => by
    obtain ⟨r, rfl, hr⟩ := h d (by simp)
    have h1 := rds_len (y + 1) rs fun d hd => h d (by simp [hd])
    have h2 := rdsRow_len y 0 r
    show (rdsRow y 0 r ++ rds (y + 1) rs).length ≤ 100 * (rs.length + 1)
    rw [List.length_append]
    omega
def sp_readings (K : PySem.W.Frag) : Sp := fun vs H Q _ => ∃ G v a rs, vs = [v] ∧ Y.Ex G H ∧ Dp K G v (.tuple [a, .tuple rs]) ∧ smallRows rs ∧
  ∀ p G' H', Nx [] G H G' H' → Dp K G' (.ref p) (.list (rds 0 rs)) → Q (.ref p) H'
theorem ok_readings (T : Tx fa fn bx K mg) : FnOk P w K mg base CX0 1 (He.ga K "readings") (fdOf K (He.ga K "readings")) ["view"] (sp_readings K) := by
  refine FunD.ok (F_readings T) sc_readings (fun vs H Q E h => ?_) (fun cdv A outer s H vs Q E hr h => ?_)
  · obtain ⟨_, _, _, _, rfl, _⟩ := h
    rfl
  · obtain ⟨G, v, a, rs, rfl, e, hd, ⟨hl, hr⟩, q⟩ := h
    refine ⟨_, PSs.nox ((pss_cons (ps_set (i := 1) sc_readings.nd rfl (Or.inl rfl) (pe_lst pa_nil))
      (pss_cons (ps_for PassesOwn.never rfl (Y.pi_enumTK (K := K) rfl (by rfl) (T.free 13) (pa_cons (pe_ix (Y.ix_tupK (K := K) rfl) (pv 0) pe_int (fun _ _ => rfl)) pa_nil)) (Y.pg_tupK (K := K) (n := 2) rfl rfl (pgs_cons (pg_name (i := 2) sc_readings.nd rfl (Or.inl rfl)) (pgs_cons (pg_name (i := 3) sc_readings.nd rfl (Or.inl rfl)) pgs_nil)))
      (pss_one (ps_for PassesOwn.never rfl (Y.pi_enumTK (K := K) rfl (by rfl) (T.free 13) (pa_cons (pv 3) pa_nil)) (Y.pg_tupK (K := K) (n := 2) rfl rfl (pgs_cons (pg_name (i := 4) sc_readings.nd rfl (Or.inl rfl)) (pgs_cons (pg_name (i := 5) sc_readings.nd rfl (Or.inl rfl)) pgs_nil)))
      (pss_one (ps_if (pt_cmp (pc_notN (pv 5)))
      (pss_one (ps_expr (Y.pe_bmK (K := K) rfl PySem.F.plainAttrs_list PySem.F.slot_list_append PySem.F.type_list_append mt_append (pv 1) (pa_cons (pe_tup (pa_cons (pv 4) (pa_cons (pv 2) (pa_cons (pv 5) pa_nil)))) pa_nil))))
      pss_nil)))))
      (pss_one (ps_ret (pv 1)))))), ?_⟩
    walk_at "sx"
    refine g_lstM (xs := []) e (Nat.zero_le _) fun p H1 n1 np hp gp => ?_
    walk_at "sx"
    refine g_ixT (k := 1) n1.gh hd rfl rfl fun u hu => ?_
    walk_at "sx"
    refine g_walkEt n1.gh hu fun b hb S => ?_
    refine g_forS (K := K) (M := [p]) (S [p]) n1.gh (fun i σ G' H' => G' p = none ∧ (∃ ys, H' p = some (.lst ys) ∧ DpAll K G' ys (rds 0 (rs.take i))) ∧ ∃ y1 y2 y3 y4, σ = [some v, some (.ref p), y1, y2, y3, y4]) ⟨gp, ⟨[], hp, by simpa [rds] using DpAll.nil⟩, _, _, _, _, rfl⟩ ?_ ?_
    · rintro i d w σ' G2 H2 G3 H3 hi n2 ⟨g2, ⟨ys, hys, da⟩, y1, y2, y3, y4, rfl⟩ n3 dw
      rw [prs_get] at hi
      obtain ⟨d0, hd0, rfl⟩ := Option.map_eq_some_iff.mp hi
      have hlt : i < rs.length := (List.getElem?_eq_some_iff.mp hd0).1
      obtain ⟨r, rfl, hr1⟩ := hr d0 (List.mem_of_getElem? hd0)
      refine g_un2 n3.gh dw fun w1 w2 h1 h2 => ?_
      cases dp_int h1
      have g3 : G3 p = none := n3.old p g2 (by rw [hys]; exact fun z => nomatch z)
      have hys3 : H3 p = some (.lst ys) := n3.fr p _ (by simp) hys
      have da3 := dpAll_mono n3.gg da
      have len1 : (rds 0 (rs.take i)).length ≤ 100 * i := by
        have := rds_len 0 (rs.take i) fun d hd => hr d (List.mem_of_mem_take hd)
        rw [List.length_take] at this
        exact Nat.le_trans this (Nat.mul_le_mul_left _ (Nat.min_le_left _ _))
      walk_at "sx"
      refine g_walkEt n3.gh h2 fun c hc S2 => ?_
      refine g_forS (K := K) (M := [p]) (S2 [p]) n3.gh (fun j σ G' H' => G' p = none ∧ (∃ ys, H' p = some (.lst ys) ∧ DpAll K G' ys (rds 0 (rs.take i) ++ rdsRow i 0 (r.take j))) ∧ ∃ y3 y4, σ = [some v, some (.ref p), some (.int ((0 + i : Nat) : Int)), some w2, y3, y4]) ⟨g3, ⟨ys, hys3, by simpa [rdsRow] using da3⟩, _, _, rfl⟩ ?_ ?_
      · rintro j d w' σ' G4 H4 G5 H5 hj n4 ⟨g4, ⟨zs, hzs, dz⟩, y3, y4, rfl⟩ n5 dw'
        rw [prs_get] at hj
        obtain ⟨d1, hd1, rfl⟩ := Option.map_eq_some_iff.mp hj
        have hjl : j < r.length := (List.getElem?_eq_some_iff.mp hd1).1
        refine g_un2 n5.gh dw' fun w3 w4 h3 h4 => ?_
        cases dp_int h3
        have g5 : G5 p = none := n5.old p g4 (by rw [hzs]; exact fun z => nomatch z)
        have hzs5 : H5 p = some (.lst zs) := n5.fr p _ (by simp) hzs
        have dz5 := dpAll_mono n5.gg dz
        have tk : r.take (j + 1) = r.take j ++ [d1] := by rw [List.take_add_one, hd1]; rfl
        have ej : 0 + (r.take j).length = j := by rw [List.length_take]; omega
        walk_at "sx"
        refine g_ndec (fun hn => ?_) (fun hn => ?_) <;> walk_at "sx"
        · rw [dp_non_iff h4] at hn
          refine g_tyL hzs5 ?_
          walk_at "sx"
          refine g_tupD n5.gh (.cons (.int _) (.cons (.int _) (.cons h4 .nil))) (by show 3 ≤ sizeLine; decide) fun t G6 H6 n6 dt => ?_
          walk_at "sx"
          have hz6 : H6 p = some (.lst zs) := n6.fr p _ (by simp) hzs5
          have g6 : G6 p = none := n6.old p g5 (by rw [hzs5]; exact fun z => nomatch z)
          have len2 := rdsRow_len i 0 (r.take j)
          rw [List.length_take] at len2
          refine g_app hz6 (szl ?_) ?_
          · rw [dpAll_len dz, List.length_append]
            omega
          · refine ⟨G6, ((n4.trans n5.pure).trans n6.pure).trans (Nx.set n6.gh g6 (by simp)), g6, ⟨_, upd_same, ?_⟩, _, _, rfl⟩
            rw [tk, rdsRow_snoc, if_neg (by rw [isNn_f hn]; simp), ← List.append_assoc, ej]
            refine dpAll_snoc (dpAll_mono n6.gg dz5) ?_
            rw [Nat.zero_add, Nat.zero_add] at dt
            exact dt
        · rw [dp_non_iff h4] at hn
          refine ⟨G5, n4.trans n5.pure, g5, ⟨zs, hzs5, ?_⟩, _, _, rfl⟩
          rw [tk, rdsRow_snoc, if_pos (isNn_iff.mpr hn), List.append_nil]
          exact dz5
      · rintro σ' G4 H4 n4 ⟨g4, ⟨zs, hzs, dz⟩, y3, y4, rfl⟩
        refine ⟨G4, ((n2.trans n3.pure).trans n4), g4, ⟨zs, hzs, ?_⟩, _, _, _, _, rfl⟩
        rw [prs_len, List.take_length] at dz
        rw [List.take_add_one, hd0]
        show DpAll K G4 zs (rds 0 (rs.take i ++ [.tuple r]))
        rw [rds_snoc, List.length_take, Nat.zero_add, Nat.min_eq_left (by omega)]
        exact dz
    · rintro σ' G2 H2 n2 ⟨g2, ⟨ys, hys, da⟩, y1, y2, y3, y4, rfl⟩
      rw [prs_len, List.take_length] at da
      walk_at "sx"
      have n3 := (((n1.pure : Nx [p] G H G H1).trans n2).drop np).know np hys g2
      exact q p _ _ n3 (.lst (.of upd_same) (dpAll_mono (Ex.new g2) da))
def sp_size (K : PySem.W.Frag) : Sp := fun vs H Q _ => ∃ G v a r rs, vs = [v] ∧ Y.Ex G H ∧ Dp K G v (.tuple [a, .tuple (.tuple r :: rs)]) ∧
  ∀ x G' H', Nx [] G H G' H' → Dp K G' x (.tuple [.int (r.length : Int), .int ((PyData.tuple r :: rs).length : Int)]) → Q x H'
theorem ok_size (T : Tx fa fn bx K mg) : FnOk P w K mg base CX0 1 (He.ga K "size") (fdOf K (He.ga K "size")) ["view"] (sp_size K) := by
  refine FunD.ok (F_size T) sc_size (fun vs H Q E h => ?_) (fun cdv A outer s H vs Q E hr h => ?_)
  · obtain ⟨_, _, _, _, _, rfl, _⟩ := h
    rfl
  · obtain ⟨G, v, a, r, rs, rfl, e, hd, q⟩ := h
    refine ⟨_, PSs.nox ((pss_cons (ps_set (i := 1) sc_size.nd rfl (Or.inl rfl) (pe_ix (Y.ix_tupK (K := K) rfl) (pv 0) pe_int (fun _ _ => rfl)))
      (pss_one (ps_ret (pe_tup (pa_cons (pe_callB (Y.call_lenK (K := K) rfl) (by rfl) (T.free 3) (by decide +kernel) (pa_cons (pe_ix (Y.ix_tupK (K := K) rfl) (pv 1) pe_int (fun _ _ => rfl)) pa_nil)) (pa_cons (pe_callB (Y.call_lenK (K := K) rfl) (by rfl) (T.free 3) (by decide +kernel) (pa_cons (pv 1) pa_nil)) pa_nil))))))), ?_⟩
    walk_at "sx"
    refine g_ixT (k := 1) e hd rfl rfl fun u hu => ?_
    walk_at "sx"
    refine g_ixT (k := 0) e hu rfl rfl fun u2 hu2 => ?_
    walk_at "sx"
    walk_at "len"
    walk_at "sx"
    walk_at "len"
    walk_at "sx"
    exact g_tupD e (.cons (.int _) (.cons (.int _) .nil)) (by show 2 ≤ sizeLine; decide) fun p G' H' n d => q _ _ _ n d
theorem g_same {α : Type} {x : α} {A B : Prop} {d : Decidable (x = x)} {i : Decidable ((!decide (x = x)) = true)} (h : B) : @ite Prop ((!decide (x = x)) = true) i A B := g_ndec (fun z => absurd rfl z) fun _ => h
theorem small_of {rs : List PyData} (h : rowsOk (.tuple rs) = true) : smallRows rs := by
  obtain ⟨h1, h2, h3, h4⟩ := rows_inv h
  refine ⟨by omega, fun d hd => ?_⟩
  obtain ⟨cs, rfl, _, h6, _⟩ := rowOk_tup (h3 d hd)
  exact ⟨cs, rfl, by omega⟩
theorem rows_ne {rs : List PyData} (h : rowsOk (.tuple rs) = true) : ∃ r0 t, rs = r0 :: t := by
  obtain ⟨h1, _⟩ := rows_inv h
  cases rs with
  | nil => simp at h1
  | cons a b => exact ⟨a, b, rfl⟩
theorem fit_rows {rs : List PyData} (h : rowsOk (.tuple rs) = true) : fit (.tuple rs) = true := by
  obtain ⟨h1, h2, h3, h4⟩ := rows_inv h
  exact fit_tuple (by omega) fun d hd => fit_row (h3 d hd)
theorem fit_view {s : Str} {rs : List PyData} (hs : nameOk s = true) (h : rowsOk (.tuple rs) = true) : fit (.tuple [.str s, .tuple rs]) = true :=
  fit_tuple (by show 2 ≤ 100000; decide) (by simp [fit_name hs, fit_rows h])
theorem depthAll_le {n : Nat} : ∀ {xs : List PyData}, (∀ d ∈ xs, d.depth ≤ n) → PyData.depthAll xs ≤ n
  | [], _ => by simp [PyData.depthAll]
  | x :: xs, h => by
    have h1 := h x (by simp)
    have h2 := depthAll_le (xs := xs) fun d hd => h d (by simp [hd])
    simp only [PyData.depthAll]
    omega
theorem depth_tup {n : Nat} {xs : List PyData} (h : ∀ d ∈ xs, d.depth ≤ n) : (PyData.tuple xs).depth ≤ n + 1 := by
  have := depthAll_le h
  simp only [PyData.depth]
  omega
theorem depth_lst {n : Nat} {xs : List PyData} (h : ∀ d ∈ xs, d.depth ≤ n) : (PyData.list xs).depth ≤ n + 1 := by
  have := depthAll_le h
  simp only [PyData.depth]
  omega
theorem depth_rd {d : PyData} (h : isRd d = true) : d.depth ≤ 0 := by cases d <;> first | (simp [PyData.depth]; done) | cases h
theorem depth_row {d : PyData} (h : rowOk d = true) : d.depth ≤ 1 := by
  obtain ⟨cs, rfl, _, _, h3⟩ := rowOk_tup h
  exact depth_tup fun d hd => depth_rd (List.all_eq_true.mp h3 d hd)
theorem shaped_lay {d : PyData} (h : SeqAt.shaped d = true) : d.canLay0 = true := by
  unfold SeqAt.shaped at h
  rw [Bool.and_eq_true] at h
  exact h.1
theorem view_of {s : Str} {d : PyData} (hs : nameOk s = true) : viewOk (.tuple [.str s, d]) = rowsOk d := by simp only [viewOk, isName, hs, Bool.true_and]
theorem fit_pair {s : Str} {d : PyData} (hs : nameOk s = true) (h : fit d = true) : fit (.tuple [.str s, d]) = true := fit_tuple (by show 2 ≤ 100000; decide) (by simp [fit_name hs, h])
theorem shaped_view {s : Str} {rs : List PyData} (hs : nameOk s = true) (hl : rs.length ≤ 100) (h : ∀ d ∈ rs, rowOk d = true) : SeqAt.shaped (.tuple [.str s, .tuple rs]) = true := by
  refine shaped_fit (fit_tuple (by show 2 ≤ 100000; decide) ?_) (Nat.le_trans (depth_tup (n := 2) ?_) (by decide))
  · intro d hd
    simp only [List.mem_cons, List.not_mem_nil, or_false] at hd
    rcases hd with hd | hd <;> subst hd
    · exact fit_name hs
    · exact fit_tuple (by omega) fun d hd => fit_row (h d hd)
  · intro d hd
    simp only [List.mem_cons, List.not_mem_nil, or_false] at hd
    rcases hd with hd | hd <;> subst hd
    · simp [PyData.depth]
    · exact depth_tup fun d hd => depth_row (h d hd)
theorem isRd_inv {d : PyData} (h : isRd d = true) : d = .none ∨ ∃ r : Int, d = .int r := by
  cases d with
  | none => exact .inl rfl
  | int r => exact .inr ⟨r, rfl⟩
  | _ => cases h
theorem rdsRow_form (y : Nat) : ∀ (x : Nat) (cs : List PyData), cs.all isRd = true → ∀ d ∈ rdsRow y x cs, ∃ i j r : Int, d = .tuple [.int i, .int j, .int r]
  | _, [], _, d, hd => by simp [rdsRow] at hd
  | x, c :: cs, h, d, hd => by
    rw [List.all_cons, Bool.and_eq_true] at h
    simp only [rdsRow] at hd
    rcases List.mem_append.mp hd with hd | hd
    · rcases isRd_inv h.1 with z | ⟨r, z⟩ <;> subst z <;> simp [isNn] at hd
      exact ⟨_, _, _, hd⟩
    · exact rdsRow_form y (x + 1) cs h.2 d hd
theorem rds_form : ∀ (k : Nat) (rs : List PyData), (∀ d ∈ rs, rowOk d = true) → ∀ d ∈ rds k rs, ∃ i j r : Int, d = .tuple [.int i, .int j, .int r]
  | _, [], _, d, hd => by simp [rds] at hd
  | k, c :: rs, h, d, hd => by
    obtain ⟨cs, rfl, _, _, h3⟩ := rowOk_tup (h c (by simp))
    simp only [rds] at hd
    rcases List.mem_append.mp hd with hd | hd
    · exact rdsRow_form _ _ _ h3 d hd
    · exact rds_form (k + 1) rs (fun d hd => h d (by simp [hd])) d hd
theorem shaped_rds {rs : List PyData} (h : rowsOk (.tuple rs) = true) : SeqAt.shaped (.list (rds 0 rs)) = true := by
  obtain ⟨h1, h2, h3, _⟩ := rows_inv h
  have hl := rds_len 0 rs (small_of h).2
  refine shaped_fit (fit_list (by omega) fun d hd => ?_) (Nat.le_trans (depth_lst (n := 1) fun d hd => ?_) (by decide))
  · obtain ⟨i, j, r, rfl⟩ := rds_form 0 rs h3 d hd
    exact fit_tuple (by show 3 ≤ 100000; decide) (by simp [fit])
  · obtain ⟨i, j, r, rfl⟩ := rds_form 0 rs h3 d hd
    exact depth_tup (by simp [PyData.depth])
def vals (l : Int) : List PyData → List PyData
  | [] => []
  | .int i :: r => .int (i + l) :: vals l r
  | _ :: r => vals l r
def avals (l : Int) : List PyData → List PyData
  | [] => []
  | .tuple cs :: r => vals l cs ++ avals l r
  | _ :: r => avals l r
def lit (l : Int) : PyData → PyData
  | .tuple [_, _, .int i] => .int (i + l)
  | _ => .none
theorem vals_len (l : Int) : ∀ {cs : List PyData}, cs.all isRd = true → (vals l cs).length ≤ cs.length
  | [], _ => Nat.le_refl _
  | c :: cs, h => by
    rw [List.all_cons, Bool.and_eq_true] at h
    have := vals_len l h.2
    rcases isRd_inv h.1 with z | ⟨r, z⟩ <;> subst z <;> simp only [vals, List.length_cons] <;> omega
theorem avals_len (l : Int) : ∀ {rs : List PyData}, (∀ d ∈ rs, rowOk d = true) → (avals l rs).length ≤ 12 * rs.length
  | [], _ => Nat.le_refl _
  | c :: rs, h => by
    obtain ⟨cs, rfl, _, h2, h3⟩ := rowOk_tup (h c (by simp))
    have h4 := avals_len l fun d hd => h d (List.mem_cons_of_mem _ hd)
    have h5 := vals_len l h3
    simp only [avals, List.length_cons, List.length_append]
    omega
theorem rdsRow_lit (l : Int) (y : Nat) : ∀ (x : Nat) (cs : List PyData), cs.all isRd = true → (rdsRow y x cs).map (lit l) = vals l cs
  | _, [], _ => rfl
  | x, c :: cs, h => by
    rw [List.all_cons, Bool.and_eq_true] at h
    have ih := rdsRow_lit l y (x + 1) cs h.2
    rcases isRd_inv h.1 with z | ⟨r, z⟩ <;> subst z <;> simp [rdsRow, isNn, vals, lit, ih]
theorem rds_lit (l : Int) : ∀ (k : Nat) (rs : List PyData), (∀ d ∈ rs, rowOk d = true) → (rds k rs).map (lit l) = avals l rs
  | _, [], _ => rfl
  | k, c :: rs, h => by
    obtain ⟨cs, rfl, _, _, h3⟩ := rowOk_tup (h c (by simp))
    simp only [rds, avals, List.map_append, rdsRow_lit l k 0 cs h3, rds_lit l (k + 1) rs fun d hd => h d (by simp [hd])]
def badd : PyData → Bool
  | .int i => decide (i < 0 ∨ i > 999)
  | _ => false
theorem vals_int (l : Int) : ∀ {cs : List PyData}, cs.all isRd = true → ∀ d ∈ vals l cs, ∃ n : Int, d = .int n
  | [], _, d, hd => by simp [vals] at hd
  | c :: cs, h, d, hd => by
    rw [List.all_cons, Bool.and_eq_true] at h
    rcases isRd_inv h.1 with z | ⟨r, z⟩ <;> subst z <;> simp only [vals] at hd
    · exact vals_int l h.2 d hd
    · rcases List.mem_cons.mp hd with hd | hd
      · exact ⟨_, hd⟩
      · exact vals_int l h.2 d hd
theorem avals_int (l : Int) : ∀ {rs : List PyData}, (∀ d ∈ rs, rowOk d = true) → ∀ d ∈ avals l rs, ∃ n : Int, d = .int n
  | [], _, d, hd => by simp [avals] at hd
  | c :: rs, h, d, hd => by
    obtain ⟨cs, rfl, _, _, h3⟩ := rowOk_tup (h c (by simp))
    simp only [avals] at hd
    rcases List.mem_append.mp hd with hd | hd
    · exact vals_int l h3 d hd
    · exact avals_int l (fun d hd => h d (by simp [hd])) d hd
theorem vals_bad (l : Int) : ∀ {cs : List PyData}, cs.all isRd = true → (allSome (mvRd l) cs).isSome = ((vals l cs).filter badd).isEmpty
  | [], _ => rfl
  | c :: cs, h => by
    rw [List.all_cons, Bool.and_eq_true] at h
    have ih := vals_bad l h.2
    rcases isRd_inv h.1 with z | ⟨r, z⟩ <;> subst z <;> simp only [vals, allSome, mvRd]
    · rw [← ih]
      cases allSome (mvRd l) cs <;> rfl
    · by_cases hb : 0 ≤ r + l ∧ r + l ≤ 999
      · rw [if_pos hb, List.filter_cons_of_neg (by simp only [badd, decide_eq_true_eq]; omega), ← ih]
        cases allSome (mvRd l) cs <;> rfl
      · rw [if_neg hb, List.filter_cons_of_pos (by simp only [badd, decide_eq_true_eq]; omega)]
        rfl
theorem avals_bad (l : Int) : ∀ {rs : List PyData}, (∀ d ∈ rs, rowOk d = true) → (allSome (mvRow l) rs).isSome = ((avals l rs).filter badd).isEmpty
  | [], _ => rfl
  | c :: rs, h => by
    obtain ⟨cs, rfl, _, _, h3⟩ := rowOk_tup (h c (by simp))
    have ih := avals_bad l fun d hd => h d (List.mem_cons_of_mem _ hd)
    have h4 := vals_bad l h3
    simp only [avals, allSome, mvRow, List.filter_append]
    cases h5 : allSome (mvRd l) cs with
    | none =>
      rw [h5] at h4
      cases h6 : (vals l cs).filter badd with
      | nil => rw [h6] at h4; cases h4
      | cons a b => rfl
    | some x =>
      rw [h5] at h4
      cases h6 : (vals l cs).filter badd with
      | cons a b => rw [h6] at h4; cases h4
      | nil =>
        rw [List.nil_append, ← ih]
        cases allSome (mvRow l) rs <;> rfl
theorem allSome_len {f : PyData → Option PyData} : ∀ {ds es : List PyData}, allSome f ds = some es → es.length = ds.length
  | [], es, h => by simp only [allSome] at h; cases h; rfl
  | d :: ds, es, h => by
    simp only [allSome] at h
    cases h1 : f d with
    | none => rw [h1] at h; cases h
    | some a =>
      cases h2 : allSome f ds with
      | none => rw [h1, h2] at h; cases h
      | some b => rw [h1, h2] at h; cases h; exact congrArg (· + 1) (allSome_len h2)
theorem allSome_get {f : PyData → Option PyData} : ∀ {ds es : List PyData} {i : Nat} {d : PyData}, allSome f ds = some es → ds[i]? = some d → ∃ d', f d = some d' ∧ es[i]? = some d'
  | [], es, i, d, _, hi => by simp at hi
  | x :: ds, es, i, d, h, hi => by
    simp only [allSome] at h
    cases h1 : f x with
    | none => rw [h1] at h; cases h
    | some a =>
      cases h2 : allSome f ds with
      | none => rw [h1, h2] at h; cases h
      | some b =>
        rw [h1, h2] at h
        cases h
        cases i with
        | zero => cases (Option.some.inj hi); exact ⟨a, h1, rfl⟩
        | succ i => exact allSome_get (i := i) h2 hi
theorem mvRd_ok {l : Int} {d d' : PyData} (h : mvRd l d = some d') : isRd d' = true := by
  cases d with
  | none => cases h; rfl
  | int i =>
    simp only [mvRd] at h
    split at h
    · cases h; exact decide_eq_true ‹_›
    · cases h
  | _ => cases h
theorem mvRow_ok {l : Int} {d d' : PyData} (h : mvRow l d = some d') (hd : rowOk d = true) : rowOk d' = true := by
  obtain ⟨cs, rfl, h1, h2, h3⟩ := rowOk_tup hd
  simp only [mvRow, Option.map_eq_some_iff] at h
  obtain ⟨es, he, rfl⟩ := h
  have hl := allSome_len he
  simp only [rowOk]
  rw [decide_eq_true (by omega), Bool.true_and]
  refine List.all_eq_true.mpr fun x hx => ?_
  obtain ⟨i, hi, hx⟩ := List.getElem_of_mem hx
  obtain ⟨d', h5, h6⟩ := allSome_get (i := i) (d := cs[i]'(by omega)) he (by simp [show i < cs.length by omega])
  rw [List.getElem?_eq_getElem hi, hx] at h6
  cases h6
  exact mvRd_ok h5
theorem mvRows_ok {l : Int} {rs es : List PyData} (h : allSome (mvRow l) rs = some es) (hr : ∀ d ∈ rs, rowOk d = true) : ∀ d ∈ es, rowOk d = true := by
  intro x hx
  have hl := allSome_len h
  obtain ⟨i, hi, hx⟩ := List.getElem_of_mem hx
  obtain ⟨d', h5, h6⟩ := allSome_get (i := i) (d := rs[i]'(by omega)) h (by simp [show i < rs.length by omega])
  rw [List.getElem?_eq_getElem hi, hx] at h6
  cases h6
  exact mvRow_ok h5 (hr _ (List.getElem_mem _))
theorem drop_get {xs : List PyData} {i : Nat} {d : PyData} (h : xs[i]? = some d) : xs.drop i = d :: xs.drop (i + 1) := by
  obtain ⟨h1, rfl⟩ := List.getElem?_eq_some_iff.mp h
  exact List.drop_eq_getElem_cons h1
theorem take_get {xs : List PyData} {i : Nat} {d : PyData} (h : xs[i]? = some d) : xs.take (i + 1) = xs.take i ++ [d] := by
  rw [List.take_add_one, h]
  rfl
theorem rng_get {n i : Nat} {d : PyData} (h : (rng 0 n)[i]? = some d) : i < n ∧ d = .int (i : Int) := by
  have hl : i < n := by
    have := (List.getElem?_eq_some_iff.mp h).1
    simpa [rng] using this
  unfold rng at h
  rw [List.getElem?_map, List.getElem?_range hl] at h
  cases h
  exact ⟨hl, by simp⟩
theorem rng_len (n : Nat) : (rng 0 n).length = n := by simp [rng]
theorem row_get {rs c0 : List PyData} {k : Nat} {d : PyData} (h : rowsOk (.tuple rs) = true) (h0 : rs[0]? = some (.tuple c0)) (hk : rs[k]? = some d) : ∃ cs, d = .tuple cs ∧ cs.length = c0.length ∧ cs.length ≤ 12 ∧ cs.all isRd = true := by
  obtain ⟨_, _, h3, h4⟩ := rows_inv h
  obtain ⟨cs, rfl, _, h5, h6⟩ := rowOk_tup (h3 d (List.mem_of_getElem? hk))
  refine ⟨cs, rfl, ?_, h5, h6⟩
  cases rs with
  | nil => simp at h0
  | cons a b =>
    cases (Option.some.inj h0)
    simp only [sameLen] at h4
    have := of_decide_eq_true (List.all_eq_true.mp h4 _ (List.mem_of_getElem? hk))
    simpa [dlen] using this
/-- a list that stands, apart from what is known -/
def RestAt (K : PySem.W.Frag) (p : Addr) (G H : Hp) (L : List PyData) : Prop := ∃ vs, H p = some (.lst vs) ∧ G p = none ∧ DpAll K G vs L
theorem RestAt.go {K : PySem.W.Frag} {p : Addr} {G H G' H' : Hp} {L : List PyData} {M : List Addr} (r : RestAt K p G H L) (n : Nx M G H G' H') (hp : p ∉ M) : RestAt K p G' H' L := by
  obtain ⟨vs, h, g, d⟩ := r
  exact ⟨vs, n.fr p _ hp h, n.old p g (by rw [h]; exact fun z => nomatch z), dpAll_mono n.gg d⟩
theorem RestAt.upd {K : PySem.W.Frag} {p A : Addr} {G H : Hp} {L : List PyData} {o : HO} (r : RestAt K p G H L) (h : A ≠ p) : RestAt K p G (upd H A o) L := by
  obtain ⟨vs, h1, g, d⟩ := r
  exact ⟨vs, by rw [upd_ne h.symm]; exact h1, g, d⟩
theorem RestAt.live {K : PySem.W.Frag} {p : Addr} {G H : Hp} {L : List PyData} (r : RestAt K p G H L) : H p ≠ none := by
  obtain ⟨vs, h1, _⟩ := r
  rw [h1]; exact fun z => nomatch z
theorem g_listOfM {K : PySem.W.Frag} {G H : Hp} {x : V} {ds : List PyData} {Q : VK} (e : Y.Ex G H) (h : Dp K G x (.list ds)) (q : ∀ p H', Nx [] G H G H' → H p = none → RestAt K p G H' ds → Q (.ref p) H') : rListOf K [x] H Q := by
  obtain ⟨a, vs, rfl, hs, hd⟩ := dp_lst h
  exact ⟨a, vs, rfl, .inl (e.seqL hs), fun l hl => q l _ (Nx.own e hl) hl ⟨vs, upd_same, e.free hl, hd⟩⟩
def sp_law (K : PySem.W.Frag) : Sp := fun vs H Q _ => ∃ (G : Hp) (a : Addr) (ns : List Int), vs = [.ref a] ∧ Y.Ex G H ∧ SqL K G a (ns.map V.int) ∧ ∀ H', Q (.bl true) H'
theorem ok_law (T : Tx fa fn bx K mg) : FnOk P w K mg base CX0 7 (He.ga K "law") (fdOf K (He.ga K "law")) ["script"] (sp_law K) := by
  refine FunD.ok (F_law T) sc_law (fun vs H Q E h => ?_) (fun cdv A outer s H vs Q E hr h => ?_)
  · obtain ⟨_, _, _, rfl, _⟩ := h
    rfl
  · obtain ⟨G, a, ns, rfl, e, hs, q⟩ := h
    refine ⟨_, PSs.nox ((pss_cons (ps_set (i := 1) sc_law.nd rfl (Or.inl rfl) (Y.pe_callC (ok__law_pool T) (cal__law_pool T) (hr.mono (by decide)) (by rfl) pass0 (pa_cons (pv 0) pa_nil)))
      (pss_cons (ps_set (i := 2) sc_law.nd rfl (Or.inl rfl) (Y.pe_callC (ok__law_name T) (cal__law_name T) (hr.mono (by decide)) (by rfl) pass0 (pa_cons (pv 1) pa_nil)))
      (pss_cons (ps_set (i := 3) sc_law.nd rfl (Or.inr rfl) (Y.pe_callC (ok__law_rows T) (cal__law_rows T) (hr.mono (by decide)) (by rfl) pass0 (pa_cons (pv 1) (pa_cons pe_int pa_nil))))
      (pss_cons (ps_set (i := 4) sc_law.nd rfl (Or.inl rfl) (pe_tup (pa_cons (pv 2) (pa_cons (pv 3) pa_nil))))
      (pss_cons (ps_if (PW.pt (pw_or (pt_cmpR op_notBl (Y.pe_callC (ok_is_view T) (cal_is_view T) (hr.mono (by decide)) (by rfl) pass0 (pa_cons (pv 4) pa_nil)) pe_bl (nomark _)) (pw_or (pt_cmpR op_notBl (Y.pe_callC (ok_is_name T) (cal_is_name T) (hr.mono (by decide)) (by rfl) pass0 (pa_cons (pv 2) pa_nil)) pe_bl (nomark _)) (pw_or1 (pt_cmpR (Y.op_neDK (K := K) rfl hr.units) (Y.pe_callC (ok_size T) (cal_size T) (hr.mono (by decide)) (by rfl) pass0 (pa_cons (pv 4) pa_nil)) (pe_tup (pa_cons (pe_callB (Y.call_lenK (K := K) rfl) (by rfl) (T.free 3) (by decide +kernel) (pa_cons (pe_ix (Y.ix_tupK (K := K) rfl) (pv 3) pe_int (fun _ _ => rfl)) pa_nil)) (pa_cons (pe_callB (Y.call_lenK (K := K) rfl) (by rfl) (T.free 3) (by decide +kernel) (pa_cons (pv 3) pa_nil)) pa_nil))) (nomark _))))))
      (pss_one (ps_ret pe_bl))
      pss_nil)
      (pss_cons (ps_set (i := 5) sc_law.nd rfl (Or.inl rfl) (pe_lst pa_nil))
      (pss_cons (ps_for PassesOwn.never rfl (pi_range1 (by rfl) (T.free 17) (pa_cons (pe_callB (Y.call_lenK (K := K) rfl) (by rfl) (T.free 3) (by decide +kernel) (pa_cons (pv 3) pa_nil)) pa_nil)) (pg_name (i := 6) sc_law.nd rfl (Or.inr rfl))
      (pss_one (ps_set (i := 5) sc_law.nd rfl (Or.inl rfl) (pe_op op_cat (pv 5) (pe_lc (own := [("x", 16)]) rfl sc_law.nd (pi_range1 (by rfl) (T.free 17) (pa_cons (pe_callB (Y.call_lenK (K := K) rfl) (by rfl) (T.free 3) (by decide +kernel) (pa_cons (pe_ix (Y.ix_tupK (K := K) rfl) (pv 3) pe_int (fun _ _ => rfl)) pa_nil)) pa_nil)) (blkOk_by (own := [("x", 16)]) (by kernel_rfl)) (fun _ _ _ _ _ => (pg_name (i := 16) sc_law.nd rfl (Or.inl rfl))) (fun _ _ _ _ _ => (pts_one (pt_cmp (pc_notN (pe_ix (Y.ix_tupK (K := K) rfl) (pe_ix (Y.ix_tupK (K := K) rfl) (pv 3) (pv 6) (fun _ _ => rfl)) (pv 16) (fun _ _ => rfl)))))) (fun _ _ _ _ _ => (pe_tup (pa_cons (pv 16) (pa_cons (pv 6) (pa_cons (pe_ix (Y.ix_tupK (K := K) rfl) (pe_ix (Y.ix_tupK (K := K) rfl) (pv 3) (pv 6) (fun _ _ => rfl)) (pv 16) (fun _ _ => rfl)) pa_nil))))))))))
      (pss_cons (ps_if (PW.pt (pw_or (pt_cmpR (Y.op_neDK (K := K) rfl hr.units) (Y.pe_callC (ok_readings T) (cal_readings T) (hr.mono (by decide)) (by rfl) pass0 (pa_cons (pv 4) pa_nil)) (pv 5) (nomark _)) (pw_or1 (pt_not (pt_val (pe_callB (Y.call_isiK (K := K) rfl) (by rfl) (T.free 0) (by decide +kernel) (pa_cons (Y.pe_callC (ok_readings T) (cal_readings T) (hr.mono (by decide)) (by rfl) pass0 (pa_cons (pv 4) pa_nil)) (pa_cons (pe_bltn (v := .ty "list") (by rfl) (T.free 16) (by decide +kernel) rfl) pa_nil))))))))
      (pss_one (ps_ret pe_bl))
      pss_nil)
      (pss_cons (ps_if (pt_cmpR op_notBl (Y.pe_callC (ok_is_view T) (cal_is_view T) (hr.mono (by decide)) (by rfl) pass0 (pa_cons (Y.pe_callC (ok__law_spoilt T) (cal__law_spoilt T) (hr.mono (by decide)) (by rfl) pass0 (pa_cons (pv 1) (pa_cons (pv 2) (pa_cons (pv 3) pa_nil)))) pa_nil)) pe_bl (nomark _))
      (pss_one (ps_ret pe_bl))
      pss_nil)
      (pss_cons (ps_set (i := 7) sc_law.nd rfl (Or.inr rfl) (pe_ix (Y.ix_listK (K := K) rfl) (pe_lst (pa_cons pe_int (pa_cons pe_int (pa_cons (pe_un un_neg pe_int) (pa_cons pe_int (pa_cons (pe_un un_neg pe_int) (pa_cons pe_int (pa_cons (pe_op op_sub (Y.pe_callC (ok__law_take T) (cal__law_take T) (hr.mono (by decide)) (by rfl) pass0 (pa_cons (pv 1) (pa_cons pe_int pa_nil))) pe_int) pa_nil)))))))) (Y.pe_callC (ok__law_take T) (cal__law_take T) (hr.mono (by decide)) (by rfl) pass0 (pa_cons (pv 1) (pa_cons pe_int pa_nil))) (fun _ _ => rfl)))
      (pss_cons (ps_setLc (i := 8) (own := [("row", 14)]) (tt := tYes) rfl sc_law.nd rfl rfl (sw_true rfl rfl rfl (by decide +kernel)) (Y.pi_listK (K := K) rfl (pv 5)) (blkOk_by (own := [("row", 14)]) (by kernel_rfl)) (fun _ _ _ _ _ => (pg_name (i := 14) sc_law.nd rfl (Or.inl rfl))) (fun _ _ _ _ _ => pts_nil) (fun _ _ _ _ _ => (pe_op op_add (pe_ix (Y.ix_tupK (K := K) rfl) (pv 14) pe_int (fun _ _ => rfl)) (pv 7))))
      (Evl.pss_cut (ps_set (i := 9) sc_law.nd rfl (Or.inl rfl) (Y.pe_callC (ok__law_lighter T) (cal__law_lighter T) (hr.mono (by decide)) (by rfl) pass0 (pa_cons (pv 4) (pa_cons (pv 7) pa_nil))))
      (Evl.pss_cut (ps_if (Y.pt_truthK (K := K) rfl (pe_lc (own := [("number", 15)]) rfl sc_law.nd (Y.pi_listK (K := K) rfl (pv 8)) (blkOk_by (own := [("number", 15)]) (by kernel_rfl)) (fun _ _ _ _ _ => (pg_name (i := 15) sc_law.nd rfl (Or.inl rfl))) (fun _ _ _ _ _ => (pts_one (PW.pt (pw_or (pt_cmpR op_lt (pv 15) pe_int (nomark _)) (pw_or1 (pt_cmpR op_gt (pv 15) pe_int (nomark _))))))) (fun _ _ _ _ _ => (pv 15))) (by intro _; rfl))
      (pss_one (ps_if (pt_cmpR (Y.op_neDK (K := K) rfl hr.units) (pv 9) pe_str (nomark _))
      (pss_one (ps_ret pe_bl))
      pss_nil))
      (pss_cons (ps_set (i := 12) sc_law.nd rfl (Or.inr rfl) (pe_callTy (Y.call_listK (K := K) rfl) (by rfl) (T.free 16) (by decide +kernel) (pa_cons (pv 8) pa_nil)))
      (pss_cons (ps_set (i := 13) sc_law.nd rfl (Or.inl rfl) (pe_callTy (Y.call_tupleK (K := K) rfl) (by rfl) (T.free 4) (by decide +kernel) (pa_cons (pe_lc (own := [("row", 14)]) (tt := tYes) rfl sc_law.nd (Y.pi_tupK (K := K) rfl (pv 3)) (blkOk_by (own := [("row", 14)]) (by kernel_rfl)) (fun _ _ _ _ _ => (pg_name (i := 14) sc_law.nd rfl (Or.inl rfl))) (fun _ _ _ _ _ => pts_nil) (fun _ _ _ _ _ => (pe_callTy (Y.call_tupleK (K := K) rfl) (by rfl) (T.free 4) (by decide +kernel) (pa_cons (pe_lc (own := [("old", 17)]) (tt := tYes) rfl sc_law.nd (Y.pi_tupK (K := K) rfl (pv 14)) (blkOk_by (own := [("old", 17)]) (by kernel_rfl)) (fun _ _ _ _ _ => (pg_name (i := 17) sc_law.nd rfl (Or.inl rfl))) (fun _ _ _ _ _ => pts_nil) (fun _ _ _ _ _ => (pe_ifExp (pt_cmp (pc_isN (pv 17))) pe_non (Y.pe_bmK (K := K) rfl PySem.F.plainAttrs_list PySem.F.slot_list_pop PySem.F.type_list_pop mt_popAt (pv 12) (pa_cons pe_int pa_nil))))) pa_nil)))) pa_nil)))
      (pss_one (ps_if (pt_cmpR (Y.op_neDK (K := K) rfl hr.units) (pv 9) (pe_tup (pa_cons (pv 2) (pa_cons (pv 13) pa_nil))) (nomark _))
      (pss_one (ps_ret pe_bl))
      pss_nil)))))
      (pss_cons (ps_for PassesOwn.never rfl (Y.pi_listK (K := K) rfl (pe_lst (pa_cons pe_int (pa_cons pe_int pa_nil)))) (pg_name (i := 10) sc_law.nd rfl (Or.inl rfl))
      (pss_one (ps_if (PW.pt (pw_or (pt_cmpR op_ne (Y.pe_callC (ok_is_view T) (cal_is_view T) (hr.mono (by decide)) (by rfl) pass0 (pa_cons (pe_tup (pa_cons (pv 2) (pa_cons (pe_tup (pa_cons (pe_op (Y.op_repU (K := K) rfl) (pe_tup (pa_cons pe_int pa_nil)) (pv 10)) pa_nil)) pa_nil))) pa_nil)) (pe_cmpR op_eq (pv 10) pe_int (nomark _)) (nomark _)) (pw_or1 (pt_cmpR op_ne (Y.pe_callC (ok_is_view T) (cal_is_view T) (hr.mono (by decide)) (by rfl) pass0 (pa_cons (pe_tup (pa_cons (pv 2) (pa_cons (pe_op (Y.op_repU (K := K) rfl) (pe_tup (pa_cons (pe_tup (pa_cons pe_int pa_nil)) pa_nil)) (pv 10)) pa_nil))) pa_nil)) (pe_cmpR op_eq (pv 10) pe_int (nomark _)) (nomark _)))))
      (pss_one (ps_ret pe_bl))
      pss_nil)))
      (pss_cons (ps_for PassesOwn.never rfl (Y.pi_listK (K := K) rfl (pe_lst (pa_cons pe_non (pa_cons pe_int (pa_cons pe_str (pa_cons (pe_tup pa_nil) (pa_cons (pe_lst pa_nil) (pa_cons (pe_tup (pa_cons pe_str (pa_cons pe_int pa_nil))) (pa_cons (pe_tup (pa_cons pe_str (pa_cons (pe_tup (pa_cons (pe_tup (pa_cons pe_int pa_nil)) (pa_cons pe_int pa_nil))) pa_nil))) (pa_cons pe_bl pa_nil)))))))))) (pg_name (i := 11) sc_law.nd rfl (Or.inl rfl))
      (pss_one (ps_if (pt_cmpR op_notBl (Y.pe_callC (ok_is_view T) (cal_is_view T) (hr.mono (by decide)) (by rfl) pass0 (pa_cons (pv 11) pa_nil)) pe_bl (nomark _))
      (pss_one (ps_ret pe_bl))
      pss_nil)))
      (pss_cons (ps_for PassesOwn.never rfl (Y.pi_listK (K := K) rfl (pe_lst (pa_cons (pe_un un_neg pe_int) (pa_cons pe_int (pa_cons pe_bl (pa_cons pe_str (pa_cons (pe_tup (pa_cons pe_int pa_nil)) pa_nil))))))) (pg_name (i := 11) sc_law.nd rfl (Or.inl rfl))
      (pss_one (ps_if (pt_cmpR op_notBl (Y.pe_callC (ok_is_reading T) (cal_is_reading T) (hr.mono (by decide)) (by rfl) pass0 (pa_cons (pv 11) pa_nil)) pe_bl (nomark _))
      (pss_one (ps_ret pe_bl))
      pss_nil)))
      (pss_one (ps_ret (pe_and (pe_cmpR op_isBl (Y.pe_callC (ok_is_reading T) (cal_is_reading T) (hr.mono (by decide)) (by rfl) pass0 (pa_cons pe_non pa_nil)) pe_bl (nomark _)) (pe_and (pe_cmpR op_isBl (Y.pe_callC (ok_is_reading T) (cal_is_reading T) (hr.mono (by decide)) (by rfl) pass0 (pa_cons pe_int pa_nil)) pe_bl (nomark _)) (pe_one (pe_cmpR op_isBl (Y.pe_callC (ok_is_reading T) (cal_is_reading T) (hr.mono (by decide)) (by rfl) pass0 (pa_cons pe_int pa_nil)) pe_bl (nomark _)))))))))))))))))))))))), ?_⟩
    walk_at "sx"
    refine ⟨G, a, ns, rfl, e, hs, fun pl G1 H1 n1 _ hp1 => ?_⟩
    walk_at "sx"
    refine ⟨G1, pl, rfl, n1.gh, hp1, fun s G2 H2 ⟨⟨hs2, _⟩, _⟩ n2 hp2 => ?_⟩
    walk_at "sx"
    refine ⟨G2, pl, 5, rfl, n2.gh, hp2, by decide, by decide, fun vr rs G3 H3 hok hl5 hc5 dr n3 hp3 => ?_⟩
    walk_at "sx"
    have hsm : smallRows rs := small_of hok
    obtain ⟨r0, rs', hrs⟩ : ∃ r0 t, rs = r0 :: t := rows_ne hok
    obtain ⟨c0, hc0, m1, m2, m3⟩ := rowOk_tup ((rows_inv hok).2.2.1 r0 (by rw [hrs]; simp))
    subst hc0
    refine g_tupD (K := K) n3.gh (ds := [.str s, .tuple rs]) (.cons (.str s) (.cons dr .nil)) (by show 2 ≤ sizeLine; decide) fun vv G4 H4 n4 dv => ?_
    walk_at "sx"
    have hf : fit (.tuple [.str s, .tuple rs]) = true := fit_view hs2 hok
    have hvo : viewOk (.tuple [.str s, .tuple rs]) = true := by simp only [viewOk, isName, hs2, hok]; rfl
    refine ⟨G4, _, _, rfl, n4.gh, dv, hf, fun G5 H5 n5 => ?_⟩
    rw [hvo]
    walk_at "sx"
    refine g_same ?_
    walk_at "sx"
    refine ⟨G5, _, _, rfl, n5.gh, .str s, fit_name hs2, fun G6 H6 n6 => ?_⟩
    rw [show isName (.str s) = true from hs2]
    walk_at "sx"
    refine g_same ?_
    walk_at "sx"
    have dv6 := dp_mono (n5.gg.trans n6.gg) dv
    have dr6 := dp_mono ((n4.gg.trans n5.gg).trans n6.gg) dr
    rw [hrs] at dv6
    refine ⟨G6, _, _, _, _, rfl, n6.gh, dv6, fun vsz G7 H7 n7 dsz => ?_⟩
    walk_at "sx"
    have dr7 := dp_mono n7.gg dr6
    rw [hrs] at dr7
    refine g_ixT (k := 0) n7.gh dr7 rfl rfl fun vr0 dr0 => ?_
    walk_at "sx"
    refine g_lenT n7.gh dr0 ?_
    walk_at "sx"
    refine g_lenT n7.gh dr7 ?_
    walk_at "sx"
    refine g_tupD (K := K) n7.gh (.cons (.int _) (.cons (.int _) .nil)) (by show 2 ≤ sizeLine; decide) fun pz G8 H8 n8 dpz => ?_
    walk_at "sx"
    refine g_neD n8.gh (dp_mono n8.gg dsz) dpz rfl rfl ?_
    rw [SeqAt.eqv_refl _ rfl]
    walk_at "sx"
    have np8 := hp3.go n4 (by simp)
    have hp8 : PoolAt K pl G8 H8 := (((((np8.go n5 (by simp)).go n6 (by simp)).go n7 (by simp)).go n8 (by simp)))
    have nv := ((n5.trans n6).trans n7).trans n8
    replace dv := dp_mono nv.gg dv
    replace dr := dp_mono (n4.trans nv).gg dr
    have e8 := n8.gh
    clear dv6 dr6 dr7 dr0 dsz dpz np8 n1 n2 n3 n4 n5 n6 n7 n8 nv hp1 hp2 hp3
    refine g_lstM (xs := []) e8 (Nat.zero_le _) fun p0 H9 n9 hn0 hp0 hg0 => ?_
    walk_at "sx"
    have hlen := (rows_inv hok).2.1
    have hrow := (rows_inv hok).2.2.1
    have h0 : rs[0]? = some (.tuple c0) := by rw [hrs]; rfl
    refine g_lenT n9.gh (dp_mono n9.gg dr) ?_
    walk_at "sx"
    refine g_walkR (by omega) (by omega) ?_
    refine g_forS (K := K) (M := []) (src_rng 0 _) n9.gh (fun i σ G' H' => ∃ p y6, σ = [some (.ref a), some (.ref pl), some (.str s), some vr, some (.ref vv), some (.ref p), y6, none, none, none, none, none, none, none, none, none, none, none] ∧ H8 p = none ∧ RestAt K p G' H' (rds 0 (rs.take i))) ⟨p0, none, rfl, hn0, [], hp0, hg0, by simpa [rds] using DpAll.nil⟩ ?_ ?_
    · rintro i d w σ' G2 H2 G3 H3 hi n2 ⟨p, y6, rfl, hf8, hR⟩ n3 dw
      obtain ⟨hlt, rfl⟩ := rng_get hi
      cases dp_int dw
      have hlt' : i < rs.length := by omega
      have n93 := n9.trans (n2.trans n3.pure)
      have dr3 := dp_mono n93.gg dr
      have hi2 : rs[i]? = some rs[i] := by simp [hlt']
      obtain ⟨cs, hcs, hcl, hcl2, hcr⟩ := row_get hok h0 hi2
      rw [hcs] at hi2
      have hR3 := hR.go n3 (by simp)
      walk_at "sx"
      refine g_ixT (k := 0) n3.gh dr3 h0 rfl fun vr0 dr0 => ?_
      walk_at "sx"
      refine g_lenT n3.gh dr0 ?_
      walk_at "sx"
      refine g_walkR (by omega) (by omega) ?_
      intro A hA
      refine g_lcS (K := K) (M := []) (src_rng 0 _) n3.gh hA (by simp) (by rw [rng_len]; exact szl (by omega)) (fun j acc => acc = rdsRow i 0 (cs.take j)) (by simp [rdsRow]) (fun j d v acc G4 H4 hj dv4 n4 _ hjj QE QN k1 k2 => ?_) (fun G4 H4 ys acc hjj n4 g4 h4 da4 => ?_)
      · obtain ⟨hjl, rfl⟩ := rng_get hj
        cases dp_int dv4
        have hjl' : j < cs.length := by omega
        have hj2 : cs[j]? = some cs[j] := by simp [hjl']
        walk_at "sx"
        refine g_ixT (k := i) n4.gh (dp_mono n4.gg dr3) hi2 rfl fun vrw drw => ?_
        walk_at "sx"
        refine g_ixT (k := j) n4.gh drw hj2 rfl fun vc dc => ?_
        walk_at "sx"
        have ej : 0 + (cs.take j).length = j := by rw [List.length_take]; omega
        refine g_ndec (fun hn => ?_) (fun hn => ?_) <;> walk_at "sx"
        · rw [dp_non_iff dc] at hn
          refine g_ixT (k := i) n4.gh (dp_mono n4.gg dr3) hi2 rfl fun vrw2 drw2 => ?_
          walk_at "sx"
          refine g_ixT (k := j) n4.gh drw2 hj2 rfl fun vc2 dc2 => ?_
          walk_at "sx"
          refine g_tupD n4.gh (.cons (.int _) (.cons (.int _) (.cons dc2 .nil))) (by show 3 ≤ sizeLine; decide) fun t G6 H6 n6 dt => ?_
          refine k1 _ G6 H6 _ n6 dt ?_
          rw [take_get hj2, rdsRow_snoc, if_neg (by rw [isNn_f hn]; simp), ← hjj, ej]
        · rw [dp_non_iff dc] at hn
          refine k2 G4 H4 (Nx.refl n4.gh) ?_
          rw [take_get hj2, rdsRow_snoc, if_pos (isNn_iff.mpr hn), List.append_nil]
          exact hjj
      · walk_at "sx"
        obtain ⟨vs, hvs, gvs, dvs⟩ := hR3.go n4 (by simp)
        rw [rng_len, show ((c0.length : Nat) : Int).toNat = cs.length by omega, List.take_length] at hjj
        have l1 : vs.length ≤ 1200 := by
          rw [dpAll_len dvs]
          have := rds_len 0 (rs.take i) fun d hd => (small_of hok).2 d (List.mem_of_mem_take hd)
          rw [List.length_take] at this
          omega
        have l2 : ys.length ≤ 12 := by
          rw [dpAll_len da4, hjj]
          have := rdsRow_len i 0 cs
          omega
        refine g_cat hvs h4 (szle (by omega)) n4.gh fun r H5 n5 hr5 hr5' gr5 => ?_
        walk_at "sx"
        have n95 : Nx [] G8 H8 G4 H5 := (n93.trans n4).trans n5
        refine ⟨G4, ((n2.trans n3).trans n4).trans n5, r, _, rfl, ((n93.trans n4)).fresh hr5, _, hr5', gr5, ?_⟩
        rw [take_get hi2, rds_snoc, List.length_take, Nat.zero_add, Nat.min_eq_left (by omega)]
        rw [hjj] at da4
        exact dpAll_app dvs da4
    rintro σ' Ga Ha na ⟨p, y6, rfl, hf8, hR⟩
    rw [rng_len, show ((rs.length : Nat) : Int).toNat = rs.length by omega, List.take_length] at hR
    obtain ⟨vs, hvs, gvs, dvs⟩ := hR
    have nb : Nx [] G8 H8 (upd Ga p (.lst vs)) Ha := (n9.trans na).know hf8 hvs gvs
    have dd : Dp K (upd Ga p (.lst vs)) (.ref p) (.list (rds 0 rs)) := .lst (.of upd_same) (dpAll_mono (Ex.new gvs) dvs)
    generalize upd Ga p (.lst vs) = Gb at nb dd
    walk_at "sx"
    refine ⟨Gb, _, _, rs, rfl, nb.gh, dp_mono nb.gg dv, small_of hok, fun q1 G1 H1 n1 d1 => ?_⟩
    walk_at "sx"
    refine g_neD n1.gh d1 (dp_mono n1.gg dd) (shaped_rds hok) (shaped_rds hok) ?_
    rw [SeqAt.eqv_refl _ (shaped_lay (shaped_rds hok))]
    walk_at "sx"
    refine ⟨G1, _, _, rs, rfl, n1.gh, dp_mono (nb.gg.trans n1.gg) dv, small_of hok, fun q2 G2 H2 n2 d2 => ?_⟩
    walk_at "sx"
    refine g_isi (b := true) n2.gh d2 rfl ?_
    walk_at "sx"
    have nc := (nb.trans n1).trans n2
    refine ⟨G2, pl, s, vr, rs, rfl, n2.gh, hp8.go nc (by simp), hs2, dp_mono nc.gg dr, hok, fun vsp dsp G3 H3 hsv hsf dsp' n3 hp3 => ?_⟩
    walk_at "sx"
    refine ⟨G3, _, _, rfl, n3.gh, dsp', hsf, fun G4 H4 n4 => ?_⟩
    rw [hsv]
    walk_at "sx"
    refine g_same ?_
    walk_at "sx"
    refine ⟨G4, pl, 2001, rfl, n4.gh, hp3.go n4 (by simp), by decide, by decide, fun c H5 _ _ n5 hp5 => ?_⟩
    walk_at "sx"
    refine g_lstD (K := K) (ds := [.int 0, .int 1, .int (-1), .int 5, .int (-1000), .int 1000, .int (c - 1000)]) n5.gh (by walk_at "da") (by show 7 ≤ sizeLine; decide) fun pL G6 H6 n6 dL => ?_
    walk_at "sx"
    refine ⟨G6, pl, 7, rfl, n6.gh, hp5.go n6 (by simp), by decide, by decide, fun i H7 i0 i1 n7 hp7 => ?_⟩
    walk_at "sx"
    refine g_ixLn n7.gh dL i0 (by simpa using i1) fun vl dl hm _ dvl => ?_
    obtain ⟨l, rfl⟩ : ∃ l : Int, dl = .int l := by
      simp only [List.mem_cons, List.not_mem_nil, or_false] at hm
      rcases hm with h | h | h | h | h | h | h <;> exact ⟨_, h⟩
    cases dp_int dvl
    have nd : Nx [pl] Gb Ha G6 H7 := (((((n1.trans n2).pure.trans n3).trans n4.pure).trans n5).trans n6.pure).trans n7
    have dd7 := dp_mono nd.gg dd
    have dv7 := dp_mono (nb.gg.trans nd.gg) dv
    have dr7 := dp_mono (nb.gg.trans nd.gg) dr
    have e7 := n7.gh
    clear n1 n2 n3 n4 n5 n6 n7 nd d1 d2 dsp' dL dvl hm hp3 hp5 hp7 nc hsv hsf hp8 i0 i1 na n9 e8
    walk_at "sx"
    refine g_walkL e7 dd7 fun b hb S => ?_
    intro A hA
    refine g_lcMap (K := K) (M := []) (es := (rds 0 rs).map (lit l)) (S []) e7 hA (by simp) (szl (by have := rds_len 0 rs (small_of hok).2; omega)) (by simp) (fun i d d' v G' H' hi hi' dv' n' QE k => ?_) (fun Gx Hx ys nx gx hx dax => ?_)
    · simp only [List.getElem?_map, hi, Option.map_some, Option.some.injEq] at hi'
      obtain ⟨x1, x2, x3, rfl⟩ := rds_form 0 rs hrow d (List.mem_of_getElem? hi)
      subst hi'
      walk_at "sx"
      refine g_ixT (k := 2) n'.gh dv' rfl rfl fun v3 d3 => ?_
      cases dp_int d3
      walk_at "sx"
      exact k _ _ _ (Nx.refl n'.gh) (.int _)
    rw [rds_lit l 0 rs hrow] at dax
    have nm := nx.know hA hx gx
    have dm : Dp K (upd Gx A (.lst ys)) (.ref A) (.list (avals l rs)) := .lst (.of upd_same) (dpAll_mono (Ex.new gx) dax)
    generalize upd Gx A (.lst ys) = Gm at nm dm
    have dvm := dp_mono nm.gg dv7
    have drm := dp_mono nm.gg dr7
    have em := nm.gh
    walk_at "sx"
    refine ⟨fun σ' H' => ∃ G' tv, σ' = [some (.ref a), some (.ref pl), some (.str s), some vr, some (.ref vv), some (.ref p), y6, some (.int l), some (.ref A), some tv, none, none, none, none, none, none, none, none] ∧ Nx [] Gm Hx G' H' ∧ ((∃ rs', allSome (mvRow l) rs = some rs' ∧ Dp K G' tv (.tuple [.str s, .tuple rs'])) ∨ (allSome (mvRow l) rs = none ∧ tv = .str "light")), ?_, ?_⟩
    · walk_at "sx"
      refine ⟨Gm, _, .str s, rs, l, rfl, em, dvm, hok, fun rs' hrs' pt G' H' n' dt => ?_, fun hn G' H' n' => ?_⟩
      · walk_at "sx"
        exact ⟨G', _, rfl, n', .inl ⟨rs', hrs', dt⟩⟩
      · walk_at "sx"
        exact ⟨G', _, rfl, n', .inr ⟨hn, rfl⟩⟩
    rintro σ' Ht ⟨Gt, tv, rfl, nt, htold⟩
    walk_at "sx"
    refine ⟨fun σ' H' => ∃ G' x0 x1 x3 x4 x5 x6 x7 x8 x9 x10 x11 x12 x13 x14 x15 x16 x17, σ' = [x0, x1, some (.str s), x3, x4, x5, x6, x7, x8, x9, x10, x11, x12, x13, x14, x15, x16, x17] ∧ Y.Ex G' H', ?_, ?_⟩
    · walk_at "sx"
      refine g_walkL nt.gh (dp_mono nt.gg dm) fun b2 hb2 S2 => ?_
      intro B hB
      have hal := avals_len l hrow
      refine g_lcS (K := K) (M := []) (S2 []) nt.gh hB (by simp) (szl (by omega)) (fun j acc => acc = ((avals l rs).take j).filter badd) rfl (fun j d v acc G' H' hj dv' n' _ hjj QE QN k1 k2 => ?_) (fun Gf Hf ys acc hjj nf gf hf' daf => ?_)
      · obtain ⟨n, rfl⟩ := avals_int l hrow d (List.mem_of_getElem? hj)
        cases dp_int dv'
        walk_at "sx"
        refine g_dec (fun hn => ?_) (fun hn => ?_) <;> walk_at "sx"
        · refine k1 _ _ _ _ (Nx.refl n'.gh) (.int _) ?_
          rw [take_get hj, List.filter_append, ← hjj, List.filter_cons_of_pos (by simp only [badd, decide_eq_true_eq]; omega)]
          rfl
        · refine g_dec (fun hn2 => ?_) (fun hn2 => ?_) <;> walk_at "sx"
          · refine k1 _ _ _ _ (Nx.refl n'.gh) (.int _) ?_
            rw [take_get hj, List.filter_append, ← hjj, List.filter_cons_of_pos (by simp only [badd, decide_eq_true_eq]; omega)]
            rfl
          · refine k2 _ _ (Nx.refl n'.gh) ?_
            rw [take_get hj, List.filter_append, ← hjj, List.filter_cons_of_neg (by simp only [badd, decide_eq_true_eq]; omega), List.filter_nil, List.append_nil]
      rw [List.take_length] at hjj
      subst hjj
      have hbad := avals_bad l hrow
      have nf' := nt.trans nf
      have dmf := dp_mono nf'.gg dm
      have drf := dp_mono nf'.gg drm
      refine ⟨!ys.isEmpty, .inl ⟨ys, .of hf', rfl⟩, ?_⟩
      have hyl := dpAll_len daf
      rcases htold with ⟨rs2, hrs2, dt⟩ | ⟨hn, rfl⟩
      · rw [hrs2] at hbad
        have hk : (!ys.isEmpty) = false := by
          rw [List.isEmpty_iff.mp hbad.symm] at hyl
          rw [List.eq_nil_of_length_eq_zero hyl]
          rfl
        rw [hk]
        walk_at "sx"
        refine g_listOfM nf.gh dmf fun rp H9 n9 hrp hR => ?_
        walk_at "sx"
        refine g_walkT n9.gh (dp_mono n9.gg drf) fun b3 hb3 S3 => ?_
        intro C hC
        have hCr : C ≠ rp := fun z => hR.live (z ▸ hC)
        refine g_lcH (K := K) (M := [rp]) (S3 [rp]) n9.gh hC (fun b hb => by simp at hb; rw [hb]; exact hR.live) (szl (by omega)) (fun i acc G' H' => acc = rs2.take i ∧ RestAt K rp G' H' (avals l (rs.drop i))) (fun i acc G' H' o h => ⟨h.1, h.2.upd hCr⟩) (fun i acc G' H' G1 H1 n h => ⟨h.1, h.2.go n (by simp)⟩) ⟨rfl, hR⟩ (fun i d v acc Gi Hi hi dvi ni _ hji QE QN k1 k2 => ?_) (fun Ge He ys2 acc2 hje ne ge he dae => ?_)
        · obtain ⟨cs, rfl, hc1, hc2, hcr⟩ := rowOk_tup (hrow d (List.mem_of_getElem? hi))
          obtain ⟨d', hd', hgi⟩ := allSome_get hrs2 hi
          simp only [mvRow, Option.map_eq_some_iff] at hd'
          obtain ⟨cs', hcs', rfl⟩ := hd'
          obtain ⟨hacc, hRi⟩ := hji
          walk_at "sx"
          refine g_walkT ni.gh dvi fun b4 hb4 S4 => ?_
          intro D hD
          have hDr : D ≠ rp := fun z => hRi.live (z ▸ hD)
          refine g_lcH (K := K) (M := [rp]) (S4 [rp]) ni.gh hD (fun b hb => by simp at hb; rw [hb]; exact hRi.live) (szl (by omega)) (fun j acc G' H' => acc = cs'.take j ∧ RestAt K rp G' H' (vals l (cs.drop j) ++ avals l (rs.drop (i + 1)))) (fun i acc G' H' o h => ⟨h.1, h.2.upd hDr⟩) (fun i acc G' H' G1 H1 n h => ⟨h.1, h.2.go n (by simp)⟩) ⟨rfl, ?_⟩ (fun j d v acc Gj Hj hj dvj nj _ hjj2 QE2 QN2 k3 k4 => ?_) (fun Gk Hk ys3 acc3 hjk nk gk hk dak => ?_)
          · rw [drop_get hi] at hRi
            exact hRi
          · obtain ⟨hacc2, hRj⟩ := hjj2
            obtain ⟨d', hd', hgj⟩ := allSome_get hcs' hj
            walk_at "sx"
            refine g_dec (fun hn => ?_) (fun hn => ?_) <;> walk_at "sx"
            · rw [dp_non_iff dvj] at hn
              subst hn
              cases hd'
              rw [drop_get hj] at hRj
              exact k3 _ Gj Hj _ (Nx.refl nj.gh) .non ⟨by rw [take_get hgj, ← hacc2], hRj⟩
            · rw [dp_non_iff dvj] at hn
              rcases isRd_inv (List.all_eq_true.mp hcr d (List.mem_of_getElem? hj)) with z | ⟨r, rfl⟩
              · exact absurd z hn
              simp only [mvRd] at hd'
              split at hd' <;> cases hd'
              rw [drop_get hj] at hRj
              obtain ⟨vs, hvs, gvs, dvs⟩ := hRj
              replace dvs : DpAll K Gj vs (.int (r + l) :: (vals l (cs.drop (j + 1)) ++ avals l (rs.drop (i + 1)))) := dvs
              cases dvs with
              | cons h1 ht =>
                refine g_tyL hvs ?_
                walk_at "sx"
                refine g_pop0 hvs ?_ ?_
                · rw [dpAll_len ht, List.length_append]
                  have b1 := vals_len l (cs := cs.drop (j + 1)) (List.all_eq_true.mpr fun d hd => List.all_eq_true.mp hcr d (List.mem_of_mem_drop hd))
                  have b2 := avals_len l (rs := rs.drop (i + 1)) fun d hd => hrow d (List.mem_of_mem_drop hd)
                  rw [List.length_drop] at b1 b2
                  omega
                · exact k3 _ Gj _ _ (Nx.set nj.gh gvs (by simp)) h1 ⟨by rw [take_get hgj, ← hacc2], _, upd_same, gvs, ht⟩
          · obtain ⟨hacc3, hRk⟩ := hjk
            rw [← allSome_len hcs', List.take_length] at hacc3
            rw [List.drop_length] at hRk
            subst hacc3
            walk_at "sx"
            refine g_tupOfM nk.gh hk dak fun p5 G5 H5 n5 d5 => ?_
            exact k1 _ G5 H5 _ (nk.trans n5.pure) d5 ⟨by rw [take_get hgi, ← hacc], hRk.go n5 (by simp)⟩
        · obtain ⟨hacc, hRe⟩ := hje
          have hl2 := allSome_len hrs2
          rw [← hl2, List.take_length] at hacc
          subst hacc
          walk_at "sx"
          refine g_tupOfM ne.gh he dae fun p6 G6 H6 n6 d6 => ?_
          walk_at "sx"
          refine g_tupD n6.gh (.cons (.str s) (.cons d6 .nil)) (by show 2 ≤ sizeLine; decide) fun p7 G7 H7 n7 d7 => ?_
          walk_at "sx"
          have hsh := shaped_view hs2 (by omega) (mvRows_ok hrs2 hrow)
          refine g_neD n7.gh (dp_mono ((((nf.gg.trans n9.gg).trans ne.gg).trans n6.gg).trans n7.gg) dt) d7 hsh hsh ?_
          rw [SeqAt.eqv_refl _ (shaped_lay hsh)]
          walk_at "sx"
          exact ⟨G7, _, _, _, _, _, _, _, _, _, _, _, _, _, _, _, _, _, rfl, n7.gh⟩
      · rw [hn] at hbad
        have hk : (!ys.isEmpty) = true := by
          cases ys with
          | nil => rw [List.eq_nil_of_length_eq_zero hyl.symm] at hbad; cases hbad
          | cons a b => rfl
        rw [hk]
        walk_at "sx"
        refine g_neD nf.gh (.str _) (.str _) (by decide +kernel) (by decide +kernel) ?_
        rw [SeqAt.eqv_refl _ (by decide +kernel)]
        walk_at "sx"
        exact ⟨Gf, _, _, _, _, _, _, _, _, _, _, _, _, _, _, _, _, _, rfl, nf.gh⟩
    clear htold nt drm dvm dm dv7 dr7 dd7 hb S
    rintro σ' Hu ⟨Gu, x0, x1, x3, x4, x5, x6, x7, x8, x9, x10, x11, x12, x13, x14, x15, x16, x17, rfl, eu⟩
    walk_at "sx"
    refine g_lstD (K := K) (ds := [.int 12, .int 13]) eu (by walk_at "da") (by show 2 ≤ sizeLine; decide) fun q3 G1 H1 n1 d1 => ?_
    walk_at "sx"
    refine g_walkL n1.gh d1 fun b hb S => ?_
    refine g_forS (K := K) (M := []) (S []) n1.gh (fun i σ G' H' => ∃ y, σ = [x0, x1, some (.str s), x3, x4, x5, x6, x7, x8, x9, y, x11, x12, x13, x14, x15, x16, x17]) ⟨_, rfl⟩ ?_ ?_
    · rintro i d w σ' G2 H2 G3 H3 hi n2 ⟨y, rfl⟩ n3 dw
      obtain ⟨k, hk, rfl⟩ : ∃ k : Nat, (k = 12 ∨ k = 13) ∧ d = .int (k : Int) := by
        have := List.mem_of_getElem? hi
        simp only [List.mem_cons, List.not_mem_nil, or_false] at this
        rcases this with h | h
        · exact ⟨12, .inl rfl, h⟩
        · exact ⟨13, .inr rfl, h⟩
      cases dp_int dw
      have hv1 : viewOk (.tuple [.str s, .tuple [.tuple (List.replicate k [.int 7]).flatten]]) = decide ((k : Int) = 12) := by
        rw [view_of hs2]
        rcases hk with rfl | rfl <;> decide +kernel
      have hv2 : viewOk (.tuple [.str s, .tuple (List.replicate k [.tuple [.int 7]]).flatten]) = decide ((k : Int) = 12) := by
        rw [view_of hs2]
        rcases hk with rfl | rfl <;> decide +kernel
      have hf1 : fit (.tuple [.str s, .tuple [.tuple (List.replicate k [.int 7]).flatten]]) = true := fit_pair hs2 (by rcases hk with rfl | rfl <;> decide +kernel)
      have hf2 : fit (.tuple [.str s, .tuple (List.replicate k [.tuple [.int 7]]).flatten]) = true := fit_pair hs2 (by rcases hk with rfl | rfl <;> decide +kernel)
      walk_at "sx"
      refine g_tupD (K := K) n3.gh (ds := [.int 7]) (.cons (.int 7) .nil) (by show 1 ≤ sizeLine; decide) fun p4 G4 H4 n4 dp4 => ?_
      walk_at "sx"
      refine g_repU (k := k) n4.gh dp4 (by simp) (by omega) (by show 1 ≤ 1000; decide) rfl fun v5 G5 H5 n5 dv5 => ?_
      walk_at "sx"
      refine g_tupD (K := K) n5.gh (.cons dv5 .nil) (by show 1 ≤ sizeLine; decide) fun p6 G6 H6 n6 dp6 => ?_
      walk_at "sx"
      refine g_tupD (K := K) n6.gh (.cons (.str s) (.cons dp6 .nil)) (by show 2 ≤ sizeLine; decide) fun p7 G7 H7 n7 dp7 => ?_
      walk_at "sx"
      refine ⟨G7, _, _, rfl, n7.gh, dp7, hf1, fun G8 H8 n8 => ?_⟩
      rw [hv1]
      walk_at "sx"
      refine g_ne rfl ?_
      walk_at "sx"
      refine g_same ?_
      walk_at "sx"
      refine g_tupD (K := K) n8.gh (ds := [.int 7]) (.cons (.int 7) .nil) (by show 1 ≤ sizeLine; decide) fun p9 G9 H9 n9 dp9 => ?_
      walk_at "sx"
      refine g_tupD (K := K) n9.gh (.cons dp9 .nil) (by show 1 ≤ sizeLine; decide) fun pa Ga Ha na dpa => ?_
      walk_at "sx"
      refine g_repU (k := k) na.gh dpa (by simp) (by omega) (by show 1 ≤ 1000; decide) rfl fun vb Gb Hb nb dvb => ?_
      walk_at "sx"
      refine g_tupD (K := K) nb.gh (.cons (.str s) (.cons dvb .nil)) (by show 2 ≤ sizeLine; decide) fun pc Gc Hc nc dpc => ?_
      walk_at "sx"
      refine ⟨Gc, _, _, rfl, nc.gh, dpc, hf2, fun Gd Hd nd => ?_⟩
      rw [hv2]
      walk_at "sx"
      refine g_ne rfl ?_
      walk_at "sx"
      refine g_same ?_
      walk_at "sx"
      exact ⟨Gd, ((((((((((n2.trans n3.pure).trans n4).trans n5).trans n6).trans n7).trans n8).trans n9).trans na).trans nb).trans nc).trans nd, _, rfl⟩
    rintro σ' G2 H2 n2 ⟨y, rfl⟩
    walk_at "sx"
    refine g_tupD (K := K) n2.gh (ds := []) .nil (Nat.zero_le _) fun a1 A1 B1 m1 f1 => ?_
    walk_at "sx"
    refine g_lstD (K := K) m1.gh (ds := []) .nil (Nat.zero_le _) fun a2 A2 B2 m2 f2 => ?_
    walk_at "sx"
    refine g_tupD (K := K) m2.gh (ds := [.str "a", .int 1]) (by walk_at "da") (by show 2 ≤ sizeLine; decide) fun a3 A3 B3 m3 f3 => ?_
    walk_at "sx"
    refine g_tupD (K := K) m3.gh (ds := [.int 1]) (by walk_at "da") (by show 1 ≤ sizeLine; decide) fun a4 A4 B4 m4 f4 => ?_
    walk_at "sx"
    refine g_tupD (K := K) m4.gh (ds := [.tuple [.int 1], .int 2]) (by walk_at "da") (by show 2 ≤ sizeLine; decide) fun a5 A5 B5 m5 f5 => ?_
    walk_at "sx"
    refine g_tupD (K := K) m5.gh (ds := [.str "a", .tuple [.tuple [.int 1], .int 2]]) (by walk_at "da") (by show 2 ≤ sizeLine; decide) fun a6 A6 B6 m6 f6 => ?_
    walk_at "sx"
    have g36 := (m4.gg.trans m5.gg).trans m6.gg
    refine g_lstD (K := K) m6.gh (ds := [.none, .int 5, .str "a", .tuple [], .list [], .tuple [.str "a", .int 1], .tuple [.str "a", .tuple [.tuple [.int 1], .int 2]], .bool true])
      (.cons .non (.cons (.int _) (.cons (.str _) (.cons (dp_mono ((m2.gg.trans m3.gg).trans g36) f1) (.cons (dp_mono (m3.gg.trans g36) f2) (.cons (dp_mono g36 f3) (.cons f6 (.cons (.bl _) .nil))))))))
      (by show 8 ≤ sizeLine; decide) fun a7 A7 B7 m7 f7 => ?_
    walk_at "sx"
    refine g_walkL m7.gh f7 fun b hb S => ?_
    refine g_forS (K := K) (M := []) (S []) m7.gh (fun i σ G' H' => ∃ z, σ = [x0, x1, some (.str s), x3, x4, x5, x6, x7, x8, x9, y, z, x12, x13, x14, x15, x16, x17]) ⟨_, rfl⟩ ?_ ?_
    · rintro i d w σ' G3 H3 G4 H4 hi n3 ⟨z, rfl⟩ n4 dw
      have hd : viewOk d = false ∧ fit d = true := by
        have := List.mem_of_getElem? hi
        simp only [List.mem_cons, List.not_mem_nil, or_false] at this
        rcases this with h | h | h | h | h | h | h | h <;> subst h <;> exact ⟨by decide +kernel, by decide +kernel⟩
      walk_at "sx"
      refine ⟨G4, _, _, rfl, n4.gh, dw, hd.2, fun G5 H5 n5 => ?_⟩
      rw [hd.1]
      walk_at "sx"
      refine g_same ?_
      walk_at "sx"
      exact ⟨G5, (n3.trans n4.pure).trans n5, _, rfl⟩
    rintro σ' G3 H3 n3 ⟨z, rfl⟩
    walk_at "sx"
    refine g_tupD (K := K) n3.gh (ds := [.int 1]) (by walk_at "da") (by show 1 ≤ sizeLine; decide) fun a8 A8 B8 m8 f8 => ?_
    walk_at "sx"
    refine g_lstD (K := K) m8.gh (ds := [.int (-1), .int 1000, .bool true, .str "1", .tuple [.int 1]]) (by walk_at "da") (by show 5 ≤ sizeLine; decide) fun a9 A9 B9 m9 f9 => ?_
    walk_at "sx"
    refine g_walkL m9.gh f9 fun b hb S => ?_
    refine g_forS (K := K) (M := []) (S []) m9.gh (fun i σ G' H' => ∃ z, σ = [x0, x1, some (.str s), x3, x4, x5, x6, x7, x8, x9, y, z, x12, x13, x14, x15, x16, x17]) ⟨_, rfl⟩ ?_ ?_
    · rintro i d w σ' G4 H4 G5 H5 hi n4 ⟨z, rfl⟩ n5 dw
      have hd : isRd d = false := by
        have := List.mem_of_getElem? hi
        simp only [List.mem_cons, List.not_mem_nil, or_false] at this
        rcases this with h | h | h | h | h <;> subst h <;> rfl
      walk_at "sx"
      refine ⟨G5, _, _, rfl, n5.gh, dw, ?_⟩
      rw [hd]
      walk_at "sx"
      refine g_same ?_
      walk_at "sx"
      exact ⟨G5, n4.trans n5.pure, _, rfl⟩
    rintro σ' G4 H4 n4 ⟨z, rfl⟩
    walk_at "sx"
    refine ⟨G4, _, _, rfl, n4.gh, .non, ?_⟩
    walk_at "sx"
    refine g_dec (fun _ => ?_) fun h => absurd rfl h
    walk_at "sx"
    refine ⟨G4, _, _, rfl, n4.gh, .int 999, ?_⟩
    walk_at "sx"
    refine g_dec (fun _ => ?_) fun h => absurd (by decide) h
    walk_at "sx"
    refine ⟨G4, _, _, rfl, n4.gh, .int 0, ?_⟩
    walk_at "sx"
    exact q_bl (q _) (by decide)
end
end A
set_option maxHeartbeats 0
namespace A
open PySem PySem.Spec PyProof.Rows L2 Y
abbrev R : PySem.W.OpenRow := PySem.W.OpenLaw.row PySem.Challenge.rw_laidviews_k00_views
abbrev hk : PySem.W.Hook := He.hookX 4 fa fn [] [] bx
def ob (s : PySem.W.SharedT) : He.AlX := He.obsX 4 fa fn [] [] bx (HandSHeadRun.getT s)
theorem ob_eq (s : PySem.W.SharedT) : ob s = hk.obs s.abs := He.obsX_eq (HandSHeadRun.getT_eq s)
def loose : List Str := (["Refused", "Clashing", "Misused", "is_whole", "is_within", "is_tuple_of", "LETTERS", "DIGITS", "LONGEST_NAME", "GREATEST_READING", "MOST_ROWS", "MOST_COLUMNS", "is_name", "is_reading", "_is_row"] : List Str) ++ (["_is_rows", "is_view", "size", "readings", "_moved_reading", "moved_light", "_law_wide", "_law_take", "_law_pool", "_law_name", "_law_names", "_law_reading", "_law_rows", "_law_spoilt", "_law_lighter"] : List Str)
theorem run (w : World) : HandSHeadRun.RunEq R (PySem.W.view R.prog [34]) hk ob 6000 loose w := by
  intro os
  kernel_rfl
theorem tx {K : PySem.W.Frag} {w : World} {h : Heap} {mg : Str → Option Value} (X : K.In h) (G : h.Ns mainGlobals mg) (c : He.SaysX fa fn [] [] bx w h K) : Tx fa fn bx K mg := ⟨congrArg Prod.fst c.t, c.more, h, X, G⟩
theorem bindsLaw {K : PySem.W.Frag} {mg : Str → Option Value} (T : Tx fa fn bx K mg) (s : Shared) (v : Value) : BindsTo s (fdOf K (He.ga K "law")) ⟨[v], []⟩ [("script", v)] :=
  FunD.bindsA (ps := ["script"]) (F_law T) (fun _ _ _ _ _ _ us hl => match us, hl with | [_], _ => rfl) s [v] rfl
end A
open PySem PySem.W PySem.Calls PyProof.Rows
theorem PySem.Challenge.cw_laidviews_k00_views_holds : PySem.Challenge.rw_laidviews_k00_views.Holds := by
  w_on; o_law
  refine HandSHeadRun.head_any (r := A.R) (q := view A.R.prog [34]) (H := A.hk) (ob := A.ob) (M := 6000) (loose := A.loose) (d := HandSHeadRun.topDef A.R.prog 34) (kwd := []) A.ob_eq
    (by kernel_rfl) (fun s => by kernel_rfl) A.run (by kernel_rfl) (by kernel_rfl) (by kernel_rfl) (by rfl) (by first | assumption | decide +kernel) (by decide +kernel) ⟨rfl, rfl, rfl, rfl, rfl, by decide +kernel⟩ ?hw ?hc
  case hw => w_witness2
  case hc =>
    refine L2.walk_ofE (l := PySem.Challenge.rw_laidviews_k00_views) (n := 63) (k := 7) (x := "script") (CX := L2.CX0) rfl (by decide) (by kernel_rfl) ⟨rfl, by decide, by decide⟩ ?F (fun _ _ _ _ z => z)
    intro w mg f h Z G hmg0
    obtain ⟨K, KX, c⟩ := Z
    have T := A.tx KX G c
    have hmg : mg ("law" : PySem.Str) = some (.ref f) := by
      have e : (HandSHeadRun.topDef A.R.prog 34).name = ("law" : PySem.Str) := by kernel_rfl
      rw [← e]
      exact hmg0
    have e := hmg.symm.trans (A.cal_law T).g
    cases e
    exact ⟨K, _, A.sp_law K, KX, A.bindsLaw T, fun H a ns hl _ hS => ⟨H, a, ns, rfl, Y.Ex.refl H, hS,  fun _ => rfl⟩, fun base _ _ => A.ok_law T⟩

