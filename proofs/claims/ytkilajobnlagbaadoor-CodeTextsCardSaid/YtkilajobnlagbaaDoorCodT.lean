/-
  What came in: worlds and bytes; what the listed variables hold.
-/
import Derived.Test.YtkilajobnlagbaaDoorCards
import Derived.Test.YtkilajobnlagbaaDoorTie
import Derived.Test.YtkilajobnlagbaaDoorFlat
import Derived.Test.YtkilajobnlagbaaDoorCodR
import Derived.Test.YtkilajobnlagbaaDoorCodQ
import Derived.SizedLaws
import Derived.Deep.Matrix
import Derived.Deep.DeepHandedRow
import Derived.Lib.LaidTab
import Derived.Lib.LaidU8
import Derived.LaidMore
import Derived.Lay
import Derived.SevenTiedAt
namespace Go.Proofs.YtkilajobnlagbaaDoor
open Go.ChangeShapes Go.WideShapes Go.ChangeAt Go.RowKit Go.Deep
set_option linter.unusedVariables false

theorem own : ownKnob Tryd.prog.godebug = none := by kernel_rfl
theorem laidOut : laidOutB Tryd.prog = true := by kernel_rfl

section
variable {H : Type} {enc : TypeId × Value → H} {P : Program} {w : World} {base : Nat} {spare : Nat → Bool} {held : Bool}
end

/-- All the variables that the rows list. -/
def LL : List (String × DataW Unit) := Rows.codeAsksRow.laid
theorem laid_plain {W : World} (h : laidMetH Tryd.prog LL W) : laidMet Tryd.prog LL W := by
  rw [MakeChecks.laidMetH_plain _ _ _ (by kernel_rfl)] at h
  exact h
theorem gPow : Tryd.prog.globalNamed "internal/strconv.uint64pow10" = some 1 := by kernel_rfl
theorem tPow : (Tryd.prog.globals[1]?).map (·.type) = some 149 := by kernel_rfl
theorem ptab_of {W : World} (h : laidMetH Tryd.prog LL W) : PTab W := by
  have hr := Lib.laidMet.reads (laid_plain h) (n := "internal/strconv.uint64pow10") (d := Rows.laid_internal_strconv_uint64pow10) (by unfold LL; exact .tail _ (.tail _ (.head _)))
  obtain ⟨g', t', cs, fuel, p, hg', ht', hvar, hd⟩ := hr
  obtain rfl := Option.some.inj (gPow.symm.trans hg')
  obtain rfl := Option.some.inj (tPow.symm.trans ht')
  have e : (Rows.laid_internal_strconv_uint64pow10 : DataW Unit) = Lib.tabData .u64 Lib.pow10Tab := by kernel_rfl
  rw [e] at hd
  unfold PTab Lib.TabIs
  rw [hvar, ← Lib.cells_of_tab Tryd.underlying149 Tryd.underlying25 (by kernel_rfl) (by kernel_rfl) hd]
theorem gKinds : Tryd.prog.globalNamed "tollhouse/code.kinds" = some 0 := by kernel_rfl
theorem tKinds : (Tryd.prog.globals[0]?).map (·.type) = some 79 := by kernel_rfl
def kindD (op : Nat) : DataW Unit := .agg [.lit (.string (nmB op)), .lit (.int .i64 (fol op : Int)), .lit (.int .i64 (cst op : Int)), .lit (.int .i64 (tks op : Int))]
theorem kinds_datum : (Rows.laid_tollhouse_code_kinds : DataW Unit) = .agg ((List.range 18).map kindD) := by kernel_rfl
def kFS : Array Field := (#[⟨"name", 9, 0, false, "", "tollhouse/code", 0⟩, ⟨"follows", 3, 1, false, "", "tollhouse/code", 16⟩, ⟨"costs", 3, 2, false, "", "tollhouse/code", 24⟩, ⟨"takes", 3, 3, false, "", "tollhouse/code", 32⟩] : Array Field)
theorem one_cell {l : List Value} {k c : Nat} {v : Value} (h : (l.drop k).take c = [v]) : l[k]? = some v := by
  have := congrArg (·[0]?) h
  simp only [List.getElem?_take, List.getElem?_drop, Nat.add_zero, List.getElem?_cons_zero] at this
  split at this
  · exact this
  · cases this
set_option maxRecDepth 100000 in
theorem ktab_of {W : World} (h : laidMetH Tryd.prog LL W) : KTab W := by
  have hr := Lib.laidMet.reads (laid_plain h) (n := "tollhouse/code.kinds") (d := Rows.laid_tollhouse_code_kinds) (by unfold LL; exact .tail _ (.tail _ (.tail _ (.tail _ (.tail _ (.tail _ (.head _)))))))
  obtain ⟨g', t', cs, fuel, p, hg', ht', hvar, hd⟩ := hr
  obtain rfl := Option.some.inj (gKinds.symm.trans hg')
  obtain rfl := Option.some.inj (tKinds.symm.trans ht')
  rw [kinds_datum] at hd
  obtain ⟨xs, m, _, ex, _, hxl, hel⟩ := DataW.trod_array Tryd.underlying79 hd
  have ex1 : (List.range 18).map kindD = xs.map (·.1) := DataW.agg.inj (Prod.mk.inj ex).1
  have c56 : Tryd.prog.cellsOf 56 = 4 := by kernel_rfl
  intro op hop j v hv
  have h1 := hel op hop
  rw [c56, List.getElem?_eq_getElem (by omega)] at h1
  have hD : kindD op = (xs[op]'(by omega)).1 := by
    have := congrArg (·[op]?) ex1
    simpa [hop, show op < xs.length by omega] using this
  obtain ⟨ys, m2, _, ey, _, hyl, hfs⟩ := DataW.trod_struct Tryd.underlying56 h1
  rw [ey] at hD
  have hD1 : [DataW.lit (.string (nmB op)), .lit (.int .i64 (fol op : Int)), .lit (.int .i64 (cst op : Int)), .lit (.int .i64 (tks op : Int))] = ys.map (·.1) := DataW.agg.inj hD
  have c9 : Tryd.prog.cellsOf 9 = 1 := by kernel_rfl
  have c3 : Tryd.prog.cellsOf 3 = 1 := by kernel_rfl
  have hW : ∀ k, W.cell? ⟨0, k, none⟩ = cs.toList[k]? := fun k => by rw [World.var?_cell gKinds hvar k]; simp
  have hyl' : ys.length = 4 := by rw [hyl]; kernel_rfl
  have hj4 : j < 4 := by
    have := (List.getElem?_eq_some_iff.1 hv).1
    simpa [kcell] using this
  have hcell : ∀ (j : Nat) (w : Value), ((cs.toList.drop (op * 4)).take 4)[j]? = some w → W.cell? ⟨0, op * 4 + j, none⟩ = some w := fun j w hw => by
    rw [hW]
    rw [List.getElem?_take] at hw
    split at hw
    · rwa [List.getElem?_drop] at hw
    · cases hw
  have hy : ∀ i (hi : i < 4), ys[i]? = some (ys[i]'(by omega)) := fun i hi => List.getElem?_eq_getElem (by omega)
  have hint : ∀ i (f : Field), kFS[i]? = some f → f.type = 3 → i < 4 → ∀ z : Int, (ys.map (·.1))[i]? = some (.lit (.int .i64 z)) → ((cs.toList.drop (op * 4)).take 4)[f.offset]? = some (.int .i64 z) := by
    intro i f hf ht hi z hz
    have h2 := hfs i f hf
    rw [ht, c3, hy i hi] at h2
    obtain ⟨z', e1, e2, _⟩ := DataW.trod_int Tryd.underlying3 h2
    rw [List.getElem?_map, hy i hi, e2] at hz
    simp at hz
    subst hz
    exact one_cell e1
  have hstr : ((cs.toList.drop (op * 4)).take 4)[0]? = some (.string (nm op)) := by
    have h2 := hfs 0 ⟨"name", 9, 0, false, "", "tollhouse/code", 0⟩ rfl
    simp only [c9, hy 0 (by decide)] at h2
    obtain ⟨s, e1, e2, _⟩ := DataW.trod_string Tryd.underlying9 h2
    have hz : (ys.map (·.1))[0]? = some (.lit (.string (nmB op))) := by rw [← hD1]; rfl
    rw [List.getElem?_map, hy 0 (by decide), e2] at hz
    simp at hz
    have hs : s = nm op := by
      unfold nm; rw [← hz]
    rw [hs] at e1
    exact one_cell e1
  match j, hj4, hv with
  | 0, _, hv => rw [← hv]; exact hcell 0 _ hstr
  | 1, _, hv => rw [← hv]; exact hcell 1 _ (hint 1 _ rfl rfl (by decide) _ (by rw [← hD1]; rfl))
  | 2, _, hv => rw [← hv]; exact hcell 2 _ (hint 2 _ rfl rfl (by decide) _ (by rw [← hD1]; rfl))
  | 3, _, hv => rw [← hv]; exact hcell 3 _ (hint 3 _ rfl rfl (by decide) _ (by rw [← hD1]; rfl))
theorem mcell_of {W : World} (h : W.ShapedOpen Tryd.prog) : MCell W :=
  Go.Proofs.cell_of_shapedOpen_int (zero := #[.int .i64 0]) (t := 3) h (of_decide_eq_true (by kernel_rfl)) (by kernel_rfl) rfl (by kernel_rfl) (by kernel_rfl) Tryd.underlying3

section
variable {H : Type} {enc : TypeId × Value → H} {W : World} {base : Nat} {spare : Nat → Bool} {held : Bool}
/-- Bytes that came in. -/
theorem openPg {a : Option Addr} {len cap : Nat} {d : DataW H} {p : List MemPlace} (h : DataW.Trod enc Tryd.prog W base spare held 22 (.slice a len cap) d p) :
    ∃ l, Pg W a len cap l := by
  have f0 := open_flat 1 1 [(0, 5)] Tryd.underlying22 (by kernel_rfl) (by decide) (by kernel_rfl) ⟨5, .u8, by simp, Tryd.underlying5⟩ h
  have hv : (cap ≤ maxLen ∧ len ≤ cap) ∧ (a = none → cap = 0) := by
    obtain ⟨fuel, hf⟩ := h
    rcases open_slice Tryd.underlying22 hf with ⟨hcs, _⟩ | ⟨x, l, cp, m, fu, D, Pl, hcs, _, hl, hm, _⟩
    · simp [Value.cells] at hcs
      obtain ⟨rfl, rfl, rfl⟩ := hcs
      exact ⟨⟨by unfold maxLen; omega, Nat.le_refl _⟩, fun _ => rfl⟩
    · simp [Value.cells] at hcs
      obtain ⟨rfl, rfl, rfl⟩ := hcs
      exact ⟨⟨hm, hl⟩, fun h => by cases h⟩
  have each : ∀ i, ∃ q : Int, 0 ≤ q ∧ q < 256 ∧ (i < len → ∃ b off, a = some ⟨b, off, none⟩ ∧ b < W.heap.size ∧ W.cell? ⟨b, off + i, none⟩ = some (.int .u8 q)) := by
    intro i
    by_cases hi : i < len
    · obtain ⟨b, off, ha, hb, cs, hc, hp⟩ := f0.row hi
      obtain ⟨q, hq, hw⟩ := (hp 0 5 (by simp)).int Tryd.underlying5
      simp [Lit.wf, IntKind.min, IntKind.max, IntKind.signed, IntKind.bits] at hw
      exact ⟨q, by omega, by omega, fun _ => ⟨b, off, ha, hb, by have := hc 0 _ hq; rwa [Nat.mul_one, Nat.add_zero] at this⟩⟩
    · exact ⟨0, by decide, by decide, fun h => absurd h hi⟩
  obtain ⟨f, hf⟩ := Classical.axiomOfChoice each
  refine ⟨(List.range len).map f, by simp, hv.1.2, hv.1.1, fun x hx => ?_, ?_⟩
  · obtain ⟨i, _, rfl⟩ := List.mem_map.1 hx
    exact ⟨(hf i).1, (hf i).2.1⟩
  · refine ⟨hv.2, ?_⟩
    · rcases Nat.eq_zero_or_pos len with h0 | h0
      · left; subst h0; rfl
      · obtain ⟨b, off, ha, hb, _⟩ := (hf 0).2.2 h0
        refine .inr ⟨b, off, ha, hb, fun i hi => ?_⟩
        have hi' : i < len := by simpa using hi
        obtain ⟨b', off', ha', _, h1⟩ := (hf i).2.2 hi'
        rw [ha] at ha'
        injection ha' with ha'
        injection ha' with e1 e2
        subst e1 e2
        simp only [List.getD, List.getElem?_map, List.getElem?_range hi', Option.map_some, Option.getD_some]
        exact h1
end

/-- A world in which the listed variables lie. -/
noncomputable def laidW (os : Os) : World := World.laidAll Tryd.prog os LL
set_option maxRecDepth 100000 in
theorem laidW_met (os : Os) (args : Array Value) : laidMetH Tryd.prog LL ((laidW os).forCall (fun _ _ => 0) ⟨#[], args, []⟩).memory := by
  rw [MakeChecks.laidMetH_plain _ _ _ (by kernel_rfl)]
  exact laidMet_laidAll _ (by kernel_rfl) (by kernel_rfl)
end Go.Proofs.YtkilajobnlagbaaDoor
