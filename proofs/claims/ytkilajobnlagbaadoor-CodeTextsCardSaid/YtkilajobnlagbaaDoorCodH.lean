/-
  code.Run: whatever it is given.
-/
import Derived.Test.YtkilajobnlagbaaDoorCodG
namespace Go.Proofs.YtkilajobnlagbaaDoor
open Go.RowKit
set_option linter.unusedVariables false

/-- Run, whatever it is given. -/
theorem run_any (A : Option Addr) (n c : Nat) (p : List Int) (fa : Option Addr) (fn fc : Nat) (pa : Option Addr) (pn pc : Nat) (ht : Int) (fs : List Int) (ps : List Bool) (gas : Int) (w : World) (HP : Hid (Pg w A n c p)) (HT : Hid (KTab w)) (HF : Hid (FRow w fa fn fs)) (HB : Hid (BRow w pa pn ps)) (hh : Word ht) (hfn : fn ≤ 1000000) (hpn : pn ≤ 1000000) :
    Calls Tryd.prog 11 #[.slice A n c, .agg #[.slice fa fn fc, .slice pa pn pc, .int .u64 ht], .int .i64 gas] w fun e w' => e = .returned (retV (runV p fs ps ht gas)) ∧ Below w.heap.size w w' := by
  have hl := HP.out.len
  by_cases h : 256 < n ∨ gas < 0 ∨ 4096 < gas
  · have := run_bad A n c p fa fn fc pa pn pc ht fs ps gas w HP HT HF HB hh hfn hpn h
    unfold runV
    rw [if_pos (by rw [hl]; exact h)]
    exact this
  · obtain ⟨G, rfl⟩ : ∃ G : Nat, gas = (G : Int) := ⟨gas.toNat, by omega⟩
    have := run_good A n c p fa fn fc pa pn pc ht fs ps G w HP HT HF HB hh hfn hpn (by omega) (by omega) _ (Lib.hid rfl)
    unfold runV
    rw [if_neg (by rw [hl]; exact h), Int.toNat_natCast]
    exact this
end Go.Proofs.YtkilajobnlagbaaDoor
