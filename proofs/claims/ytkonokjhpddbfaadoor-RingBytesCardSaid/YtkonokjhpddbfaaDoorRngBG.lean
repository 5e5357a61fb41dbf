/-
  The document's In of any kind, by what is left of it: Raw (98), Num (85), Many (86).
-/
import Derived.Test.YtkonokjhpddbfaaDoorRngBF
namespace Go.Proofs.YtkonokjhpddbfaaDoor
open Go.RowKit
set_option linter.unusedVariables false

/-- The document's In: what is left of it, and what is wrong. -/
def RefR (w : World) (g : Nat) (A : Option Addr) (c : Nat) (l r : List Nat) (e : Nat) : Prop := ∃ at_, RefG w g A c l at_ e ∧ r = (if e = 0 then l.drop at_ else [])
theorem RefR.below {w w' : World} {g : Nat} {A : Option Addr} {c : Nat} {l r : List Nat} {e : Nat} (h : RefR w g A c l r e) (hb : Below w.heap.size w w') : RefR w' g A c l r e := by
  obtain ⟨a, h1, h2⟩ := h
  exact ⟨a, h1.below hb, h2⟩
theorem RefR.far {w w' : World} {g n : Nat} {A : Option Addr} {c : Nat} {l r : List Nat} {e : Nat} (h : RefR w g A c l r e) (hg : w.grownBy w' (some n)) (hn : g < n) : RefR w' g A c l r e := by
  obtain ⟨a, h1, h2⟩ := h
  exact ⟨a, h1.far hg hn, h2⟩
theorem RefR.lt {w : World} {g : Nat} {A : Option Addr} {c : Nat} {l r : List Nat} {e : Nat} (h : RefR w g A c l r e) : g < w.heap.size := by
  obtain ⟨a, h1, h2⟩ := h
  exact h1.blk.lt
theorem RefR.small {w : World} {g : Nat} {A : Option Addr} {c : Nat} {l r : List Nat} {e : Nat} (h : RefR w g A c l r e) : ∀ x ∈ r, x < 256 := by
  obtain ⟨a, h1, h2⟩ := h
  intro x hx
  rw [h2] at hx
  split at hx
  · exact h1.src.lt x (List.mem_of_mem_drop hx)
  · cases hx
theorem rawR_any (n : Nat) (hn0 : 0 < n) (hn32 : n ≤ 32) (g : Nat) (A : Option Addr) (c : Nat) (l r : List Nat) (e : Nat) (w : World) (HR : Hid (RefR w g A c l r e)) (hl : l.length ≤ 5000) :
    Calls Tryd.prog 98 #[.pointer (some ⟨g, 0, none⟩), .int .i64 (n : Int)] w fun x w' => ∃ A' k c', x = .returned (.slice A' k c') ∧ k = (if n ≤ r.length then n else 0) ∧ (∀ b, b < w.heap.size → Src w' b A' c' (if n ≤ r.length then r.take n else [])) ∧ RefR w' g A c l (Oct.aftL r n) (Oct.aftE r e n) ∧ w.grownBy w' (some g) := by
  obtain ⟨a, h1, h2⟩ := HR.out
  refine (rawG_any n hn0 hn32 g A c l a e w (Lib.hid h1) hl).mono ?_
  rintro x w' ⟨⟨A', c', rfl, hs⟩, hg, hw⟩
  have hp := h1.ple
  have hc : (e = 0 ∧ a + n ≤ l.length) ↔ n ≤ r.length := by
    rw [h2]
    by_cases he : e = 0
    · rw [if_pos he, List.length_drop]
      constructor
      · intro h; omega
      · intro h; exact ⟨he, by omega⟩
    · rw [if_neg he]
      constructor
      · intro h; exact absurd h.1 he
      · intro h; simp at h; omega
  by_cases hn : n ≤ r.length
  · have hk := hc.2 hn
    rw [if_pos hk, if_neg (fun h => h hk.1), if_pos hk.2] at hg
    have hr : r = l.drop a := by rw [h2, if_pos hk.1]
    refine ⟨A', _, c', rfl, by rw [if_pos hk, if_pos hn], fun b hb => by rw [if_pos hn, hr]; exact hs hk b hb, ⟨a + n, ?_, ?_⟩, hw⟩
    · have e2 : Oct.aftE r e n = 0 := by unfold Oct.aftE; rw [if_neg (fun h => h hk.1), if_pos hn]
      rw [e2]
      exact hg
    · have e2 : Oct.aftE r e n = 0 := by unfold Oct.aftE; rw [if_neg (fun h => h hk.1), if_pos hn]
      rw [e2, if_pos rfl]
      unfold Oct.aftL
      rw [if_pos hn, hr, List.drop_drop]
  · have hk : ¬ (e = 0 ∧ a + n ≤ l.length) := fun h => hn (hc.1 h)
    rw [if_neg hk] at hg
    have e2 : Oct.aftE r e n = (if e ≠ 0 then e else if a + n ≤ l.length then 0 else 9) := by
      unfold Oct.aftE
      by_cases he : e = 0
      · rw [if_neg (fun h => h he), if_neg hn, if_neg (fun h => h he), if_neg (fun h => hk ⟨he, h⟩)]
      · rw [if_pos he, if_pos he]
    have e3 : (if e ≠ 0 then e else if a + n ≤ l.length then 0 else 9) ≠ 0 := by
      by_cases he : e = 0
      · rw [if_neg (fun h => h he), if_neg (fun h => hk ⟨he, h⟩)]; omega
      · rw [if_pos he]; exact he
    refine ⟨A', _, c', rfl, by rw [if_neg hk, if_neg hn], fun b hb => by rw [if_neg hn]; exact ⟨Nat.zero_le _, .inl rfl, fun x hx => by cases hx⟩, ⟨a, ?_, ?_⟩, hw⟩
    · rw [e2]; exact hg
    · rw [e2, if_neg e3]
      unfold Oct.aftL
      rw [if_neg hn]

set_option maxRecDepth 100000 in
set_option maxHeartbeats 1000000 in
theorem refnum_R (n : Nat) (hn0 : 0 < n) (hn4 : n ≤ 4) (g : Nat) (A : Option Addr) (c : Nat) (l r : List Nat) (e : Nat) (w : World) (HR : Hid (RefR w g A c l r e)) (hl : l.length ≤ 5000) :
    Calls Tryd.prog 85 #[.pointer (some ⟨g, 0, none⟩), .int .i64 (n : Int)] w fun x w' => x = .returned (.int .u64 ((Oct.numG r n : Nat) : Int)) ∧ RefR w' g A c l (Oct.aftL r n) (Oct.aftE r e n) ∧ w.grownBy w' (some g) := by
  have hgw := HR.out.lt
  have HLT := Lib.hid HR.out.small
  go_enter Tryd.func85, Tryd.ntmps85
  go_wp2_with fail
  refine (rawR_any n hn0 (by omega) g A c l r e w HR hl).mono ?_
  rintro x w1 ⟨A1, k1, c1, rfl, hk, hs, hr, hg⟩
  have HR1 := Lib.hid hr
  have HG1 := Lib.hid hg
  obtain ⟨p, hp⟩ : ∃ p, (if n ≤ r.length then r.take n else []) = p := ⟨_, rfl⟩
  have hkp : k1 = p.length := by
    rw [hk, ← hp]
    split
    · rw [List.length_take]; omega
    · rfl
  have HPL : Hid (∀ x ∈ p, x < 256) := Lib.hid (by
    intro x hx
    rw [← hp] at hx
    split at hx
    · exact HLT.out x (List.mem_of_mem_take hx)
    · cases hx)
  have HV : Hid (Oct.numG r n = p.foldl (fun n b => n * 256 + b) 0) := Lib.hid (by
    unfold Oct.numG
    rw [← hp]
    split <;> rfl)
  have HS1 := Lib.hid (hs g hgw)
  rw [hp] at HS1
  have hk4 : k1 ≤ 4 := by rw [hk]; split <;> omega
  have hk4i : (k1 : Int) ≤ 4 := by omega
  have HKP := Lib.hid hkp
  clear hr hg hs hk hp hkp
  go_wp2_with fail
  go_loopw [7, 6] (fun i v wr => ∃ (j y : Nat), j ≤ k1 ∧ i = .int .i64 j ∧ v = .int .u64 (y : Int) ∧ Hid (y = (p.take j).foldl (fun n b => n * 256 + b) 0) ∧ Hid (wr = w1)) (fun i _ _ => k1 - (intOf i).toNat)
  case atStart => exact ⟨0, 0, Nat.zero_le _, rfl, rfl, Lib.hid rfl, Lib.hid rfl⟩
  case round =>
    obtain ⟨j, y, hj, rfl, rfl, HY, HW⟩ := hrel
    rw [HW.out]
    by_cases hlt : j < k1
    · have j1 : (j : Int) < (k1 : Int) := by omega
      have hjp : j < p.length := by rw [← HKP.out]; exact hlt
      obtain ⟨gb, off, hA, hgb, hgn, hcell⟩ := HS1.out.at_.resolve_left (by intro h0; rw [h0] at hjp; simp at hjp)
      have hb := hcell j hjp
      obtain ⟨b, hbv⟩ : ∃ b, p.getD j 0 = b := ⟨_, rfl⟩
      rw [hbv] at hb
      have hpj : p[j] = b := by rw [← hbv]; simp [List.getD, hjp]
      have hb256 : b < 256 := by rw [← hpj]; exact HPL.out _ (List.getElem_mem hjp)
      have hbi : (b : Int) < 256 := by omega
      have hy0 := Oct.fold_lt (p.take j) 0 (fun x hx => HPL.out x (List.mem_of_mem_take hx))
      have hlj : (p.take j).length = j := by rw [List.length_take]; omega
      have hpow : 256 ^ j ≤ 256 ^ 3 := Nat.pow_le_pow_right (by omega) (by omega)
      rw [hlj, ← HY.out] at hy0
      have hyi : (y : Int) ≤ 16777216 := by omega
      have HYN : Hid (y * 256 + b = (p.take (j + 1)).foldl (fun n b => n * 256 + b) 0) := Lib.hid (by
        rw [List.take_succ_eq_append_getElem hjp, List.foldl_append, ← HY.out, hpj]
        rfl)
      have HA := Lib.hid hA
      rw [hA]
      clear hcell hbv hpj hy0 hlj hpow hb256 hA
      go_wp2
      go_roundw
      case rel => exact ⟨j + 1, y * 256 + b, by omega, by go_num, by go_num, HYN, by first | exact Lib.hid trivial | exact Lib.hid rfl⟩
      case measure => simp [intOf]; omega
    · obtain rfl : j = k1 := by omega
      go_wp2
      go_ret
      exact ⟨by rw [HV.out, HY.out, HKP.out, List.take_length]; rfl, HR1.out, HG1.out⟩

set_option maxRecDepth 100000 in
theorem refmany_R (M : Nat) (hM : M ≤ 255) (g : Nat) (A : Option Addr) (c : Nat) (l r : List Nat) (e : Nat) (w : World) (HR : Hid (RefR w g A c l r e)) (hl : l.length ≤ 5000) :
    Calls Tryd.prog 86 #[.pointer (some ⟨g, 0, none⟩), .int .i64 (M : Int)] w fun x w' => x = .returned (.int .i64 ((Oct.manyV r M : Nat) : Int)) ∧ RefR w' g A c l (Oct.manyL r M) (Oct.manyE r e M) ∧ w.grownBy w' (some g) := by
  have hlt : ((Oct.numG r 1 : Nat) : Int) ≤ 255 := by have := Oct.numG_lt r 1 HR.out.small; omega
  have hM2 : (M : Int) ≤ 255 := by omega
  go_enter Tryd.func86, Tryd.ntmps86
  go_wp2_with fail
  refine (refnum_R 1 (by omega) (by omega) g A c l r e w HR hl).mono ?_
  rintro x w1 ⟨rfl, hi, hg⟩
  by_cases hn : Oct.numG r 1 ≤ M
  · have hn1 : ((Oct.numG r 1 : Nat) : Int) ≤ (M : Int) := by omega
    have HE : Hid (RefR w1 g A c l (Oct.manyL r M) (Oct.manyE r e M)) := Lib.hid (by
      unfold Oct.manyL Oct.manyE
      rw [if_pos hn, if_pos hn]
      exact hi)
    have HV : Hid (Oct.manyV r M = Oct.numG r 1) := Lib.hid (by unfold Oct.manyV; rw [if_pos hn])
    have HG1 := Lib.hid hg
    clear hi hg
    go_wp2
    go_ret
    exact ⟨by rw [HV.out]; rfl, HE.out, HG1.out⟩
  · have hn1 : (M : Int) < ((Oct.numG r 1 : Nat) : Int) := by omega
    have hl1 : 1 ≤ r.length := by
      rcases Nat.lt_or_ge r.length 1 with h | h
      · exfalso
        apply hn
        unfold Oct.numG
        rw [if_neg (by omega)]
        omega
      · exact h
    have he : e = 0 := by
      rcases Nat.eq_zero_or_pos e with h | h
      · exact h
      · exfalso
        obtain ⟨a, h1, h2⟩ := HR.out
        rw [if_neg (by omega)] at h2
        rw [h2] at hl1
        simp at hl1
    have e2 : Oct.aftE r e 1 = 0 := by simp [Oct.aftE, he, hl1]
    rw [e2] at hi
    obtain ⟨a, h1, h2⟩ := hi
    have c2 := h1.blk.cell 2
    have f2 := h1.blk.frozen 2
    have hO : w1.grownBy (w1.setCell ⟨g, 2, none⟩ (.int .i64 8)) (some g) := only_setCell (only_refl _ _) (.inl rfl) _
    have HE : Hid (RefR (w1.setCell ⟨g, 2, none⟩ (.int .i64 8)) g A c l (Oct.manyL r M) (Oct.manyE r e M)) := Lib.hid (by
      unfold Oct.manyL Oct.manyE
      rw [if_neg hn, if_neg hn]
      exact ⟨a, ⟨h1.blk.set_ 2 (.int .i64 8), h1.src.grown hO, h1.cap, h1.old, h1.ple⟩, by rw [if_neg (by omega)]⟩)
    have HG2 : Hid (w.grownBy (w1.setCell ⟨g, 2, none⟩ (.int .i64 8)) (some g)) := Lib.hid (hg.trans hO)
    have HV : Hid (Oct.manyV r M = 0) := Lib.hid (by unfold Oct.manyV; rw [if_neg hn])
    clear h1 h2 hg hO
    go_wp2
    go_ret
    exact ⟨by rw [HV.out]; rfl, HE.out, HG2.out⟩
end Go.Proofs.YtkonokjhpddbfaaDoor
