/-
  What the document's Num answers (function 57): the bytes, and a number's so many behind them; nothing that was there is written.
-/
import Derived.Test.YtbdjlnejlkiijaaDoorRRROctDig
import Derived.Deep.OwnRows
namespace Go.Proofs.YtbdjlnejlkiijaaDoorRRR.Oct
open Go.RowKit
set_option linter.unusedVariables false

/-- A number's last bytes, the greatest first. -/
def numV : Nat → Int → List Int
  | 0, _ => []
  | s + 1, n => numV s (n / 256) ++ [n % 256]

theorem numV_length : ∀ (s : Nat) (n : Int), (numV s n).length = s
  | 0, _ => rfl
  | s + 1, n => by simp [numV, numV_length s]

theorem set_rep (q : Nat) (d : Int) (done : List Int) : (byt (List.replicate (q + 1) 0 ++ done)).set q (.int .u8 d) = byt (List.replicate q 0 ++ (d :: done)) := by
  have e : byt (List.replicate (q + 1) 0 ++ done) = byt (List.replicate q 0) ++ (.int .u8 0 :: byt done) := by
    rw [List.replicate_succ']
    simp [byt]
  rw [e, List.set_append]
  have hq : ¬ q < (byt (List.replicate q 0)).length := by simp [byt]
  rw [if_neg hq]
  have h0 : q - (byt (List.replicate q 0)).length = 0 := by simp [byt]
  rw [h0]
  simp [byt]

theorem made_own (w : World) (s : Nat) (hs : s ≤ 8) : Own (w.alloc (.cells (madeCells #[.int .u8 0] s) 5)) w.heap.size (.slice (some ⟨w.heap.size, 0, none⟩) s s) (List.replicate s 0) := by
  have h := World.ownsRow_lit (e := 5) (size := 1) w (madeCells #[.int .u8 0] s) s (Nat.le_refl _) (by unfold maxLen; omega) (by simp [madeCells])
  unfold Own
  have e : byt (List.replicate s 0) = (madeCells #[.int .u8 0] s).toList := by rw [toList_madeCells_one]; simp [byt]
  rw [e, List.length_replicate]
  exact h

set_option maxRecDepth 100000 in
set_option maxHeartbeats 2000000 in
theorem num_any (A : Option Addr) (cap len : Nat) (b : List Int) (m0 : Int) (s : Nat) (hs : s ≤ 8) (w : World) (hS : Src w A cap b) (hb : b.length = len) (hl : len ≤ 1000000) (hm0 : 0 ≤ m0) (hm1 : m0 ≤ 18446744073709551615) :
    Calls Tryd.prog 31 #[.slice A len cap, .int .u64 m0, .int .i64 s] w fun e w' => ∃ v', e = .returned v' ∧ Own w' w.heap.size v' (b ++ numV s m0) ∧ Below w.heap.size w w' := by
  have hmk := run_make_row' (P := Tryd.prog) 35 5 (.int .u8 0) 1 Tryd.underlying35 byte_info rfl .i64 .i64 s (by omega) (by omega)
  have HS := Lib.hid hS
  have HL := Lib.hid hb
  have HM := Lib.hid (made_own w s hs)
  have HB0 := Lib.hid ((Below.refl w.heap.size w).alloc (Nat.le_refl _) (.cells (madeCells #[.int .u8 0] s) 5))
  clear hS hb
  go_enter Tryd.func31, Tryd.ntmps31
  go_wp2_with fail
  go_loopw [1, 8] (fun n i wr => ∃ (r : Nat) (m : Int) (done : List Int), r ≤ s ∧ n = .int .u64 m ∧ i = .int .i64 ((r : Int) - 1) ∧ 0 ≤ m ∧ m ≤ 18446744073709551615 ∧ Hid (wr.ownsRow w.heap.size 5 1 (.slice (some ⟨w.heap.size, 0, none⟩) s s) s (byt (List.replicate r 0 ++ done))) ∧ Hid (numV s m0 = numV r m ++ done) ∧ Hid (Below w.heap.size w wr)) (fun _ i _ => (intOf i + 1).toNat)
  case atStart => exact ⟨s, m0, [], Nat.le_refl _, rfl, by go_num, hm0, hm1, Lib.hid (by have := HM.out; unfold Own at this; simpa using this), Lib.hid (by simp), HB0⟩
  case round =>
    obtain ⟨r, m, done, hr, rfl, rfl, h0, h1, HO, HN, HB⟩ := hrel
    rcases r with _ | q
    · have HP : Hid (Own wr w.heap.size (.slice (some ⟨w.heap.size, 0, none⟩) s s) (numV s m0)) := Lib.hid (by
        have h1 := HN.out
        have h2 := HO.out
        simp only [numV, List.nil_append, List.replicate_zero] at h1 h2
        unfold Own
        rw [numV_length, h1]
        exact h2)
      have HE := Lib.hid (World.ownsRow_lit (base := w.heap.size) (e := 5) (size := 1) wr #[] 0 HB.out.size (by unfold maxLen; omega) rfl)
      have HSb := Lib.hid (HS.out.below (HB.out.alloc HB.out.size (.cells #[] 5)))
      have HPb := Lib.hid (World.ownsRow.alloc HP.out (.cells #[] 5))
      have HBb := Lib.hid (HB.out.alloc HB.out.size (.cells #[] 5))
      have hgt : w.heap.size < wr.heap.size := (World.ownsRow.lt HP.out w.heap.size rfl).2
      clear HO HN HP HB HS
      go_wp2_with (at_builtin; refine wpList_app rfl (.tmp 25) (.tmp 26) 35 35 rfl Tryd.underlying35 Tryd.underlying35 w.heap.size _ [] b rfl HE.out A len cap rfl HL.out.symm HSb.out ?c1 ?c2 ?_)
      case c1 => have := HL.out; simp; omega
      case c2 => have := HBb.out.size; simp at this; omega
      intro v1 w1 hO1 hg1 hL1
      have HO1 := Lib.hid hO1
      have HB1 := Lib.hid (HBb.out.trans (grown_below hg1 HBb.out.size fun g hg => (World.ownsRow.lt HE.out g hg).1))
      have HP1 := Lib.hid (World.ownsRow.kept HPb.out hg1 (.inr (by simp [Value.ownBlock]; omega)))
      have HS1 : Hid (Src w1 (some ⟨w.heap.size, 0, none⟩) s (numV s m0)) := Lib.hid (by
        obtain ⟨A', c', hv, hS'⟩ := Own.src HP1.out
        simp at hv
        obtain ⟨rfl, _, rfl⟩ := hv
        exact hS')
      clear hO1 hg1 hL1 HP1 HPb HE HSb HBb hgt
      go_wp2_with (at_builtin; refine wpList_app rfl (.tmp 27) (.tmp 28) 35 35 rfl Tryd.underlying35 Tryd.underlying35 w.heap.size v1 b (numV s m0) rfl HO1.out (some ⟨w.heap.size, 0, none⟩) s s rfl (numV_length s m0).symm HS1.out ?c3 ?c4 ?_)
      case c3 => have := HL.out; rw [numV_length]; omega
      case c4 => exact HB1.out.size
      intro v2 w2 hO2 hg2 hL2
      have HF : Hid (Own w2 w.heap.size v2 (b ++ numV s m0) ∧ Below w.heap.size w w2) := Lib.hid ⟨hO2, HB1.out.trans (grown_below hg2 HB1.out.size fun g hg => (World.ownsRow.lt HO1.out g hg).1)⟩
      clear hO2 hg2 hL2 HO1 HB1 HS1
      go_wp2
      go_ret
      exact ⟨_, rfl, HF.out.1, HF.out.2⟩
    · have hq : ((q + 1 : Nat) : Int) - 1 = q := by omega
      rw [hq]
      have hcell := HO.out.cellAt q (by omega)
      have hfr := HO.out.frozenAt q
      have hc2 : wr.cell? ⟨w.heap.size, q, none⟩ = some (.int .u8 0) := by
        rw [hcell]
        simp [byt, List.replicate_succ']
      clear hcell
      go_wp2
      have hst := HO.out.stored q (.int .u8 (m % 256))
      rw [set_rep] at hst
      refine ⟨⟨q, m / 256, (m % 256) :: done, by omega, rfl, rfl, by omega, by omega, Lib.hid hst.1, Lib.hid ?_, Lib.hid ?_⟩, ?_⟩
      · rw [HN.out]; simp [numV]
      · exact HB.out.trans (grown_below hst.2 HB.out.size fun g hg => by cases hg; exact Nat.le_refl _)
      · simp [intOf]
end Go.Proofs.YtbdjlnejlkiijaaDoorRRR.Oct
