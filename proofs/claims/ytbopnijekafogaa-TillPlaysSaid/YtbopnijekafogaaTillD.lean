/-
  till.New; the law's awake.
-/
import Derived.Test.YtbopnijekafogaaTillC
namespace Go.Proofs.Ytbopnijekafogaa
open Go.RowKit
set_option linter.unusedVariables false

theorem upto16 {n : Nat} (h : n ≤ 16) : n = 0 ∨ n = 1 ∨ n = 2 ∨ n = 3 ∨ n = 4 ∨ n = 5 ∨ n = 6 ∨ n = 7 ∨ n = 8 ∨ n = 9 ∨ n = 10 ∨ n = 11 ∨ n = 12 ∨ n = 13 ∨ n = 14 ∨ n = 15 ∨ n = 16 := by omega

theorem make52 (n : Nat) (h : n ≤ 16) (w : World) : (Instr.makeSlice 52 (.int .i64 n) (.int .i64 n)).run Try.prog w = .ok (.slice (some ⟨w.heap.size, 0, none⟩) n n) (w.alloc (.cells (ac (List.replicate n (0, 0))).toArray 56)) := by
  rcases upto16 h with rfl | rfl | rfl | rfl | rfl | rfl | rfl | rfl | rfl | rfl | rfl | rfl | rfl | rfl | rfl | rfl | rfl <;> kernel_rfl

def newL (xs : List Int) (k : Nat) : List (Int × Int) := (xs.take k).map (fun x => (x, (0 : Int))) ++ List.replicate (xs.length - k) ((0 : Int), (0 : Int))
theorem newL_length (xs : List Int) (k : Nat) (h : k ≤ xs.length) : (newL xs k).length = xs.length := by
  unfold newL; simp; omega
theorem newL_zero (xs : List Int) : newL xs 0 = List.replicate xs.length (0, 0) := by unfold newL; simp
theorem newL_end (xs : List Int) (k : Nat) (h : xs.length ≤ k) : newL xs k = xs.map fun x => (x, (0 : Int)) := by
  unfold newL
  rw [List.take_of_length_le h, show xs.length - k = 0 by omega]
  simp
theorem newL_set (xs : List Int) (k : Nat) (hk : k < xs.length) : (newL xs k).set k (xs.getD k 0, ((newL xs k).getD k (0, 0)).2) = newL xs (k + 1) := by
  have h1 : ((newL xs k).getD k (0, 0)).2 = 0 := by
    unfold newL
    have hl : ((xs.take k).map (fun x => (x, (0 : Int)))).length = k := by simp; omega
    rw [List.getD_eq_getElem?_getD, List.getElem?_append_right (by omega), hl, Nat.sub_self]
    rw [show xs.length - k = (xs.length - k - 1) + 1 by omega, List.replicate_succ]
    rfl
  rw [h1]
  unfold newL
  have hl : ((xs.take k).map (fun x => (x, (0 : Int)))).length = k := by simp; omega
  rw [List.set_append_right _ _ (by omega), hl, Nat.sub_self]
  rw [show xs.length - k = (xs.length - (k + 1)) + 1 by omega, List.replicate_succ, List.set_cons_zero, getD_at xs k hk]
  rw [List.take_succ_eq_append_getElem hk, List.map_append, List.append_assoc]
  rfl

theorem zeros_ok (n : Nat) : ∀ a ∈ List.replicate n ((0 : Int), (0 : Int)), Word a.1 ∧ Word a.2 := by
  intro a ha
  obtain ⟨_, rfl⟩ := List.mem_replicate.1 ha
  exact ⟨⟨by decide, by decide⟩, ⟨by decide, by decide⟩⟩

/-- What New leaves behind. -/
def NewOk (xs : List Int) (w : World) (e : Ending) (w' : World) : Prop :=
  ∃ b g, e = .returned (.tuple #[.pointer (some ⟨b, 0, none⟩), .int .i64 0]) ∧ AtT w' b g (xs.map fun x => (x, (0 : Int))) 0 ∧ Below w.heap.size w w' ∧ w.heap.size ≤ b ∧ w.heap.size ≤ g

theorem new_long (a : Option Addr) (cap len : Nat) (w : World) (hlen : 16 < len) (hl2 : len ≤ 9223372036854775807) :
    Calls Try.prog 7 #[.slice a len cap] w fun e w' => e = .returned (.tuple #[.pointer none, .int .i64 8]) ∧ w = w' := by
  have d : decide ((16 : Int) < len) = true := decide_eq_true (by omega)
  go_enter Try.func7, Try.ntmps7
  go_wp2
  go_ret2
  exact ⟨rfl, rfl⟩

theorem new_over (a : Option Addr) (cap len : Nat) (xs : List Int) (w : World) (hlen : xs.length = len) (hs : len ≤ 16) (hN : Nums w a xs) (hE : sumE xs ≠ 0) :
    Calls Try.prog 7 #[.slice a len cap] w fun e w' => e = .returned (.tuple #[.pointer none, .int .i64 (sumE xs)]) ∧ w = w' := by
  have d : decide ((16 : Int) < len) = false := decide_eq_false (by omega)
  have HS := Lib.hid (sum_any a cap xs w hN)
  rw [hlen] at HS
  have b0 : (sumE xs != 0) = true := by simpa using hE
  clear hN hE hlen
  generalize sumE xs = z at HS b0 ⊢
  generalize sumV xs = y at HS
  go_enter Try.func7, Try.ntmps7
  go_wp2_with fail
  refine HS.out.mono ?_
  rintro e w' ⟨rfl, rfl⟩
  go_wp2
  go_ret2
  exact ⟨rfl, rfl⟩

set_option maxHeartbeats 1000000 in
theorem new_ok (a : Option Addr) (cap len : Nat) (xs : List Int) (w : World) (hlen : xs.length = len) (hs : len ≤ 16) (hN : Nums w a xs) (hE : sumE xs = 0) :
    Calls Try.prog 7 #[.slice a len cap] w (NewOk xs w) := by
  have d : decide ((16 : Int) < len) = false := decide_eq_false (by omega)
  have HS := Lib.hid (sum_any a cap xs w hN)
  rw [hlen, hE] at HS
  have HM := Lib.hid (make52 len hs)
  have HL := Lib.hid hlen
  have HN := Lib.hid hN
  have hmk := make52 len hs w
  have hz : (List.replicate len ((0 : Int), (0 : Int))).length = len := by simp
  have HT0 : Hid (AtT ((w.alloc (.cells (ac (List.replicate len (0, 0))).toArray 56)).alloc (.cells #[.slice (some ⟨w.heap.size, 0, none⟩) len len, .int .u64 0] 54)) (w.heap.size + 1) w.heap.size (newL xs 0) 0) := Lib.hid
    { top := by rw [newL_zero, hlen, hz]; exact Blk.mk_ (cs := [.slice (some ⟨w.heap.size, 0, none⟩) len len, .int .u64 0]) (by simp)
      row := by rw [newL_zero, hlen]; exact (Blk.new w 56 _).alloc _
      ok := by rw [newL_zero]; exact zeros_ok _
      kept := ⟨by decide, by decide⟩
      small := by rw [newL_length _ _ (Nat.zero_le _), hlen]; exact hs }
  have HB0 : Hid (Below w.heap.size w ((w.alloc (.cells (ac (List.replicate len (0, 0))).toArray 56)).alloc (.cells #[.slice (some ⟨w.heap.size, 0, none⟩) len len, .int .u64 0] 54))) := Lib.hid (((Below.refl _ _).alloc (Nat.le_refl _) _).alloc (by simp) _)
  clear hN hE hlen hz HM
  generalize (List.replicate len ((0 : Int), (0 : Int))) = zs at hmk HT0 HB0
  generalize sumV xs = y at HS
  go_enter Try.func7, Try.ntmps7
  go_wp2_with fail
  refine HS.out.mono ?_
  rintro e w' ⟨rfl, rfl⟩
  go_wp2
  generalize (w.alloc (.cells (ac zs).toArray 56)).alloc (.cells #[.slice (some ⟨w.heap.size, 0, none⟩) len len, .int .u64 0] 54) = W at HT0 HB0 ⊢
  obtain ⟨b, hb⟩ : ∃ b, Hid (b = w.heap.size + 1) := ⟨_, Lib.hid rfl⟩
  obtain ⟨g, hg⟩ : ∃ g, Hid (g = w.heap.size) := ⟨_, Lib.hid rfl⟩
  rw [← hb.out, ← hg.out] at HT0
  rw [← hb.out]
  go_loopw [7, 8, 27] (fun _ _ i wd => ∃ (k : Nat), k ≤ len ∧ i = .int .i64 k ∧ Hid (AtT wd b g (newL xs k) 0) ∧ Hid (Below w.heap.size w wd)) (fun _ _ i _ => len - (intOf i).toNat)
  case atStart => exact ⟨0, Nat.zero_le _, rfl, HT0, HB0⟩
  case round =>
    clear hmk HT0 HB0
    obtain ⟨k, hk, rfl, HA, HB⟩ := hrel
    by_cases hlt : k < len
    · have hk' : k < xs.length := by rw [HL.out]; exact hlt
      have hk2 : k < (newL xs k).length := by rw [newL_length _ _ (by omega)]; exact hk'
      have hc := HA.out.sl
      rw [newL_length _ _ (by omega), HL.out] at hc
      have hf := HA.out.row.frozen (k * 2)
      have hold := HA.out.hasCell k hk2
      obtain ⟨ow, how⟩ : ∃ ow, ((newL xs k).getD k (0, 0)).1 = ow := ⟨_, rfl⟩
      rw [how] at hold
      have HNx := Lib.hid (HA.out.setHas k hk2 (xs.getD k 0) (HN.out.getD_word k))
      rw [newL_set xs k hk'] at HNx
      have HBx := Lib.hid (HB.out.setCell (p := ⟨g, k * 2, none⟩) (by rw [hg.out]; exact Nat.le_refl _) (.int .u64 (xs.getD k 0)))
      rcases HN.out.1 with h0 | ⟨b0, off, rfl, hb0, hcx⟩
      · exfalso; rw [h0] at hk'; simp at hk'
      · have hx := hcx k hk'
        rw [← HB.out.cell (p := ⟨b0, off + k, none⟩) hb0] at hx
        obtain ⟨x, hxe⟩ : ∃ x, xs.getD k 0 = x := ⟨_, rfl⟩
        rw [hxe] at hx HNx HBx
        clear hcx hxe hk' hk2 how
        go_wp2
        go_roundw
        case rel => exact ⟨k + 1, by omega, by go_num, HNx, HBx⟩
        case measure => simp [intOf] <;> omega
    · have HE := Lib.hid (newL_end xs k (by rw [HL.out]; omega))
      rw [HE.out] at HA
      go_wp2
      go_ret2
      exact ⟨b, g, rfl, HA.out, HB.out, by rw [hb.out]; omega, by rw [hg.out]; exact Nat.le_refl _⟩

set_option maxHeartbeats 1000000 in
theorem awake_any (w : World) : Calls Try.prog 9 #[] w fun e w' => e = .returned (.bool true) ∧ Below w.heap.size w w' := by
  have hbd : (Instr.buildSlice 22 2 #[(0, .int .u64 5), (1, .int .u64 3)]).run Try.prog w = .ok (.slice (some ⟨w.heap.size, 0, none⟩) 2 2) (w.alloc (.cells #[.int .u64 5, .int .u64 3] 33)) := by kernel_rfl
  have B0 : Hid (Below w.heap.size w (w.alloc (.cells #[.int .u64 5, .int .u64 3] 33))) := Lib.hid ((Below.refl _ _).alloc (Nat.le_refl _) _)
  have R0 : Hid (Blk (w.alloc (.cells #[.int .u64 5, .int .u64 3] 33)) w.heap.size 33 [.int .u64 5, .int .u64 3]) := Lib.hid (Blk.new w 33 [.int .u64 5, .int .u64 3])
  go_enter Try.func9, Try.ntmps9
  go_wp2_with fail
  generalize w.alloc (.cells #[.int .u64 5, .int .u64 3] 33) = W at B0 R0 ⊢
  obtain ⟨g0, hg0⟩ : ∃ g0, w.heap.size = g0 := ⟨_, rfl⟩
  have HN : Hid (Nums W (some ⟨g0, 0, none⟩) [5, 3]) := Lib.hid ⟨.inr ⟨g0, 0, rfl, hg0 ▸ R0.out.lt, fun i hi => by
    rw [← hg0]
    match i, hi with
    | 0, _ => exact R0.out.cell 0
    | 1, _ => exact R0.out.cell 1⟩, fun n hn => by
      simp at hn
      rcases hn with rfl | rfl <;> exact ⟨by decide, by decide⟩, by simp⟩
  rw [hg0]
  clear hg0
  refine (new_ok _ 2 2 [5, 3] W rfl (by decide) HN.out (by decide)).mono ?_
  rintro e w1 ⟨b, g, rfl, hA, hB, hb, hg⟩
  have hb' : w.heap.size ≤ b := Nat.le_trans B0.out.size hb
  have hg' : w.heap.size ≤ g := Nat.le_trans B0.out.size hg
  have HB := Lib.hid (B0.out.trans (hB.mono B0.out.size))
  replace hA : AtT w1 b g [(5, 0), (3, 0)] 0 := hA
  have HK := Lib.hid (keep_any b g _ 0 0 2 w1 hA ⟨by decide, by decide⟩)
  rw [show keepE [(5, 0), (3, 0)] 0 2 = 0 by decide, show keepL [(5, 0), (3, 0)] 0 2 = [(3, 0), (3, 0)] by decide, show keepK [(5, 0), (3, 0)] 0 0 2 = 2 by decide] at HK
  clear hB hA hb hg HN R0 B0
  go_wp2_with fail
  refine HK.out.mono ?_
  rintro e w2 ⟨rfl, hA, hO⟩
  have HB2 := Lib.hid (HB.out.trans (hO.below hb' hg' HB.out.size))
  have HG := Lib.hid (give_any b g _ 2 1 1 w2 hA ⟨by decide, by decide⟩)
  rw [show giveE [(3, 0), (3, 0)] 2 1 1 = 0 by decide, show giveL [(3, 0), (3, 0)] 2 1 1 = [(3, 0), (4, 0)] by decide, show giveK [(3, 0), (3, 0)] 2 1 1 = 1 by decide] at HG
  clear hA hO HK HB
  go_wp2_with fail
  refine HG.out.mono ?_
  rintro e w3 ⟨rfl, hA, hO⟩
  have HB3 := Lib.hid (HB2.out.trans (hO.below hb' hg' HB2.out.size))
  have H0 := Lib.hid (has_any b g _ 1 0 w3 hA)
  have H1 := Lib.hid (has_any b g _ 1 1 w3 hA)
  have H2 := Lib.hid (kept_any b g _ 1 w3 hA)
  rw [show hasV [(3, 0), (4, 0)] 0 = 3 by decide] at H0
  rw [show hasV [(3, 0), (4, 0)] 1 = 4 by decide] at H1
  clear hA hO HG HB2 hb' hg'
  go_wp2_with fail
  refine H0.out.mono ?_
  rintro e w' ⟨rfl, rfl⟩
  go_wp2_with fail
  refine H1.out.mono ?_
  rintro e w' ⟨rfl, rfl⟩
  go_wp2_with fail
  refine H2.out.mono ?_
  rintro e w' ⟨rfl, rfl⟩
  go_wp2
  go_ret
  exact ⟨rfl, HB3.out⟩
end Go.Proofs.Ytbopnijekafogaa
