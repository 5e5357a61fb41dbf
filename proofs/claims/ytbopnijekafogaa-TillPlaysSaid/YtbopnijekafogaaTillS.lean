/-
  The document's Give, Move, All.
-/
import Derived.Test.YtbopnijekafogaaTillR
namespace Go.Proofs.Ytbopnijekafogaa
open Go.RowKit
set_option linter.unusedVariables false

set_option maxHeartbeats 1000000 in
theorem rgive_any (b gh gn cap : Nat) (sp : List Value) (l : List (Int × Int)) (K who n : Int) (w : World) (h : RefT w b gh gn cap sp l K) (hn : Word n) :
    Calls Try.prog 17 #[.pointer (some ⟨b, 0, none⟩), .int .i64 who, .int .u64 n] w (RPost b gh gn cap sp (giveL l K who n) (giveK l K who n) (giveE l K who n) w) := by
  have H := Lib.hid h
  rcases chk_cases who l.length with ⟨h1, h2⟩ | ⟨k, rfl, hk, h2⟩
  · have e1 : giveE l K who n = 1 := if_neg h1
    have e2 : giveL l K who n = l := if_neg (by rw [e1]; decide)
    have e3 : giveK l K who n = K := if_neg (by rw [e1]; decide)
    rw [e1, e2, e3]
    have HI := Lib.hid (rin_no b gh gn cap who sp l K w h h1)
    clear h e1 e2 e3 h1 h2
    go_enter Try.func17, Try.ntmps17
    go_wp2_with fail
    refine HI.out.mono ?_
    rintro e w' ⟨rfl, rfl⟩
    go_wp2
    go_ret
    exact ⟨rfl, H.out, OnlyS.refl _ _⟩
  · have HI := Lib.hid (rin_yes b gh gn cap k sp l K w h hk)
    have hkp := h.c2
    have hkw := h.kept
    by_cases hx : K < n
    · have e1 : giveE l K k n = 12 := by
        unfold giveE
        rw [if_pos ⟨by omega, by omega⟩, if_pos hx]
      have e2 : giveL l K k n = l := if_neg (by rw [e1]; decide)
      have e3 : giveK l K k n = K := if_neg (by rw [e1]; decide)
      rw [e1, e2, e3]
      have b1 : decide (K < n) = true := decide_eq_true hx
      clear h e1 e2 e3 h2 hx hkw
      go_enter Try.func17, Try.ntmps17
      go_wp2_with fail
      refine HI.out.mono ?_
      rintro e w' ⟨rfl, rfl⟩
      go_wp2
      go_ret
      exact ⟨rfl, H.out, OnlyS.refl _ _⟩
    · have e1 : giveE l K k n = 0 := by
        unfold giveE
        rw [if_pos ⟨by omega, by omega⟩, if_neg hx]
      have e2 : giveL l K k n = l.set k (wrp ((l.getD k (0, 0)).1 + n), (l.getD k (0, 0)).2) := by
        unfold giveL
        rw [if_pos e1, Int.toNat_natCast]
      have e3 : giveK l K k n = K - n := if_pos e1
      rw [e1, e2, e3]
      have HW : Word (K - n) := by unfold Word at *; omega
      have hyn : IntKind.u64.wrap (K - n) = K - n := wrp_word2 HW
      have hR := (h.setKept _ HW)
      have HA := Lib.hid ((hR.drewN 1).setHas k hk _ (wr_word ((l.getD k (0, 0)).1 + n)))
      have hc := hR.c0
      have hs := h.small
      have hh := hR.hasCell k hk
      have hf := hR.has.frozen k
      have hf2 := h.top.frozen 2
      have hne := h.nh
      have b1 : decide (K < n) = false := decide_eq_false hx
      obtain ⟨y, hy⟩ : ∃ y, (l.getD k (0, 0)).1 = y := ⟨_, rfl⟩
      rw [hy] at hh HA ⊢
      obtain ⟨z, hz⟩ : ∃ z, wrp (y + n) = z := ⟨_, rfl⟩
      rw [hz] at HA ⊢
      have hz' : IntKind.u64.wrap (y + n) = z := hz
      obtain ⟨m, hm⟩ : ∃ m, l.length = m := ⟨_, rfl⟩
      rw [hm] at hc hs hk
      obtain ⟨v, hv⟩ : ∃ v, K - n = v := ⟨_, rfl⟩
      rw [hv] at hyn HA hc hh hf ⊢
      have hs1 : IntKind.u64.wrap (K - n) = v := by rw [hv]; exact hyn
      clear h e1 e2 e3 h2 hx hm hy hz hyn hv HW hR hkw
      have hk0 : (0 : Int) ≤ (k : Int) := Int.natCast_nonneg _
      have hk1 : (k : Int) < (m : Int) := by omega
      go_enter Try.func17, Try.ntmps17
      go_wp2_with fail
      refine HI.out.mono ?_
      rintro e w' ⟨rfl, rfl⟩
      go_wp2_with fail
      have HO := Lib.hid ((OnlyS.refl (fun i => i = b ∨ i = gh ∨ i = gn) w).setCell (p := ⟨b, 2, none⟩) (.inl rfl) (.int .u64 v))
      generalize w.setCell ⟨b, 2, none⟩ (.int .u64 v) = W at hc hh hf HA HO ⊢
      go_still_tail 15, (by kernel_rfl)
      change wpList _ _ _ _ _ W.drew
      go_wp2
      go_ret
      exact ⟨rfl, HA.out, (HO.out.drewN 1).setCell (p := ⟨gh, k, none⟩) (.inr (.inl rfl)) _⟩

set_option maxHeartbeats 1000000 in
theorem rmove_any (b gh gn cap : Nat) (sp : List Value) (l : List (Int × Int)) (K who to n : Int) (w : World) (h : RefT w b gh gn cap sp l K) (hn : Word n) :
    Calls Try.prog 19 #[.pointer (some ⟨b, 0, none⟩), .int .i64 who, .int .i64 to, .int .u64 n] w (RPost b gh gn cap sp (moveL l who to n) K (moveE l who to n) w) := by
  have H := Lib.hid h
  rcases chk_cases who l.length with ⟨h1, h2⟩ | ⟨k, rfl, hk, h2⟩
  · have e1 : moveE l who to n = 1 := if_neg h1
    have e2 : moveL l who to n = l := if_neg (by rw [e1]; decide)
    rw [e1, e2]
    have HI := Lib.hid (rin_no b gh gn cap who sp l K w h h1)
    clear h e1 e2 h1 h2
    go_enter Try.func19, Try.ntmps19
    go_wp2_with fail
    refine HI.out.mono ?_
    rintro e w' ⟨rfl, rfl⟩
    go_wp2
    go_ret
    exact ⟨rfl, H.out, OnlyS.refl _ _⟩
  · have HI := Lib.hid (rin_yes b gh gn cap k sp l K w h hk)
    rcases chk_cases to l.length with ⟨h3, h4⟩ | ⟨j, rfl, hj, h4⟩
    · have e1 : moveE l k to n = 1 := by
        unfold moveE
        rw [if_pos ⟨by omega, by omega⟩, if_neg h3]
      have e2 : moveL l k to n = l := if_neg (by rw [e1]; decide)
      rw [e1, e2]
      have HJ := Lib.hid (rin_no b gh gn cap to sp l K w h h3)
      clear h e1 e2 h2 h3 h4
      go_enter Try.func19, Try.ntmps19
      go_wp2_with fail
      refine HI.out.mono ?_
      rintro e w' ⟨rfl, rfl⟩
      go_wp2_with fail
      refine HJ.out.mono ?_
      rintro e w' ⟨rfl, rfl⟩
      go_wp2
      go_ret
      exact ⟨rfl, H.out, OnlyS.refl _ _⟩
    · have HJ := Lib.hid (rin_yes b gh gn cap j sp l K w h hj)
      have hc := h.c0
      have hs := h.small
      have hh := h.hasCell k hk
      by_cases hx : (l.getD k (0, 0)).1 < n
      · have e1 : moveE l k j n = 12 := by
          unfold moveE
          rw [if_pos ⟨by omega, by omega⟩, if_pos ⟨by omega, by omega⟩, Int.toNat_natCast, if_pos hx]
        have e2 : moveL l k j n = l := if_neg (by rw [e1]; decide)
        rw [e1, e2]
        obtain ⟨y, hy⟩ : ∃ y, (l.getD k (0, 0)).1 = y := ⟨_, rfl⟩
        rw [hy] at hx hh
        have b1 : decide (y < n) = true := decide_eq_true hx
        obtain ⟨m, hm⟩ : ∃ m, l.length = m := ⟨_, rfl⟩
        rw [hm] at hc hs hk hj
        clear h e1 e2 h2 h4 hx hm hy
        go_enter Try.func19, Try.ntmps19
        go_wp2_with fail
        refine HI.out.mono ?_
        rintro e w' ⟨rfl, rfl⟩
        go_wp2_with fail
        refine HJ.out.mono ?_
        rintro e w' ⟨rfl, rfl⟩
        go_wp2
        go_ret
        exact ⟨rfl, H.out, OnlyS.refl _ _⟩
      · have e1 : moveE l k j n = 0 := by
          unfold moveE
          rw [if_pos ⟨by omega, by omega⟩, if_pos ⟨by omega, by omega⟩, Int.toNat_natCast, if_neg hx]
        have e2 : moveL l k j n = mov2 (mov1 l k n) j n := by
          unfold moveL
          rw [if_pos e1, Int.toNat_natCast, Int.toNat_natCast]
        rw [e1, e2]
        have hw := (h.word k hk).1
        have HW : Word ((l.getD k (0, 0)).1 - n) := by unfold Word at *; omega
        have hR := (h.drewN 1).setHas k hk _ HW
        change RefT _ b gh gn cap sp (mov1 l k n) K at hR
        have hj' : j < (mov1 l k n).length := by rw [mov1_length]; exact hj
        have HA := Lib.hid ((hR.drewN 1).setHas j hj' _ (wr_word (((mov1 l k n).getD j (0, 0)).1 + n)))
        change Hid (RefT _ b gh gn cap sp (mov2 (mov1 l k n) j n) K) at HA
        have hc2 := hR.c0
        have hh2 := hR.hasCell j hj'
        have hf := h.has.frozen k
        have hf2 := hR.has.frozen j
        obtain ⟨y, hy⟩ : ∃ y, (l.getD k (0, 0)).1 = y := ⟨_, rfl⟩
        rw [hy] at hx hh HA hR hc2 hh2 hf2 hw HW
        have b1 : decide (y < n) = false := decide_eq_false hx
        have hyn : IntKind.u64.wrap (y - n) = y - n := wrp_word2 HW
        obtain ⟨v, hv⟩ : ∃ v, y - n = v := ⟨_, rfl⟩
        have hs1 : IntKind.u64.wrap (y - n) = v := by rw [hyn]; exact hv
        rw [hv] at HA hc2 hh2 hf2
        rw [mov1_length] at hc2
        obtain ⟨x, hx2⟩ : ∃ x, ((mov1 l k n).getD j (0, 0)).1 = x := ⟨_, rfl⟩
        rw [hx2] at HA hh2
        obtain ⟨z, hz⟩ : ∃ z, wrp (x + n) = z := ⟨_, rfl⟩
        rw [hz] at HA
        have hz' : IntKind.u64.wrap (x + n) = z := hz
        obtain ⟨m, hm⟩ : ∃ m, l.length = m := ⟨_, rfl⟩
        rw [hm] at hc hc2 hs hk hj
        obtain ⟨l', hl⟩ : ∃ l', mov2 (mov1 l k n) j n = l' := ⟨_, rfl⟩
        rw [hl] at HA ⊢
        clear h e1 e2 h2 h4 hx hm hy hyn hv hx2 hz hR hj' hw HW hl
        have hk0 : (0 : Int) ≤ (k : Int) := Int.natCast_nonneg _
        have hk1 : (k : Int) < (m : Int) := by omega
        have hj0 : (0 : Int) ≤ (j : Int) := Int.natCast_nonneg _
        have hj1 : (j : Int) < (m : Int) := by omega
        go_enter Try.func19, Try.ntmps19
        go_wp2_with fail
        refine HI.out.mono ?_
        rintro e w' ⟨rfl, rfl⟩
        go_wp2_with fail
        refine HJ.out.mono ?_
        rintro e w' ⟨rfl, rfl⟩
        go_wp2_with fail
        go_still_tail 15, (by kernel_rfl)
        change wpList _ _ _ _ _ w.drew
        go_wp2_with fail
        have HO := Lib.hid (((OnlyS.refl (fun i => i = b ∨ i = gh ∨ i = gn) w).drewN 1).setCell (p := ⟨gh, k, none⟩) (.inr (.inl rfl)) (.int .u64 v))
        change Hid (OnlyS _ w (w.setCell ⟨gh, k, none⟩ (.int .u64 v)).drew) at HO
        change (w.setCell ⟨gh, k, none⟩ (.int .u64 v)).drew.cell? ⟨b, 0, none⟩ = _ at hc2
        change (w.setCell ⟨gh, k, none⟩ (.int .u64 v)).drew.cell? ⟨gh, j, none⟩ = _ at hh2
        change (w.setCell ⟨gh, k, none⟩ (.int .u64 v)).drew.frozen? ⟨gh, j, none⟩ = _ at hf2
        change Hid (RefT (((w.setCell ⟨gh, k, none⟩ (.int .u64 v)).drew.drewN 1).setCell ⟨gh, j, none⟩ (.int .u64 z)) b gh gn cap sp l' K) at HA
        clear hc hh hf
        generalize (w.setCell ⟨gh, k, none⟩ (.int .u64 v)).drew = W at hc2 hh2 hf2 HA HO ⊢
        go_still_tail 15, (by kernel_rfl)
        change wpList _ _ _ _ _ W.drew
        go_wp2
        go_ret
        exact ⟨rfl, HA.out, (HO.out.drewN 1).setCell (p := ⟨gh, j, none⟩) (.inr (.inl rfl)) _⟩

set_option maxHeartbeats 1000000 in
theorem rall_any (b gh gn cap : Nat) (sp : List Value) (l : List (Int × Int)) (K : Int) (w : World) (h : RefT w b gh gn cap sp l K) :
    Calls Try.prog 31 #[.pointer (some ⟨b, 0, none⟩)] w fun e w' => e = .returned (.int .u64 (allS K l)) ∧ w = w' := by
  have H := Lib.hid h
  have hc := h.c0
  have hkp := h.c2
  have hs := h.small
  clear h
  obtain ⟨m, hm⟩ : ∃ m, l.length = m := ⟨_, rfl⟩
  rw [hm] at hc hs
  have HM := Lib.hid hm
  clear hm
  go_enter Try.func31, Try.ntmps31
  go_wp2
  go_loop [3, 4] (fun s i => ∃ (k : Nat) (t : Int), k ≤ m ∧ i = .int .i64 k ∧ s = .int .u64 t ∧ Hid (allS K l = allS t (l.drop k))) (fun _ i => m - (intOf i).toNat)
  case atStart => exact ⟨0, K, Nat.zero_le _, rfl, rfl, Lib.hid rfl⟩
  case round =>
    obtain ⟨k, t, hk, rfl, rfl, HA⟩ := hrel
    by_cases hlt : k < m
    · have hk' : k < l.length := by rw [HM.out]; exact hlt
      have e0 := H.out.hasCell k hk'
      have HN : Hid (allS K l = allS (wrp (t + (l.getD k (0, 0)).1)) (l.drop (k + 1))) := Lib.hid (by rw [HA.out, drop_pair l k hk', allS])
      obtain ⟨x, hx⟩ : ∃ x, (l.getD k (0, 0)).1 = x := ⟨_, rfl⟩
      rw [hx] at e0 HN
      obtain ⟨y, hy⟩ : ∃ y, wrp (t + x) = y := ⟨_, rfl⟩
      rw [hy] at HN
      have hy' : IntKind.u64.wrap (t + x) = y := hy
      clear hx hy hk'
      go_wp2
      go_round
      case rel => exact ⟨k + 1, y, by omega, by go_num, rfl, HN⟩
      case measure => simp [intOf] <;> omega
    · have HN : Hid (allS K l = t) := Lib.hid (by
        rw [HA.out, List.drop_eq_nil_of_le (by rw [HM.out]; omega)]
        rfl)
      go_wp2
      go_ret
      exact ⟨by rw [HN.out]; rfl, rfl⟩
end Go.Proofs.Ytbopnijekafogaa
