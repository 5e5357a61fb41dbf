/-
  What the document's own fees answer (Of, Over, Back of tollhouseref02), for every input: the same numbers as the program's; and Same (function 50) of two lists that read the same: true.
-/
import Derived.Test.YtneacogenjlhgaaFeeArg
import Derived.Deep.RegionHeld3
import Derived.Deep.AppendLies
import Derived.Deep.QuietTactic
import Derived.BigQuiet
namespace Go.Proofs.Ytneacogenjlhgaa
open Go.RowKit
set_option linter.unusedVariables false

set_option maxHeartbeats 1000000 in
theorem rof_any (b r x : Int) (w : World) (hb : Word b) (hr : Word r) (hx : Word x) :
    Calls Try.prog 52 #[.agg #[.int .u64 b, .int .u64 r], .int .u64 x] w fun e w' => e = .returned (.tuple #[.int .u64 (ofV b r x), .int .i64 (ofE b r x)]) ∧ Below w.heap.size w w' := by
  have hs : Word 1000000 := by unfold Word; omega
  have hv := partV_word hx hr hs
  by_cases h0 : partE x r 1000000 = 0
  · have b0 : (partE x r 1000000 != 0) = false := by simp [h0]
    have H1 : Hid (ofV b r x = addV b (partV x r 1000000)) := by show _ = _; simp [ofV, h0]
    have H2 : Hid (ofE b r x = addE b (partV x r 1000000)) := by show _ = _; simp [ofE, h0]
    clear h0
    go_enter Try.func52, Try.ntmps52
    go_wp2_with fail
    refine (rpart_any _ _ _ _ hx hr hs).mono ?_
    rintro e w1 ⟨rfl, h1⟩
    have hc : w1.cell? ⟨w.heap.size, 0, none⟩ = some (.int .u64 b) := by
      rw [h1.cell (p := ⟨w.heap.size, 0, none⟩) (by simp)]
      simp
    have HB := Lib.hid (((Below.refl _ w).alloc (Nat.le_refl _) (.cells #[.int .u64 b, .int .u64 r] 81)).trans (h1.mono (by simp)))
    clear h1
    go_wp2_with fail
    refine (radd_any _ _ _ hb hv).mono ?_
    rintro e w2 ⟨rfl, rfl⟩
    go_wp2
    go_ret2
    exact ⟨by rw [H1.out, H2.out]; rfl, HB.out⟩
  · have b0 : (partE x r 1000000 != 0) = true := by simpa using h0
    have H1 : Hid (ofV b r x = 0) := by show _ = _; simp [ofV, h0]
    have H2 : Hid (ofE b r x = partE x r 1000000) := by show _ = _; simp [ofE, h0]
    clear h0
    go_enter Try.func52, Try.ntmps52
    go_wp2_with fail
    refine (rpart_any _ _ _ _ hx hr hs).mono ?_
    rintro e w1 ⟨rfl, h1⟩
    have HB := Lib.hid (((Below.refl _ w).alloc (Nat.le_refl _) (.cells #[.int .u64 b, .int .u64 r] 81)).trans (h1.mono (by simp)))
    clear h1
    go_wp2
    go_ret2
    exact ⟨by rw [H1.out, H2.out]; rfl, HB.out⟩

set_option maxHeartbeats 1000000 in
theorem rover_any (b r x : Int) (w : World) (hb : Word b) (hr : Word r) (hx : Word x) :
    Calls Try.prog 67 #[.agg #[.int .u64 b, .int .u64 r], .int .u64 x] w fun e w' => e = .returned (.tuple #[.int .u64 (overV b r x), .int .i64 (overE b r x)]) ∧ Below w.heap.size w w' := by
  have hv := ofV_word hb hr hx
  by_cases h0 : ofE b r x = 0
  · have b0 : (ofE b r x != 0) = false := by simp [h0]
    have H1 : Hid (overV b r x = addV x (ofV b r x)) := by show _ = _; simp [overV, h0]
    have H2 : Hid (overE b r x = addE x (ofV b r x)) := by show _ = _; simp [overE, h0]
    clear h0
    go_enter Try.func67, Try.ntmps67
    go_wp2_with (first | (go_at_call 52; refine (rof_any _ _ _ _ hb hr hx).mono ?_; rintro e w' ⟨rfl, hB⟩) | (go_at_call 34; refine (radd_any _ _ _ hx hv).mono ?_; rintro e w' ⟨rfl, rfl⟩))
    go_ret2
    exact ⟨by rw [H1.out, H2.out]; rfl, ((Below.refl _ _).alloc (Nat.le_refl _) _).trans (hB.mono (by simp))⟩
  · have b0 : (ofE b r x != 0) = true := by simpa using h0
    have H1 : Hid (overV b r x = 0) := by show _ = _; simp [overV, h0]
    have H2 : Hid (overE b r x = ofE b r x) := by show _ = _; simp [overE, h0]
    clear h0
    go_enter Try.func67, Try.ntmps67
    go_wp2_with (go_at_call 52; refine (rof_any _ _ _ _ hb hr hx).mono ?_; rintro e w' ⟨rfl, hB⟩)
    go_ret2
    exact ⟨by rw [H1.out, H2.out]; rfl, ((Below.refl _ _).alloc (Nat.le_refl _) _).trans (hB.mono (by simp))⟩

set_option maxRecDepth 100000 in
set_option maxHeartbeats 2000000 in
theorem rback_core (x : Int) (b off cap len : Nat) (fs : List (Int × Int)) (w : World) (hx : Word x) (HN : Hid (FeeRow w (some ⟨b, off, none⟩) fs)) (hb : b < w.heap.size) (HL : Hid (fs.length = len)) (hlen : len ≤ 200) (h0 : 0 < len)
    (HC : Hid (∀ i, i < fs.length → w.cell? ⟨b, off + i * 2, none⟩ = some (.int .u64 (fs.getD i (0, 0)).1) ∧ w.cell? ⟨b, off + i * 2 + 1, none⟩ = some (.int .u64 (fs.getD i (0, 0)).2))) :
    Calls Try.prog 49 #[.int .u64 x, .slice (some ⟨b, off, none⟩) len cap] w fun e w' => ∃ v, e = .returned (.tuple #[v, .int .i64 (backE x fs).1]) ∧ w'.ownsRow w.heap.size 28 1 v (backE x fs).2.length (nums (backE x fs).2) ∧ Below w.heap.size w w' := by
  obtain ⟨i0, hi, hz0, hz1, hz2⟩ := info_parts u64_info
  go_enter Try.func49, Try.ntmps49
  go_wp2_with fail
  go_loopw [7, 6, 8, 9] (fun i t _ _ wr => ∃ (k g c : Nat) (l : List Int), k ≤ len ∧ i = .int .i64 ((k : Int) - 1) ∧ t = .slice (some ⟨g, 0, none⟩) l.length c ∧ Hid (Backs x fs k l) ∧ Hid (wr.ownsRow w.heap.size 28 1 (.slice (some ⟨g, 0, none⟩) l.length c) l.length (nums l)) ∧ Hid (Below w.heap.size w wr)) (fun i _ _ _ _ => (intOf i + 1).toNat)
  case atStart =>
    refine ⟨len, w.heap.size, 1, [x], Nat.le_refl _, rfl, rfl, Lib.hid (Backs.start x fs len HL.out hx), Lib.hid ?_, Lib.hid ((Below.refl _ _).alloc (Nat.le_refl _) _)⟩
    exact World.ownsRow_lit w #[.int .u64 x] 1 (Nat.le_refl _) (by unfold maxLen; omega) rfl
  case round =>
    obtain ⟨k, g, c, l, hk, rfl, rfl, HK, HR, HW⟩ := hrel
    by_cases hk0 : k = 0
    · subst hk0
      go_wp2
      go_ret2
      have hE : backE x fs = (0, l) := HK.out.1
      refine ⟨_, by rw [hE]; rfl, ?_, HW.out⟩
      rw [hE]
      exact HR.out
    · obtain ⟨i, rfl⟩ : ∃ i, k = i + 1 := ⟨k - 1, by omega⟩
      clear hk0
      have e : ((i + 1 : Nat) : Int) - 1 = i := by omega
      rw [e]
      clear e
      obtain ⟨f, hf⟩ : ∃ f, fs.getD i (0, 0) = f := ⟨_, rfl⟩
      obtain ⟨hc1, hc2⟩ := HC.out i (by rw [HL.out]; omega)
      rw [hf] at hc1 hc2
      obtain ⟨f1, f2⟩ := f
      simp only at hc1 hc2
      rw [← HW.out.cell (p := ⟨b, off + i * 2, none⟩) hb] at hc1
      rw [← HW.out.cell (p := ⟨b, off + i * 2 + 1, none⟩) hb] at hc2
      obtain ⟨y, hy⟩ : ∃ y, l.headD 0 = y := ⟨_, rfl⟩
      have hll : l.length = len - i := by rw [HK.out.2.1, HL.out]; omega
      have hc3 : wr.cell? ⟨g, 0, none⟩ = some (.int .u64 y) := by
        rw [HR.out.cellAt 0 (by omega)]
        exact HK.out.head hy 0
      have hwy : Word y := HK.out.word hy
      have hw1 : Word f1 := by have := (HN.out.word i).1; rw [hf] at this; exact this
      have hw2 : Word f2 := by have := (HN.out.word i).2; rw [hf] at this; exact this
      have HF := Lib.hid hf
      have HY := Lib.hid hy
      clear hf hy
      have hbr : b < wr.heap.size := Nat.lt_of_lt_of_le hb HW.out.size
      have hgr : g < wr.heap.size := (HR.out.lt g rfl).2
      obtain ⟨nl, hnl⟩ : ∃ n, l.length = n := ⟨_, rfl⟩
      rw [hnl]
      rw [hnl] at hll HR
      have HNL := Lib.hid hnl
      have hnl0 : 0 < nl := by omega
      have hnl1 : nl ≤ 200 := by omega
      clear hnl hll
      have q2 : (0 : Int) ≤ (i : Int) := by omega
      have q3 : (i : Int) < (len : Int) := by omega
      have q4 : (0 : Int) < (nl : Int) := by omega
      go_wp2_with fail
      go_region_held3 (fun w' => w'.cell? ⟨b, off + i * 2, none⟩ = some (.int .u64 f1) ∧ w'.cell? ⟨b, off + i * 2 + 1, none⟩ = some (.int .u64 f2) ∧ w'.cell? ⟨g, 0, none⟩ = some (.int .u64 y)) (first | exact ⟨hc1, hc2, hc3⟩ | exact ⟨(hB2.cell (p := ⟨b, off + i * 2, none⟩) hbr).trans hc1, (hB2.cell (p := ⟨b, off + i * 2 + 1, none⟩) hbr).trans hc2, (hB2.cell (p := ⟨g, 0, none⟩) hgr).trans hc3⟩) (first | (go_at_call 67; refine (rover_any _ _ _ _ hw1 hw2 hwy).mono ?_; rintro e w2 ⟨rfl, hB2⟩))
      clear q2 q3 q4
      have HR2 := Lib.hid (own_below HR.out (Below.trans (Below.refl _ _).drew hB2))
      have HW2 := Lib.hid (HW.out.trans ((Below.trans (Below.refl _ _).drew hB2).mono HW.out.size))
      by_cases ho : overE f1 f2 y = 0
      · have b0 : (overE f1 f2 y != 0) = false := by simp [ho]
        have HS := Lib.hid (HK.out.next HF.out HY.out (by rw [HL.out]; omega) hw1 hw2 ho)
        have hgl : g < w2.heap.size := (HR2.out.lt g rfl).2
        clear ho hB2
        go_wp2_with (at_builtin; refine wpList_append_own _ rfl (.tmp 34) (.tmp 35) 23 rfl w.heap.size 28 i0 (.int .u64 0) 1 8 Try.underlying23 hi hz0 hz1 hz2 rfl (by decide) (.slice (some ⟨w2.heap.size, 0, none⟩) 1 1) 1 [.int .u64 (overV f1 f2 y)] rfl (World.ownsRow_lit w2 #[.int .u64 (overV f1 f2 y)] 1 HW2.out.size (by unfold maxLen; omega) rfl) ⟨g, 0, none⟩ nl c (nums l) rfl ?c0 ?c1 ?c2 ?c3 ?c4 ?c5 ?_)
        case c0 => rw [← HNL.out]; simp [nums]
        case c1 => exact (HR2.out.alloc _).cells rfl
        case c2 => intro u hu; simp [nums] at hu; obtain ⟨n, _, rfl⟩ := hu; rfl
        case c3 => unfold maxLen; omega
        case c4 => omega
        case c5 => have := HW2.out.size; simp; omega
        intro v' w3 hown' hgrow hnil
        have HB3 := Lib.hid ((HW2.out.alloc HW2.out.size _).grown hgrow (by have := HW2.out.size; simp; omega) (fun g' hg' => by simp [Value.ownBlock] at hg'; have := HW2.out.size; omega))
        obtain ⟨g', c', hv', _⟩ := hown'.form (by omega)
        subst hv'
        have HO3 := Lib.hid hown'
        clear hown' hgrow hnil
        go_wp2
        go_roundw
        case rel =>
          refine ⟨i, g', c', overV f1 f2 y :: l, by omega, by go_num, ?_, HS, Lib.hid ?_, HB3⟩
          · rw [List.length_cons, HNL.out, Nat.add_comm]
          · have := HO3.out
            rw [List.length_cons, HNL.out, Nat.add_comm nl 1]
            exact this
        case measure => simp [intOf]
      · have b0 : (overE f1 f2 y != 0) = true := by simpa using ho
        have HS := Lib.hid (HK.out.fails HF.out HY.out (by rw [HL.out]; omega) ho)
        clear ho hB2
        go_wp2
        go_ret2
        exact ⟨.slice none 0 0, by rw [HS.out]; rfl, by rw [HS.out]; exact ⟨rfl, .inl ⟨rfl, rfl⟩⟩, HW2.out⟩
set_option maxRecDepth 100000 in
set_option maxHeartbeats 1000000 in
theorem rback_none (x : Int) (a : Option Addr) (cap : Nat) (w : World) (hx : Word x) :
    Calls Try.prog 49 #[.int .u64 x, .slice a 0 cap] w fun e w' => ∃ v, e = .returned (.tuple #[v, .int .i64 0]) ∧ w'.ownsRow w.heap.size 28 1 v 1 (nums [x]) ∧ Below w.heap.size w w' := by
  go_enter Try.func49, Try.ntmps49
  go_wp2_with fail
  refine wp_loop_rounds 1 ?_
  rw [rounds_succ]
  go_wp2
  go_ret2
  exact ⟨_, rfl, World.ownsRow_lit w #[.int .u64 x] 1 (Nat.le_refl _) (by unfold maxLen; omega) rfl, (Below.refl _ _).alloc (Nat.le_refl _) _⟩

/-- tollhouseref02.Back: a slice of numbers and a number. -/
theorem rback_any (x : Int) (a : Option Addr) (cap : Nat) (fs : List (Int × Int)) (w : World) (hx : Word x) (hN : FeeRow w a fs) (hlen : fs.length ≤ 200) :
    Calls Try.prog 49 #[.int .u64 x, .slice a fs.length cap] w fun e w' => ∃ a' c', e = .returned (.tuple #[.slice a' (backE x fs).2.length c', .int .i64 (backE x fs).1]) ∧ Nums w' a' (backE x fs).2 ∧ Below w.heap.size w w' := by
  have hw := backE_word x fs hx hN.2
  have key : Calls Try.prog 49 #[.int .u64 x, .slice a fs.length cap] w fun e w' => ∃ v, e = .returned (.tuple #[v, .int .i64 (backE x fs).1]) ∧ w'.ownsRow w.heap.size 28 1 v (backE x fs).2.length (nums (backE x fs).2) ∧ Below w.heap.size w w' := by
    rcases hN.1 with rfl | ⟨b, off, rfl, hb, hc⟩
    · exact rback_none x a cap w hx
    · by_cases h0 : fs.length = 0
      · have : fs = [] := List.eq_nil_of_length_eq_zero h0
        subst this
        exact rback_none x _ cap w hx
      · exact rback_core x b off cap fs.length fs w hx (Lib.hid hN) hb (Lib.hid rfl) hlen (by omega) (Lib.hid hc)
  refine key.mono fun e w' ⟨v, he, ho, hB⟩ => ?_
  obtain ⟨a', c', rfl, hn⟩ := Nums.of_own ho hw.1 (by omega)
  exact ⟨a', c', he, hn, hB⟩

set_option maxHeartbeats 1000000 in
/-- Two slices that read as one list are the same. -/
theorem same_any (a b : Option Addr) (c d : Nat) (xs : List Int) (w : World) (ha : Nums w a xs) (hb : Nums w b xs) :
    Calls Try.prog 50 #[.slice a xs.length c, .slice b xs.length d] w fun e w' => e = .returned (.bool true) ∧ ∃ n, w' = w.drewN n := by
  have hlen := ha.2.2
  by_cases h0 : xs = []
  · subst h0
    go_enter Try.func50, Try.ntmps50
    go_wp2_with fail
    refine wp_loop_rounds 1 ?_
    rw [rounds_succ]
    go_wp2
    go_ret
    exact ⟨rfl, 0, rfl⟩
  · rcases ha.1 with h | ⟨ga, oa, rfl, _, hca⟩
    · exact absurd h h0
    · rcases hb.1 with h | ⟨gb, ob, rfl, _, hcb⟩
      · exact absurd h h0
      · obtain ⟨len, hl⟩ : ∃ n, xs.length = n := ⟨_, rfl⟩
        rw [hl] at hlen ⊢
        have HL := Lib.hid hl
        have HA := Lib.hid hca
        have HB := Lib.hid hcb
        clear hl hca hcb ha hb h0
        have hq : ((len : Int) != (len : Int)) = false := by simp
        go_enter Try.func50, Try.ntmps50
        go_wp2_with fail
        go_loopw [13, 5] (fun i _ wr => ∃ (k n : Nat), k ≤ len ∧ i = .int .i64 k ∧ wr = w.drewN n) (fun i _ _ => len - (intOf i).toNat)
        case atStart => exact ⟨0, 0, Nat.zero_le _, rfl, rfl⟩
        case round =>
          obtain ⟨k, n, hk, rfl, rfl⟩ := hrel
          by_cases hlt : k < len
          · have c1 := HA.out k (by rw [HL.out]; exact hlt)
            have c2 := HB.out k (by rw [HL.out]; exact hlt)
            obtain ⟨x, hx⟩ : ∃ x, xs.getD k 0 = x := ⟨_, rfl⟩
            rw [hx] at c1 c2
            clear hx
            have b1 : (x != x) = false := by simp
            go_wp2_with fail
            go_quiet (fail)
            go_wp2_with fail
            go_roundw
            case rel => exact ⟨k + 1, _, by omega, by go_num, rfl⟩
            case measure => simp [intOf]; omega
          · go_wp2
            go_ret
            exact ⟨rfl, n, rfl⟩
end Go.Proofs.Ytneacogenjlhgaa
