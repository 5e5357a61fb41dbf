/-
  A trail of one node; the fees along a trail.
  slices.Index, slices.Contains of whole numbers.
  A row of one's own stands behind a cell that is set elsewhere.
-/
import Derived.Test.YtnnimjaigciedaaPathD
namespace Go.Proofs.Ytnnimjaigciedaa
open Go.RowKit
set_option linter.unusedVariables false

theorem own_of_blk {w : World} {g base size n : Nat} {t : TypeId} {cs : List Value} (h : Blk w g t cs) (hb : base ≤ g) (hl : cs.length = n * size) (hn : n ≤ maxLen) : w.ownsRow base t size (.slice (some ⟨g, 0, none⟩) n n) n cs :=
  ⟨hl, .inr ⟨g, n, cs.toArray, rfl, hb, h, Nat.le_refl _, hn, by simpa using hl, by simp [← hl]⟩⟩

set_option maxRecDepth 100000 in
set_option maxHeartbeats 2000000 in
theorem setOut_any (x : Int) (w : World) : Calls Try.prog 61 #[.int .i64 x] w (TrailPost w [x] []) := by
  have N0 : Blk ((w.alloc (.cells #[.slice (some ⟨w.heap.size + 1, 0, none⟩) 1 1, .slice none 0 0] 122)).alloc (.cells #[.int .i64 x] 3)) (w.heap.size + 1) 3 (ins [x]) := Blk.mk_ (cs := [.int .i64 x]) (by simp)
  have R0 : Blk ((w.alloc (.cells #[.slice (some ⟨w.heap.size + 1, 0, none⟩) 1 1, .slice none 0 0] 122)).alloc (.cells #[.int .i64 x] 3)) w.heap.size 122 [.slice (some ⟨w.heap.size + 1, 0, none⟩) 1 1, .slice none 0 0] := (Blk.mk_ (cs := [.slice (some ⟨w.heap.size + 1, 0, none⟩) 1 1, .slice none 0 0]) rfl).alloc _
  have B0 : Below w.heap.size w ((w.alloc (.cells #[.slice (some ⟨w.heap.size + 1, 0, none⟩) 1 1, .slice none 0 0] 122)).alloc (.cells #[.int .i64 x] 3)) := ((Below.refl _ _).alloc (Nat.le_refl _) _).alloc (by simp) _
  have HN := Lib.hid (own_of_blk (base := w.heap.size) (size := 1) (n := 1) N0 (by omega) rfl (by unfold maxLen; omega))
  have HR := Lib.hid R0
  have HB := Lib.hid B0
  clear N0 R0 B0
  go_enter Try.func61, Try.ntmps61
  go_wp2
  exact bodyPost_ret (result122 Try.results61 _ _ w.heap.size 122 (some ⟨w.heap.size + 1, 0, none⟩) none 1 0 1 0 rfl HR.out) rfl ⟨_, _, _, _, rfl, HN.out, World.ownsRow_nil _ _ _ _, HB.out⟩

/-- Fees as cells. -/
def pflat (l : List (Int × Int)) : List Value := l.flatMap fun f => [.int .u64 f.1, .int .u64 f.2]
theorem pflat_append (l m : List (Int × Int)) : pflat (l ++ m) = pflat l ++ pflat m := List.flatMap_append
def feesL (s : List Stp) : List (Int × Int) := (s.drop 1).map fun q => (q.b, q.r)
theorem feesL_take (s : List Stp) (k : Nat) (hk : k < s.length) (h0 : 0 < k) : feesL (s.take (k + 1)) = feesL (s.take k) ++ [((s.getD k stp00).b, (s.getD k stp00).r)] := by
  unfold feesL
  rw [List.take_succ_eq_append_getElem hk, List.drop_append_of_le_length (by rw [List.length_take]; omega), List.map_append]
  rw [show s.getD k stp00 = s[k] by simp [List.getD, hk]]
  rfl
theorem feesL_one (s : List Stp) : feesL (s.take 1) = [] := by unfold feesL; simp
theorem feesL_length (s : List Stp) : (feesL s).length = s.length - 1 := by unfold feesL; simp
theorem fee_info : (Try.prog.info? 42).map (fun i => (i.zero, i.size, i.bytes)) = some (some (.agg #[.int .u64 0, .int .u64 0]), 2, 16) := by kernel_rfl

/-- What is left behind by fees: a list of its own. -/
def FeesPost (w : World) (l : List (Int × Int)) (e : Ending) (w' : World) : Prop := ∃ v, e = .returned v ∧ w'.ownsRow w.heap.size 42 2 v l.length (pflat l) ∧ Below w.heap.size w w'

set_option maxRecDepth 100000 in
set_option maxHeartbeats 4000000 in
theorem fees_any (na : Option Addr) (n nc : Nat) (ta : Option Addr) (tl tc : Nat) (s : List Stp) (w : World) (hS : StpRow w ta s) (ht : s.length = tl) (ht2 : tl ≤ 100) :
    Calls Try.prog 88 #[.agg #[.slice na n nc, .slice ta tl tc]] w (FeesPost w (feesL s)) := by
  have HS := Lib.hid hS
  have HT := Lib.hid ht
  have B0 : Hid (Below w.heap.size w (w.alloc (.cells #[.slice na n nc, .slice ta tl tc] 122))) := Lib.hid ((Below.refl _ _).alloc (Nat.le_refl _) _)
  have O0 : Hid ((w.alloc (.cells #[.slice na n nc, .slice ta tl tc] 122)).ownsRow w.heap.size 42 2 (.slice none 0 0) 0 (pflat [])) := Lib.hid (World.ownsRow_nil _ _ _ _)
  clear hS ht
  obtain ⟨i0, hi, hz0, hz1, hz2⟩ := info_parts fee_info
  go_enter Try.func88, Try.ntmps88
  go_wp2
  go_loopw [3, 4, 5, 9] (fun l _ _ i wd => ∃ (k : Nat) (v : Value), k ≤ tl ∧ i = .int .i64 k ∧ v = l ∧ Hid (wd.ownsRow w.heap.size 42 2 v (feesL (s.take k)).length (pflat (feesL (s.take k)))) ∧ Hid (Below w.heap.size w wd)) (fun _ _ _ i _ => tl - (intOf i).toNat)
  case atStart => exact ⟨0, _, Nat.zero_le _, rfl, rfl, O0, B0⟩
  case round =>
    clear O0 B0
    obtain ⟨k, v, hk, rfl, rfl, O, B⟩ := hrel
    by_cases hlt : k < tl
    · have hk' : k < s.length := by rw [HT.out]; exact hlt
      obtain ⟨b, off, rfl, hc⟩ := HS.out.at_ hk'
      obtain ⟨e, t, c, fb, fr, hx⟩ : ∃ e t c b r, s.getD k stp00 = ⟨e, t, c, b, r⟩ := ⟨_, _, _, _, _, rfl⟩
      rw [hx] at hc
      have hc2 := hc.below B.out
      have e0 : wr.cell? ⟨b, off + k * 5, none⟩ = some (.int .i64 e) := hc2.2 0 _ rfl
      have e1 : wr.cell? ⟨b, off + k * 5 + 1, none⟩ = some (.int .i64 t) := hc2.2 1 _ rfl
      have e2 : wr.cell? ⟨b, off + k * 5 + 2, none⟩ = some (.int .u64 c) := hc2.2 2 _ rfl
      have e3 : wr.cell? ⟨b, off + k * 5 + 3, none⟩ = some (.int .u64 fb) := hc2.2 3 _ rfl
      have e4 : wr.cell? ⟨b, off + k * 5 + 4, none⟩ = some (.int .u64 fr) := hc2.2 4 _ rfl
      have B1 : Hid (Below w.heap.size w (wr.alloc (.cells #[.int .i64 e, .int .i64 t, .int .u64 c, .int .u64 fb, .int .u64 fr] 44))) := Lib.hid (B.out.alloc B.out.size _)
      have O1 : Hid ((wr.alloc (.cells #[.int .i64 e, .int .i64 t, .int .u64 c, .int .u64 fb, .int .u64 fr] 44)).ownsRow w.heap.size 42 2 v (feesL (s.take k)).length (pflat (feesL (s.take k)))) := Lib.hid (O.out.alloc _)
      by_cases h0 : k = 0
      · have HF : Hid (feesL (s.take (k + 1)) = feesL (s.take k)) := Lib.hid (by rw [h0, feesL_one]; simp [feesL])
        have d0 : decide (0 < k) = false := decide_eq_false (by omega)
        clear hc hc2 hx hk' h0
        go_wp2
        go_roundw
        case rel => exact ⟨k + 1, v, by omega, by go_num, rfl, Lib.hid (by rw [HF.out]; exact O1.out), B1⟩
        case measure => simp [intOf] <;> omega
      · have HF : Hid (feesL (s.take (k + 1)) = feesL (s.take k) ++ [(fb, fr)]) := Lib.hid (by rw [feesL_take s k hk' (by omega), hx])
        have hln : (feesL (s.take k)).length ≤ 100 := by rw [feesL_length, List.length_take]; omega
        have d0 : decide (0 < k) = true := decide_eq_true (by omega)
        have d1 : 0 < k := by omega
        clear hc hc2 hx hk'
        have B2 : Hid (Below w.heap.size w ((wr.alloc (.cells #[.int .i64 e, .int .i64 t, .int .u64 c, .int .u64 fb, .int .u64 fr] 44)).alloc (.cells #[.int .u64 fb, .int .u64 fr] 42))) := Lib.hid (B1.out.alloc B1.out.size _)
        have O2 : Hid (((wr.alloc (.cells #[.int .i64 e, .int .i64 t, .int .u64 c, .int .u64 fb, .int .u64 fr] 44)).alloc (.cells #[.int .u64 fb, .int .u64 fr] 42)).ownsRow w.heap.size 42 2 v (feesL (s.take k)).length (pflat (feesL (s.take k)))) := Lib.hid (O1.out.alloc _)
        have N2 : Hid (Blk ((wr.alloc (.cells #[.int .i64 e, .int .i64 t, .int .u64 c, .int .u64 fb, .int .u64 fr] 44)).alloc (.cells #[.int .u64 fb, .int .u64 fr] 42)) (wr.heap.size + 1) 42 (pflat [(fb, fr)])) := Lib.hid (Blk.mk_ (cs := [.int .u64 fb, .int .u64 fr]) (by simp))
        go_wp2_with (at_builtin; refine wpList_append_own_at _ rfl (.tmp 16) (.tmp 19) 152 rfl w.heap.size 42 i0 _ 2 16 Try.underlying152 hi hz0 hz1 hz2 rfl (by decide) v _ _ rfl O2.out ⟨wr.heap.size + 1, 0, none⟩ 1 1 (pflat [(fb, fr)]) rfl rfl (news_of N2.out) (fun u hu => by simp [pflat] at hu; rcases hu with rfl | rfl <;> rfl) (by unfold maxLen; omega) (by omega) B2.out.size ?_)
        intro v2 Y hO hG _ _
        have O3 : Hid (Y.ownsRow w.heap.size 42 2 v2 (feesL (s.take (k + 1))).length (pflat (feesL (s.take (k + 1))))) := Lib.hid (by rw [HF.out, pflat_append, List.length_append]; exact hO)
        have B3 := Lib.hid (below_own B2.out hG O2.out (Nat.le_refl _) B2.out.size)
        clear hO hG
        go_wp2
        go_roundw
        case rel => exact ⟨k + 1, v2, by omega, by go_num, rfl, O3, B3⟩
        case measure => simp [intOf] <;> omega
    · obtain rfl : k = tl := by omega
      have HO : Hid (wr.ownsRow w.heap.size 42 2 v (feesL s).length (pflat (feesL s))) := Lib.hid (by
        have := O.out
        rwa [List.take_of_length_le (by rw [HT.out]; exact Nat.le_refl _)] at this)
      go_wp2
      go_ret
      exact ⟨v, rfl, HO.out, B.out⟩
end Go.Proofs.Ytnnimjaigciedaa
namespace Go.Proofs.Ytnnimjaigciedaa
open Go.RowKit
set_option linter.unusedVariables false

def IndexPost (l : List Int) (x : Int) (w : World) (e : Ending) (w' : World) : Prop := ∃ r : Int, e = .returned (.int .i64 r) ∧ (0 ≤ r ↔ x ∈ l) ∧ w = w'

set_option maxRecDepth 100000 in
set_option maxHeartbeats 2000000 in
theorem index_any (a : Option Addr) (n c : Nat) (l : List Int) (x : Int) (w : World) (hR : IRow w a l) (hl : l.length = n) (hn : n ≤ 1000) :
    Calls Try.prog 75 #[.slice a n c, .int .i64 x] w (IndexPost l x w) := by
  have HR := Lib.hid hR
  have HL := Lib.hid hl
  clear hR hl
  go_enter Try.func75, Try.ntmps75
  go_wp2
  go_loop [5, 8] (fun _ i => ∃ k : Nat, k ≤ n ∧ i = .int .i64 k ∧ Hid (∀ j, j < k → l.getD j 0 ≠ x)) (fun _ i => n - (intOf i).toNat)
  case atStart => exact ⟨0, Nat.zero_le _, rfl, Lib.hid (fun j hj => by omega)⟩
  case round =>
    obtain ⟨k, hk, rfl, HF⟩ := hrel
    by_cases hlt : k < n
    · have hk' : k < l.length := by rw [HL.out]; exact hlt
      rcases HR.out with h | ⟨b, off, rfl, hb, hc⟩
      · rw [h] at hk'; simp at hk'
      · have e0 := hc k hk'
        have HM := Lib.hid (show l.getD k 0 ∈ l by rw [show l.getD k 0 = l[k] by simp [List.getD, hk']]; exact List.getElem_mem hk')
        obtain ⟨y, hy⟩ : ∃ y, l.getD k 0 = y := ⟨_, rfl⟩
        rw [hy] at e0 HM
        have HY := Lib.hid hy
        clear hc hk' hb hy
        by_cases hxy : x = y
        · have b0 : (x == y) = true := by simpa using hxy
          have HXY := Lib.hid hxy
          clear hxy
          go_wp2
          go_ret
          exact ⟨k, rfl, ⟨fun _ => by rw [HXY.out]; exact HM.out, fun _ => Int.natCast_nonneg _⟩, rfl⟩
        · have b0 : (x == y) = false := by simpa using hxy
          have HXY := Lib.hid hxy
          clear hxy
          go_wp2
          go_round
          case rel => exact ⟨k + 1, by omega, by go_num, Lib.hid (fun j hj => by
            by_cases h : j = k
            · rw [h, HY.out]; exact fun e => HXY.out e.symm
            · exact HF.out j (by omega))⟩
          case measure => simp [intOf] <;> omega
    · have HN : Hid (x ∉ l) := Lib.hid (fun hm => by
        obtain ⟨j, hj, he⟩ := List.mem_iff_getElem.1 hm
        exact HF.out j (by rw [HL.out] at hj; omega) (by rw [← he]; simp [List.getD, hj]))
      go_wp2
      go_ret
      exact ⟨-1, rfl, ⟨fun h => by omega, fun h => absurd h HN.out⟩, rfl⟩

set_option maxRecDepth 100000 in
theorem contains_any (a : Option Addr) (n c : Nat) (l : List Int) (x : Int) (w : World) (hR : IRow w a l) (hl : l.length = n) (hn : n ≤ 1000) :
    Calls Try.prog 48 #[.slice a n c, .int .i64 x] w fun e w' => e = .returned (.bool (decide (x ∈ l))) ∧ w = w' := by
  have HI := Lib.hid (index_any a n c l x w hR hl hn)
  clear hR hl
  go_enter Try.func48, Try.ntmps48
  go_wp2_with fail
  refine HI.out.mono ?_
  rintro e w' ⟨r, rfl, hr, rfl⟩
  by_cases hm : x ∈ l
  · have d0 : decide ((0 : Int) ≤ r) = true := decide_eq_true (hr.2 hm)
    have HE : Hid (decide (x ∈ l) = true) := Lib.hid (decide_eq_true hm)
    clear hr hm
    go_wp2
    go_ret
    exact ⟨by rw [HE.out]; rfl, rfl⟩
  · have d0 : decide ((0 : Int) ≤ r) = false := decide_eq_false (fun h => hm (hr.1 h))
    have HE : Hid (decide (x ∈ l) = false) := Lib.hid (decide_eq_false hm)
    clear hr hm
    go_wp2
    go_ret
    exact ⟨by rw [HE.out]; rfl, rfl⟩
end Go.Proofs.Ytnnimjaigciedaa
namespace Go.Proofs.Ytnnimjaigciedaa
open Go.RowKit
set_option linter.unusedVariables false

theorem own_set {w : World} {base size n g o : Nat} {e t : TypeId} {v u : Value} {xs cs : List Value} (h : w.ownsRow base e size v n xs) (hb : Blk w g t cs) (hne : t ≠ e) : (w.setCell ⟨g, o, none⟩ u).ownsRow base e size v n xs := by
  refine ⟨h.1, ?_⟩
  rcases h.2 with h1 | ⟨g', cap, cur, hv, hbg, hgg, rest⟩
  · exact .inl h1
  · have hB : Blk w g' e cur.toList := by unfold Blk; simpa using hgg
    exact .inr ⟨g', cap, cur, hv, hbg, by simpa [Blk] using hB.far (p := ⟨g, o, none⟩) (fun e9 => Blk.ne_ hb hB hne e9.symm) u, rest⟩
end Go.Proofs.Ytnnimjaigciedaa
