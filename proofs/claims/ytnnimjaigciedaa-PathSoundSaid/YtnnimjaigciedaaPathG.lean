/-
  The document's Right, in, side.
-/
import Derived.Test.YtnnimjaigciedaaM09
namespace Go.Proofs.Ytnnimjaigciedaa
open Go.RowKit
set_option linter.unusedVariables false

set_option maxRecDepth 100000 in
set_option maxHeartbeats 2000000 in
theorem rin_any (a : Option Addr) (n c : Nat) (l : List Int) (x : Int) (w : World) (hR : IRow w a l) (hl : l.length = n) (hn : n ≤ 1000) :
    Calls Try.prog 82 #[.slice a n c, .int .i64 x] w fun e w' => e = .returned (.bool (decide (x ∈ l))) ∧ w = w' := by
  have HR := Lib.hid hR
  have HL := Lib.hid hl
  clear hR hl
  go_enter Try.func82, Try.ntmps82
  go_wp2
  go_loop [5] (fun i => ∃ k : Nat, k ≤ n ∧ i = .int .i64 k ∧ Hid (∀ j, j < k → l.getD j 0 ≠ x)) (fun i => n - (intOf i).toNat)
  case atStart => exact ⟨0, Nat.zero_le _, rfl, Lib.hid (fun j hj => by omega)⟩
  case round =>
    obtain ⟨k, hk, rfl, HF⟩ := hrel
    by_cases hlt : k < n
    · have hk' : k < l.length := by rw [HL.out]; exact hlt
      rcases HR.out with h | ⟨b, off, rfl, hb, hc⟩
      · rw [h] at hk'; simp at hk'
      · have e0 := hc k hk'
        have HM := Lib.hid (show l.getD k 0 ∈ l by rw [show l.getD k 0 = l[k] by simp [List.getD, hk']]; exact List.getElem_mem hk')
        obtain ⟨y, hy⟩ : ∃ y, l.getD k 0 = y := ⟨_, rfl⟩
        rw [hy] at e0 HM
        have HY := Lib.hid hy
        clear hc hk' hb hy
        by_cases hxy : y = x
        · have b0 : (y == x) = true := by simpa using hxy
          have HE : Hid (decide (x ∈ l) = true) := Lib.hid (decide_eq_true (hxy ▸ HM.out))
          clear hxy
          go_wp2
          go_ret
          exact ⟨by rw [HE.out]; rfl, rfl⟩
        · have b0 : (y == x) = false := by simpa using hxy
          have HXY := Lib.hid hxy
          clear hxy
          go_wp2
          go_round
          case rel => exact ⟨k + 1, by omega, by go_num, Lib.hid (fun j hj => by
            by_cases h : j = k
            · rw [h, HY.out]; exact HXY.out
            · exact HF.out j (by omega))⟩
          case measure => simp [intOf] <;> omega
    · have HE : Hid (decide (x ∈ l) = false) := Lib.hid (decide_eq_false (fun hm => by
        obtain ⟨j, hj, he⟩ := List.mem_iff_getElem.1 hm
        exact HF.out j (by rw [HL.out] at hj; omega) (by rw [← he]; simp [List.getD, hj])))
      go_wp2
      go_ret
      exact ⟨by rw [HE.out]; rfl, rfl⟩

/-- At which end a node is held to be. -/
def refSide (e : Ed) (n : Int) : Int := if e.p = n then 0 else 1
set_option maxRecDepth 100000 in
set_option maxHeartbeats 2000000 in
theorem rside_any (sa : Option Addr) (sl sc : Nat) (ea : Option Addr) (el ec : Nat) (es : List Ed) (k : Nat) (n : Int) (w : World) (hE : EdgeRow w ea es) (hel : es.length = el) (hk : k < el) (hel2 : el ≤ 1000) :
    Calls Try.prog 89 #[.agg #[.slice sa sl sc, .slice ea el ec], .int .i64 k, .int .i64 n] w fun e w' => e = .returned (.int .i64 (refSide (es.getD k ed0) n)) ∧ Below w.heap.size w w' := by
  obtain ⟨b, off, rfl, hb, hc⟩ := hE.at_ (k := k) (by rw [hel]; exact hk)
  have hx : (w.alloc (.cells #[.slice sa sl sc, .slice (some ⟨b, off, none⟩) el ec] 25)).cell? ⟨b, off + k * 8, none⟩ = some (.int .i64 (es.getD k ed0).p) := by
    rw [World.cell?_alloc_lt w _ _ hb]; exact hc 0 _ rfl
  have k0 : (0 : Int) ≤ (k : Int) := Int.natCast_nonneg _
  have k1 : (k : Int) < (el : Int) := by omega
  by_cases h : (es.getD k ed0).p = n
  · have HE : Hid (refSide (es.getD k ed0) n = 0) := Lib.hid (if_pos h)
    obtain ⟨p, hp⟩ : ∃ p, (es.getD k ed0).p = p := ⟨_, rfl⟩
    rw [hp] at hx h
    have b0 : (p == n) = true := by simpa using h
    clear hc hel hp h hE
    go_enter Try.func89, Try.ntmps89
    go_wp2
    go_ret
    exact ⟨by rw [HE.out]; rfl, (Below.refl _ _).alloc (Nat.le_refl _) _⟩
  · have HE : Hid (refSide (es.getD k ed0) n = 1) := Lib.hid (if_neg h)
    obtain ⟨p, hp⟩ : ∃ p, (es.getD k ed0).p = p := ⟨_, rfl⟩
    rw [hp] at hx h
    have b0 : (p == n) = false := by simpa using h
    clear hc hel hp h hE
    go_enter Try.func89, Try.ntmps89
    go_wp2
    go_ret
    exact ⟨by rw [HE.out]; rfl, (Below.refl _ _).alloc (Nat.le_refl _) _⟩

set_option maxRecDepth 100000 in
set_option maxHeartbeats 2000000 in
theorem right_check (sa : Option Addr) (sl sc : Nat) (ea : Option Addr) (el ec : Nat) (es : List Ed) (src goal amt : Int) (w : World) (hE : EdgeRow w ea es) (hel : es.length = el) (hel2 : el ≤ 100) (hsl2 : sl ≤ 1000) (hc : checkE sl es ≠ 0) :
    Calls Try.prog 63 #[.agg #[.slice sa sl sc, .slice ea el ec], .int .i64 src, .int .i64 goal, .int .u64 amt] w fun e w' => e = .returned (.int .i64 (seekE sl es src goal amt)) ∧ Below w.heap.size w w' := by
  have HX : Hid (seekE sl es src goal amt = checkE sl es) := Lib.hid (by unfold seekE; rw [if_pos hc])
  have b0 : (checkE sl es != 0) = true := by simpa using hc
  clear hc
  have HEL := Lib.hid hel
  have Ew := Lib.hid hE
  have Bw : Hid (Below w.heap.size w w) := Lib.hid (Below.refl _ _)
  clear hel hE
  go_enter Try.func63, Try.ntmps63
  have hB : Below w.heap.size w (w.alloc (.cells #[.slice sa sl sc, .slice ea el ec] 25)) := (Below.refl _ _).alloc (Nat.le_refl _) _
  have BY1 : Hid (Below w.heap.size w (w.alloc (.cells #[.slice sa sl sc, .slice ea el ec] 25))) := Lib.hid (Bw.out.trans (hB.mono Bw.out.size))
  have EY1 : Hid (EdgeRow (w.alloc (.cells #[.slice sa sl sc, .slice ea el ec] 25)) ea es) := Lib.hid (Ew.out.below hB)
  have PY1 : Hid (Blk (w.alloc (.cells #[.slice sa sl sc, .slice ea el ec] 25)) w.heap.size 25 [.slice sa sl sc, .slice ea el ec]) := Lib.hid (Blk.new _ _ [.slice sa sl sc, .slice ea el ec])
  clear hB Bw Ew
  go_wp2_with fail
  generalize (w.alloc (.cells #[.slice sa sl sc, .slice ea el ec] 25)) = Y1 at BY1 EY1 PY1 ⊢
  generalize w.heap.size = gp at PY1 ⊢
  refine (rcheck_any sa sl sc ea el ec es Y1 EY1.out HEL.out (by omega) (by omega)).mono ?_
  rintro e Y2 ⟨rfl, hB⟩
  have BY2 : Hid (Below w.heap.size w Y2) := Lib.hid (BY1.out.trans (hB.mono BY1.out.size))
  have EY2 : Hid (EdgeRow Y2 ea es) := Lib.hid (EY1.out.below hB)
  have PY2 : Hid (Blk Y2 gp 25 [.slice sa sl sc, .slice ea el ec]) := Lib.hid (PY1.out.below hB PY1.out.lt)
  clear BY1 EY1 PY1
  clear hB
  go_wp2
  go_ret
  exact ⟨by rw [HX.out]; rfl, BY2.out⟩

set_option maxRecDepth 100000 in
set_option maxHeartbeats 2000000 in
theorem right_a (sa : Option Addr) (sl sc : Nat) (ea : Option Addr) (el ec : Nat) (es : List Ed) (src goal amt : Int) (w : World) (hE : EdgeRow w ea es) (hel : es.length = el) (hel2 : el ≤ 100) (hsl2 : sl ≤ 1000) (hc : checkE sl es = 0) (h : src < 0) :
    Calls Try.prog 63 #[.agg #[.slice sa sl sc, .slice ea el ec], .int .i64 src, .int .i64 goal, .int .u64 amt] w fun e w' => e = .returned (.int .i64 (seekE sl es src goal amt)) ∧ Below w.heap.size w w' := by
  have hb : hasB src sl = false := decide_eq_false (by omega)
  have HX : Hid (seekE sl es src goal amt = 1) := Lib.hid (by unfold seekE; rw [if_neg (by rw [hc]; simp)]; simp [hb])
  have d0 : decide (src < 0) = true := decide_eq_true h
  clear hb h
  have HC := Lib.hid hc
  clear hc
  have HEL := Lib.hid hel
  have Ew := Lib.hid hE
  have Bw : Hid (Below w.heap.size w w) := Lib.hid (Below.refl _ _)
  clear hel hE
  go_enter Try.func63, Try.ntmps63
  have hB : Below w.heap.size w (w.alloc (.cells #[.slice sa sl sc, .slice ea el ec] 25)) := (Below.refl _ _).alloc (Nat.le_refl _) _
  have BY1 : Hid (Below w.heap.size w (w.alloc (.cells #[.slice sa sl sc, .slice ea el ec] 25))) := Lib.hid (Bw.out.trans (hB.mono Bw.out.size))
  have EY1 : Hid (EdgeRow (w.alloc (.cells #[.slice sa sl sc, .slice ea el ec] 25)) ea es) := Lib.hid (Ew.out.below hB)
  have PY1 : Hid (Blk (w.alloc (.cells #[.slice sa sl sc, .slice ea el ec] 25)) w.heap.size 25 [.slice sa sl sc, .slice ea el ec]) := Lib.hid (Blk.new _ _ [.slice sa sl sc, .slice ea el ec])
  clear hB Bw Ew
  go_wp2_with fail
  generalize (w.alloc (.cells #[.slice sa sl sc, .slice ea el ec] 25)) = Y1 at BY1 EY1 PY1 ⊢
  generalize w.heap.size = gp at PY1 ⊢
  refine (rcheck_any sa sl sc ea el ec es Y1 EY1.out HEL.out (by omega) (by omega)).mono ?_
  rintro e Y2 ⟨rfl, hB⟩
  have BY2 : Hid (Below w.heap.size w Y2) := Lib.hid (BY1.out.trans (hB.mono BY1.out.size))
  have EY2 : Hid (EdgeRow Y2 ea es) := Lib.hid (EY1.out.below hB)
  have PY2 : Hid (Blk Y2 gp 25 [.slice sa sl sc, .slice ea el ec]) := Lib.hid (PY1.out.below hB PY1.out.lt)
  clear BY1 EY1 PY1
  clear hB
  rw [HC.out]
  have cP0 := Blk.cell PY2.out 0
  have cP1 := Blk.cell PY2.out 1
  simp only [List.getElem?_cons_zero, List.getElem?_cons_succ] at cP0 cP1
  go_wp2
  go_ret
  exact ⟨by rw [HX.out]; rfl, BY2.out⟩

set_option maxRecDepth 100000 in
set_option maxHeartbeats 2000000 in
theorem right_b (sa : Option Addr) (sl sc : Nat) (ea : Option Addr) (el ec : Nat) (es : List Ed) (src goal amt : Int) (w : World) (hE : EdgeRow w ea es) (hel : es.length = el) (hel2 : el ≤ 100) (hsl2 : sl ≤ 1000) (hc : checkE sl es = 0) (h : (sl : Int) ≤ src) :
    Calls Try.prog 63 #[.agg #[.slice sa sl sc, .slice ea el ec], .int .i64 src, .int .i64 goal, .int .u64 amt] w fun e w' => e = .returned (.int .i64 (seekE sl es src goal amt)) ∧ Below w.heap.size w w' := by
  have hb : hasB src sl = false := decide_eq_false (by omega)
  have HX : Hid (seekE sl es src goal amt = 1) := Lib.hid (by unfold seekE; rw [if_neg (by rw [hc]; simp)]; simp [hb])
  have d0 : decide (src < 0) = false := decide_eq_false (by omega)
  have d1 : decide ((sl : Int) ≤ src) = true := decide_eq_true h
  clear hb h
  have HC := Lib.hid hc
  clear hc
  have HEL := Lib.hid hel
  have Ew := Lib.hid hE
  have Bw : Hid (Below w.heap.size w w) := Lib.hid (Below.refl _ _)
  clear hel hE
  go_enter Try.func63, Try.ntmps63
  have hB : Below w.heap.size w (w.alloc (.cells #[.slice sa sl sc, .slice ea el ec] 25)) := (Below.refl _ _).alloc (Nat.le_refl _) _
  have BY1 : Hid (Below w.heap.size w (w.alloc (.cells #[.slice sa sl sc, .slice ea el ec] 25))) := Lib.hid (Bw.out.trans (hB.mono Bw.out.size))
  have EY1 : Hid (EdgeRow (w.alloc (.cells #[.slice sa sl sc, .slice ea el ec] 25)) ea es) := Lib.hid (Ew.out.below hB)
  have PY1 : Hid (Blk (w.alloc (.cells #[.slice sa sl sc, .slice ea el ec] 25)) w.heap.size 25 [.slice sa sl sc, .slice ea el ec]) := Lib.hid (Blk.new _ _ [.slice sa sl sc, .slice ea el ec])
  clear hB Bw Ew
  go_wp2_with fail
  generalize (w.alloc (.cells #[.slice sa sl sc, .slice ea el ec] 25)) = Y1 at BY1 EY1 PY1 ⊢
  generalize w.heap.size = gp at PY1 ⊢
  refine (rcheck_any sa sl sc ea el ec es Y1 EY1.out HEL.out (by omega) (by omega)).mono ?_
  rintro e Y2 ⟨rfl, hB⟩
  have BY2 : Hid (Below w.heap.size w Y2) := Lib.hid (BY1.out.trans (hB.mono BY1.out.size))
  have EY2 : Hid (EdgeRow Y2 ea es) := Lib.hid (EY1.out.below hB)
  have PY2 : Hid (Blk Y2 gp 25 [.slice sa sl sc, .slice ea el ec]) := Lib.hid (PY1.out.below hB PY1.out.lt)
  clear BY1 EY1 PY1
  clear hB
  rw [HC.out]
  have cP0 := Blk.cell PY2.out 0
  have cP1 := Blk.cell PY2.out 1
  simp only [List.getElem?_cons_zero, List.getElem?_cons_succ] at cP0 cP1
  go_wp2
  go_ret
  exact ⟨by rw [HX.out]; rfl, BY2.out⟩

set_option maxRecDepth 100000 in
set_option maxHeartbeats 2000000 in
theorem right_c (sa : Option Addr) (sl sc : Nat) (ea : Option Addr) (el ec : Nat) (es : List Ed) (src goal amt : Int) (w : World) (hE : EdgeRow w ea es) (hel : es.length = el) (hel2 : el ≤ 100) (hsl2 : sl ≤ 1000) (hc : checkE sl es = 0) (hs0 : 0 ≤ src) (hs1 : src < (sl : Int)) (h : goal < 0) :
    Calls Try.prog 63 #[.agg #[.slice sa sl sc, .slice ea el ec], .int .i64 src, .int .i64 goal, .int .u64 amt] w fun e w' => e = .returned (.int .i64 (seekE sl es src goal amt)) ∧ Below w.heap.size w w' := by
  have d0 : decide (src < 0) = false := decide_eq_false (by omega)
  have d1 : decide ((sl : Int) ≤ src) = false := decide_eq_false (by omega)
  have ha : hasB src sl = true := decide_eq_true ⟨hs0, hs1⟩
  have hb : hasB goal sl = false := decide_eq_false (by omega)
  have HX : Hid (seekE sl es src goal amt = 1) := Lib.hid (by unfold seekE; rw [if_neg (by rw [hc]; simp)]; simp [hb])
  have d2 : decide (goal < 0) = true := decide_eq_true h
  clear hb h ha hs0 hs1
  have HC := Lib.hid hc
  clear hc
  have HEL := Lib.hid hel
  have Ew := Lib.hid hE
  have Bw : Hid (Below w.heap.size w w) := Lib.hid (Below.refl _ _)
  clear hel hE
  go_enter Try.func63, Try.ntmps63
  have hB : Below w.heap.size w (w.alloc (.cells #[.slice sa sl sc, .slice ea el ec] 25)) := (Below.refl _ _).alloc (Nat.le_refl _) _
  have BY1 : Hid (Below w.heap.size w (w.alloc (.cells #[.slice sa sl sc, .slice ea el ec] 25))) := Lib.hid (Bw.out.trans (hB.mono Bw.out.size))
  have EY1 : Hid (EdgeRow (w.alloc (.cells #[.slice sa sl sc, .slice ea el ec] 25)) ea es) := Lib.hid (Ew.out.below hB)
  have PY1 : Hid (Blk (w.alloc (.cells #[.slice sa sl sc, .slice ea el ec] 25)) w.heap.size 25 [.slice sa sl sc, .slice ea el ec]) := Lib.hid (Blk.new _ _ [.slice sa sl sc, .slice ea el ec])
  clear hB Bw Ew
  go_wp2_with fail
  generalize (w.alloc (.cells #[.slice sa sl sc, .slice ea el ec] 25)) = Y1 at BY1 EY1 PY1 ⊢
  generalize w.heap.size = gp at PY1 ⊢
  refine (rcheck_any sa sl sc ea el ec es Y1 EY1.out HEL.out (by omega) (by omega)).mono ?_
  rintro e Y2 ⟨rfl, hB⟩
  have BY2 : Hid (Below w.heap.size w Y2) := Lib.hid (BY1.out.trans (hB.mono BY1.out.size))
  have EY2 : Hid (EdgeRow Y2 ea es) := Lib.hid (EY1.out.below hB)
  have PY2 : Hid (Blk Y2 gp 25 [.slice sa sl sc, .slice ea el ec]) := Lib.hid (PY1.out.below hB PY1.out.lt)
  clear BY1 EY1 PY1
  clear hB
  rw [HC.out]
  have cP0 := Blk.cell PY2.out 0
  have cP1 := Blk.cell PY2.out 1
  simp only [List.getElem?_cons_zero, List.getElem?_cons_succ] at cP0 cP1
  go_wp2
  go_ret
  exact ⟨by rw [HX.out]; rfl, BY2.out⟩

set_option maxRecDepth 100000 in
set_option maxHeartbeats 2000000 in
theorem right_d (sa : Option Addr) (sl sc : Nat) (ea : Option Addr) (el ec : Nat) (es : List Ed) (src goal amt : Int) (w : World) (hE : EdgeRow w ea es) (hel : es.length = el) (hel2 : el ≤ 100) (hsl2 : sl ≤ 1000) (hc : checkE sl es = 0) (hs0 : 0 ≤ src) (hs1 : src < (sl : Int)) (h : (sl : Int) ≤ goal) :
    Calls Try.prog 63 #[.agg #[.slice sa sl sc, .slice ea el ec], .int .i64 src, .int .i64 goal, .int .u64 amt] w fun e w' => e = .returned (.int .i64 (seekE sl es src goal amt)) ∧ Below w.heap.size w w' := by
  have d0 : decide (src < 0) = false := decide_eq_false (by omega)
  have d1 : decide ((sl : Int) ≤ src) = false := decide_eq_false (by omega)
  have ha : hasB src sl = true := decide_eq_true ⟨hs0, hs1⟩
  have hb : hasB goal sl = false := decide_eq_false (by omega)
  have HX : Hid (seekE sl es src goal amt = 1) := Lib.hid (by unfold seekE; rw [if_neg (by rw [hc]; simp)]; simp [hb])
  have d2 : decide (goal < 0) = false := decide_eq_false (by omega)
  have d3 : decide ((sl : Int) ≤ goal) = true := decide_eq_true h
  clear hb h ha hs0 hs1
  have HC := Lib.hid hc
  clear hc
  have HEL := Lib.hid hel
  have Ew := Lib.hid hE
  have Bw : Hid (Below w.heap.size w w) := Lib.hid (Below.refl _ _)
  clear hel hE
  go_enter Try.func63, Try.ntmps63
  have hB : Below w.heap.size w (w.alloc (.cells #[.slice sa sl sc, .slice ea el ec] 25)) := (Below.refl _ _).alloc (Nat.le_refl _) _
  have BY1 : Hid (Below w.heap.size w (w.alloc (.cells #[.slice sa sl sc, .slice ea el ec] 25))) := Lib.hid (Bw.out.trans (hB.mono Bw.out.size))
  have EY1 : Hid (EdgeRow (w.alloc (.cells #[.slice sa sl sc, .slice ea el ec] 25)) ea es) := Lib.hid (Ew.out.below hB)
  have PY1 : Hid (Blk (w.alloc (.cells #[.slice sa sl sc, .slice ea el ec] 25)) w.heap.size 25 [.slice sa sl sc, .slice ea el ec]) := Lib.hid (Blk.new _ _ [.slice sa sl sc, .slice ea el ec])
  clear hB Bw Ew
  go_wp2_with fail
  generalize (w.alloc (.cells #[.slice sa sl sc, .slice ea el ec] 25)) = Y1 at BY1 EY1 PY1 ⊢
  generalize w.heap.size = gp at PY1 ⊢
  refine (rcheck_any sa sl sc ea el ec es Y1 EY1.out HEL.out (by omega) (by omega)).mono ?_
  rintro e Y2 ⟨rfl, hB⟩
  have BY2 : Hid (Below w.heap.size w Y2) := Lib.hid (BY1.out.trans (hB.mono BY1.out.size))
  have EY2 : Hid (EdgeRow Y2 ea es) := Lib.hid (EY1.out.below hB)
  have PY2 : Hid (Blk Y2 gp 25 [.slice sa sl sc, .slice ea el ec]) := Lib.hid (PY1.out.below hB PY1.out.lt)
  clear BY1 EY1 PY1
  clear hB
  rw [HC.out]
  have cP0 := Blk.cell PY2.out 0
  have cP1 := Blk.cell PY2.out 1
  simp only [List.getElem?_cons_zero, List.getElem?_cons_succ] at cP0 cP1
  go_wp2
  go_ret
  exact ⟨by rw [HX.out]; rfl, BY2.out⟩

set_option maxRecDepth 100000 in
set_option maxHeartbeats 2000000 in
theorem right_e (sa : Option Addr) (sl sc : Nat) (ea : Option Addr) (el ec : Nat) (es : List Ed) (src goal amt : Int) (w : World) (hE : EdgeRow w ea es) (hel : es.length = el) (hel2 : el ≤ 100) (hsl2 : sl ≤ 1000) (hc : checkE sl es = 0) (hs0 : 0 ≤ src) (hs1 : src < (sl : Int)) (hg0 : 0 ≤ goal) (hg1 : goal < (sl : Int)) (h : src = goal) :
    Calls Try.prog 63 #[.agg #[.slice sa sl sc, .slice ea el ec], .int .i64 src, .int .i64 goal, .int .u64 amt] w fun e w' => e = .returned (.int .i64 (seekE sl es src goal amt)) ∧ Below w.heap.size w w' := by
  have d0 : decide (src < 0) = false := decide_eq_false (by omega)
  have d1 : decide ((sl : Int) ≤ src) = false := decide_eq_false (by omega)
  have ha : hasB src sl = true := decide_eq_true ⟨hs0, hs1⟩
  have d2 : decide (goal < 0) = false := decide_eq_false (by omega)
  have d3 : decide ((sl : Int) ≤ goal) = false := decide_eq_false (by omega)
  have hb : hasB goal sl = true := decide_eq_true ⟨hg0, hg1⟩
  have HX : Hid (seekE sl es src goal amt = 1) := Lib.hid (by unfold seekE; rw [if_neg (by rw [hc]; simp)]; simp [h])
  have b3 : (src == goal) = true := by simpa using h
  clear hb h ha hs0 hs1 hg0 hg1
  have HC := Lib.hid hc
  clear hc
  have HEL := Lib.hid hel
  have Ew := Lib.hid hE
  have Bw : Hid (Below w.heap.size w w) := Lib.hid (Below.refl _ _)
  clear hel hE
  go_enter Try.func63, Try.ntmps63
  have hB : Below w.heap.size w (w.alloc (.cells #[.slice sa sl sc, .slice ea el ec] 25)) := (Below.refl _ _).alloc (Nat.le_refl _) _
  have BY1 : Hid (Below w.heap.size w (w.alloc (.cells #[.slice sa sl sc, .slice ea el ec] 25))) := Lib.hid (Bw.out.trans (hB.mono Bw.out.size))
  have EY1 : Hid (EdgeRow (w.alloc (.cells #[.slice sa sl sc, .slice ea el ec] 25)) ea es) := Lib.hid (Ew.out.below hB)
  have PY1 : Hid (Blk (w.alloc (.cells #[.slice sa sl sc, .slice ea el ec] 25)) w.heap.size 25 [.slice sa sl sc, .slice ea el ec]) := Lib.hid (Blk.new _ _ [.slice sa sl sc, .slice ea el ec])
  clear hB Bw Ew
  go_wp2_with fail
  generalize (w.alloc (.cells #[.slice sa sl sc, .slice ea el ec] 25)) = Y1 at BY1 EY1 PY1 ⊢
  generalize w.heap.size = gp at PY1 ⊢
  refine (rcheck_any sa sl sc ea el ec es Y1 EY1.out HEL.out (by omega) (by omega)).mono ?_
  rintro e Y2 ⟨rfl, hB⟩
  have BY2 : Hid (Below w.heap.size w Y2) := Lib.hid (BY1.out.trans (hB.mono BY1.out.size))
  have EY2 : Hid (EdgeRow Y2 ea es) := Lib.hid (EY1.out.below hB)
  have PY2 : Hid (Blk Y2 gp 25 [.slice sa sl sc, .slice ea el ec]) := Lib.hid (PY1.out.below hB PY1.out.lt)
  clear BY1 EY1 PY1
  clear hB
  rw [HC.out]
  have cP0 := Blk.cell PY2.out 0
  have cP1 := Blk.cell PY2.out 1
  simp only [List.getElem?_cons_zero, List.getElem?_cons_succ] at cP0 cP1
  go_wp2
  go_ret
  exact ⟨by rw [HX.out]; rfl, BY2.out⟩

set_option maxRecDepth 100000 in
set_option maxHeartbeats 2000000 in
theorem right_f (sa : Option Addr) (sl sc : Nat) (ea : Option Addr) (el ec : Nat) (es : List Ed) (src goal amt : Int) (w : World) (hE : EdgeRow w ea es) (hel : es.length = el) (hel2 : el ≤ 100) (hsl2 : sl ≤ 1000) (hc : checkE sl es = 0) (hs0 : 0 ≤ src) (hs1 : src < (sl : Int)) (hg0 : 0 ≤ goal) (hg1 : goal < (sl : Int)) (h : ¬ src = goal) (h4 : amt = 0) :
    Calls Try.prog 63 #[.agg #[.slice sa sl sc, .slice ea el ec], .int .i64 src, .int .i64 goal, .int .u64 amt] w fun e w' => e = .returned (.int .i64 (seekE sl es src goal amt)) ∧ Below w.heap.size w w' := by
  have d0 : decide (src < 0) = false := decide_eq_false (by omega)
  have d1 : decide ((sl : Int) ≤ src) = false := decide_eq_false (by omega)
  have ha : hasB src sl = true := decide_eq_true ⟨hs0, hs1⟩
  have d2 : decide (goal < 0) = false := decide_eq_false (by omega)
  have d3 : decide ((sl : Int) ≤ goal) = false := decide_eq_false (by omega)
  have hb : hasB goal sl = true := decide_eq_true ⟨hg0, hg1⟩
  have HX : Hid (seekE sl es src goal amt = 1) := Lib.hid (by unfold seekE; rw [if_neg (by rw [hc]; simp)]; simp [h4])
  have b3 : (src == goal) = false := by simpa using h
  have b4 : (amt == 0) = true := by simpa using h4
  clear hb h ha hs0 hs1 hg0 hg1 h4
  have HC := Lib.hid hc
  clear hc
  have HEL := Lib.hid hel
  have Ew := Lib.hid hE
  have Bw : Hid (Below w.heap.size w w) := Lib.hid (Below.refl _ _)
  clear hel hE
  go_enter Try.func63, Try.ntmps63
  have hB : Below w.heap.size w (w.alloc (.cells #[.slice sa sl sc, .slice ea el ec] 25)) := (Below.refl _ _).alloc (Nat.le_refl _) _
  have BY1 : Hid (Below w.heap.size w (w.alloc (.cells #[.slice sa sl sc, .slice ea el ec] 25))) := Lib.hid (Bw.out.trans (hB.mono Bw.out.size))
  have EY1 : Hid (EdgeRow (w.alloc (.cells #[.slice sa sl sc, .slice ea el ec] 25)) ea es) := Lib.hid (Ew.out.below hB)
  have PY1 : Hid (Blk (w.alloc (.cells #[.slice sa sl sc, .slice ea el ec] 25)) w.heap.size 25 [.slice sa sl sc, .slice ea el ec]) := Lib.hid (Blk.new _ _ [.slice sa sl sc, .slice ea el ec])
  clear hB Bw Ew
  go_wp2_with fail
  generalize (w.alloc (.cells #[.slice sa sl sc, .slice ea el ec] 25)) = Y1 at BY1 EY1 PY1 ⊢
  generalize w.heap.size = gp at PY1 ⊢
  refine (rcheck_any sa sl sc ea el ec es Y1 EY1.out HEL.out (by omega) (by omega)).mono ?_
  rintro e Y2 ⟨rfl, hB⟩
  have BY2 : Hid (Below w.heap.size w Y2) := Lib.hid (BY1.out.trans (hB.mono BY1.out.size))
  have EY2 : Hid (EdgeRow Y2 ea es) := Lib.hid (EY1.out.below hB)
  have PY2 : Hid (Blk Y2 gp 25 [.slice sa sl sc, .slice ea el ec]) := Lib.hid (PY1.out.below hB PY1.out.lt)
  clear BY1 EY1 PY1
  clear hB
  rw [HC.out]
  have cP0 := Blk.cell PY2.out 0
  have cP1 := Blk.cell PY2.out 1
  simp only [List.getElem?_cons_zero, List.getElem?_cons_succ] at cP0 cP1
  go_wp2
  go_ret
  exact ⟨by rw [HX.out]; rfl, BY2.out⟩

set_option maxRecDepth 100000 in
set_option maxHeartbeats 2000000 in
theorem right_g (sa : Option Addr) (sl sc : Nat) (ea : Option Addr) (el ec : Nat) (es : List Ed) (src goal amt : Int) (w : World) (hE : EdgeRow w ea es) (hel : es.length = el) (hel2 : el ≤ 100) (hsl2 : sl ≤ 1000) (hc : checkE sl es = 0) (hs0 : 0 ≤ src) (hs1 : src < (sl : Int)) (hg0 : 0 ≤ goal) (hg1 : goal < (sl : Int)) (h : ¬ src = goal) (h4 : ¬ amt = 0) :
    Calls Try.prog 63 #[.agg #[.slice sa sl sc, .slice ea el ec], .int .i64 src, .int .i64 goal, .int .u64 amt] w fun e w' => e = .returned (.int .i64 (seekE sl es src goal amt)) ∧ Below w.heap.size w w' := by
  have d0 : decide (src < 0) = false := decide_eq_false (by omega)
  have d1 : decide ((sl : Int) ≤ src) = false := decide_eq_false (by omega)
  have ha : hasB src sl = true := decide_eq_true ⟨hs0, hs1⟩
  have d2 : decide (goal < 0) = false := decide_eq_false (by omega)
  have d3 : decide ((sl : Int) ≤ goal) = false := decide_eq_false (by omega)
  have hb : hasB goal sl = true := decide_eq_true ⟨hg0, hg1⟩
  have HX : Hid (seekE sl es src goal amt = 0) := Lib.hid (by unfold seekE; rw [if_neg (by rw [hc]; simp)]; simp [ha, hb, h, h4])
  have b3 : (src == goal) = false := by simpa using h
  have b4 : (amt == 0) = false := by simpa using h4
  clear hb h ha hs0 hs1 hg0 hg1 h4
  have HC := Lib.hid hc
  clear hc
  have HEL := Lib.hid hel
  have Ew := Lib.hid hE
  have Bw : Hid (Below w.heap.size w w) := Lib.hid (Below.refl _ _)
  clear hel hE
  go_enter Try.func63, Try.ntmps63
  have hB : Below w.heap.size w (w.alloc (.cells #[.slice sa sl sc, .slice ea el ec] 25)) := (Below.refl _ _).alloc (Nat.le_refl _) _
  have BY1 : Hid (Below w.heap.size w (w.alloc (.cells #[.slice sa sl sc, .slice ea el ec] 25))) := Lib.hid (Bw.out.trans (hB.mono Bw.out.size))
  have EY1 : Hid (EdgeRow (w.alloc (.cells #[.slice sa sl sc, .slice ea el ec] 25)) ea es) := Lib.hid (Ew.out.below hB)
  have PY1 : Hid (Blk (w.alloc (.cells #[.slice sa sl sc, .slice ea el ec] 25)) w.heap.size 25 [.slice sa sl sc, .slice ea el ec]) := Lib.hid (Blk.new _ _ [.slice sa sl sc, .slice ea el ec])
  clear hB Bw Ew
  go_wp2_with fail
  generalize (w.alloc (.cells #[.slice sa sl sc, .slice ea el ec] 25)) = Y1 at BY1 EY1 PY1 ⊢
  generalize w.heap.size = gp at PY1 ⊢
  refine (rcheck_any sa sl sc ea el ec es Y1 EY1.out HEL.out (by omega) (by omega)).mono ?_
  rintro e Y2 ⟨rfl, hB⟩
  have BY2 : Hid (Below w.heap.size w Y2) := Lib.hid (BY1.out.trans (hB.mono BY1.out.size))
  have EY2 : Hid (EdgeRow Y2 ea es) := Lib.hid (EY1.out.below hB)
  have PY2 : Hid (Blk Y2 gp 25 [.slice sa sl sc, .slice ea el ec]) := Lib.hid (PY1.out.below hB PY1.out.lt)
  clear BY1 EY1 PY1
  clear hB
  rw [HC.out]
  have cP0 := Blk.cell PY2.out 0
  have cP1 := Blk.cell PY2.out 1
  simp only [List.getElem?_cons_zero, List.getElem?_cons_succ] at cP0 cP1
  go_wp2
  go_ret
  exact ⟨by rw [HX.out]; rfl, BY2.out⟩

theorem right_any (sa : Option Addr) (sl sc : Nat) (ea : Option Addr) (el ec : Nat) (es : List Ed) (src goal amt : Int) (w : World) (hE : EdgeRow w ea es) (hel : es.length = el) (hel2 : el ≤ 100) (hsl2 : sl ≤ 1000) :
    Calls Try.prog 63 #[.agg #[.slice sa sl sc, .slice ea el ec], .int .i64 src, .int .i64 goal, .int .u64 amt] w fun e w' => e = .returned (.int .i64 (seekE sl es src goal amt)) ∧ Below w.heap.size w w' := by
  by_cases hc : checkE sl es = 0
  · by_cases h0 : src < 0
    · exact right_a sa sl sc ea el ec es src goal amt w hE hel hel2 hsl2 hc h0
    · by_cases h1 : (sl : Int) ≤ src
      · exact right_b sa sl sc ea el ec es src goal amt w hE hel hel2 hsl2 hc h1
      · by_cases h2 : goal < 0
        · exact right_c sa sl sc ea el ec es src goal amt w hE hel hel2 hsl2 hc (by omega) (by omega) h2
        · by_cases h3 : (sl : Int) ≤ goal
          · exact right_d sa sl sc ea el ec es src goal amt w hE hel hel2 hsl2 hc (by omega) (by omega) h3
          · by_cases h4 : src = goal
            · exact right_e sa sl sc ea el ec es src goal amt w hE hel hel2 hsl2 hc (by omega) (by omega) (by omega) (by omega) h4
            · by_cases h5 : amt = 0
              · exact right_f sa sl sc ea el ec es src goal amt w hE hel hel2 hsl2 hc (by omega) (by omega) (by omega) (by omega) h4 h5
              · exact right_g sa sl sc ea el ec es src goal amt w hE hel hel2 hsl2 hc (by omega) (by omega) (by omega) (by omega) h4 h5
  · exact right_check sa sl sc ea el ec es src goal amt w hE hel hel2 hsl2 hc
end Go.Proofs.Ytnnimjaigciedaa
