/-
  tollhouselaw07's awake.
  money's Sum, web's All.
-/
import Derived.Test.YtnnimjaigciedaaWebSd
namespace Go.Proofs.Ytnnimjaigciedaa
open Go.RowKit
set_option linter.unusedVariables false

def exE : Ed := ⟨0, 1, 5, 3, 0, 0, 0, 0⟩
theorem ex_err : sentErr 2 [exE] 0 0 2 = 0 := by decide
theorem ex_new : sentL [exE] 0 0 2 = [⟨0, 1, 3, 5, 0, 0, 0, 0⟩] := by
  unfold sentL exE
  rfl

set_option maxRecDepth 100000 in
set_option maxHeartbeats 4000000 in
theorem wawake_any (w : World) : Calls Try.prog 14 #[] w fun e w' => e = .returned (.bool true) ∧ Below w.heap.size w w' := by
  have hmk : ∀ w, (Instr.makeSlice 22 (.int .i64 2) (.int .i64 2)).run Try.prog w = .ok (.slice (some ⟨w.heap.size, 0, none⟩) 2 2) (w.alloc (.cells #[.int .i64 0, .int .i64 0, .int .i64 0, .int .i64 0] 56)) := fun _ => by kernel_rfl
  go_enter Try.func14, Try.ntmps14
  go_wp2_with fail
  have HS : Hid (SpotRow (((w.alloc (.cells #[.int .i64 0, .int .i64 0, .int .i64 0, .int .i64 0] 56)).alloc (.cells #[.int .i64 0, .int .i64 1, .int .u64 5, .int .u64 3, .int .u64 0, .int .u64 0, .int .u64 0, .int .u64 0] 102)).alloc (.cells #[.slice (some ⟨w.heap.size, 0, none⟩) 2 2, .slice (some ⟨w.heap.size + 1, 0, none⟩) 1 1] 25)) (some ⟨w.heap.size, 0, none⟩) [(0, 0), (0, 0)]) := Lib.hid (by
    have h : Blk (((w.alloc (.cells #[.int .i64 0, .int .i64 0, .int .i64 0, .int .i64 0] 56)).alloc (.cells #[.int .i64 0, .int .i64 1, .int .u64 5, .int .u64 3, .int .u64 0, .int .u64 0, .int .u64 0, .int .u64 0] 102)).alloc (.cells #[.slice (some ⟨w.heap.size, 0, none⟩) 2 2, .slice (some ⟨w.heap.size + 1, 0, none⟩) 1 1] 25)) w.heap.size 56 [.int .i64 0, .int .i64 0, .int .i64 0, .int .i64 0] := ((Blk.mk_ rfl).alloc _).alloc _
    refine .inr ⟨w.heap.size, 0, rfl, h.lt, fun i hi => ?_⟩
    match i, hi with
    | 0, _ => exact ⟨h.cell 0, h.cell 1⟩
    | 1, _ => exact ⟨h.cell 2, h.cell 3⟩)
  have HE : Hid (EdgeRow (((w.alloc (.cells #[.int .i64 0, .int .i64 0, .int .i64 0, .int .i64 0] 56)).alloc (.cells #[.int .i64 0, .int .i64 1, .int .u64 5, .int .u64 3, .int .u64 0, .int .u64 0, .int .u64 0, .int .u64 0] 102)).alloc (.cells #[.slice (some ⟨w.heap.size, 0, none⟩) 2 2, .slice (some ⟨w.heap.size + 1, 0, none⟩) 1 1] 25)) (some ⟨w.heap.size + 1, 0, none⟩) [exE]) := Lib.hid (by
    have h : Blk (((w.alloc (.cells #[.int .i64 0, .int .i64 0, .int .i64 0, .int .i64 0] 56)).alloc (.cells #[.int .i64 0, .int .i64 1, .int .u64 5, .int .u64 3, .int .u64 0, .int .u64 0, .int .u64 0, .int .u64 0] 102)).alloc (.cells #[.slice (some ⟨w.heap.size, 0, none⟩) 2 2, .slice (some ⟨w.heap.size + 1, 0, none⟩) 1 1] 25)) (w.heap.size + 1) 102 (ecells exE) := (Blk.mk_ (cs := ecells exE) (by simp)).alloc _
    refine .inr ⟨w.heap.size + 1, 0, rfl, h.lt, fun i hi j v hv => ?_⟩
    match i, hi with
    | 0, _ =>
      rw [h.cell, show 0 + 0 * 8 + j = j by omega]
      exact hv)
  have HB : Hid (Below w.heap.size w (((w.alloc (.cells #[.int .i64 0, .int .i64 0, .int .i64 0, .int .i64 0] 56)).alloc (.cells #[.int .i64 0, .int .i64 1, .int .u64 5, .int .u64 3, .int .u64 0, .int .u64 0, .int .u64 0, .int .u64 0] 102)).alloc (.cells #[.slice (some ⟨w.heap.size, 0, none⟩) 2 2, .slice (some ⟨w.heap.size + 1, 0, none⟩) 1 1] 25))) := Lib.hid ((((Below.refl _ _).alloc (Nat.le_refl _) _).alloc (by simp) _).alloc (by simp; omega) _)
  generalize (((w.alloc (.cells #[.int .i64 0, .int .i64 0, .int .i64 0, .int .i64 0] 56)).alloc (.cells #[.int .i64 0, .int .i64 1, .int .u64 5, .int .u64 3, .int .u64 0, .int .u64 0, .int .u64 0, .int .u64 0] 102)).alloc (.cells #[.slice (some ⟨w.heap.size, 0, none⟩) 2 2, .slice (some ⟨w.heap.size + 1, 0, none⟩) 1 1] 25)) = V at HS HE HB ⊢
  refine (wto_any _ 2 2 _ 1 1 [(0, 0), (0, 0)] [exE] V HS.out HE.out rfl rfl (by omega) (by omega)).mono ?_
  rintro e Y ⟨sa, sc, ea, ec, rfl, h1, h2, h3, h4, hB⟩
  have HWA : Hid (WebAt Y (.agg #[.slice sa 2 sc, .slice ea 1 ec]) [(0, 0), (0, 0)] [exE]) := Lib.hid ⟨sa, sc, ea, ec, rfl, h1, h2, h3, h4⟩
  replace HB := Lib.hid (HB.out.trans (hB.mono HB.out.size))
  clear hB h1 h2 h3 h4 HS HE
  have HSE : Hid (Calls Try.prog 27 #[.agg #[.slice sa 2 sc, .slice ea 1 ec], .int .i64 0, .int .i64 0, .int .u64 2] Y (SentPost Y [(0, 0), (0, 0)] [exE] 0 0 2)) := Lib.hid (sent_any _ _ _ 0 0 2 Y HWA.out (by simp) (by simp) (by
    intro e he
    have : e = exE := by simpa using he
    subst this
    unfold EdOk Word exE
    simp) ⟨by omega, by omega⟩)
  go_wp2_with fail
  refine HSE.out.mono ?_
  rintro e Z ⟨v, rfl, hB, hgood, _⟩
  replace HB := Lib.hid (HB.out.trans (hB.mono HB.out.size))
  obtain ⟨a1, c1, a2, c2, rfl, h1, h2, h3, h4⟩ := hgood ex_err
  rw [ex_new] at h2 ⊢
  have HEr : Hid (sentErr 2 [exE] 0 0 2 = 0) := Lib.hid ex_err
  rcases h2 with h0 | ⟨b, off, rfl, hb, hc⟩
  · cases h0
  · have e0 := hc 0 (by simp) 2 _ rfl
    have e1 := hc 0 (by simp) 3 _ rfl
    simp only [Nat.zero_mul, Nat.add_zero] at e0 e1
    have HC0 := Lib.hid e0
    have HC1 := Lib.hid e1
    clear hc h1 h3 h4 hgood hB e0 e1
    rw [show sentErr ([((0 : Int), (0 : Int)), (0, 0)] : List (Int × Int)).length [exE] 0 0 2 = 0 from ex_err]
    have e0 := HC0.out
    have e1 := HC1.out
    have heq : ∀ w, (binOp .eql 49 (.agg #[.int .u64 3, .int .u64 5]) (.agg #[.int .u64 3, .int .u64 5])).run Try.prog w = .ok (.bool true) w := fun _ => by kernel_rfl
    go_wp2
    go_ret
    exact ⟨rfl, HB.out.alloc HB.out.size _⟩
end Go.Proofs.Ytnnimjaigciedaa
namespace Go.Proofs.Ytnnimjaigciedaa
open Go.RowKit
set_option linter.unusedVariables false

theorem addV_word {a b : Int} (ha : Word a) (hb : Word b) : Word (addV a b) := by
  unfold addV Word at *
  split <;> omega
theorem addE_cases (a b : Int) : addE a b = 0 ∨ addE a b = 11 := by
  unfold addE
  split
  · exact .inl rfl
  · exact .inr rfl
/-- A slice of numbers of 64 bits, read as a list. -/
def Nums (w : World) (a : Option Addr) (xs : List Int) : Prop :=
  (xs = [] ∨ ∃ b off, a = some ⟨b, off, none⟩ ∧ b < w.heap.size ∧ ∀ i, i < xs.length → w.cell? ⟨b, off + i, none⟩ = some (.int .u64 (xs.getD i 0))) ∧ (∀ n ∈ xs, Word n) ∧ xs.length ≤ 9223372036854775807

theorem Nums.below {w w' : World} {a : Option Addr} {xs : List Int} (h : Nums w a xs) (hB : Below w.heap.size w w') : Nums w' a xs := by
  obtain ⟨h1, h2, h3⟩ := h
  refine ⟨?_, h2, h3⟩
  rcases h1 with h1 | ⟨b, off, h4, h5, h6⟩
  · exact .inl h1
  · exact .inr ⟨b, off, h4, Nat.lt_of_lt_of_le h5 hB.size, fun i hi => by rw [hB.cell (p := ⟨b, off + i, none⟩) h5]; exact h6 i hi⟩

theorem Nums.drewN {w : World} {a : Option Addr} {xs : List Int} (h : Nums w a xs) (n : Nat) : Nums (w.drewN n) a xs := h.below (below_drewN (Below.refl _ _) n)

theorem getD_at (xs : List Int) (k : Nat) (h : k < xs.length) : xs.getD k 0 = xs[k] := by simp [List.getD, h]
theorem getD_out (xs : List Int) (k : Nat) (h : xs.length ≤ k) : xs.getD k 0 = 0 := by simp [List.getD, h]

theorem Nums.getD_word {w : World} {a : Option Addr} {xs : List Int} (h : Nums w a xs) (k : Nat) : Word (xs.getD k 0) := by
  by_cases hk : k < xs.length
  · rw [getD_at _ _ hk]
    exact h.2.1 _ (List.getElem_mem hk)
  · rw [getD_out _ _ (by omega)]
    unfold Word
    omega

def sumGo (s : Int) : List Int → Int × Int
  | [] => (s, 0)
  | a :: r => if addE s a = 0 then sumGo (addV s a) r else (0, 11)
def sumV (l : List Int) : Int := (sumGo 0 l).1
def sumE (l : List Int) : Int := (sumGo 0 l).2

theorem drop_getD (xs : List Int) (k : Nat) (hk : k < xs.length) : xs.drop k = xs.getD k 0 :: xs.drop (k + 1) := by
  rw [getD_at _ _ hk]
  exact List.drop_eq_getElem_cons hk

theorem sum_step {xs : List Int} {s x : Int} {k : Nat} (h : sumGo 0 xs = sumGo s (xs.drop k)) (hk : k < xs.length) (hx : xs.getD k 0 = x) :
    (addE s x = 0 → sumGo 0 xs = sumGo (addV s x) (xs.drop (k + 1))) ∧ (addE s x ≠ 0 → sumV xs = 0 ∧ sumE xs = addE s x) := by
  rw [drop_getD xs k hk, hx] at h
  refine ⟨fun h0 => ?_, fun h0 => ?_⟩
  · rw [h, sumGo, if_pos h0]
  · rw [sumGo, if_neg h0] at h
    rw [sumV, sumE, h]
    rcases addE_cases s x with h1 | h1
    · exact absurd h1 h0
    · exact ⟨rfl, h1.symm⟩

theorem sum_end {xs : List Int} {s : Int} {k : Nat} (h : sumGo 0 xs = sumGo s (xs.drop k)) (hk : xs.length ≤ k) : sumV xs = s ∧ sumE xs = 0 := by
  rw [List.drop_eq_nil_of_le hk] at h
  rw [sumV, sumE, h]
  exact ⟨rfl, rfl⟩

theorem sumV_word (xs : List Int) (h : ∀ n ∈ xs, Word n) : Word (sumV xs) := by
  have key : ∀ (l : List Int) (s : Int), Word s → (∀ n ∈ l, Word n) → Word (sumGo s l).1 := by
    intro l
    induction l with
    | nil => intro s hs _; exact hs
    | cons a r ih =>
      intro s hs hl
      rw [sumGo]
      split
      · exact ih _ (addV_word hs (hl a (by simp))) fun n hn => hl n (by simp [hn])
      · unfold Word; omega
  exact key xs 0 (by unfold Word; omega) h

set_option maxHeartbeats 1000000 in
theorem sum_any (a : Option Addr) (cap : Nat) (xs : List Int) (w : World) (hN : Nums w a xs) :
    Calls Try.prog 57 #[.slice a xs.length cap] w fun e w' => e = .returned (.tuple #[.int .u64 (sumV xs), .int .i64 (sumE xs)]) ∧ w = w' := by
  have HN := Lib.hid hN
  obtain ⟨h1, h2, h3⟩ := hN
  have h2' := Lib.hid h2
  clear h2
  rcases h1 with rfl | ⟨b, off, rfl, hb, hc⟩
  · have e1 : sumV [] = 0 := rfl
    have e2 : sumE [] = 0 := rfl
    rw [e1, e2]
    clear e1 e2
    go_enter Try.func57, Try.ntmps57
    go_wp2
    refine wp_loop_rounds 1 ?_
    rw [rounds_succ]
    go_wp2
    go_ret2
    exact ⟨rfl, rfl⟩
  · have HC := Lib.hid hc
    clear hc
    obtain ⟨len, hlen⟩ : ∃ n, xs.length = n := ⟨_, rfl⟩
    rw [hlen] at h3 ⊢
    have HL := Lib.hid hlen
    clear hlen
    go_enter Try.func57, Try.ntmps57
    go_wp2
    go_loop [4, 11] (fun t i => ∃ (k : Nat) (s : Int), k ≤ len ∧ i = .int .i64 k ∧ t = .int .u64 s ∧ Word s ∧ Hid (sumGo 0 xs = sumGo s (xs.drop k))) (fun _ i => len - (intOf i).toNat)
    case atStart => exact ⟨0, 0, Nat.zero_le _, rfl, rfl, by unfold Word; omega, Lib.hid rfl⟩
    case round =>
      obtain ⟨k, s, hk, rfl, rfl, hs, HS⟩ := hrel
      by_cases hlt : k < len
      · have hxs : k < xs.length := by rw [HL.out]; exact hlt
        obtain ⟨x, hx⟩ : ∃ x, xs.getD k 0 = x := ⟨_, rfl⟩
        have hcell := HC.out k hxs
        rw [hx] at hcell
        have hwx : Word x := hx ▸ HN.out.getD_word k
        have HX := Lib.hid (sum_step HS.out hxs hx)
        clear hx hxs
        by_cases h0 : addE s x = 0
        · have b0 : (addE s x != 0) = false := by simp [h0]
          have HT := Lib.hid (HX.out.1 h0)
          have hw' := addV_word hs hwx
          clear h0
          go_wp2_with (go_at_call 53; refine (add_any _ _ _ hs hwx).mono ?_; rintro e w' ⟨rfl, rfl⟩)
          go_round
          case rel => exact ⟨k + 1, _, by omega, by go_num, rfl, hw', HT⟩
          case measure => simp [intOf]; omega
        · have b0 : (addE s x != 0) = true := by simpa using h0
          have HT := Lib.hid (HX.out.2 h0)
          clear h0
          go_wp2_with (go_at_call 53; refine (add_any _ _ _ hs hwx).mono ?_; rintro e w' ⟨rfl, rfl⟩)
          go_ret2
          exact ⟨by rw [HT.out.1, HT.out.2]; rfl, rfl⟩
      · have HE := Lib.hid (sum_end HS.out (by rw [HL.out]; omega))
        go_wp2
        go_ret2
        exact ⟨by rw [HE.out.1, HE.out.2]; rfl, rfl⟩


theorem sumGo_word (l : List Int) : ∀ s, Word s → (∀ n ∈ l, Word n) → Word (sumGo s l).1 := by
  induction l with
  | nil => intro s hs _; exact hs
  | cons a r ih =>
    intro s hs hl
    rw [sumGo]
    split
    · exact ih _ (addV_word hs (hl a (by simp))) fun n hn => hl n (by simp [hn])
    · unfold Word; omega

theorem sumE_cases (l : List Int) : ∀ s, (sumGo s l).2 = 0 ∨ ((sumGo s l).1 = 0 ∧ (sumGo s l).2 = 11) := by
  induction l with
  | nil => intro s; exact .inl rfl
  | cons a r ih =>
    intro s
    rw [sumGo]
    split
    · exact ih _
    · exact .inr ⟨rfl, rfl⟩

/-- What all channels hold, from s on. -/
def allGo (s : Int) : List Ed → Int × Int
  | [] => (s, 0)
  | e :: r => if sumE [s, e.c, e.d] = 0 then allGo (sumV [s, e.c, e.d]) r else (0, 11)
def allV (l : List Ed) : Int := (allGo 0 l).1
def allE (l : List Ed) : Int := (allGo 0 l).2

theorem all_step {es : List Ed} {s : Int} {k : Nat} {e : Ed} (h : allGo 0 es = allGo s (es.drop k)) (hk : k < es.length) (he : es.getD k ed0 = e) :
    (sumE [s, e.c, e.d] = 0 → allGo 0 es = allGo (sumV [s, e.c, e.d]) (es.drop (k + 1))) ∧ (sumE [s, e.c, e.d] ≠ 0 → allV es = 0 ∧ allE es = sumE [s, e.c, e.d]) := by
  rw [drop_ed es k hk, he] at h
  refine ⟨fun h0 => ?_, fun h0 => ?_⟩
  · rw [h, allGo, if_pos h0]
  · rw [allGo, if_neg h0] at h
    rw [allV, allE, h]
    rcases sumE_cases [s, e.c, e.d] 0 with h1 | h1
    · exact absurd h1 h0
    · exact ⟨rfl, h1.2.symm⟩

set_option maxRecDepth 100000 in
set_option maxHeartbeats 4000000 in
theorem all_any (sa : Option Addr) (sl sc : Nat) (ea : Option Addr) (el ec : Nat) (es : List Ed) (w : World) (hE : EdgeRow w ea es) (hel : es.length = el) (hel2 : el ≤ 1000) (hok : ∀ e ∈ es, EdOk e) :
    Calls Try.prog 29 #[.agg #[.slice sa sl sc, .slice ea el ec]] w fun r w' => r = .returned (.tuple #[.int .u64 (allV es), .int .i64 (allE es)]) ∧ Below w.heap.size w w' := by
  have HE := Lib.hid hE
  have HEL := Lib.hid hel
  have HOK := Lib.hid hok
  clear hE hel hok
  go_enter Try.func29, Try.ntmps29
  go_wp2
  have HW : Hid (Below w.heap.size w (w.alloc (.cells #[.slice sa sl sc, .slice ea el ec] 31))) := Lib.hid ((Below.refl _ _).alloc (Nat.le_refl _) _)
  generalize w.alloc (.cells #[.slice sa sl sc, .slice ea el ec] 31) = W at HW ⊢
  go_loopw [4, 6, 7, 8, 12] (fun s _ _ _ i wr => ∃ (k : Nat) (t : Int), k ≤ el ∧ i = .int .i64 k ∧ s = .int .u64 t ∧ Word t ∧ Hid (allGo 0 es = allGo t (es.drop k)) ∧ Hid (Below w.heap.size w wr)) (fun _ _ _ _ i _ => el - (intOf i).toNat)
  case atStart => exact ⟨0, 0, Nat.zero_le _, rfl, rfl, ⟨by omega, by omega⟩, Lib.hid rfl, HW⟩
  case round =>
    clear HW
    obtain ⟨k, t, hk, rfl, rfl, ht, HA, HB⟩ := hrel
    by_cases hlt : k < el
    · obtain ⟨z, hz⟩ : ∃ z, es.getD k ed0 = z := ⟨_, rfl⟩
      rcases HE.out with h0 | ⟨b0, off, rfl, hb, hc⟩
      · exfalso; have h := HEL.out; rw [h0] at h; simp at h; omega
      · have hcs := hc k (by rw [HEL.out]; exact hlt)
        rw [hz] at hcs
        have HG := Lib.hid (all_step HA.out (by rw [HEL.out]; exact hlt) hz)
        have hzo : EdOk z := by
          have h3 : es.getD k ed0 = es[k]'(by rw [HEL.out]; exact hlt) := by simp [List.getD, show k < es.length by rw [HEL.out]; exact hlt]
          rw [← hz, h3]
          exact HOK.out _ (List.getElem_mem _)
        obtain ⟨pe, qe, ce, de, fe, ge, he, ie⟩ := z
        obtain ⟨_, _, hwc, hwd, _⟩ := hzo
        clear hz hc
        by_cases hdum : True
        · skip
          have e0 : wr.cell? ⟨b0, off + k * 8, none⟩ = some (.int .i64 pe) := (HB.out.cell (p := ⟨b0, off + k * 8, none⟩) hb).trans (hcs 0 _ rfl)
          have e1 : wr.cell? ⟨b0, off + k * 8 + 1, none⟩ = some (.int .i64 qe) := (HB.out.cell (p := ⟨b0, off + k * 8 + 1, none⟩) hb).trans (hcs 1 _ rfl)
          have e2 : wr.cell? ⟨b0, off + k * 8 + 2, none⟩ = some (.int .u64 ce) := (HB.out.cell (p := ⟨b0, off + k * 8 + 2, none⟩) hb).trans (hcs 2 _ rfl)
          have e3 : wr.cell? ⟨b0, off + k * 8 + 3, none⟩ = some (.int .u64 de) := (HB.out.cell (p := ⟨b0, off + k * 8 + 3, none⟩) hb).trans (hcs 3 _ rfl)
          have e4 : wr.cell? ⟨b0, off + k * 8 + 4, none⟩ = some (.int .u64 fe) := (HB.out.cell (p := ⟨b0, off + k * 8 + 4, none⟩) hb).trans (hcs 4 _ rfl)
          have e5 : wr.cell? ⟨b0, off + k * 8 + 5, none⟩ = some (.int .u64 ge) := (HB.out.cell (p := ⟨b0, off + k * 8 + 5, none⟩) hb).trans (hcs 5 _ rfl)
          have e6 : wr.cell? ⟨b0, off + k * 8 + 6, none⟩ = some (.int .u64 he) := (HB.out.cell (p := ⟨b0, off + k * 8 + 6, none⟩) hb).trans (hcs 6 _ rfl)
          have e7 : wr.cell? ⟨b0, off + k * 8 + 7, none⟩ = some (.int .u64 ie) := (HB.out.cell (p := ⟨b0, off + k * 8 + 7, none⟩) hb).trans (hcs 7 _ rfl)
          clear hcs
          have hb3 : b0 < wr.heap.size := Nat.lt_of_lt_of_le hb HB.out.size
          have HSM : Hid (∀ X g, Blk X g 40 [.int .u64 t, .int .u64 ce, .int .u64 de] → Calls Try.prog 57 #[.slice (some ⟨g, 0, none⟩) 3 3] X fun e w' => e = .returned (.tuple #[.int .u64 (sumV [t, ce, de]), .int .i64 (sumE [t, ce, de])]) ∧ X = w') := Lib.hid fun X g hP => sum_any _ 3 [t, ce, de] X ⟨.inr ⟨g, 0, rfl, hP.lt, fun i hi => by
            match i, hi with
            | 0, _ => exact hP.cell 0
            | 1, _ => exact hP.cell 1
            | 2, _ => exact hP.cell 2⟩, fun n hn => by
              simp at hn
              rcases hn with rfl | rfl | rfl
              · exact ht
              · exact hwc
              · exact hwd, by simp⟩
          have HWD := Lib.hid (sumGo_word [t, ce, de] 0 ⟨by omega, by omega⟩ (fun n hn => by
              simp at hn
              rcases hn with rfl | rfl | rfl
              · exact ht
              · exact hwc
              · exact hwd))
          go_wp2_with fail
          have S0 : Hid (Blk ((wr.alloc (.cells #[.int .i64 pe, .int .i64 qe, .int .u64 ce, .int .u64 de, .int .u64 fe, .int .u64 ge, .int .u64 he, .int .u64 ie] 52)).alloc (.cells #[.int .u64 t, .int .u64 ce, .int .u64 de] 40)) (wr.heap.size + 1) 40 [.int .u64 t, .int .u64 ce, .int .u64 de]) := Lib.hid (Blk.mk_ (by simp))
          replace HB := Lib.hid ((HB.out.alloc HB.out.size (.cells #[.int .i64 pe, .int .i64 qe, .int .u64 ce, .int .u64 de, .int .u64 fe, .int .u64 ge, .int .u64 he, .int .u64 ie] 52)).alloc (by have h := HB.out.size; simp; omega) (.cells #[.int .u64 t, .int .u64 ce, .int .u64 de] 40))
          generalize (wr.alloc (.cells #[.int .i64 pe, .int .i64 qe, .int .u64 ce, .int .u64 de, .int .u64 fe, .int .u64 ge, .int .u64 he, .int .u64 ie] 52)).alloc (.cells #[.int .u64 t, .int .u64 ce, .int .u64 de] 40) = Y at S0 HB ⊢
          clear e0 e1 e2 e3 e4 e5 e6 e7 hb3
          refine (HSM.out Y _ S0.out).mono ?_
          rintro e Y2 ⟨rfl, rfl⟩
          replace HWD : Hid (Word (sumV [t, ce, de])) := HWD
          by_cases hs : sumE [t, ce, de] = 0
          · have HN := Lib.hid (HG.out.1 hs)
            have b0' : (sumE [t, ce, de] != 0) = false := by simpa using hs
            clear hs
            generalize sumV [t, ce, de] = nt at HN HWD ⊢
            generalize sumE [t, ce, de] = ne at b0' ⊢
            go_wp2
            go_roundw
            case rel => exact ⟨k + 1, nt, by omega, by go_num, rfl, HWD.out, HN, HB⟩
            case measure => simp [intOf] <;> omega
          · have HN := Lib.hid (HG.out.2 hs)
            have b0' : (sumE [t, ce, de] != 0) = true := by simpa using hs
            clear hs
            generalize sumV [t, ce, de] = nt at HWD ⊢
            generalize sumE [t, ce, de] = ne at HN b0' ⊢
            go_wp2
            go_ret2
            exact ⟨by rw [HN.out.1, HN.out.2]; rfl, HB.out⟩
        · exact absurd trivial hdum
    · have HN : Hid (allV es = t ∧ allE es = 0) := Lib.hid (by
        have h := HA.out
        rw [List.drop_eq_nil_of_le (by rw [HEL.out]; omega)] at h
        rw [allV, allE, h]
        exact ⟨rfl, rfl⟩)
      go_wp2
      go_ret2
      exact ⟨by rw [HN.out.1, HN.out.2]; rfl, HB.out⟩
end Go.Proofs.Ytnnimjaigciedaa
