/-
  What each side has at last: rows of amounts and of verdicts, sums, the share of a side.
-/
import Derived.Test.YtkiifjkcpangfaaPacW
namespace Go.Proofs.Ytkiifjkcpangfaa
open Go.RowKit
set_option linter.unusedVariables false

def us (l : List Int) : List Value := l.map (.int .u64)
theorem us_append (a b : List Int) : us (a ++ b) = us a ++ us b := by simp [us]
theorem us_length (a : List Int) : (us a).length = a.length := by simp [us]
def bools (l : List Bool) : List Value := l.map .bool
theorem bools_append (a b : List Bool) : bools (a ++ b) = bools a ++ bools b := by simp [bools]
theorem bools_length (a : List Bool) : (bools a).length = a.length := by simp [bools]
theorem own_fresh {w : World} {g e base n : Nat} {cs : List Value} (h : Blk w g e cs) (hb : base ≤ g) (hn : cs.length = n) (hm : n ≤ maxLen) : w.ownsRow base e 1 (.slice (some ⟨g, 0, none⟩) n n) n cs :=
  ⟨by omega, .inr ⟨g, n, cs.toArray, rfl, hb, h, Nat.le_refl _, hm, by simp [hn], by subst hn; simp⟩⟩
theorem Nums.of_own {w : World} {base : Nat} {a : Option Addr} {n c : Nat} {xs : List Int} (h : w.ownsRow base 23 1 (.slice a n c) n (us xs)) (hw : ∀ n ∈ xs, Word n) (hl : n ≤ 1000) : Nums w a xs ∧ xs.length = n := by
  have hx : xs.length = n := by have := h.1; rw [us_length] at this; omega
  refine ⟨?_, hx⟩
  rcases h.2 with ⟨hv, h0⟩ | ⟨g, c, cur, hv, _, hg, _⟩
  · have : xs = [] := List.eq_nil_of_length_eq_zero (by omega)
    subst this
    exact ⟨.inl rfl, hw, by simp⟩
  · injection hv with h1 _ _
    refine ⟨.inr ⟨g, 0, h1, ?_, fun i hi => ?_⟩, hw, by omega⟩
    · rcases Nat.lt_or_ge g w.heap.size with h2 | h2
      · exact h2
      · rw [Array.getElem?_eq_none h2] at hg; cases hg
    · subst h1
      rw [Nat.zero_add, h.cellAt i (by omega)]
      simp [us, List.getD, hi]
theorem zinfo23 : (Try.prog.info? 23).map (fun i => (i.zero, i.size, i.bytes)) = some (some (.int .u64 0), 1, 8) := by kernel_rfl
theorem zinfo4 : (Try.prog.info? 4).map (fun i => (i.zero, i.size, i.bytes)) = some (some (.bool false), 1, 1) := by kernel_rfl
/-- One more amount behind a row of one's own. -/
theorem app_num (w : World) (B n g : Nat) (v : Value) (xs : List Value) (x : Int) (h : w.ownsRow B 23 1 v n xs) (hg : Blk w g 23 [.int .u64 x]) (hn : n ≤ 1000) (hB : B ≤ w.heap.size) :
    ∃ v2 w2, (∀ ty, (Builtin.append_ #[95, 95] ty #[v, .slice (some ⟨g, 0, none⟩) 1 1]).run Try.prog w = .ok v2 w2) ∧ w2.ownsRow B 23 1 v2 (n + 1) (xs ++ [.int .u64 x]) ∧ w.grownBy w2 v.ownBlock := by
  obtain ⟨i, hi, hz, hs, hb⟩ := info_parts zinfo23
  have H := fun ty => run_append_own_at (w := w) (P := Try.prog) B 95 ty 23 i (.int .u64 0) 1 8 Try.underlying95 hi hz hs hb rfl (by decide) v n xs h ⟨g, 0, none⟩ 1 1 [.int .u64 x] rfl (news_of hg) (by simp [Value.oneCell']) (by unfold maxLen; omega) (by omega) hB
  obtain ⟨v2, w2, h1, h2, h3, _⟩ := H 0
  refine ⟨v2, w2, fun ty => ?_, h2, h3⟩
  rw [← h1]; rfl
theorem app_bool (w : World) (B n g : Nat) (v : Value) (xs : List Value) (x : Bool) (h : w.ownsRow B 4 1 v n xs) (hg : Blk w g 4 [.bool x]) (hn : n ≤ 1000) (hB : B ≤ w.heap.size) :
    ∃ v2 w2, (∀ ty, (Builtin.append_ #[69, 69] ty #[v, .slice (some ⟨g, 0, none⟩) 1 1]).run Try.prog w = .ok v2 w2) ∧ w2.ownsRow B 4 1 v2 (n + 1) (xs ++ [.bool x]) ∧ w.grownBy w2 v.ownBlock := by
  obtain ⟨i, hi, hz, hs, hb⟩ := info_parts zinfo4
  have H := fun ty => run_append_own_at (w := w) (P := Try.prog) B 69 ty 4 i (.bool false) 1 1 Try.underlying69 hi hz hs hb rfl (by decide) v n xs h ⟨g, 0, none⟩ 1 1 [.bool x] rfl (news_of hg) (by simp [Value.oneCell']) (by unfold maxLen; omega) (by omega) hB
  obtain ⟨v2, w2, h1, h2, h3, _⟩ := H 0
  refine ⟨v2, w2, fun ty => ?_, h2, h3⟩
  rw [← h1]; rfl
/-- Verdicts that lie behind one another. -/
def BRow (w : World) (a : Option Addr) (bs : List Bool) : Prop :=
  bs = [] ∨ ∃ b o, a = some ⟨b, o, none⟩ ∧ b < w.heap.size ∧ ∀ i, i < bs.length → w.cell? ⟨b, o + i, none⟩ = some (.bool (bs.getD i false))
theorem BRow.below {w w' : World} {a : Option Addr} {bs : List Bool} (h : BRow w a bs) (hB : Below w.heap.size w w') : BRow w' a bs := by
  rcases h with h | ⟨b, o, ha, hb, hx⟩
  · exact .inl h
  · exact .inr ⟨b, o, ha, Nat.lt_of_lt_of_le hb hB.size, fun i hi => by rw [hB.cell (p := ⟨b, o + i, none⟩) hb]; exact hx i hi⟩
theorem BRow.of_own {w : World} {base : Nat} {a : Option Addr} {n c : Nat} {bs : List Bool} (h : w.ownsRow base 4 1 (.slice a n c) n (bools bs)) : BRow w a bs := by
  have hx : bs.length = n := by have := h.1; rw [bools_length] at this; omega
  rcases h.2 with ⟨hv, h0⟩ | ⟨g, c, cur, hv, _, hg, _⟩
  · exact .inl (List.eq_nil_of_length_eq_zero (by omega))
  · injection hv with h1 _ _
    refine .inr ⟨g, 0, h1, ?_, fun i hi => ?_⟩
    · rcases Nat.lt_or_ge g w.heap.size with h2 | h2
      · exact h2
      · rw [Array.getElem?_eq_none h2] at hg; cases hg
    · subst h1
      rw [Nat.zero_add, h.cellAt i (by omega)]
      simp [bools, List.getD, hi]
theorem BRow.get {w : World} {a : Option Addr} {bs : List Bool} (h : BRow w a bs) {i : Nat} (hi : i < bs.length) : ∃ b o, a = some ⟨b, o, none⟩ ∧ b < w.heap.size ∧ w.cell? ⟨b, o + i, none⟩ = some (.bool (bs.getD i false)) := by
  rcases h with h | ⟨b, o, ha, hb, hx⟩
  · subst h; simp at hi
  · exact ⟨b, o, ha, hb, hx i hi⟩

/-- A sum without an end. -/
def lsum : List Int → Int
  | [] => 0
  | x :: r => x + lsum r
theorem lsum_append (a b : List Int) : lsum (a ++ b) = lsum a + lsum b := by
  induction a with
  | nil => simp [lsum]
  | cons x r ih => simp [lsum, ih]; omega
theorem lsum_nonneg {l : List Int} (h : ∀ x ∈ l, Word x) : 0 ≤ lsum l := by
  induction l with
  | nil => simp [lsum]
  | cons x r ih => have := (h x (by simp)).1; have := ih (fun y hy => h y (by simp [hy])); simp only [lsum]; omega
theorem sumGo_ok : ∀ (l : List Int) (s : Int), (∀ x ∈ l, Word x) → 0 ≤ s → s + lsum l < 18446744073709551616 → sumGo s l = (s + lsum l, 0)
  | [], s, _, _, _ => by simp [sumGo, lsum]
  | x :: r, s, h, hs, hl => by
    have hx := (h x (by simp)).1
    have hr := lsum_nonneg (l := r) (fun y hy => h y (by simp [hy]))
    simp only [lsum] at hl ⊢
    rw [sumGo, addE0 (by omega), if_pos rfl, addV0 (by omega), sumGo_ok r (s + x) (fun y hy => h y (by simp [hy])) (by omega) (by omega)]
    simp only [Prod.mk.injEq, and_true]; omega
theorem sum_ok {l : List Int} (h : ∀ x ∈ l, Word x) (hl : lsum l < 18446744073709551616) : sumV l = lsum l ∧ sumE l = 0 := by
  unfold sumV sumE
  rw [sumGo_ok l 0 h (by omega) (by omega)]
  exact ⟨by simp, rfl⟩
/-- What a side has of the payments, by the verdicts. -/
def shareL (side : Int) (zs : List (Cnd × Bool)) : List Int := zs.flatMap fun p => if ((p.1.side == side) != p.2) = true then [p.1.amt] else []
theorem shareL_snoc (side : Int) (zs : List (Cnd × Bool)) (k : Nat) (c : Cnd) (d : Bool) (hk : k < zs.length) (hz : zs[k] = (c, d)) :
    shareL side (zs.take (k + 1)) = shareL side (zs.take k) ++ (if ((c.side == side) != d) = true then [c.amt] else []) := by
  rw [List.take_succ_eq_append_getElem hk, hz]
  simp [shareL]
theorem shareL_cons (side : Int) (p : Cnd × Bool) (r : List (Cnd × Bool)) : shareL side (p :: r) = (if ((p.1.side == side) != p.2) = true then [p.1.amt] else []) ++ shareL side r := rfl
theorem one_len (b : Bool) (x : Int) : (if b = true then [x] else []).length ≤ 1 := by cases b <;> simp
theorem shareL_len (side : Int) (zs : List (Cnd × Bool)) : (shareL side zs).length ≤ zs.length := by
  induction zs with
  | nil => exact Nat.le_refl _
  | cons p r ih => rw [shareL_cons, List.length_append, List.length_cons]; have := one_len ((p.1.side == side) != p.2) p.1.amt; omega
theorem shareL_word (side : Int) (zs : List (Cnd × Bool)) (h : ∀ p ∈ zs, p.1.Ok) : ∀ x ∈ shareL side zs, Word x := by
  intro x hx
  obtain ⟨p, hp, hx⟩ := List.mem_flatMap.1 hx
  split at hx
  · simp at hx; subst hx; exact (h p hp).amt
  · cases hx
/-- Each payment is one side's. -/
theorem shares_all (zs : List (Cnd × Bool)) (h : ∀ p ∈ zs, p.1.side = 0 ∨ p.1.side = 1) : lsum (shareL 0 zs) + lsum (shareL 1 zs) = lsum (zs.map fun p => p.1.amt) := by
  induction zs with
  | nil => rfl
  | cons p r ih =>
    have ih' := ih (fun q hq => h q (by simp [hq]))
    have hp := h p (by simp)
    rw [shareL_cons, shareL_cons, lsum_append, lsum_append, List.map_cons, lsum]
    obtain ⟨c, d⟩ := p
    generalize lsum (shareL 0 r) = x at ih' ⊢
    generalize lsum (shareL 1 r) = y at ih' ⊢
    rcases hp with hp | hp <;> simp only at hp <;> cases d <;> simp [hp, lsum] <;> omega
theorem heldGo_sum (side : Int) : ∀ (cs : List Cnd) (s : Int), (heldGo side s cs).2 = 0 → (heldGo side s cs).1 = s + lsum ((cs.filter fun c => c.side == side).map Cnd.amt)
  | [], s, _ => by simp [heldGo, lsum]
  | c :: r, s, h => by
    rw [heldGo] at h ⊢
    by_cases h1 : c.side = side
    · rw [if_pos h1] at h ⊢
      by_cases h2 : addE s c.amt = 0
      · rw [if_pos h2] at h ⊢
        rw [heldGo_sum side r _ h]
        have e : addV s c.amt = s + c.amt := by unfold addE at h2; unfold addV; split at h2 <;> simp_all
        rw [e]; simp [h1, lsum]; omega
      · rw [if_neg h2] at h; cases h
    · rw [if_neg h1] at h ⊢
      rw [heldGo_sum side r _ h]; simp [h1]
theorem held_all (cs : List Cnd) (h : ∀ c ∈ cs, c.side = 0 ∨ c.side = 1) : lsum ((cs.filter fun c => c.side == 0).map Cnd.amt) + lsum ((cs.filter fun c => c.side == 1).map Cnd.amt) = lsum (cs.map Cnd.amt) := by
  induction cs with
  | nil => rfl
  | cons c r ih =>
    have ih' := ih (fun q hq => h q (by simp [hq]))
    rcases h c (by simp) with hp | hp <;> simp [hp, lsum] at ih' ⊢ <;> omega
/-- What a side has at last, in parts. -/
def partsF (s : St) (p0 p1 side : Int) (ds : List Bool) : List Int := [(freeF s p0 p1 side).1, s.tk side] ++ shareL side (s.cs.zip ds)
theorem freeF_word {s : St} (hO : s.Ok) (hc : ∀ c ∈ s.cs, c.Ok) {p0 p1 : Int} (hp0 : Word p0) (hp1 : Word p1) (side : Int) : Word (freeF s p0 p1 side).1 := by
  unfold freeF
  split
  · exact free2_word _ _ _ _ _ (heldGo_word 0 _ _ w0_ hc) hp0 hO.m1 hO.m0 hO.t0
  · split
    · exact free2_word _ _ _ _ _ (heldGo_word 1 _ _ w0_ hc) hp1 hO.m0 hO.m1 hO.t1
    · exact w0_
theorem parts_word {s : St} (hO : s.Ok) (hc : ∀ c ∈ s.cs, c.Ok) {p0 p1 : Int} (hp0 : Word p0) (hp1 : Word p1) (side : Int) (ds : List Bool) : ∀ x ∈ partsF s p0 p1 side ds, Word x := by
  intro x hx
  unfold partsF at hx
  rcases List.mem_append.1 hx with h | h
  · simp at h
    rcases h with rfl | rfl
    · exact freeF_word hO hc hp0 hp1 side
    · exact hO.tk side
  · exact shareL_word side _ (fun p hp => hc _ (List.of_mem_zip hp).1) x h
/-- What both have at last comes to what was put in. -/
theorem whole {s : St} (hO : s.Ok) (hc : ∀ c ∈ s.cs, c.Ok) {p0 p1 : Int} (hp0 : Word p0) (hp1 : Word p1) (ds : List Bool) (hd : ds.length = s.cs.length) (hs : soundE s p0 p1 = 0) (hp : p0 + p1 < 18446744073709551616) :
    sumE (partsF s p0 p1 0 ds) = 0 ∧ sumE (partsF s p0 p1 1 ds) = 0 ∧ sumV (partsF s p0 p1 0 ds) + sumV (partsF s p0 p1 1 ds) = p0 + p1 := by
  obtain ⟨h1, h2, h3, h4, h5⟩ := sound_parts hs
  have hsd := sound_sides hs
  have n0 := lsum_nonneg (parts_word hO hc hp0 hp1 0 ds)
  have n1 := lsum_nonneg (parts_word hO hc hp0 hp1 1 ds)
  have key : lsum (partsF s p0 p1 0 ds) + lsum (partsF s p0 p1 1 ds) = p0 + p1 := by
    have e1 := shares_all (s.cs.zip ds) (fun p hp => hsd _ (List.of_mem_zip hp).1)
    have e2 : (s.cs.zip ds).map (fun p => p.1.amt) = s.cs.map Cnd.amt := by
      rw [show (fun p : Cnd × Bool => p.1.amt) = Cnd.amt ∘ Prod.fst from rfl, ← List.map_map, List.map_fst_zip (by omega)]
    have e3 := held_all s.cs hsd
    rw [freeF_0] at h4
    rw [freeF_1] at h5
    have f0 := free2_val h4
    have f1 := free2_val h5
    rw [free2_iff] at h4 h5
    have g0 := heldGo_sum 0 s.cs 0 h4.1
    have g1 := heldGo_sum 1 s.cs 0 h5.1
    unfold partsF
    rw [lsum_append, lsum_append, freeF_0, freeF_1, f0, f1]
    simp only [lsum, St.tk, if_true]
    rw [if_neg (by decide)]
    rw [e2] at e1
    omega
  have a0 := sum_ok (parts_word hO hc hp0 hp1 0 ds) (by omega)
  have a1 := sum_ok (parts_word hO hc hp0 hp1 1 ds) (by omega)
  exact ⟨a0.2, a1.2, by rw [a0.1, a1.1]; exact key⟩
/-- More that is put in. -/
theorem more {s : St} {p0 p1 q0 q1 : Int} (hs : soundE s p0 p1 = 0) (h0 : p0 ≤ q0) (h1 : p1 ≤ q1) : soundE s q0 q1 = 0 ∨ soundE s q0 q1 = 11 := by
  obtain ⟨a1, a2, a3, a4, a5⟩ := sound_parts hs
  have key : ∀ (h : Int × Int) (p q mo m t : Int), p ≤ q → (free2 h p mo m t).2 = 0 → (free2 h q mo m t).2 = 0 ∨ (free2 h q mo m t).2 = 11 := by
    intro h p q mo m t hpq h0
    rw [free2_iff] at h0
    obtain ⟨b1, b2, b3, b4, b5⟩ := h0
    by_cases hov : 18446744073709551616 ≤ q + mo
    · right; rw [free2_over b1 hov]
    · left; rw [free2_iff]; exact ⟨b1, by omega, by omega, by omega, by omega⟩
  have k0 : (freeF s q0 q1 0).2 = 0 ∨ (freeF s q0 q1 0).2 = 11 := by rw [freeF_0] at a4 ⊢; exact key _ _ _ _ _ _ h0 a4
  have k1 : (freeF s q0 q1 1).2 = 0 ∨ (freeF s q0 q1 1).2 = 11 := by rw [freeF_1] at a5 ⊢; exact key _ _ _ _ _ _ h1 a5
  unfold soundE
  rw [if_neg (by omega), if_neg (by simpa using a3)]
  rcases k0 with k0 | k0
  · rw [if_neg (by simpa using k0)]; exact k1
  · rw [if_pos (by rw [k0]; decide), k0]; exact .inr rfl

end Go.Proofs.Ytkiifjkcpangfaa
