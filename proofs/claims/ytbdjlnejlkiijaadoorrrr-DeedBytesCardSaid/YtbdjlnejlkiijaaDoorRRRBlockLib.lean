/-
  What the document's block is made of: places of rows, words by sums and turns, the eight words gone round.
-/
import Derived.Test.YtbdjlnejlkiijaaDoorRRRRow64
import Derived.Test.YtbdjlnejlkiijaaDoorRRRGrind
import Derived.Deep.Cut
import Derived.BigRegion
namespace Go.Proofs.YtbdjlnejlkiijaaDoorRRR
open Go.RowKit
set_option linter.unusedVariables false

theorem idx8 (g o len cap j : Nat) (i : Int) (hi : i = (j : Int)) (hj : j < len) (W : World) : (Instr.indexAt 35 (.slice (some ⟨g, o, none⟩) len cap) (.int .i64 i)).run Tryd.prog W = .ok (.pointer (some ⟨g, o + j, none⟩)) W := by
  obtain ⟨i0, hi0, hz0, hz1, hz2⟩ := info_parts byte_info
  subst hi
  rw [run_indexAt_slice (P := Tryd.prog) (w := W) 35 ⟨g, o, none⟩ len cap .i64 (j : Int) (by kernel_rfl), if_pos (by omega), show Tryd.prog.elem 35 = 5 by kernel_rfl]
  simp [sizeOf, typeInfo, hi0, hz1, Addr.add_mid]
theorem idx64 (g o len cap j : Nat) (i : Int) (hi : i = (j : Int)) (hj : j < len) (W : World) : (Instr.indexAt 96 (.slice (some ⟨g, o, none⟩) len cap) (.int .i64 i)).run Tryd.prog W = .ok (.pointer (some ⟨g, o + j, none⟩)) W := by
  obtain ⟨i0, hi0, hz0, hz1, hz2⟩ := info_parts info57
  subst hi
  rw [run_indexAt_slice (P := Tryd.prog) (w := W) 96 ⟨g, o, none⟩ len cap .i64 (j : Int) (by kernel_rfl), if_pos (by omega), show Tryd.prog.elem 96 = 23 by kernel_rfl]
  simp [sizeOf, typeInfo, hi0, hz1, Addr.add_mid]

theorem word_ref (x0 x1 x2 x3 : Nat) (h0 : x0 < 256) (h1 : x1 < 256) (h2 : x2 < 256) (h3 : x3 < 256) :
    IntKind.u64.wrap (IntKind.u64.wrap (IntKind.u64.wrap (IntKind.u64.wrap (IntKind.u64.wrap (IntKind.u64.wrap (IntKind.u64.wrap (x0 : Int) * 256) + IntKind.u64.wrap (x1 : Int)) * 256) + IntKind.u64.wrap (x2 : Int)) * 256) + IntKind.u64.wrap (x3 : Int)) = ((x0 * 16777216 + x1 * 65536 + x2 * 256 + x3 : Nat) : Int) := by
  simp only [wrap_64]
  omega

theorem Own64.lower {w : World} {base base' : Nat} {v : Value} {l : List Nat} (h : Own64 w base v l) (hb : base' ≤ base) : Own64 w base' v l := by
  refine ⟨h.1, ?_⟩
  rcases h.2 with h1 | ⟨g, cap, cur, hv, hg, rest⟩
  · exact .inl h1
  · exact .inr ⟨g, cap, cur, hv, by omega, rest⟩
theorem xor64 (a b : Nat) (ha : a < 4294967296) (hb : b < 4294967296) : bits .xor .u64 (a : Int) (b : Int) = ((a ^^^ b : Nat) : Int) := u64_xor_nat a b (by omega) (by omega)
theorem sgA_ref (x : Nat) (hx : x < 4294967296) : bits .xor .u64 (bits .xor .u64 ((turned true 7 x : Nat) : Int) ((turned true 18 x : Nat) : Int)) ((turned false 3 x : Nat) : Int) = ((sgA x : Nat) : Int) := by
  have h1 := rotr_lt 7 x (by omega) hx
  have h2 := rotr_lt 18 x (by omega) hx
  rw [turned_true, turned_true, turned_false, xor64 _ _ h1 h2, xor64 _ _ (xor_lt h1 h2) (by omega)]
  rfl
theorem sgB_ref (x : Nat) (hx : x < 4294967296) : bits .xor .u64 (bits .xor .u64 ((turned true 17 x : Nat) : Int) ((turned true 19 x : Nat) : Int)) ((turned false 10 x : Nat) : Int) = ((sgB x : Nat) : Int) := by
  have h1 := rotr_lt 17 x (by omega) hx
  have h2 := rotr_lt 19 x (by omega) hx
  rw [turned_true, turned_true, turned_false, xor64 _ _ h1 h2, xor64 _ _ (xor_lt h1 h2) (by omega)]
  rfl

theorem sum_ref (a b c d : Nat) (ha : a < 4294967296) (hb : b < 4294967296) (hc : c < 4294967296) (hd : d < 4294967296) :
    (IntKind.u64.wrap (IntKind.u64.wrap (IntKind.u64.wrap ((a : Int) + (b : Int)) + (c : Int)) + (d : Int))).tmod 4294967296 = (((a + b + c + d) % 4294967296 : Nat) : Int) := by
  simp only [wrap_64]
  rw [Int.tmod_eq_emod_of_nonneg (by omega)]
  omega

/-- The eight words, gone round. -/
def VRow (w : World) (g k z0 z1 z2 z3 z4 z5 z6 z7 : Nat) : Prop := ∀ p, p < 8 → w.cell? ⟨g, p, none⟩ = some (.int .u64 (([z0, z1, z2, z3, z4, z5, z6, z7].getD ((p + k) % 8) 0 : Nat) : Int)) ∧ w.frozen? ⟨g, p, none⟩ = false
section
variable {w : World} {g k z0 z1 z2 z3 z4 z5 z6 z7 : Nat}
theorem VRow.at0 (h : VRow w g k z0 z1 z2 z3 z4 z5 z6 z7) (p : Nat) (hp : p < 8) (e : (p + k) % 8 = 0) : w.cell? ⟨g, p, none⟩ = some (.int .u64 (z0 : Int)) := by have h1 := (h p hp).1; rw [e] at h1; exact h1
theorem VRow.at1 (h : VRow w g k z0 z1 z2 z3 z4 z5 z6 z7) (p : Nat) (hp : p < 8) (e : (p + k) % 8 = 1) : w.cell? ⟨g, p, none⟩ = some (.int .u64 (z1 : Int)) := by have h1 := (h p hp).1; rw [e] at h1; exact h1
theorem VRow.at2 (h : VRow w g k z0 z1 z2 z3 z4 z5 z6 z7) (p : Nat) (hp : p < 8) (e : (p + k) % 8 = 2) : w.cell? ⟨g, p, none⟩ = some (.int .u64 (z2 : Int)) := by have h1 := (h p hp).1; rw [e] at h1; exact h1
theorem VRow.at3 (h : VRow w g k z0 z1 z2 z3 z4 z5 z6 z7) (p : Nat) (hp : p < 8) (e : (p + k) % 8 = 3) : w.cell? ⟨g, p, none⟩ = some (.int .u64 (z3 : Int)) := by have h1 := (h p hp).1; rw [e] at h1; exact h1
theorem VRow.at4 (h : VRow w g k z0 z1 z2 z3 z4 z5 z6 z7) (p : Nat) (hp : p < 8) (e : (p + k) % 8 = 4) : w.cell? ⟨g, p, none⟩ = some (.int .u64 (z4 : Int)) := by have h1 := (h p hp).1; rw [e] at h1; exact h1
theorem VRow.at5 (h : VRow w g k z0 z1 z2 z3 z4 z5 z6 z7) (p : Nat) (hp : p < 8) (e : (p + k) % 8 = 5) : w.cell? ⟨g, p, none⟩ = some (.int .u64 (z5 : Int)) := by have h1 := (h p hp).1; rw [e] at h1; exact h1
theorem VRow.at6 (h : VRow w g k z0 z1 z2 z3 z4 z5 z6 z7) (p : Nat) (hp : p < 8) (e : (p + k) % 8 = 6) : w.cell? ⟨g, p, none⟩ = some (.int .u64 (z6 : Int)) := by have h1 := (h p hp).1; rw [e] at h1; exact h1
theorem VRow.at7 (h : VRow w g k z0 z1 z2 z3 z4 z5 z6 z7) (p : Nat) (hp : p < 8) (e : (p + k) % 8 = 7) : w.cell? ⟨g, p, none⟩ = some (.int .u64 (z7 : Int)) := by have h1 := (h p hp).1; rw [e] at h1; exact h1
end

theorem quiet_r {f : FuncId} {args : Array Value} {w : World} {n : Nat} {v : Value} (h : Calls Tryd.prog f args (w.drewN n) fun e w' => e = .returned v ∧ ∃ q, w' = (w.drewN n).drewN q) : Calls Tryd.prog f args (w.drewN n) fun e w'' => e = .returned v ∧ ∃ m, w'' = w.drewN m :=
  h.mono fun _ _ ⟨he, q, hq⟩ => ⟨he, n + q, by rw [hq, World.drewN_drewN]⟩
theorem quiet_s {f : FuncId} {args : Array Value} {w : World} {n : Nat} {v : Value} (h : Calls Tryd.prog f args (w.drewN n) fun e w' => e = .returned v ∧ w.drewN n = w') : Calls Tryd.prog f args (w.drewN n) fun e w'' => e = .returned v ∧ ∃ m, w'' = w.drewN m :=
  h.mono fun _ _ ⟨he, hq⟩ => ⟨he, n, hq.symm⟩
theorem VRow.drewN {w : World} {g k z0 z1 z2 z3 z4 z5 z6 z7 : Nat} (h : VRow w g k z0 z1 z2 z3 z4 z5 z6 z7) (n : Nat) : VRow (w.drewN n) g k z0 z1 z2 z3 z4 z5 z6 z7 := h
theorem bgE_ref (x : Nat) (hx : x < 4294967296) : bits .xor .u64 (bits .xor .u64 ((turned true 6 x : Nat) : Int) ((turned true 11 x : Nat) : Int)) ((turned true 25 x : Nat) : Int) = ((bgE x : Nat) : Int) := by
  have h1 := rotr_lt 6 x (by omega) hx
  have h2 := rotr_lt 11 x (by omega) hx
  have h3 := rotr_lt 25 x (by omega) hx
  rw [turned_true, turned_true, turned_true, xor64 _ _ h1 h2, xor64 _ _ (xor_lt h1 h2) h3]
  rfl
theorem bgA_ref (x : Nat) (hx : x < 4294967296) : bits .xor .u64 (bits .xor .u64 ((turned true 2 x : Nat) : Int) ((turned true 13 x : Nat) : Int)) ((turned true 22 x : Nat) : Int) = ((bgA x : Nat) : Int) := by
  have h1 := rotr_lt 2 x (by omega) hx
  have h2 := rotr_lt 13 x (by omega) hx
  have h3 := rotr_lt 22 x (by omega) hx
  rw [turned_true, turned_true, turned_true, xor64 _ _ h1 h2, xor64 _ _ (xor_lt h1 h2) h3]
  rfl

/-- What a block's call is handed: words and a block's bytes, and the texts of the constants. -/
structure Handed (w : World) (gh oh gb ob : Nat) (hs bs : List Nat) (r : ByteArray) : Prop where
  hl : hs.length = 8
  hlt : ∀ x ∈ hs, x < 4294967296
  hb : gh < w.heap.size
  hc : ∀ i, i < 8 → w.cell? ⟨gh, oh + i, none⟩ = some (.int .u64 ((hs.getD i 0 : Nat) : Int))
  bl : bs.length = 64
  blt : ∀ x ∈ bs, x < 256
  bb : gb < w.heap.size
  bc : ∀ i, i < 64 → w.cell? ⟨gb, ob + i, none⟩ = some (.int .u8 ((bs.getD i 0 : Nat) : Int))
  rs : r.size = 8 * 64
  rl : ∀ c ∈ letters r, okLetter c = true
  rk : ∀ i, i < 64 → hexAt (letters r) i = kws.getD i 0
theorem Handed.below {w w' : World} {gh oh gb ob : Nat} {hs bs : List Nat} {r : ByteArray} (h : Handed w gh oh gb ob hs bs r) (hB : Below w.heap.size w w') : Handed w' gh oh gb ob hs bs r :=
  ⟨h.hl, h.hlt, Nat.lt_of_lt_of_le h.hb hB.size, fun i hi => by rw [hB.cell (p := ⟨gh, oh + i, none⟩) h.hb]; exact h.hc i hi, h.bl, h.blt, Nat.lt_of_lt_of_le h.bb hB.size, fun i hi => by rw [hB.cell (p := ⟨gb, ob + i, none⟩) h.bb]; exact h.bc i hi, h.rs, h.rl, h.rk⟩


/-- One word more in a row gone round. -/
theorem VRow.set3 {w : World} {g k z0 z1 z2 z3 z4 z5 z6 z7 : Nat} (h : VRow w g k z0 z1 z2 z3 z4 z5 z6 z7) (p y : Nat) (hp : p < 8) (e : (p + k) % 8 = 3) : VRow (w.setCell ⟨g, p, none⟩ (.int .u64 (y : Int))) g k z0 z1 z2 y z4 z5 z6 z7 := by
  intro q hq
  obtain ⟨h1, h2⟩ := h q hq
  rcases Nat.decEq p q with hne | heq
  · rw [World.cell?_setCell_other _ _ _ _ (by intro h; injection h; omega), World.frozen?_setCell]
    refine ⟨?_, h2⟩
    rw [h1]
    have hm : (q + k) % 8 ≠ 3 := by omega
    have hl : (q + k) % 8 < 8 := by omega
    revert hm hl
    generalize (q + k) % 8 = r
    intro hm hl
    match r, hm, hl with
    | 0, _, _ | 1, _, _ | 2, _, _ | 4, _, _ | 5, _, _ | 6, _, _ | 7, _, _ => rfl
  · subst heq
    rw [World.cell?_setCell_same _ _ _ h1, World.frozen?_setCell, e]
    exact ⟨rfl, h2⟩
theorem VRow.set7 {w : World} {g k z0 z1 z2 z3 z4 z5 z6 z7 : Nat} (h : VRow w g k z0 z1 z2 z3 z4 z5 z6 z7) (p y : Nat) (hp : p < 8) (e : (p + k) % 8 = 7) : VRow (w.setCell ⟨g, p, none⟩ (.int .u64 (y : Int))) g k z0 z1 z2 z3 z4 z5 z6 y := by
  intro q hq
  obtain ⟨h1, h2⟩ := h q hq
  rcases Nat.decEq p q with hne | heq
  · rw [World.cell?_setCell_other _ _ _ _ (by intro h; injection h; omega), World.frozen?_setCell]
    refine ⟨?_, h2⟩
    rw [h1]
    have hm : (q + k) % 8 ≠ 7 := by omega
    have hl : (q + k) % 8 < 8 := by omega
    revert hm hl
    generalize (q + k) % 8 = r
    intro hm hl
    have hr : r = 0 ∨ r = 1 ∨ r = 2 ∨ r = 3 ∨ r = 4 ∨ r = 5 ∨ r = 6 := by omega
    rcases hr with rfl | rfl | rfl | rfl | rfl | rfl | rfl <;> rfl
  · subst heq
    rw [World.cell?_setCell_same _ _ _ h1, World.frozen?_setCell, e]
    exact ⟨rfl, h2⟩
theorem VRow.round {w : World} {g k z0 z1 z2 z3 z4 z5 z6 z7 : Nat} (h : VRow w g k z0 z1 z2 z3 z4 z5 z6 z7) : VRow w g (k + 1) z7 z0 z1 z2 z3 z4 z5 z6 := by
  intro q hq
  obtain ⟨h1, h2⟩ := h q hq
  refine ⟨?_, h2⟩
  rw [h1]
  have hl : (q + k) % 8 < 8 := by omega
  have he : (q + (k + 1)) % 8 = ((q + k) % 8 + 1) % 8 := by omega
  rw [he]
  revert hl
  generalize (q + k) % 8 = r
  intro hl
  match r, hl with
  | 0, _ | 1, _ | 2, _ | 3, _ | 4, _ | 5, _ | 6, _ | 7, _ => rfl
theorem VRow.last {w : World} {g z0 z1 z2 z3 z4 z5 z6 z7 : Nat} (h : VRow w g 64 z0 z1 z2 z3 z4 z5 z6 z7) (p : Nat) (hp : p < 8) : w.cell? ⟨g, p, none⟩ = some (.int .u64 (([z0, z1, z2, z3, z4, z5, z6, z7].getD p 0 : Nat) : Int)) := by
  have h1 := (h p hp).1
  rw [show (p + 64) % 8 = p by omega] at h1
  exact h1
theorem VRow.below {w w' : World} {g k z0 z1 z2 z3 z4 z5 z6 z7 : Nat} (h : VRow w g k z0 z1 z2 z3 z4 z5 z6 z7) {B : Nat} (hb : Below B w w') (hg : g < B) : VRow w' g k z0 z1 z2 z3 z4 z5 z6 z7 := fun p hp => by
  rw [hb.cell (p := ⟨g, p, none⟩) hg, hb.frozen (p := ⟨g, p, none⟩) hg]
  exact h p hp

/-- Which place holds which word. -/
def Places (k p0 p1 p2 p3 p4 p5 p6 p7 : Nat) : Prop := p0 = (64 - k) % 8 ∧ p1 = (65 - k) % 8 ∧ p2 = (66 - k) % 8 ∧ p3 = (67 - k) % 8 ∧ p4 = (68 - k) % 8 ∧ p5 = (69 - k) % 8 ∧ p6 = (70 - k) % 8 ∧ p7 = (71 - k) % 8
theorem Places.lt {k p0 p1 p2 p3 p4 p5 p6 p7 : Nat} (h : Places k p0 p1 p2 p3 p4 p5 p6 p7) : p0 < 8 ∧ p1 < 8 ∧ p2 < 8 ∧ p3 < 8 ∧ p4 < 8 ∧ p5 < 8 ∧ p6 < 8 ∧ p7 < 8 := by
  unfold Places at h
  omega
theorem Places.at_ {k p0 p1 p2 p3 p4 p5 p6 p7 : Nat} (h : Places k p0 p1 p2 p3 p4 p5 p6 p7) (hk : k < 64) : (p0 + k) % 8 = 0 ∧ (p1 + k) % 8 = 1 ∧ (p2 + k) % 8 = 2 ∧ (p3 + k) % 8 = 3 ∧ (p4 + k) % 8 = 4 ∧ (p5 + k) % 8 = 5 ∧ (p6 + k) % 8 = 6 ∧ (p7 + k) % 8 = 7 := by
  unfold Places at h
  omega
theorem Places.ne {k p0 p1 p2 p3 p4 p5 p6 p7 : Nat} (h : Places k p0 p1 p2 p3 p4 p5 p6 p7) (hk : k < 64) : p0 ≠ p3 ∧ p0 ≠ p7 ∧ p3 ≠ p7 := by
  unfold Places at h
  omega
theorem VRow.cells {w : World} {g k z0 z1 z2 z3 z4 z5 z6 z7 p0 p1 p2 p3 p4 p5 p6 p7 : Nat} (h : VRow w g k z0 z1 z2 z3 z4 z5 z6 z7) (hp : Places k p0 p1 p2 p3 p4 p5 p6 p7) (hk : k < 64) :
    w.cell? ⟨g, p0, none⟩ = some (.int .u64 (z0 : Int)) ∧ w.cell? ⟨g, p1, none⟩ = some (.int .u64 (z1 : Int)) ∧ w.cell? ⟨g, p2, none⟩ = some (.int .u64 (z2 : Int)) ∧ w.cell? ⟨g, p3, none⟩ = some (.int .u64 (z3 : Int)) ∧ w.cell? ⟨g, p4, none⟩ = some (.int .u64 (z4 : Int)) ∧ w.cell? ⟨g, p5, none⟩ = some (.int .u64 (z5 : Int)) ∧ w.cell? ⟨g, p6, none⟩ = some (.int .u64 (z6 : Int)) ∧ w.cell? ⟨g, p7, none⟩ = some (.int .u64 (z7 : Int)) := by
  obtain ⟨l0, l1, l2, l3, l4, l5, l6, l7⟩ := hp.lt
  obtain ⟨e0, e1, e2, e3, e4, e5, e6, e7⟩ := hp.at_ hk
  exact ⟨h.at0 p0 l0 e0, h.at1 p1 l1 e1, h.at2 p2 l2 e2, h.at3 p3 l3 e3, h.at4 p4 l4 e4, h.at5 p5 l5 e5, h.at6 p6 l6 e6, h.at7 p7 l7 e7⟩
theorem VRow.stores {w : World} {g k z0 z1 z2 z3 z4 z5 z6 z7 p0 p1 p2 p3 p4 p5 p6 p7 : Nat} (h : VRow w g k z0 z1 z2 z3 z4 z5 z6 z7) (hp : Places k p0 p1 p2 p3 p4 p5 p6 p7) (hk : k < 64) (y3 : Nat) : VRow (w.setCell ⟨g, p3, none⟩ (.int .u64 (y3 : Int))) g k z0 z1 z2 y3 z4 z5 z6 z7 := h.set3 p3 y3 hp.lt.2.2.2.1 (hp.at_ hk).2.2.2.1
theorem VRow.stores7 {w : World} {g k z0 z1 z2 z3 z4 z5 z6 z7 p0 p1 p2 p3 p4 p5 p6 p7 : Nat} (h : VRow w g k z0 z1 z2 z3 z4 z5 z6 z7) (hp : Places k p0 p1 p2 p3 p4 p5 p6 p7) (hk : k < 64) (y7 : Nat) : VRow (w.setCell ⟨g, p7, none⟩ (.int .u64 (y7 : Int))) g (k + 1) y7 z0 z1 z2 z3 z4 z5 z6 := (h.set7 p7 y7 hp.lt.2.2.2.2.2.2.2 (hp.at_ hk).2.2.2.2.2.2.2).round
/-- Which place a difference's rest names. -/
theorem Places.rests {k p0 p1 p2 p3 p4 p5 p6 p7 : Nat} (h : Places k p0 p1 p2 p3 p4 p5 p6 p7) (hk : k < 64) :
    ((64 - (k : Int)) % 8 = (p0 : Int) ∧ (68 - (k : Int)) % 8 = (p4 : Int) ∧ (71 - (k : Int)) % 8 = (p7 : Int) ∧ (67 - (k : Int)) % 8 = (p3 : Int)) ∧ (69 - (k : Int)).tmod 8 = (p5 : Int) ∧ (70 - (k : Int)).tmod 8 = (p6 : Int) ∧ (65 - (k : Int)).tmod 8 = (p1 : Int) ∧ (66 - (k : Int)).tmod 8 = (p2 : Int) := by
  unfold Places at h
  refine ⟨by omega, ?_, ?_, ?_, ?_⟩ <;> rw [Int.tmod_eq_emod_of_nonneg (by omega)] <;> omega

theorem cell_lt {w : World} {g o : Nat} {v : Value} (h : w.cell? ⟨g, o, none⟩ = some v) : g < w.heap.size := by
  rcases Nat.lt_or_ge g w.heap.size with hlt | hge
  · exact hlt
  · simp [World.cell?, Array.getElem?_eq_none hge] at h
theorem comp_take_all (hs bs : List Nat) (h : hs.length = 8) : (comp hs bs).take 8 = comp hs bs := List.take_of_length_le (by rw [comp_length hs bs h]; exact Nat.le_refl _)

/-- No bit is in both: the sum is the choice. -/
theorem choice_sum (e f g : Nat) (he : e < 4294967296) (hf : f < 4294967296) (hg : g < 4294967296) : (e &&& f) + ((4294967295 - e) &&& g) = chs e f g := by
  have hx : e &&& f < 4294967296 := and_lt hf
  have hy : (4294967295 - e) &&& g < 4294967296 := and_lt hg
  have hz : (e &&& f) &&& ((4294967295 - e) &&& g) = 0 := by
    apply Nat.eq_of_testBit_eq
    intro i
    have h1 : (4294967295 - e).testBit i = (decide (i < 32) && !e.testBit i) := by
      have := Nat.testBit_two_pow_sub_succ (n := 32) (x := e) he i
      rw [show 4294967295 - e = 2 ^ 32 - (e + 1) by omega]
      exact this
    simp only [Nat.testBit_and, h1, Nat.zero_testBit]
    cases e.testBit i <;> simp
  have hb := BitVec.add_eq_or_of_and_eq_zero (w := 64) (BitVec.ofNat 64 (e &&& f)) (BitVec.ofNat 64 ((4294967295 - e) &&& g)) (by
    apply BitVec.eq_of_toNat_eq
    simp only [BitVec.toNat_and, BitVec.toNat_ofNat]
    rw [Nat.mod_eq_of_lt (by omega), Nat.mod_eq_of_lt (by omega), hz])
  have hn := congrArg BitVec.toNat hb
  simp only [BitVec.toNat_add, BitVec.toNat_or, BitVec.toNat_ofNat] at hn
  rw [Nat.mod_eq_of_lt (a := e &&& f) (by omega), Nat.mod_eq_of_lt (a := (4294967295 - e) &&& g) (by omega), Nat.mod_eq_of_lt (by omega)] at hn
  rw [hn]
  unfold chs
  apply Nat.eq_of_testBit_eq
  intro i
  have hi := congrArg (fun z => Nat.testBit z i) hz
  simp only [Nat.testBit_and, Nat.zero_testBit] at hi
  simp only [Nat.testBit_or, Nat.testBit_xor, Nat.testBit_and]
  revert hi
  cases e.testBit i <;> cases f.testBit i <;> cases (4294967295 - e).testBit i <;> cases g.testBit i <;> simp
theorem and64 (a b : Nat) (ha : a < 4294967296) (hb : b < 4294967296) : bits .and .u64 (a : Int) (b : Int) = ((a &&& b : Nat) : Int) := u64_and_nat a b (by omega) (by omega)
theorem one_ref (z4 z5 z6 z7 c x : Nat) (l4 : z4 < 4294967296) (l5 : z5 < 4294967296) (l6 : z6 < 4294967296) (l7 : z7 < 4294967296) (lc : c < 4294967296) (lx : x < 4294967296) :
    IntKind.u64.wrap (IntKind.u64.wrap (IntKind.u64.wrap (IntKind.u64.wrap ((z7 : Int) + ((bgE z4 : Nat) : Int)) + IntKind.u64.wrap (bits .and .u64 (z4 : Int) (z5 : Int) + bits .and .u64 (4294967295 - (z4 : Int)) (z6 : Int))) + (c : Int)) + (x : Int)) = ((z7 + bgE z4 + chs z4 z5 z6 + c + x : Nat) : Int) := by
  have e1 : (4294967295 - (z4 : Int)) = ((4294967295 - z4 : Nat) : Int) := by omega
  rw [e1, and64 _ _ l4 l5, and64 _ _ (by omega) l6]
  have e2 := choice_sum z4 z5 z6 l4 l5 l6
  have b1 := bgE_lt z4 l4
  have b2 := chs_lt z4 z5 z6 l5 l6
  simp only [wrap_64]
  omega
theorem mid_ref (z3 y : Nat) (l3 : z3 < 4294967296) (ly : y < 21474836480) : ((z3 : Int) + (y : Int)) % 4294967296 = (((z3 + y % 4294967296) % 4294967296 : Nat) : Int) := by omega
theorem last_ref (y z0 z1 z2 : Nat) (ly : y < 21474836480) (l0 : z0 < 4294967296) (l1 : z1 < 4294967296) (l2 : z2 < 4294967296) :
    (IntKind.u64.wrap (IntKind.u64.wrap ((y : Int) + ((bgA z0 : Nat) : Int)) + bits .xor .u64 (bits .xor .u64 (bits .and .u64 (z0 : Int) (z1 : Int)) (bits .and .u64 (z0 : Int) (z2 : Int))) (bits .and .u64 (z1 : Int) (z2 : Int)))).tmod 4294967296 = (((y % 4294967296 + bgA z0 + maj z0 z1 z2) % 4294967296 : Nat) : Int) := by
  rw [and64 _ _ l0 l1, and64 _ _ l0 l2, and64 _ _ l1 l2, xor64 _ _ (and_lt l1) (and_lt l2), xor64 _ _ (xor_lt (and_lt l1) (and_lt l2)) (and_lt l2)]
  have b1 := bgA_lt z0 l0
  have b2 := maj_lt z0 z1 z2 l1 l2
  have e : (z0 &&& z1) ^^^ (z0 &&& z2) ^^^ (z1 &&& z2) = maj z0 z1 z2 := rfl
  rw [e]
  simp only [wrap_64]
  rw [Int.tmod_eq_emod_of_nonneg (by omega)]
  omega
theorem out_ref (a b : Nat) (ha : a < 4294967296) (hb : b < 4294967296) : (IntKind.u64.wrap ((a : Int) + (b : Int))).tmod 4294967296 = (((a + b) % 4294967296 : Nat) : Int) := by
  rw [wrap_64, Int.tmod_eq_emod_of_nonneg (by omega)]
  omega
theorem addw_take (ws vs : List Nat) (k : Nat) (h1 : k < ws.length) (h2 : k < vs.length) : (addw ws vs).take (k + 1) = (addw ws vs).take k ++ [(ws.getD k 0 + vs.getD k 0) % 4294967296] := by
  have hl : k < (addw ws vs).length := by simp [addw]; omega
  rw [List.take_succ_eq_append_getElem hl]
  simp [addw, List.getD, h1, h2]
end Go.Proofs.YtbdjlnejlkiijaaDoorRRR
