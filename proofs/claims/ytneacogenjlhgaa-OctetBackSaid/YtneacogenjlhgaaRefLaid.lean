/-
  What the document's Blob (function 58) and the statements' laid (function 17) answer: a thing's bytes behind bytes, as lay has them.
-/
import Derived.Test.YtneacogenjlhgaaItem
import Derived.Deep.Onto
namespace Go.Proofs.Ytneacogenjlhgaa
open Go.RowKit
set_option linter.unusedVariables false

theorem numV1 (n : Int) : numV 1 n = [n % 256] := by simp [numV]
theorem numV4 (n : Int) : numV 4 n = be4 (n % 4294967296) := by
  simp only [numV, be4, List.nil_append, List.cons_append, List.cons.injEq, and_true]
  omega
theorem numV4_small (n : Nat) (h : n ≤ 4096) : numV 4 n = be4 n := by
  rw [numV4]
  congr 1
  omega
theorem numV8 (n : Int) (h0 : 0 ≤ n) (h1 : n ≤ 18446744073709551615) : numV 8 n = be8 n := by
  simp only [numV, be8, be4, List.nil_append, List.cons_append, List.cons.injEq, and_true]
  omega

theorem Laid.fresh {w W w' : World} {base : Nat} {v v' : Value} {l : List Int} (hB : Below w.heap.size w W) (hbase : base ≤ W.heap.size) (hO : Own w' W.heap.size v' l) (hb : Below W.heap.size W w') (hl : l ≠ []) : Laid w base v l (.returned v') w' := by
  refine Laid.mk hB (World.ownsRow.mono hO hbase) (Below.grownBy hb _) (.inr ?_)
  rcases hO.2 with ⟨_, h⟩ | ⟨g, c, cur, rfl, hg, _⟩
  · exact absurd (List.eq_nil_of_length_eq_zero h) hl
  · exact ⟨g, hg, rfl⟩

set_option maxRecDepth 100000 in
set_option maxHeartbeats 2000000 in
theorem refblob_any (A A2 : Option Addr) (cap cap2 len n2 : Nat) (b p : List Int) (w : World) (hS : Src w A cap b) (hb : b.length = len) (hl : len ≤ 1000000) (hS2 : Src w A2 cap2 p) (hp : p.length = n2) (hn : n2 ≤ 4096) :
    Calls Try.prog 58 #[.slice A len cap, .slice A2 n2 cap2] w fun e w' => ∃ v', e = .returned v' ∧ Own w' w.heap.size v' (b ++ numV 4 n2 ++ p) ∧ Below w.heap.size w w' := by
  have HS := Lib.hid hS
  have HL := Lib.hid hb
  have HS2 := Lib.hid hS2
  have HP := Lib.hid hp
  clear hS hb hS2 hp
  have hn' : (n2 : Int) ≤ 4096 := by omega
  go_enter Try.func58, Try.ntmps58
  go_wp2_with fail
  have h5 := num_any A cap len b n2 4 (by omega) w HS.out HL.out hl (by omega) (by omega)
  rw [show ((4 : Nat) : Int) = 4 from rfl] at h5
  ((with_reducible refine h5.mono ?_))
  clear h5
  rintro e w1 ⟨v1, rfl, hO1, hB1⟩
  have HO1 := Lib.hid hO1
  have HB1 := Lib.hid hB1
  have HS3 := Lib.hid (HS2.out.below hB1)
  clear hO1 hB1
  go_wp2_with (at_builtin; refine wpList_app rfl (.tmp 9) (.tmp 10) 26 26 rfl Try.underlying26 Try.underlying26 w.heap.size v1 (b ++ numV 4 n2) p rfl HO1.out A2 n2 cap2 rfl HP.out.symm HS3.out ?c1 ?c2 ?_)
  case c1 => have := HL.out; have := HP.out; rw [List.length_append, numV_length]; omega
  case c2 => exact HB1.out.size
  intro v2 w2 hO2 hg2 hL2
  have HF : Hid (Own w2 w.heap.size v2 (b ++ numV 4 n2 ++ p) ∧ Below w.heap.size w w2) := Lib.hid ⟨by rw [List.append_assoc]; exact hO2, HB1.out.trans (grown_below hg2 HB1.out.size fun g hg => (World.ownsRow.lt HO1.out g hg).1)⟩
  clear hO2 hg2 hL2 HO1 HB1 HS3
  go_wp2
  go_ret
  exact ⟨_, rfl, HF.out.1, HF.out.2⟩

set_option maxRecDepth 100000 in
set_option maxHeartbeats 2000000 in
theorem laid_any (v : Value) (x : It) (base : Nat) (xs : List Int) (w : World) (hO : Own w base v xs) (hx : x.Ok w) (hn : x.n ≤ 4096) (hl : xs.length ≤ 1000000) (hbase : base ≤ w.heap.size) :
    Calls Try.prog 17 #[v, .agg x.cells.toArray] w (Laid w base v (xs ++ x.lays)) := by
  have HX := Lib.hid hx
  have HH := Lib.hid (Held.new w x hx.d)
  have HB := Lib.hid ((Below.refl w.heap.size w).alloc (Nat.le_refl _) (.cells x.cells.toArray 31))
  have HO := Lib.hid (World.ownsRow.alloc hO (.cells x.cells.toArray 31))
  obtain ⟨A, c, hv, hS⟩ := Own.src hO
  have HS := Lib.hid (hS.below HB.out)
  obtain ⟨len, hlen⟩ : ∃ len, xs.length = len := ⟨_, rfl⟩
  rw [hlen] at hv hl
  subst hv
  have HL := Lib.hid hlen
  have hk := HH.out.k
  have hn0 := HH.out.n
  have hp := HH.out.p
  have b0 := hx.n0
  have b1 := hx.n1
  clear hO hx hS hlen
  generalize hC : x.cells.toArray = C at *
  clear hC
  have hbase' : base ≤ (w.alloc (.cells C 31)).heap.size := by simp; omega
  have HBASE := Lib.hid hbase'
  have hlt : w.heap.size < (w.alloc (.cells C 31)).heap.size := by simp
  have HLT := Lib.hid hlt
  clear hbase' hlt
  by_cases h0 : x.K = 0
  · have hy : x.lays = [x.N % 256] := by simp [It.lays, h0]
    rw [hy]
    rw [h0] at hk
    go_enter Try.func17, Try.ntmps17
    go_wp2_with fail
    have h5 := num_any A c len xs x.N 1 (by omega) (w.alloc (.cells C 31)) HS.out HL.out hl b0 b1
    rw [show ((1 : Nat) : Int) = 1 from rfl, numV1] at h5
    ((with_reducible refine h5.mono ?_))
    clear h5
    rintro e w1 ⟨v1, rfl, hO1, hB1⟩
    have HF := Lib.hid (Laid.fresh (v := .slice A len c) HB.out HBASE.out hO1 hB1 (by simp))
    clear hO1 hB1
    go_wp2
    go_ret
    exact HF.out
  by_cases h1 : x.K = 1
  · have hy : x.lays = be4 (x.N % 4294967296) := by simp [It.lays, h1]
    rw [hy]
    rw [h1] at hk
    clear h0
    go_enter Try.func17, Try.ntmps17
    go_wp2_with fail
    have h5 := num_any A c len xs x.N 4 (by omega) (w.alloc (.cells C 31)) HS.out HL.out hl b0 b1
    rw [show ((4 : Nat) : Int) = 4 from rfl, numV4] at h5
    ((with_reducible refine h5.mono ?_))
    clear h5
    rintro e w1 ⟨v1, rfl, hO1, hB1⟩
    have HF := Lib.hid (Laid.fresh (v := .slice A len c) HB.out HBASE.out hO1 hB1 (by simp [be4]))
    clear hO1 hB1
    go_wp2
    go_ret
    exact HF.out
  by_cases h2 : x.K = 2
  · have hy : x.lays = be8 x.N := by simp [It.lays, h2]
    rw [hy]
    rw [h2] at hk
    clear h0 h1
    go_enter Try.func17, Try.ntmps17
    go_wp2_with fail
    have h5 := num_any A c len xs x.N 8 (by omega) (w.alloc (.cells C 31)) HS.out HL.out hl b0 b1
    rw [show ((8 : Nat) : Int) = 8 from rfl, numV8 x.N b0 b1] at h5
    ((with_reducible refine h5.mono ?_))
    clear h5
    rintro e w1 ⟨v1, rfl, hO1, hB1⟩
    have HF := Lib.hid (Laid.fresh (v := .slice A len c) HB.out HBASE.out hO1 hB1 (by simp [be8, be4]))
    clear hO1 hB1
    go_wp2
    go_ret
    exact HF.out
  by_cases h3 : x.K = 3
  · have hy : x.lays = x.D := by simp [It.lays, h3]
    rw [hy]
    rw [h3] at hk
    clear h0 h1 h2
    have HSD : Hid (Src (w.alloc (.cells C 31)) (some ⟨w.heap.size, 2, none⟩) 32 x.D) := Lib.hid ⟨fun h => (by cases h), .inr ⟨w.heap.size, 2, rfl, HLT.out, fun i hi => HH.out.d i _ (by simp [byt, List.getD, hi])⟩⟩
    go_enter Try.func17, Try.ntmps17
    go_wp2_with (at_builtin; refine wpList_app rfl (.tmp 27) (.tmp 29) 26 26 rfl Try.underlying26 Try.underlying26 base (.slice A len c) xs x.D rfl HO.out (some ⟨w.heap.size, 2, none⟩) 32 32 rfl HX.out.d.symm HSD.out ?c1 ?c2 ?_)
    case c1 => have := HL.out; rw [HX.out.d]; omega
    case c2 => first | exact HBASE.out | (have := HBASE.out; simp at this ⊢; omega)
    intro v1 w1 hO1 hg1 hL1
    have HF := Lib.hid (Laid.mk HB.out hO1 hg1 hL1)
    clear hO1 hg1 hL1
    go_wp2
    go_ret
    exact HF.out
  by_cases h4 : x.K = 4
  · have hy : x.lays = be4 x.n ++ x.B := by simp [It.lays, h4]
    rw [hy]
    rw [h4] at hk
    clear h0 h1 h2 h3
    go_enter Try.func17, Try.ntmps17
    go_wp2_with fail
    have h5 := refblob_any A x.A c x.c len x.n xs x.B (w.alloc (.cells C 31)) HS.out HL.out hl (HX.out.s.below HB.out) HX.out.b hn
    rw [numV4_small x.n hn, List.append_assoc] at h5
    ((with_reducible refine h5.mono ?_))
    clear h5
    rintro e w1 ⟨v1, rfl, hO1, hB1⟩
    have HF := Lib.hid (Laid.fresh (v := .slice A len c) HB.out HBASE.out hO1 hB1 (by simp [be4]))
    clear hO1 hB1
    go_wp2
    go_ret
    exact HF.out
  · have hy : x.lays = [] := by simp [It.lays, h0, h1, h2, h3, h4]
    rw [hy, List.append_nil]
    have HF : Hid (Laid w base (.slice A len c) xs (.returned (.slice A len c)) (w.alloc (.cells C 31))) := Lib.hid ⟨_, rfl, HO.out, Below.grownBy HB.out _, .inl rfl⟩
    have h0' : (x.K == 0) = false := by simp [h0]
    have h1' : (x.K == 1) = false := by simp [h1]
    have h2' : (x.K == 2) = false := by simp [h2]
    have h3' : (x.K == 3) = false := by simp [h3]
    have h4' : (x.K == 4) = false := by simp [h4]
    go_enter Try.func17, Try.ntmps17
    go_wp2
    go_ret
    exact HF.out
end Go.Proofs.Ytneacogenjlhgaa
