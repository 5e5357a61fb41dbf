/-
  An In off which things are taken: its block, what is left; octet.Of (function 19), next (61), number (60), Bad (25), Left (29), End (26).
-/
import Derived.Test.YtkilajobnlagbaaDoorOctOnesLib
import Derived.Deep.OwnRows
import Derived.Laws.CopyOwn
import Derived.Deep.Cut
namespace Go.Proofs.YtkilajobnlagbaaDoor.Oct
open Go.RowKit
set_option linter.unusedVariables false

/-- A block that is known whole, and may be written. -/
def Bk (w : World) (g : Nat) (t : TypeId) (cs : List Value) : Prop := w.heap[g]? = some (.cells cs.toArray t (0, 0))
section
variable {w w' : World} {g : Nat} {t : TypeId} {cs : List Value}
theorem Bk.lt (h : Bk w g t cs) : g < w.heap.size := by
  rcases Nat.lt_or_ge g w.heap.size with hlt | hge
  · exact hlt
  · unfold Bk at h; rw [Array.getElem?_eq_none hge] at h; cases h
theorem Bk.cell (h : Bk w g t cs) (i : Nat) : w.cell? ⟨g, i, none⟩ = cs[i]? := by
  rw [cell_of_row w g i cs.toArray t (0, 0) h]; simp
theorem Bk.frozen (h : Bk w g t cs) (i : Nat) : w.frozen? ⟨g, i, none⟩ = false := by
  unfold Bk at h
  simp [World.frozen?, h]
theorem Bk.new (w : World) (t : TypeId) (cs : List Value) : Bk (w.alloc (.cells cs.toArray t)) w.heap.size t cs := heap_alloc_last w _
theorem Bk.alloc (h : Bk w g t cs) (o : Obj) : Bk (w.alloc o) g t cs := (Below.heap_alloc w o g h.lt).trans h
theorem Bk.set_ (h : Bk w g t cs) (i : Nat) (u : Value) : Bk (w.setCell ⟨g, i, none⟩ u) g t (cs.set i u) := by
  unfold Bk at h ⊢
  rw [setCell_eq_setRow w g i cs.toArray t (0, 0) u h, setRow_heap w g cs.toArray _ t _ h]
  simp
theorem Bk.below {B : Nat} (h : Bk w g t cs) (hb : Below B w w') (hg : g < B) : Bk w' g t cs := (hb.block g hg).trans h
theorem Bk.grown {row : Option Nat} (h : Bk w g t cs) (hb : w.grownBy w' row) (hg : some g ≠ row) : Bk w' g t cs := (hb.block g h.lt hg).trans h
theorem Bk.all (h : Bk w g t cs) : w.rangeAt g 0 cs := fun j v hv => by
  rw [h.cell, Nat.zero_add]
  exact hv
end
theorem only_set (w : World) (g o : Nat) (u : Value) : w.grownBy (w.setCell ⟨g, o, none⟩ u) (some g) :=
  ⟨rfl, rfl, rfl, by simp [World.setCell], fun i hi hne => Below.heap_setCell w ⟨g, o, none⟩ u i (by rintro rfl; exact hne rfl)⟩
/-- An In with nothing wrong, and what is left of its bytes. -/
structure InAt (w : World) (g : Nat) (l : List Int) : Prop where
  ex : ∃ gr o c, Bk w g 127 [.slice (some ⟨gr, o, none⟩) l.length c, .int .i64 0] ∧ gr < g ∧ l.length ≤ c ∧ c ≤ 9223372036854775807 ∧ ∀ i, i < l.length → w.cell? ⟨gr, o + i, none⟩ = some (.int .u8 (l.getD i 0))
theorem InAt.below {w w' : World} {g : Nat} {l : List Int} (h : InAt w g l) (hb : Below w.heap.size w w') : InAt w' g l := by
  obtain ⟨gr, o, c, h1, h2, h4, h5, h6⟩ := h.ex
  exact ⟨gr, o, c, h1.below hb h1.lt, h2, h4, h5, fun i hi => by rw [hb.cell (p := ⟨gr, o + i, none⟩) (Nat.lt_trans h2 h1.lt)]; exact h6 i hi⟩
theorem InAt.drewN {w : World} {g : Nat} {l : List Int} (h : InAt w g l) (n : Nat) : InAt (w.drewN n) g l := ⟨h.ex⟩
theorem InAt.lt {w : World} {g : Nat} {l : List Int} (h : InAt w g l) : g < w.heap.size := by
  obtain ⟨gr, o, c, h1, _⟩ := h.ex
  exact h1.lt

def cutPlace (o c h : Nat) : Nat := if c = h then o else o + h
theorem cutLo (A : Option Addr) (L c h : Nat) (hh : h ≤ c) (W : World) : (Instr.slice 22 (.slice A L c) none (some (.int .i64 (h : Int))) none).run Tryd.prog W = .ok (.slice A h c) W := by
  obtain ⟨i0, hi, hzz⟩ := Option.map_eq_some_iff.1 byte_info
  simp only [Prod.mk.injEq] at hzz
  rw [run_slice_h (P := Tryd.prog) W 22 A L c (by kernel_rfl) .i64 (h : Int) (by omega) (by omega), show Tryd.prog.elem 22 = 5 by kernel_rfl]
  cases A <;> simp [sizeOf, typeInfo, hi, sliced, Addr.add]
theorem cutHi (g o L c h : Nat) (hh : h ≤ L) (hc : L ≤ c) (W : World) : (Instr.slice 22 (.slice (some ⟨g, o, none⟩) L c) (some (.int .i64 (h : Int))) none none).run Tryd.prog W = .ok (.slice (some ⟨g, cutPlace o c h, none⟩) (L - h) (c - h)) W := by
  obtain ⟨i0, hi, hzz⟩ := Option.map_eq_some_iff.1 byte_info
  simp only [Prod.mk.injEq] at hzz
  obtain ⟨hz0, hz1, hz2⟩ := hzz
  rw [run_slice_l (P := Tryd.prog) W 22 _ L c (by kernel_rfl) .i64 (h : Int) (by omega) (by omega), show Tryd.prog.elem 22 = 5 by kernel_rfl]
  by_cases e : c = h <;> simp [sizeOf, typeInfo, hi, hz1, sliced, cutPlace, e, Go.WideShapes.add_plain]

theorem InAt.cut {w : World} {g gr o c L n : Nat} {xs ys : List Int} (hn : xs.length = n) (hL : (xs ++ ys).length = L) (h1 : Bk w g 127 [.slice (some ⟨gr, o, none⟩) L c, .int .i64 0]) (h2 : gr < g) (h4 : L ≤ c) (h5 : c ≤ 9223372036854775807) (h6 : ∀ i, i < L → w.cell? ⟨gr, o + i, none⟩ = some (.int .u8 ((xs ++ ys).getD i 0))) :
    InAt (w.setCell ⟨g, 0, none⟩ (.slice (some ⟨gr, cutPlace o c n, none⟩) (L - n) (c - n))) g ys ∧ Src (w.setCell ⟨g, 0, none⟩ (.slice (some ⟨gr, cutPlace o c n, none⟩) (L - n) (c - n))) (some ⟨gr, o, none⟩) c xs := by
  have hly : L - n = ys.length := by rw [← hL, ← hn]; simp
  have hfar : ∀ j, (w.setCell ⟨g, 0, none⟩ (.slice (some ⟨gr, cutPlace o c n, none⟩) (L - n) (c - n))).cell? ⟨gr, j, none⟩ = w.cell? ⟨gr, j, none⟩ := fun j => World.cell?_setCell_other _ _ _ _ (by intro h; injection h; omega)
  have hLn : L = n + ys.length := by rw [← hL, ← hn]; simp
  have h3 : gr < w.heap.size := Nat.lt_trans h2 h1.lt
  refine ⟨⟨gr, cutPlace o c n, c - n, ?_, h2, by omega, by omega, fun i hi => ?_⟩, fun h => (by cases h), ?_⟩
  · have h := h1.set_ 0 (.slice (some ⟨gr, cutPlace o c n, none⟩) (L - n) (c - n))
    rw [hly] at h ⊢
    exact h
  · rw [hfar]
    have hcn : cutPlace o c n = o + n := by unfold cutPlace; rw [if_neg (by omega)]
    rw [hcn, show o + n + i = o + (n + i) by omega, h6 (n + i) (by omega)]
    simp [List.getD, List.getElem?_append_right, hn]
  · rcases Nat.eq_zero_or_pos xs.length with h0 | h0
    · exact .inl (List.eq_nil_of_length_eq_zero h0)
    · refine .inr ⟨gr, o, rfl, by simpa [World.setCell] using h3, fun i hi => ?_⟩
      rw [hfar, h6 i (by omega)]
      simp [List.getD, List.getElem?_append_left hi]

set_option maxRecDepth 100000 in
theorem next_any (g n : Nat) (xs ys : List Int) (w : World) (HI : Hid (InAt w g (xs ++ ys))) (HN : Hid (xs.length = n)) :
    Calls Tryd.prog 76 #[.pointer (some ⟨g, 0, none⟩), .int .i64 (n : Int)] w fun e w' => ∃ A c, e = .returned (.slice A n c) ∧ Src w' A c xs ∧ InAt w' g ys ∧ w.grownBy w' (some g) := by
  obtain ⟨gr, o, c, h1, h2, h4, h5, h6⟩ := HI.out.ex
  obtain ⟨L, hL⟩ : ∃ L, (xs ++ ys).length = L := ⟨_, rfl⟩
  rw [hL] at h1 h4 h6
  have hnL : n ≤ L := by rw [← hL, ← HN.out]; simp
  have HC := Lib.hid (InAt.cut HN.out hL h1 h2 h4 h5 h6)
  have c0 := h1.cell 0
  have f0 := h1.frozen 0
  have hs1 := cutLo (some ⟨gr, o, none⟩) L c n (by omega)
  have hs2 := cutHi gr o L c n hnL h4
  have n1 : (n : Int) ≤ (L : Int) := by omega
  have HG := Lib.hid (only_set w g 0 (.slice (some ⟨gr, cutPlace o c n, none⟩) (L - n) (c - n)))
  clear h1 h2 h6 hL
  go_enter Tryd.func76, Tryd.ntmps76
  go_wp2
  go_ret
  exact ⟨_, _, rfl, HC.out.2, HC.out.1, HG.out⟩

/-- A number off bytes, the greatest first. -/
def numB : List Int → Int → Int
  | [], n => n
  | b :: r, n => numB r (n * 256 + b)
theorem numB_snoc (l : List Int) (b n : Int) : numB (l ++ [b]) n = numB l n * 256 + b := by
  induction l generalizing n with
  | nil => rfl
  | cons a r ih => exact ih _

set_option maxRecDepth 100000 in
theorem number_any (A : Option Addr) (c n : Nat) (l : List Int) (w : World) (HS : Hid (Src w A c l)) (HN : Hid (l.length = n)) (hn : n ≤ 8) (HB : Hid (∀ b ∈ l, 0 ≤ b ∧ b < 256)) :
    Calls Tryd.prog 75 #[.slice A n c] w fun r w' => r = .returned (.int .u64 (numB l 0)) ∧ w = w' := by
  go_enter Tryd.func75, Tryd.ntmps75
  go_wp2_with fail
  go_loop [8, 3, 5] (fun i t _ => ∃ (k v : Nat), k ≤ n ∧ i = .int .i64 k ∧ t = .int .u64 v ∧ Hid (numB (l.take k) 0 = v) ∧ Hid (v < 256 ^ k)) (fun i _ _ => n - (intOf i).toNat)
  case atStart => exact ⟨0, 0, Nat.zero_le _, rfl, rfl, Lib.hid (by simp [numB]), Lib.hid (by simp)⟩
  case round =>
    obtain ⟨k, v, hk, rfl, rfl, HV, HVB⟩ := hrel
    by_cases hlt : k < n
    · have hkn : k < l.length := by rw [HN.out]; exact hlt
      rcases HS.out.2 with h0 | ⟨b, off, rfl, hb, hc⟩
      · exfalso
        rw [h0] at hkn
        simp at hkn
      · obtain ⟨x, hx⟩ : ∃ x, l.getD k 0 = x := ⟨_, rfl⟩
        have hcell := hc k hkn
        rw [hx] at hcell
        have hxm : x ∈ l := by rw [← hx]; simp [List.getD, hkn]
        obtain ⟨x0, x1⟩ := HB.out x hxm
        obtain ⟨y, rfl⟩ : ∃ y : Nat, x = (y : Int) := ⟨x.toNat, by omega⟩
        have hy : y < 256 := by omega
        clear hc hxm
        have hp : 256 ^ k ≤ 72057594037927936 := by
          have h1 : k ≤ 7 := by omega
          have h2 := Nat.pow_le_pow_right (n := 256) (by omega) h1
          exact h2
        have HOR : Hid (bits .or .u64 (IntKind.u64.wrap ((v : Int) * 256)) (y : Int) = ((v * 256 + y : Nat) : Int)) := Lib.hid (by
          have h1 := HVB.out
          have e1 : IntKind.u64.wrap ((v : Int) * 256) = ((v * 256 : Nat) : Int) := by
            rw [show (v : Int) * 256 = ((v * 256 : Nat) : Int) by simp]
            exact IntWalk.u64_in _ (by omega)
          rw [e1, u64_or_nat _ _ (by omega) (by omega), nat_join 8 (v * 256) y (by omega) hy])
        have HV2 : Hid (numB (l.take (k + 1)) 0 = ((v * 256 + y : Nat) : Int)) := Lib.hid (by
          rw [← take_snoc l k _ hkn hx, numB_snoc, HV.out]
          simp)
        have HVB2 : Hid (v * 256 + y < 256 ^ (k + 1)) := Lib.hid (by
          have h1 := HVB.out
          rw [Nat.pow_succ]
          omega)
        clear hx hp
        go_wp2
        rw [HOR.out]
        go_round
        case rel => exact ⟨k + 1, v * 256 + y, by omega, by go_num, rfl, HV2, HVB2⟩
        case measure => simp [intOf]; omega
    · have htk : l.take k = l := List.take_of_length_le (by rw [HN.out]; omega)
      rw [htk] at HV
      clear htk
      go_wp2
      go_ret
      exact ⟨by rw [HV.out]; rfl, rfl⟩

theorem be4_bytes (n : Int) (h0 : 0 ≤ n) (h1 : n ≤ 4294967295) : ∀ b ∈ be4 n, 0 ≤ b ∧ b < 256 := by
  intro b hb
  simp [be4] at hb
  omega
theorem be8_bytes (n : Int) (h0 : 0 ≤ n) (h1 : n ≤ 18446744073709551615) : ∀ b ∈ be8 n, 0 ≤ b ∧ b < 256 := by
  intro b hb
  rcases List.mem_append.1 hb with hb | hb
  · exact be4_bytes _ (by omega) (by omega) b hb
  · exact be4_bytes _ (by omega) (by omega) b hb
theorem splice_all (cur cs : List Value) (h : cs.length = cur.length) : splice cur 0 cs = cs := by
  simp [splice, h]
theorem byt_one (l : List Int) : ∀ v ∈ byt l, v.oneCell' = true := by
  intro v hv
  obtain ⟨n, _, rfl⟩ := List.mem_map.1 hv
  rfl
theorem info5 : (Tryd.prog.info? 5).map (·.size) = some 1 := by kernel_rfl
theorem Src.cells {w : World} {A : Option Addr} {c : Nat} {l : List Int} (h : Src w A c l) (hl : 0 < (byt l).length) : ∃ ad, A = some ad ∧ ∀ j v, (byt l)[j]? = some v → w.cell? (ad.add j) = some v := by
  rcases h.2 with rfl | ⟨b, off, rfl, _, hc⟩
  · simp [byt] at hl
  · refine ⟨_, rfl, fun j v hv => ?_⟩
    have hj : j < l.length := by
      have := (List.getElem?_eq_some_iff.1 hv).1
      simpa [byt] using this
    rw [Go.WideShapes.add_plain, hc j hj, ← hv]
    simp [byt, List.getD, hj]
theorem Src.bk {w : World} {g n : Nat} {t : TypeId} {l : List Int} (h : Bk w g t (byt l)) (hn : l.length = n) : Src w (some ⟨g, 0, none⟩) n l := by
  refine ⟨fun h => (by cases h), .inr ⟨g, 0, rfl, h.lt, fun i hi => ?_⟩⟩
  rw [Nat.zero_add, h.cell]
  simp [byt, List.getD, hi]

set_option maxRecDepth 100000 in
set_option maxHeartbeats 1000000 in
theorem of_any (A : Option Addr) (c n : Nat) (l : List Int) (w : World) (HS : Hid (Src w A c l)) (HN : Hid (l.length = n)) (hn : n ≤ 1000000000) :
    Calls Tryd.prog 60 #[.slice A n c] w fun r w' => ∃ g, r = .returned (.pointer (some ⟨g, 0, none⟩)) ∧ InAt w' g l ∧ Below w.heap.size w w' ∧ w.heap.size ≤ g := by
  have hmk := run_make_row' (P := Tryd.prog) 22 5 (.int .u8 0) 1 Tryd.underlying22 byte_info rfl .i64 .i64 n (by omega) (by omega)
  have HB0 : Hid (Below w.heap.size w (w.alloc (.cells (madeCells #[.int .u8 0] n) 5))) := Lib.hid ((Below.refl _ _).alloc (Nat.le_refl _) _)
  have HC0 : Hid ((w.alloc (.cells (madeCells #[.int .u8 0] n) 5)).heap[w.heap.size]? = some (.cells (List.replicate n (Value.int .u8 0)).toArray 5 (0, 0))) := Lib.hid (by
    have h := heap_alloc_last w (.cells (madeCells #[.int .u8 0] n) 5)
    have e : (List.replicate n (Value.int .u8 0)).toArray = madeCells #[.int .u8 0] n := by
      apply Array.ext'
      rw [toList_madeCells_one]
    rw [e]
    exact h)
  go_enter Tryd.func60, Tryd.ntmps60
  go_upto_region 2 with fail
  generalize w.alloc (.cells (madeCells #[.int .u8 0] n) 5) = V at HB0 HC0 ⊢
  have HSV := Lib.hid (HS.out.below HB0.out)
  have HL1 : Hid ((byt l).length = Nat.min n n) := Lib.hid (by simp [byt, HN.out])
  have HPS : Hid (0 < (byt l).length → (some ⟨w.heap.size, 0, none⟩ : Option Addr) = some ⟨w.heap.size, 0, none⟩ ∧ ∃ ad, A = some ad ∧ ∀ j v, (byt l)[j]? = some v → V.cell? (ad.add j) = some v) := Lib.hid fun h => ⟨rfl, HSV.out.cells h⟩
  have HFT : Hid (0 + (byt l).length ≤ (List.replicate n (Value.int .u8 0)).length) := Lib.hid (by simp [byt, HN.out])
  have HO1 := Lib.hid (byt_one l)
  clear hmk
  go_wp2_with (with_reducible refine wpList_copy_splice rfl (.tmp 7) (.tmp 8) 22 22 rfl 5 Tryd.underlying22 info5 (some ⟨w.heap.size, 0, none⟩) A n n n c rfl rfl w.heap.size 0 _ 5 HC0.out (byt l) HL1.out HPS.out HFT.out HO1.out w.heap.size w HB0.out (Nat.le_refl _) ?_)
  intro V1 HC1 hB1
  have HB1 := Lib.hid hB1
  have HR1 : Hid (Bk V1 w.heap.size 5 (byt l)) := Lib.hid (by
    have h := HC1.out
    rw [splice_all _ _ (by simp [byt, HN.out])] at h
    exact h)
  clear hB1 HC1
  go_wp2
  go_ret
  refine ⟨_, rfl, ⟨w.heap.size, 0, n, ?_, ?_, ?_, ?_, ?_⟩, HB1.out.alloc HB1.out.size _, HB1.out.size⟩
  · rw [HN.out]
    exact Bk.new V1 127 [.slice (some ⟨w.heap.size, 0, none⟩) n n, .int .i64 0]
  · exact HR1.out.lt
  · rw [HN.out]
    exact Nat.le_refl _
  · omega
  · intro i hi
    have h := (HR1.out.alloc (.cells #[.slice (some ⟨w.heap.size, 0, none⟩) n n, .int .i64 0] 127)).cell i
    rw [Nat.zero_add]
    refine h.trans ?_
    simp [byt, List.getD, hi]

end Go.Proofs.YtkilajobnlagbaaDoor.Oct
