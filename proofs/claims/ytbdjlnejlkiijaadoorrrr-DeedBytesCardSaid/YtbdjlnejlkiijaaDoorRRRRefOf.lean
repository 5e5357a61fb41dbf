/-
  The document's sum (tollhouseref03.Tables.Of, function 12): the standard's sum of the bytes; nothing that was there is written.
-/
import Derived.Test.YtbdjlnejlkiijaaDoorRRRBlock
import Derived.Test.YtbdjlnejlkiijaaDoorRRRRefNum
import Derived.Test.YtbdjlnejlkiijaaDoorRRRCame
import Derived.Deep.OwnRows
import Derived.StillTailTactics
namespace Go.Proofs.YtbdjlnejlkiijaaDoorRRR
open Go.RowKit
set_option linter.unusedVariables false

theorem cutLo (A : Option Addr) (L c h : Nat) (hh : h ≤ c) (W : World) : (Instr.slice 35 (.slice A L c) none (some (.int .i64 (h : Int))) none).run Tryd.prog W = .ok (.slice A h c) W := by
  obtain ⟨i0, hi, hz0, hz1, hz2⟩ := info_parts byte_info
  rw [run_slice_h (P := Tryd.prog) W 35 A L c (by kernel_rfl) .i64 (h : Int) (by omega) (by omega), show Tryd.prog.elem 35 = 5 by kernel_rfl]
  cases A <;> simp [sizeOf, typeInfo, hi, sliced, Addr.add]
def cutPlace (o c h : Nat) : Nat := if c = h then o else o + h
theorem cutHi (g o L c h : Nat) (hh : h ≤ L) (hc : L ≤ c) (W : World) : (Instr.slice 35 (.slice (some ⟨g, o, none⟩) L c) (some (.int .i64 (h : Int))) none none).run Tryd.prog W = .ok (.slice (some ⟨g, cutPlace o c h, none⟩) (L - h) (c - h)) W := by
  obtain ⟨i0, hi, hz0, hz1, hz2⟩ := info_parts byte_info
  rw [run_slice_l (P := Tryd.prog) W 35 _ L c (by kernel_rfl) .i64 (h : Int) (by omega) (by omega), show Tryd.prog.elem 35 = 5 by kernel_rfl]
  by_cases e : c = h <;> simp [sizeOf, typeInfo, hi, hz1, sliced, cutPlace, e, Addr.add_mid]
theorem made8 (w : World) : (Instr.makeSlice 35 (.int .i64 8) (.int .i64 8)).run Tryd.prog w = .ok (.slice (some ⟨w.heap.size, 0, none⟩) 8 8) (w.alloc (.cells (w8 (List.replicate 8 0)).toArray 5)) := by
  have h := run_make_row' (P := Tryd.prog) 35 5 (.int .u8 0) 1 Tryd.underlying35 byte_info rfl .i64 .i64 8 (by omega) (by omega) w
  rw [show (w8 (List.replicate 8 0)).toArray = madeCells #[.int .u8 0] 8 by kernel_rfl]
  exact h
theorem made64 (w : World) : (Instr.makeSlice 96 (.int .i64 8) (.int .i64 8)).run Tryd.prog w = .ok (.slice (some ⟨w.heap.size, 0, none⟩) 8 8) (w.alloc (.cells (w64 (List.replicate 8 0)).toArray 23)) := by
  have h := run_make_row' (P := Tryd.prog) 96 23 (.int .u64 0) 8 Tryd.underlying96 info57 rfl .i64 .i64 8 (by omega) (by omega) w
  rw [show (w64 (List.replicate 8 0)).toArray = madeCells #[.int .u64 0] 8 by kernel_rfl]
  exact h
theorem Own.shape {w : World} {base : Nat} {v : Value} {l : List Nat} (h : Own w base v l) : ∃ A c, v = .slice A l.length c ∧ l.length ≤ c ∧ c ≤ 9223372036854775807 := by
  rcases h.2 with ⟨rfl, h0⟩ | ⟨g, c, cur, rfl, hg1, hg, hn, hc, _⟩
  · exact ⟨none, 0, by rw [h0], by omega, by omega⟩
  · exact ⟨_, c, rfl, hn, by unfold maxLen at hc; exact hc⟩
theorem Own.form {w : World} {base : Nat} {v : Value} {l : List Nat} (h : Own w base v l) (hl : 0 < l.length) : ∃ g c, v = .slice (some ⟨g, 0, none⟩) l.length c ∧ base ≤ g ∧ g < w.heap.size ∧ l.length ≤ c ∧ c ≤ 9223372036854775807 ∧ (∀ i, i < l.length → w.cell? ⟨g, i, none⟩ = some (.int .u8 ((l.getD i 0 : Nat) : Int))) := by
  rcases h.2 with ⟨_, h0⟩ | ⟨g, c, cur, rfl, hb, hg, hn, hc, _⟩
  · omega
  · have hlt : g < w.heap.size := by
      rcases Nat.lt_or_ge g w.heap.size with h2 | h2
      · exact h2
      · rw [Array.getElem?_eq_none h2] at hg; cases hg
    exact ⟨g, c, rfl, hb, hlt, hn, by unfold maxLen at hc; exact hc, fun i hi => by rw [World.ownsRow.cellAt h i (by omega), w8_get l i hi]⟩
theorem low_lt (X : Nat) : ∀ m, ∀ x ∈ low m X, x < 256
  | 0 => by simp [low]
  | m + 1 => by
    intro x hx
    simp only [low, List.mem_cons] at hx
    rcases hx with rfl | hx
    · exact Nat.mod_lt _ (by omega)
    · exact low_lt X m x hx
/-- Bytes at a block's beginning. -/
def BCells (w : World) (g N : Nat) (P : List Nat) : Prop := ∀ i, i < N → w.cell? ⟨g, i, none⟩ = some (.int .u8 ((P.getD i 0 : Nat) : Int))
theorem BCells.below {w w' : World} {g N B : Nat} {P : List Nat} (h : BCells w g N P) (hb : Below B w w') (hg : g < B) : BCells w' g N P := fun i hi => (hb.cell (p := ⟨g, i, none⟩) hg).trans (h i hi)
theorem BCells.far {w : World} {g N : Nat} {P : List Nat} (h : BCells w g N P) {a : Addr} (ha : a.block ≠ g) (v : Value) : BCells (w.setCell a v) g N P := fun i hi => (World.cell?_setCell_far _ _ _ _ ha).trans (h i hi)
theorem cut_next (j N M c : Nat) (h : N - 64 * j = M) (hc : M ≤ c) (h2 : 64 * (j + 1) < N) : cutPlace (64 * j) c 64 = 64 * (j + 1) := by
  unfold cutPlace
  rw [if_neg (by omega)]
  omega
theorem Own64.ofBlk {w : World} {base g : Nat} {l : List Nat} {n : Nat} (h : Blk w g 23 (w64 l)) (hb : base ≤ g) (hn : l.length = n) (hl : n ≤ 1000) : Own64 w base (.slice (some ⟨g, 0, none⟩) n n) l := by
  subst hn
  exact ⟨by rw [w64_length]; omega, .inr ⟨g, l.length, (w64 l).toArray, rfl, hb, h, Nat.le_refl _, by unfold maxLen; omega, by simp [w64_length], by simp; exact List.take_of_length_le (by rw [w64_length]; exact Nat.le_refl _)⟩⟩

set_option maxRecDepth 100000 in
set_option maxHeartbeats 4000000 in
theorem refof_any (f r : ByteArray) (A : Option Addr) (n c : Nat) (p : List Nat) (w : World) (HT : Hid (Texts f r)) (HS : Hid (Src w w.heap.size A c p)) (HL : Hid (p.length = n)) (hn : n ≤ 1000000000) :
    Calls Tryd.prog 34 #[.agg #[.string f, .string r], .slice A n c] w fun e w' => e = .returned (.agg (w8 (sha p)).toArray) ∧ Below w.heap.size w w' := by
  have n1 : (n : Int) ≤ 1000000000 := by omega
  go_enter Tryd.func34, Tryd.ntmps34
  go_upto_region 2 with fail
  have H0 : Hid (Blk ((w.alloc (.cells #[.string f, .string r] 56)).alloc (.cells zsum 28)) (w.heap.size + 1) 28 (w8 noSum)) := Lib.hid (by
    have h := Blk.new (w.alloc (.cells #[.string f, .string r] 56)) 28 (w8 (List.replicate 32 0))
    rw [zsum_eq, World.size_alloc] at h
    exact h)
  have HX : Hid (Blk ((w.alloc (.cells #[.string f, .string r] 56)).alloc (.cells zsum 28)) w.heap.size 56 [.string f, .string r]) := Lib.hid ((Blk.new w 56 [.string f, .string r]).alloc _)
  have HB : Hid (Below w.heap.size w ((w.alloc (.cells #[.string f, .string r] 56)).alloc (.cells zsum 28))) := Lib.hid (((Below.refl _ _).alloc (Nat.le_refl _) _).alloc (by simp) _)
  unfold zsum at H0 HX HB
  generalize (w.alloc (.cells #[.string f, .string r] 56)).alloc (.cells _ 28) = V at H0 HX HB ⊢
  have hV : w.heap.size + 1 < V.heap.size := H0.out.lt
  have HBW := HB
  have HSV := Lib.hid (HS.out.below HB.out)
  have HN1 : Hid (([] : List Nat).length + p.length ≤ 140737488355328) := Lib.hid (by rw [HL.out]; simp; omega)
  go_wp2_with (at_builtin; refine wpList_app rfl (.tmp 13) (.tmp 14) rfl V.heap.size w.heap.size (.slice none 0 0) [] p rfl (Own.nil _ _) A n c rfl HL.out.symm HSV.out HN1.out (Nat.le_refl _) ?_)
  intro v1 w1 HO1 HG1 HU1
  have HB1 : Hid (Below V.heap.size V w1) := Lib.hid ((Below.refl _ _).grown HG1.out (Nat.le_refl _) (fun k hk => by simp [Value.ownBlock] at hk))
  clear HG1 HU1 HN1
  have HOA := Lib.hid (HO1.out.below ((Below.refl _ _).alloc (Nat.le_refl _) (.cells #[.int .u8 128] 5)))
  have HBA := Lib.hid (HB1.out.alloc HB1.out.size (.cells #[.int .u8 128] 5))
  have HS1 : Hid (Src (w1.alloc (.cells #[.int .u8 128] 5)) (w1.heap.size + 1) (some ⟨w1.heap.size, 0, none⟩) 1 [128]) := Lib.hid (Src.blk (rest := []) (by rw [List.append_nil]; exact Blk.new w1 5 (w8 [128])) (by omega) (by simp) 1 (by simp))
  have HN2 : Hid (p.length + [128].length ≤ 140737488355328) := Lib.hid (by rw [HL.out]; simp; omega)
  go_wp2_with (at_builtin; refine wpList_app rfl (.tmp 15) (.tmp 16) rfl V.heap.size (w1.heap.size + 1) v1 p [128] rfl HOA.out (some ⟨w1.heap.size, 0, none⟩) 1 1 rfl rfl HS1.out HN2.out HBA.out.size ?_)
  intro v2 w2 HO2 HG2 HU2
  have HB2 : Hid (Below V.heap.size V w2) := Lib.hid (HBA.out.grown HG2.out HBA.out.size fun g' hg' => (HOA.out.base_ hg').1)
  clear HG2 HU2 HN2 HS1 HBA HOA HB1 HO1 HSV
  obtain ⟨z, hz⟩ : ∃ z, 63 - (n + 8) % 64 = z := ⟨_, rfl⟩
  have HZ := Lib.hid hz
  have hzl : z ≤ 63 := by omega
  clear hz
  go_wp2_with fail
  go_loopw [5] (fun t wr => ∃ (k : Nat), k ≤ z ∧ Hid (Own wr V.heap.size t (p ++ 128 :: List.replicate k 0)) ∧ Hid (Below V.heap.size V wr)) (fun t _ => n + 1 + z - lenOf t)
  case atStart => exact ⟨0, Nat.zero_le _, HO2, HB2⟩
  case round =>
    obtain ⟨k, hk, HO3, HB3⟩ := hrel
    obtain ⟨Ab, cb, hv5, hcb, hcb2⟩ := HO3.out.shape
    obtain ⟨L, hL⟩ : ∃ L, (p ++ 128 :: List.replicate k 0).length = L := ⟨_, rfl⟩
    have hLa : L ≤ n + 1 + k := by
      rw [← hL]
      have := HL.out
      simp
      omega
    have hLb : n + 1 + k ≤ L := by
      rw [← hL]
      have := HL.out
      simp
      omega
    rw [hL] at hv5 hcb
    subst hv5
    have HLL := Lib.hid hL
    clear hL
    have HZ2 := HZ.out
    have L1 : (L : Int) ≤ 2000000000 := by omega
    by_cases hlt : k < z
    · have q1 : ((L : Int) % 64 == 56) = false := by simp; omega
      have q2 : ((L : Int) % 64 != 56) = true := by simp; omega
      have q3 : ¬ (L : Int) % 64 = 56 := by omega
      clear HZ2
      have HOA := Lib.hid (HO3.out.below ((Below.refl _ _).alloc (Nat.le_refl _) (.cells #[.int .u8 0] 5)))
      have HBA := Lib.hid (HB3.out.alloc HB3.out.size (.cells #[.int .u8 0] 5))
      have HS1 : Hid (Src (wr.alloc (.cells #[.int .u8 0] 5)) (wr.heap.size + 1) (some ⟨wr.heap.size, 0, none⟩) 1 [0]) := Lib.hid (Src.blk (rest := []) (by rw [List.append_nil]; exact Blk.new wr 5 (w8 [0])) (by omega) (by simp) 1 (by simp))
      have HN2 : Hid ((p ++ 128 :: List.replicate k 0).length + [0].length ≤ 140737488355328) := Lib.hid (by rw [HLL.out]; simp; omega)
      have HEQ : Hid (p ++ 128 :: (List.replicate k 0 ++ [0]) = p ++ 128 :: List.replicate (k + 1) 0) := Lib.hid (by rw [List.replicate_succ'])
      go_wp2_with (at_builtin; refine wpList_app rfl (.tmp 22) (.tmp 23) rfl V.heap.size (wr.heap.size + 1) _ _ [0] rfl HOA.out (some ⟨wr.heap.size, 0, none⟩) 1 1 rfl rfl HS1.out HN2.out HBA.out.size ?_)
      intro v4 w4 HO4 HG4 HU4
      have HB4 : Hid (Below V.heap.size V w4) := Lib.hid (HBA.out.grown HG4.out HBA.out.size fun g' hg' => (HOA.out.base_ hg').1)
      rw [HEQ.out] at HO4
      obtain ⟨A4, c4, hv4, _, _⟩ := HO4.out.shape
      have hL4 : (p ++ 128 :: List.replicate (k + 1) 0).length = L + 1 := by have := HL.out; simp; omega
      rw [hL4] at hv4
      have HV4 : Hid (lenOf v4 = L + 1) := Lib.hid (by rw [hv4]; rfl)
      clear hv4 hL4 HG4 HU4 HN2 HS1 HBA HOA q1 q2 q3
      go_wp2
      go_roundw
      case rel => exact ⟨k + 1, by omega, HO4, HB4⟩
      case measure => rw [HV4.out]; show _ < n + 1 + z - L; omega
    · obtain rfl : k = z := by omega
      have q1 : ((L : Int) % 64 == 56) = true := by simp; omega
      have q2 : ((L : Int) % 64 != 56) = false := by simp; omega
      have q3 : (L : Int) % 64 = 56 := by omega
      clear HZ2 HO2 HB2
      have hmk := made8
      go_wp2_with fail
      obtain ⟨X, hX⟩ : ∃ X, n * 8 = X := ⟨_, rfl⟩
      have hXI : (n : Int) * 8 = (X : Int) := by omega
      have hXb : X ≤ 8000000000 := by omega
      rw [hXI]
      have HXE := Lib.hid hX
      have HEN : Hid (Blk (wr.alloc (.cells (w8 [0, 0, 0, 0, 0, 0, 0, 0]).toArray 5)) wr.heap.size 5 (w8 (List.replicate (8 - 0) 0 ++ low 0 X))) := Lib.hid (Blk.new wr 5 (w8 [0, 0, 0, 0, 0, 0, 0, 0]))
      have HOE := Lib.hid (HO3.out.below ((Below.refl _ _).alloc (Nat.le_refl _) (.cells (w8 [0, 0, 0, 0, 0, 0, 0, 0]).toArray 5)))
      have HBE := Lib.hid (HB3.out.alloc HB3.out.size (.cells (w8 [0, 0, 0, 0, 0, 0, 0, 0]).toArray 5))
      have hge : V.heap.size ≤ wr.heap.size := HB3.out.size
      have HNE : Hid ((Value.slice Ab L cb).ownBlock ≠ some wr.heap.size) := Lib.hid (by intro he; have := (HO3.out.base_ he).2; omega)
      generalize wr.alloc (.cells (w8 [0, 0, 0, 0, 0, 0, 0, 0]).toArray 5) = V3 at HEN HOE HBE ⊢
      generalize wr.heap.size = ge at HEN HNE hge ⊢
      clear q1 q2 q3 hmk hX hXI HO3 HB3
      go_loopw [6, 8] (fun b i wr => ∃ (m q : Nat), m ≤ 8 ∧ i = .int .i64 (7 - (m : Int)) ∧ b = .int .u64 (q : Int) ∧ q ≤ 8000000000 ∧ Hid (X / 256 ^ m = q) ∧ Hid (Blk wr ge 5 (w8 (List.replicate (8 - m) 0 ++ low m X))) ∧ Hid (Own wr V.heap.size (.slice Ab L cb) (p ++ 128 :: List.replicate k 0)) ∧ Hid (Below V.heap.size V wr)) (fun _ i _ => (intOf i + 1).toNat)
      case atStart => exact ⟨0, X, Nat.zero_le _, rfl, rfl, hXb, Lib.hid (by simp), HEN, HOE, HBE⟩
      case round =>
        obtain ⟨m, q, hm, rfl, rfl, hq, HQ, HE, HO4, HB4⟩ := hrel
        by_cases hlt2 : m < 8
        · have hid := idx8 ge 0 8 8 (7 - m) (7 - (m : Int)) (by omega) (by omega)
          rw [Nat.zero_add] at hid
          have hcell := HE.out.cell (7 - m)
          have hfr := HE.out.frozen (7 - m)
          have hlen : 7 - m < (List.replicate (8 - m) 0 ++ low m X).length := by simp [low_length]; omega
          rw [w8_get _ _ hlen] at hcell
          have HSE := Lib.hid (set_low m X hlt2)
          rw [HQ.out] at HSE
          obtain ⟨y, hy⟩ : ∃ y, q % 256 = y := ⟨_, rfl⟩
          rw [hy] at HSE
          have hyI : (q : Int) % 256 = (y : Int) := by omega
          have hyb : y < 256 := by omega
          obtain ⟨q', hq'⟩ : ∃ q', q / 256 = q' := ⟨_, rfl⟩
          have hqI : (q : Int) / 256 = (q' : Int) := by omega
          have hqb : q' ≤ 8000000000 := by omega
          have HQ' : Hid (X / 256 ^ (m + 1) = q') := Lib.hid (by rw [Nat.pow_succ, ← Nat.div_div_eq_div_mul, HQ.out, hq'])
          have i0 : (0 : Int) ≤ 7 - (m : Int) := by omega
          clear hy hq' hlen
          go_wp2
          go_roundw
          case rel => exact ⟨m + 1, q', by omega, by go_num, rfl, hqb, HQ', Lib.hid (by have h := HE.out.set_ (7 - m) (.int .u8 (y : Int)); rw [w8_set, HSE.out] at h; exact h), Lib.hid (HO4.out.grown (only_setCell (only_refl wr (some ge)) (.inl rfl) _) HNE.out), Lib.hid (HB4.out.setCell (p := ⟨ge, 7 - m, none⟩) hge _)⟩
          case measure => clear hid hyI hqI; simp [intOf]; omega
        · obtain rfl : m = 8 := by omega
          have HPE : Hid (p ++ 128 :: (List.replicate k 0 ++ low 8 X) = pad p) := Lib.hid (by
            rw [pad_eq p (by rw [HL.out]; omega), HL.out, HXE.out, HZ.out]
            simp)
          have HSE : Hid (Src wr (ge + 1) (some ⟨ge, 0, none⟩) 8 (low 8 X)) := Lib.hid (Src.blk (rest := []) (by rw [List.append_nil]; exact HE.out) (by omega) (low_lt X 8) 8 (by rw [low_length]; exact Nat.le_refl _))
          have HN3 : Hid ((p ++ 128 :: List.replicate k 0).length + (low 8 X).length ≤ 140737488355328) := Lib.hid (by rw [HLL.out, low_length]; omega)
          have HL8 : Hid (8 = (low 8 X).length) := Lib.hid (low_length X 8).symm
          go_wp2_with (at_builtin; refine wpList_app rfl (.tmp 42) (.tmp 43) rfl V.heap.size (ge + 1) _ _ (low 8 X) rfl HO4.out (some ⟨ge, 0, none⟩) 8 8 rfl HL8.out HSE.out HN3.out HB4.out.size ?_)
          intro v5 w5 HO5 HG5 HU5
          have HB5 : Hid (Below V.heap.size V w5) := Lib.hid (HB4.out.grown HG5.out HB4.out.size fun g' hg' => (HO4.out.base_ hg').1)
          have HO6 : Hid (Own w5 V.heap.size v5 (pad p)) := Lib.hid (by have h := HO5.out; rw [← HPE.out]; simpa using h)
          obtain ⟨gb, cb5, hv5, hgb, hgbl, hcb5, hcb6, hcells⟩ := HO6.out.form (by rw [pad_length]; omega)
          obtain ⟨N, hN⟩ : ∃ N, (pad p).length = N := ⟨_, rfl⟩
          rw [hN] at hv5 hcells hcb5
          subst hv5
          have HNN := Lib.hid hN
          have HN64 : N % 64 = 0 := by rw [← hN]; exact pad_whole p
          have hNb : N ≤ 1000001000 := by rw [← hN, pad_length, HL.out]; omega
          have HBC : Hid (BCells w5 gb N (pad p)) := Lib.hid hcells
          clear HG5 HU5 HN3 HL8 HSE HPE HO4 HB4 HE HO5 HO6 hN hcells HNE HQ hcb hcb2 HLL HOE HBE HEN
          have hmk := made64
          go_wp2_with fail
          have HE0 : Hid (Blk (w5.alloc (.cells (w64 [0, 0, 0, 0, 0, 0, 0, 0]).toArray 23)) w5.heap.size 23 (w64 (firsts.take 0 ++ List.replicate (8 - 0) 0))) := Lib.hid (Blk.new w5 23 (w64 [0, 0, 0, 0, 0, 0, 0, 0]))
          have HBC0 := Lib.hid (HBC.out.below ((Below.refl _ _).alloc (Nat.le_refl _) (.cells (w64 [0, 0, 0, 0, 0, 0, 0, 0]).toArray 23)) hgbl)
          have HB6 := Lib.hid (HB5.out.alloc HB5.out.size (.cells (w64 [0, 0, 0, 0, 0, 0, 0, 0]).toArray 23))
          have hgh : V.heap.size ≤ w5.heap.size := HB5.out.size
          generalize w5.alloc (.cells (w64 [0, 0, 0, 0, 0, 0, 0, 0]).toArray 23) = V6 at HE0 HBC0 HB6 ⊢
          generalize w5.heap.size = gh at HE0 hgbl hgh ⊢
          have hgne : gb ≠ gh := by omega
          clear hmk HBC HB5
          go_loopw [10] (fun i wr => ∃ (k : Nat), k ≤ 8 ∧ i = .int .i64 k ∧ Hid (Blk wr gh 23 (w64 (firsts.take k ++ List.replicate (8 - k) 0))) ∧ Hid (BCells wr gb N (pad p)) ∧ Hid (Below V.heap.size V wr)) (fun i _ => 8 - (intOf i).toNat)
          case atStart => exact ⟨0, Nat.zero_le _, rfl, HE0, HBC0, HB6⟩
          case round =>
            obtain ⟨k3, hk3, rfl, HE3, HBC3, HB7⟩ := hrel
            have HX3 := Lib.hid (HX.out.below HB7.out HX.out.lt)
            by_cases hlt3 : k3 < 8
            · have c0 := HX3.out.cell 0
              have tid := idx64 gh 0 8 8 k3 (k3 : Int) rfl hlt3
              rw [Nat.zero_add] at tid
              have hcell := HE3.out.cell k3
              have hfr := HE3.out.frozen k3
              have hlen : k3 < (firsts.take k3 ++ List.replicate (8 - k3) 0).length := by
                have : firsts.length = 8 := rfl
                simp
                omega
              rw [w64_get _ _ hlen] at hcell
              have HSE := Lib.hid (firsts_set k3 hlt3)
              obtain ⟨y, hy⟩ : ∃ y, firsts.getD k3 0 = y := ⟨_, rfl⟩
              rw [hy] at HSE
              have HAT : Hid (∀ W : World, Calls Tryd.prog 52 #[.string f, .int .i64 (k3 : Int)] W fun e w' => e = .returned (.int .u64 (y : Int)) ∧ W = w') := Lib.hid fun W => by
                have h := at_any f k3 8 W (Lib.hid HT.out.fs) (Lib.hid HT.out.fl) hlt3 (by omega)
                rw [HT.out.fk k3 hlt3, hy] at h
                exact h
              have i1 : (0 : Int) ≤ (k3 : Int) := by omega
              have i2 : (k3 : Int) < 8 := by omega
              clear hy hlen
              go_wp2_with fail
              refine (HAT.out _).mono ?_
              rintro e w' ⟨rfl, rfl⟩
              go_wp2
              go_roundw
              case rel => exact ⟨k3 + 1, by omega, by go_num, Lib.hid (by have h := HE3.out.set_ k3 (.int .u64 (y : Int)); rw [← w64_set, HSE.out] at h; exact h), Lib.hid (HBC3.out.far (fun h => hgne h.symm) _), Lib.hid (HB7.out.setCell (p := ⟨gh, k3, none⟩) hgh _)⟩
              case measure => simp [intOf]; omega
            · obtain rfl : k3 = 8 := by omega
              rw [show ((8 : Nat) : Int) = 8 from rfl]
              have HO7 : Hid (Own64 wr V.heap.size (.slice (some ⟨gh, 0, none⟩) 8 8) (wordsAt (pad p) 0)) := Lib.hid (Own64.ofBlk (l := firsts) (by exact HE3.out) hgh rfl (by omega))
              have hz0 : N - 64 * 0 = N := by omega
              go_wp2_with fail
              go_loopw [5, 9] (fun b t wr => ∃ (j o M c' : Nat), 64 * j ≤ N ∧ b = .slice (some ⟨gb, o, none⟩) M c' ∧ M ≤ c' ∧ c' ≤ 9223372036854775807 ∧ Hid (N - 64 * j = M) ∧ Hid (64 * j < N → o = 64 * j) ∧ Hid (Own64 wr V.heap.size t (wordsAt (pad p) j)) ∧ Hid (BCells wr gb N (pad p)) ∧ gb < wr.heap.size ∧ Hid (Below V.heap.size V wr)) (fun b _ _ => lenOf b)
              case atStart => exact ⟨0, 0, N, cb5, by omega, rfl, hcb5, hcb6, Lib.hid hz0, Lib.hid (fun _ => rfl), HO7, HBC3, Nat.lt_trans hgbl HE3.out.lt, HB7⟩
              case round =>
                obtain ⟨j, o, M, c', hj, rfl, hMc, hc', HM, HOO, HO8, HBC4, hgb4, HB8⟩ := hrel
                have hM := HM.out
                have HX4 := Lib.hid (HX.out.below HB8.out HX.out.lt)
                by_cases hlt4 : 64 * j < N
                · obtain rfl : o = 64 * j := HOO.out hlt4
                  have hM64 : 64 ≤ M := by omega
                  have m1 : (0 : Int) < (M : Int) := by omega
                  have m2 : (64 : Int) ≤ (M : Int) := by omega
                  have c0 := HX4.out.cell 0
                  have c1 := HX4.out.cell 1
                  have hs1 : ∀ W, (Instr.slice 35 (.slice (some ⟨gb, 64 * j, none⟩) M c') none (some (.int .i64 64)) none).run Tryd.prog W = .ok (.slice (some ⟨gb, 64 * j, none⟩) 64 c') W := fun W => cutLo _ _ _ 64 (by omega) W
                  have hs2 : ∀ W, (Instr.slice 35 (.slice (some ⟨gb, 64 * j, none⟩) M c') (some (.int .i64 64)) none none).run Tryd.prog W = .ok (.slice (some ⟨gb, cutPlace (64 * j) c' 64, none⟩) (M - 64) (c' - 64)) W := fun W => cutHi gb (64 * j) M c' 64 hM64 hMc W
                  have hwl : (wordsAt (pad p) j).length = 8 := wordsAt_length _ _
                  obtain ⟨g9, c9, hv9, hg9, hg9l, hc9, hc9b, hcells9, _⟩ := HO8.out.form (by omega)
                  rw [hwl] at hv9 hcells9 hc9
                  subst hv9
                  have HHD : Hid (Handed wr.drew g9 0 gb (64 * j) (wordsAt (pad p) j) (((pad p).drop (64 * j)).take 64) r) := Lib.hid ⟨hwl, wordsAt_lt _ _, hg9l, fun i hi => by rw [Nat.zero_add]; exact hcells9 i hi, pad_block p j (by rw [HNN.out]; exact hlt4), fun x hx => pad_lt p HS.out.lt (by rw [HL.out]; omega) x (List.mem_of_mem_drop (List.mem_of_mem_take hx)), hgb4, fun i hi => by rw [pad_block_get p j i hi]; exact HBC4.out (64 * j + i) (by omega), HT.out.rs, HT.out.rl, HT.out.rk⟩
                  have h64c : 64 ≤ c' := by omega
                  have HCN : Hid (64 * (j + 1) < N → cutPlace (64 * j) c' 64 = 64 * (j + 1)) := Lib.hid (cut_next j N M c' hM hMc)
                  have hM2 : N - 64 * (j + 1) = M - 64 := by omega
                  have HM2 := Lib.hid hM2
                  clear hM hM2 hwl hcells9
                  go_wp2_with fail
                  go_still_tail 4, (by kernel_rfl)
                  change wpList _ _ _ _ _ wr.drew
                  have HBC5 : Hid (BCells wr.drew gb N (pad p)) := Lib.hid HBC4.out
                  have HB9 : Hid (Below V.heap.size V wr.drew) := Lib.hid HB8.out.drew
                  have hgb5 : gb < wr.drew.heap.size := hgb4
                  clear c0 c1 hs1
                  generalize wr.drew = Vd at HHD HBC5 HB9 hgb5 ⊢
                  go_wp2_with fail
                  refine (block_any f r g9 0 c9 gb (64 * j) c' _ _ Vd HHD hc9 h64c).mono ?_
                  rintro e w7 ⟨v7, rfl, hO9, hB10⟩
                  have HO9 := Lib.hid (hO9.lower HB9.out.size)
                  have HBC6 := Lib.hid (HBC5.out.below hB10 hgb5)
                  have HB11 := Lib.hid (HB9.out.trans (hB10.mono HB9.out.size))
                  have hgb6 : gb < w7.heap.size := Nat.lt_of_lt_of_le hgb5 hB10.size
                  clear hO9 hB10
                  go_wp2
                  go_roundw
                  case rel => exact ⟨j + 1, _, M - 64, c' - 64, by omega, rfl, by omega, by omega, HM2, HCN, HO9, HBC6, hgb6, HB11⟩
                  case measure => show M - 64 < M; omega
                · have hj2 : 64 * j = N := by omega
                  have hM0 : M = 0 := by omega
                  subst hM0
                  have HJ : Hid (sha p = (wordsAt (pad p) j).flatMap four) := Lib.hid (by
                    unfold sha
                    rw [HNN.out, ← hj2, Nat.mul_div_cancel_left j (by omega)])
                  obtain ⟨ws, hws⟩ : ∃ ws, wordsAt (pad p) j = ws := ⟨_, rfl⟩
                  have hwl : ws.length = 8 := by rw [← hws]; exact wordsAt_length _ _
                  have HWL := Lib.hid hwl
                  have HWB : Hid (∀ x ∈ ws, x < 4294967296) := Lib.hid (by rw [← hws]; exact wordsAt_lt _ _)
                  rw [hws] at HJ HO8
                  obtain ⟨g9, c9, hv9, hg9, hg9l, hc9, hc9b, hcells9, hfr9⟩ := HO8.out.form (by omega)
                  rw [hwl] at hv9 hcells9 hc9
                  subst hv9
                  have HHR : Hid (HRow wr g9 (left ws 0)) := Lib.hid fun j hj => ⟨by rw [left_zero]; exact hcells9 j hj, hfr9 j⟩
                  clear hws hwl hcells9 hfr9 hj2 hM HM HOO
                  go_wp2_with fail
                  have HD0 : Hid (Blk (wr.alloc (.cells zsum 28)) wr.heap.size 28 (w8 (List.replicate (32 - 0) 0 ++ (sha p).drop (32 - 0)))) := Lib.hid (by
                    have h := Blk.new wr 28 (w8 (List.replicate 32 0))
                    rw [zsum_eq] at h
                    rw [show List.replicate (32 - 0) 0 ++ (sha p).drop (32 - 0) = List.replicate 32 0 by rw [List.drop_eq_nil_of_le (by rw [sha_length]; omega), List.append_nil]]
                    exact h)
                  have HHR0 := Lib.hid (HHR.out.alloc (.cells zsum 28) hg9l)
                  have HB12 := Lib.hid (HB8.out.alloc HB8.out.size (.cells zsum 28))
                  have hgd : V.heap.size ≤ wr.heap.size := HB8.out.size
                  unfold zsum at HD0 HHR0 HB12
                  generalize wr.alloc (.cells _ 28) = V8 at HD0 HHR0 HB12 ⊢
                  generalize wr.heap.size = gd at HD0 hg9l hgd ⊢
                  have hne9 : g9 ≠ gd := by omega
                  clear HB8 HO8 HHR HX4 HBC4 hgb4
                  go_loopw [12] (fun i wr => ∃ (m : Nat), m ≤ 32 ∧ i = .int .i64 (31 - (m : Int)) ∧ Hid (Blk wr gd 28 (w8 (List.replicate (32 - m) 0 ++ (sha p).drop (32 - m)))) ∧ Hid (HRow wr g9 (left ws m)) ∧ Hid (Below V.heap.size V wr)) (fun i _ => (intOf i + 1).toNat)
                  case atStart => exact ⟨0, Nat.zero_le _, rfl, HD0, HHR0, HB12⟩
                  case round =>
                    obtain ⟨m, hm, rfl, HD, HHR, HB⟩ := hrel
                    by_cases hlt5 : m < 32
                    · obtain ⟨q, hq⟩ : ∃ q, (31 - m) / 4 = q := ⟨_, rfl⟩
                      have hq8 : q < 8 := by omega
                      have hqI : (31 - (m : Int)) / 4 = (q : Int) := by omega
                      obtain ⟨ch, fh⟩ := HHR.out q hq8
                      obtain ⟨x, hx⟩ : ∃ x, left ws m q = x := ⟨_, rfl⟩
                      rw [hx] at ch
                      have hxb : x < 4294967296 := by rw [← hx]; exact left_lt ws m q HWB.out
                      obtain ⟨y, hy⟩ : ∃ y, x % 256 = y := ⟨_, rfl⟩
                      obtain ⟨x', hx'⟩ : ∃ x', x / 256 = x' := ⟨_, rfl⟩
                      have hyI : (x : Int) % 256 = (y : Int) := by omega
                      have hxI : (x : Int) / 256 = (x' : Int) := by omega
                      have HSD : Hid ((List.replicate (32 - m) 0 ++ (sha p).drop (32 - m)).set (31 - m) y = List.replicate (32 - (m + 1)) 0 ++ (sha p).drop (32 - (m + 1))) := Lib.hid (set_drop (sha p) m y (sha_length p) hlt5 (by rw [HJ.out, left_byte ws m HWL.out HWB.out hlt5, hq, hx, hy]))
                      have HSH : Hid (∀ (W : World), HRow W g9 (left ws m) → HRow (W.setCell ⟨g9, q, none⟩ (.int .u64 (x' : Int))) g9 (left ws (m + 1))) := Lib.hid fun W h => by
                        have h2 := h.set hlt5 x' (by rw [hq, hx, hx'])
                        rw [hq] at h2
                        exact h2
                      have tid := idx64 g9 0 8 c9 q (q : Int) rfl hq8
                      rw [Nat.zero_add] at tid
                      have hdc := HD.out.cell (31 - m)
                      have hdf := HD.out.frozen (31 - m)
                      have hlen : 31 - m < (List.replicate (32 - m) 0 ++ (sha p).drop (32 - m)).length := by simp [sha_length]; omega
                      rw [w8_get _ _ hlen] at hdc
                      have i0 : (0 : Int) ≤ 31 - (m : Int) := by omega
                      have i1 : 31 - (m : Int) < 32 := by omega
                      have i2 : (31 - (m : Int)).toNat = 31 - m := by omega
                      have yb : (y : Int) < 256 := by omega
                      have hch2 : (wr.setCell ⟨gd, 31 - m, none⟩ (.int .u8 (y : Int))).cell? ⟨g9, q, none⟩ = some (.int .u64 (x : Int)) := (World.cell?_setCell_far _ _ _ _ (by intro h; exact hne9 h.symm)).trans ch
                      clear hq hx hy hx' hlen
                      go_wp2
                      go_roundw
                      case rel => exact ⟨m + 1, by omega, by go_num, Lib.hid (by have h := (HD.out.set_ (31 - m) (.int .u8 (y : Int))).far (p := ⟨g9, q, none⟩) (fun h => hne9 h.symm) (.int .u64 (x' : Int)); rw [w8_set, HSD.out] at h; exact h), Lib.hid (HSH.out _ (HHR.out.far (p := ⟨gd, 31 - m, none⟩) (fun h => hne9 h.symm) _)), Lib.hid ((HB.out.setCell (p := ⟨gd, 31 - m, none⟩) hgd _).setCell (p := ⟨g9, q, none⟩) hg9 _)⟩
                      case measure => clear tid hqI hyI hxI hdc hch2 ch i2; simp [intOf]; omega
                    · obtain rfl : m = 32 := by omega
                      have HDF : Hid (Blk wr gd 28 (w8 (sha p))) := Lib.hid (by have h := HD.out; simpa using h)
                      have HRF := Lib.hid (H0.out.below HB.out H0.out.lt)
                      have HRG2 := Lib.hid HDF.out.all
                      have HS5 : Hid ((Tryd.prog.info? 28).map (·.size) = some (w8 (sha p)).length) := Lib.hid (by rw [w8_length, sha_length]; kernel_rfl)
                      have HS6 : Hid ((Tryd.prog.info? 28).map (·.size) = some (w8 (sha p)).toArray.size) := Lib.hid (by rw [List.size_toArray, w8_length, sha_length]; kernel_rfl)
                      have HZ6 : Hid ((w8 noSum).toArray.size = (w8 (sha p)).toArray.size) := Lib.hid (by rw [List.size_toArray, List.size_toArray, w8_length, w8_length, sha_length]; simp [noSum])
                      have HO6 := Lib.hid (all_oneCell_toArray (w8_one (sha p)))
                      clear HD
                      go_wp2_with (first | (refine wpList_load_mid rfl 28 (.tmp 11) rfl gd 0 rfl (w8 (sha p)) _ HRG2.out Tryd.underlying28 rfl HS5.out ?_) | (refine wpList_store_row rfl 28 (.tmp 4) (.tmp 90) rfl (w.heap.size + 1) (w8 (sha p)).toArray rfl rfl 28 _ HRF.out HS6.out HZ6.out HO6.out ?_))
                      exact bodyPost_ret (v := .agg (w8 (sha p)).toArray) (results_cell_row Tryd.results34 _ _ (w.heap.size + 1) 28 (w8 (sha p)).toArray (0, 0) _ rfl (HRF.out.setRow _) Tryd.underlying28 rfl HS6.out) rfl ⟨rfl, below_setRow (HBW.out.trans (HB.out.mono (by omega))) (by omega) _⟩
end Go.Proofs.YtbdjlnejlkiijaaDoorRRR
