/-
  What a side holds; where a payment is: the program's and the document's.
-/
import Derived.Test.YtkiifjkcpangfaaPacA
namespace Go.Proofs.Ytkiifjkcpangfaa
open Go.RowKit
set_option linter.unusedVariables false

set_option maxRecDepth 100000 in
set_option maxHeartbeats 4000000 in
theorem held_any (ch rd m0 m1 t0 t1 : Int) (a : Option Addr) (n cap : Nat) (cs : List Cnd) (side : Int) (w : World) (hC : CRow w a cs) (hl : cs.length = n) (hn : n ≤ 1000) :
    Calls Try.prog 11 #[.agg #[.int .u32 ch, .int .u64 rd, .int .u64 m0, .int .u64 m1, .int .u64 t0, .int .u64 t1, .slice a n cap], .int .i64 side] w fun e w' => e = .returned (.tuple #[.int .u64 (heldV side cs), .int .i64 (heldE side cs)]) ∧ Below w.heap.size w w' := by
  have HC := Lib.hid hC
  have HL := Lib.hid hl
  clear hC hl
  go_enter Try.func11, Try.ntmps11
  go_wp2
  have B0 : Hid (Blk (w.alloc (.cells #[.int .u32 ch, .int .u64 rd, .int .u64 m0, .int .u64 m1, .int .u64 t0, .int .u64 t1, .slice a n cap] 31)) w.heap.size 31 [.int .u32 ch, .int .u64 rd, .int .u64 m0, .int .u64 m1, .int .u64 t0, .int .u64 t1, .slice a n cap]) := Lib.hid (Blk.mk_ rfl)
  have HW : Hid (Below w.heap.size w (w.alloc (.cells #[.int .u32 ch, .int .u64 rd, .int .u64 m0, .int .u64 m1, .int .u64 t0, .int .u64 t1, .slice a n cap] 31))) := Lib.hid ((Below.refl _ _).alloc (Nat.le_refl _) _)
  generalize w.alloc (.cells #[.int .u32 ch, .int .u64 rd, .int .u64 m0, .int .u64 m1, .int .u64 t0, .int .u64 t1, .slice a n cap] 31) = W at B0 HW ⊢
  go_loopw [6, 14] (fun t i wr => ∃ (k : Nat) (s : Int), k ≤ n ∧ i = .int .i64 k ∧ t = .int .u64 s ∧ Word s ∧ Hid (heldGo side 0 cs = heldGo side s (cs.drop k)) ∧ Hid (Below w.heap.size w wr)) (fun _ i _ => n - (intOf i).toNat)
  case atStart => exact ⟨0, 0, Nat.zero_le _, rfl, rfl, ⟨by decide, by decide⟩, Lib.hid rfl, HW⟩
  case round =>
    clear HW B0
    obtain ⟨k, s, hk, rfl, rfl, hs, HS, HB⟩ := hrel
    by_cases hlt : k < n
    · have hk' : k < cs.length := by rw [HL.out]; exact hlt
      obtain ⟨b, o, c, rfl, hb, hc, hr, hok⟩ := HC.out.get hk'
      have HX := Lib.hid (held_step HS.out hk' hc)
      have RG := range_below hr HB.out hb
      have hwa := hok.amt
      clear hc hr hb
      have hz1 : (Try.prog.info? 60).map (·.size) = some c.cells.toArray.size := by rw [hok.size]; exact info60
      have hz2 : (Try.prog.info? 60).map (·.size) = some c.cells.length := by rw [hok.len]; exact info60
      have hz3 : (#[.int .u64 0, .int .i64 0, .int .u64 0, .int .u8 0, .int .u8 0, .int .u8 0, .int .u8 0, .int .u8 0, .int .u8 0, .int .u8 0, .int .u8 0, .int .u8 0, .int .u8 0, .int .u8 0, .int .u8 0, .int .u8 0, .int .u8 0, .int .u8 0, .int .u8 0, .int .u8 0, .int .u8 0, .int .u8 0, .int .u8 0, .int .u8 0, .int .u8 0, .int .u8 0, .int .u8 0, .int .u8 0, .int .u8 0, .int .u8 0, .int .u8 0, .int .u8 0, .int .u8 0, .int .u8 0, .int .u8 0, .int .u64 0] : Array Value).size = c.cells.toArray.size := by rw [hok.size]; rfl
      have hco := c.all_one
      have HLA := heap_alloc_last wr (.cells #[.int .u64 0, .int .i64 0, .int .u64 0, .int .u8 0, .int .u8 0, .int .u8 0, .int .u8 0, .int .u8 0, .int .u8 0, .int .u8 0, .int .u8 0, .int .u8 0, .int .u8 0, .int .u8 0, .int .u8 0, .int .u8 0, .int .u8 0, .int .u8 0, .int .u8 0, .int .u8 0, .int .u8 0, .int .u8 0, .int .u8 0, .int .u8 0, .int .u8 0, .int .u8 0, .int .u8 0, .int .u8 0, .int .u8 0, .int .u8 0, .int .u8 0, .int .u8 0, .int .u8 0, .int .u8 0, .int .u8 0, .int .u64 0] 60)
      go_upto_region 5 with (first | (refine wpList_load_mid rfl 60 (.tmp 16) rfl b (o + k * 36) rfl c.cells _ RG Try.underlying60 rfl hz2 ?_) | (refine wpList_store_row rfl 60 (.tmp 8) (.tmp 17) rfl wr.heap.size c.cells.toArray rfl rfl 60 _ HLA hz1 hz3 hco ?_; rw [World.setRow_alloc_new]) | fail)
      have hD := Blk.new wr 60 c.cells
      clear hz1 hz2 hz3 hco HLA
      have HV : Hid (Below w.heap.size w (wr.alloc (.cells c.cells.toArray 60))) := Lib.hid (HB.out.alloc HB.out.size _)
      have c1 := hD.cell 1
      have c2 := hD.cell 2
      rw [Cnd.c1] at c1
      rw [Cnd.c2] at c2
      clear RG hD hok
      generalize wr.alloc (.cells c.cells.toArray 60) = V at HV c1 c2 ⊢
      generalize wr.heap.size = g at c1 c2 ⊢
      obtain ⟨x, hx⟩ : ∃ x, c.amt = x := ⟨_, rfl⟩
      obtain ⟨y, hy⟩ : ∃ y, c.side = y := ⟨_, rfl⟩
      rw [hx] at c2 HX hwa
      rw [hy] at c1 HX
      clear hx hy
      by_cases hsd : y = side
      · have b0 : (y != side) = false := by simp [hsd]
        by_cases h0 : addE s x = 0
        · have b1 : (addE s x != 0) = false := by simp [h0]
          have HT := Lib.hid ((HX.out.2 hsd).1 h0)
          have hw' := addV_word hs hwa
          clear h0 hsd
          go_wp2_with (go_at_call 34; refine (add_any _ _ _ hs hwa).mono ?_; rintro e w' ⟨rfl, rfl⟩)
          go_roundw
          case rel => exact ⟨k + 1, _, by omega, by go_num, rfl, hw', HT, HV⟩
          case measure => simp [intOf] <;> omega
        · have b1 : (addE s x != 0) = true := by simpa using h0
          have HT := Lib.hid ((HX.out.2 hsd).2 h0)
          clear h0 hsd
          go_wp2_with (go_at_call 34; refine (add_any _ _ _ hs hwa).mono ?_; rintro e w' ⟨rfl, rfl⟩)
          go_ret2
          exact ⟨by rw [HT.out.1, HT.out.2]; rfl, HV.out⟩
      · have b0 : (y != side) = true := by simpa using hsd
        have HT := Lib.hid (HX.out.1 hsd)
        clear hsd
        go_wp2
        go_roundw
        case rel => exact ⟨k + 1, _, by omega, by go_num, rfl, hs, HT, HV⟩
        case measure => simp [intOf] <;> omega
    · have HE := Lib.hid (held_end HS.out (by rw [HL.out]; omega))
      go_wp2
      go_ret2
      exact ⟨by rw [HE.out.1, HE.out.2]; rfl, HB.out⟩

/-- Where the document's sum of what is held stands: it goes on, or it has ended in an error. -/
def Helds (side : Int) (cs : List Cnd) (k : Nat) (s e : Int) : Prop := (e = 0 ∧ heldGo side 0 cs = heldGo side s (cs.drop k)) ∨ (e ≠ 0 ∧ heldV side cs = s ∧ heldE side cs = e)

set_option maxRecDepth 100000 in
set_option maxHeartbeats 4000000 in
theorem rheld_any (ch rd m0 m1 t0 t1 : Int) (a : Option Addr) (n cap : Nat) (cs : List Cnd) (side : Int) (w : World) (hC : CRow w a cs) (hl : cs.length = n) (hn : n ≤ 1000) :
    Calls Try.prog 12 #[.agg #[.int .u32 ch, .int .u64 rd, .int .u64 m0, .int .u64 m1, .int .u64 t0, .int .u64 t1, .slice a n cap], .int .i64 side] w fun e w' => e = .returned (.tuple #[.int .u64 (heldV side cs), .int .i64 (heldE side cs)]) ∧ Below w.heap.size w w' := by
  have HC := Lib.hid hC
  have HL := Lib.hid hl
  clear hC hl
  go_enter Try.func12, Try.ntmps12
  go_wp2
  have B0 : Hid (Blk (w.alloc (.cells #[.int .u32 ch, .int .u64 rd, .int .u64 m0, .int .u64 m1, .int .u64 t0, .int .u64 t1, .slice a n cap] 27)) w.heap.size 27 [.int .u32 ch, .int .u64 rd, .int .u64 m0, .int .u64 m1, .int .u64 t0, .int .u64 t1, .slice a n cap]) := Lib.hid (Blk.mk_ rfl)
  have HW : Hid (Below w.heap.size w (w.alloc (.cells #[.int .u32 ch, .int .u64 rd, .int .u64 m0, .int .u64 m1, .int .u64 t0, .int .u64 t1, .slice a n cap] 27))) := Lib.hid ((Below.refl _ _).alloc (Nat.le_refl _) _)
  have hk4 := B0.out.cell 4
  generalize w.alloc (.cells #[.int .u32 ch, .int .u64 rd, .int .u64 m0, .int .u64 m1, .int .u64 t0, .int .u64 t1, .slice a n cap] 27) = W at B0 HW ⊢
  generalize w.heap.size = g at B0 ⊢
  clear hk4
  have k6 := B0.out.cell 6
  simp only [List.getElem?_cons_zero, List.getElem?_cons_succ] at k6
  have HC' := Lib.hid (HC.out.below HW.out)
  go_loop [6, 7, 8] (fun t v i => ∃ (k : Nat) (s e : Int), k ≤ n ∧ i = .int .i64 k ∧ t = .int .u64 s ∧ v = .int .i64 e ∧ Word s ∧ Hid (Helds side cs k s e)) (fun _ _ i => n - (intOf i).toNat)
  case atStart => exact ⟨0, 0, 0, Nat.zero_le _, rfl, rfl, rfl, ⟨by decide, by decide⟩, Lib.hid (.inl ⟨rfl, rfl⟩)⟩
  case round =>
    obtain ⟨k, s, e, hk, rfl, rfl, rfl, hs, HS⟩ := hrel
    by_cases hlt : k < n
    · by_cases he : e = 0
      · subst he
        have hS : heldGo side 0 cs = heldGo side s (cs.drop k) := by
          rcases HS.out with h | h
          · exact h.2
          · exact absurd rfl h.1
        have hk' : k < cs.length := by rw [HL.out]; exact hlt
        obtain ⟨b, o, c, rfl, hb, hc, hr, hok⟩ := HC'.out.get hk'
        have HX := Lib.hid (held_step hS hk' hc)
        have hwa := hok.amt
        have c1 := hr 1 _ c.c1
        have c2 := hr 2 _ c.c2
        clear hc hr hb hS hk' hok
        obtain ⟨x, hx⟩ : ∃ x, c.amt = x := ⟨_, rfl⟩
        obtain ⟨y, hy⟩ : ∃ y, c.side = y := ⟨_, rfl⟩
        rw [hx] at c2 HX hwa
        rw [hy] at c1 HX
        clear hx hy
        by_cases hsd : y = side
        · have b0 : (y == side) = true := by simp [hsd]
          have hw' := addV_word hs hwa
          have HT := Lib.hid (HX.out.2 hsd)
          clear hsd
          go_wp2_with (go_at_call 29; refine (radd_any _ _ _ hs hwa).mono ?_; rintro e w' ⟨rfl, rfl⟩)
          go_round
          case rel =>
            refine ⟨k + 1, _, _, by omega, by go_num, rfl, rfl, hw', Lib.hid ?_⟩
            by_cases h0 : addE s x = 0
            · exact .inl ⟨h0, HT.out.1 h0⟩
            · have := HT.out.2 h0
              have hv : addV s x = 0 := by
                unfold addE at h0
                unfold addV
                split at h0
                · exact absurd rfl h0
                · rename_i h; rw [if_neg h]
              exact .inr ⟨h0, by rw [hv]; exact this.1, this.2⟩
          case measure => simp [intOf] <;> omega
        · have b0 : (y == side) = false := by simpa using hsd
          have HT := Lib.hid (HX.out.1 hsd)
          clear hsd
          go_wp2
          go_round
          case rel => exact ⟨k + 1, _, _, by omega, by go_num, rfl, rfl, hs, Lib.hid (.inl ⟨rfl, HT.out⟩)⟩
          case measure => simp [intOf] <;> omega
      · have b0 : (e == 0) = false := by simpa using he
        have HE : Hid (heldV side cs = s ∧ heldE side cs = e) := by
          rcases HS.out with h | h
          · exact absurd h.1 he
          · exact h.2
        clear he
        go_wp2
        go_ret2
        exact ⟨by rw [HE.out.1, HE.out.2]; rfl, HW.out⟩
    · have HE : Hid (heldV side cs = s ∧ heldE side cs = e) := by
        rcases HS.out with h | h
        · have := held_end h.2 (by rw [HL.out]; omega)
          exact ⟨this.1, by rw [this.2, h.1]⟩
        · exact h.2
      go_wp2
      all_goals
        go_ret2
        exact ⟨by rw [HE.out.1, HE.out.2]; rfl, HW.out⟩

set_option maxRecDepth 100000 in
set_option maxHeartbeats 4000000 in
theorem same_id (c : Cnd) (hok : c.Ok) (g : Nat) (id : Int) (w : World) (hg : Hid (Blk w g 23 [.int .u64 id])) :
    Calls Try.prog 39 #[.agg c.cells.toArray, .pointer (some ⟨g, 0, none⟩)] w fun e w' => e = .returned (.bool (c.id == id)) ∧ Below w.heap.size w w' := by
  have hgl := hg.out.lt
  go_enter Try.func39, Try.ntmps39
  go_upto_region 1 with fail
  have hD := Blk.new w 60 c.cells
  have G := hg.out.alloc (.cells c.cells.toArray 60)
  have HV : Hid (Below w.heap.size w (w.alloc (.cells c.cells.toArray 60))) := Lib.hid ((Below.refl _ _).alloc (Nat.le_refl _) _)
  have c0 := hD.cell 0
  rw [Cnd.c0] at c0
  have k0 := G.cell 0
  simp only [List.getElem?_cons_zero] at k0
  clear hD G
  generalize w.alloc (.cells c.cells.toArray 60) = V at HV c0 k0 ⊢
  go_wp2
  go_ret
  exact ⟨rfl, HV.out⟩


set_option maxRecDepth 100000 in
set_option maxHeartbeats 4000000 in
theorem index_any (a : Option Addr) (n cap : Nat) (cs : List Cnd) (g : Nat) (id : Int) (w : World) (hC : CRow w a cs) (hl : cs.length = n) (hn : n ≤ 1000) (hg : Blk w g 23 [.int .u64 id]) :
    Calls Try.prog 38 #[.slice a n cap, .func (.func 39) #[] #[.pointer (some ⟨g, 0, none⟩)]] w fun e w' => e = .returned (.int .i64 (findV id cs)) ∧ Below w.heap.size w w' := by
  have HC := Lib.hid hC
  have HL := Lib.hid hl
  have HG := Lib.hid hg
  have HW : Hid (Below w.heap.size w w) := Lib.hid (Below.refl _ _)
  clear hC hl hg
  go_enter Try.func38, Try.ntmps38
  go_wp2
  go_loopw [5, 8] (fun _ i wr => ∃ (k : Nat), k ≤ n ∧ i = .int .i64 k ∧ Hid (findV id cs = findGo id k (cs.drop k)) ∧ Hid (Below w.heap.size w wr)) (fun _ i _ => n - (intOf i).toNat)
  case atStart => exact ⟨0, Nat.zero_le _, rfl, Lib.hid rfl, HW⟩
  case round =>
    clear HW
    obtain ⟨k, hk, rfl, HS, HB⟩ := hrel
    by_cases hlt : k < n
    · have hk' : k < cs.length := by rw [HL.out]; exact hlt
      obtain ⟨b, o, c, rfl, hb, hc, hr, hok⟩ := HC.out.get hk'
      have HX := Lib.hid (find_step HS.out hk' hc)
      have RG := range_below hr HB.out hb
      have HOK := Lib.hid hok
      have hz2 : (Try.prog.info? 60).map (·.size) = some c.cells.length := by rw [hok.len]; exact info60
      clear hc hr hb hk' hok
      go_wp2_with (first | (refine wpList_load_mid rfl 60 (.tmp 14) rfl b (o + k * 36) rfl c.cells _ RG Try.underlying60 rfl hz2 ?_))
      refine (same_id c HOK.out g id wr (Lib.hid (HG.out.below HB.out HG.out.lt))).mono ?_
      rintro e V ⟨rfl, hB⟩
      have HV := Lib.hid (HB.out.trans (hB.mono HB.out.size))
      clear hB RG hz2
      by_cases h : c.id = id
      · have b0 : (c.id == id) = true := by simp [h]
        have HT := Lib.hid (HX.out.1 h)
        clear h
        go_wp2
        go_ret
        exact ⟨by rw [HT.out]; rfl, HV.out⟩
      · have b0 : (c.id == id) = false := by simpa using h
        have HT := Lib.hid (HX.out.2 h)
        clear h
        go_wp2
        go_roundw
        case rel => exact ⟨k + 1, by omega, by go_num, HT, HV⟩
        case measure => simp [intOf] <;> omega
    · have HE := Lib.hid (find_end HS.out (by rw [HL.out]; omega))
      go_wp2
      go_ret
      exact ⟨by rw [HE.out]; rfl, HB.out⟩


set_option maxRecDepth 100000 in
set_option maxHeartbeats 4000000 in
theorem find_any (ch rd m0 m1 t0 t1 : Int) (a : Option Addr) (n cap : Nat) (cs : List Cnd) (id : Int) (w : World) (hC : CRow w a cs) (hl : cs.length = n) (hn : n ≤ 1000) :
    Calls Try.prog 17 #[.agg #[.int .u32 ch, .int .u64 rd, .int .u64 m0, .int .u64 m1, .int .u64 t0, .int .u64 t1, .slice a n cap], .int .u64 id] w fun e w' => e = .returned (.int .i64 (findV id cs)) ∧ Below w.heap.size w w' := by
  have HC := Lib.hid hC
  have HL := Lib.hid hl
  clear hC hl
  go_enter Try.func17, Try.ntmps17
  go_wp2_with fail
  have hB1 : Below w.heap.size w ((w.alloc (.cells #[.int .u32 ch, .int .u64 rd, .int .u64 m0, .int .u64 m1, .int .u64 t0, .int .u64 t1, .slice a n cap] 31)).alloc (.cells #[.int .u64 id] 23)) := ((Below.refl _ _).alloc (Nat.le_refl _) _).alloc (by simp) _
  refine (index_any a n cap cs (w.heap.size + 1) id _ (HC.out.below hB1) HL.out hn (Blk.mk_ (cs := [.int .u64 id]) (by simp))).mono ?_
  rintro e V ⟨rfl, hB⟩
  have HV := Lib.hid (hB1.trans (hB.mono hB1.size))
  clear hB hB1
  go_wp2
  go_ret
  exact ⟨rfl, HV.out⟩


set_option maxRecDepth 100000 in
set_option maxHeartbeats 4000000 in
theorem rfind_any (ch rd m0 m1 t0 t1 : Int) (a : Option Addr) (n cap : Nat) (cs : List Cnd) (id : Int) (w : World) (hC : CRow w a cs) (hl : cs.length = n) (hn : n ≤ 1000) :
    Calls Try.prog 18 #[.agg #[.int .u32 ch, .int .u64 rd, .int .u64 m0, .int .u64 m1, .int .u64 t0, .int .u64 t1, .slice a n cap], .int .u64 id] w fun e w' => e = .returned (.int .i64 (findV id cs)) ∧ Below w.heap.size w w' := by
  have HC := Lib.hid hC
  have HL := Lib.hid hl
  clear hC hl
  go_enter Try.func18, Try.ntmps18
  go_wp2
  have B0 : Hid (Blk (w.alloc (.cells #[.int .u32 ch, .int .u64 rd, .int .u64 m0, .int .u64 m1, .int .u64 t0, .int .u64 t1, .slice a n cap] 27)) w.heap.size 27 [.int .u32 ch, .int .u64 rd, .int .u64 m0, .int .u64 m1, .int .u64 t0, .int .u64 t1, .slice a n cap]) := Lib.hid (Blk.mk_ rfl)
  have HW : Hid (Below w.heap.size w (w.alloc (.cells #[.int .u32 ch, .int .u64 rd, .int .u64 m0, .int .u64 m1, .int .u64 t0, .int .u64 t1, .slice a n cap] 27))) := Lib.hid ((Below.refl _ _).alloc (Nat.le_refl _) _)
  generalize w.alloc (.cells #[.int .u32 ch, .int .u64 rd, .int .u64 m0, .int .u64 m1, .int .u64 t0, .int .u64 t1, .slice a n cap] 27) = W at B0 HW ⊢
  generalize w.heap.size = g at B0 ⊢
  have k6 := B0.out.cell 6
  simp only [List.getElem?_cons_zero, List.getElem?_cons_succ] at k6
  have HC' := Lib.hid (HC.out.below HW.out)
  go_loop [5] (fun i => ∃ (k : Nat), k ≤ n ∧ i = .int .i64 k ∧ Hid (findV id cs = findGo id k (cs.drop k))) (fun i => n - (intOf i).toNat)
  case atStart => exact ⟨0, Nat.zero_le _, rfl, Lib.hid rfl⟩
  case round =>
    obtain ⟨k, hk, rfl, HS⟩ := hrel
    by_cases hlt : k < n
    · have hk' : k < cs.length := by rw [HL.out]; exact hlt
      obtain ⟨b, o, c, rfl, hb, hc, hr, hok⟩ := HC'.out.get hk'
      have HX := Lib.hid (find_step HS.out hk' hc)
      have c0 := hr 0 _ c.c0
      rw [Nat.add_zero] at c0
      clear hc hr hb hk' hok
      by_cases h : c.id = id
      · have b0 : (c.id == id) = true := by simp [h]
        have HT := Lib.hid (HX.out.1 h)
        clear h
        go_wp2
        go_ret
        exact ⟨by rw [HT.out]; rfl, HW.out⟩
      · have b0 : (c.id == id) = false := by simpa using h
        have HT := Lib.hid (HX.out.2 h)
        clear h
        go_wp2
        go_round
        case rel => exact ⟨k + 1, by omega, by go_num, HT⟩
        case measure => simp [intOf] <;> omega
    · have HE := Lib.hid (find_end HS.out (by rw [HL.out]; omega))
      go_wp2
      go_ret
      exact ⟨by rw [HE.out]; rfl, HW.out⟩
end Go.Proofs.Ytkiifjkcpangfaa
