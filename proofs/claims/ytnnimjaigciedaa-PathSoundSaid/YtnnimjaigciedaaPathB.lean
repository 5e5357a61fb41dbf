/-
  A trail's beginning, its end; who seeks.
-/
import Derived.Test.YtnnimjaigciedaaM08
namespace Go.Proofs.Ytnnimjaigciedaa
open Go.RowKit
set_option linter.unusedVariables false

set_option maxRecDepth 100000 in
theorem load117 (w : World) (g t : Nat) (a b : Option Addr) (l m c d : Nat) (x y : Int) (h : Blk w g t [.slice a l c, .slice b m d, .int .i64 x, .int .u64 y]) : (loadVar 117 ⟨g, 0, none⟩).run Try.prog w = .ok (.agg #[.slice a l c, .slice b m d, .int .i64 x, .int .u64 y]) w := by
  have k1 := h.cell 0
  have k2 := h.cell 1
  have k3 := h.cell 2
  have k4 := h.cell 3
  simp only [List.getElem?_cons_zero, List.getElem?_cons_succ] at k1 k2 k3 k4
  go_simp
theorem results117 {fn : Func} {p u : Tmp} (h : fn.results = #[.cell p 117, .tmp u]) (tmps : Array Value) (w : World) (g t : Nat) (a b : Option Addr) (l m c d : Nat) (x y : Int) (v : Value) (hp : tmps.getD p undef = .pointer (some ⟨g, 0, none⟩)) (hu : tmps.getD u undef = v) (hP : Blk w g t [.slice a l c, .slice b m d, .int .i64 x, .int .u64 y]) :
    (results fn tmps).run Try.prog w = .ok (.tuple #[.agg #[.slice a l c, .slice b m d, .int .i64 x, .int .u64 y], v]) w := by
  rw [results_cell_tmp h, hp, hu]
  simp [asAddr, Result.andThen, load117 w g t a b l m c d x y hP]

/-- Why nothing may be sought. -/
def seekE (sl : Nat) (es : List Ed) (src goal amt : Int) : Int :=
  if checkE sl es ≠ 0 then checkE sl es else if hasB src sl = false ∨ hasB goal sl = false ∨ src = goal ∨ amt = 0 then 1 else 0
def seekV (sa : Option Addr) (sl sc : Nat) (ea : Option Addr) (el ec : Nat) (goal amt : Int) : Value := .agg #[.slice sa sl sc, .slice ea el ec, .int .i64 goal, .int .u64 amt]
def SeekPost (w : World) (sa : Option Addr) (sl sc : Nat) (ea : Option Addr) (el ec : Nat) (es : List Ed) (src goal amt : Int) (r : Ending) (w' : World) : Prop :=
  Below w.heap.size w w' ∧ ((seekE sl es src goal amt = 0 ∧ r = .returned (.tuple #[seekV sa sl sc ea el ec goal amt, .int .i64 0])) ∨ (seekE sl es src goal amt ≠ 0 ∧ r = .returned (.tuple #[seekV none 0 0 none 0 0 0 0, .int .i64 (seekE sl es src goal amt)])))

set_option maxRecDepth 100000 in
set_option maxHeartbeats 4000000 in
theorem seek_check (sa : Option Addr) (sl sc : Nat) (ea : Option Addr) (el ec : Nat) (es : List Ed) (src goal amt : Int) (w : World) (hE : EdgeRow w ea es) (hel : es.length = el) (hel2 : el ≤ 100) (hsl2 : sl ≤ 1000) (hc : checkE sl es ≠ 0) :
    Calls Try.prog 59 #[.agg #[.slice sa sl sc, .slice ea el ec], .int .i64 src, .int .i64 goal, .int .u64 amt] w (SeekPost w sa sl sc ea el ec es src goal amt) := by
  have HX : Hid (seekE sl es src goal amt = checkE sl es) := Lib.hid (by unfold seekE; rw [if_pos hc])
  have HN0 := Lib.hid hc
  have b0 : (checkE sl es != 0) = true := by simpa using hc
  clear hc
  have HEL := Lib.hid hel
  have E0w := Lib.hid hE
  clear hel hE
  go_enter Try.func59, Try.ntmps59
  go_wp2_with fail
  have EY0 : Hid (EdgeRow (((w.alloc (.cells #[.slice sa sl sc, .slice ea el ec] 31)).alloc (.cells #[.slice none 0 0, .slice none 0 0, .int .i64 0, .int .u64 0] 117)).alloc (.cells #[.slice sa sl sc, .slice ea el ec, .int .i64 goal, .int .u64 amt] 117)) ea es) := Lib.hid (E0w.out.below ((((Below.refl _ _).alloc (Nat.le_refl _) _).alloc (by simp) _).alloc (by simp; omega) _))
  have RY0 : Hid (Blk (((w.alloc (.cells #[.slice sa sl sc, .slice ea el ec] 31)).alloc (.cells #[.slice none 0 0, .slice none 0 0, .int .i64 0, .int .u64 0] 117)).alloc (.cells #[.slice sa sl sc, .slice ea el ec, .int .i64 goal, .int .u64 amt] 117)) (w.heap.size + 1) 117 [.slice none 0 0, .slice none 0 0, .int .i64 0, .int .u64 0]) := Lib.hid ((Blk.mk_ (cs := [.slice none 0 0, .slice none 0 0, .int .i64 0, .int .u64 0]) (by simp)).alloc _)
  have SY0 : Hid (Blk (((w.alloc (.cells #[.slice sa sl sc, .slice ea el ec] 31)).alloc (.cells #[.slice none 0 0, .slice none 0 0, .int .i64 0, .int .u64 0] 117)).alloc (.cells #[.slice sa sl sc, .slice ea el ec, .int .i64 goal, .int .u64 amt] 117)) (w.heap.size + 1 + 1) 117 [.slice sa sl sc, .slice ea el ec, .int .i64 goal, .int .u64 amt]) := Lib.hid (Blk.mk_ (cs := [.slice sa sl sc, .slice ea el ec, .int .i64 goal, .int .u64 amt]) (by simp))
  have BY0 : Hid (Below w.heap.size w (((w.alloc (.cells #[.slice sa sl sc, .slice ea el ec] 31)).alloc (.cells #[.slice none 0 0, .slice none 0 0, .int .i64 0, .int .u64 0] 117)).alloc (.cells #[.slice sa sl sc, .slice ea el ec, .int .i64 goal, .int .u64 amt] 117))) := Lib.hid ((((Below.refl _ _).alloc (Nat.le_refl _) _).alloc (by simp) _).alloc (by simp; omega) _)
  generalize (((w.alloc (.cells #[.slice sa sl sc, .slice ea el ec] 31)).alloc (.cells #[.slice none 0 0, .slice none 0 0, .int .i64 0, .int .u64 0] 117)).alloc (.cells #[.slice sa sl sc, .slice ea el ec, .int .i64 goal, .int .u64 amt] 117)) = Y0 at EY0 RY0 SY0 BY0 ⊢
  have hgr : w.heap.size ≤ w.heap.size + 1 := by omega
  have hrs : w.heap.size + 1 ≠ w.heap.size + 1 + 1 := by omega
  obtain ⟨gs, hgs⟩ : ∃ g, w.heap.size + 1 + 1 = g := ⟨_, rfl⟩
  rw [hgs] at SY0 hrs ⊢
  obtain ⟨gr, hgr2⟩ : ∃ g, w.heap.size + 1 = g := ⟨_, rfl⟩
  rw [hgr2] at RY0 hgr hrs ⊢
  clear hgr2 hgs E0w
  refine (check_any sa sl sc ea el ec es Y0 EY0.out HEL.out (by omega) (by omega)).mono ?_
  rintro e Y1 ⟨rfl, hB⟩
  have BY1 : Hid (Below w.heap.size w Y1) := Lib.hid (BY0.out.trans (hB.mono BY0.out.size))
  have EY1 : Hid (EdgeRow Y1 ea es) := Lib.hid (EY0.out.below hB)
  have SY1 : Hid (Blk Y1 gs 117 [.slice sa sl sc, .slice ea el ec, .int .i64 goal, .int .u64 amt]) := Lib.hid (SY0.out.below hB SY0.out.lt)
  have RY1 : Hid (Blk Y1 gr 117 [.slice none 0 0, .slice none 0 0, .int .i64 0, .int .u64 0]) := Lib.hid (RY0.out.below hB RY0.out.lt)
  clear BY0 EY0 SY0 RY0
  clear hB
  have r0 := RY1.out.cell 0
  have r1 := RY1.out.cell 1
  have r2 := RY1.out.cell 2
  have r3 := RY1.out.cell 3
  simp only [List.getElem?_cons_zero, List.getElem?_cons_succ] at r0 r1 r2 r3
  have f0 := RY1.out.frozen 0
  have f1 := RY1.out.frozen 1
  have f2 := RY1.out.frozen 2
  have f3 := RY1.out.frozen 3
  go_wp2
  exact bodyPost_ret (results117 Try.results59 _ _ gr 117 none none 0 0 0 0 0 0 _ rfl rfl (Blk.set_ (Blk.set_ (Blk.set_ (Blk.set_ RY1.out 0 (.slice none 0 0)) 1 (.slice none 0 0)) 2 (.int .i64 0)) 3 (.int .u64 0))) rfl ⟨((((BY1.out.setCell (p := ⟨gr, 0, none⟩) hgr (.slice none 0 0)).setCell (p := ⟨gr, 1, none⟩) hgr (.slice none 0 0)).setCell (p := ⟨gr, 2, none⟩) hgr (.int .i64 0)).setCell (p := ⟨gr, 3, none⟩) hgr (.int .u64 0)), .inr ⟨by rw [HX.out]; exact HN0.out, by rw [HX.out]; rfl⟩⟩

set_option maxRecDepth 100000 in
set_option maxHeartbeats 4000000 in
theorem seek_src (sa : Option Addr) (sl sc : Nat) (ea : Option Addr) (el ec : Nat) (es : List Ed) (src goal amt : Int) (w : World) (hE : EdgeRow w ea es) (hel : es.length = el) (hel2 : el ≤ 100) (hsl2 : sl ≤ 1000) (hc : checkE sl es = 0) (h1 : hasB src sl = false) :
    Calls Try.prog 59 #[.agg #[.slice sa sl sc, .slice ea el ec], .int .i64 src, .int .i64 goal, .int .u64 amt] w (SeekPost w sa sl sc ea el ec es src goal amt) := by
  have HX : Hid (seekE sl es src goal amt = 1) := Lib.hid (by unfold seekE; rw [if_neg (by rw [hc]; simp)]; simp [h1])
  have HN0 : Hid ((1 : Int) ≠ 0) := Lib.hid (by decide)
  have H1 := Lib.hid h1
  clear h1
  have HC := Lib.hid hc
  clear hc
  have HEL := Lib.hid hel
  have E0w := Lib.hid hE
  clear hel hE
  go_enter Try.func59, Try.ntmps59
  go_wp2_with fail
  have EY0 : Hid (EdgeRow (((w.alloc (.cells #[.slice sa sl sc, .slice ea el ec] 31)).alloc (.cells #[.slice none 0 0, .slice none 0 0, .int .i64 0, .int .u64 0] 117)).alloc (.cells #[.slice sa sl sc, .slice ea el ec, .int .i64 goal, .int .u64 amt] 117)) ea es) := Lib.hid (E0w.out.below ((((Below.refl _ _).alloc (Nat.le_refl _) _).alloc (by simp) _).alloc (by simp; omega) _))
  have RY0 : Hid (Blk (((w.alloc (.cells #[.slice sa sl sc, .slice ea el ec] 31)).alloc (.cells #[.slice none 0 0, .slice none 0 0, .int .i64 0, .int .u64 0] 117)).alloc (.cells #[.slice sa sl sc, .slice ea el ec, .int .i64 goal, .int .u64 amt] 117)) (w.heap.size + 1) 117 [.slice none 0 0, .slice none 0 0, .int .i64 0, .int .u64 0]) := Lib.hid ((Blk.mk_ (cs := [.slice none 0 0, .slice none 0 0, .int .i64 0, .int .u64 0]) (by simp)).alloc _)
  have SY0 : Hid (Blk (((w.alloc (.cells #[.slice sa sl sc, .slice ea el ec] 31)).alloc (.cells #[.slice none 0 0, .slice none 0 0, .int .i64 0, .int .u64 0] 117)).alloc (.cells #[.slice sa sl sc, .slice ea el ec, .int .i64 goal, .int .u64 amt] 117)) (w.heap.size + 1 + 1) 117 [.slice sa sl sc, .slice ea el ec, .int .i64 goal, .int .u64 amt]) := Lib.hid (Blk.mk_ (cs := [.slice sa sl sc, .slice ea el ec, .int .i64 goal, .int .u64 amt]) (by simp))
  have BY0 : Hid (Below w.heap.size w (((w.alloc (.cells #[.slice sa sl sc, .slice ea el ec] 31)).alloc (.cells #[.slice none 0 0, .slice none 0 0, .int .i64 0, .int .u64 0] 117)).alloc (.cells #[.slice sa sl sc, .slice ea el ec, .int .i64 goal, .int .u64 amt] 117))) := Lib.hid ((((Below.refl _ _).alloc (Nat.le_refl _) _).alloc (by simp) _).alloc (by simp; omega) _)
  generalize (((w.alloc (.cells #[.slice sa sl sc, .slice ea el ec] 31)).alloc (.cells #[.slice none 0 0, .slice none 0 0, .int .i64 0, .int .u64 0] 117)).alloc (.cells #[.slice sa sl sc, .slice ea el ec, .int .i64 goal, .int .u64 amt] 117)) = Y0 at EY0 RY0 SY0 BY0 ⊢
  have hgr : w.heap.size ≤ w.heap.size + 1 := by omega
  have hrs : w.heap.size + 1 ≠ w.heap.size + 1 + 1 := by omega
  obtain ⟨gs, hgs⟩ : ∃ g, w.heap.size + 1 + 1 = g := ⟨_, rfl⟩
  rw [hgs] at SY0 hrs ⊢
  obtain ⟨gr, hgr2⟩ : ∃ g, w.heap.size + 1 = g := ⟨_, rfl⟩
  rw [hgr2] at RY0 hgr hrs ⊢
  clear hgr2 hgs E0w
  refine (check_any sa sl sc ea el ec es Y0 EY0.out HEL.out (by omega) (by omega)).mono ?_
  rintro e Y1 ⟨rfl, hB⟩
  have BY1 : Hid (Below w.heap.size w Y1) := Lib.hid (BY0.out.trans (hB.mono BY0.out.size))
  have EY1 : Hid (EdgeRow Y1 ea es) := Lib.hid (EY0.out.below hB)
  have SY1 : Hid (Blk Y1 gs 117 [.slice sa sl sc, .slice ea el ec, .int .i64 goal, .int .u64 amt]) := Lib.hid (SY0.out.below hB SY0.out.lt)
  have RY1 : Hid (Blk Y1 gr 117 [.slice none 0 0, .slice none 0 0, .int .i64 0, .int .u64 0]) := Lib.hid (RY0.out.below hB RY0.out.lt)
  clear BY0 EY0 SY0 RY0
  clear hB
  rw [HC.out]
  have cS0 := Blk.cell SY1.out 0
  have cS1 := Blk.cell SY1.out 1
  have cS2 := Blk.cell SY1.out 2
  have cS3 := Blk.cell SY1.out 3
  simp only [List.getElem?_cons_zero, List.getElem?_cons_succ] at cS0 cS1 cS2 cS3
  go_wp2_with fail
  clear cS0 cS1 cS2 cS3
  refine (isNode_any sa sl sc ea el ec goal amt src Y1).mono ?_
  rintro e Y2 ⟨rfl, hB⟩
  have BY2 : Hid (Below w.heap.size w Y2) := Lib.hid (BY1.out.trans (hB.mono BY1.out.size))
  have EY2 : Hid (EdgeRow Y2 ea es) := Lib.hid (EY1.out.below hB)
  have SY2 : Hid (Blk Y2 gs 117 [.slice sa sl sc, .slice ea el ec, .int .i64 goal, .int .u64 amt]) := Lib.hid (SY1.out.below hB SY1.out.lt)
  have RY2 : Hid (Blk Y2 gr 117 [.slice none 0 0, .slice none 0 0, .int .i64 0, .int .u64 0]) := Lib.hid (RY1.out.below hB RY1.out.lt)
  clear BY1 EY1 SY1 RY1
  clear hB
  rw [H1.out]
  have r0 := RY2.out.cell 0
  have r1 := RY2.out.cell 1
  have r2 := RY2.out.cell 2
  have r3 := RY2.out.cell 3
  simp only [List.getElem?_cons_zero, List.getElem?_cons_succ] at r0 r1 r2 r3
  have f0 := RY2.out.frozen 0
  have f1 := RY2.out.frozen 1
  have f2 := RY2.out.frozen 2
  have f3 := RY2.out.frozen 3
  go_wp2
  exact bodyPost_ret (results117 Try.results59 _ _ gr 117 none none 0 0 0 0 0 0 _ rfl rfl (Blk.set_ (Blk.set_ (Blk.set_ (Blk.set_ RY2.out 0 (.slice none 0 0)) 1 (.slice none 0 0)) 2 (.int .i64 0)) 3 (.int .u64 0))) rfl ⟨((((BY2.out.setCell (p := ⟨gr, 0, none⟩) hgr (.slice none 0 0)).setCell (p := ⟨gr, 1, none⟩) hgr (.slice none 0 0)).setCell (p := ⟨gr, 2, none⟩) hgr (.int .i64 0)).setCell (p := ⟨gr, 3, none⟩) hgr (.int .u64 0)), .inr ⟨by rw [HX.out]; exact HN0.out, by rw [HX.out]; rfl⟩⟩

set_option maxRecDepth 100000 in
set_option maxHeartbeats 4000000 in
theorem seek_goal (sa : Option Addr) (sl sc : Nat) (ea : Option Addr) (el ec : Nat) (es : List Ed) (src goal amt : Int) (w : World) (hE : EdgeRow w ea es) (hel : es.length = el) (hel2 : el ≤ 100) (hsl2 : sl ≤ 1000) (hc : checkE sl es = 0) (h1 : hasB src sl = true) (h2 : hasB goal sl = false) :
    Calls Try.prog 59 #[.agg #[.slice sa sl sc, .slice ea el ec], .int .i64 src, .int .i64 goal, .int .u64 amt] w (SeekPost w sa sl sc ea el ec es src goal amt) := by
  have HX : Hid (seekE sl es src goal amt = 1) := Lib.hid (by unfold seekE; rw [if_neg (by rw [hc]; simp)]; simp [h2])
  have HN0 : Hid ((1 : Int) ≠ 0) := Lib.hid (by decide)
  have H1 := Lib.hid h1
  have H2 := Lib.hid h2
  clear h1 h2
  have HC := Lib.hid hc
  clear hc
  have HEL := Lib.hid hel
  have E0w := Lib.hid hE
  clear hel hE
  go_enter Try.func59, Try.ntmps59
  go_wp2_with fail
  have EY0 : Hid (EdgeRow (((w.alloc (.cells #[.slice sa sl sc, .slice ea el ec] 31)).alloc (.cells #[.slice none 0 0, .slice none 0 0, .int .i64 0, .int .u64 0] 117)).alloc (.cells #[.slice sa sl sc, .slice ea el ec, .int .i64 goal, .int .u64 amt] 117)) ea es) := Lib.hid (E0w.out.below ((((Below.refl _ _).alloc (Nat.le_refl _) _).alloc (by simp) _).alloc (by simp; omega) _))
  have RY0 : Hid (Blk (((w.alloc (.cells #[.slice sa sl sc, .slice ea el ec] 31)).alloc (.cells #[.slice none 0 0, .slice none 0 0, .int .i64 0, .int .u64 0] 117)).alloc (.cells #[.slice sa sl sc, .slice ea el ec, .int .i64 goal, .int .u64 amt] 117)) (w.heap.size + 1) 117 [.slice none 0 0, .slice none 0 0, .int .i64 0, .int .u64 0]) := Lib.hid ((Blk.mk_ (cs := [.slice none 0 0, .slice none 0 0, .int .i64 0, .int .u64 0]) (by simp)).alloc _)
  have SY0 : Hid (Blk (((w.alloc (.cells #[.slice sa sl sc, .slice ea el ec] 31)).alloc (.cells #[.slice none 0 0, .slice none 0 0, .int .i64 0, .int .u64 0] 117)).alloc (.cells #[.slice sa sl sc, .slice ea el ec, .int .i64 goal, .int .u64 amt] 117)) (w.heap.size + 1 + 1) 117 [.slice sa sl sc, .slice ea el ec, .int .i64 goal, .int .u64 amt]) := Lib.hid (Blk.mk_ (cs := [.slice sa sl sc, .slice ea el ec, .int .i64 goal, .int .u64 amt]) (by simp))
  have BY0 : Hid (Below w.heap.size w (((w.alloc (.cells #[.slice sa sl sc, .slice ea el ec] 31)).alloc (.cells #[.slice none 0 0, .slice none 0 0, .int .i64 0, .int .u64 0] 117)).alloc (.cells #[.slice sa sl sc, .slice ea el ec, .int .i64 goal, .int .u64 amt] 117))) := Lib.hid ((((Below.refl _ _).alloc (Nat.le_refl _) _).alloc (by simp) _).alloc (by simp; omega) _)
  generalize (((w.alloc (.cells #[.slice sa sl sc, .slice ea el ec] 31)).alloc (.cells #[.slice none 0 0, .slice none 0 0, .int .i64 0, .int .u64 0] 117)).alloc (.cells #[.slice sa sl sc, .slice ea el ec, .int .i64 goal, .int .u64 amt] 117)) = Y0 at EY0 RY0 SY0 BY0 ⊢
  have hgr : w.heap.size ≤ w.heap.size + 1 := by omega
  have hrs : w.heap.size + 1 ≠ w.heap.size + 1 + 1 := by omega
  obtain ⟨gs, hgs⟩ : ∃ g, w.heap.size + 1 + 1 = g := ⟨_, rfl⟩
  rw [hgs] at SY0 hrs ⊢
  obtain ⟨gr, hgr2⟩ : ∃ g, w.heap.size + 1 = g := ⟨_, rfl⟩
  rw [hgr2] at RY0 hgr hrs ⊢
  clear hgr2 hgs E0w
  refine (check_any sa sl sc ea el ec es Y0 EY0.out HEL.out (by omega) (by omega)).mono ?_
  rintro e Y1 ⟨rfl, hB⟩
  have BY1 : Hid (Below w.heap.size w Y1) := Lib.hid (BY0.out.trans (hB.mono BY0.out.size))
  have EY1 : Hid (EdgeRow Y1 ea es) := Lib.hid (EY0.out.below hB)
  have SY1 : Hid (Blk Y1 gs 117 [.slice sa sl sc, .slice ea el ec, .int .i64 goal, .int .u64 amt]) := Lib.hid (SY0.out.below hB SY0.out.lt)
  have RY1 : Hid (Blk Y1 gr 117 [.slice none 0 0, .slice none 0 0, .int .i64 0, .int .u64 0]) := Lib.hid (RY0.out.below hB RY0.out.lt)
  clear BY0 EY0 SY0 RY0
  clear hB
  rw [HC.out]
  have cS0 := Blk.cell SY1.out 0
  have cS1 := Blk.cell SY1.out 1
  have cS2 := Blk.cell SY1.out 2
  have cS3 := Blk.cell SY1.out 3
  simp only [List.getElem?_cons_zero, List.getElem?_cons_succ] at cS0 cS1 cS2 cS3
  go_wp2_with fail
  clear cS0 cS1 cS2 cS3
  refine (isNode_any sa sl sc ea el ec goal amt src Y1).mono ?_
  rintro e Y2 ⟨rfl, hB⟩
  have BY2 : Hid (Below w.heap.size w Y2) := Lib.hid (BY1.out.trans (hB.mono BY1.out.size))
  have EY2 : Hid (EdgeRow Y2 ea es) := Lib.hid (EY1.out.below hB)
  have SY2 : Hid (Blk Y2 gs 117 [.slice sa sl sc, .slice ea el ec, .int .i64 goal, .int .u64 amt]) := Lib.hid (SY1.out.below hB SY1.out.lt)
  have RY2 : Hid (Blk Y2 gr 117 [.slice none 0 0, .slice none 0 0, .int .i64 0, .int .u64 0]) := Lib.hid (RY1.out.below hB RY1.out.lt)
  clear BY1 EY1 SY1 RY1
  clear hB
  rw [H1.out]
  have cS0 := Blk.cell SY2.out 0
  have cS1 := Blk.cell SY2.out 1
  have cS2 := Blk.cell SY2.out 2
  have cS3 := Blk.cell SY2.out 3
  simp only [List.getElem?_cons_zero, List.getElem?_cons_succ] at cS0 cS1 cS2 cS3
  go_wp2_with fail
  clear cS0 cS1 cS2 cS3
  refine (isNode_any sa sl sc ea el ec goal amt goal Y2).mono ?_
  rintro e Y3 ⟨rfl, hB⟩
  have BY3 : Hid (Below w.heap.size w Y3) := Lib.hid (BY2.out.trans (hB.mono BY2.out.size))
  have EY3 : Hid (EdgeRow Y3 ea es) := Lib.hid (EY2.out.below hB)
  have SY3 : Hid (Blk Y3 gs 117 [.slice sa sl sc, .slice ea el ec, .int .i64 goal, .int .u64 amt]) := Lib.hid (SY2.out.below hB SY2.out.lt)
  have RY3 : Hid (Blk Y3 gr 117 [.slice none 0 0, .slice none 0 0, .int .i64 0, .int .u64 0]) := Lib.hid (RY2.out.below hB RY2.out.lt)
  clear BY2 EY2 SY2 RY2
  clear hB
  rw [H2.out]
  have r0 := RY3.out.cell 0
  have r1 := RY3.out.cell 1
  have r2 := RY3.out.cell 2
  have r3 := RY3.out.cell 3
  simp only [List.getElem?_cons_zero, List.getElem?_cons_succ] at r0 r1 r2 r3
  have f0 := RY3.out.frozen 0
  have f1 := RY3.out.frozen 1
  have f2 := RY3.out.frozen 2
  have f3 := RY3.out.frozen 3
  go_wp2
  exact bodyPost_ret (results117 Try.results59 _ _ gr 117 none none 0 0 0 0 0 0 _ rfl rfl (Blk.set_ (Blk.set_ (Blk.set_ (Blk.set_ RY3.out 0 (.slice none 0 0)) 1 (.slice none 0 0)) 2 (.int .i64 0)) 3 (.int .u64 0))) rfl ⟨((((BY3.out.setCell (p := ⟨gr, 0, none⟩) hgr (.slice none 0 0)).setCell (p := ⟨gr, 1, none⟩) hgr (.slice none 0 0)).setCell (p := ⟨gr, 2, none⟩) hgr (.int .i64 0)).setCell (p := ⟨gr, 3, none⟩) hgr (.int .u64 0)), .inr ⟨by rw [HX.out]; exact HN0.out, by rw [HX.out]; rfl⟩⟩

set_option maxRecDepth 100000 in
set_option maxHeartbeats 4000000 in
theorem seek_same (sa : Option Addr) (sl sc : Nat) (ea : Option Addr) (el ec : Nat) (es : List Ed) (src goal amt : Int) (w : World) (hE : EdgeRow w ea es) (hel : es.length = el) (hel2 : el ≤ 100) (hsl2 : sl ≤ 1000) (hc : checkE sl es = 0) (h1 : hasB src sl = true) (h2 : hasB goal sl = true) (h3 : src = goal) :
    Calls Try.prog 59 #[.agg #[.slice sa sl sc, .slice ea el ec], .int .i64 src, .int .i64 goal, .int .u64 amt] w (SeekPost w sa sl sc ea el ec es src goal amt) := by
  have HX : Hid (seekE sl es src goal amt = 1) := Lib.hid (by unfold seekE; rw [if_neg (by rw [hc]; simp)]; simp [h3])
  have HN0 : Hid ((1 : Int) ≠ 0) := Lib.hid (by decide)
  have b3 : (src == goal) = true := by simpa using h3
  have H1 := Lib.hid h1
  have H2 := Lib.hid h2
  clear h1 h2 h3
  have HC := Lib.hid hc
  clear hc
  have HEL := Lib.hid hel
  have E0w := Lib.hid hE
  clear hel hE
  go_enter Try.func59, Try.ntmps59
  go_wp2_with fail
  have EY0 : Hid (EdgeRow (((w.alloc (.cells #[.slice sa sl sc, .slice ea el ec] 31)).alloc (.cells #[.slice none 0 0, .slice none 0 0, .int .i64 0, .int .u64 0] 117)).alloc (.cells #[.slice sa sl sc, .slice ea el ec, .int .i64 goal, .int .u64 amt] 117)) ea es) := Lib.hid (E0w.out.below ((((Below.refl _ _).alloc (Nat.le_refl _) _).alloc (by simp) _).alloc (by simp; omega) _))
  have RY0 : Hid (Blk (((w.alloc (.cells #[.slice sa sl sc, .slice ea el ec] 31)).alloc (.cells #[.slice none 0 0, .slice none 0 0, .int .i64 0, .int .u64 0] 117)).alloc (.cells #[.slice sa sl sc, .slice ea el ec, .int .i64 goal, .int .u64 amt] 117)) (w.heap.size + 1) 117 [.slice none 0 0, .slice none 0 0, .int .i64 0, .int .u64 0]) := Lib.hid ((Blk.mk_ (cs := [.slice none 0 0, .slice none 0 0, .int .i64 0, .int .u64 0]) (by simp)).alloc _)
  have SY0 : Hid (Blk (((w.alloc (.cells #[.slice sa sl sc, .slice ea el ec] 31)).alloc (.cells #[.slice none 0 0, .slice none 0 0, .int .i64 0, .int .u64 0] 117)).alloc (.cells #[.slice sa sl sc, .slice ea el ec, .int .i64 goal, .int .u64 amt] 117)) (w.heap.size + 1 + 1) 117 [.slice sa sl sc, .slice ea el ec, .int .i64 goal, .int .u64 amt]) := Lib.hid (Blk.mk_ (cs := [.slice sa sl sc, .slice ea el ec, .int .i64 goal, .int .u64 amt]) (by simp))
  have BY0 : Hid (Below w.heap.size w (((w.alloc (.cells #[.slice sa sl sc, .slice ea el ec] 31)).alloc (.cells #[.slice none 0 0, .slice none 0 0, .int .i64 0, .int .u64 0] 117)).alloc (.cells #[.slice sa sl sc, .slice ea el ec, .int .i64 goal, .int .u64 amt] 117))) := Lib.hid ((((Below.refl _ _).alloc (Nat.le_refl _) _).alloc (by simp) _).alloc (by simp; omega) _)
  generalize (((w.alloc (.cells #[.slice sa sl sc, .slice ea el ec] 31)).alloc (.cells #[.slice none 0 0, .slice none 0 0, .int .i64 0, .int .u64 0] 117)).alloc (.cells #[.slice sa sl sc, .slice ea el ec, .int .i64 goal, .int .u64 amt] 117)) = Y0 at EY0 RY0 SY0 BY0 ⊢
  have hgr : w.heap.size ≤ w.heap.size + 1 := by omega
  have hrs : w.heap.size + 1 ≠ w.heap.size + 1 + 1 := by omega
  obtain ⟨gs, hgs⟩ : ∃ g, w.heap.size + 1 + 1 = g := ⟨_, rfl⟩
  rw [hgs] at SY0 hrs ⊢
  obtain ⟨gr, hgr2⟩ : ∃ g, w.heap.size + 1 = g := ⟨_, rfl⟩
  rw [hgr2] at RY0 hgr hrs ⊢
  clear hgr2 hgs E0w
  refine (check_any sa sl sc ea el ec es Y0 EY0.out HEL.out (by omega) (by omega)).mono ?_
  rintro e Y1 ⟨rfl, hB⟩
  have BY1 : Hid (Below w.heap.size w Y1) := Lib.hid (BY0.out.trans (hB.mono BY0.out.size))
  have EY1 : Hid (EdgeRow Y1 ea es) := Lib.hid (EY0.out.below hB)
  have SY1 : Hid (Blk Y1 gs 117 [.slice sa sl sc, .slice ea el ec, .int .i64 goal, .int .u64 amt]) := Lib.hid (SY0.out.below hB SY0.out.lt)
  have RY1 : Hid (Blk Y1 gr 117 [.slice none 0 0, .slice none 0 0, .int .i64 0, .int .u64 0]) := Lib.hid (RY0.out.below hB RY0.out.lt)
  clear BY0 EY0 SY0 RY0
  clear hB
  rw [HC.out]
  have cS0 := Blk.cell SY1.out 0
  have cS1 := Blk.cell SY1.out 1
  have cS2 := Blk.cell SY1.out 2
  have cS3 := Blk.cell SY1.out 3
  simp only [List.getElem?_cons_zero, List.getElem?_cons_succ] at cS0 cS1 cS2 cS3
  go_wp2_with fail
  clear cS0 cS1 cS2 cS3
  refine (isNode_any sa sl sc ea el ec goal amt src Y1).mono ?_
  rintro e Y2 ⟨rfl, hB⟩
  have BY2 : Hid (Below w.heap.size w Y2) := Lib.hid (BY1.out.trans (hB.mono BY1.out.size))
  have EY2 : Hid (EdgeRow Y2 ea es) := Lib.hid (EY1.out.below hB)
  have SY2 : Hid (Blk Y2 gs 117 [.slice sa sl sc, .slice ea el ec, .int .i64 goal, .int .u64 amt]) := Lib.hid (SY1.out.below hB SY1.out.lt)
  have RY2 : Hid (Blk Y2 gr 117 [.slice none 0 0, .slice none 0 0, .int .i64 0, .int .u64 0]) := Lib.hid (RY1.out.below hB RY1.out.lt)
  clear BY1 EY1 SY1 RY1
  clear hB
  rw [H1.out]
  have cS0 := Blk.cell SY2.out 0
  have cS1 := Blk.cell SY2.out 1
  have cS2 := Blk.cell SY2.out 2
  have cS3 := Blk.cell SY2.out 3
  simp only [List.getElem?_cons_zero, List.getElem?_cons_succ] at cS0 cS1 cS2 cS3
  go_wp2_with fail
  clear cS0 cS1 cS2 cS3
  refine (isNode_any sa sl sc ea el ec goal amt goal Y2).mono ?_
  rintro e Y3 ⟨rfl, hB⟩
  have BY3 : Hid (Below w.heap.size w Y3) := Lib.hid (BY2.out.trans (hB.mono BY2.out.size))
  have EY3 : Hid (EdgeRow Y3 ea es) := Lib.hid (EY2.out.below hB)
  have SY3 : Hid (Blk Y3 gs 117 [.slice sa sl sc, .slice ea el ec, .int .i64 goal, .int .u64 amt]) := Lib.hid (SY2.out.below hB SY2.out.lt)
  have RY3 : Hid (Blk Y3 gr 117 [.slice none 0 0, .slice none 0 0, .int .i64 0, .int .u64 0]) := Lib.hid (RY2.out.below hB RY2.out.lt)
  clear BY2 EY2 SY2 RY2
  clear hB
  rw [H2.out]
  have r0 := RY3.out.cell 0
  have r1 := RY3.out.cell 1
  have r2 := RY3.out.cell 2
  have r3 := RY3.out.cell 3
  simp only [List.getElem?_cons_zero, List.getElem?_cons_succ] at r0 r1 r2 r3
  have f0 := RY3.out.frozen 0
  have f1 := RY3.out.frozen 1
  have f2 := RY3.out.frozen 2
  have f3 := RY3.out.frozen 3
  go_wp2
  exact bodyPost_ret (results117 Try.results59 _ _ gr 117 none none 0 0 0 0 0 0 _ rfl rfl (Blk.set_ (Blk.set_ (Blk.set_ (Blk.set_ RY3.out 0 (.slice none 0 0)) 1 (.slice none 0 0)) 2 (.int .i64 0)) 3 (.int .u64 0))) rfl ⟨((((BY3.out.setCell (p := ⟨gr, 0, none⟩) hgr (.slice none 0 0)).setCell (p := ⟨gr, 1, none⟩) hgr (.slice none 0 0)).setCell (p := ⟨gr, 2, none⟩) hgr (.int .i64 0)).setCell (p := ⟨gr, 3, none⟩) hgr (.int .u64 0)), .inr ⟨by rw [HX.out]; exact HN0.out, by rw [HX.out]; rfl⟩⟩

set_option maxRecDepth 100000 in
set_option maxHeartbeats 4000000 in
theorem seek_zero (sa : Option Addr) (sl sc : Nat) (ea : Option Addr) (el ec : Nat) (es : List Ed) (src goal amt : Int) (w : World) (hE : EdgeRow w ea es) (hel : es.length = el) (hel2 : el ≤ 100) (hsl2 : sl ≤ 1000) (hc : checkE sl es = 0) (h1 : hasB src sl = true) (h2 : hasB goal sl = true) (h3 : ¬ src = goal) (h4 : amt = 0) :
    Calls Try.prog 59 #[.agg #[.slice sa sl sc, .slice ea el ec], .int .i64 src, .int .i64 goal, .int .u64 amt] w (SeekPost w sa sl sc ea el ec es src goal amt) := by
  have HX : Hid (seekE sl es src goal amt = 1) := Lib.hid (by unfold seekE; rw [if_neg (by rw [hc]; simp)]; simp [h4])
  have HN0 : Hid ((1 : Int) ≠ 0) := Lib.hid (by decide)
  have b3 : (src == goal) = false := by simpa using h3
  have b4 : (amt == 0) = true := by simpa using h4
  have H1 := Lib.hid h1
  have H2 := Lib.hid h2
  clear h1 h2 h3 h4
  have HC := Lib.hid hc
  clear hc
  have HEL := Lib.hid hel
  have E0w := Lib.hid hE
  clear hel hE
  go_enter Try.func59, Try.ntmps59
  go_wp2_with fail
  have EY0 : Hid (EdgeRow (((w.alloc (.cells #[.slice sa sl sc, .slice ea el ec] 31)).alloc (.cells #[.slice none 0 0, .slice none 0 0, .int .i64 0, .int .u64 0] 117)).alloc (.cells #[.slice sa sl sc, .slice ea el ec, .int .i64 goal, .int .u64 amt] 117)) ea es) := Lib.hid (E0w.out.below ((((Below.refl _ _).alloc (Nat.le_refl _) _).alloc (by simp) _).alloc (by simp; omega) _))
  have RY0 : Hid (Blk (((w.alloc (.cells #[.slice sa sl sc, .slice ea el ec] 31)).alloc (.cells #[.slice none 0 0, .slice none 0 0, .int .i64 0, .int .u64 0] 117)).alloc (.cells #[.slice sa sl sc, .slice ea el ec, .int .i64 goal, .int .u64 amt] 117)) (w.heap.size + 1) 117 [.slice none 0 0, .slice none 0 0, .int .i64 0, .int .u64 0]) := Lib.hid ((Blk.mk_ (cs := [.slice none 0 0, .slice none 0 0, .int .i64 0, .int .u64 0]) (by simp)).alloc _)
  have SY0 : Hid (Blk (((w.alloc (.cells #[.slice sa sl sc, .slice ea el ec] 31)).alloc (.cells #[.slice none 0 0, .slice none 0 0, .int .i64 0, .int .u64 0] 117)).alloc (.cells #[.slice sa sl sc, .slice ea el ec, .int .i64 goal, .int .u64 amt] 117)) (w.heap.size + 1 + 1) 117 [.slice sa sl sc, .slice ea el ec, .int .i64 goal, .int .u64 amt]) := Lib.hid (Blk.mk_ (cs := [.slice sa sl sc, .slice ea el ec, .int .i64 goal, .int .u64 amt]) (by simp))
  have BY0 : Hid (Below w.heap.size w (((w.alloc (.cells #[.slice sa sl sc, .slice ea el ec] 31)).alloc (.cells #[.slice none 0 0, .slice none 0 0, .int .i64 0, .int .u64 0] 117)).alloc (.cells #[.slice sa sl sc, .slice ea el ec, .int .i64 goal, .int .u64 amt] 117))) := Lib.hid ((((Below.refl _ _).alloc (Nat.le_refl _) _).alloc (by simp) _).alloc (by simp; omega) _)
  generalize (((w.alloc (.cells #[.slice sa sl sc, .slice ea el ec] 31)).alloc (.cells #[.slice none 0 0, .slice none 0 0, .int .i64 0, .int .u64 0] 117)).alloc (.cells #[.slice sa sl sc, .slice ea el ec, .int .i64 goal, .int .u64 amt] 117)) = Y0 at EY0 RY0 SY0 BY0 ⊢
  have hgr : w.heap.size ≤ w.heap.size + 1 := by omega
  have hrs : w.heap.size + 1 ≠ w.heap.size + 1 + 1 := by omega
  obtain ⟨gs, hgs⟩ : ∃ g, w.heap.size + 1 + 1 = g := ⟨_, rfl⟩
  rw [hgs] at SY0 hrs ⊢
  obtain ⟨gr, hgr2⟩ : ∃ g, w.heap.size + 1 = g := ⟨_, rfl⟩
  rw [hgr2] at RY0 hgr hrs ⊢
  clear hgr2 hgs E0w
  refine (check_any sa sl sc ea el ec es Y0 EY0.out HEL.out (by omega) (by omega)).mono ?_
  rintro e Y1 ⟨rfl, hB⟩
  have BY1 : Hid (Below w.heap.size w Y1) := Lib.hid (BY0.out.trans (hB.mono BY0.out.size))
  have EY1 : Hid (EdgeRow Y1 ea es) := Lib.hid (EY0.out.below hB)
  have SY1 : Hid (Blk Y1 gs 117 [.slice sa sl sc, .slice ea el ec, .int .i64 goal, .int .u64 amt]) := Lib.hid (SY0.out.below hB SY0.out.lt)
  have RY1 : Hid (Blk Y1 gr 117 [.slice none 0 0, .slice none 0 0, .int .i64 0, .int .u64 0]) := Lib.hid (RY0.out.below hB RY0.out.lt)
  clear BY0 EY0 SY0 RY0
  clear hB
  rw [HC.out]
  have cS0 := Blk.cell SY1.out 0
  have cS1 := Blk.cell SY1.out 1
  have cS2 := Blk.cell SY1.out 2
  have cS3 := Blk.cell SY1.out 3
  simp only [List.getElem?_cons_zero, List.getElem?_cons_succ] at cS0 cS1 cS2 cS3
  go_wp2_with fail
  clear cS0 cS1 cS2 cS3
  refine (isNode_any sa sl sc ea el ec goal amt src Y1).mono ?_
  rintro e Y2 ⟨rfl, hB⟩
  have BY2 : Hid (Below w.heap.size w Y2) := Lib.hid (BY1.out.trans (hB.mono BY1.out.size))
  have EY2 : Hid (EdgeRow Y2 ea es) := Lib.hid (EY1.out.below hB)
  have SY2 : Hid (Blk Y2 gs 117 [.slice sa sl sc, .slice ea el ec, .int .i64 goal, .int .u64 amt]) := Lib.hid (SY1.out.below hB SY1.out.lt)
  have RY2 : Hid (Blk Y2 gr 117 [.slice none 0 0, .slice none 0 0, .int .i64 0, .int .u64 0]) := Lib.hid (RY1.out.below hB RY1.out.lt)
  clear BY1 EY1 SY1 RY1
  clear hB
  rw [H1.out]
  have cS0 := Blk.cell SY2.out 0
  have cS1 := Blk.cell SY2.out 1
  have cS2 := Blk.cell SY2.out 2
  have cS3 := Blk.cell SY2.out 3
  simp only [List.getElem?_cons_zero, List.getElem?_cons_succ] at cS0 cS1 cS2 cS3
  go_wp2_with fail
  clear cS0 cS1 cS2 cS3
  refine (isNode_any sa sl sc ea el ec goal amt goal Y2).mono ?_
  rintro e Y3 ⟨rfl, hB⟩
  have BY3 : Hid (Below w.heap.size w Y3) := Lib.hid (BY2.out.trans (hB.mono BY2.out.size))
  have EY3 : Hid (EdgeRow Y3 ea es) := Lib.hid (EY2.out.below hB)
  have SY3 : Hid (Blk Y3 gs 117 [.slice sa sl sc, .slice ea el ec, .int .i64 goal, .int .u64 amt]) := Lib.hid (SY2.out.below hB SY2.out.lt)
  have RY3 : Hid (Blk Y3 gr 117 [.slice none 0 0, .slice none 0 0, .int .i64 0, .int .u64 0]) := Lib.hid (RY2.out.below hB RY2.out.lt)
  clear BY2 EY2 SY2 RY2
  clear hB
  rw [H2.out]
  have r0 := RY3.out.cell 0
  have r1 := RY3.out.cell 1
  have r2 := RY3.out.cell 2
  have r3 := RY3.out.cell 3
  simp only [List.getElem?_cons_zero, List.getElem?_cons_succ] at r0 r1 r2 r3
  have f0 := RY3.out.frozen 0
  have f1 := RY3.out.frozen 1
  have f2 := RY3.out.frozen 2
  have f3 := RY3.out.frozen 3
  go_wp2
  exact bodyPost_ret (results117 Try.results59 _ _ gr 117 none none 0 0 0 0 0 0 _ rfl rfl (Blk.set_ (Blk.set_ (Blk.set_ (Blk.set_ RY3.out 0 (.slice none 0 0)) 1 (.slice none 0 0)) 2 (.int .i64 0)) 3 (.int .u64 0))) rfl ⟨((((BY3.out.setCell (p := ⟨gr, 0, none⟩) hgr (.slice none 0 0)).setCell (p := ⟨gr, 1, none⟩) hgr (.slice none 0 0)).setCell (p := ⟨gr, 2, none⟩) hgr (.int .i64 0)).setCell (p := ⟨gr, 3, none⟩) hgr (.int .u64 0)), .inr ⟨by rw [HX.out]; exact HN0.out, by rw [HX.out]; rfl⟩⟩

set_option maxRecDepth 100000 in
set_option maxHeartbeats 4000000 in
theorem seek_good (sa : Option Addr) (sl sc : Nat) (ea : Option Addr) (el ec : Nat) (es : List Ed) (src goal amt : Int) (w : World) (hE : EdgeRow w ea es) (hel : es.length = el) (hel2 : el ≤ 100) (hsl2 : sl ≤ 1000) (hc : checkE sl es = 0) (h1 : hasB src sl = true) (h2 : hasB goal sl = true) (h3 : ¬ src = goal) (h4 : ¬ amt = 0) :
    Calls Try.prog 59 #[.agg #[.slice sa sl sc, .slice ea el ec], .int .i64 src, .int .i64 goal, .int .u64 amt] w (SeekPost w sa sl sc ea el ec es src goal amt) := by
  have HX : Hid (seekE sl es src goal amt = 0) := Lib.hid (by unfold seekE; rw [if_neg (by rw [hc]; simp)]; simp [h1, h2, h3, h4])
  have b3 : (src == goal) = false := by simpa using h3
  have b4 : (amt == 0) = false := by simpa using h4
  have H1 := Lib.hid h1
  have H2 := Lib.hid h2
  clear h1 h2 h3 h4
  have HC := Lib.hid hc
  clear hc
  have HEL := Lib.hid hel
  have E0w := Lib.hid hE
  clear hel hE
  go_enter Try.func59, Try.ntmps59
  go_wp2_with fail
  have EY0 : Hid (EdgeRow (((w.alloc (.cells #[.slice sa sl sc, .slice ea el ec] 31)).alloc (.cells #[.slice none 0 0, .slice none 0 0, .int .i64 0, .int .u64 0] 117)).alloc (.cells #[.slice sa sl sc, .slice ea el ec, .int .i64 goal, .int .u64 amt] 117)) ea es) := Lib.hid (E0w.out.below ((((Below.refl _ _).alloc (Nat.le_refl _) _).alloc (by simp) _).alloc (by simp; omega) _))
  have RY0 : Hid (Blk (((w.alloc (.cells #[.slice sa sl sc, .slice ea el ec] 31)).alloc (.cells #[.slice none 0 0, .slice none 0 0, .int .i64 0, .int .u64 0] 117)).alloc (.cells #[.slice sa sl sc, .slice ea el ec, .int .i64 goal, .int .u64 amt] 117)) (w.heap.size + 1) 117 [.slice none 0 0, .slice none 0 0, .int .i64 0, .int .u64 0]) := Lib.hid ((Blk.mk_ (cs := [.slice none 0 0, .slice none 0 0, .int .i64 0, .int .u64 0]) (by simp)).alloc _)
  have SY0 : Hid (Blk (((w.alloc (.cells #[.slice sa sl sc, .slice ea el ec] 31)).alloc (.cells #[.slice none 0 0, .slice none 0 0, .int .i64 0, .int .u64 0] 117)).alloc (.cells #[.slice sa sl sc, .slice ea el ec, .int .i64 goal, .int .u64 amt] 117)) (w.heap.size + 1 + 1) 117 [.slice sa sl sc, .slice ea el ec, .int .i64 goal, .int .u64 amt]) := Lib.hid (Blk.mk_ (cs := [.slice sa sl sc, .slice ea el ec, .int .i64 goal, .int .u64 amt]) (by simp))
  have BY0 : Hid (Below w.heap.size w (((w.alloc (.cells #[.slice sa sl sc, .slice ea el ec] 31)).alloc (.cells #[.slice none 0 0, .slice none 0 0, .int .i64 0, .int .u64 0] 117)).alloc (.cells #[.slice sa sl sc, .slice ea el ec, .int .i64 goal, .int .u64 amt] 117))) := Lib.hid ((((Below.refl _ _).alloc (Nat.le_refl _) _).alloc (by simp) _).alloc (by simp; omega) _)
  generalize (((w.alloc (.cells #[.slice sa sl sc, .slice ea el ec] 31)).alloc (.cells #[.slice none 0 0, .slice none 0 0, .int .i64 0, .int .u64 0] 117)).alloc (.cells #[.slice sa sl sc, .slice ea el ec, .int .i64 goal, .int .u64 amt] 117)) = Y0 at EY0 RY0 SY0 BY0 ⊢
  have hgr : w.heap.size ≤ w.heap.size + 1 := by omega
  have hrs : w.heap.size + 1 ≠ w.heap.size + 1 + 1 := by omega
  obtain ⟨gs, hgs⟩ : ∃ g, w.heap.size + 1 + 1 = g := ⟨_, rfl⟩
  rw [hgs] at SY0 hrs ⊢
  obtain ⟨gr, hgr2⟩ : ∃ g, w.heap.size + 1 = g := ⟨_, rfl⟩
  rw [hgr2] at RY0 hgr hrs ⊢
  clear hgr2 hgs E0w
  refine (check_any sa sl sc ea el ec es Y0 EY0.out HEL.out (by omega) (by omega)).mono ?_
  rintro e Y1 ⟨rfl, hB⟩
  have BY1 : Hid (Below w.heap.size w Y1) := Lib.hid (BY0.out.trans (hB.mono BY0.out.size))
  have EY1 : Hid (EdgeRow Y1 ea es) := Lib.hid (EY0.out.below hB)
  have SY1 : Hid (Blk Y1 gs 117 [.slice sa sl sc, .slice ea el ec, .int .i64 goal, .int .u64 amt]) := Lib.hid (SY0.out.below hB SY0.out.lt)
  have RY1 : Hid (Blk Y1 gr 117 [.slice none 0 0, .slice none 0 0, .int .i64 0, .int .u64 0]) := Lib.hid (RY0.out.below hB RY0.out.lt)
  clear BY0 EY0 SY0 RY0
  clear hB
  rw [HC.out]
  have cS0 := Blk.cell SY1.out 0
  have cS1 := Blk.cell SY1.out 1
  have cS2 := Blk.cell SY1.out 2
  have cS3 := Blk.cell SY1.out 3
  simp only [List.getElem?_cons_zero, List.getElem?_cons_succ] at cS0 cS1 cS2 cS3
  go_wp2_with fail
  clear cS0 cS1 cS2 cS3
  refine (isNode_any sa sl sc ea el ec goal amt src Y1).mono ?_
  rintro e Y2 ⟨rfl, hB⟩
  have BY2 : Hid (Below w.heap.size w Y2) := Lib.hid (BY1.out.trans (hB.mono BY1.out.size))
  have EY2 : Hid (EdgeRow Y2 ea es) := Lib.hid (EY1.out.below hB)
  have SY2 : Hid (Blk Y2 gs 117 [.slice sa sl sc, .slice ea el ec, .int .i64 goal, .int .u64 amt]) := Lib.hid (SY1.out.below hB SY1.out.lt)
  have RY2 : Hid (Blk Y2 gr 117 [.slice none 0 0, .slice none 0 0, .int .i64 0, .int .u64 0]) := Lib.hid (RY1.out.below hB RY1.out.lt)
  clear BY1 EY1 SY1 RY1
  clear hB
  rw [H1.out]
  have cS0 := Blk.cell SY2.out 0
  have cS1 := Blk.cell SY2.out 1
  have cS2 := Blk.cell SY2.out 2
  have cS3 := Blk.cell SY2.out 3
  simp only [List.getElem?_cons_zero, List.getElem?_cons_succ] at cS0 cS1 cS2 cS3
  go_wp2_with fail
  clear cS0 cS1 cS2 cS3
  refine (isNode_any sa sl sc ea el ec goal amt goal Y2).mono ?_
  rintro e Y3 ⟨rfl, hB⟩
  have BY3 : Hid (Below w.heap.size w Y3) := Lib.hid (BY2.out.trans (hB.mono BY2.out.size))
  have EY3 : Hid (EdgeRow Y3 ea es) := Lib.hid (EY2.out.below hB)
  have SY3 : Hid (Blk Y3 gs 117 [.slice sa sl sc, .slice ea el ec, .int .i64 goal, .int .u64 amt]) := Lib.hid (SY2.out.below hB SY2.out.lt)
  have RY3 : Hid (Blk Y3 gr 117 [.slice none 0 0, .slice none 0 0, .int .i64 0, .int .u64 0]) := Lib.hid (RY2.out.below hB RY2.out.lt)
  clear BY2 EY2 SY2 RY2
  clear hB
  rw [H2.out]
  have cS0 := Blk.cell SY3.out 0
  have cS1 := Blk.cell SY3.out 1
  have cS2 := Blk.cell SY3.out 2
  have cS3 := Blk.cell SY3.out 3
  simp only [List.getElem?_cons_zero, List.getElem?_cons_succ] at cS0 cS1 cS2 cS3
  have r0 := RY3.out.cell 0
  have r1 := RY3.out.cell 1
  have r2 := RY3.out.cell 2
  have r3 := RY3.out.cell 3
  simp only [List.getElem?_cons_zero, List.getElem?_cons_succ] at r0 r1 r2 r3
  have f0 := RY3.out.frozen 0
  have f1 := RY3.out.frozen 1
  have f2 := RY3.out.frozen 2
  have f3 := RY3.out.frozen 3
  go_wp2
  exact bodyPost_ret (results117 Try.results59 _ _ gr 117 sa ea sl el sc ec goal amt _ rfl rfl (Blk.set_ (Blk.set_ (Blk.set_ (Blk.set_ RY3.out 0 (.slice sa sl sc)) 1 (.slice ea el ec)) 2 (.int .i64 goal)) 3 (.int .u64 amt))) rfl ⟨((((BY3.out.setCell (p := ⟨gr, 0, none⟩) hgr (.slice sa sl sc)).setCell (p := ⟨gr, 1, none⟩) hgr (.slice ea el ec)).setCell (p := ⟨gr, 2, none⟩) hgr (.int .i64 goal)).setCell (p := ⟨gr, 3, none⟩) hgr (.int .u64 amt)), .inl ⟨HX.out, rfl⟩⟩

theorem seek_any (sa : Option Addr) (sl sc : Nat) (ea : Option Addr) (el ec : Nat) (es : List Ed) (src goal amt : Int) (w : World) (hE : EdgeRow w ea es) (hel : es.length = el) (hel2 : el ≤ 100) (hsl2 : sl ≤ 1000) :
    Calls Try.prog 59 #[.agg #[.slice sa sl sc, .slice ea el ec], .int .i64 src, .int .i64 goal, .int .u64 amt] w (SeekPost w sa sl sc ea el ec es src goal amt) := by
  by_cases hc : checkE sl es = 0
  · cases h1 : hasB src sl with
    | false => exact seek_src sa sl sc ea el ec es src goal amt w hE hel hel2 hsl2 hc h1
    | true =>
      cases h2 : hasB goal sl with
      | false => exact seek_goal sa sl sc ea el ec es src goal amt w hE hel hel2 hsl2 hc h1 h2
      | true =>
        by_cases h3 : src = goal
        · exact seek_same sa sl sc ea el ec es src goal amt w hE hel hel2 hsl2 hc h1 h2 h3
        · by_cases h4 : amt = 0
          · exact seek_zero sa sl sc ea el ec es src goal amt w hE hel hel2 hsl2 hc h1 h2 h3 h4
          · exact seek_good sa sl sc ea el ec es src goal amt w hE hel hel2 hsl2 hc h1 h2 h3 h4
  · exact seek_check sa sl sc ea el ec es src goal amt w hE hel hel2 hsl2 hc
end Go.Proofs.Ytnnimjaigciedaa
