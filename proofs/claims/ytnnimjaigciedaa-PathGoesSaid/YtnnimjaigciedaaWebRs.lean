/-
  The document's Sent.
-/
import Derived.Test.YtnnimjaigciedaaM08
import Derived.Test.YtnnimjaigciedaaM02
namespace Go.Proofs.Ytnnimjaigciedaa
open Go.RowKit
set_option linter.unusedVariables false

theorem resultsR {fn : Func} {p u : Tmp} (h : fn.results = #[.cell p 25, .tmp u]) (tmps : Array Value) (w : World) (g t : Nat) (a b : Option Addr) (l m c d : Nat) (v : Value) (hp : tmps.getD p undef = .pointer (some ⟨g, 0, none⟩)) (hu : tmps.getD u undef = v) (hP : Blk w g t [.slice a l c, .slice b m d]) :
    (results fn tmps).run Try.prog w = .ok (.tuple #[.agg #[.slice a l c, .slice b m d], v]) w := by
  rw [results_cell_tmp h, hp, hu]
  simp [asAddr, Result.andThen, load54 w g t a b l m c d hP]

/-- What the document's Sent leaves: the same spots, channels of its own; or nothing. -/
def RSent (w : World) (sa : Option Addr) (sl sc el : Nat) (es : List Ed) (edge node amt : Int) (r : Ending) (w' : World) : Prop :=
  Below w.heap.size w w' ∧ ((sentErr sl es edge node amt = 0 ∧ ∃ ea ec, r = .returned (.tuple #[.agg #[.slice sa sl sc, .slice ea el ec], .int .i64 0]) ∧ EdgeRow w' ea (sentL es edge node amt) ∧ (ea = none → False)) ∨
    (sentErr sl es edge node amt ≠ 0 ∧ r = .returned (.tuple #[.agg #[.slice none 0 0, .slice none 0 0], .int .i64 (sentErr sl es edge node amt)])))
theorem RSent.bad {w w' : World} {sa : Option Addr} {sl sc el : Nat} {es : List Ed} {edge node amt e : Int} (he : sentErr sl es edge node amt = e) (hn : e ≠ 0) (hB : Below w.heap.size w w') :
    RSent w sa sl sc el es edge node amt (.returned (.tuple #[.agg #[.slice none 0 0, .slice none 0 0], .int .i64 e])) w' :=
  ⟨hB, .inr ⟨by rw [he]; exact hn, by rw [he]⟩⟩

theorem radd_any (a b : Int) (w : World) (ha : Word a) (hb : Word b) :
    Calls Try.prog 56 #[.int .u64 a, .int .u64 b] w fun e w' => e = .returned (.tuple #[.int .u64 (addV a b), .int .i64 (addE a b)]) ∧ w = w' := by
  obtain ⟨a0, a1⟩ := ha
  obtain ⟨b0, b1⟩ := hb
  by_cases h : a + b < 18446744073709551616
  · rw [addV, addE, if_pos h, if_pos h]
    have e1 : IntKind.u64.wrap (18446744073709551615 - a) = 18446744073709551615 - a := by simp [IntKind.wrap, IntKind.signed, IntKind.bits]; omega
    have e2 : IntKind.u64.wrap (a + b) = a + b := by simp [IntKind.wrap, IntKind.signed, IntKind.bits]; omega
    have d1 : decide (18446744073709551615 - a < b) = false := decide_eq_false (by omega)
    clear h a0 a1 b0 b1
    go_enter Try.func56, Try.ntmps56
    go_wp2
    go_ret2
    exact ⟨rfl, rfl⟩
  · rw [addV, addE, if_neg h, if_neg h]
    have e1 : IntKind.u64.wrap (18446744073709551615 - a) = 18446744073709551615 - a := by simp [IntKind.wrap, IntKind.signed, IntKind.bits]; omega
    have d1 : decide (18446744073709551615 - a < b) = true := decide_eq_true (by omega)
    clear h a0 a1 b0 b1
    go_enter Try.func56, Try.ntmps56
    go_wp2
    go_ret2
    exact ⟨rfl, rfl⟩

set_option maxRecDepth 100000 in
set_option maxHeartbeats 8000000 in
theorem rsent_check (sa : Option Addr) (sl sc : Nat) (ea : Option Addr) (el ec : Nat) (es : List Ed) (edge node amt : Int) (w : World) (hE : EdgeRow w ea es) (hel : es.length = el) (hel2 : el ≤ 100) (hsl2 : sl ≤ 1000) (hok : ∀ e ∈ es, EdOk e) (hamt : Word amt) (hc : checkE sl es ≠ 0) :
    Calls Try.prog 28 #[.agg #[.slice sa sl sc, .slice ea el ec], .int .i64 edge, .int .i64 node, .int .u64 amt] w (RSent w sa sl sc el es edge node amt) := by
  have HX : Hid (sentErr sl es edge node amt = checkE sl es) := Lib.hid (by unfold sentErr; rw [if_pos hc])
  have HN0 := Lib.hid hc
  have b0 : (checkE sl es != 0) = true := by simpa using hc
  clear hc hok hamt
  have HEL := Lib.hid hel
  have E0w := Lib.hid hE
  have HE0 := E0w
  clear hel hE
  go_enter Try.func28, Try.ntmps28
  go_wp2_with fail
  have EY0 : Hid (EdgeRow ((w.alloc (.cells #[.slice sa sl sc, .slice ea el ec] 25)).alloc (.cells #[.slice none 0 0, .slice none 0 0] 25)) ea es) := Lib.hid (E0w.out.below (((Below.refl _ _).alloc (Nat.le_refl _) _).alloc (by simp) _))
  have PY0 : Hid (Blk ((w.alloc (.cells #[.slice sa sl sc, .slice ea el ec] 25)).alloc (.cells #[.slice none 0 0, .slice none 0 0] 25)) w.heap.size 25 [.slice sa sl sc, .slice ea el ec]) := Lib.hid ((Blk.mk_ (cs := [.slice sa sl sc, .slice ea el ec]) rfl).alloc _)
  have RY0 : Hid (Blk ((w.alloc (.cells #[.slice sa sl sc, .slice ea el ec] 25)).alloc (.cells #[.slice none 0 0, .slice none 0 0] 25)) (w.heap.size + 1) 25 [.slice none 0 0, .slice none 0 0]) := Lib.hid (Blk.mk_ (cs := [.slice none 0 0, .slice none 0 0]) (by simp))
  have BY0 : Hid (Below w.heap.size w ((w.alloc (.cells #[.slice sa sl sc, .slice ea el ec] 25)).alloc (.cells #[.slice none 0 0, .slice none 0 0] 25))) := Lib.hid (((Below.refl _ _).alloc (Nat.le_refl _) _).alloc (by simp) _)
  generalize ((w.alloc (.cells #[.slice sa sl sc, .slice ea el ec] 25)).alloc (.cells #[.slice none 0 0, .slice none 0 0] 25)) = Y0 at EY0 PY0 RY0 BY0 ⊢
  have hgr : w.heap.size ≤ w.heap.size + 1 := by omega
  have hpr : w.heap.size ≠ w.heap.size + 1 := by omega
  obtain ⟨gp, hgp⟩ : ∃ g, w.heap.size = g := ⟨_, rfl⟩
  obtain ⟨gr, hgr2⟩ : ∃ g, w.heap.size + 1 = g := ⟨_, rfl⟩
  rw [hgr2] at RY0 hgr hpr ⊢
  rw [hgp] at PY0 hpr
  have HGP := Lib.hid hgp
  clear hgr2
  clear E0w
  refine (rcheck_any sa sl sc ea el ec es Y0 EY0.out HEL.out (by omega) (by omega)).mono ?_
  rintro e Y1 ⟨rfl, hB⟩
  have BY1 : Hid (Below w.heap.size w Y1) := Lib.hid (BY0.out.trans (hB.mono BY0.out.size))
  have EY1 : Hid (EdgeRow Y1 ea es) := Lib.hid (EY0.out.below hB)
  have PY1 : Hid (Blk Y1 gp 25 [.slice sa sl sc, .slice ea el ec]) := Lib.hid (PY0.out.below hB PY0.out.lt)
  have RY1 : Hid (Blk Y1 gr 25 [.slice none 0 0, .slice none 0 0]) := Lib.hid (RY0.out.below hB RY0.out.lt)
  clear BY0 EY0 PY0 RY0
  clear hB
  have r0 := RY1.out.cell 0
  have r1 := RY1.out.cell 1
  simp only [List.getElem?_cons_zero, List.getElem?_cons_succ] at r0 r1
  have r2 := RY1.out.frozen 0
  have r3 := RY1.out.frozen 1
  go_wp2
  exact bodyPost_ret (resultsR Try.results28 _ _ gr 25 none none 0 0 0 0 _ rfl rfl (Blk.set_ (Blk.set_ RY1.out 0 (.slice none 0 0)) 1 (.slice none 0 0))) rfl (RSent.bad HX.out HN0.out ((BY1.out.setCell (p := ⟨gr, 0, none⟩) hgr (.slice none 0 0)).setCell (p := ⟨gr, 1, none⟩) hgr (.slice none 0 0)))

set_option maxRecDepth 100000 in
set_option maxHeartbeats 8000000 in
theorem rsent_neg (sa : Option Addr) (sl sc : Nat) (ea : Option Addr) (el ec : Nat) (es : List Ed) (edge node amt : Int) (w : World) (hE : EdgeRow w ea es) (hel : es.length = el) (hel2 : el ≤ 100) (hsl2 : sl ≤ 1000) (hok : ∀ e ∈ es, EdOk e) (hamt : Word amt) (hc : checkE sl es = 0) (he : edge < 0) :
    Calls Try.prog 28 #[.agg #[.slice sa sl sc, .slice ea el ec], .int .i64 edge, .int .i64 node, .int .u64 amt] w (RSent w sa sl sc el es edge node amt) := by
  have HX : Hid (sentErr sl es edge node amt = 1) := Lib.hid (by unfold sentErr; rw [if_neg (by rw [hc]; simp), if_pos (by rw [hel]; omega)])
  have HN0 : Hid ((1 : Int) ≠ 0) := Lib.hid (by decide)
  have HC := Lib.hid hc
  have d1 : decide (edge < 0) = true := decide_eq_true he
  clear hc hok hamt he
  have HEL := Lib.hid hel
  have E0w := Lib.hid hE
  have HE0 := E0w
  clear hel hE
  go_enter Try.func28, Try.ntmps28
  go_wp2_with fail
  have EY0 : Hid (EdgeRow ((w.alloc (.cells #[.slice sa sl sc, .slice ea el ec] 25)).alloc (.cells #[.slice none 0 0, .slice none 0 0] 25)) ea es) := Lib.hid (E0w.out.below (((Below.refl _ _).alloc (Nat.le_refl _) _).alloc (by simp) _))
  have PY0 : Hid (Blk ((w.alloc (.cells #[.slice sa sl sc, .slice ea el ec] 25)).alloc (.cells #[.slice none 0 0, .slice none 0 0] 25)) w.heap.size 25 [.slice sa sl sc, .slice ea el ec]) := Lib.hid ((Blk.mk_ (cs := [.slice sa sl sc, .slice ea el ec]) rfl).alloc _)
  have RY0 : Hid (Blk ((w.alloc (.cells #[.slice sa sl sc, .slice ea el ec] 25)).alloc (.cells #[.slice none 0 0, .slice none 0 0] 25)) (w.heap.size + 1) 25 [.slice none 0 0, .slice none 0 0]) := Lib.hid (Blk.mk_ (cs := [.slice none 0 0, .slice none 0 0]) (by simp))
  have BY0 : Hid (Below w.heap.size w ((w.alloc (.cells #[.slice sa sl sc, .slice ea el ec] 25)).alloc (.cells #[.slice none 0 0, .slice none 0 0] 25))) := Lib.hid (((Below.refl _ _).alloc (Nat.le_refl _) _).alloc (by simp) _)
  generalize ((w.alloc (.cells #[.slice sa sl sc, .slice ea el ec] 25)).alloc (.cells #[.slice none 0 0, .slice none 0 0] 25)) = Y0 at EY0 PY0 RY0 BY0 ⊢
  have hgr : w.heap.size ≤ w.heap.size + 1 := by omega
  have hpr : w.heap.size ≠ w.heap.size + 1 := by omega
  obtain ⟨gp, hgp⟩ : ∃ g, w.heap.size = g := ⟨_, rfl⟩
  obtain ⟨gr, hgr2⟩ : ∃ g, w.heap.size + 1 = g := ⟨_, rfl⟩
  rw [hgr2] at RY0 hgr hpr ⊢
  rw [hgp] at PY0 hpr
  have HGP := Lib.hid hgp
  clear hgr2
  clear E0w
  refine (rcheck_any sa sl sc ea el ec es Y0 EY0.out HEL.out (by omega) (by omega)).mono ?_
  rintro e Y1 ⟨rfl, hB⟩
  have BY1 : Hid (Below w.heap.size w Y1) := Lib.hid (BY0.out.trans (hB.mono BY0.out.size))
  have EY1 : Hid (EdgeRow Y1 ea es) := Lib.hid (EY0.out.below hB)
  have PY1 : Hid (Blk Y1 gp 25 [.slice sa sl sc, .slice ea el ec]) := Lib.hid (PY0.out.below hB PY0.out.lt)
  have RY1 : Hid (Blk Y1 gr 25 [.slice none 0 0, .slice none 0 0]) := Lib.hid (RY0.out.below hB RY0.out.lt)
  clear BY0 EY0 PY0 RY0
  clear hB
  rw [HC.out]
  have cP0 := Blk.cell PY1.out 0
  have cP1 := Blk.cell PY1.out 1
  simp only [List.getElem?_cons_zero, List.getElem?_cons_succ] at cP0 cP1
  have r0 := RY1.out.cell 0
  have r1 := RY1.out.cell 1
  simp only [List.getElem?_cons_zero, List.getElem?_cons_succ] at r0 r1
  have r2 := RY1.out.frozen 0
  have r3 := RY1.out.frozen 1
  go_wp2
  exact bodyPost_ret (resultsR Try.results28 _ _ gr 25 none none 0 0 0 0 _ rfl rfl (Blk.set_ (Blk.set_ RY1.out 0 (.slice none 0 0)) 1 (.slice none 0 0))) rfl (RSent.bad HX.out HN0.out ((BY1.out.setCell (p := ⟨gr, 0, none⟩) hgr (.slice none 0 0)).setCell (p := ⟨gr, 1, none⟩) hgr (.slice none 0 0)))

set_option maxRecDepth 100000 in
set_option maxHeartbeats 8000000 in
theorem rsent_big (sa : Option Addr) (sl sc : Nat) (ea : Option Addr) (el ec : Nat) (es : List Ed) (edge node amt : Int) (w : World) (hE : EdgeRow w ea es) (hel : es.length = el) (hel2 : el ≤ 100) (hsl2 : sl ≤ 1000) (hok : ∀ e ∈ es, EdOk e) (hamt : Word amt) (hc : checkE sl es = 0) (he : (el : Int) ≤ edge) :
    Calls Try.prog 28 #[.agg #[.slice sa sl sc, .slice ea el ec], .int .i64 edge, .int .i64 node, .int .u64 amt] w (RSent w sa sl sc el es edge node amt) := by
  have HX : Hid (sentErr sl es edge node amt = 1) := Lib.hid (by unfold sentErr; rw [if_neg (by rw [hc]; simp), if_pos (by rw [hel]; omega)])
  have HN0 : Hid ((1 : Int) ≠ 0) := Lib.hid (by decide)
  have HC := Lib.hid hc
  have d1 : decide (edge < 0) = false := decide_eq_false (by omega)
  have d2 : decide ((el : Int) ≤ edge) = true := decide_eq_true he
  clear hc hok hamt he
  have HEL := Lib.hid hel
  have E0w := Lib.hid hE
  have HE0 := E0w
  clear hel hE
  go_enter Try.func28, Try.ntmps28
  go_wp2_with fail
  have EY0 : Hid (EdgeRow ((w.alloc (.cells #[.slice sa sl sc, .slice ea el ec] 25)).alloc (.cells #[.slice none 0 0, .slice none 0 0] 25)) ea es) := Lib.hid (E0w.out.below (((Below.refl _ _).alloc (Nat.le_refl _) _).alloc (by simp) _))
  have PY0 : Hid (Blk ((w.alloc (.cells #[.slice sa sl sc, .slice ea el ec] 25)).alloc (.cells #[.slice none 0 0, .slice none 0 0] 25)) w.heap.size 25 [.slice sa sl sc, .slice ea el ec]) := Lib.hid ((Blk.mk_ (cs := [.slice sa sl sc, .slice ea el ec]) rfl).alloc _)
  have RY0 : Hid (Blk ((w.alloc (.cells #[.slice sa sl sc, .slice ea el ec] 25)).alloc (.cells #[.slice none 0 0, .slice none 0 0] 25)) (w.heap.size + 1) 25 [.slice none 0 0, .slice none 0 0]) := Lib.hid (Blk.mk_ (cs := [.slice none 0 0, .slice none 0 0]) (by simp))
  have BY0 : Hid (Below w.heap.size w ((w.alloc (.cells #[.slice sa sl sc, .slice ea el ec] 25)).alloc (.cells #[.slice none 0 0, .slice none 0 0] 25))) := Lib.hid (((Below.refl _ _).alloc (Nat.le_refl _) _).alloc (by simp) _)
  generalize ((w.alloc (.cells #[.slice sa sl sc, .slice ea el ec] 25)).alloc (.cells #[.slice none 0 0, .slice none 0 0] 25)) = Y0 at EY0 PY0 RY0 BY0 ⊢
  have hgr : w.heap.size ≤ w.heap.size + 1 := by omega
  have hpr : w.heap.size ≠ w.heap.size + 1 := by omega
  obtain ⟨gp, hgp⟩ : ∃ g, w.heap.size = g := ⟨_, rfl⟩
  obtain ⟨gr, hgr2⟩ : ∃ g, w.heap.size + 1 = g := ⟨_, rfl⟩
  rw [hgr2] at RY0 hgr hpr ⊢
  rw [hgp] at PY0 hpr
  have HGP := Lib.hid hgp
  clear hgr2
  clear E0w
  refine (rcheck_any sa sl sc ea el ec es Y0 EY0.out HEL.out (by omega) (by omega)).mono ?_
  rintro e Y1 ⟨rfl, hB⟩
  have BY1 : Hid (Below w.heap.size w Y1) := Lib.hid (BY0.out.trans (hB.mono BY0.out.size))
  have EY1 : Hid (EdgeRow Y1 ea es) := Lib.hid (EY0.out.below hB)
  have PY1 : Hid (Blk Y1 gp 25 [.slice sa sl sc, .slice ea el ec]) := Lib.hid (PY0.out.below hB PY0.out.lt)
  have RY1 : Hid (Blk Y1 gr 25 [.slice none 0 0, .slice none 0 0]) := Lib.hid (RY0.out.below hB RY0.out.lt)
  clear BY0 EY0 PY0 RY0
  clear hB
  rw [HC.out]
  have cP0 := Blk.cell PY1.out 0
  have cP1 := Blk.cell PY1.out 1
  simp only [List.getElem?_cons_zero, List.getElem?_cons_succ] at cP0 cP1
  have r0 := RY1.out.cell 0
  have r1 := RY1.out.cell 1
  simp only [List.getElem?_cons_zero, List.getElem?_cons_succ] at r0 r1
  have r2 := RY1.out.frozen 0
  have r3 := RY1.out.frozen 1
  go_wp2
  exact bodyPost_ret (resultsR Try.results28 _ _ gr 25 none none 0 0 0 0 _ rfl rfl (Blk.set_ (Blk.set_ RY1.out 0 (.slice none 0 0)) 1 (.slice none 0 0))) rfl (RSent.bad HX.out HN0.out ((BY1.out.setCell (p := ⟨gr, 0, none⟩) hgr (.slice none 0 0)).setCell (p := ⟨gr, 1, none⟩) hgr (.slice none 0 0)))

set_option maxRecDepth 100000 in
set_option maxHeartbeats 8000000 in
theorem rsent_side (sa : Option Addr) (sl sc : Nat) (ea : Option Addr) (el ec : Nat) (es : List Ed) (edge node amt : Int) (w : World) (hE : EdgeRow w ea es) (hel : es.length = el) (hel2 : el ≤ 100) (hsl2 : sl ≤ 1000) (hok : ∀ e ∈ es, EdOk e) (hamt : Word amt) (k : Nat) (p q c d f g h i : Int) (hk : k < el) (hedge : edge = k) (hc : checkE sl es = 0) (hz : es.getD k ed0 = ⟨p, q, c, d, f, g, h, i⟩) (h1 : ¬ p = node) (h2 : ¬ q = node) :
    Calls Try.prog 28 #[.agg #[.slice sa sl sc, .slice ea el ec], .int .i64 edge, .int .i64 node, .int .u64 amt] w (RSent w sa sl sc el es edge node amt) := by
  have hs : sideE ⟨p, q, c, d, f, g, h, i⟩ node = -1 := by unfold sideE; rw [if_neg h1, if_neg h2]
  have HX : Hid (sentErr sl es edge node amt = 1) := Lib.hid (by subst hedge; unfold sentErr; rw [if_neg (by rw [hc]; simp), if_neg (by omega), Int.toNat_natCast, hz, hs]; simp)
  have HN0 : Hid ((1 : Int) ≠ 0) := Lib.hid (by decide)
  subst hedge
  have HC := Lib.hid hc
  have hk0 : (0 : Int) ≤ (k : Int) := Int.natCast_nonneg _
  have hk1 : (k : Int) < (el : Int) := by omega
  have hk2 : decide ((k : Int) < 0) = false := decide_eq_false (by omega)
  have hk3 : decide ((el : Int) ≤ (k : Int)) = false := decide_eq_false (by omega)
  have hk' : k < es.length := by rw [hel]; exact hk
  have HZ := Lib.hid hz
  have HKK := Lib.hid hk'
  have b1 : (p == node) = false := by simpa using h1
  have b2 : (q == node) = false := by simpa using h2
  clear h1 h2 hs hok hamt hz
  clear hc hk'
  have HEL := Lib.hid hel
  have E0w := Lib.hid hE
  have HE0 := E0w
  clear hel hE
  go_enter Try.func28, Try.ntmps28
  go_wp2_with fail
  have EY0 : Hid (EdgeRow ((w.alloc (.cells #[.slice sa sl sc, .slice ea el ec] 25)).alloc (.cells #[.slice none 0 0, .slice none 0 0] 25)) ea es) := Lib.hid (E0w.out.below (((Below.refl _ _).alloc (Nat.le_refl _) _).alloc (by simp) _))
  have PY0 : Hid (Blk ((w.alloc (.cells #[.slice sa sl sc, .slice ea el ec] 25)).alloc (.cells #[.slice none 0 0, .slice none 0 0] 25)) w.heap.size 25 [.slice sa sl sc, .slice ea el ec]) := Lib.hid ((Blk.mk_ (cs := [.slice sa sl sc, .slice ea el ec]) rfl).alloc _)
  have RY0 : Hid (Blk ((w.alloc (.cells #[.slice sa sl sc, .slice ea el ec] 25)).alloc (.cells #[.slice none 0 0, .slice none 0 0] 25)) (w.heap.size + 1) 25 [.slice none 0 0, .slice none 0 0]) := Lib.hid (Blk.mk_ (cs := [.slice none 0 0, .slice none 0 0]) (by simp))
  have BY0 : Hid (Below w.heap.size w ((w.alloc (.cells #[.slice sa sl sc, .slice ea el ec] 25)).alloc (.cells #[.slice none 0 0, .slice none 0 0] 25))) := Lib.hid (((Below.refl _ _).alloc (Nat.le_refl _) _).alloc (by simp) _)
  generalize ((w.alloc (.cells #[.slice sa sl sc, .slice ea el ec] 25)).alloc (.cells #[.slice none 0 0, .slice none 0 0] 25)) = Y0 at EY0 PY0 RY0 BY0 ⊢
  have hgr : w.heap.size ≤ w.heap.size + 1 := by omega
  have hpr : w.heap.size ≠ w.heap.size + 1 := by omega
  obtain ⟨gp, hgp⟩ : ∃ g, w.heap.size = g := ⟨_, rfl⟩
  obtain ⟨gr, hgr2⟩ : ∃ g, w.heap.size + 1 = g := ⟨_, rfl⟩
  rw [hgr2] at RY0 hgr hpr ⊢
  rw [hgp] at PY0 hpr
  have HGP := Lib.hid hgp
  clear hgr2
  clear E0w
  refine (rcheck_any sa sl sc ea el ec es Y0 EY0.out HEL.out (by omega) (by omega)).mono ?_
  rintro e Y1 ⟨rfl, hB⟩
  have BY1 : Hid (Below w.heap.size w Y1) := Lib.hid (BY0.out.trans (hB.mono BY0.out.size))
  have EY1 : Hid (EdgeRow Y1 ea es) := Lib.hid (EY0.out.below hB)
  have PY1 : Hid (Blk Y1 gp 25 [.slice sa sl sc, .slice ea el ec]) := Lib.hid (PY0.out.below hB PY0.out.lt)
  have RY1 : Hid (Blk Y1 gr 25 [.slice none 0 0, .slice none 0 0]) := Lib.hid (RY0.out.below hB RY0.out.lt)
  clear BY0 EY0 PY0 RY0
  clear hB
  obtain ⟨be, oe, rfl, hce⟩ := EY1.out.at_ HKK.out
  rw [HZ.out] at hce
  have CY1 : Hid (EdAt Y1 be (oe + k * 8) ⟨p, q, c, d, f, g, h, i⟩) := Lib.hid (hce)
  clear hce
  rw [HC.out]
  have cP0 := Blk.cell PY1.out 0
  have cP1 := Blk.cell PY1.out 1
  simp only [List.getElem?_cons_zero, List.getElem?_cons_succ] at cP0 cP1
  have e0 : Y1.cell? ⟨be, oe + k * 8, none⟩ = some (.int .i64 p) := CY1.out.2 0 _ rfl
  have e1 : Y1.cell? ⟨be, oe + k * 8 + 1, none⟩ = some (.int .i64 q) := CY1.out.2 1 _ rfl
  have e2 : Y1.cell? ⟨be, oe + k * 8 + 2, none⟩ = some (.int .u64 c) := CY1.out.2 2 _ rfl
  have e3 : Y1.cell? ⟨be, oe + k * 8 + 3, none⟩ = some (.int .u64 d) := CY1.out.2 3 _ rfl
  have e4 : Y1.cell? ⟨be, oe + k * 8 + 4, none⟩ = some (.int .u64 f) := CY1.out.2 4 _ rfl
  have e5 : Y1.cell? ⟨be, oe + k * 8 + 5, none⟩ = some (.int .u64 g) := CY1.out.2 5 _ rfl
  have e6 : Y1.cell? ⟨be, oe + k * 8 + 6, none⟩ = some (.int .u64 h) := CY1.out.2 6 _ rfl
  have e7 : Y1.cell? ⟨be, oe + k * 8 + 7, none⟩ = some (.int .u64 i) := CY1.out.2 7 _ rfl
  go_wp2
  refine wp_loop_rounds 3 ?_
  rw [rounds_succ]
  go_wp2
  rw [rounds_succ]
  go_wp2
  rw [rounds_succ]
  have r0 := RY1.out.cell 0
  have r1 := RY1.out.cell 1
  simp only [List.getElem?_cons_zero, List.getElem?_cons_succ] at r0 r1
  have r2 := RY1.out.frozen 0
  have r3 := RY1.out.frozen 1
  go_wp2
  exact bodyPost_ret (resultsR Try.results28 _ _ gr 25 none none 0 0 0 0 _ rfl rfl (Blk.set_ (Blk.set_ RY1.out 0 (.slice none 0 0)) 1 (.slice none 0 0))) rfl (RSent.bad HX.out HN0.out ((BY1.out.setCell (p := ⟨gr, 0, none⟩) hgr (.slice none 0 0)).setCell (p := ⟨gr, 1, none⟩) hgr (.slice none 0 0)))

set_option maxRecDepth 100000 in
set_option maxHeartbeats 8000000 in
theorem rsent_few0 (sa : Option Addr) (sl sc : Nat) (ea : Option Addr) (el ec : Nat) (es : List Ed) (edge node amt : Int) (w : World) (hE : EdgeRow w ea es) (hel : es.length = el) (hel2 : el ≤ 100) (hsl2 : sl ≤ 1000) (hok : ∀ e ∈ es, EdOk e) (hamt : Word amt) (k : Nat) (p q c d f g h i : Int) (hk : k < el) (hedge : edge = k) (hc : checkE sl es = 0) (hz : es.getD k ed0 = ⟨p, q, c, d, f, g, h, i⟩) (h1 : p = node) (h2 : ¬ q = node) (hlt : c < amt) :
    Calls Try.prog 28 #[.agg #[.slice sa sl sc, .slice ea el ec], .int .i64 edge, .int .i64 node, .int .u64 amt] w (RSent w sa sl sc el es edge node amt) := by
  have hs : sideE ⟨p, q, c, d, f, g, h, i⟩ node = 0 := by unfold sideE; rw [if_pos h1]
  have HX : Hid (sentErr sl es edge node amt = 28) := Lib.hid (by subst hedge; unfold sentErr; rw [if_neg (by rw [hc]; simp), if_neg (by omega), Int.toNat_natCast, hz, hs]; rw [if_neg (by decide), if_pos (by simp [canE, subE, hlt])])
  have HN0 : Hid ((28 : Int) ≠ 0) := Lib.hid (by decide)
  subst hedge
  have HC := Lib.hid hc
  have hk0 : (0 : Int) ≤ (k : Int) := Int.natCast_nonneg _
  have hk1 : (k : Int) < (el : Int) := by omega
  have hk2 : decide ((k : Int) < 0) = false := decide_eq_false (by omega)
  have hk3 : decide ((el : Int) ≤ (k : Int)) = false := decide_eq_false (by omega)
  have hk' : k < es.length := by rw [hel]; exact hk
  have HZ := Lib.hid hz
  have HKK := Lib.hid hk'
  have b1 : (p == node) = true := by simpa using h1
  have b2 : (q == node) = false := by simpa using h2
  have d5 : decide (c < amt) = true := decide_eq_true hlt
  clear h1 h2 hs hok hamt hz hlt
  clear hc hk'
  have HEL := Lib.hid hel
  have E0w := Lib.hid hE
  have HE0 := E0w
  clear hel hE
  go_enter Try.func28, Try.ntmps28
  go_wp2_with fail
  have EY0 : Hid (EdgeRow ((w.alloc (.cells #[.slice sa sl sc, .slice ea el ec] 25)).alloc (.cells #[.slice none 0 0, .slice none 0 0] 25)) ea es) := Lib.hid (E0w.out.below (((Below.refl _ _).alloc (Nat.le_refl _) _).alloc (by simp) _))
  have PY0 : Hid (Blk ((w.alloc (.cells #[.slice sa sl sc, .slice ea el ec] 25)).alloc (.cells #[.slice none 0 0, .slice none 0 0] 25)) w.heap.size 25 [.slice sa sl sc, .slice ea el ec]) := Lib.hid ((Blk.mk_ (cs := [.slice sa sl sc, .slice ea el ec]) rfl).alloc _)
  have RY0 : Hid (Blk ((w.alloc (.cells #[.slice sa sl sc, .slice ea el ec] 25)).alloc (.cells #[.slice none 0 0, .slice none 0 0] 25)) (w.heap.size + 1) 25 [.slice none 0 0, .slice none 0 0]) := Lib.hid (Blk.mk_ (cs := [.slice none 0 0, .slice none 0 0]) (by simp))
  have BY0 : Hid (Below w.heap.size w ((w.alloc (.cells #[.slice sa sl sc, .slice ea el ec] 25)).alloc (.cells #[.slice none 0 0, .slice none 0 0] 25))) := Lib.hid (((Below.refl _ _).alloc (Nat.le_refl _) _).alloc (by simp) _)
  generalize ((w.alloc (.cells #[.slice sa sl sc, .slice ea el ec] 25)).alloc (.cells #[.slice none 0 0, .slice none 0 0] 25)) = Y0 at EY0 PY0 RY0 BY0 ⊢
  have hgr : w.heap.size ≤ w.heap.size + 1 := by omega
  have hpr : w.heap.size ≠ w.heap.size + 1 := by omega
  obtain ⟨gp, hgp⟩ : ∃ g, w.heap.size = g := ⟨_, rfl⟩
  obtain ⟨gr, hgr2⟩ : ∃ g, w.heap.size + 1 = g := ⟨_, rfl⟩
  rw [hgr2] at RY0 hgr hpr ⊢
  rw [hgp] at PY0 hpr
  have HGP := Lib.hid hgp
  clear hgr2
  clear E0w
  refine (rcheck_any sa sl sc ea el ec es Y0 EY0.out HEL.out (by omega) (by omega)).mono ?_
  rintro e Y1 ⟨rfl, hB⟩
  have BY1 : Hid (Below w.heap.size w Y1) := Lib.hid (BY0.out.trans (hB.mono BY0.out.size))
  have EY1 : Hid (EdgeRow Y1 ea es) := Lib.hid (EY0.out.below hB)
  have PY1 : Hid (Blk Y1 gp 25 [.slice sa sl sc, .slice ea el ec]) := Lib.hid (PY0.out.below hB PY0.out.lt)
  have RY1 : Hid (Blk Y1 gr 25 [.slice none 0 0, .slice none 0 0]) := Lib.hid (RY0.out.below hB RY0.out.lt)
  clear BY0 EY0 PY0 RY0
  clear hB
  obtain ⟨be, oe, rfl, hce⟩ := EY1.out.at_ HKK.out
  rw [HZ.out] at hce
  have CY1 : Hid (EdAt Y1 be (oe + k * 8) ⟨p, q, c, d, f, g, h, i⟩) := Lib.hid (hce)
  clear hce
  rw [HC.out]
  have cP0 := Blk.cell PY1.out 0
  have cP1 := Blk.cell PY1.out 1
  simp only [List.getElem?_cons_zero, List.getElem?_cons_succ] at cP0 cP1
  have e0 : Y1.cell? ⟨be, oe + k * 8, none⟩ = some (.int .i64 p) := CY1.out.2 0 _ rfl
  have e1 : Y1.cell? ⟨be, oe + k * 8 + 1, none⟩ = some (.int .i64 q) := CY1.out.2 1 _ rfl
  have e2 : Y1.cell? ⟨be, oe + k * 8 + 2, none⟩ = some (.int .u64 c) := CY1.out.2 2 _ rfl
  have e3 : Y1.cell? ⟨be, oe + k * 8 + 3, none⟩ = some (.int .u64 d) := CY1.out.2 3 _ rfl
  have e4 : Y1.cell? ⟨be, oe + k * 8 + 4, none⟩ = some (.int .u64 f) := CY1.out.2 4 _ rfl
  have e5 : Y1.cell? ⟨be, oe + k * 8 + 5, none⟩ = some (.int .u64 g) := CY1.out.2 5 _ rfl
  have e6 : Y1.cell? ⟨be, oe + k * 8 + 6, none⟩ = some (.int .u64 h) := CY1.out.2 6 _ rfl
  have e7 : Y1.cell? ⟨be, oe + k * 8 + 7, none⟩ = some (.int .u64 i) := CY1.out.2 7 _ rfl
  go_wp2
  refine wp_loop_rounds 3 ?_
  rw [rounds_succ]
  go_wp2
  rw [rounds_succ]
  go_wp2
  rw [rounds_succ]
  have r0 := RY1.out.cell 0
  have r1 := RY1.out.cell 1
  simp only [List.getElem?_cons_zero, List.getElem?_cons_succ] at r0 r1
  have r2 := RY1.out.frozen 0
  have r3 := RY1.out.frozen 1
  have hgl := RY1.out.lt
  go_wp2
  exact bodyPost_ret (resultsR Try.results28 _ _ gr 25 none none 0 0 0 0 _ rfl rfl ((Blk.set_ (Blk.set_ RY1.out 0 (.slice none 0 0)) 1 (.slice none 0 0)).alloc _)) rfl (RSent.bad HX.out HN0.out (((BY1.out.setCell (p := ⟨gr, 0, none⟩) hgr (.slice none 0 0)).setCell (p := ⟨gr, 1, none⟩) hgr (.slice none 0 0)).alloc ((BY1.out.setCell (p := ⟨gr, 0, none⟩) hgr (.slice none 0 0)).setCell (p := ⟨gr, 1, none⟩) hgr (.slice none 0 0)).size _))

set_option maxRecDepth 100000 in
set_option maxHeartbeats 8000000 in
theorem rsent_few1 (sa : Option Addr) (sl sc : Nat) (ea : Option Addr) (el ec : Nat) (es : List Ed) (edge node amt : Int) (w : World) (hE : EdgeRow w ea es) (hel : es.length = el) (hel2 : el ≤ 100) (hsl2 : sl ≤ 1000) (hok : ∀ e ∈ es, EdOk e) (hamt : Word amt) (k : Nat) (p q c d f g h i : Int) (hk : k < el) (hedge : edge = k) (hc : checkE sl es = 0) (hz : es.getD k ed0 = ⟨p, q, c, d, f, g, h, i⟩) (h1 : ¬ p = node) (h2 : q = node) (hlt : d < amt) :
    Calls Try.prog 28 #[.agg #[.slice sa sl sc, .slice ea el ec], .int .i64 edge, .int .i64 node, .int .u64 amt] w (RSent w sa sl sc el es edge node amt) := by
  have hs : sideE ⟨p, q, c, d, f, g, h, i⟩ node = 1 := by unfold sideE; rw [if_neg h1, if_pos h2]
  have HX : Hid (sentErr sl es edge node amt = 28) := Lib.hid (by subst hedge; unfold sentErr; rw [if_neg (by rw [hc]; simp), if_neg (by omega), Int.toNat_natCast, hz, hs]; rw [if_neg (by decide), if_pos (by simp [canE, subE, hlt])])
  have HN0 : Hid ((28 : Int) ≠ 0) := Lib.hid (by decide)
  subst hedge
  have HC := Lib.hid hc
  have hk0 : (0 : Int) ≤ (k : Int) := Int.natCast_nonneg _
  have hk1 : (k : Int) < (el : Int) := by omega
  have hk2 : decide ((k : Int) < 0) = false := decide_eq_false (by omega)
  have hk3 : decide ((el : Int) ≤ (k : Int)) = false := decide_eq_false (by omega)
  have hk' : k < es.length := by rw [hel]; exact hk
  have HZ := Lib.hid hz
  have HKK := Lib.hid hk'
  have b1 : (p == node) = false := by simpa using h1
  have b2 : (q == node) = true := by simpa using h2
  have d5 : decide (d < amt) = true := decide_eq_true hlt
  clear h1 h2 hs hok hamt hz hlt
  clear hc hk'
  have HEL := Lib.hid hel
  have E0w := Lib.hid hE
  have HE0 := E0w
  clear hel hE
  go_enter Try.func28, Try.ntmps28
  go_wp2_with fail
  have EY0 : Hid (EdgeRow ((w.alloc (.cells #[.slice sa sl sc, .slice ea el ec] 25)).alloc (.cells #[.slice none 0 0, .slice none 0 0] 25)) ea es) := Lib.hid (E0w.out.below (((Below.refl _ _).alloc (Nat.le_refl _) _).alloc (by simp) _))
  have PY0 : Hid (Blk ((w.alloc (.cells #[.slice sa sl sc, .slice ea el ec] 25)).alloc (.cells #[.slice none 0 0, .slice none 0 0] 25)) w.heap.size 25 [.slice sa sl sc, .slice ea el ec]) := Lib.hid ((Blk.mk_ (cs := [.slice sa sl sc, .slice ea el ec]) rfl).alloc _)
  have RY0 : Hid (Blk ((w.alloc (.cells #[.slice sa sl sc, .slice ea el ec] 25)).alloc (.cells #[.slice none 0 0, .slice none 0 0] 25)) (w.heap.size + 1) 25 [.slice none 0 0, .slice none 0 0]) := Lib.hid (Blk.mk_ (cs := [.slice none 0 0, .slice none 0 0]) (by simp))
  have BY0 : Hid (Below w.heap.size w ((w.alloc (.cells #[.slice sa sl sc, .slice ea el ec] 25)).alloc (.cells #[.slice none 0 0, .slice none 0 0] 25))) := Lib.hid (((Below.refl _ _).alloc (Nat.le_refl _) _).alloc (by simp) _)
  generalize ((w.alloc (.cells #[.slice sa sl sc, .slice ea el ec] 25)).alloc (.cells #[.slice none 0 0, .slice none 0 0] 25)) = Y0 at EY0 PY0 RY0 BY0 ⊢
  have hgr : w.heap.size ≤ w.heap.size + 1 := by omega
  have hpr : w.heap.size ≠ w.heap.size + 1 := by omega
  obtain ⟨gp, hgp⟩ : ∃ g, w.heap.size = g := ⟨_, rfl⟩
  obtain ⟨gr, hgr2⟩ : ∃ g, w.heap.size + 1 = g := ⟨_, rfl⟩
  rw [hgr2] at RY0 hgr hpr ⊢
  rw [hgp] at PY0 hpr
  have HGP := Lib.hid hgp
  clear hgr2
  clear E0w
  refine (rcheck_any sa sl sc ea el ec es Y0 EY0.out HEL.out (by omega) (by omega)).mono ?_
  rintro e Y1 ⟨rfl, hB⟩
  have BY1 : Hid (Below w.heap.size w Y1) := Lib.hid (BY0.out.trans (hB.mono BY0.out.size))
  have EY1 : Hid (EdgeRow Y1 ea es) := Lib.hid (EY0.out.below hB)
  have PY1 : Hid (Blk Y1 gp 25 [.slice sa sl sc, .slice ea el ec]) := Lib.hid (PY0.out.below hB PY0.out.lt)
  have RY1 : Hid (Blk Y1 gr 25 [.slice none 0 0, .slice none 0 0]) := Lib.hid (RY0.out.below hB RY0.out.lt)
  clear BY0 EY0 PY0 RY0
  clear hB
  obtain ⟨be, oe, rfl, hce⟩ := EY1.out.at_ HKK.out
  rw [HZ.out] at hce
  have CY1 : Hid (EdAt Y1 be (oe + k * 8) ⟨p, q, c, d, f, g, h, i⟩) := Lib.hid (hce)
  clear hce
  rw [HC.out]
  have cP0 := Blk.cell PY1.out 0
  have cP1 := Blk.cell PY1.out 1
  simp only [List.getElem?_cons_zero, List.getElem?_cons_succ] at cP0 cP1
  have e0 : Y1.cell? ⟨be, oe + k * 8, none⟩ = some (.int .i64 p) := CY1.out.2 0 _ rfl
  have e1 : Y1.cell? ⟨be, oe + k * 8 + 1, none⟩ = some (.int .i64 q) := CY1.out.2 1 _ rfl
  have e2 : Y1.cell? ⟨be, oe + k * 8 + 2, none⟩ = some (.int .u64 c) := CY1.out.2 2 _ rfl
  have e3 : Y1.cell? ⟨be, oe + k * 8 + 3, none⟩ = some (.int .u64 d) := CY1.out.2 3 _ rfl
  have e4 : Y1.cell? ⟨be, oe + k * 8 + 4, none⟩ = some (.int .u64 f) := CY1.out.2 4 _ rfl
  have e5 : Y1.cell? ⟨be, oe + k * 8 + 5, none⟩ = some (.int .u64 g) := CY1.out.2 5 _ rfl
  have e6 : Y1.cell? ⟨be, oe + k * 8 + 6, none⟩ = some (.int .u64 h) := CY1.out.2 6 _ rfl
  have e7 : Y1.cell? ⟨be, oe + k * 8 + 7, none⟩ = some (.int .u64 i) := CY1.out.2 7 _ rfl
  go_wp2
  refine wp_loop_rounds 3 ?_
  rw [rounds_succ]
  go_wp2
  rw [rounds_succ]
  go_wp2
  rw [rounds_succ]
  have r0 := RY1.out.cell 0
  have r1 := RY1.out.cell 1
  simp only [List.getElem?_cons_zero, List.getElem?_cons_succ] at r0 r1
  have r2 := RY1.out.frozen 0
  have r3 := RY1.out.frozen 1
  have hgl := RY1.out.lt
  go_wp2
  exact bodyPost_ret (resultsR Try.results28 _ _ gr 25 none none 0 0 0 0 _ rfl rfl ((Blk.set_ (Blk.set_ RY1.out 0 (.slice none 0 0)) 1 (.slice none 0 0)).alloc _)) rfl (RSent.bad HX.out HN0.out (((BY1.out.setCell (p := ⟨gr, 0, none⟩) hgr (.slice none 0 0)).setCell (p := ⟨gr, 1, none⟩) hgr (.slice none 0 0)).alloc ((BY1.out.setCell (p := ⟨gr, 0, none⟩) hgr (.slice none 0 0)).setCell (p := ⟨gr, 1, none⟩) hgr (.slice none 0 0)).size _))

set_option maxRecDepth 100000 in
set_option maxHeartbeats 8000000 in
theorem rsent_much0 (sa : Option Addr) (sl sc : Nat) (ea : Option Addr) (el ec : Nat) (es : List Ed) (edge node amt : Int) (w : World) (hE : EdgeRow w ea es) (hel : es.length = el) (hel2 : el ≤ 100) (hsl2 : sl ≤ 1000) (hok : ∀ e ∈ es, EdOk e) (hamt : Word amt) (k : Nat) (p q c d f g h i : Int) (hk : k < el) (hedge : edge = k) (hc : checkE sl es = 0) (hz : es.getD k ed0 = ⟨p, q, c, d, f, g, h, i⟩) (h1 : p = node) (h2 : ¬ q = node) (hle : amt ≤ c) (hlt : 18446744073709551616 ≤ d + amt) :
    Calls Try.prog 28 #[.agg #[.slice sa sl sc, .slice ea el ec], .int .i64 edge, .int .i64 node, .int .u64 amt] w (RSent w sa sl sc el es edge node amt) := by
  have hs : sideE ⟨p, q, c, d, f, g, h, i⟩ node = 0 := by unfold sideE; rw [if_pos h1]
  have HX : Hid (sentErr sl es edge node amt = 11) := Lib.hid (by subst hedge; unfold sentErr; rw [if_neg (by rw [hc]; simp), if_neg (by omega), Int.toNat_natCast, hz, hs]; rw [if_neg (by decide), if_neg (by simp [canE, subE]; omega)]; simp [canE, addE]; omega)
  have HN0 : Hid ((11 : Int) ≠ 0) := Lib.hid (by decide)
  have hw : Word d := by have h := hok _ (ed_mem es k (by rw [hel]; exact hk)); rw [hz] at h; exact h.2.2.2.1
  have HA := Lib.hid (fun W => radd_any d amt W hw hamt)
  have hae : addE d amt = 11 := if_neg (by omega)
  rw [hae] at HA
  subst hedge
  have HC := Lib.hid hc
  have hk0 : (0 : Int) ≤ (k : Int) := Int.natCast_nonneg _
  have hk1 : (k : Int) < (el : Int) := by omega
  have hk2 : decide ((k : Int) < 0) = false := decide_eq_false (by omega)
  have hk3 : decide ((el : Int) ≤ (k : Int)) = false := decide_eq_false (by omega)
  have hk' : k < es.length := by rw [hel]; exact hk
  have HZ := Lib.hid hz
  have HKK := Lib.hid hk'
  have b1 : (p == node) = true := by simpa using h1
  have b2 : (q == node) = false := by simpa using h2
  have d5 : decide (c < amt) = false := decide_eq_false (by omega)
  clear h1 h2 hs hok hamt hz hle hlt hw hae
  clear hc hk'
  have HEL := Lib.hid hel
  have E0w := Lib.hid hE
  have HE0 := E0w
  clear hel hE
  go_enter Try.func28, Try.ntmps28
  go_wp2_with fail
  have EY0 : Hid (EdgeRow ((w.alloc (.cells #[.slice sa sl sc, .slice ea el ec] 25)).alloc (.cells #[.slice none 0 0, .slice none 0 0] 25)) ea es) := Lib.hid (E0w.out.below (((Below.refl _ _).alloc (Nat.le_refl _) _).alloc (by simp) _))
  have PY0 : Hid (Blk ((w.alloc (.cells #[.slice sa sl sc, .slice ea el ec] 25)).alloc (.cells #[.slice none 0 0, .slice none 0 0] 25)) w.heap.size 25 [.slice sa sl sc, .slice ea el ec]) := Lib.hid ((Blk.mk_ (cs := [.slice sa sl sc, .slice ea el ec]) rfl).alloc _)
  have RY0 : Hid (Blk ((w.alloc (.cells #[.slice sa sl sc, .slice ea el ec] 25)).alloc (.cells #[.slice none 0 0, .slice none 0 0] 25)) (w.heap.size + 1) 25 [.slice none 0 0, .slice none 0 0]) := Lib.hid (Blk.mk_ (cs := [.slice none 0 0, .slice none 0 0]) (by simp))
  have BY0 : Hid (Below w.heap.size w ((w.alloc (.cells #[.slice sa sl sc, .slice ea el ec] 25)).alloc (.cells #[.slice none 0 0, .slice none 0 0] 25))) := Lib.hid (((Below.refl _ _).alloc (Nat.le_refl _) _).alloc (by simp) _)
  generalize ((w.alloc (.cells #[.slice sa sl sc, .slice ea el ec] 25)).alloc (.cells #[.slice none 0 0, .slice none 0 0] 25)) = Y0 at EY0 PY0 RY0 BY0 ⊢
  have hgr : w.heap.size ≤ w.heap.size + 1 := by omega
  have hpr : w.heap.size ≠ w.heap.size + 1 := by omega
  obtain ⟨gp, hgp⟩ : ∃ g, w.heap.size = g := ⟨_, rfl⟩
  obtain ⟨gr, hgr2⟩ : ∃ g, w.heap.size + 1 = g := ⟨_, rfl⟩
  rw [hgr2] at RY0 hgr hpr ⊢
  rw [hgp] at PY0 hpr
  have HGP := Lib.hid hgp
  clear hgr2
  clear E0w
  refine (rcheck_any sa sl sc ea el ec es Y0 EY0.out HEL.out (by omega) (by omega)).mono ?_
  rintro e Y1 ⟨rfl, hB⟩
  have BY1 : Hid (Below w.heap.size w Y1) := Lib.hid (BY0.out.trans (hB.mono BY0.out.size))
  have EY1 : Hid (EdgeRow Y1 ea es) := Lib.hid (EY0.out.below hB)
  have PY1 : Hid (Blk Y1 gp 25 [.slice sa sl sc, .slice ea el ec]) := Lib.hid (PY0.out.below hB PY0.out.lt)
  have RY1 : Hid (Blk Y1 gr 25 [.slice none 0 0, .slice none 0 0]) := Lib.hid (RY0.out.below hB RY0.out.lt)
  clear BY0 EY0 PY0 RY0
  clear hB
  obtain ⟨be, oe, rfl, hce⟩ := EY1.out.at_ HKK.out
  rw [HZ.out] at hce
  have CY1 : Hid (EdAt Y1 be (oe + k * 8) ⟨p, q, c, d, f, g, h, i⟩) := Lib.hid (hce)
  clear hce
  rw [HC.out]
  have cP0 := Blk.cell PY1.out 0
  have cP1 := Blk.cell PY1.out 1
  simp only [List.getElem?_cons_zero, List.getElem?_cons_succ] at cP0 cP1
  have e0 : Y1.cell? ⟨be, oe + k * 8, none⟩ = some (.int .i64 p) := CY1.out.2 0 _ rfl
  have e1 : Y1.cell? ⟨be, oe + k * 8 + 1, none⟩ = some (.int .i64 q) := CY1.out.2 1 _ rfl
  have e2 : Y1.cell? ⟨be, oe + k * 8 + 2, none⟩ = some (.int .u64 c) := CY1.out.2 2 _ rfl
  have e3 : Y1.cell? ⟨be, oe + k * 8 + 3, none⟩ = some (.int .u64 d) := CY1.out.2 3 _ rfl
  have e4 : Y1.cell? ⟨be, oe + k * 8 + 4, none⟩ = some (.int .u64 f) := CY1.out.2 4 _ rfl
  have e5 : Y1.cell? ⟨be, oe + k * 8 + 5, none⟩ = some (.int .u64 g) := CY1.out.2 5 _ rfl
  have e6 : Y1.cell? ⟨be, oe + k * 8 + 6, none⟩ = some (.int .u64 h) := CY1.out.2 6 _ rfl
  have e7 : Y1.cell? ⟨be, oe + k * 8 + 7, none⟩ = some (.int .u64 i) := CY1.out.2 7 _ rfl
  go_wp2
  refine wp_loop_rounds 3 ?_
  rw [rounds_succ]
  go_wp2
  rw [rounds_succ]
  go_wp2
  rw [rounds_succ]
  have hB : Below Y1.heap.size Y1 (Y1.alloc (.cells #[.int .i64 p, .int .i64 q, .int .u64 c, .int .u64 d, .int .u64 f, .int .u64 g, .int .u64 h, .int .u64 i] 102)) := (Below.refl _ _).alloc (Nat.le_refl _) _
  have BY2 : Hid (Below w.heap.size w (Y1.alloc (.cells #[.int .i64 p, .int .i64 q, .int .u64 c, .int .u64 d, .int .u64 f, .int .u64 g, .int .u64 h, .int .u64 i] 102))) := Lib.hid (BY1.out.trans (hB.mono BY1.out.size))
  have EY2 : Hid (EdgeRow (Y1.alloc (.cells #[.int .i64 p, .int .i64 q, .int .u64 c, .int .u64 d, .int .u64 f, .int .u64 g, .int .u64 h, .int .u64 i] 102)) (some ⟨be, oe, none⟩) es) := Lib.hid (EY1.out.below hB)
  have PY2 : Hid (Blk (Y1.alloc (.cells #[.int .i64 p, .int .i64 q, .int .u64 c, .int .u64 d, .int .u64 f, .int .u64 g, .int .u64 h, .int .u64 i] 102)) gp 25 [.slice sa sl sc, .slice (some ⟨be, oe, none⟩) el ec]) := Lib.hid (PY1.out.below hB PY1.out.lt)
  have RY2 : Hid (Blk (Y1.alloc (.cells #[.int .i64 p, .int .i64 q, .int .u64 c, .int .u64 d, .int .u64 f, .int .u64 g, .int .u64 h, .int .u64 i] 102)) gr 25 [.slice none 0 0, .slice none 0 0]) := Lib.hid (RY1.out.below hB RY1.out.lt)
  have CY2 : Hid (EdAt (Y1.alloc (.cells #[.int .i64 p, .int .i64 q, .int .u64 c, .int .u64 d, .int .u64 f, .int .u64 g, .int .u64 h, .int .u64 i] 102)) be (oe + k * 8) ⟨p, q, c, d, f, g, h, i⟩) := Lib.hid (CY1.out.below hB)
  have VY2 : Hid (Blk (Y1.alloc (.cells #[.int .i64 p, .int .i64 q, .int .u64 c, .int .u64 d, .int .u64 f, .int .u64 g, .int .u64 h, .int .u64 i] 102)) Y1.heap.size 102 [.int .i64 p, .int .i64 q, .int .u64 c, .int .u64 d, .int .u64 f, .int .u64 g, .int .u64 h, .int .u64 i]) := Lib.hid (Blk.new _ _ [.int .i64 p, .int .i64 q, .int .u64 c, .int .u64 d, .int .u64 f, .int .u64 g, .int .u64 h, .int .u64 i])
  clear hB BY1 EY1 PY1 RY1 CY1
  go_wp2_with fail
  clear cP0 cP1
  generalize (Y1.alloc (.cells #[.int .i64 p, .int .i64 q, .int .u64 c, .int .u64 d, .int .u64 f, .int .u64 g, .int .u64 h, .int .u64 i] 102)) = Y2 at BY2 EY2 PY2 RY2 CY2 VY2 ⊢
  generalize Y1.heap.size = gv at VY2 ⊢
  clear e0 e1 e2 e3 e4 e5 e6 e7
  refine (HA.out _).mono ?_
  rintro e Y9 ⟨rfl, rfl⟩
  have r0 := RY2.out.cell 0
  have r1 := RY2.out.cell 1
  simp only [List.getElem?_cons_zero, List.getElem?_cons_succ] at r0 r1
  have r2 := RY2.out.frozen 0
  have r3 := RY2.out.frozen 1
  go_wp2
  exact bodyPost_ret (resultsR Try.results28 _ _ gr 25 none none 0 0 0 0 _ rfl rfl (Blk.set_ (Blk.set_ RY2.out 0 (.slice none 0 0)) 1 (.slice none 0 0))) rfl (RSent.bad HX.out HN0.out ((BY2.out.setCell (p := ⟨gr, 0, none⟩) hgr (.slice none 0 0)).setCell (p := ⟨gr, 1, none⟩) hgr (.slice none 0 0)))

set_option maxRecDepth 100000 in
set_option maxHeartbeats 8000000 in
theorem rsent_much1 (sa : Option Addr) (sl sc : Nat) (ea : Option Addr) (el ec : Nat) (es : List Ed) (edge node amt : Int) (w : World) (hE : EdgeRow w ea es) (hel : es.length = el) (hel2 : el ≤ 100) (hsl2 : sl ≤ 1000) (hok : ∀ e ∈ es, EdOk e) (hamt : Word amt) (k : Nat) (p q c d f g h i : Int) (hk : k < el) (hedge : edge = k) (hc : checkE sl es = 0) (hz : es.getD k ed0 = ⟨p, q, c, d, f, g, h, i⟩) (h1 : ¬ p = node) (h2 : q = node) (hle : amt ≤ d) (hlt : 18446744073709551616 ≤ c + amt) :
    Calls Try.prog 28 #[.agg #[.slice sa sl sc, .slice ea el ec], .int .i64 edge, .int .i64 node, .int .u64 amt] w (RSent w sa sl sc el es edge node amt) := by
  have hs : sideE ⟨p, q, c, d, f, g, h, i⟩ node = 1 := by unfold sideE; rw [if_neg h1, if_pos h2]
  have HX : Hid (sentErr sl es edge node amt = 11) := Lib.hid (by subst hedge; unfold sentErr; rw [if_neg (by rw [hc]; simp), if_neg (by omega), Int.toNat_natCast, hz, hs]; rw [if_neg (by decide), if_neg (by simp [canE, subE]; omega)]; simp [canE, addE]; omega)
  have HN0 : Hid ((11 : Int) ≠ 0) := Lib.hid (by decide)
  have hw : Word c := by have h := hok _ (ed_mem es k (by rw [hel]; exact hk)); rw [hz] at h; exact h.2.2.1
  have HA := Lib.hid (fun W => radd_any c amt W hw hamt)
  have hae : addE c amt = 11 := if_neg (by omega)
  rw [hae] at HA
  subst hedge
  have HC := Lib.hid hc
  have hk0 : (0 : Int) ≤ (k : Int) := Int.natCast_nonneg _
  have hk1 : (k : Int) < (el : Int) := by omega
  have hk2 : decide ((k : Int) < 0) = false := decide_eq_false (by omega)
  have hk3 : decide ((el : Int) ≤ (k : Int)) = false := decide_eq_false (by omega)
  have hk' : k < es.length := by rw [hel]; exact hk
  have HZ := Lib.hid hz
  have HKK := Lib.hid hk'
  have b1 : (p == node) = false := by simpa using h1
  have b2 : (q == node) = true := by simpa using h2
  have d5 : decide (d < amt) = false := decide_eq_false (by omega)
  clear h1 h2 hs hok hamt hz hle hlt hw hae
  clear hc hk'
  have HEL := Lib.hid hel
  have E0w := Lib.hid hE
  have HE0 := E0w
  clear hel hE
  go_enter Try.func28, Try.ntmps28
  go_wp2_with fail
  have EY0 : Hid (EdgeRow ((w.alloc (.cells #[.slice sa sl sc, .slice ea el ec] 25)).alloc (.cells #[.slice none 0 0, .slice none 0 0] 25)) ea es) := Lib.hid (E0w.out.below (((Below.refl _ _).alloc (Nat.le_refl _) _).alloc (by simp) _))
  have PY0 : Hid (Blk ((w.alloc (.cells #[.slice sa sl sc, .slice ea el ec] 25)).alloc (.cells #[.slice none 0 0, .slice none 0 0] 25)) w.heap.size 25 [.slice sa sl sc, .slice ea el ec]) := Lib.hid ((Blk.mk_ (cs := [.slice sa sl sc, .slice ea el ec]) rfl).alloc _)
  have RY0 : Hid (Blk ((w.alloc (.cells #[.slice sa sl sc, .slice ea el ec] 25)).alloc (.cells #[.slice none 0 0, .slice none 0 0] 25)) (w.heap.size + 1) 25 [.slice none 0 0, .slice none 0 0]) := Lib.hid (Blk.mk_ (cs := [.slice none 0 0, .slice none 0 0]) (by simp))
  have BY0 : Hid (Below w.heap.size w ((w.alloc (.cells #[.slice sa sl sc, .slice ea el ec] 25)).alloc (.cells #[.slice none 0 0, .slice none 0 0] 25))) := Lib.hid (((Below.refl _ _).alloc (Nat.le_refl _) _).alloc (by simp) _)
  generalize ((w.alloc (.cells #[.slice sa sl sc, .slice ea el ec] 25)).alloc (.cells #[.slice none 0 0, .slice none 0 0] 25)) = Y0 at EY0 PY0 RY0 BY0 ⊢
  have hgr : w.heap.size ≤ w.heap.size + 1 := by omega
  have hpr : w.heap.size ≠ w.heap.size + 1 := by omega
  obtain ⟨gp, hgp⟩ : ∃ g, w.heap.size = g := ⟨_, rfl⟩
  obtain ⟨gr, hgr2⟩ : ∃ g, w.heap.size + 1 = g := ⟨_, rfl⟩
  rw [hgr2] at RY0 hgr hpr ⊢
  rw [hgp] at PY0 hpr
  have HGP := Lib.hid hgp
  clear hgr2
  clear E0w
  refine (rcheck_any sa sl sc ea el ec es Y0 EY0.out HEL.out (by omega) (by omega)).mono ?_
  rintro e Y1 ⟨rfl, hB⟩
  have BY1 : Hid (Below w.heap.size w Y1) := Lib.hid (BY0.out.trans (hB.mono BY0.out.size))
  have EY1 : Hid (EdgeRow Y1 ea es) := Lib.hid (EY0.out.below hB)
  have PY1 : Hid (Blk Y1 gp 25 [.slice sa sl sc, .slice ea el ec]) := Lib.hid (PY0.out.below hB PY0.out.lt)
  have RY1 : Hid (Blk Y1 gr 25 [.slice none 0 0, .slice none 0 0]) := Lib.hid (RY0.out.below hB RY0.out.lt)
  clear BY0 EY0 PY0 RY0
  clear hB
  obtain ⟨be, oe, rfl, hce⟩ := EY1.out.at_ HKK.out
  rw [HZ.out] at hce
  have CY1 : Hid (EdAt Y1 be (oe + k * 8) ⟨p, q, c, d, f, g, h, i⟩) := Lib.hid (hce)
  clear hce
  rw [HC.out]
  have cP0 := Blk.cell PY1.out 0
  have cP1 := Blk.cell PY1.out 1
  simp only [List.getElem?_cons_zero, List.getElem?_cons_succ] at cP0 cP1
  have e0 : Y1.cell? ⟨be, oe + k * 8, none⟩ = some (.int .i64 p) := CY1.out.2 0 _ rfl
  have e1 : Y1.cell? ⟨be, oe + k * 8 + 1, none⟩ = some (.int .i64 q) := CY1.out.2 1 _ rfl
  have e2 : Y1.cell? ⟨be, oe + k * 8 + 2, none⟩ = some (.int .u64 c) := CY1.out.2 2 _ rfl
  have e3 : Y1.cell? ⟨be, oe + k * 8 + 3, none⟩ = some (.int .u64 d) := CY1.out.2 3 _ rfl
  have e4 : Y1.cell? ⟨be, oe + k * 8 + 4, none⟩ = some (.int .u64 f) := CY1.out.2 4 _ rfl
  have e5 : Y1.cell? ⟨be, oe + k * 8 + 5, none⟩ = some (.int .u64 g) := CY1.out.2 5 _ rfl
  have e6 : Y1.cell? ⟨be, oe + k * 8 + 6, none⟩ = some (.int .u64 h) := CY1.out.2 6 _ rfl
  have e7 : Y1.cell? ⟨be, oe + k * 8 + 7, none⟩ = some (.int .u64 i) := CY1.out.2 7 _ rfl
  go_wp2
  refine wp_loop_rounds 3 ?_
  rw [rounds_succ]
  go_wp2
  rw [rounds_succ]
  go_wp2
  rw [rounds_succ]
  have hB : Below Y1.heap.size Y1 (Y1.alloc (.cells #[.int .i64 p, .int .i64 q, .int .u64 c, .int .u64 d, .int .u64 f, .int .u64 g, .int .u64 h, .int .u64 i] 102)) := (Below.refl _ _).alloc (Nat.le_refl _) _
  have BY2 : Hid (Below w.heap.size w (Y1.alloc (.cells #[.int .i64 p, .int .i64 q, .int .u64 c, .int .u64 d, .int .u64 f, .int .u64 g, .int .u64 h, .int .u64 i] 102))) := Lib.hid (BY1.out.trans (hB.mono BY1.out.size))
  have EY2 : Hid (EdgeRow (Y1.alloc (.cells #[.int .i64 p, .int .i64 q, .int .u64 c, .int .u64 d, .int .u64 f, .int .u64 g, .int .u64 h, .int .u64 i] 102)) (some ⟨be, oe, none⟩) es) := Lib.hid (EY1.out.below hB)
  have PY2 : Hid (Blk (Y1.alloc (.cells #[.int .i64 p, .int .i64 q, .int .u64 c, .int .u64 d, .int .u64 f, .int .u64 g, .int .u64 h, .int .u64 i] 102)) gp 25 [.slice sa sl sc, .slice (some ⟨be, oe, none⟩) el ec]) := Lib.hid (PY1.out.below hB PY1.out.lt)
  have RY2 : Hid (Blk (Y1.alloc (.cells #[.int .i64 p, .int .i64 q, .int .u64 c, .int .u64 d, .int .u64 f, .int .u64 g, .int .u64 h, .int .u64 i] 102)) gr 25 [.slice none 0 0, .slice none 0 0]) := Lib.hid (RY1.out.below hB RY1.out.lt)
  have CY2 : Hid (EdAt (Y1.alloc (.cells #[.int .i64 p, .int .i64 q, .int .u64 c, .int .u64 d, .int .u64 f, .int .u64 g, .int .u64 h, .int .u64 i] 102)) be (oe + k * 8) ⟨p, q, c, d, f, g, h, i⟩) := Lib.hid (CY1.out.below hB)
  have VY2 : Hid (Blk (Y1.alloc (.cells #[.int .i64 p, .int .i64 q, .int .u64 c, .int .u64 d, .int .u64 f, .int .u64 g, .int .u64 h, .int .u64 i] 102)) Y1.heap.size 102 [.int .i64 p, .int .i64 q, .int .u64 c, .int .u64 d, .int .u64 f, .int .u64 g, .int .u64 h, .int .u64 i]) := Lib.hid (Blk.new _ _ [.int .i64 p, .int .i64 q, .int .u64 c, .int .u64 d, .int .u64 f, .int .u64 g, .int .u64 h, .int .u64 i])
  clear hB BY1 EY1 PY1 RY1 CY1
  go_wp2_with fail
  clear cP0 cP1
  generalize (Y1.alloc (.cells #[.int .i64 p, .int .i64 q, .int .u64 c, .int .u64 d, .int .u64 f, .int .u64 g, .int .u64 h, .int .u64 i] 102)) = Y2 at BY2 EY2 PY2 RY2 CY2 VY2 ⊢
  generalize Y1.heap.size = gv at VY2 ⊢
  clear e0 e1 e2 e3 e4 e5 e6 e7
  refine (HA.out _).mono ?_
  rintro e Y9 ⟨rfl, rfl⟩
  have r0 := RY2.out.cell 0
  have r1 := RY2.out.cell 1
  simp only [List.getElem?_cons_zero, List.getElem?_cons_succ] at r0 r1
  have r2 := RY2.out.frozen 0
  have r3 := RY2.out.frozen 1
  go_wp2
  exact bodyPost_ret (resultsR Try.results28 _ _ gr 25 none none 0 0 0 0 _ rfl rfl (Blk.set_ (Blk.set_ RY2.out 0 (.slice none 0 0)) 1 (.slice none 0 0))) rfl (RSent.bad HX.out HN0.out ((BY2.out.setCell (p := ⟨gr, 0, none⟩) hgr (.slice none 0 0)).setCell (p := ⟨gr, 1, none⟩) hgr (.slice none 0 0)))
end Go.Proofs.Ytnnimjaigciedaa
