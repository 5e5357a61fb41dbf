/-
  web's Sent: a web in which an amount went, or why it can't.
-/
import Derived.Test.YtnnimjaigciedaaWebM
namespace Go.Proofs.Ytnnimjaigciedaa
open Go.RowKit
set_option linter.unusedVariables false

def canE (e : Ed) (s : Int) : Int := if s = 0 then e.c else e.d
def sentErr (sl : Nat) (es : List Ed) (edge node amt : Int) : Int :=
  if checkE sl es ≠ 0 then checkE sl es else if edge < 0 ∨ (es.length : Int) ≤ edge then 1 else
  if sideE (es.getD edge.toNat ed0) node < 0 then 1 else
  if subE (canE (es.getD edge.toNat ed0) (sideE (es.getD edge.toNat ed0) node)) amt ≠ 0 then 28 else
  addE (canE (es.getD edge.toNat ed0) (1 - sideE (es.getD edge.toNat ed0) node)) amt
def sentEd (e : Ed) (s amt : Int) : Ed := if s = 0 then { e with c := e.c - amt, d := e.d + amt } else { e with c := e.c + amt, d := e.d - amt }
def sentL (es : List Ed) (edge node amt : Int) : List Ed := es.set edge.toNat (sentEd (es.getD edge.toNat ed0) (sideE (es.getD edge.toNat ed0) node) amt)

/-- A web held: its two slices, and what they read as. -/
def WebAt (w : World) (v : Value) (sp : List (Int × Int)) (es : List Ed) : Prop := ∃ sa sc ea ec, v = .agg #[.slice sa sp.length sc, .slice ea es.length ec] ∧ SpotRow w sa sp ∧ EdgeRow w ea es ∧ (sa = none → sp = [] ∧ sc = 0) ∧ (ea = none → es = [] ∧ ec = 0)
def noWeb : Value := .agg #[.slice none 0 0, .slice none 0 0]

/-- What Sent leaves. -/
def SentPost (w : World) (sp : List (Int × Int)) (es : List Ed) (edge node amt : Int) (r : Ending) (w' : World) : Prop :=
  ∃ v, r = .returned (.tuple #[v, .int .i64 (sentErr sp.length es edge node amt)]) ∧ Below w.heap.size w w' ∧ (sentErr sp.length es edge node amt = 0 → WebAt w' v sp (sentL es edge node amt)) ∧ (sentErr sp.length es edge node amt ≠ 0 → v = noWeb)

theorem results58 {fn : Func} {p u : Tmp} (h : fn.results = #[.cell p 31, .tmp u]) (tmps : Array Value) (w : World) (g t : Nat) (a b : Option Addr) (l m c d : Nat) (v : Value) (hp : tmps.getD p undef = .pointer (some ⟨g, 0, none⟩)) (hu : tmps.getD u undef = v) (hP : Blk w g t [.slice a l c, .slice b m d]) :
    (results fn tmps).run Try.prog w = .ok (.tuple #[.agg #[.slice a l c, .slice b m d], v]) w := by
  rw [results_cell_tmp h, hp, hu]
  simp [asAddr, Result.andThen, load58 w g t a b l m c d hP]

theorem SentPost.bad {w : World} {sp : List (Int × Int)} {es : List Ed} {edge node amt : Int} {w' : World} {e : Int} (he : sentErr sp.length es edge node amt = e) (hn : e ≠ 0) (hB : Below w.heap.size w w') :
    SentPost w sp es edge node amt (.returned (.tuple #[.agg #[.slice none 0 0, .slice none 0 0], .int .i64 e])) w' :=
  ⟨_, by rw [he]; rfl, hB, fun h => absurd (he.symm.trans h) hn, fun _ => rfl⟩

set_option maxRecDepth 100000 in
set_option maxHeartbeats 4000000 in
theorem sent_check (sa : Option Addr) (sl sc : Nat) (ea : Option Addr) (el ec : Nat) (sp : List (Int × Int)) (es : List Ed) (edge node amt : Int) (w : World) (HS : Hid (SpotRow w sa sp)) (HE : Hid (EdgeRow w ea es)) (HSL : Hid (sp.length = sl)) (HEL : Hid (es.length = el)) (hel2 : el ≤ 1000) (hsl2 : sl ≤ 1000) (hc : checkE sl es ≠ 0) :
    Calls Try.prog 27 #[.agg #[.slice sa sl sc, .slice ea el ec], .int .i64 edge, .int .i64 node, .int .u64 amt] w (SentPost w sp es edge node amt) := by
  obtain ⟨E, hE⟩ : ∃ E, checkE sl es = E := ⟨_, rfl⟩
  have HC0 := Lib.hid hE
  have HX : Hid (sentErr sp.length es edge node amt = E) := Lib.hid (by unfold sentErr; rw [HSL.out, if_pos hc]; exact hE)
  have HNZ : Hid (E ≠ 0) := Lib.hid (by rw [← hE]; exact hc)
  have b0 : (E != 0) = true := by have h := HNZ.out; simpa using h
  clear hE hc
  have HCK : Hid (∀ W, Below w.heap.size w W → Calls Try.prog 18 #[.agg #[.slice sa sl sc, .slice ea el ec]] W fun r w' => r = .returned (.int .i64 E) ∧ Below W.heap.size W w') := Lib.hid fun W hW => by
    have h := check_any sa sl sc ea el ec es W (HE.out.below hW) HEL.out (by omega) (by omega)
    rw [HC0.out] at h
    exact h
  go_enter Try.func27, Try.ntmps27
  go_wp2_with fail
  have B0 : Hid (Blk ((w.alloc (.cells #[.slice sa sl sc, .slice ea el ec] 31)).alloc (.cells #[.slice none 0 0, .slice none 0 0] 31)) w.heap.size 31 [.slice sa sl sc, .slice ea el ec]) := Lib.hid ((Blk.mk_ rfl).alloc _)
  have R0 : Hid (Blk ((w.alloc (.cells #[.slice sa sl sc, .slice ea el ec] 31)).alloc (.cells #[.slice none 0 0, .slice none 0 0] 31)) (w.heap.size + 1) 31 [.slice none 0 0, .slice none 0 0]) := Lib.hid (Blk.mk_ (by simp))
  have HB : Hid (Below w.heap.size w ((w.alloc (.cells #[.slice sa sl sc, .slice ea el ec] 31)).alloc (.cells #[.slice none 0 0, .slice none 0 0] 31))) := Lib.hid (((Below.refl _ _).alloc (Nat.le_refl _) _).alloc (by simp) _)
  generalize ((w.alloc (.cells #[.slice sa sl sc, .slice ea el ec] 31)).alloc (.cells #[.slice none 0 0, .slice none 0 0] 31)) = W at B0 R0 HB ⊢
  refine (HCK.out W HB.out).mono ?_
  rintro e Y ⟨rfl, hB⟩
  replace B0 := Lib.hid (B0.out.keep hB)
  replace R0 := Lib.hid (R0.out.keep hB)
  replace HB := Lib.hid (HB.out.trans (hB.mono HB.out.size))
  clear hB
  have r1 := R0.out.cell 0
  have r2 := R0.out.cell 1
  simp only [List.getElem?_cons_zero, List.getElem?_cons_succ] at r1 r2
  have r3 := R0.out.frozen 0
  have r4 := R0.out.frozen 1
  go_wp2
  exact bodyPost_ret (results58 Try.results27 _ _ (w.heap.size + 1) 31 none none 0 0 0 0 _ rfl rfl (Blk.set_ (Blk.set_ R0.out 0 (.slice none 0 0)) 1 (.slice none 0 0))) rfl (SentPost.bad HX.out (by first | decide | exact HNZ.out) ((HB.out.setCell (show w.heap.size ≤ w.heap.size + 1 by omega) _).setCell (show w.heap.size ≤ w.heap.size + 1 by omega) _))

set_option maxRecDepth 100000 in
set_option maxHeartbeats 4000000 in
theorem sent_neg (sa : Option Addr) (sl sc : Nat) (ea : Option Addr) (el ec : Nat) (sp : List (Int × Int)) (es : List Ed) (edge node amt : Int) (w : World) (HS : Hid (SpotRow w sa sp)) (HE : Hid (EdgeRow w ea es)) (HSL : Hid (sp.length = sl)) (HEL : Hid (es.length = el)) (hel2 : el ≤ 1000) (hsl2 : sl ≤ 1000) (hc : checkE sl es = 0) (he : edge < 0) :
    Calls Try.prog 27 #[.agg #[.slice sa sl sc, .slice ea el ec], .int .i64 edge, .int .i64 node, .int .u64 amt] w (SentPost w sp es edge node amt) := by
  have HC0 := Lib.hid hc
  have HX : Hid (sentErr sp.length es edge node amt = 1) := Lib.hid (by unfold sentErr; rw [HSL.out, if_neg (by rw [hc]; simp), if_pos (by rw [HEL.out]; omega)])
  clear hc
  have HCK : Hid (∀ W, Below w.heap.size w W → Calls Try.prog 18 #[.agg #[.slice sa sl sc, .slice ea el ec]] W fun r w' => r = .returned (.int .i64 0) ∧ Below W.heap.size W w') := Lib.hid fun W hW => by
    have h := check_any sa sl sc ea el ec es W (HE.out.below hW) HEL.out (by omega) (by omega)
    rw [HC0.out] at h
    exact h
  go_enter Try.func27, Try.ntmps27
  go_wp2_with fail
  have B0 : Hid (Blk ((w.alloc (.cells #[.slice sa sl sc, .slice ea el ec] 31)).alloc (.cells #[.slice none 0 0, .slice none 0 0] 31)) w.heap.size 31 [.slice sa sl sc, .slice ea el ec]) := Lib.hid ((Blk.mk_ rfl).alloc _)
  have R0 : Hid (Blk ((w.alloc (.cells #[.slice sa sl sc, .slice ea el ec] 31)).alloc (.cells #[.slice none 0 0, .slice none 0 0] 31)) (w.heap.size + 1) 31 [.slice none 0 0, .slice none 0 0]) := Lib.hid (Blk.mk_ (by simp))
  have HB : Hid (Below w.heap.size w ((w.alloc (.cells #[.slice sa sl sc, .slice ea el ec] 31)).alloc (.cells #[.slice none 0 0, .slice none 0 0] 31))) := Lib.hid (((Below.refl _ _).alloc (Nat.le_refl _) _).alloc (by simp) _)
  generalize ((w.alloc (.cells #[.slice sa sl sc, .slice ea el ec] 31)).alloc (.cells #[.slice none 0 0, .slice none 0 0] 31)) = W at B0 R0 HB ⊢
  refine (HCK.out W HB.out).mono ?_
  rintro e Y ⟨rfl, hB⟩
  replace B0 := Lib.hid (B0.out.keep hB)
  replace R0 := Lib.hid (R0.out.keep hB)
  replace HB := Lib.hid (HB.out.trans (hB.mono HB.out.size))
  clear hB
  have k1 := B0.out.cell 0
  have k2 := B0.out.cell 1
  simp only [List.getElem?_cons_zero, List.getElem?_cons_succ] at k1 k2
  have r1 := R0.out.cell 0
  have r2 := R0.out.cell 1
  simp only [List.getElem?_cons_zero, List.getElem?_cons_succ] at r1 r2
  have r3 := R0.out.frozen 0
  have r4 := R0.out.frozen 1
  go_wp2
  exact bodyPost_ret (results58 Try.results27 _ _ (w.heap.size + 1) 31 none none 0 0 0 0 _ rfl rfl (Blk.set_ (Blk.set_ R0.out 0 (.slice none 0 0)) 1 (.slice none 0 0))) rfl (SentPost.bad HX.out (by first | decide | exact HNZ.out) ((HB.out.setCell (show w.heap.size ≤ w.heap.size + 1 by omega) _).setCell (show w.heap.size ≤ w.heap.size + 1 by omega) _))

set_option maxRecDepth 100000 in
set_option maxHeartbeats 4000000 in
theorem sent_big (sa : Option Addr) (sl sc : Nat) (ea : Option Addr) (el ec : Nat) (sp : List (Int × Int)) (es : List Ed) (edge node amt : Int) (w : World) (HS : Hid (SpotRow w sa sp)) (HE : Hid (EdgeRow w ea es)) (HSL : Hid (sp.length = sl)) (HEL : Hid (es.length = el)) (hel2 : el ≤ 1000) (hsl2 : sl ≤ 1000) (hc : checkE sl es = 0) (he : (el : Int) ≤ edge) :
    Calls Try.prog 27 #[.agg #[.slice sa sl sc, .slice ea el ec], .int .i64 edge, .int .i64 node, .int .u64 amt] w (SentPost w sp es edge node amt) := by
  have HC0 := Lib.hid hc
  have HX : Hid (sentErr sp.length es edge node amt = 1) := Lib.hid (by unfold sentErr; rw [HSL.out, if_neg (by rw [hc]; simp), if_pos (by rw [HEL.out]; omega)])
  clear hc
  have HCK : Hid (∀ W, Below w.heap.size w W → Calls Try.prog 18 #[.agg #[.slice sa sl sc, .slice ea el ec]] W fun r w' => r = .returned (.int .i64 0) ∧ Below W.heap.size W w') := Lib.hid fun W hW => by
    have h := check_any sa sl sc ea el ec es W (HE.out.below hW) HEL.out (by omega) (by omega)
    rw [HC0.out] at h
    exact h
  have hn0 : ¬ (edge < 0) := by omega
  go_enter Try.func27, Try.ntmps27
  go_wp2_with fail
  have B0 : Hid (Blk ((w.alloc (.cells #[.slice sa sl sc, .slice ea el ec] 31)).alloc (.cells #[.slice none 0 0, .slice none 0 0] 31)) w.heap.size 31 [.slice sa sl sc, .slice ea el ec]) := Lib.hid ((Blk.mk_ rfl).alloc _)
  have R0 : Hid (Blk ((w.alloc (.cells #[.slice sa sl sc, .slice ea el ec] 31)).alloc (.cells #[.slice none 0 0, .slice none 0 0] 31)) (w.heap.size + 1) 31 [.slice none 0 0, .slice none 0 0]) := Lib.hid (Blk.mk_ (by simp))
  have HB : Hid (Below w.heap.size w ((w.alloc (.cells #[.slice sa sl sc, .slice ea el ec] 31)).alloc (.cells #[.slice none 0 0, .slice none 0 0] 31))) := Lib.hid (((Below.refl _ _).alloc (Nat.le_refl _) _).alloc (by simp) _)
  generalize ((w.alloc (.cells #[.slice sa sl sc, .slice ea el ec] 31)).alloc (.cells #[.slice none 0 0, .slice none 0 0] 31)) = W at B0 R0 HB ⊢
  refine (HCK.out W HB.out).mono ?_
  rintro e Y ⟨rfl, hB⟩
  replace B0 := Lib.hid (B0.out.keep hB)
  replace R0 := Lib.hid (R0.out.keep hB)
  replace HB := Lib.hid (HB.out.trans (hB.mono HB.out.size))
  clear hB
  have k1 := B0.out.cell 0
  have k2 := B0.out.cell 1
  simp only [List.getElem?_cons_zero, List.getElem?_cons_succ] at k1 k2
  have r1 := R0.out.cell 0
  have r2 := R0.out.cell 1
  simp only [List.getElem?_cons_zero, List.getElem?_cons_succ] at r1 r2
  have r3 := R0.out.frozen 0
  have r4 := R0.out.frozen 1
  go_wp2
  exact bodyPost_ret (results58 Try.results27 _ _ (w.heap.size + 1) 31 none none 0 0 0 0 _ rfl rfl (Blk.set_ (Blk.set_ R0.out 0 (.slice none 0 0)) 1 (.slice none 0 0))) rfl (SentPost.bad HX.out (by first | decide | exact HNZ.out) ((HB.out.setCell (show w.heap.size ≤ w.heap.size + 1 by omega) _).setCell (show w.heap.size ≤ w.heap.size + 1 by omega) _))
end Go.Proofs.Ytnnimjaigciedaa
