/-
  The best route (Best, 38).
-/
import Derived.Test.YtnnimjaigciedaaPathR
namespace Go.Proofs.Ytnnimjaigciedaa
open Go.RowKit
set_option linter.unusedVariables false

theorem seek_ne {sl : Nat} {es : List Ed} {src goal amt : Int} (h : seekE sl es src goal amt = 0) : checkE sl es = 0 ∧ hasB src sl = true ∧ hasB goal sl = true ∧ src ≠ goal ∧ amt ≠ 0 := by
  unfold seekE at h
  split at h
  · rename_i h8; exact absurd h h8
  · rename_i h8
    split at h
    · cases h
    · rename_i h7
      refine ⟨by simpa using h8, ?_, ?_, fun e => h7 (.inr (.inr (.inl e))), fun e => h7 (.inr (.inr (.inr e)))⟩
      · cases hb : hasB src sl with
        | true => rfl
        | false => exact absurd (.inl hb) h7
      · cases hb : hasB goal sl with
        | true => rfl
        | false => exact absurd (.inr (.inl hb)) h7
/-- Each route that is found can be paid, and has a channel. -/
theorem way_good {sl : Nat} {es : List Ed} {src goal amt : Int} (hok : ∀ e ∈ es, EdOk e) (ham : Word amt) (h : seekE sl es src goal amt = 0) : ∀ t ∈ wayL sl es src goal amt, PayOk amt t.2 ∧ 0 < t.2.length ∧ (amtsE amt t.2).2.length = t.2.length := by
  refine eachL_all (fun t => PayOk amt t.2 ∧ 0 < t.2.length ∧ (amtsE amt t.2).2.length = t.2.length) (fun l s => (∀ q ∈ s, Word q.b ∧ Word q.r) ∧ (lastI l = goal → 0 < s.length)) ?_ ?_ 7 [src] [] [] ⟨fun q hq => by simp at hq, fun e => absurd e (seek_ne h).2.2.2.1⟩ (fun t ht => by simp at ht)
  · intro l s hI hg hp
    exact ⟨hp, hI.2 hg, amts_length ham hI.1 (hI.2 hg) hp.1⟩
  · intro l s q hI hg hq hm
    refine ⟨fun q' hq' => ?_, fun _ => by simp⟩
    rcases List.mem_append.1 hq' with h1 | h1
    · exact hI.1 q' h1
    · simp at h1; subst h1; exact steps_word hok _ hq
/-- What Best answers. -/
def BestPost (sl : Nat) (es : List Ed) (src goal amt : Int) (w : World) (e : Ending) (w' : World) : Prop :=
  Below w.heap.size w w' ∧ ((seekE sl es src goal amt ≠ 0 ∧ e = .returned (.tuple #[.agg #[.slice none 0 0, .slice none 0 0, .slice none 0 0], .int .i64 (seekE sl es src goal amt)])) ∨ (seekE sl es src goal amt = 0 ∧ wayL sl es src goal amt = [] ∧ e = .returned (.tuple #[.agg #[.slice none 0 0, .slice none 0 0, .slice none 0 0], .int .i64 27])) ∨ (seekE sl es src goal amt = 0 ∧ wayL sl es src goal amt ≠ [] ∧ ∃ r : Rt, r.tr = bestL amt (wayL sl es src goal amt) ∧ e = .returned (.tuple #[.agg #[.slice r.na r.l.length r.nc, .slice r.ga r.s.length r.gc, .slice r.aa r.s.length r.ac], .int .i64 0]) ∧ RtOk w' w.heap.size amt r ∧ r.tr ∈ wayL sl es src goal amt))
theorem rt_set {w : World} {base g o : Nat} {amt : Int} {r : Rt} {cs : List Value} {u : Value} (h : RtOk w base amt r) (hb : Blk w g 89 cs) : RtOk (w.setCell ⟨g, o, none⟩ u) base amt r :=
  ⟨own_set h.1 hb (by decide), own_set h.2.1 hb (by decide), own_set h.2.2 hb (by decide)⟩
theorem rt_below {w w' : World} {base : Nat} {amt : Int} {r : Rt} (h : RtOk w base amt r) (hB : Below w.heap.size w w') : RtOk w' base amt r :=
  ⟨Mon.own_below h.1 hB, Mon.own_below h.2.1 hB, Mon.own_below h.2.2 hB⟩

set_option maxRecDepth 100000 in
set_option maxHeartbeats 8000000 in
theorem best_any (sa : Option Addr) (sl sc : Nat) (ea : Option Addr) (el ec : Nat) (es : List Ed) (src goal amt : Int) (w : World) (hE : EdgeRow w ea es) (hel : es.length = el) (hel2 : el ≤ 90) (hsl2 : sl ≤ 1000) (hok : ∀ e ∈ es, EdOk e) (ham : Word amt) :
    Calls Try.prog 38 #[.agg #[.slice sa sl sc, .slice ea el ec], .int .i64 src, .int .i64 goal, .int .u64 amt] w (BestPost sl es src goal amt w) := by
  have HWG := Lib.hid (fun h => way_good (sl := sl) (es := es) (src := src) (goal := goal) hok ham h)
  have HE := Lib.hid hE
  have HEL := Lib.hid hel
  have HOK := Lib.hid hok
  have HAM := Lib.hid ham
  have B0 : Hid (Below w.heap.size w ((w.alloc (.cells #[.slice sa sl sc, .slice ea el ec] 31)).alloc (.cells #[.slice none 0 0, .slice none 0 0, .slice none 0 0] 89))) := Lib.hid (((Below.refl _ _).alloc (Nat.le_refl _) _).alloc (by simp) _)
  have R0 : Hid (Blk ((w.alloc (.cells #[.slice sa sl sc, .slice ea el ec] 31)).alloc (.cells #[.slice none 0 0, .slice none 0 0, .slice none 0 0] 89)) (w.heap.size + 1) 89 [.slice none 0 0, .slice none 0 0, .slice none 0 0]) := Lib.hid (Blk.mk_ (cs := [.slice none 0 0, .slice none 0 0, .slice none 0 0]) (by simp))
  have p0 : ((w.alloc (.cells #[.slice sa sl sc, .slice ea el ec] 31)).alloc (.cells #[.slice none 0 0, .slice none 0 0, .slice none 0 0] 89)).cell? ⟨w.heap.size, 0, none⟩ = some (.slice sa sl sc) := ((Blk.new w 31 [.slice sa sl sc, .slice ea el ec]).alloc _).cell 0
  have p1 : ((w.alloc (.cells #[.slice sa sl sc, .slice ea el ec] 31)).alloc (.cells #[.slice none 0 0, .slice none 0 0, .slice none 0 0] 89)).cell? ⟨w.heap.size, 1, none⟩ = some (.slice ea el ec) := ((Blk.new w 31 [.slice sa sl sc, .slice ea el ec]).alloc _).cell 1
  have hgr : w.heap.size ≤ w.heap.size + 1 := by omega
  clear hE hel hok ham
  go_enter Try.func38, Try.ntmps38
  go_wp2_with fail
  clear p0 p1
  refine (pall_any sa sl sc ea el ec es src goal amt ((w.alloc (.cells #[.slice sa sl sc, .slice ea el ec] 31)).alloc (.cells #[.slice none 0 0, .slice none 0 0, .slice none 0 0] 89)) (HE.out.below B0.out) HEL.out (by omega) (by omega) HOK.out HAM.out).mono ?_
  rintro e V2 ⟨hB, hP⟩
  have B2 := Lib.hid (B0.out.trans (hB.mono B0.out.size))
  have R2 := Lib.hid (R0.out.below hB R0.out.lt)
  have HSZ := Lib.hid B0.out.size
  clear hB B0 R0
  obtain ⟨gr, hgr2⟩ : ∃ g, w.heap.size + 1 = g := ⟨_, rfl⟩
  rcases hP with ⟨hz, acc, a, c, hac, rfl, hrow, hrok⟩ | ⟨hz, rfl⟩
  · have HZ := Lib.hid hz
    have hbs : w.heap.size ≤ ((w.alloc (.cells #[.slice sa sl sc, .slice ea el ec] 31)).alloc (.cells #[.slice none 0 0, .slice none 0 0, .slice none 0 0] 89)).heap.size := HSZ.out
    have HRW := Lib.hid (own_lower hrow hbs)
    have HRO : Hid (∀ r ∈ acc, RtOk V2 w.heap.size amt r) := Lib.hid (fun r hr => ⟨own_lower (hrok r hr).1 hbs, own_lower (hrok r hr).2.1 hbs, own_lower (hrok r hr).2.2 hbs⟩)
    have HAC := Lib.hid hac
    have h32 : acc.length ≤ 32 := by have h9 := wayL_length sl es src goal amt; rw [← hac, List.length_map] at h9; exact h9
    obtain ⟨N, hN⟩ : ∃ n, acc.length = n := ⟨_, rfl⟩
    rw [hN] at HRW h32 ⊢
    have HNN := Lib.hid hN
    clear hz hbs hrow hrok hac hN HSZ
    rw [hgr2] at R2 hgr ⊢
    clear hgr2
    by_cases h0 : N = 0
    · have HW0 : Hid (wayL sl es src goal amt = []) := Lib.hid (by rw [← HAC.out]; exact List.map_eq_nil_iff.2 (List.eq_nil_of_length_eq_zero (HNN.out.trans h0)))
      subst h0
      have r0 := R2.out.cell 0
      have r1 := R2.out.cell 1
      have r2 := R2.out.cell 2
      simp only [List.getElem?_cons_zero, List.getElem?_cons_succ] at r0 r1 r2
      have f0 := R2.out.frozen 0
      have f1 := R2.out.frozen 1
      have f2 := R2.out.frozen 2
      go_wp2
      exact bodyPost_ret (results89 Try.results38 _ _ gr 89 none none none 0 0 0 0 0 0 _ rfl rfl (Blk.set_ (Blk.set_ (Blk.set_ R2.out 0 (.slice none 0 0)) 1 (.slice none 0 0)) 2 (.slice none 0 0))) rfl ⟨((B2.out.setCell (p := ⟨gr, 0, none⟩) hgr (.slice none 0 0)).setCell (p := ⟨gr, 1, none⟩) hgr (.slice none 0 0)).setCell (p := ⟨gr, 2, none⟩) hgr (.slice none 0 0), .inr (.inl ⟨HZ.out, HW0.out, rfl⟩)⟩
    · have hp : 0 < N := by omega
      have d0 : ((N : Int) == 0) = false := by simp; omega
      have d1 : decide ((N : Int) = 0) = false := decide_eq_false (by omega)
      obtain ⟨g, hg⟩ := own_some HRW.out hp
      subst hg
      have HGD : Hid (∀ r ∈ acc, RtGood amt r) := Lib.hid (fun r hr => (HWG.out HZ.out r.tr (by rw [← HAC.out]; exact List.mem_map_of_mem hr)).2)
      have HWN : Hid (wayL sl es src goal amt ≠ []) := Lib.hid (fun h => by
        rw [← HAC.out] at h
        have h9 := HNN.out
        rw [List.map_eq_nil_iff.1 h] at h9
        simp at h9; omega)
      clear h0
      go_wp2_with fail
      clear d0 d1
      refine (min_any amt acc w.heap.size g N c V2 HNN.out hp (by omega) HRW.out HRO.out HGD.out).mono ?_
      rintro e V3 ⟨⟨r, hr, rfl, hbt⟩, hB⟩
      have R3 := Lib.hid (R2.out.below hB R2.out.lt)
      have B3 := Lib.hid (B2.out.trans (hB.mono B2.out.size))
      have O3 := Lib.hid (rt_below (HRO.out r hr) hB)
      have HBT := Lib.hid hbt
      have HMR := Lib.hid hr
      clear hB hr hbt R2 B2 HRW HRO HGD
      obtain ⟨na, nc, ga, gc, aa, ac, l, s⟩ := r
      simp only
      obtain ⟨n, hn⟩ : ∃ n, l.length = n := ⟨_, rfl⟩
      obtain ⟨m, hm⟩ : ∃ m, s.length = m := ⟨_, rfl⟩
      rw [hn, hm]
      have HLN := Lib.hid hn
      have HSM := Lib.hid hm
      clear hn hm
      have r0 := R3.out.cell 0
      have r1 := R3.out.cell 1
      have r2 := R3.out.cell 2
      simp only [List.getElem?_cons_zero, List.getElem?_cons_succ] at r0 r1 r2
      have f0 := R3.out.frozen 0
      have f1 := R3.out.frozen 1
      have f2 := R3.out.frozen 2
      have RA := Lib.hid (Blk.set_ R3.out 0 (.slice na n nc))
      have RB := Lib.hid (Blk.set_ RA.out 1 (.slice ga m gc))
      have RC := Lib.hid (Blk.set_ RB.out 2 (.slice aa m ac))
      have OF := Lib.hid (rt_set (o := 2) (u := .slice aa m ac) (rt_set (o := 1) (u := .slice ga m gc) (rt_set (o := 0) (u := .slice na n nc) O3.out R3.out) RA.out) RB.out)
      have BF := Lib.hid (((B3.out.setCell (p := ⟨gr, 0, none⟩) hgr (.slice na n nc)).setCell (p := ⟨gr, 1, none⟩) hgr (.slice ga m gc)).setCell (p := ⟨gr, 2, none⟩) hgr (.slice aa m ac))
      clear O3 B3
      go_wp2
      exact bodyPost_ret (results89 Try.results38 _ _ gr 89 na ga aa n m m nc gc ac _ rfl rfl RC.out) rfl ⟨BF.out, .inr (.inr ⟨HZ.out, HWN.out, ⟨na, nc, ga, gc, aa, ac, l, s⟩, by rw [HBT.out, HAC.out], by simp only [HLN.out, HSM.out]; rfl, OF.out, by rw [← HAC.out]; exact List.mem_map_of_mem HMR.out⟩)⟩
  · have HZ := Lib.hid hz
    obtain ⟨cd, hcd⟩ : ∃ cd, seekE sl es src goal amt = cd := ⟨_, rfl⟩
    have HCD := Lib.hid hcd
    rw [hcd] at hz ⊢
    have b0 : (cd != 0) = true := by simpa using hz
    clear hz hcd
    rw [hgr2] at R2 hgr ⊢
    clear hgr2
    have r0 := R2.out.cell 0
    have r1 := R2.out.cell 1
    have r2 := R2.out.cell 2
    simp only [List.getElem?_cons_zero, List.getElem?_cons_succ] at r0 r1 r2
    have f0 := R2.out.frozen 0
    have f1 := R2.out.frozen 1
    have f2 := R2.out.frozen 2
    go_wp2
    exact bodyPost_ret (results89 Try.results38 _ _ gr 89 none none none 0 0 0 0 0 0 _ rfl rfl (Blk.set_ (Blk.set_ (Blk.set_ R2.out 0 (.slice none 0 0)) 1 (.slice none 0 0)) 2 (.slice none 0 0))) rfl ⟨((B2.out.setCell (p := ⟨gr, 0, none⟩) hgr (.slice none 0 0)).setCell (p := ⟨gr, 1, none⟩) hgr (.slice none 0 0)).setCell (p := ⟨gr, 2, none⟩) hgr (.slice none 0 0), .inl ⟨HZ.out, by rw [HCD.out]; rfl⟩⟩
end Go.Proofs.Ytnnimjaigciedaa
