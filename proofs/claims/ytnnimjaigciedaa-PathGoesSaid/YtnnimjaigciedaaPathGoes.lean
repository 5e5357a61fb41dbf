/-
  tollhouselaw08.PathGoes returns true for every input: the web behind any route, right or not, or why there is none, is what its channels' sends come to, one by one. Nothing that was there is written.
-/
import Derived.Test.YtnnimjaigciedaaPathArg
import Derived.Test.YtnnimjaigciedaaM16
import Derived.Test.YtnnimjaigciedaaWebRw
import Derived.Test.YtnnimjaigciedaaRows
import Derived.BigQuiet
namespace Go.Proofs.Ytnnimjaigciedaa.pathGoes
open Go.ChangeShapes Go.WideShapes Go.ChangeAt Go.RowKit
set_option linter.unusedVariables false

def Ok (w : World) (e : Ending) (w' : World) : Prop := e = .returned (.bool true) ∧ Below w.heap.size w w'
theorem goN_le {sl : Nat} {ns gs am : List Int} {es E : List Ed} {i m : Nat} {e : Int} (h : goN sl ns gs am es i = (e, E)) (he : e ≠ 0) (hi : i ≤ m) : (goN sl ns gs am es m).1 = e := by rw [goN_stop h he m hi]
theorem start_bad {sl : Nat} {ns gs am : List Int} {es : List Ed} {m : Nat} {sa ea : Option Addr} {sc : Nat} {el : Nat} {D : World} (h : goE sl ns gs am es = (if checkE sl es ≠ 0 then checkE sl es else (goN sl ns gs am es m).1)) (hE : EdgeRow D ea es) :
    (checkE sl es = 0 ∧ sa = sa ∧ sl = sl ∧ sc = sc ∧ el = el ∧ ∃ E, EdgeRow D ea E ∧ goN sl ns gs am es 0 = (0, E) ∧ checkE sl es = 0) ∨ (checkE sl es ≠ 0 ∧ goE sl ns gs am es = checkE sl es) := by
  by_cases hc : checkE sl es = 0
  · exact .inl ⟨hc, rfl, rfl, rfl, rfl, es, hE, rfl, hc⟩
  · exact .inr ⟨hc, by rw [h, if_pos hc]⟩

set_option maxRecDepth 100000 in
set_option maxHeartbeats 8000000 in
theorem goes_dark (sa : Option Addr) (sl sc : Nat) (ea : Option Addr) (el ec : Nat) (sp : List (Int × Int)) (es : List Ed) (na : Option Addr) (n nc : Nat) (ga : Option Addr) (m gc : Nat) (aa : Option Addr) (k ac : Nat) (ns gs am : List Int) (w : World) (hS : SpotRow w sa sp) (hE : EdgeRow w ea es) (hok : ∀ e ∈ es, EdOk e) (hsl : sp.length = sl) (hel : es.length = el) (hN : IRow w na ns) (hG : IRow w ga gs) (hA : Mon.Nums w aa am) (hn : ns.length = n) (hm : gs.length = m) (hk : am.length = k) (hl : lightB sl el = false) :
    Calls Try.prog 10 #[.agg #[.slice sa sl sc, .slice ea el ec], .agg #[.slice na n nc, .slice ga m gc, .slice aa k ac]] w (Ok w) := by
  have HL := Lib.hid (fun w => light_any sa sl sc ea el ec w)
  rw [hl] at HL
  have HS := Lib.hid hS
  have HE := Lib.hid hE
  have HOK := Lib.hid hok
  have HSL := Lib.hid hsl
  have HEL := Lib.hid hel
  have HN := Lib.hid hN
  have HG := Lib.hid hG
  have HA := Lib.hid hA
  have HNL := Lib.hid hn
  have HML := Lib.hid hm
  have HKL := Lib.hid hk
  have BV : Hid (Below w.heap.size w ((w.alloc (.cells #[.slice sa sl sc, .slice ea el ec] 25)).alloc (.cells #[.slice na n nc, .slice ga m gc, .slice aa k ac] 87))) := Lib.hid (((Below.refl _ _).alloc (Nat.le_refl _) _).alloc (by simp) _)
  have PV : Hid (Blk ((w.alloc (.cells #[.slice sa sl sc, .slice ea el ec] 25)).alloc (.cells #[.slice na n nc, .slice ga m gc, .slice aa k ac] 87)) w.heap.size 25 [.slice sa sl sc, .slice ea el ec]) := Lib.hid ((Blk.new w 25 [.slice sa sl sc, .slice ea el ec]).alloc _)
  have RV : Hid (Blk ((w.alloc (.cells #[.slice sa sl sc, .slice ea el ec] 25)).alloc (.cells #[.slice na n nc, .slice ga m gc, .slice aa k ac] 87)) (w.heap.size + 1) 87 [.slice na n nc, .slice ga m gc, .slice aa k ac]) := Lib.hid (Blk.mk_ (cs := [.slice na n nc, .slice ga m gc, .slice aa k ac]) (by simp))
  clear hl hS hE hok hsl hel hN hG hA hn hm hk
  go_enter Try.func10, Try.ntmps10
  go_upto_region 1 with fail
  generalize ((w.alloc (.cells #[.slice sa sl sc, .slice ea el ec] 25)).alloc (.cells #[.slice na n nc, .slice ga m gc, .slice aa k ac] 87)) = V at BV PV RV ⊢
  obtain ⟨gr, hgr⟩ : ∃ g, w.heap.size + 1 = g := ⟨_, rfl⟩
  obtain ⟨gp, hgp⟩ : ∃ g, w.heap.size = g := ⟨_, rfl⟩
  rw [hgr] at RV ⊢
  rw [hgp] at PV ⊢
  clear hgr hgp
  have p0 := PV.out.cell 0
  have p1 := PV.out.cell 1
  simp only [List.getElem?_cons_zero, List.getElem?_cons_succ] at p0 p1
  go_wp2_with fail
  clear p0 p1
  refine (HL.out _).mono ?_
  rintro e Y ⟨rfl, hB⟩
  have BY := Lib.hid (BV.out.trans (hB.mono BV.out.size))
  have PY := Lib.hid (PV.out.below hB PV.out.lt)
  have RY := Lib.hid (RV.out.below hB RV.out.lt)
  clear hB BV PV RV HL
  go_wp2_with fail
  refine (pawake_any _).mono ?_
  rintro e YZ ⟨rfl, hB⟩
  have BZ := Lib.hid (BY.out.trans (hB.mono BY.out.size))
  clear hB
  go_wp2
  go_ret
  exact ⟨rfl, BZ.out⟩

set_option maxRecDepth 100000 in
set_option maxHeartbeats 8000000 in
theorem goes_big (sa : Option Addr) (sl sc : Nat) (ea : Option Addr) (el ec : Nat) (sp : List (Int × Int)) (es : List Ed) (na : Option Addr) (n nc : Nat) (ga : Option Addr) (m gc : Nat) (aa : Option Addr) (k ac : Nat) (ns gs am : List Int) (w : World) (hS : SpotRow w sa sp) (hE : EdgeRow w ea es) (hok : ∀ e ∈ es, EdOk e) (hsl : sp.length = sl) (hel : es.length = el) (hN : IRow w na ns) (hG : IRow w ga gs) (hA : Mon.Nums w aa am) (hn : ns.length = n) (hm : gs.length = m) (hk : am.length = k) (hl : lightB sl el = true) (hb : 20 < m ∨ 20 < n ∨ 20 < k) :
    Calls Try.prog 10 #[.agg #[.slice sa sl sc, .slice ea el ec], .agg #[.slice na n nc, .slice ga m gc, .slice aa k ac]] w (Ok w) := by
  have HL := Lib.hid (fun w => light_any sa sl sc ea el ec w)
  rw [hl] at HL
  have HS := Lib.hid hS
  have HE := Lib.hid hE
  have HOK := Lib.hid hok
  have HSL := Lib.hid hsl
  have HEL := Lib.hid hel
  have HN := Lib.hid hN
  have HG := Lib.hid hG
  have HA := Lib.hid hA
  have HNL := Lib.hid hn
  have HML := Lib.hid hm
  have HKL := Lib.hid hk
  have BV : Hid (Below w.heap.size w ((w.alloc (.cells #[.slice sa sl sc, .slice ea el ec] 25)).alloc (.cells #[.slice na n nc, .slice ga m gc, .slice aa k ac] 87))) := Lib.hid (((Below.refl _ _).alloc (Nat.le_refl _) _).alloc (by simp) _)
  have PV : Hid (Blk ((w.alloc (.cells #[.slice sa sl sc, .slice ea el ec] 25)).alloc (.cells #[.slice na n nc, .slice ga m gc, .slice aa k ac] 87)) w.heap.size 25 [.slice sa sl sc, .slice ea el ec]) := Lib.hid ((Blk.new w 25 [.slice sa sl sc, .slice ea el ec]).alloc _)
  have RV : Hid (Blk ((w.alloc (.cells #[.slice sa sl sc, .slice ea el ec] 25)).alloc (.cells #[.slice na n nc, .slice ga m gc, .slice aa k ac] 87)) (w.heap.size + 1) 87 [.slice na n nc, .slice ga m gc, .slice aa k ac]) := Lib.hid (Blk.mk_ (cs := [.slice na n nc, .slice ga m gc, .slice aa k ac]) (by simp))
  clear hl hS hE hok hsl hel hN hG hA hn hm hk
  go_enter Try.func10, Try.ntmps10
  go_upto_region 1 with fail
  generalize ((w.alloc (.cells #[.slice sa sl sc, .slice ea el ec] 25)).alloc (.cells #[.slice na n nc, .slice ga m gc, .slice aa k ac] 87)) = V at BV PV RV ⊢
  obtain ⟨gr, hgr⟩ : ∃ g, w.heap.size + 1 = g := ⟨_, rfl⟩
  obtain ⟨gp, hgp⟩ : ∃ g, w.heap.size = g := ⟨_, rfl⟩
  rw [hgr] at RV ⊢
  rw [hgp] at PV ⊢
  clear hgr hgp
  have p0 := PV.out.cell 0
  have p1 := PV.out.cell 1
  simp only [List.getElem?_cons_zero, List.getElem?_cons_succ] at p0 p1
  go_wp2_with fail
  clear p0 p1
  refine (HL.out _).mono ?_
  rintro e Y ⟨rfl, hB⟩
  have BY := Lib.hid (BV.out.trans (hB.mono BV.out.size))
  have PY := Lib.hid (PV.out.below hB PV.out.lt)
  have RY := Lib.hid (RV.out.below hB RV.out.lt)
  clear hB BV PV RV HL
  have r0 := RY.out.cell 0
  have r1 := RY.out.cell 1
  have r2 := RY.out.cell 2
  simp only [List.getElem?_cons_zero, List.getElem?_cons_succ] at r0 r1 r2
  by_cases h1 : 20 < m
  · have d1 : decide ((20 : Int) < (m : Int)) = true := decide_eq_true (by omega)
    have e1 : (20 : Int) < (m : Int) := by omega
    clear h1 hb
    go_wp2_with fail
    refine (pawake_any _).mono ?_
    rintro e YZ ⟨rfl, hB⟩
    have BZ := Lib.hid (BY.out.trans (hB.mono BY.out.size))
    clear hB
    go_wp2
    go_ret
    exact ⟨rfl, BZ.out⟩
  · have d1 : decide ((20 : Int) < (m : Int)) = false := decide_eq_false (by omega)
    by_cases h2 : 20 < n
    · have d2 : decide ((20 : Int) < (n : Int)) = true := decide_eq_true (by omega)
      clear h1 h2 hb
      go_wp2_with fail
      refine (pawake_any _).mono ?_
      rintro e YZ ⟨rfl, hB⟩
      have BZ := Lib.hid (BY.out.trans (hB.mono BY.out.size))
      clear hB
      go_wp2
      go_ret
      exact ⟨rfl, BZ.out⟩
    · have d2 : decide ((20 : Int) < (n : Int)) = false := decide_eq_false (by omega)
      have d3 : decide ((20 : Int) < (k : Int)) = true := decide_eq_true (by omega)
      clear h1 h2 hb
      go_wp2_with fail
      refine (pawake_any _).mono ?_
      rintro e YZ ⟨rfl, hB⟩
      have BZ := Lib.hid (BY.out.trans (hB.mono BY.out.size))
      clear hB
      go_wp2
      go_ret
      exact ⟨rfl, BZ.out⟩

set_option maxRecDepth 100000 in
set_option maxHeartbeats 8000000 in
theorem goes_arg (sa : Option Addr) (sl sc : Nat) (ea : Option Addr) (el ec : Nat) (sp : List (Int × Int)) (es : List Ed) (na : Option Addr) (n nc : Nat) (ga : Option Addr) (m gc : Nat) (aa : Option Addr) (k ac : Nat) (ns gs am : List Int) (w : World) (hS : SpotRow w sa sp) (hE : EdgeRow w ea es) (hok : ∀ e ∈ es, EdOk e) (hsl : sp.length = sl) (hel : es.length = el) (hN : IRow w na ns) (hG : IRow w ga gs) (hA : Mon.Nums w aa am) (hn : ns.length = n) (hm : gs.length = m) (hk : am.length = k) (hl : lightB sl el = true) (hsm : m ≤ 20 ∧ n ≤ 20 ∧ k ≤ 20) (hc : m ≠ k ∨ n ≠ m + 1) :
    Calls Try.prog 10 #[.agg #[.slice sa sl sc, .slice ea el ec], .agg #[.slice na n nc, .slice ga m gc, .slice aa k ac]] w (Ok w) := by
  have HLT : Hid (sl ≤ 20 ∧ el ≤ 30) := Lib.hid (by unfold lightB at hl; exact of_decide_eq_true hl)
  have HGE : Hid (goE sl ns gs am es = 1) := Lib.hid (by unfold goE; rw [if_pos (by rw [hn, hm, hk]; exact hc)])
  obtain ⟨hm20, hn20, hk20⟩ := hsm
  obtain ⟨er, her⟩ : ∃ e : Int, (1 : Int) = e := ⟨_, rfl⟩
  have HER := Lib.hid her
  rw [her] at HGE
  have HNZ : Hid (er ≠ 0) := Lib.hid (by rw [← her]; decide)
  have HC := Lib.hid hc
  clear hc her
  have HL := Lib.hid (fun w => light_any sa sl sc ea el ec w)
  rw [hl] at HL
  have HS := Lib.hid hS
  have HE := Lib.hid hE
  have HOK := Lib.hid hok
  have HSL := Lib.hid hsl
  have HEL := Lib.hid hel
  have HN := Lib.hid hN
  have HG := Lib.hid hG
  have HA := Lib.hid hA
  have HNL := Lib.hid hn
  have HML := Lib.hid hm
  have HKL := Lib.hid hk
  have BV : Hid (Below w.heap.size w ((w.alloc (.cells #[.slice sa sl sc, .slice ea el ec] 25)).alloc (.cells #[.slice na n nc, .slice ga m gc, .slice aa k ac] 87))) := Lib.hid (((Below.refl _ _).alloc (Nat.le_refl _) _).alloc (by simp) _)
  have PV : Hid (Blk ((w.alloc (.cells #[.slice sa sl sc, .slice ea el ec] 25)).alloc (.cells #[.slice na n nc, .slice ga m gc, .slice aa k ac] 87)) w.heap.size 25 [.slice sa sl sc, .slice ea el ec]) := Lib.hid ((Blk.new w 25 [.slice sa sl sc, .slice ea el ec]).alloc _)
  have RV : Hid (Blk ((w.alloc (.cells #[.slice sa sl sc, .slice ea el ec] 25)).alloc (.cells #[.slice na n nc, .slice ga m gc, .slice aa k ac] 87)) (w.heap.size + 1) 87 [.slice na n nc, .slice ga m gc, .slice aa k ac]) := Lib.hid (Blk.mk_ (cs := [.slice na n nc, .slice ga m gc, .slice aa k ac]) (by simp))
  clear hl hS hE hok hsl hel hN hG hA hn hm hk
  go_enter Try.func10, Try.ntmps10
  go_upto_region 1 with fail
  generalize ((w.alloc (.cells #[.slice sa sl sc, .slice ea el ec] 25)).alloc (.cells #[.slice na n nc, .slice ga m gc, .slice aa k ac] 87)) = V at BV PV RV ⊢
  obtain ⟨gr, hgr⟩ : ∃ g, w.heap.size + 1 = g := ⟨_, rfl⟩
  obtain ⟨gp, hgp⟩ : ∃ g, w.heap.size = g := ⟨_, rfl⟩
  rw [hgr] at RV ⊢
  rw [hgp] at PV ⊢
  clear hgr hgp
  have p0 := PV.out.cell 0
  have p1 := PV.out.cell 1
  simp only [List.getElem?_cons_zero, List.getElem?_cons_succ] at p0 p1
  go_wp2_with fail
  clear p0 p1
  refine (HL.out _).mono ?_
  rintro e Y ⟨rfl, hB⟩
  have BY := Lib.hid (BV.out.trans (hB.mono BV.out.size))
  have PY := Lib.hid (PV.out.below hB PV.out.lt)
  have RY := Lib.hid (RV.out.below hB RV.out.lt)
  clear hB BV PV RV HL
  have hlt : sl ≤ 20 ∧ el ≤ 30 := HLT.out
  obtain ⟨hs20, he30⟩ := hlt
  have d1 : decide ((20 : Int) < (m : Int)) = false := decide_eq_false (by omega)
  have d2 : decide ((20 : Int) < (n : Int)) = false := decide_eq_false (by omega)
  have d3 : decide ((20 : Int) < (k : Int)) = false := decide_eq_false (by omega)
  have r0 := RY.out.cell 0
  have r1 := RY.out.cell 1
  have r2 := RY.out.cell 2
  simp only [List.getElem?_cons_zero, List.getElem?_cons_succ] at r0 r1 r2
  go_upto_region 3 with fail
  clear r0 r1 r2 d1 d2 d3
  go_cut [5, 6] (fun p q wc => ∃ (g5 : Nat) , p = .pointer (some ⟨g5, 0, none⟩) ∧ q = .int .i64 er ∧ Hid (Blk wc gp 25 [.slice sa sl sc, .slice ea el ec]) ∧ Hid (Blk wc gr 87 [.slice na n nc, .slice ga m gc, .slice aa k ac]) ∧ Hid (Below w.heap.size w wc) ∧ Hid (Blk wc g5 31 [.slice none 0 0, .slice none 0 0]))
  case first =>
    have hBz : Below Y.heap.size Y Y.drew := below_drewN (Below.refl _ _) 1
    have PX0 : Hid (Blk Y.drew gp 25 [.slice sa sl sc, .slice ea el ec]) := Lib.hid (PY.out.below hBz PY.out.lt)
    have RX0 : Hid (Blk Y.drew gr 87 [.slice na n nc, .slice ga m gc, .slice aa k ac]) := Lib.hid (RY.out.below hBz RY.out.lt)
    have BX0 : Hid (Below w.heap.size w Y.drew) := Lib.hid (BY.out.trans (hBz.mono BY.out.size))
    clear hBz
    refine wp_region_held_drew (S := fun w' => Blk w' gp 25 [.slice sa sl sc, .slice ea el ec] ∧ Blk w' gr 87 [.slice na n nc, .slice ga m gc, .slice aa k ac]) (by kernel_rfl) (⟨PX0.out, RX0.out⟩) (fun hHeld => ?_)
    generalize Y.drew = X0 at hHeld PX0 RX0 BX0 ⊢
    refine wpAnyH_take (i := 0) (v := .pointer (some ⟨gr, 0, none⟩)) rfl (by kernel_rfl) (by kernel_rfl) (by kernel_rfl) (fun _ _ _ h => h) (Or.inl ⟨by rfl, by intro w' h; go_simp⟩) hHeld ?_
    show wpAnyH _ _ _ _ _ _ _ (Act.put _ (some 33) _) _
    simp only [Act.put, List.setIfInBounds_toArray, List.set_cons_zero, List.set_cons_succ]
    refine wpAnyH_take (i := 1) (v := .slice na n nc) rfl (by kernel_rfl) (by kernel_rfl) (by kernel_rfl) (fun _ _ _ h => h) (Or.inl ⟨by rfl, by intro w' h; have k0 := Blk.cell h.2 0; simp only [List.getElem?_cons_zero] at k0; go_simp⟩) hHeld ?_
    show wpAnyH _ _ _ _ _ _ _ (Act.put _ (some 34) _) _
    simp only [Act.put, List.setIfInBounds_toArray, List.set_cons_zero, List.set_cons_succ]
    refine wpAnyH_take (i := 2) (v := .pointer (some ⟨gr, 1, none⟩)) rfl (by kernel_rfl) (by kernel_rfl) (by kernel_rfl) (fun _ _ _ h => h) (Or.inl ⟨by rfl, by intro w' h; go_simp⟩) hHeld ?_
    show wpAnyH _ _ _ _ _ _ _ (Act.put _ (some 35) _) _
    simp only [Act.put, List.setIfInBounds_toArray, List.set_cons_zero, List.set_cons_succ]
    refine wpAnyH_take (i := 3) (v := .slice ga m gc) rfl (by kernel_rfl) (by kernel_rfl) (by kernel_rfl) (fun _ _ _ h => h) (Or.inl ⟨by rfl, by intro w' h; have k0 := Blk.cell h.2 1; simp only [List.getElem?_cons_zero, List.getElem?_cons_succ] at k0; go_simp⟩) hHeld ?_
    show wpAnyH _ _ _ _ _ _ _ (Act.put _ (some 36) _) _
    simp only [Act.put, List.setIfInBounds_toArray, List.set_cons_zero, List.set_cons_succ]
    refine wpAnyH_take (i := 4) (v := .pointer (some ⟨gr, 2, none⟩)) rfl (by kernel_rfl) (by kernel_rfl) (by kernel_rfl) (fun _ _ _ h => h) (Or.inl ⟨by rfl, by intro w' h; go_simp⟩) hHeld ?_
    show wpAnyH _ _ _ _ _ _ _ (Act.put _ (some 37) _) _
    simp only [Act.put, List.setIfInBounds_toArray, List.set_cons_zero, List.set_cons_succ]
    refine wpAnyH_take (i := 5) (v := .slice aa k ac) rfl (by kernel_rfl) (by kernel_rfl) (by kernel_rfl) (fun _ _ _ h => h) (Or.inl ⟨by rfl, by intro w' h; have k0 := Blk.cell h.2 2; simp only [List.getElem?_cons_zero, List.getElem?_cons_succ] at k0; go_simp⟩) hHeld ?_
    show wpAnyH _ _ _ _ _ _ _ (Act.put _ (some 38) _) _
    simp only [Act.put, List.setIfInBounds_toArray, List.set_cons_zero, List.set_cons_succ]
    refine wpAnyH_take (i := 6) (v := .agg #[.slice na n nc, .slice ga m gc, .slice aa k ac]) rfl (by kernel_rfl) (by kernel_rfl) (by kernel_rfl) (fun _ _ _ h => h) (Or.inl ⟨by rfl, by intro w' h; go_simp⟩) hHeld ?_
    show wpAnyH _ _ _ _ _ _ _ (Act.put _ (some 39) _) _
    simp only [Act.put, List.setIfInBounds_toArray, List.set_cons_zero, List.set_cons_succ]
    refine wpAnyH_take (i := 7) (v := .agg #[.slice sa sl sc, .slice ea el ec]) rfl (by kernel_rfl) (by kernel_rfl) (by kernel_rfl) (fun _ _ _ h => h) (Or.inl ⟨by rfl, by intro w' h; have k0 := Blk.cell h.1 0; have k1 := Blk.cell h.1 1; simp only [List.getElem?_cons_zero, List.getElem?_cons_succ] at k0 k1; go_simp⟩) hHeld ?_
    show wpAnyH _ _ _ _ _ _ _ (Act.put _ (some 40) _) _
    simp only [Act.put, List.setIfInBounds_toArray, List.set_cons_zero, List.set_cons_succ]
    refine wpAnyH_ready (rs := [8, 13]) (by kernel_rfl) (by simp) ?_
    refine AllReadyH.cons rfl (fun K hK => ?_) (AllReadyH.cons rfl (fun K hK => ?_) AllReadyH.nil)
    · refine step_call rfl 15 #[.tmp 40] #[25] rfl #[.agg #[.slice sa sl sc, .slice ea el ec]] (by simp [Act.eval]) (by go_simp) (wto_any sa sl sc ea el ec sp es X0 (HS.out.below BX0.out) (HE.out.below BX0.out) HSL.out HEL.out hs20 he30) ?_
      rintro e X1 ⟨sa1, sc1, ea1, ec1, rfl, hS1, hE1, hn1, hn2, hB⟩
      have PX1 : Hid (Blk X1 gp 25 [.slice sa sl sc, .slice ea el ec]) := Lib.hid (PX0.out.below hB PX0.out.lt)
      have RX1 : Hid (Blk X1 gr 87 [.slice na n nc, .slice ga m gc, .slice aa k ac]) := Lib.hid (RX0.out.below hB RX0.out.lt)
      have BX1 : Hid (Below w.heap.size w X1) := Lib.hid (BX0.out.trans (hB.mono BX0.out.size))
      have SX1 : Hid (SpotRow X1 sa1 sp) := Lib.hid (hS1)
      have EX1 : Hid (EdgeRow X1 ea1 es) := Lib.hid (hE1)
      have HN1 := Lib.hid hn1
      have HN2 := Lib.hid hn2
      clear PX0 RX0 BX0 hB hS1 hE1 hn1 hn2
      refine ⟨_, rfl, hK.out _ _ (⟨PX1.out, RX1.out⟩) (fun hHeld => ?_)⟩
      clear hK K
      show wpAnyH _ _ _ _ _ _ _ (Act.put _ (some 41) _) _
      simp only [Act.put, List.setIfInBounds_toArray, List.set_cons_zero, List.set_cons_succ]
      refine wpAnyH_ready (rs := [9, 13]) (by kernel_rfl) (by simp) ?_
      refine AllReadyH.cons rfl (fun K hK => ?_) (AllReadyH.cons rfl (fun K hK => ?_) AllReadyH.nil)
      · refine step_call rfl 42 #[.tmp 39, .tmp 41] #[89, 31] rfl #[.agg #[.slice na n nc, .slice ga m gc, .slice aa k ac], .agg #[.slice sa1 sl sc1, .slice ea1 el ec1]] (by simp [Act.eval]) (by go_simp) (go_any na ga aa n nc m gc k ac ns gs am sa1 sl sc1 ea1 el ec1 sp es X1 (HN.out.below BX1.out) (HG.out.below BX1.out) (HA.out.below BX1.out) HNL.out HML.out HKL.out (by omega) (by omega) (by omega) SX1.out EX1.out HSL.out HEL.out (by omega) (by omega) HN1.out HN2.out HOK.out HA.out.2.1) ?_
        rintro e X2 ⟨v, rfl, hB, _, hv⟩
        obtain rfl := hv (by rw [HSL.out, HGE.out]; exact HNZ.out)
        rw [HSL.out, HGE.out]
        have PX2 : Hid (Blk X2 gp 25 [.slice sa sl sc, .slice ea el ec]) := Lib.hid (PX1.out.below hB PX1.out.lt)
        have RX2 : Hid (Blk X2 gr 87 [.slice na n nc, .slice ga m gc, .slice aa k ac]) := Lib.hid (RX1.out.below hB RX1.out.lt)
        have BX2 : Hid (Below w.heap.size w X2) := Lib.hid (BX1.out.trans (hB.mono BX1.out.size))
        have SX2 : Hid (SpotRow X2 sa1 sp) := Lib.hid (SX1.out.below hB)
        have EX2 : Hid (EdgeRow X2 ea1 es) := Lib.hid (EX1.out.below hB)
        clear PX1 RX1 BX1 SX1 EX1 hB hv
        refine ⟨_, rfl, hK.out _ _ (⟨PX2.out, RX2.out⟩) (fun hHeld => ?_)⟩
        clear hK K
        show wpAnyH _ _ _ _ _ _ _ (Act.put _ (some 42) _) _
        simp only [Act.put, List.setIfInBounds_toArray, List.set_cons_zero, List.set_cons_succ]
        refine wpAnyH_take (i := 10) (v := .tuple #[.agg #[.slice none 0 0, .slice none 0 0], .int .i64 er]) rfl (by kernel_rfl) (by kernel_rfl) (by kernel_rfl) (fun _ _ _ h => h) (Or.inl ⟨by rfl, fun w _ => by rfl⟩) hHeld ?_
        show wpAnyH _ _ _ _ _ _ _ (Act.put _ (some 32) _) _
        simp only [Act.put, List.setIfInBounds_toArray, List.set_cons_zero, List.set_cons_succ]
        refine wpAnyH_take (i := 11) (v := .agg #[.slice none 0 0, .slice none 0 0]) rfl (by kernel_rfl) (by kernel_rfl) (by kernel_rfl) (fun _ _ _ h => h) (Or.inl ⟨by rfl, by intro w' h; go_simp⟩) hHeld ?_
        show wpAnyH _ _ _ _ _ _ _ (Act.put _ (some 43) _) _
        simp only [Act.put, List.setIfInBounds_toArray, List.set_cons_zero, List.set_cons_succ]
        refine wpAnyH_take (i := 12) (v := .int .i64 er) rfl (by kernel_rfl) (by kernel_rfl) (by kernel_rfl) (fun _ _ _ h => h) (Or.inl ⟨by rfl, by intro w' h; go_simp⟩) hHeld ?_
        show wpAnyH _ _ _ _ _ _ _ (Act.put _ (some 44) _) _
        simp only [Act.put, List.setIfInBounds_toArray, List.set_cons_zero, List.set_cons_succ]
        refine wpAnyH_ready (rs := [13]) (by kernel_rfl) (by simp) ?_
        refine AllReadyH.cons rfl (fun K hK => ?_) AllReadyH.nil
        refine step_web rfl rfl ?_
        intro X3 g5 hT hg5 hB
        have HG5 : Hid (w.heap.size ≤ g5) := Lib.hid (Nat.le_trans BX2.out.size hg5)
        have PX3 : Hid (Blk X3 gp 25 [.slice sa sl sc, .slice ea el ec]) := Lib.hid (PX2.out.below hB PX2.out.lt)
        have RX3 : Hid (Blk X3 gr 87 [.slice na n nc, .slice ga m gc, .slice aa k ac]) := Lib.hid (RX2.out.below hB RX2.out.lt)
        have BX3 : Hid (Below w.heap.size w X3) := Lib.hid (BX2.out.trans (hB.mono BX2.out.size))
        have SX3 : Hid (SpotRow X3 sa1 sp) := Lib.hid (SX2.out.below hB)
        have EX3 : Hid (EdgeRow X3 ea1 es) := Lib.hid (EX2.out.below hB)
        have TX3 : Hid (Blk X3 g5 31 [.slice none 0 0, .slice none 0 0]) := Lib.hid (hT)
        clear PX2 RX2 BX2 SX2 EX2 hB hT hg5
        refine hK.out _ _ (⟨PX3.out, RX3.out⟩) (fun hHeld => ?_)
        clear hK K
        show wpAnyH _ _ _ _ _ _ _ (Act.put _ (some 5) _) _
        simp only [Act.put, List.setIfInBounds_toArray, List.set_cons_zero, List.set_cons_succ]
        refine wpAnyH_ready (rs := [14]) (by kernel_rfl) (by simp) ?_
        refine AllReadyH.cons rfl (fun K hK => ?_) AllReadyH.nil
        refine step_put31 rfl (.tmp 5) (.tmp 43) rfl g5 _ _ none none 0 0 0 0 rfl rfl TX3.out ?_
        intro X4 hT hO
        have PX4 : Hid (Blk X4 gp 25 [.slice sa sl sc, .slice ea el ec]) := Lib.hid (PX3.out.grown hO (by intro e9; injection e9 with e9; exact Blk.ne_ PX3.out TX3.out (by decide) e9))
        have RX4 : Hid (Blk X4 gr 87 [.slice na n nc, .slice ga m gc, .slice aa k ac]) := Lib.hid (RX3.out.grown hO (by intro e9; injection e9 with e9; exact Blk.ne_ RX3.out TX3.out (by decide) e9))
        have BX4 : Hid (Below w.heap.size w X4) := Lib.hid (BX3.out.trans (only_up hO HG5.out BX3.out.size))
        have SX4 : Hid (SpotRow X4 sa1 sp) := Lib.hid (SX3.out.grown TX3.out (slices2 none none 0 0 0 0) hO)
        have EX4 : Hid (EdgeRow X4 ea1 es) := Lib.hid (EX3.out.grown TX3.out (slices2 none none 0 0 0 0) hO)
        have TX4 : Hid (Blk X4 g5 31 [.slice none 0 0, .slice none 0 0]) := Lib.hid (hT)
        clear PX3 RX3 BX3 SX3 EX3 hO hT
        refine hK.out _ _ (⟨PX4.out, RX4.out⟩) (fun hHeld => ?_)
        clear hK K
        show wpAnyH _ _ _ _ _ _ _ (Act.put _ none _) _
        simp only [Act.put]
        refine wpAnyH_take (i := 15) (v := .int .i64 er) rfl (by kernel_rfl) (by kernel_rfl) (by kernel_rfl) (fun _ _ _ h => h) (Or.inl ⟨by rfl, fun w _ => by rfl⟩) hHeld ?_
        show wpAnyH _ _ _ _ _ _ _ (Act.put _ (some 6) _) _
        simp only [Act.put, List.setIfInBounds_toArray, List.set_cons_zero, List.set_cons_succ]
        refine wpAnyH_done (by kernel_rfl) ?_ _
        clear hHeld
        go_wp2_with fail
        go_meet
        exact ⟨g5, rfl, rfl, PX4, RX4, BX4, TX4⟩
      · refine step_web rfl rfl ?_
        intro X2 g5 hT hg5 hB
        have HG5 : Hid (w.heap.size ≤ g5) := Lib.hid (Nat.le_trans BX1.out.size hg5)
        have PX2 : Hid (Blk X2 gp 25 [.slice sa sl sc, .slice ea el ec]) := Lib.hid (PX1.out.below hB PX1.out.lt)
        have RX2 : Hid (Blk X2 gr 87 [.slice na n nc, .slice ga m gc, .slice aa k ac]) := Lib.hid (RX1.out.below hB RX1.out.lt)
        have BX2 : Hid (Below w.heap.size w X2) := Lib.hid (BX1.out.trans (hB.mono BX1.out.size))
        have SX2 : Hid (SpotRow X2 sa1 sp) := Lib.hid (SX1.out.below hB)
        have EX2 : Hid (EdgeRow X2 ea1 es) := Lib.hid (EX1.out.below hB)
        have TX2 : Hid (Blk X2 g5 31 [.slice none 0 0, .slice none 0 0]) := Lib.hid (hT)
        clear PX1 RX1 BX1 SX1 EX1 hB hT hg5
        refine hK.out _ _ (⟨PX2.out, RX2.out⟩) (fun hHeld => ?_)
        clear hK K
        show wpAnyH _ _ _ _ _ _ _ (Act.put _ (some 5) _) _
        simp only [Act.put, List.setIfInBounds_toArray, List.set_cons_zero, List.set_cons_succ]
        refine wpAnyH_ready (rs := [9]) (by kernel_rfl) (by simp) ?_
        refine AllReadyH.cons rfl (fun K hK => ?_) AllReadyH.nil
        refine step_call rfl 42 #[.tmp 39, .tmp 41] #[89, 31] rfl #[.agg #[.slice na n nc, .slice ga m gc, .slice aa k ac], .agg #[.slice sa1 sl sc1, .slice ea1 el ec1]] (by simp [Act.eval]) (by go_simp) (go_any na ga aa n nc m gc k ac ns gs am sa1 sl sc1 ea1 el ec1 sp es X2 (HN.out.below BX2.out) (HG.out.below BX2.out) (HA.out.below BX2.out) HNL.out HML.out HKL.out (by omega) (by omega) (by omega) SX2.out EX2.out HSL.out HEL.out (by omega) (by omega) HN1.out HN2.out HOK.out HA.out.2.1) ?_
        rintro e X3 ⟨v, rfl, hB, _, hv⟩
        obtain rfl := hv (by rw [HSL.out, HGE.out]; exact HNZ.out)
        rw [HSL.out, HGE.out]
        have PX3 : Hid (Blk X3 gp 25 [.slice sa sl sc, .slice ea el ec]) := Lib.hid (PX2.out.below hB PX2.out.lt)
        have RX3 : Hid (Blk X3 gr 87 [.slice na n nc, .slice ga m gc, .slice aa k ac]) := Lib.hid (RX2.out.below hB RX2.out.lt)
        have BX3 : Hid (Below w.heap.size w X3) := Lib.hid (BX2.out.trans (hB.mono BX2.out.size))
        have SX3 : Hid (SpotRow X3 sa1 sp) := Lib.hid (SX2.out.below hB)
        have EX3 : Hid (EdgeRow X3 ea1 es) := Lib.hid (EX2.out.below hB)
        have TX3 : Hid (Blk X3 g5 31 [.slice none 0 0, .slice none 0 0]) := Lib.hid (TX2.out.below hB TX2.out.lt)
        clear PX2 RX2 BX2 SX2 EX2 TX2 hB hv
        refine ⟨_, rfl, hK.out _ _ (⟨PX3.out, RX3.out⟩) (fun hHeld => ?_)⟩
        clear hK K
        show wpAnyH _ _ _ _ _ _ _ (Act.put _ (some 42) _) _
        simp only [Act.put, List.setIfInBounds_toArray, List.set_cons_zero, List.set_cons_succ]
        refine wpAnyH_take (i := 10) (v := .tuple #[.agg #[.slice none 0 0, .slice none 0 0], .int .i64 er]) rfl (by kernel_rfl) (by kernel_rfl) (by kernel_rfl) (fun _ _ _ h => h) (Or.inl ⟨by rfl, fun w _ => by rfl⟩) hHeld ?_
        show wpAnyH _ _ _ _ _ _ _ (Act.put _ (some 32) _) _
        simp only [Act.put, List.setIfInBounds_toArray, List.set_cons_zero, List.set_cons_succ]
        refine wpAnyH_take (i := 11) (v := .agg #[.slice none 0 0, .slice none 0 0]) rfl (by kernel_rfl) (by kernel_rfl) (by kernel_rfl) (fun _ _ _ h => h) (Or.inl ⟨by rfl, by intro w' h; go_simp⟩) hHeld ?_
        show wpAnyH _ _ _ _ _ _ _ (Act.put _ (some 43) _) _
        simp only [Act.put, List.setIfInBounds_toArray, List.set_cons_zero, List.set_cons_succ]
        refine wpAnyH_take (i := 12) (v := .int .i64 er) rfl (by kernel_rfl) (by kernel_rfl) (by kernel_rfl) (fun _ _ _ h => h) (Or.inl ⟨by rfl, by intro w' h; go_simp⟩) hHeld ?_
        show wpAnyH _ _ _ _ _ _ _ (Act.put _ (some 44) _) _
        simp only [Act.put, List.setIfInBounds_toArray, List.set_cons_zero, List.set_cons_succ]
        refine wpAnyH_ready (rs := [14]) (by kernel_rfl) (by simp) ?_
        refine AllReadyH.cons rfl (fun K hK => ?_) AllReadyH.nil
        refine step_put31 rfl (.tmp 5) (.tmp 43) rfl g5 _ _ none none 0 0 0 0 rfl rfl TX3.out ?_
        intro X4 hT hO
        have PX4 : Hid (Blk X4 gp 25 [.slice sa sl sc, .slice ea el ec]) := Lib.hid (PX3.out.grown hO (by intro e9; injection e9 with e9; exact Blk.ne_ PX3.out TX3.out (by decide) e9))
        have RX4 : Hid (Blk X4 gr 87 [.slice na n nc, .slice ga m gc, .slice aa k ac]) := Lib.hid (RX3.out.grown hO (by intro e9; injection e9 with e9; exact Blk.ne_ RX3.out TX3.out (by decide) e9))
        have BX4 : Hid (Below w.heap.size w X4) := Lib.hid (BX3.out.trans (only_up hO HG5.out BX3.out.size))
        have SX4 : Hid (SpotRow X4 sa1 sp) := Lib.hid (SX3.out.grown TX3.out (slices2 none none 0 0 0 0) hO)
        have EX4 : Hid (EdgeRow X4 ea1 es) := Lib.hid (EX3.out.grown TX3.out (slices2 none none 0 0 0 0) hO)
        have TX4 : Hid (Blk X4 g5 31 [.slice none 0 0, .slice none 0 0]) := Lib.hid (hT)
        clear PX3 RX3 BX3 SX3 EX3 hO hT
        refine hK.out _ _ (⟨PX4.out, RX4.out⟩) (fun hHeld => ?_)
        clear hK K
        show wpAnyH _ _ _ _ _ _ _ (Act.put _ none _) _
        simp only [Act.put]
        refine wpAnyH_take (i := 15) (v := .int .i64 er) rfl (by kernel_rfl) (by kernel_rfl) (by kernel_rfl) (fun _ _ _ h => h) (Or.inl ⟨by rfl, fun w _ => by rfl⟩) hHeld ?_
        show wpAnyH _ _ _ _ _ _ _ (Act.put _ (some 6) _) _
        simp only [Act.put, List.setIfInBounds_toArray, List.set_cons_zero, List.set_cons_succ]
        refine wpAnyH_done (by kernel_rfl) ?_ _
        clear hHeld
        go_wp2_with fail
        go_meet
        exact ⟨g5, rfl, rfl, PX4, RX4, BX4, TX4⟩
    · refine step_web rfl rfl ?_
      intro X1 g5 hT hg5 hB
      have HG5 : Hid (w.heap.size ≤ g5) := Lib.hid (Nat.le_trans BX0.out.size hg5)
      have PX1 : Hid (Blk X1 gp 25 [.slice sa sl sc, .slice ea el ec]) := Lib.hid (PX0.out.below hB PX0.out.lt)
      have RX1 : Hid (Blk X1 gr 87 [.slice na n nc, .slice ga m gc, .slice aa k ac]) := Lib.hid (RX0.out.below hB RX0.out.lt)
      have BX1 : Hid (Below w.heap.size w X1) := Lib.hid (BX0.out.trans (hB.mono BX0.out.size))
      have TX1 : Hid (Blk X1 g5 31 [.slice none 0 0, .slice none 0 0]) := Lib.hid (hT)
      clear PX0 RX0 BX0 hB hT hg5
      refine hK.out _ _ (⟨PX1.out, RX1.out⟩) (fun hHeld => ?_)
      clear hK K
      show wpAnyH _ _ _ _ _ _ _ (Act.put _ (some 5) _) _
      simp only [Act.put, List.setIfInBounds_toArray, List.set_cons_zero, List.set_cons_succ]
      refine wpAnyH_ready (rs := [8]) (by kernel_rfl) (by simp) ?_
      refine AllReadyH.cons rfl (fun K hK => ?_) AllReadyH.nil
      refine step_call rfl 15 #[.tmp 40] #[25] rfl #[.agg #[.slice sa sl sc, .slice ea el ec]] (by simp [Act.eval]) (by go_simp) (wto_any sa sl sc ea el ec sp es X1 (HS.out.below BX1.out) (HE.out.below BX1.out) HSL.out HEL.out hs20 he30) ?_
      rintro e X2 ⟨sa1, sc1, ea1, ec1, rfl, hS1, hE1, hn1, hn2, hB⟩
      have PX2 : Hid (Blk X2 gp 25 [.slice sa sl sc, .slice ea el ec]) := Lib.hid (PX1.out.below hB PX1.out.lt)
      have RX2 : Hid (Blk X2 gr 87 [.slice na n nc, .slice ga m gc, .slice aa k ac]) := Lib.hid (RX1.out.below hB RX1.out.lt)
      have BX2 : Hid (Below w.heap.size w X2) := Lib.hid (BX1.out.trans (hB.mono BX1.out.size))
      have TX2 : Hid (Blk X2 g5 31 [.slice none 0 0, .slice none 0 0]) := Lib.hid (TX1.out.below hB TX1.out.lt)
      have SX2 : Hid (SpotRow X2 sa1 sp) := Lib.hid (hS1)
      have EX2 : Hid (EdgeRow X2 ea1 es) := Lib.hid (hE1)
      have HN1 := Lib.hid hn1
      have HN2 := Lib.hid hn2
      clear PX1 RX1 BX1 TX1 hB hS1 hE1 hn1 hn2
      refine ⟨_, rfl, hK.out _ _ (⟨PX2.out, RX2.out⟩) (fun hHeld => ?_)⟩
      clear hK K
      show wpAnyH _ _ _ _ _ _ _ (Act.put _ (some 41) _) _
      simp only [Act.put, List.setIfInBounds_toArray, List.set_cons_zero, List.set_cons_succ]
      refine wpAnyH_ready (rs := [9]) (by kernel_rfl) (by simp) ?_
      refine AllReadyH.cons rfl (fun K hK => ?_) AllReadyH.nil
      refine step_call rfl 42 #[.tmp 39, .tmp 41] #[89, 31] rfl #[.agg #[.slice na n nc, .slice ga m gc, .slice aa k ac], .agg #[.slice sa1 sl sc1, .slice ea1 el ec1]] (by simp [Act.eval]) (by go_simp) (go_any na ga aa n nc m gc k ac ns gs am sa1 sl sc1 ea1 el ec1 sp es X2 (HN.out.below BX2.out) (HG.out.below BX2.out) (HA.out.below BX2.out) HNL.out HML.out HKL.out (by omega) (by omega) (by omega) SX2.out EX2.out HSL.out HEL.out (by omega) (by omega) HN1.out HN2.out HOK.out HA.out.2.1) ?_
      rintro e X3 ⟨v, rfl, hB, _, hv⟩
      obtain rfl := hv (by rw [HSL.out, HGE.out]; exact HNZ.out)
      rw [HSL.out, HGE.out]
      have PX3 : Hid (Blk X3 gp 25 [.slice sa sl sc, .slice ea el ec]) := Lib.hid (PX2.out.below hB PX2.out.lt)
      have RX3 : Hid (Blk X3 gr 87 [.slice na n nc, .slice ga m gc, .slice aa k ac]) := Lib.hid (RX2.out.below hB RX2.out.lt)
      have BX3 : Hid (Below w.heap.size w X3) := Lib.hid (BX2.out.trans (hB.mono BX2.out.size))
      have TX3 : Hid (Blk X3 g5 31 [.slice none 0 0, .slice none 0 0]) := Lib.hid (TX2.out.below hB TX2.out.lt)
      have SX3 : Hid (SpotRow X3 sa1 sp) := Lib.hid (SX2.out.below hB)
      have EX3 : Hid (EdgeRow X3 ea1 es) := Lib.hid (EX2.out.below hB)
      clear PX2 RX2 BX2 TX2 SX2 EX2 hB hv
      refine ⟨_, rfl, hK.out _ _ (⟨PX3.out, RX3.out⟩) (fun hHeld => ?_)⟩
      clear hK K
      show wpAnyH _ _ _ _ _ _ _ (Act.put _ (some 42) _) _
      simp only [Act.put, List.setIfInBounds_toArray, List.set_cons_zero, List.set_cons_succ]
      refine wpAnyH_take (i := 10) (v := .tuple #[.agg #[.slice none 0 0, .slice none 0 0], .int .i64 er]) rfl (by kernel_rfl) (by kernel_rfl) (by kernel_rfl) (fun _ _ _ h => h) (Or.inl ⟨by rfl, fun w _ => by rfl⟩) hHeld ?_
      show wpAnyH _ _ _ _ _ _ _ (Act.put _ (some 32) _) _
      simp only [Act.put, List.setIfInBounds_toArray, List.set_cons_zero, List.set_cons_succ]
      refine wpAnyH_take (i := 11) (v := .agg #[.slice none 0 0, .slice none 0 0]) rfl (by kernel_rfl) (by kernel_rfl) (by kernel_rfl) (fun _ _ _ h => h) (Or.inl ⟨by rfl, by intro w' h; go_simp⟩) hHeld ?_
      show wpAnyH _ _ _ _ _ _ _ (Act.put _ (some 43) _) _
      simp only [Act.put, List.setIfInBounds_toArray, List.set_cons_zero, List.set_cons_succ]
      refine wpAnyH_take (i := 12) (v := .int .i64 er) rfl (by kernel_rfl) (by kernel_rfl) (by kernel_rfl) (fun _ _ _ h => h) (Or.inl ⟨by rfl, by intro w' h; go_simp⟩) hHeld ?_
      show wpAnyH _ _ _ _ _ _ _ (Act.put _ (some 44) _) _
      simp only [Act.put, List.setIfInBounds_toArray, List.set_cons_zero, List.set_cons_succ]
      refine wpAnyH_ready (rs := [14]) (by kernel_rfl) (by simp) ?_
      refine AllReadyH.cons rfl (fun K hK => ?_) AllReadyH.nil
      refine step_put31 rfl (.tmp 5) (.tmp 43) rfl g5 _ _ none none 0 0 0 0 rfl rfl TX3.out ?_
      intro X4 hT hO
      have PX4 : Hid (Blk X4 gp 25 [.slice sa sl sc, .slice ea el ec]) := Lib.hid (PX3.out.grown hO (by intro e9; injection e9 with e9; exact Blk.ne_ PX3.out TX3.out (by decide) e9))
      have RX4 : Hid (Blk X4 gr 87 [.slice na n nc, .slice ga m gc, .slice aa k ac]) := Lib.hid (RX3.out.grown hO (by intro e9; injection e9 with e9; exact Blk.ne_ RX3.out TX3.out (by decide) e9))
      have BX4 : Hid (Below w.heap.size w X4) := Lib.hid (BX3.out.trans (only_up hO HG5.out BX3.out.size))
      have SX4 : Hid (SpotRow X4 sa1 sp) := Lib.hid (SX3.out.grown TX3.out (slices2 none none 0 0 0 0) hO)
      have EX4 : Hid (EdgeRow X4 ea1 es) := Lib.hid (EX3.out.grown TX3.out (slices2 none none 0 0 0 0) hO)
      have TX4 : Hid (Blk X4 g5 31 [.slice none 0 0, .slice none 0 0]) := Lib.hid (hT)
      clear PX3 RX3 BX3 SX3 EX3 hO hT
      refine hK.out _ _ (⟨PX4.out, RX4.out⟩) (fun hHeld => ?_)
      clear hK K
      show wpAnyH _ _ _ _ _ _ _ (Act.put _ none _) _
      simp only [Act.put]
      refine wpAnyH_take (i := 15) (v := .int .i64 er) rfl (by kernel_rfl) (by kernel_rfl) (by kernel_rfl) (fun _ _ _ h => h) (Or.inl ⟨by rfl, fun w _ => by rfl⟩) hHeld ?_
      show wpAnyH _ _ _ _ _ _ _ (Act.put _ (some 6) _) _
      simp only [Act.put, List.setIfInBounds_toArray, List.set_cons_zero, List.set_cons_succ]
      refine wpAnyH_done (by kernel_rfl) ?_ _
      clear hHeld
      go_wp2_with fail
      go_meet
      exact ⟨g5, rfl, rfl, PX4, RX4, BX4, TX4⟩
  case rest =>
    obtain ⟨g5, rfl, rfl, PC, RC, BC, TC⟩ := hcut
    have her := HER.out
    subst her
    have r0 := RC.out.cell 0
    have r1 := RC.out.cell 1
    have r2 := RC.out.cell 2
    simp only [List.getElem?_cons_zero, List.getElem?_cons_succ] at r0 r1 r2
    by_cases hmk : m = k
    · have b1 : ((m : Int) != (k : Int)) = false := by rw [hmk]; simp
      have b2 : ((n : Int) != (m : Int) + 1) = true := by have := HC.out; simp; omega
      clear hmk
      go_wp2_with fail
      refine (pawake_any _).mono ?_
      rintro e YZ ⟨rfl, hB⟩
      have BZ := Lib.hid (BC.out.trans (hB.mono BC.out.size))
      have TZ := Lib.hid (TC.out.below hB TC.out.lt)
      clear hB
      have q0 := TZ.out.cell 0
      simp only [List.getElem?_cons_zero] at q0
      go_wp2
      go_ret
      exact ⟨rfl, BZ.out⟩
    · have b1 : ((m : Int) != (k : Int)) = true := by simp; omega
      clear hmk
      go_wp2_with fail
      refine (pawake_any _).mono ?_
      rintro e YZ ⟨rfl, hB⟩
      have BZ := Lib.hid (BC.out.trans (hB.mono BC.out.size))
      have TZ := Lib.hid (TC.out.below hB TC.out.lt)
      clear hB
      have q0 := TZ.out.cell 0
      simp only [List.getElem?_cons_zero] at q0
      go_wp2
      go_ret
      exact ⟨rfl, BZ.out⟩

set_option maxRecDepth 100000 in
set_option maxHeartbeats 8000000 in
theorem goes_ok (sa : Option Addr) (sl sc : Nat) (ea : Option Addr) (el ec : Nat) (sp : List (Int × Int)) (es : List Ed) (na : Option Addr) (n nc : Nat) (ga : Option Addr) (m gc : Nat) (aa : Option Addr) (k ac : Nat) (ns gs am : List Int) (w : World) (hS : SpotRow w sa sp) (hE : EdgeRow w ea es) (hok : ∀ e ∈ es, EdOk e) (hsl : sp.length = sl) (hel : es.length = el) (hN : IRow w na ns) (hG : IRow w ga gs) (hA : Mon.Nums w aa am) (hn : ns.length = n) (hm : gs.length = m) (hk : am.length = k) (hl : lightB sl el = true) (hsm : m ≤ 20 ∧ n ≤ 20 ∧ k ≤ 20) (hc : m = k ∧ n = m + 1) (hg : goE sl ns gs am es = 0) :
    Calls Try.prog 10 #[.agg #[.slice sa sl sc, .slice ea el ec], .agg #[.slice na n nc, .slice ga m gc, .slice aa k ac]] w (Ok w) := by
  have HLT : Hid (sl ≤ 20 ∧ el ≤ 30) := Lib.hid (by unfold lightB at hl; exact of_decide_eq_true hl)
  have HG0 : Hid (goE sl ns gs am es = (if checkE sl es ≠ 0 then checkE sl es else (goN sl ns gs am es m).1) ∧ goL sl ns gs am es = (goN sl ns gs am es m).2) := Lib.hid (by unfold goE goL; rw [if_neg (by rw [hn, hm, hk]; omega), hm]; exact ⟨rfl, rfl⟩)
  obtain ⟨hm20, hn20, hk20⟩ := hsm
  have HWD := Lib.hid hA.2.1
  have HCK : Hid (checkE sl es = 0) := Lib.hid (by have h1 := HG0.out.1; rw [hg] at h1; by_cases h2 : checkE sl es = 0; exact h2; rw [if_pos h2] at h1; exact h1.symm)
  have HGM : Hid ((goN sl ns gs am es m).1 = 0) := Lib.hid (by have h1 := HG0.out.1; rw [hg, if_neg (by rw [HCK.out]; simp)] at h1; exact h1.symm)
  have HGE := Lib.hid hg
  obtain ⟨EF, hEF⟩ : ∃ E, goL sl ns gs am es = E := ⟨_, rfl⟩
  have HGL := Lib.hid hEF
  have HGN : Hid (goN sl ns gs am es m = (0, EF)) := Lib.hid (Prod.ext HGM.out (by rw [← hEF]; exact HG0.out.2.symm))
  have HLE : Hid (EF.length = el) := Lib.hid ((goN_ok hok hA.2.1 m EF HGN.out).2.trans hel)
  clear hEF
  have HC := Lib.hid hc
  clear hc hg
  have HL := Lib.hid (fun w => light_any sa sl sc ea el ec w)
  rw [hl] at HL
  have HS := Lib.hid hS
  have HE := Lib.hid hE
  have HOK := Lib.hid hok
  have HSL := Lib.hid hsl
  have HEL := Lib.hid hel
  have HN := Lib.hid hN
  have HG := Lib.hid hG
  have HA := Lib.hid hA
  have HNL := Lib.hid hn
  have HML := Lib.hid hm
  have HKL := Lib.hid hk
  have BV : Hid (Below w.heap.size w ((w.alloc (.cells #[.slice sa sl sc, .slice ea el ec] 25)).alloc (.cells #[.slice na n nc, .slice ga m gc, .slice aa k ac] 87))) := Lib.hid (((Below.refl _ _).alloc (Nat.le_refl _) _).alloc (by simp) _)
  have PV : Hid (Blk ((w.alloc (.cells #[.slice sa sl sc, .slice ea el ec] 25)).alloc (.cells #[.slice na n nc, .slice ga m gc, .slice aa k ac] 87)) w.heap.size 25 [.slice sa sl sc, .slice ea el ec]) := Lib.hid ((Blk.new w 25 [.slice sa sl sc, .slice ea el ec]).alloc _)
  have RV : Hid (Blk ((w.alloc (.cells #[.slice sa sl sc, .slice ea el ec] 25)).alloc (.cells #[.slice na n nc, .slice ga m gc, .slice aa k ac] 87)) (w.heap.size + 1) 87 [.slice na n nc, .slice ga m gc, .slice aa k ac]) := Lib.hid (Blk.mk_ (cs := [.slice na n nc, .slice ga m gc, .slice aa k ac]) (by simp))
  clear hl hS hE hok hsl hel hN hG hA hn hm hk
  go_enter Try.func10, Try.ntmps10
  go_upto_region 1 with fail
  generalize ((w.alloc (.cells #[.slice sa sl sc, .slice ea el ec] 25)).alloc (.cells #[.slice na n nc, .slice ga m gc, .slice aa k ac] 87)) = V at BV PV RV ⊢
  obtain ⟨gr, hgr⟩ : ∃ g, w.heap.size + 1 = g := ⟨_, rfl⟩
  obtain ⟨gp, hgp⟩ : ∃ g, w.heap.size = g := ⟨_, rfl⟩
  rw [hgr] at RV ⊢
  rw [hgp] at PV ⊢
  clear hgr hgp
  have p0 := PV.out.cell 0
  have p1 := PV.out.cell 1
  simp only [List.getElem?_cons_zero, List.getElem?_cons_succ] at p0 p1
  go_wp2_with fail
  clear p0 p1
  refine (HL.out _).mono ?_
  rintro e Y ⟨rfl, hB⟩
  have BY := Lib.hid (BV.out.trans (hB.mono BV.out.size))
  have PY := Lib.hid (PV.out.below hB PV.out.lt)
  have RY := Lib.hid (RV.out.below hB RV.out.lt)
  clear hB BV PV RV HL
  have hlt : sl ≤ 20 ∧ el ≤ 30 := HLT.out
  obtain ⟨hs20, he30⟩ := hlt
  have d1 : decide ((20 : Int) < (m : Int)) = false := decide_eq_false (by omega)
  have d2 : decide ((20 : Int) < (n : Int)) = false := decide_eq_false (by omega)
  have d3 : decide ((20 : Int) < (k : Int)) = false := decide_eq_false (by omega)
  have r0 := RY.out.cell 0
  have r1 := RY.out.cell 1
  have r2 := RY.out.cell 2
  simp only [List.getElem?_cons_zero, List.getElem?_cons_succ] at r0 r1 r2
  go_upto_region 3 with fail
  clear r0 r1 r2 d1 d2 d3
  go_cut [5, 6] (fun p q wc => ∃ (g5 : Nat) (y1 : Option Addr) (z1 : Nat) (y2 : Option Addr) (z2 : Nat), p = .pointer (some ⟨g5, 0, none⟩) ∧ q = .int .i64 0 ∧ Hid (Blk wc gp 25 [.slice sa sl sc, .slice ea el ec]) ∧ Hid (Blk wc gr 87 [.slice na n nc, .slice ga m gc, .slice aa k ac]) ∧ Hid (Below w.heap.size w wc) ∧ Hid (Blk wc g5 31 [.slice y1 sl z1, .slice y2 el z2]) ∧ Hid (SpotRow wc y1 sp) ∧ Hid (EdgeRow wc y2 EF))
  case first =>
    have hBz : Below Y.heap.size Y Y.drew := below_drewN (Below.refl _ _) 1
    have PX0 : Hid (Blk Y.drew gp 25 [.slice sa sl sc, .slice ea el ec]) := Lib.hid (PY.out.below hBz PY.out.lt)
    have RX0 : Hid (Blk Y.drew gr 87 [.slice na n nc, .slice ga m gc, .slice aa k ac]) := Lib.hid (RY.out.below hBz RY.out.lt)
    have BX0 : Hid (Below w.heap.size w Y.drew) := Lib.hid (BY.out.trans (hBz.mono BY.out.size))
    clear hBz
    refine wp_region_held_drew (S := fun w' => Blk w' gp 25 [.slice sa sl sc, .slice ea el ec] ∧ Blk w' gr 87 [.slice na n nc, .slice ga m gc, .slice aa k ac]) (by kernel_rfl) (⟨PX0.out, RX0.out⟩) (fun hHeld => ?_)
    generalize Y.drew = X0 at hHeld PX0 RX0 BX0 ⊢
    refine wpAnyH_take (i := 0) (v := .pointer (some ⟨gr, 0, none⟩)) rfl (by kernel_rfl) (by kernel_rfl) (by kernel_rfl) (fun _ _ _ h => h) (Or.inl ⟨by rfl, by intro w' h; go_simp⟩) hHeld ?_
    show wpAnyH _ _ _ _ _ _ _ (Act.put _ (some 33) _) _
    simp only [Act.put, List.setIfInBounds_toArray, List.set_cons_zero, List.set_cons_succ]
    refine wpAnyH_take (i := 1) (v := .slice na n nc) rfl (by kernel_rfl) (by kernel_rfl) (by kernel_rfl) (fun _ _ _ h => h) (Or.inl ⟨by rfl, by intro w' h; have k0 := Blk.cell h.2 0; simp only [List.getElem?_cons_zero] at k0; go_simp⟩) hHeld ?_
    show wpAnyH _ _ _ _ _ _ _ (Act.put _ (some 34) _) _
    simp only [Act.put, List.setIfInBounds_toArray, List.set_cons_zero, List.set_cons_succ]
    refine wpAnyH_take (i := 2) (v := .pointer (some ⟨gr, 1, none⟩)) rfl (by kernel_rfl) (by kernel_rfl) (by kernel_rfl) (fun _ _ _ h => h) (Or.inl ⟨by rfl, by intro w' h; go_simp⟩) hHeld ?_
    show wpAnyH _ _ _ _ _ _ _ (Act.put _ (some 35) _) _
    simp only [Act.put, List.setIfInBounds_toArray, List.set_cons_zero, List.set_cons_succ]
    refine wpAnyH_take (i := 3) (v := .slice ga m gc) rfl (by kernel_rfl) (by kernel_rfl) (by kernel_rfl) (fun _ _ _ h => h) (Or.inl ⟨by rfl, by intro w' h; have k0 := Blk.cell h.2 1; simp only [List.getElem?_cons_zero, List.getElem?_cons_succ] at k0; go_simp⟩) hHeld ?_
    show wpAnyH _ _ _ _ _ _ _ (Act.put _ (some 36) _) _
    simp only [Act.put, List.setIfInBounds_toArray, List.set_cons_zero, List.set_cons_succ]
    refine wpAnyH_take (i := 4) (v := .pointer (some ⟨gr, 2, none⟩)) rfl (by kernel_rfl) (by kernel_rfl) (by kernel_rfl) (fun _ _ _ h => h) (Or.inl ⟨by rfl, by intro w' h; go_simp⟩) hHeld ?_
    show wpAnyH _ _ _ _ _ _ _ (Act.put _ (some 37) _) _
    simp only [Act.put, List.setIfInBounds_toArray, List.set_cons_zero, List.set_cons_succ]
    refine wpAnyH_take (i := 5) (v := .slice aa k ac) rfl (by kernel_rfl) (by kernel_rfl) (by kernel_rfl) (fun _ _ _ h => h) (Or.inl ⟨by rfl, by intro w' h; have k0 := Blk.cell h.2 2; simp only [List.getElem?_cons_zero, List.getElem?_cons_succ] at k0; go_simp⟩) hHeld ?_
    show wpAnyH _ _ _ _ _ _ _ (Act.put _ (some 38) _) _
    simp only [Act.put, List.setIfInBounds_toArray, List.set_cons_zero, List.set_cons_succ]
    refine wpAnyH_take (i := 6) (v := .agg #[.slice na n nc, .slice ga m gc, .slice aa k ac]) rfl (by kernel_rfl) (by kernel_rfl) (by kernel_rfl) (fun _ _ _ h => h) (Or.inl ⟨by rfl, by intro w' h; go_simp⟩) hHeld ?_
    show wpAnyH _ _ _ _ _ _ _ (Act.put _ (some 39) _) _
    simp only [Act.put, List.setIfInBounds_toArray, List.set_cons_zero, List.set_cons_succ]
    refine wpAnyH_take (i := 7) (v := .agg #[.slice sa sl sc, .slice ea el ec]) rfl (by kernel_rfl) (by kernel_rfl) (by kernel_rfl) (fun _ _ _ h => h) (Or.inl ⟨by rfl, by intro w' h; have k0 := Blk.cell h.1 0; have k1 := Blk.cell h.1 1; simp only [List.getElem?_cons_zero, List.getElem?_cons_succ] at k0 k1; go_simp⟩) hHeld ?_
    show wpAnyH _ _ _ _ _ _ _ (Act.put _ (some 40) _) _
    simp only [Act.put, List.setIfInBounds_toArray, List.set_cons_zero, List.set_cons_succ]
    refine wpAnyH_ready (rs := [8, 13]) (by kernel_rfl) (by simp) ?_
    refine AllReadyH.cons rfl (fun K hK => ?_) (AllReadyH.cons rfl (fun K hK => ?_) AllReadyH.nil)
    · refine step_call rfl 15 #[.tmp 40] #[25] rfl #[.agg #[.slice sa sl sc, .slice ea el ec]] (by simp [Act.eval]) (by go_simp) (wto_any sa sl sc ea el ec sp es X0 (HS.out.below BX0.out) (HE.out.below BX0.out) HSL.out HEL.out hs20 he30) ?_
      rintro e X1 ⟨sa1, sc1, ea1, ec1, rfl, hS1, hE1, hn1, hn2, hB⟩
      have PX1 : Hid (Blk X1 gp 25 [.slice sa sl sc, .slice ea el ec]) := Lib.hid (PX0.out.below hB PX0.out.lt)
      have RX1 : Hid (Blk X1 gr 87 [.slice na n nc, .slice ga m gc, .slice aa k ac]) := Lib.hid (RX0.out.below hB RX0.out.lt)
      have BX1 : Hid (Below w.heap.size w X1) := Lib.hid (BX0.out.trans (hB.mono BX0.out.size))
      have SX1 : Hid (SpotRow X1 sa1 sp) := Lib.hid (hS1)
      have EX1 : Hid (EdgeRow X1 ea1 es) := Lib.hid (hE1)
      have HN1 := Lib.hid hn1
      have HN2 := Lib.hid hn2
      clear PX0 RX0 BX0 hB hS1 hE1 hn1 hn2
      refine ⟨_, rfl, hK.out _ _ (⟨PX1.out, RX1.out⟩) (fun hHeld => ?_)⟩
      clear hK K
      show wpAnyH _ _ _ _ _ _ _ (Act.put _ (some 41) _) _
      simp only [Act.put, List.setIfInBounds_toArray, List.set_cons_zero, List.set_cons_succ]
      refine wpAnyH_ready (rs := [9, 13]) (by kernel_rfl) (by simp) ?_
      refine AllReadyH.cons rfl (fun K hK => ?_) (AllReadyH.cons rfl (fun K hK => ?_) AllReadyH.nil)
      · refine step_call rfl 42 #[.tmp 39, .tmp 41] #[89, 31] rfl #[.agg #[.slice na n nc, .slice ga m gc, .slice aa k ac], .agg #[.slice sa1 sl sc1, .slice ea1 el ec1]] (by simp [Act.eval]) (by go_simp) (go_any na ga aa n nc m gc k ac ns gs am sa1 sl sc1 ea1 el ec1 sp es X1 (HN.out.below BX1.out) (HG.out.below BX1.out) (HA.out.below BX1.out) HNL.out HML.out HKL.out (by omega) (by omega) (by omega) SX1.out EX1.out HSL.out HEL.out (by omega) (by omega) HN1.out HN2.out HOK.out HA.out.2.1) ?_
        rintro e X2 ⟨v, rfl, hB, hv, _⟩
        rw [HSL.out, HGE.out]
        obtain ⟨y1, z1, y2, z2, rfl, hs3, he3, _, _⟩ := hv (by rw [HSL.out]; exact HGE.out)
        rw [HSL.out] at he3 ⊢
        rw [HGL.out, HLE.out]
        rw [HGL.out] at he3
        clear hv
        have PX2 : Hid (Blk X2 gp 25 [.slice sa sl sc, .slice ea el ec]) := Lib.hid (PX1.out.below hB PX1.out.lt)
        have RX2 : Hid (Blk X2 gr 87 [.slice na n nc, .slice ga m gc, .slice aa k ac]) := Lib.hid (RX1.out.below hB RX1.out.lt)
        have BX2 : Hid (Below w.heap.size w X2) := Lib.hid (BX1.out.trans (hB.mono BX1.out.size))
        have SX2 : Hid (SpotRow X2 sa1 sp) := Lib.hid (SX1.out.below hB)
        have EX2 : Hid (EdgeRow X2 ea1 es) := Lib.hid (EX1.out.below hB)
        have FX2 : Hid (SpotRow X2 y1 sp) := Lib.hid (hs3)
        have GX2 : Hid (EdgeRow X2 y2 EF) := Lib.hid (he3)
        clear PX1 RX1 BX1 SX1 EX1 hB hs3 he3
        refine ⟨_, rfl, hK.out _ _ (⟨PX2.out, RX2.out⟩) (fun hHeld => ?_)⟩
        clear hK K
        show wpAnyH _ _ _ _ _ _ _ (Act.put _ (some 42) _) _
        simp only [Act.put, List.setIfInBounds_toArray, List.set_cons_zero, List.set_cons_succ]
        refine wpAnyH_take (i := 10) (v := .tuple #[.agg #[.slice y1 sl z1, .slice y2 el z2], .int .i64 0]) rfl (by kernel_rfl) (by kernel_rfl) (by kernel_rfl) (fun _ _ _ h => h) (Or.inl ⟨by rfl, fun w _ => by rfl⟩) hHeld ?_
        show wpAnyH _ _ _ _ _ _ _ (Act.put _ (some 32) _) _
        simp only [Act.put, List.setIfInBounds_toArray, List.set_cons_zero, List.set_cons_succ]
        refine wpAnyH_take (i := 11) (v := .agg #[.slice y1 sl z1, .slice y2 el z2]) rfl (by kernel_rfl) (by kernel_rfl) (by kernel_rfl) (fun _ _ _ h => h) (Or.inl ⟨by rfl, by intro w' h; go_simp⟩) hHeld ?_
        show wpAnyH _ _ _ _ _ _ _ (Act.put _ (some 43) _) _
        simp only [Act.put, List.setIfInBounds_toArray, List.set_cons_zero, List.set_cons_succ]
        refine wpAnyH_take (i := 12) (v := .int .i64 0) rfl (by kernel_rfl) (by kernel_rfl) (by kernel_rfl) (fun _ _ _ h => h) (Or.inl ⟨by rfl, by intro w' h; go_simp⟩) hHeld ?_
        show wpAnyH _ _ _ _ _ _ _ (Act.put _ (some 44) _) _
        simp only [Act.put, List.setIfInBounds_toArray, List.set_cons_zero, List.set_cons_succ]
        refine wpAnyH_ready (rs := [13]) (by kernel_rfl) (by simp) ?_
        refine AllReadyH.cons rfl (fun K hK => ?_) AllReadyH.nil
        refine step_web rfl rfl ?_
        intro X3 g5 hT hg5 hB
        have HG5 : Hid (w.heap.size ≤ g5) := Lib.hid (Nat.le_trans BX2.out.size hg5)
        have PX3 : Hid (Blk X3 gp 25 [.slice sa sl sc, .slice ea el ec]) := Lib.hid (PX2.out.below hB PX2.out.lt)
        have RX3 : Hid (Blk X3 gr 87 [.slice na n nc, .slice ga m gc, .slice aa k ac]) := Lib.hid (RX2.out.below hB RX2.out.lt)
        have BX3 : Hid (Below w.heap.size w X3) := Lib.hid (BX2.out.trans (hB.mono BX2.out.size))
        have SX3 : Hid (SpotRow X3 sa1 sp) := Lib.hid (SX2.out.below hB)
        have EX3 : Hid (EdgeRow X3 ea1 es) := Lib.hid (EX2.out.below hB)
        have FX3 : Hid (SpotRow X3 y1 sp) := Lib.hid (FX2.out.below hB)
        have GX3 : Hid (EdgeRow X3 y2 EF) := Lib.hid (GX2.out.below hB)
        have TX3 : Hid (Blk X3 g5 31 [.slice none 0 0, .slice none 0 0]) := Lib.hid (hT)
        clear PX2 RX2 BX2 SX2 EX2 FX2 GX2 hB hT hg5
        refine hK.out _ _ (⟨PX3.out, RX3.out⟩) (fun hHeld => ?_)
        clear hK K
        show wpAnyH _ _ _ _ _ _ _ (Act.put _ (some 5) _) _
        simp only [Act.put, List.setIfInBounds_toArray, List.set_cons_zero, List.set_cons_succ]
        refine wpAnyH_ready (rs := [14]) (by kernel_rfl) (by simp) ?_
        refine AllReadyH.cons rfl (fun K hK => ?_) AllReadyH.nil
        refine step_put31 rfl (.tmp 5) (.tmp 43) rfl g5 _ _ y1 y2 sl z1 el z2 rfl rfl TX3.out ?_
        intro X4 hT hO
        have PX4 : Hid (Blk X4 gp 25 [.slice sa sl sc, .slice ea el ec]) := Lib.hid (PX3.out.grown hO (by intro e9; injection e9 with e9; exact Blk.ne_ PX3.out TX3.out (by decide) e9))
        have RX4 : Hid (Blk X4 gr 87 [.slice na n nc, .slice ga m gc, .slice aa k ac]) := Lib.hid (RX3.out.grown hO (by intro e9; injection e9 with e9; exact Blk.ne_ RX3.out TX3.out (by decide) e9))
        have BX4 : Hid (Below w.heap.size w X4) := Lib.hid (BX3.out.trans (only_up hO HG5.out BX3.out.size))
        have SX4 : Hid (SpotRow X4 sa1 sp) := Lib.hid (SX3.out.grown TX3.out (slices2 none none 0 0 0 0) hO)
        have EX4 : Hid (EdgeRow X4 ea1 es) := Lib.hid (EX3.out.grown TX3.out (slices2 none none 0 0 0 0) hO)
        have FX4 : Hid (SpotRow X4 y1 sp) := Lib.hid (FX3.out.grown TX3.out (slices2 none none 0 0 0 0) hO)
        have GX4 : Hid (EdgeRow X4 y2 EF) := Lib.hid (GX3.out.grown TX3.out (slices2 none none 0 0 0 0) hO)
        have TX4 : Hid (Blk X4 g5 31 [.slice y1 sl z1, .slice y2 el z2]) := Lib.hid (hT)
        clear PX3 RX3 BX3 SX3 EX3 FX3 GX3 hO hT
        refine hK.out _ _ (⟨PX4.out, RX4.out⟩) (fun hHeld => ?_)
        clear hK K
        show wpAnyH _ _ _ _ _ _ _ (Act.put _ none _) _
        simp only [Act.put]
        refine wpAnyH_take (i := 15) (v := .int .i64 0) rfl (by kernel_rfl) (by kernel_rfl) (by kernel_rfl) (fun _ _ _ h => h) (Or.inl ⟨by rfl, fun w _ => by rfl⟩) hHeld ?_
        show wpAnyH _ _ _ _ _ _ _ (Act.put _ (some 6) _) _
        simp only [Act.put, List.setIfInBounds_toArray, List.set_cons_zero, List.set_cons_succ]
        refine wpAnyH_done (by kernel_rfl) ?_ _
        clear hHeld
        go_wp2_with fail
        go_meet
        exact ⟨g5, y1, z1, y2, z2, rfl, rfl, PX4, RX4, BX4, TX4, FX4, GX4⟩
      · refine step_web rfl rfl ?_
        intro X2 g5 hT hg5 hB
        have HG5 : Hid (w.heap.size ≤ g5) := Lib.hid (Nat.le_trans BX1.out.size hg5)
        have PX2 : Hid (Blk X2 gp 25 [.slice sa sl sc, .slice ea el ec]) := Lib.hid (PX1.out.below hB PX1.out.lt)
        have RX2 : Hid (Blk X2 gr 87 [.slice na n nc, .slice ga m gc, .slice aa k ac]) := Lib.hid (RX1.out.below hB RX1.out.lt)
        have BX2 : Hid (Below w.heap.size w X2) := Lib.hid (BX1.out.trans (hB.mono BX1.out.size))
        have SX2 : Hid (SpotRow X2 sa1 sp) := Lib.hid (SX1.out.below hB)
        have EX2 : Hid (EdgeRow X2 ea1 es) := Lib.hid (EX1.out.below hB)
        have TX2 : Hid (Blk X2 g5 31 [.slice none 0 0, .slice none 0 0]) := Lib.hid (hT)
        clear PX1 RX1 BX1 SX1 EX1 hB hT hg5
        refine hK.out _ _ (⟨PX2.out, RX2.out⟩) (fun hHeld => ?_)
        clear hK K
        show wpAnyH _ _ _ _ _ _ _ (Act.put _ (some 5) _) _
        simp only [Act.put, List.setIfInBounds_toArray, List.set_cons_zero, List.set_cons_succ]
        refine wpAnyH_ready (rs := [9]) (by kernel_rfl) (by simp) ?_
        refine AllReadyH.cons rfl (fun K hK => ?_) AllReadyH.nil
        refine step_call rfl 42 #[.tmp 39, .tmp 41] #[89, 31] rfl #[.agg #[.slice na n nc, .slice ga m gc, .slice aa k ac], .agg #[.slice sa1 sl sc1, .slice ea1 el ec1]] (by simp [Act.eval]) (by go_simp) (go_any na ga aa n nc m gc k ac ns gs am sa1 sl sc1 ea1 el ec1 sp es X2 (HN.out.below BX2.out) (HG.out.below BX2.out) (HA.out.below BX2.out) HNL.out HML.out HKL.out (by omega) (by omega) (by omega) SX2.out EX2.out HSL.out HEL.out (by omega) (by omega) HN1.out HN2.out HOK.out HA.out.2.1) ?_
        rintro e X3 ⟨v, rfl, hB, hv, _⟩
        rw [HSL.out, HGE.out]
        obtain ⟨y1, z1, y2, z2, rfl, hs3, he3, _, _⟩ := hv (by rw [HSL.out]; exact HGE.out)
        rw [HSL.out] at he3 ⊢
        rw [HGL.out, HLE.out]
        rw [HGL.out] at he3
        clear hv
        have PX3 : Hid (Blk X3 gp 25 [.slice sa sl sc, .slice ea el ec]) := Lib.hid (PX2.out.below hB PX2.out.lt)
        have RX3 : Hid (Blk X3 gr 87 [.slice na n nc, .slice ga m gc, .slice aa k ac]) := Lib.hid (RX2.out.below hB RX2.out.lt)
        have BX3 : Hid (Below w.heap.size w X3) := Lib.hid (BX2.out.trans (hB.mono BX2.out.size))
        have SX3 : Hid (SpotRow X3 sa1 sp) := Lib.hid (SX2.out.below hB)
        have EX3 : Hid (EdgeRow X3 ea1 es) := Lib.hid (EX2.out.below hB)
        have TX3 : Hid (Blk X3 g5 31 [.slice none 0 0, .slice none 0 0]) := Lib.hid (TX2.out.below hB TX2.out.lt)
        have FX3 : Hid (SpotRow X3 y1 sp) := Lib.hid (hs3)
        have GX3 : Hid (EdgeRow X3 y2 EF) := Lib.hid (he3)
        clear PX2 RX2 BX2 SX2 EX2 TX2 hB hs3 he3
        refine ⟨_, rfl, hK.out _ _ (⟨PX3.out, RX3.out⟩) (fun hHeld => ?_)⟩
        clear hK K
        show wpAnyH _ _ _ _ _ _ _ (Act.put _ (some 42) _) _
        simp only [Act.put, List.setIfInBounds_toArray, List.set_cons_zero, List.set_cons_succ]
        refine wpAnyH_take (i := 10) (v := .tuple #[.agg #[.slice y1 sl z1, .slice y2 el z2], .int .i64 0]) rfl (by kernel_rfl) (by kernel_rfl) (by kernel_rfl) (fun _ _ _ h => h) (Or.inl ⟨by rfl, fun w _ => by rfl⟩) hHeld ?_
        show wpAnyH _ _ _ _ _ _ _ (Act.put _ (some 32) _) _
        simp only [Act.put, List.setIfInBounds_toArray, List.set_cons_zero, List.set_cons_succ]
        refine wpAnyH_take (i := 11) (v := .agg #[.slice y1 sl z1, .slice y2 el z2]) rfl (by kernel_rfl) (by kernel_rfl) (by kernel_rfl) (fun _ _ _ h => h) (Or.inl ⟨by rfl, by intro w' h; go_simp⟩) hHeld ?_
        show wpAnyH _ _ _ _ _ _ _ (Act.put _ (some 43) _) _
        simp only [Act.put, List.setIfInBounds_toArray, List.set_cons_zero, List.set_cons_succ]
        refine wpAnyH_take (i := 12) (v := .int .i64 0) rfl (by kernel_rfl) (by kernel_rfl) (by kernel_rfl) (fun _ _ _ h => h) (Or.inl ⟨by rfl, by intro w' h; go_simp⟩) hHeld ?_
        show wpAnyH _ _ _ _ _ _ _ (Act.put _ (some 44) _) _
        simp only [Act.put, List.setIfInBounds_toArray, List.set_cons_zero, List.set_cons_succ]
        refine wpAnyH_ready (rs := [14]) (by kernel_rfl) (by simp) ?_
        refine AllReadyH.cons rfl (fun K hK => ?_) AllReadyH.nil
        refine step_put31 rfl (.tmp 5) (.tmp 43) rfl g5 _ _ y1 y2 sl z1 el z2 rfl rfl TX3.out ?_
        intro X4 hT hO
        have PX4 : Hid (Blk X4 gp 25 [.slice sa sl sc, .slice ea el ec]) := Lib.hid (PX3.out.grown hO (by intro e9; injection e9 with e9; exact Blk.ne_ PX3.out TX3.out (by decide) e9))
        have RX4 : Hid (Blk X4 gr 87 [.slice na n nc, .slice ga m gc, .slice aa k ac]) := Lib.hid (RX3.out.grown hO (by intro e9; injection e9 with e9; exact Blk.ne_ RX3.out TX3.out (by decide) e9))
        have BX4 : Hid (Below w.heap.size w X4) := Lib.hid (BX3.out.trans (only_up hO HG5.out BX3.out.size))
        have SX4 : Hid (SpotRow X4 sa1 sp) := Lib.hid (SX3.out.grown TX3.out (slices2 none none 0 0 0 0) hO)
        have EX4 : Hid (EdgeRow X4 ea1 es) := Lib.hid (EX3.out.grown TX3.out (slices2 none none 0 0 0 0) hO)
        have FX4 : Hid (SpotRow X4 y1 sp) := Lib.hid (FX3.out.grown TX3.out (slices2 none none 0 0 0 0) hO)
        have GX4 : Hid (EdgeRow X4 y2 EF) := Lib.hid (GX3.out.grown TX3.out (slices2 none none 0 0 0 0) hO)
        have TX4 : Hid (Blk X4 g5 31 [.slice y1 sl z1, .slice y2 el z2]) := Lib.hid (hT)
        clear PX3 RX3 BX3 SX3 EX3 FX3 GX3 hO hT
        refine hK.out _ _ (⟨PX4.out, RX4.out⟩) (fun hHeld => ?_)
        clear hK K
        show wpAnyH _ _ _ _ _ _ _ (Act.put _ none _) _
        simp only [Act.put]
        refine wpAnyH_take (i := 15) (v := .int .i64 0) rfl (by kernel_rfl) (by kernel_rfl) (by kernel_rfl) (fun _ _ _ h => h) (Or.inl ⟨by rfl, fun w _ => by rfl⟩) hHeld ?_
        show wpAnyH _ _ _ _ _ _ _ (Act.put _ (some 6) _) _
        simp only [Act.put, List.setIfInBounds_toArray, List.set_cons_zero, List.set_cons_succ]
        refine wpAnyH_done (by kernel_rfl) ?_ _
        clear hHeld
        go_wp2_with fail
        go_meet
        exact ⟨g5, y1, z1, y2, z2, rfl, rfl, PX4, RX4, BX4, TX4, FX4, GX4⟩
    · refine step_web rfl rfl ?_
      intro X1 g5 hT hg5 hB
      have HG5 : Hid (w.heap.size ≤ g5) := Lib.hid (Nat.le_trans BX0.out.size hg5)
      have PX1 : Hid (Blk X1 gp 25 [.slice sa sl sc, .slice ea el ec]) := Lib.hid (PX0.out.below hB PX0.out.lt)
      have RX1 : Hid (Blk X1 gr 87 [.slice na n nc, .slice ga m gc, .slice aa k ac]) := Lib.hid (RX0.out.below hB RX0.out.lt)
      have BX1 : Hid (Below w.heap.size w X1) := Lib.hid (BX0.out.trans (hB.mono BX0.out.size))
      have TX1 : Hid (Blk X1 g5 31 [.slice none 0 0, .slice none 0 0]) := Lib.hid (hT)
      clear PX0 RX0 BX0 hB hT hg5
      refine hK.out _ _ (⟨PX1.out, RX1.out⟩) (fun hHeld => ?_)
      clear hK K
      show wpAnyH _ _ _ _ _ _ _ (Act.put _ (some 5) _) _
      simp only [Act.put, List.setIfInBounds_toArray, List.set_cons_zero, List.set_cons_succ]
      refine wpAnyH_ready (rs := [8]) (by kernel_rfl) (by simp) ?_
      refine AllReadyH.cons rfl (fun K hK => ?_) AllReadyH.nil
      refine step_call rfl 15 #[.tmp 40] #[25] rfl #[.agg #[.slice sa sl sc, .slice ea el ec]] (by simp [Act.eval]) (by go_simp) (wto_any sa sl sc ea el ec sp es X1 (HS.out.below BX1.out) (HE.out.below BX1.out) HSL.out HEL.out hs20 he30) ?_
      rintro e X2 ⟨sa1, sc1, ea1, ec1, rfl, hS1, hE1, hn1, hn2, hB⟩
      have PX2 : Hid (Blk X2 gp 25 [.slice sa sl sc, .slice ea el ec]) := Lib.hid (PX1.out.below hB PX1.out.lt)
      have RX2 : Hid (Blk X2 gr 87 [.slice na n nc, .slice ga m gc, .slice aa k ac]) := Lib.hid (RX1.out.below hB RX1.out.lt)
      have BX2 : Hid (Below w.heap.size w X2) := Lib.hid (BX1.out.trans (hB.mono BX1.out.size))
      have TX2 : Hid (Blk X2 g5 31 [.slice none 0 0, .slice none 0 0]) := Lib.hid (TX1.out.below hB TX1.out.lt)
      have SX2 : Hid (SpotRow X2 sa1 sp) := Lib.hid (hS1)
      have EX2 : Hid (EdgeRow X2 ea1 es) := Lib.hid (hE1)
      have HN1 := Lib.hid hn1
      have HN2 := Lib.hid hn2
      clear PX1 RX1 BX1 TX1 hB hS1 hE1 hn1 hn2
      refine ⟨_, rfl, hK.out _ _ (⟨PX2.out, RX2.out⟩) (fun hHeld => ?_)⟩
      clear hK K
      show wpAnyH _ _ _ _ _ _ _ (Act.put _ (some 41) _) _
      simp only [Act.put, List.setIfInBounds_toArray, List.set_cons_zero, List.set_cons_succ]
      refine wpAnyH_ready (rs := [9]) (by kernel_rfl) (by simp) ?_
      refine AllReadyH.cons rfl (fun K hK => ?_) AllReadyH.nil
      refine step_call rfl 42 #[.tmp 39, .tmp 41] #[89, 31] rfl #[.agg #[.slice na n nc, .slice ga m gc, .slice aa k ac], .agg #[.slice sa1 sl sc1, .slice ea1 el ec1]] (by simp [Act.eval]) (by go_simp) (go_any na ga aa n nc m gc k ac ns gs am sa1 sl sc1 ea1 el ec1 sp es X2 (HN.out.below BX2.out) (HG.out.below BX2.out) (HA.out.below BX2.out) HNL.out HML.out HKL.out (by omega) (by omega) (by omega) SX2.out EX2.out HSL.out HEL.out (by omega) (by omega) HN1.out HN2.out HOK.out HA.out.2.1) ?_
      rintro e X3 ⟨v, rfl, hB, hv, _⟩
      rw [HSL.out, HGE.out]
      obtain ⟨y1, z1, y2, z2, rfl, hs3, he3, _, _⟩ := hv (by rw [HSL.out]; exact HGE.out)
      rw [HSL.out] at he3 ⊢
      rw [HGL.out, HLE.out]
      rw [HGL.out] at he3
      clear hv
      have PX3 : Hid (Blk X3 gp 25 [.slice sa sl sc, .slice ea el ec]) := Lib.hid (PX2.out.below hB PX2.out.lt)
      have RX3 : Hid (Blk X3 gr 87 [.slice na n nc, .slice ga m gc, .slice aa k ac]) := Lib.hid (RX2.out.below hB RX2.out.lt)
      have BX3 : Hid (Below w.heap.size w X3) := Lib.hid (BX2.out.trans (hB.mono BX2.out.size))
      have TX3 : Hid (Blk X3 g5 31 [.slice none 0 0, .slice none 0 0]) := Lib.hid (TX2.out.below hB TX2.out.lt)
      have SX3 : Hid (SpotRow X3 sa1 sp) := Lib.hid (SX2.out.below hB)
      have EX3 : Hid (EdgeRow X3 ea1 es) := Lib.hid (EX2.out.below hB)
      have FX3 : Hid (SpotRow X3 y1 sp) := Lib.hid (hs3)
      have GX3 : Hid (EdgeRow X3 y2 EF) := Lib.hid (he3)
      clear PX2 RX2 BX2 TX2 SX2 EX2 hB hs3 he3
      refine ⟨_, rfl, hK.out _ _ (⟨PX3.out, RX3.out⟩) (fun hHeld => ?_)⟩
      clear hK K
      show wpAnyH _ _ _ _ _ _ _ (Act.put _ (some 42) _) _
      simp only [Act.put, List.setIfInBounds_toArray, List.set_cons_zero, List.set_cons_succ]
      refine wpAnyH_take (i := 10) (v := .tuple #[.agg #[.slice y1 sl z1, .slice y2 el z2], .int .i64 0]) rfl (by kernel_rfl) (by kernel_rfl) (by kernel_rfl) (fun _ _ _ h => h) (Or.inl ⟨by rfl, fun w _ => by rfl⟩) hHeld ?_
      show wpAnyH _ _ _ _ _ _ _ (Act.put _ (some 32) _) _
      simp only [Act.put, List.setIfInBounds_toArray, List.set_cons_zero, List.set_cons_succ]
      refine wpAnyH_take (i := 11) (v := .agg #[.slice y1 sl z1, .slice y2 el z2]) rfl (by kernel_rfl) (by kernel_rfl) (by kernel_rfl) (fun _ _ _ h => h) (Or.inl ⟨by rfl, by intro w' h; go_simp⟩) hHeld ?_
      show wpAnyH _ _ _ _ _ _ _ (Act.put _ (some 43) _) _
      simp only [Act.put, List.setIfInBounds_toArray, List.set_cons_zero, List.set_cons_succ]
      refine wpAnyH_take (i := 12) (v := .int .i64 0) rfl (by kernel_rfl) (by kernel_rfl) (by kernel_rfl) (fun _ _ _ h => h) (Or.inl ⟨by rfl, by intro w' h; go_simp⟩) hHeld ?_
      show wpAnyH _ _ _ _ _ _ _ (Act.put _ (some 44) _) _
      simp only [Act.put, List.setIfInBounds_toArray, List.set_cons_zero, List.set_cons_succ]
      refine wpAnyH_ready (rs := [14]) (by kernel_rfl) (by simp) ?_
      refine AllReadyH.cons rfl (fun K hK => ?_) AllReadyH.nil
      refine step_put31 rfl (.tmp 5) (.tmp 43) rfl g5 _ _ y1 y2 sl z1 el z2 rfl rfl TX3.out ?_
      intro X4 hT hO
      have PX4 : Hid (Blk X4 gp 25 [.slice sa sl sc, .slice ea el ec]) := Lib.hid (PX3.out.grown hO (by intro e9; injection e9 with e9; exact Blk.ne_ PX3.out TX3.out (by decide) e9))
      have RX4 : Hid (Blk X4 gr 87 [.slice na n nc, .slice ga m gc, .slice aa k ac]) := Lib.hid (RX3.out.grown hO (by intro e9; injection e9 with e9; exact Blk.ne_ RX3.out TX3.out (by decide) e9))
      have BX4 : Hid (Below w.heap.size w X4) := Lib.hid (BX3.out.trans (only_up hO HG5.out BX3.out.size))
      have SX4 : Hid (SpotRow X4 sa1 sp) := Lib.hid (SX3.out.grown TX3.out (slices2 none none 0 0 0 0) hO)
      have EX4 : Hid (EdgeRow X4 ea1 es) := Lib.hid (EX3.out.grown TX3.out (slices2 none none 0 0 0 0) hO)
      have FX4 : Hid (SpotRow X4 y1 sp) := Lib.hid (FX3.out.grown TX3.out (slices2 none none 0 0 0 0) hO)
      have GX4 : Hid (EdgeRow X4 y2 EF) := Lib.hid (GX3.out.grown TX3.out (slices2 none none 0 0 0 0) hO)
      have TX4 : Hid (Blk X4 g5 31 [.slice y1 sl z1, .slice y2 el z2]) := Lib.hid (hT)
      clear PX3 RX3 BX3 SX3 EX3 FX3 GX3 hO hT
      refine hK.out _ _ (⟨PX4.out, RX4.out⟩) (fun hHeld => ?_)
      clear hK K
      show wpAnyH _ _ _ _ _ _ _ (Act.put _ none _) _
      simp only [Act.put]
      refine wpAnyH_take (i := 15) (v := .int .i64 0) rfl (by kernel_rfl) (by kernel_rfl) (by kernel_rfl) (fun _ _ _ h => h) (Or.inl ⟨by rfl, fun w _ => by rfl⟩) hHeld ?_
      show wpAnyH _ _ _ _ _ _ _ (Act.put _ (some 6) _) _
      simp only [Act.put, List.setIfInBounds_toArray, List.set_cons_zero, List.set_cons_succ]
      refine wpAnyH_done (by kernel_rfl) ?_ _
      clear hHeld
      go_wp2_with fail
      go_meet
      exact ⟨g5, y1, z1, y2, z2, rfl, rfl, PX4, RX4, BX4, TX4, FX4, GX4⟩
  case rest =>
    obtain ⟨g5, y1, z1, y2, z2, rfl, rfl, PC, RC, BC, TC, FC, GC⟩ := hcut
    have r0 := RC.out.cell 0
    have r1 := RC.out.cell 1
    have r2 := RC.out.cell 2
    simp only [List.getElem?_cons_zero, List.getElem?_cons_succ] at r0 r1 r2
    have b1 : ((m : Int) != (k : Int)) = false := by rw [HC.out.1]; simp
    have b2 : ((n : Int) != (m : Int) + 1) = false := by rw [HC.out.2]; simp
    go_upto_region 6 with fail
    clear r0 r1 r2 b1 b2
    obtain ⟨C, hC⟩ : ∃ C : World, wc = C := ⟨_, rfl⟩
    rw [hC] at PC RC BC TC FC GC ⊢
    clear hC
    go_cut [7, 8] (fun p q wd => ∃ (g7 : Nat), p = .pointer (some ⟨g7, 0, none⟩) ∧ q = .int .i64 (checkE sl es) ∧ Hid (w.heap.size ≤ g7) ∧ Hid (gp ≠ g7) ∧ Hid (Blk wd gp 25 [.slice sa sl sc, .slice ea el ec]) ∧ Hid (Blk wd gr 87 [.slice na n nc, .slice ga m gc, .slice aa k ac]) ∧ Hid (Below w.heap.size w wd) ∧ Hid (Blk wd g5 31 [.slice y1 sl z1, .slice y2 el z2]) ∧ Hid (SpotRow wd y1 sp) ∧ Hid (EdgeRow wd y2 EF) ∧ Hid (Blk wd g7 25 [.slice sa sl sc, .slice ea el ec]))
    case first =>
      have hBz : Below C.heap.size C C.drew := below_drewN (Below.refl _ _) 1
      have PX0 : Hid (Blk C.drew gp 25 [.slice sa sl sc, .slice ea el ec]) := Lib.hid (PC.out.below hBz PC.out.lt)
      have RX0 : Hid (Blk C.drew gr 87 [.slice na n nc, .slice ga m gc, .slice aa k ac]) := Lib.hid (RC.out.below hBz RC.out.lt)
      have BX0 : Hid (Below w.heap.size w C.drew) := Lib.hid (BC.out.trans (hBz.mono BC.out.size))
      have TX0 : Hid (Blk C.drew g5 31 [.slice y1 sl z1, .slice y2 el z2]) := Lib.hid (TC.out.below hBz TC.out.lt)
      have FX0 : Hid (SpotRow C.drew y1 sp) := Lib.hid (FC.out.below hBz)
      have GX0 : Hid (EdgeRow C.drew y2 EF) := Lib.hid (GC.out.below hBz)
      clear hBz
      refine wp_region_held_drew (S := fun w' => Blk w' gp 25 [.slice sa sl sc, .slice ea el ec]) (by kernel_rfl) (PX0.out) (fun hHeld => ?_)
      generalize C.drew = X0 at hHeld PX0 RX0 BX0 TX0 FX0 GX0 ⊢
      refine wpAnyH_take (i := 0) (v := .agg #[.slice sa sl sc, .slice ea el ec]) rfl (by kernel_rfl) (by kernel_rfl) (by kernel_rfl) (fun _ _ _ h => h) (Or.inl ⟨by rfl, by intro w' h; have k0 := Blk.cell h 0; have k1 := Blk.cell h 1; simp only [List.getElem?_cons_zero, List.getElem?_cons_succ] at k0 k1; go_simp⟩) hHeld ?_
      show wpAnyH _ _ _ _ _ _ _ (Act.put _ (some 73) _) _
      simp only [Act.put, List.setIfInBounds_toArray, List.set_cons_zero, List.set_cons_succ]
      refine wpAnyH_take (i := 1) (v := .agg #[.slice sa sl sc, .slice ea el ec]) rfl (by kernel_rfl) (by kernel_rfl) (by kernel_rfl) (fun _ _ _ h => h) (Or.inl ⟨by rfl, by intro w' h; have k0 := Blk.cell h 0; have k1 := Blk.cell h 1; simp only [List.getElem?_cons_zero, List.getElem?_cons_succ] at k0 k1; go_simp⟩) hHeld ?_
      show wpAnyH _ _ _ _ _ _ _ (Act.put _ (some 74) _) _
      simp only [Act.put, List.setIfInBounds_toArray, List.set_cons_zero, List.set_cons_succ]
      refine wpAnyH_ready (rs := [2, 3]) (by kernel_rfl) (by simp) ?_
      refine AllReadyH.cons rfl (fun K hK => ?_) (AllReadyH.cons rfl (fun K hK => ?_) AllReadyH.nil)
      · refine step_call rfl 19 #[.tmp 74] #[25] rfl #[.agg #[.slice sa sl sc, .slice ea el ec]] (by simp [Act.eval]) (by go_simp) (rcheck_any sa sl sc ea el ec es X0 (HE.out.below BX0.out) HEL.out (by omega) (by omega)) ?_
        rintro e X1 ⟨rfl, hB⟩
        have PX1 : Hid (Blk X1 gp 25 [.slice sa sl sc, .slice ea el ec]) := Lib.hid (PX0.out.below hB PX0.out.lt)
        have RX1 : Hid (Blk X1 gr 87 [.slice na n nc, .slice ga m gc, .slice aa k ac]) := Lib.hid (RX0.out.below hB RX0.out.lt)
        have BX1 : Hid (Below w.heap.size w X1) := Lib.hid (BX0.out.trans (hB.mono BX0.out.size))
        have TX1 : Hid (Blk X1 g5 31 [.slice y1 sl z1, .slice y2 el z2]) := Lib.hid (TX0.out.below hB TX0.out.lt)
        have FX1 : Hid (SpotRow X1 y1 sp) := Lib.hid (FX0.out.below hB)
        have GX1 : Hid (EdgeRow X1 y2 EF) := Lib.hid (GX0.out.below hB)
        clear PX0 RX0 BX0 TX0 FX0 GX0 hB
        refine ⟨_, rfl, hK.out _ _ (PX1.out) (fun hHeld => ?_)⟩
        clear hK K
        show wpAnyH _ _ _ _ _ _ _ (Act.put _ (some 75) _) _
        simp only [Act.put, List.setIfInBounds_toArray, List.set_cons_zero, List.set_cons_succ]
        refine wpAnyH_ready (rs := [3]) (by kernel_rfl) (by simp) ?_
        refine AllReadyH.cons rfl (fun K hK => ?_) AllReadyH.nil
        refine step_new25 rfl rfl ?_
        intro X2 g7 hB hT hg7
        have HG7 : Hid (w.heap.size ≤ g7) := Lib.hid (Nat.le_trans BX1.out.size hg7)
        have HPN : Hid (gp ≠ g7) := Lib.hid (by have := PX1.out.lt; omega)
        have PX2 : Hid (Blk X2 gp 25 [.slice sa sl sc, .slice ea el ec]) := Lib.hid (PX1.out.below hB PX1.out.lt)
        have RX2 : Hid (Blk X2 gr 87 [.slice na n nc, .slice ga m gc, .slice aa k ac]) := Lib.hid (RX1.out.below hB RX1.out.lt)
        have BX2 : Hid (Below w.heap.size w X2) := Lib.hid (BX1.out.trans (hB.mono BX1.out.size))
        have TX2 : Hid (Blk X2 g5 31 [.slice y1 sl z1, .slice y2 el z2]) := Lib.hid (TX1.out.below hB TX1.out.lt)
        have FX2 : Hid (SpotRow X2 y1 sp) := Lib.hid (FX1.out.below hB)
        have GX2 : Hid (EdgeRow X2 y2 EF) := Lib.hid (GX1.out.below hB)
        have NX2 : Hid (Blk X2 g7 25 [.slice none 0 0, .slice none 0 0]) := Lib.hid (hT)
        clear PX1 RX1 BX1 TX1 FX1 GX1 hB hT hg7
        refine hK.out _ _ (PX2.out) (fun hHeld => ?_)
        clear hK K
        show wpAnyH _ _ _ _ _ _ _ (Act.put _ (some 7) _) _
        simp only [Act.put, List.setIfInBounds_toArray, List.set_cons_zero, List.set_cons_succ]
        refine wpAnyH_ready (rs := [4]) (by kernel_rfl) (by simp) ?_
        refine AllReadyH.cons rfl (fun K hK => ?_) AllReadyH.nil
        refine step_store25 rfl (.tmp 7) (.tmp 73) rfl g7 _ _ sa ea sl sc el ec rfl rfl NX2.out ?_
        intro X3 hT hO
        have PX3 : Hid (Blk X3 gp 25 [.slice sa sl sc, .slice ea el ec]) := Lib.hid (PX2.out.grown hO (by intro e9; injection e9 with e9; exact HPN.out e9))
        have RX3 : Hid (Blk X3 gr 87 [.slice na n nc, .slice ga m gc, .slice aa k ac]) := Lib.hid (RX2.out.grown hO (by intro e9; injection e9 with e9; exact Blk.ne_ RX2.out NX2.out (by decide) e9))
        have BX3 : Hid (Below w.heap.size w X3) := Lib.hid (BX2.out.trans (only_up hO HG7.out BX2.out.size))
        have TX3 : Hid (Blk X3 g5 31 [.slice y1 sl z1, .slice y2 el z2]) := Lib.hid (TX2.out.grown hO (by intro e9; injection e9 with e9; exact Blk.ne_ TX2.out NX2.out (by decide) e9))
        have FX3 : Hid (SpotRow X3 y1 sp) := Lib.hid (FX2.out.grown NX2.out (slices2 none none 0 0 0 0) hO)
        have GX3 : Hid (EdgeRow X3 y2 EF) := Lib.hid (GX2.out.grown NX2.out (slices2 none none 0 0 0 0) hO)
        have NX3 : Hid (Blk X3 g7 25 [.slice sa sl sc, .slice ea el ec]) := Lib.hid (hT)
        clear PX2 RX2 BX2 TX2 FX2 GX2 hO hT
        refine hK.out _ _ (PX3.out) (fun hHeld => ?_)
        clear hK K
        show wpAnyH _ _ _ _ _ _ _ (Act.put _ none _) _
        simp only [Act.put]
        refine wpAnyH_take (i := 5) (v := .int .i64 (checkE sl es)) rfl (by kernel_rfl) (by kernel_rfl) (by kernel_rfl) (fun _ _ _ h => h) (Or.inl ⟨by rfl, fun w _ => by rfl⟩) hHeld ?_
        show wpAnyH _ _ _ _ _ _ _ (Act.put _ (some 8) _) _
        simp only [Act.put, List.setIfInBounds_toArray, List.set_cons_zero, List.set_cons_succ]
        refine wpAnyH_done (by kernel_rfl) ?_ _
        clear hHeld
        go_wp2_with fail
        go_meet
        exact ⟨g7, rfl, rfl, HG7, HPN, PX3, RX3, BX3, TX3, FX3, GX3, NX3⟩
      · refine step_new25 rfl rfl ?_
        intro X1 g7 hB hT hg7
        have HG7 : Hid (w.heap.size ≤ g7) := Lib.hid (Nat.le_trans BX0.out.size hg7)
        have HPN : Hid (gp ≠ g7) := Lib.hid (by have := PX0.out.lt; omega)
        have PX1 : Hid (Blk X1 gp 25 [.slice sa sl sc, .slice ea el ec]) := Lib.hid (PX0.out.below hB PX0.out.lt)
        have RX1 : Hid (Blk X1 gr 87 [.slice na n nc, .slice ga m gc, .slice aa k ac]) := Lib.hid (RX0.out.below hB RX0.out.lt)
        have BX1 : Hid (Below w.heap.size w X1) := Lib.hid (BX0.out.trans (hB.mono BX0.out.size))
        have TX1 : Hid (Blk X1 g5 31 [.slice y1 sl z1, .slice y2 el z2]) := Lib.hid (TX0.out.below hB TX0.out.lt)
        have FX1 : Hid (SpotRow X1 y1 sp) := Lib.hid (FX0.out.below hB)
        have GX1 : Hid (EdgeRow X1 y2 EF) := Lib.hid (GX0.out.below hB)
        have NX1 : Hid (Blk X1 g7 25 [.slice none 0 0, .slice none 0 0]) := Lib.hid (hT)
        clear PX0 RX0 BX0 TX0 FX0 GX0 hB hT hg7
        refine hK.out _ _ (PX1.out) (fun hHeld => ?_)
        clear hK K
        show wpAnyH _ _ _ _ _ _ _ (Act.put _ (some 7) _) _
        simp only [Act.put, List.setIfInBounds_toArray, List.set_cons_zero, List.set_cons_succ]
        refine wpAnyH_ready (rs := [2]) (by kernel_rfl) (by simp) ?_
        refine AllReadyH.cons rfl (fun K hK => ?_) AllReadyH.nil
        refine step_call rfl 19 #[.tmp 74] #[25] rfl #[.agg #[.slice sa sl sc, .slice ea el ec]] (by simp [Act.eval]) (by go_simp) (rcheck_any sa sl sc ea el ec es X1 (HE.out.below BX1.out) HEL.out (by omega) (by omega)) ?_
        rintro e X2 ⟨rfl, hB⟩
        have PX2 : Hid (Blk X2 gp 25 [.slice sa sl sc, .slice ea el ec]) := Lib.hid (PX1.out.below hB PX1.out.lt)
        have RX2 : Hid (Blk X2 gr 87 [.slice na n nc, .slice ga m gc, .slice aa k ac]) := Lib.hid (RX1.out.below hB RX1.out.lt)
        have BX2 : Hid (Below w.heap.size w X2) := Lib.hid (BX1.out.trans (hB.mono BX1.out.size))
        have TX2 : Hid (Blk X2 g5 31 [.slice y1 sl z1, .slice y2 el z2]) := Lib.hid (TX1.out.below hB TX1.out.lt)
        have FX2 : Hid (SpotRow X2 y1 sp) := Lib.hid (FX1.out.below hB)
        have GX2 : Hid (EdgeRow X2 y2 EF) := Lib.hid (GX1.out.below hB)
        have NX2 : Hid (Blk X2 g7 25 [.slice none 0 0, .slice none 0 0]) := Lib.hid (NX1.out.below hB NX1.out.lt)
        clear PX1 RX1 BX1 TX1 FX1 GX1 NX1 hB
        refine ⟨_, rfl, hK.out _ _ (PX2.out) (fun hHeld => ?_)⟩
        clear hK K
        show wpAnyH _ _ _ _ _ _ _ (Act.put _ (some 75) _) _
        simp only [Act.put, List.setIfInBounds_toArray, List.set_cons_zero, List.set_cons_succ]
        refine wpAnyH_ready (rs := [4]) (by kernel_rfl) (by simp) ?_
        refine AllReadyH.cons rfl (fun K hK => ?_) AllReadyH.nil
        refine step_store25 rfl (.tmp 7) (.tmp 73) rfl g7 _ _ sa ea sl sc el ec rfl rfl NX2.out ?_
        intro X3 hT hO
        have PX3 : Hid (Blk X3 gp 25 [.slice sa sl sc, .slice ea el ec]) := Lib.hid (PX2.out.grown hO (by intro e9; injection e9 with e9; exact HPN.out e9))
        have RX3 : Hid (Blk X3 gr 87 [.slice na n nc, .slice ga m gc, .slice aa k ac]) := Lib.hid (RX2.out.grown hO (by intro e9; injection e9 with e9; exact Blk.ne_ RX2.out NX2.out (by decide) e9))
        have BX3 : Hid (Below w.heap.size w X3) := Lib.hid (BX2.out.trans (only_up hO HG7.out BX2.out.size))
        have TX3 : Hid (Blk X3 g5 31 [.slice y1 sl z1, .slice y2 el z2]) := Lib.hid (TX2.out.grown hO (by intro e9; injection e9 with e9; exact Blk.ne_ TX2.out NX2.out (by decide) e9))
        have FX3 : Hid (SpotRow X3 y1 sp) := Lib.hid (FX2.out.grown NX2.out (slices2 none none 0 0 0 0) hO)
        have GX3 : Hid (EdgeRow X3 y2 EF) := Lib.hid (GX2.out.grown NX2.out (slices2 none none 0 0 0 0) hO)
        have NX3 : Hid (Blk X3 g7 25 [.slice sa sl sc, .slice ea el ec]) := Lib.hid (hT)
        clear PX2 RX2 BX2 TX2 FX2 GX2 hO hT
        refine hK.out _ _ (PX3.out) (fun hHeld => ?_)
        clear hK K
        show wpAnyH _ _ _ _ _ _ _ (Act.put _ none _) _
        simp only [Act.put]
        refine wpAnyH_take (i := 5) (v := .int .i64 (checkE sl es)) rfl (by kernel_rfl) (by kernel_rfl) (by kernel_rfl) (fun _ _ _ h => h) (Or.inl ⟨by rfl, fun w _ => by rfl⟩) hHeld ?_
        show wpAnyH _ _ _ _ _ _ _ (Act.put _ (some 8) _) _
        simp only [Act.put, List.setIfInBounds_toArray, List.set_cons_zero, List.set_cons_succ]
        refine wpAnyH_done (by kernel_rfl) ?_ _
        clear hHeld
        go_wp2_with fail
        go_meet
        exact ⟨g7, rfl, rfl, HG7, HPN, PX3, RX3, BX3, TX3, FX3, GX3, NX3⟩
    case rest =>
      obtain ⟨g7, rfl, rfl, HG7, HPN, PD, RD, BD, TD, FD, GD, ND⟩ := hcut
      obtain ⟨D, hD⟩ : ∃ D : World, wc = D := ⟨_, rfl⟩
      rw [hD] at PD RD BD TD FD GD ND ⊢
      clear hD
      go_wp2_with fail
      go_loopw [8, 9] (fun s8 s9 wd => ∃ (i : Nat) (fe : Int) (q1 : Option Addr) (l1 o1 : Nat) (q2 : Option Addr) (l2 o2 : Nat), i ≤ m ∧ s9 = .int .i64 (i : Int) ∧ s8 = .int .i64 fe ∧ Hid (Blk wd gp 25 [.slice sa sl sc, .slice ea el ec]) ∧ Hid (Blk wd gr 87 [.slice na n nc, .slice ga m gc, .slice aa k ac]) ∧ Hid (Below w.heap.size w wd) ∧ Hid (Blk wd g5 31 [.slice y1 sl z1, .slice y2 el z2]) ∧ Hid (SpotRow wd y1 sp) ∧ Hid (EdgeRow wd y2 EF) ∧ Hid (Blk wd g7 25 [.slice q1 l1 o1, .slice q2 l2 o2]) ∧ Hid ((fe = 0 ∧ q1 = sa ∧ l1 = sl ∧ o1 = sc ∧ l2 = el ∧ ∃ E, EdgeRow wd q2 E ∧ goN sl ns gs am es i = (0, E) ∧ checkE sl es = 0) ∨ (fe ≠ 0 ∧ goE sl ns gs am es = fe))) (fun _ i _ => m - (intOf i).toNat)
      case atStart => exact ⟨0, checkE sl es, sa, sl, sc, ea, el, ec, Nat.zero_le _, rfl, rfl, PD, RD, BD, TD, FD, GD, ND, Lib.hid (.inl ⟨HCK.out, rfl, rfl, rfl, rfl, es, HE.out.below BD.out, rfl, HCK.out⟩)⟩
      case round =>
        clear PD RD BD TD FD GD ND
        obtain ⟨i, fe, q1, l1, o1, q2, l2, o2, hi, rfl, rfl, Pw, Rw, Bw, Tw, Fw, Gw, Nw, Hf⟩ := hrel
        obtain ⟨wj, hwj⟩ : ∃ wj : World, wr = wj := ⟨_, rfl⟩
        rw [hwj] at Pw Rw Bw Tw Fw Gw Nw Hf ⊢
        clear hwj
        have r1 : wj.cell? ⟨gr, 1, none⟩ = some (.slice ga m gc) := Rw.out.cell 1
        by_cases hil : i < m
        · have d1 : decide ((i : Int) < (m : Int)) = true := decide_eq_true (by omega)
          have hiI : (i : Int) < (m : Int) := by omega
          by_cases hfe : fe = 0
          · subst hfe
            obtain ⟨_, e1, e2, e3, e4, E, hE9, hg, hck⟩ := Hf.out.resolve_right (fun h => h.1 rfl)
            have e1 := e1.symm
            have e2 := e2.symm
            have e3 := e3.symm
            have e4 := e4.symm
            subst e1
            subst e2
            subst e3
            subst e4
            have HGO := Lib.hid hg
            have HCK9 := Lib.hid hck
            have HOE := Lib.hid (goN_ok HOK.out HWD.out i E hg)
            have Qw := Lib.hid hE9
            clear hE9 hg hck Hf
            have hin : i < n := by have := HC.out.2; omega
            have hik : i < k := by have := HC.out.1; omega
            obtain ⟨gi, hgi⟩ : ∃ x, gs.getD i 0 = x := ⟨_, rfl⟩
            obtain ⟨ni, hni⟩ : ∃ x, ns.getD i 0 = x := ⟨_, rfl⟩
            obtain ⟨ai, hai⟩ : ∃ x, am.getD i 0 = x := ⟨_, rfl⟩
            obtain ⟨bg, og, hga, hcg⟩ := irow_at (HG.out.below Bw.out) (by rw [HML.out]; exact hil)
            obtain ⟨bn, on, hna, hcn⟩ := irow_at (HN.out.below Bw.out) (by rw [HNL.out]; exact hin)
            obtain ⟨ba, oa, haa, hca⟩ := nums_row_at (HA.out.below Bw.out) (by rw [HKL.out]; exact hik)
            rw [hgi] at hcg
            rw [hni] at hcn
            rw [hai] at hca
            subst hga hna haa
            have HWA : Hid (Word ai) := Lib.hid (by rw [← hai, List.getD_eq_getElem?_getD, List.getElem?_eq_getElem (by rw [HKL.out]; exact hik)]; exact HWD.out _ (List.getElem_mem _))
            have HGI := Lib.hid hgi
            have HNI := Lib.hid hni
            have HAI := Lib.hid hai
            have Jw := Lib.hid hcg
            have Kw := Lib.hid hcn
            have Lw := Lib.hid hca
            have Hnn : Hid ((i : Int) < (n : Int)) := Lib.hid (by omega)
            have Hkk : Hid ((i : Int) < (k : Int)) := Lib.hid (by omega)
            have Hmm : Hid ((i : Int) < (m : Int)) := Lib.hid (by omega)
            clear hgi hni hai hcn hca hcg hin hik
            go_upto_region 10 with fail
            clear r1 d1
            have Pwj := Pw
            have Rwj := Rw
            have Bwj := Bw
            have Twj := Tw
            have Fwj := Fw
            have Gwj := Gw
            have Nwj := Nw
            have Qwj := Qw
            have Jwj := Jw
            have Kwj := Kw
            have Lwj := Lw
            clear Pw Rw Bw Tw Fw Gw Nw Qw Jw Kw Lw
            by_cases her : sentErr sl E gi ni ai = 0
            · have HER := Lib.hid her
              have HNX : Hid (goN sl ns gs am es (i + 1) = (0, sentL E gi ni ai)) := Lib.hid (by rw [← HGI.out, ← HNI.out, ← HAI.out]; exact goN_good HGO.out (by rw [HGI.out, HNI.out, HAI.out]; exact her))
              clear her
              have hBz : Below wj.heap.size wj wj.drew := below_drewN (Below.refl _ _) 1
              have PX0 : Hid (Blk wj.drew gp 25 [.slice sa sl sc, .slice ea el ec]) := Lib.hid (Pwj.out.below hBz Pwj.out.lt)
              have RX0 : Hid (Blk wj.drew gr 87 [.slice (some ⟨bn, on, none⟩) n nc, .slice (some ⟨bg, og, none⟩) m gc, .slice (some ⟨ba, oa, none⟩) k ac]) := Lib.hid (Rwj.out.below hBz Rwj.out.lt)
              have BX0 : Hid (Below w.heap.size w wj.drew) := Lib.hid (Bwj.out.trans (hBz.mono Bwj.out.size))
              have TX0 : Hid (Blk wj.drew g5 31 [.slice y1 sl z1, .slice y2 el z2]) := Lib.hid (Twj.out.below hBz Twj.out.lt)
              have FX0 : Hid (SpotRow wj.drew y1 sp) := Lib.hid (Fwj.out.below hBz)
              have GX0 : Hid (EdgeRow wj.drew y2 EF) := Lib.hid (Gwj.out.below hBz)
              have NX0 : Hid (Blk wj.drew g7 25 [.slice sa sl sc, .slice q2 el o2]) := Lib.hid (Nwj.out.below hBz Nwj.out.lt)
              have QX0 : Hid (EdgeRow wj.drew q2 E) := Lib.hid (Qwj.out.below hBz)
              have JX0 : Hid (wj.drew.cell? ⟨bg, og + i, none⟩ = some (.int .i64 gi)) := Lib.hid ((hBz.cell (p := ⟨bg, og + i, none⟩) (World.block_lt_of_cell? _ _ Jwj.out)).trans Jwj.out)
              have KX0 : Hid (wj.drew.cell? ⟨bn, on + i, none⟩ = some (.int .i64 ni)) := Lib.hid ((hBz.cell (p := ⟨bn, on + i, none⟩) (World.block_lt_of_cell? _ _ Kwj.out)).trans Kwj.out)
              have LX0 : Hid (wj.drew.cell? ⟨ba, oa + i, none⟩ = some (.int .u64 ai)) := Lib.hid ((hBz.cell (p := ⟨ba, oa + i, none⟩) (World.block_lt_of_cell? _ _ Lwj.out)).trans Lwj.out)
              clear hBz
              refine wp_region_held_drew (S := fun w' => Blk w' gr 87 [.slice (some ⟨bn, on, none⟩) n nc, .slice (some ⟨bg, og, none⟩) m gc, .slice (some ⟨ba, oa, none⟩) k ac] ∧ w'.cell? ⟨bg, og + i, none⟩ = some (.int .i64 gi) ∧ w'.cell? ⟨bn, on + i, none⟩ = some (.int .i64 ni) ∧ w'.cell? ⟨ba, oa + i, none⟩ = some (.int .u64 ai)) (by kernel_rfl) (⟨RX0.out, JX0.out, KX0.out, LX0.out⟩) (fun hHeld => ?_)
              generalize wj.drew = X0 at hHeld PX0 RX0 BX0 TX0 FX0 GX0 NX0 QX0 JX0 KX0 LX0 ⊢
              refine wpAnyH_take (i := 1) (v := .pointer (some ⟨gr, 1, none⟩)) rfl (by kernel_rfl) (by kernel_rfl) (by kernel_rfl) (fun _ _ _ h => h) (Or.inl ⟨by rfl, by intro w' h; go_simp⟩) hHeld ?_
              show wpAnyH _ _ _ _ _ _ _ (Act.put _ (some 89) _) _
              simp only [Act.put, List.setIfInBounds_toArray, List.set_cons_zero, List.set_cons_succ]
              refine wpAnyH_take (i := 2) (v := .slice (some ⟨bg, og, none⟩) m gc) rfl (by kernel_rfl) (by kernel_rfl) (by kernel_rfl) (fun _ _ _ h => h) (Or.inl ⟨by rfl, by intro w' h; have k0 := Blk.cell h.1 1; simp only [List.getElem?_cons_zero, List.getElem?_cons_succ] at k0; go_simp⟩) hHeld ?_
              show wpAnyH _ _ _ _ _ _ _ (Act.put _ (some 90) _) _
              simp only [Act.put, List.setIfInBounds_toArray, List.set_cons_zero, List.set_cons_succ]
              refine wpAnyH_take (i := 3) (v := .int .i64 (i : Int)) rfl (by kernel_rfl) (by kernel_rfl) (by kernel_rfl) (fun _ _ _ h => h) (Or.inl ⟨by rfl, fun w _ => by rfl⟩) hHeld ?_
              show wpAnyH _ _ _ _ _ _ _ (Act.put _ (some 91) _) _
              simp only [Act.put, List.setIfInBounds_toArray, List.set_cons_zero, List.set_cons_succ]
              refine wpAnyH_take (i := 4) (v := .pointer (some ⟨bg, og + i, none⟩)) rfl (by kernel_rfl) (by kernel_rfl) (by kernel_rfl) (fun _ _ _ h => h) (Or.inl ⟨by rfl, by intro w' h; have mm := Hmm.out; go_simp⟩) hHeld ?_
              show wpAnyH _ _ _ _ _ _ _ (Act.put _ (some 92) _) _
              simp only [Act.put, List.setIfInBounds_toArray, List.set_cons_zero, List.set_cons_succ]
              refine wpAnyH_take (i := 5) (v := .int .i64 gi) rfl (by kernel_rfl) (by kernel_rfl) (by kernel_rfl) (fun _ _ _ h => h) (Or.inl ⟨by rfl, by intro w' h; have q9 := h.2.1; go_simp⟩) hHeld ?_
              show wpAnyH _ _ _ _ _ _ _ (Act.put _ (some 93) _) _
              simp only [Act.put, List.setIfInBounds_toArray, List.set_cons_zero, List.set_cons_succ]
              refine wpAnyH_take (i := 6) (v := .pointer (some ⟨gr, 0, none⟩)) rfl (by kernel_rfl) (by kernel_rfl) (by kernel_rfl) (fun _ _ _ h => h) (Or.inl ⟨by rfl, by intro w' h; go_simp⟩) hHeld ?_
              show wpAnyH _ _ _ _ _ _ _ (Act.put _ (some 94) _) _
              simp only [Act.put, List.setIfInBounds_toArray, List.set_cons_zero, List.set_cons_succ]
              refine wpAnyH_take (i := 7) (v := .slice (some ⟨bn, on, none⟩) n nc) rfl (by kernel_rfl) (by kernel_rfl) (by kernel_rfl) (fun _ _ _ h => h) (Or.inl ⟨by rfl, by intro w' h; have k0 := Blk.cell h.1 0; simp only [List.getElem?_cons_zero] at k0; go_simp⟩) hHeld ?_
              show wpAnyH _ _ _ _ _ _ _ (Act.put _ (some 95) _) _
              simp only [Act.put, List.setIfInBounds_toArray, List.set_cons_zero, List.set_cons_succ]
              refine wpAnyH_take (i := 8) (v := .int .i64 (i : Int)) rfl (by kernel_rfl) (by kernel_rfl) (by kernel_rfl) (fun _ _ _ h => h) (Or.inl ⟨by rfl, fun w _ => by rfl⟩) hHeld ?_
              show wpAnyH _ _ _ _ _ _ _ (Act.put _ (some 96) _) _
              simp only [Act.put, List.setIfInBounds_toArray, List.set_cons_zero, List.set_cons_succ]
              refine wpAnyH_take (i := 9) (v := .pointer (some ⟨bn, on + i, none⟩)) rfl (by kernel_rfl) (by kernel_rfl) (by kernel_rfl) (fun _ _ _ h => h) (Or.inl ⟨by rfl, by intro w' h; have nn := Hnn.out; go_simp⟩) hHeld ?_
              show wpAnyH _ _ _ _ _ _ _ (Act.put _ (some 97) _) _
              simp only [Act.put, List.setIfInBounds_toArray, List.set_cons_zero, List.set_cons_succ]
              refine wpAnyH_take (i := 10) (v := .int .i64 ni) rfl (by kernel_rfl) (by kernel_rfl) (by kernel_rfl) (fun _ _ _ h => h) (Or.inl ⟨by rfl, by intro w' h; have q9 := h.2.2.1; go_simp⟩) hHeld ?_
              show wpAnyH _ _ _ _ _ _ _ (Act.put _ (some 98) _) _
              simp only [Act.put, List.setIfInBounds_toArray, List.set_cons_zero, List.set_cons_succ]
              refine wpAnyH_take (i := 11) (v := .pointer (some ⟨gr, 2, none⟩)) rfl (by kernel_rfl) (by kernel_rfl) (by kernel_rfl) (fun _ _ _ h => h) (Or.inl ⟨by rfl, by intro w' h; go_simp⟩) hHeld ?_
              show wpAnyH _ _ _ _ _ _ _ (Act.put _ (some 99) _) _
              simp only [Act.put, List.setIfInBounds_toArray, List.set_cons_zero, List.set_cons_succ]
              refine wpAnyH_take (i := 12) (v := .slice (some ⟨ba, oa, none⟩) k ac) rfl (by kernel_rfl) (by kernel_rfl) (by kernel_rfl) (fun _ _ _ h => h) (Or.inl ⟨by rfl, by intro w' h; have k0 := Blk.cell h.1 2; simp only [List.getElem?_cons_zero, List.getElem?_cons_succ] at k0; go_simp⟩) hHeld ?_
              show wpAnyH _ _ _ _ _ _ _ (Act.put _ (some 100) _) _
              simp only [Act.put, List.setIfInBounds_toArray, List.set_cons_zero, List.set_cons_succ]
              refine wpAnyH_take (i := 13) (v := .int .i64 (i : Int)) rfl (by kernel_rfl) (by kernel_rfl) (by kernel_rfl) (fun _ _ _ h => h) (Or.inl ⟨by rfl, fun w _ => by rfl⟩) hHeld ?_
              show wpAnyH _ _ _ _ _ _ _ (Act.put _ (some 101) _) _
              simp only [Act.put, List.setIfInBounds_toArray, List.set_cons_zero, List.set_cons_succ]
              refine wpAnyH_take (i := 14) (v := .pointer (some ⟨ba, oa + i, none⟩)) rfl (by kernel_rfl) (by kernel_rfl) (by kernel_rfl) (fun _ _ _ h => h) (Or.inl ⟨by rfl, by intro w' h; have kk := Hkk.out; go_simp⟩) hHeld ?_
              show wpAnyH _ _ _ _ _ _ _ (Act.put _ (some 102) _) _
              simp only [Act.put, List.setIfInBounds_toArray, List.set_cons_zero, List.set_cons_succ]
              refine wpAnyH_take (i := 15) (v := .int .u64 ai) rfl (by kernel_rfl) (by kernel_rfl) (by kernel_rfl) (fun _ _ _ h => h) (Or.inl ⟨by rfl, by intro w' h; have q9 := h.2.2.2; go_simp⟩) hHeld ?_
              show wpAnyH _ _ _ _ _ _ _ (Act.put _ (some 103) _) _
              simp only [Act.put, List.setIfInBounds_toArray, List.set_cons_zero, List.set_cons_succ]
              refine wpAnyH_ready (rs := [0]) (by kernel_rfl) (by simp) ?_
              refine AllReadyH.cons rfl (fun K hK => ?_) AllReadyH.nil
              refine step_val rfl (.agg #[.slice sa sl sc, .slice q2 el o2]) X0 (by have q9 := NX0.out.cell 0; have q8 := NX0.out.cell 1; simp only [List.getElem?_cons_zero, List.getElem?_cons_succ] at q9 q8; go_simp) ?_
              refine hK.out _ _ (⟨RX0.out, JX0.out, KX0.out, LX0.out⟩) (fun hHeld => ?_)
              clear hK K
              show wpAnyH _ _ _ _ _ _ _ (Act.put _ (some 88) _) _
              simp only [Act.put, List.setIfInBounds_toArray, List.set_cons_zero, List.set_cons_succ]
              refine wpAnyH_ready (rs := [16]) (by kernel_rfl) (by simp) ?_
              refine AllReadyH.cons rfl (fun K hK => ?_) AllReadyH.nil
              refine step_call rfl 28 #[.tmp 88, .tmp 93, .tmp 98, .tmp 103] #[25, 3, 3, 40] rfl #[.agg #[.slice sa sl sc, .slice q2 el o2], .int .i64 gi, .int .i64 ni, .int .u64 ai] (by simp [Act.eval]) (by go_simp) (rsent_any sa sl sc q2 el o2 E gi ni ai X0 QX0.out (HOE.out.2.trans HEL.out) (by omega) (by omega) HOE.out.1 HWA.out) ?_
              rintro e X2 ⟨hB, hP⟩
              rcases hP with ⟨_, q3, o3, rfl, he7, _⟩ | ⟨h9, _⟩
              rotate_left
              · exact absurd HER.out h9
              have PX2 : Hid (Blk X2 gp 25 [.slice sa sl sc, .slice ea el ec]) := Lib.hid (PX0.out.below hB PX0.out.lt)
              have RX2 : Hid (Blk X2 gr 87 [.slice (some ⟨bn, on, none⟩) n nc, .slice (some ⟨bg, og, none⟩) m gc, .slice (some ⟨ba, oa, none⟩) k ac]) := Lib.hid (RX0.out.below hB RX0.out.lt)
              have BX2 : Hid (Below w.heap.size w X2) := Lib.hid (BX0.out.trans (hB.mono BX0.out.size))
              have TX2 : Hid (Blk X2 g5 31 [.slice y1 sl z1, .slice y2 el z2]) := Lib.hid (TX0.out.below hB TX0.out.lt)
              have FX2 : Hid (SpotRow X2 y1 sp) := Lib.hid (FX0.out.below hB)
              have GX2 : Hid (EdgeRow X2 y2 EF) := Lib.hid (GX0.out.below hB)
              have NX2 : Hid (Blk X2 g7 25 [.slice sa sl sc, .slice q2 el o2]) := Lib.hid (NX0.out.below hB NX0.out.lt)
              have QX2 : Hid (EdgeRow X2 q2 E) := Lib.hid (QX0.out.below hB)
              have JX2 : Hid (X2.cell? ⟨bg, og + i, none⟩ = some (.int .i64 gi)) := Lib.hid ((hB.cell (p := ⟨bg, og + i, none⟩) (World.block_lt_of_cell? _ _ JX0.out)).trans JX0.out)
              have KX2 : Hid (X2.cell? ⟨bn, on + i, none⟩ = some (.int .i64 ni)) := Lib.hid ((hB.cell (p := ⟨bn, on + i, none⟩) (World.block_lt_of_cell? _ _ KX0.out)).trans KX0.out)
              have LX2 : Hid (X2.cell? ⟨ba, oa + i, none⟩ = some (.int .u64 ai)) := Lib.hid ((hB.cell (p := ⟨ba, oa + i, none⟩) (World.block_lt_of_cell? _ _ LX0.out)).trans LX0.out)
              have MX2 : Hid (EdgeRow X2 q3 (sentL E gi ni ai)) := Lib.hid (he7)
              clear PX0 RX0 BX0 TX0 FX0 GX0 NX0 QX0 JX0 KX0 LX0 hB he7
              refine ⟨_, rfl, hK.out _ _ (⟨RX2.out, JX2.out, KX2.out, LX2.out⟩) (fun hHeld => ?_)⟩
              clear hK K
              show wpAnyH _ _ _ _ _ _ _ (Act.put _ (some 104) _) _
              simp only [Act.put, List.setIfInBounds_toArray, List.set_cons_zero, List.set_cons_succ]
              refine wpAnyH_take (i := 17) (v := .tuple #[.agg #[.slice sa sl sc, .slice q3 el o3], .int .i64 0]) rfl (by kernel_rfl) (by kernel_rfl) (by kernel_rfl) (fun _ _ _ h => h) (Or.inl ⟨by rfl, fun w _ => by rfl⟩) hHeld ?_
              show wpAnyH _ _ _ _ _ _ _ (Act.put _ (some 87) _) _
              simp only [Act.put, List.setIfInBounds_toArray, List.set_cons_zero, List.set_cons_succ]
              refine wpAnyH_take (i := 18) (v := .agg #[.slice sa sl sc, .slice q3 el o3]) rfl (by kernel_rfl) (by kernel_rfl) (by kernel_rfl) (fun _ _ _ h => h) (Or.inl ⟨by rfl, by intro w' h; go_simp⟩) hHeld ?_
              show wpAnyH _ _ _ _ _ _ _ (Act.put _ (some 105) _) _
              simp only [Act.put, List.setIfInBounds_toArray, List.set_cons_zero, List.set_cons_succ]
              refine wpAnyH_take (i := 19) (v := .int .i64 0) rfl (by kernel_rfl) (by kernel_rfl) (by kernel_rfl) (fun _ _ _ h => h) (Or.inl ⟨by rfl, by intro w' h; go_simp⟩) hHeld ?_
              show wpAnyH _ _ _ _ _ _ _ (Act.put _ (some 106) _) _
              simp only [Act.put, List.setIfInBounds_toArray, List.set_cons_zero, List.set_cons_succ]
              refine wpAnyH_ready (rs := [20]) (by kernel_rfl) (by simp) ?_
              refine AllReadyH.cons rfl (fun K hK => ?_) AllReadyH.nil
              refine step_store25 rfl (.tmp 7) (.tmp 105) rfl g7 _ _ sa q3 sl sc el o3 rfl rfl NX2.out ?_
              intro X3 hT hO
              have PX3 : Hid (Blk X3 gp 25 [.slice sa sl sc, .slice ea el ec]) := Lib.hid (PX2.out.grown hO (by intro e9; injection e9 with e9; exact HPN.out e9))
              have RX3 : Hid (Blk X3 gr 87 [.slice (some ⟨bn, on, none⟩) n nc, .slice (some ⟨bg, og, none⟩) m gc, .slice (some ⟨ba, oa, none⟩) k ac]) := Lib.hid (RX2.out.grown hO (by intro e9; injection e9 with e9; exact Blk.ne_ RX2.out NX2.out (by decide) e9))
              have BX3 : Hid (Below w.heap.size w X3) := Lib.hid (BX2.out.trans (only_up hO HG7.out BX2.out.size))
              have TX3 : Hid (Blk X3 g5 31 [.slice y1 sl z1, .slice y2 el z2]) := Lib.hid (TX2.out.grown hO (by intro e9; injection e9 with e9; exact Blk.ne_ TX2.out NX2.out (by decide) e9))
              have FX3 : Hid (SpotRow X3 y1 sp) := Lib.hid (FX2.out.grown NX2.out (slices2 _ _ _ _ _ _) hO)
              have GX3 : Hid (EdgeRow X3 y2 EF) := Lib.hid (GX2.out.grown NX2.out (slices2 _ _ _ _ _ _) hO)
              have QX3 : Hid (EdgeRow X3 q2 E) := Lib.hid (QX2.out.grown NX2.out (slices2 _ _ _ _ _ _) hO)
              have JX3 : Hid (X3.cell? ⟨bg, og + i, none⟩ = some (.int .i64 gi)) := Lib.hid (hO.cell JX2.out (by intro e9; injection e9 with e9; exact cell_ne (x := gi) (k := .i64) JX2.out NX2.out e9))
              have KX3 : Hid (X3.cell? ⟨bn, on + i, none⟩ = some (.int .i64 ni)) := Lib.hid (hO.cell KX2.out (by intro e9; injection e9 with e9; exact cell_ne (x := ni) (k := .i64) KX2.out NX2.out e9))
              have LX3 : Hid (X3.cell? ⟨ba, oa + i, none⟩ = some (.int .u64 ai)) := Lib.hid (hO.cell LX2.out (by intro e9; injection e9 with e9; exact cell_ne (x := ai) (k := .u64) LX2.out NX2.out e9))
              have MX3 : Hid (EdgeRow X3 q3 (sentL E gi ni ai)) := Lib.hid (MX2.out.grown NX2.out (slices2 _ _ _ _ _ _) hO)
              have NX3 : Hid (Blk X3 g7 25 [.slice sa sl sc, .slice q3 el o3]) := Lib.hid (hT)
              clear PX2 RX2 BX2 TX2 FX2 GX2 QX2 JX2 KX2 LX2 MX2 hO hT
              refine hK.out _ _ (⟨RX3.out, JX3.out, KX3.out, LX3.out⟩) (fun hHeld => ?_)
              clear hK K
              show wpAnyH _ _ _ _ _ _ _ (Act.put _ none _) _
              simp only [Act.put]
              refine wpAnyH_take (i := 21) (v := .int .i64 0) rfl (by kernel_rfl) (by kernel_rfl) (by kernel_rfl) (fun _ _ _ h => h) (Or.inl ⟨by rfl, fun w _ => by rfl⟩) hHeld ?_
              show wpAnyH _ _ _ _ _ _ _ (Act.put _ (some 8) _) _
              simp only [Act.put, List.setIfInBounds_toArray, List.set_cons_zero, List.set_cons_succ]
              refine wpAnyH_done (by kernel_rfl) ?_ _
              clear hHeld
              go_wp2
              go_roundw
              case rel => exact ⟨i + 1, 0, sa, sl, sc, q3, el, o3, by omega, by go_num, rfl, PX3, RX3, BX3, TX3, FX3, GX3, NX3, Lib.hid (.inl ⟨rfl, rfl, rfl, rfl, rfl, _, MX3.out, HNX.out, HCK9.out⟩)⟩
              case measure => simp [intOf]; omega
            · have HER := Lib.hid her
              obtain ⟨ee, hee⟩ : ∃ x, sentErr sl E gi ni ai = x := ⟨_, rfl⟩
              have HEE := Lib.hid hee
              have HNZ9 : Hid (ee ≠ 0) := Lib.hid (by rw [← hee]; exact her)
              have HXE : Hid (goE sl ns gs am es = ee) := Lib.hid (by rw [HG0.out.1, if_neg (by rw [HCK9.out]; simp), goN_le (goN_bad HGO.out (by rw [HGI.out, HNI.out, HAI.out]; exact her)) (by rw [HGI.out, HNI.out, HAI.out]; exact her) (by omega), HGI.out, HNI.out, HAI.out]; exact hee)
              clear her hee
              have hBz : Below wj.heap.size wj wj.drew := below_drewN (Below.refl _ _) 1
              have PX0 : Hid (Blk wj.drew gp 25 [.slice sa sl sc, .slice ea el ec]) := Lib.hid (Pwj.out.below hBz Pwj.out.lt)
              have RX0 : Hid (Blk wj.drew gr 87 [.slice (some ⟨bn, on, none⟩) n nc, .slice (some ⟨bg, og, none⟩) m gc, .slice (some ⟨ba, oa, none⟩) k ac]) := Lib.hid (Rwj.out.below hBz Rwj.out.lt)
              have BX0 : Hid (Below w.heap.size w wj.drew) := Lib.hid (Bwj.out.trans (hBz.mono Bwj.out.size))
              have TX0 : Hid (Blk wj.drew g5 31 [.slice y1 sl z1, .slice y2 el z2]) := Lib.hid (Twj.out.below hBz Twj.out.lt)
              have FX0 : Hid (SpotRow wj.drew y1 sp) := Lib.hid (Fwj.out.below hBz)
              have GX0 : Hid (EdgeRow wj.drew y2 EF) := Lib.hid (Gwj.out.below hBz)
              have NX0 : Hid (Blk wj.drew g7 25 [.slice sa sl sc, .slice q2 el o2]) := Lib.hid (Nwj.out.below hBz Nwj.out.lt)
              have QX0 : Hid (EdgeRow wj.drew q2 E) := Lib.hid (Qwj.out.below hBz)
              have JX0 : Hid (wj.drew.cell? ⟨bg, og + i, none⟩ = some (.int .i64 gi)) := Lib.hid ((hBz.cell (p := ⟨bg, og + i, none⟩) (World.block_lt_of_cell? _ _ Jwj.out)).trans Jwj.out)
              have KX0 : Hid (wj.drew.cell? ⟨bn, on + i, none⟩ = some (.int .i64 ni)) := Lib.hid ((hBz.cell (p := ⟨bn, on + i, none⟩) (World.block_lt_of_cell? _ _ Kwj.out)).trans Kwj.out)
              have LX0 : Hid (wj.drew.cell? ⟨ba, oa + i, none⟩ = some (.int .u64 ai)) := Lib.hid ((hBz.cell (p := ⟨ba, oa + i, none⟩) (World.block_lt_of_cell? _ _ Lwj.out)).trans Lwj.out)
              clear hBz
              refine wp_region_held_drew (S := fun w' => Blk w' gr 87 [.slice (some ⟨bn, on, none⟩) n nc, .slice (some ⟨bg, og, none⟩) m gc, .slice (some ⟨ba, oa, none⟩) k ac] ∧ w'.cell? ⟨bg, og + i, none⟩ = some (.int .i64 gi) ∧ w'.cell? ⟨bn, on + i, none⟩ = some (.int .i64 ni) ∧ w'.cell? ⟨ba, oa + i, none⟩ = some (.int .u64 ai)) (by kernel_rfl) (⟨RX0.out, JX0.out, KX0.out, LX0.out⟩) (fun hHeld => ?_)
              generalize wj.drew = X0 at hHeld PX0 RX0 BX0 TX0 FX0 GX0 NX0 QX0 JX0 KX0 LX0 ⊢
              refine wpAnyH_take (i := 1) (v := .pointer (some ⟨gr, 1, none⟩)) rfl (by kernel_rfl) (by kernel_rfl) (by kernel_rfl) (fun _ _ _ h => h) (Or.inl ⟨by rfl, by intro w' h; go_simp⟩) hHeld ?_
              show wpAnyH _ _ _ _ _ _ _ (Act.put _ (some 89) _) _
              simp only [Act.put, List.setIfInBounds_toArray, List.set_cons_zero, List.set_cons_succ]
              refine wpAnyH_take (i := 2) (v := .slice (some ⟨bg, og, none⟩) m gc) rfl (by kernel_rfl) (by kernel_rfl) (by kernel_rfl) (fun _ _ _ h => h) (Or.inl ⟨by rfl, by intro w' h; have k0 := Blk.cell h.1 1; simp only [List.getElem?_cons_zero, List.getElem?_cons_succ] at k0; go_simp⟩) hHeld ?_
              show wpAnyH _ _ _ _ _ _ _ (Act.put _ (some 90) _) _
              simp only [Act.put, List.setIfInBounds_toArray, List.set_cons_zero, List.set_cons_succ]
              refine wpAnyH_take (i := 3) (v := .int .i64 (i : Int)) rfl (by kernel_rfl) (by kernel_rfl) (by kernel_rfl) (fun _ _ _ h => h) (Or.inl ⟨by rfl, fun w _ => by rfl⟩) hHeld ?_
              show wpAnyH _ _ _ _ _ _ _ (Act.put _ (some 91) _) _
              simp only [Act.put, List.setIfInBounds_toArray, List.set_cons_zero, List.set_cons_succ]
              refine wpAnyH_take (i := 4) (v := .pointer (some ⟨bg, og + i, none⟩)) rfl (by kernel_rfl) (by kernel_rfl) (by kernel_rfl) (fun _ _ _ h => h) (Or.inl ⟨by rfl, by intro w' h; have mm := Hmm.out; go_simp⟩) hHeld ?_
              show wpAnyH _ _ _ _ _ _ _ (Act.put _ (some 92) _) _
              simp only [Act.put, List.setIfInBounds_toArray, List.set_cons_zero, List.set_cons_succ]
              refine wpAnyH_take (i := 5) (v := .int .i64 gi) rfl (by kernel_rfl) (by kernel_rfl) (by kernel_rfl) (fun _ _ _ h => h) (Or.inl ⟨by rfl, by intro w' h; have q9 := h.2.1; go_simp⟩) hHeld ?_
              show wpAnyH _ _ _ _ _ _ _ (Act.put _ (some 93) _) _
              simp only [Act.put, List.setIfInBounds_toArray, List.set_cons_zero, List.set_cons_succ]
              refine wpAnyH_take (i := 6) (v := .pointer (some ⟨gr, 0, none⟩)) rfl (by kernel_rfl) (by kernel_rfl) (by kernel_rfl) (fun _ _ _ h => h) (Or.inl ⟨by rfl, by intro w' h; go_simp⟩) hHeld ?_
              show wpAnyH _ _ _ _ _ _ _ (Act.put _ (some 94) _) _
              simp only [Act.put, List.setIfInBounds_toArray, List.set_cons_zero, List.set_cons_succ]
              refine wpAnyH_take (i := 7) (v := .slice (some ⟨bn, on, none⟩) n nc) rfl (by kernel_rfl) (by kernel_rfl) (by kernel_rfl) (fun _ _ _ h => h) (Or.inl ⟨by rfl, by intro w' h; have k0 := Blk.cell h.1 0; simp only [List.getElem?_cons_zero] at k0; go_simp⟩) hHeld ?_
              show wpAnyH _ _ _ _ _ _ _ (Act.put _ (some 95) _) _
              simp only [Act.put, List.setIfInBounds_toArray, List.set_cons_zero, List.set_cons_succ]
              refine wpAnyH_take (i := 8) (v := .int .i64 (i : Int)) rfl (by kernel_rfl) (by kernel_rfl) (by kernel_rfl) (fun _ _ _ h => h) (Or.inl ⟨by rfl, fun w _ => by rfl⟩) hHeld ?_
              show wpAnyH _ _ _ _ _ _ _ (Act.put _ (some 96) _) _
              simp only [Act.put, List.setIfInBounds_toArray, List.set_cons_zero, List.set_cons_succ]
              refine wpAnyH_take (i := 9) (v := .pointer (some ⟨bn, on + i, none⟩)) rfl (by kernel_rfl) (by kernel_rfl) (by kernel_rfl) (fun _ _ _ h => h) (Or.inl ⟨by rfl, by intro w' h; have nn := Hnn.out; go_simp⟩) hHeld ?_
              show wpAnyH _ _ _ _ _ _ _ (Act.put _ (some 97) _) _
              simp only [Act.put, List.setIfInBounds_toArray, List.set_cons_zero, List.set_cons_succ]
              refine wpAnyH_take (i := 10) (v := .int .i64 ni) rfl (by kernel_rfl) (by kernel_rfl) (by kernel_rfl) (fun _ _ _ h => h) (Or.inl ⟨by rfl, by intro w' h; have q9 := h.2.2.1; go_simp⟩) hHeld ?_
              show wpAnyH _ _ _ _ _ _ _ (Act.put _ (some 98) _) _
              simp only [Act.put, List.setIfInBounds_toArray, List.set_cons_zero, List.set_cons_succ]
              refine wpAnyH_take (i := 11) (v := .pointer (some ⟨gr, 2, none⟩)) rfl (by kernel_rfl) (by kernel_rfl) (by kernel_rfl) (fun _ _ _ h => h) (Or.inl ⟨by rfl, by intro w' h; go_simp⟩) hHeld ?_
              show wpAnyH _ _ _ _ _ _ _ (Act.put _ (some 99) _) _
              simp only [Act.put, List.setIfInBounds_toArray, List.set_cons_zero, List.set_cons_succ]
              refine wpAnyH_take (i := 12) (v := .slice (some ⟨ba, oa, none⟩) k ac) rfl (by kernel_rfl) (by kernel_rfl) (by kernel_rfl) (fun _ _ _ h => h) (Or.inl ⟨by rfl, by intro w' h; have k0 := Blk.cell h.1 2; simp only [List.getElem?_cons_zero, List.getElem?_cons_succ] at k0; go_simp⟩) hHeld ?_
              show wpAnyH _ _ _ _ _ _ _ (Act.put _ (some 100) _) _
              simp only [Act.put, List.setIfInBounds_toArray, List.set_cons_zero, List.set_cons_succ]
              refine wpAnyH_take (i := 13) (v := .int .i64 (i : Int)) rfl (by kernel_rfl) (by kernel_rfl) (by kernel_rfl) (fun _ _ _ h => h) (Or.inl ⟨by rfl, fun w _ => by rfl⟩) hHeld ?_
              show wpAnyH _ _ _ _ _ _ _ (Act.put _ (some 101) _) _
              simp only [Act.put, List.setIfInBounds_toArray, List.set_cons_zero, List.set_cons_succ]
              refine wpAnyH_take (i := 14) (v := .pointer (some ⟨ba, oa + i, none⟩)) rfl (by kernel_rfl) (by kernel_rfl) (by kernel_rfl) (fun _ _ _ h => h) (Or.inl ⟨by rfl, by intro w' h; have kk := Hkk.out; go_simp⟩) hHeld ?_
              show wpAnyH _ _ _ _ _ _ _ (Act.put _ (some 102) _) _
              simp only [Act.put, List.setIfInBounds_toArray, List.set_cons_zero, List.set_cons_succ]
              refine wpAnyH_take (i := 15) (v := .int .u64 ai) rfl (by kernel_rfl) (by kernel_rfl) (by kernel_rfl) (fun _ _ _ h => h) (Or.inl ⟨by rfl, by intro w' h; have q9 := h.2.2.2; go_simp⟩) hHeld ?_
              show wpAnyH _ _ _ _ _ _ _ (Act.put _ (some 103) _) _
              simp only [Act.put, List.setIfInBounds_toArray, List.set_cons_zero, List.set_cons_succ]
              refine wpAnyH_ready (rs := [0]) (by kernel_rfl) (by simp) ?_
              refine AllReadyH.cons rfl (fun K hK => ?_) AllReadyH.nil
              refine step_val rfl (.agg #[.slice sa sl sc, .slice q2 el o2]) X0 (by have q9 := NX0.out.cell 0; have q8 := NX0.out.cell 1; simp only [List.getElem?_cons_zero, List.getElem?_cons_succ] at q9 q8; go_simp) ?_
              refine hK.out _ _ (⟨RX0.out, JX0.out, KX0.out, LX0.out⟩) (fun hHeld => ?_)
              clear hK K
              show wpAnyH _ _ _ _ _ _ _ (Act.put _ (some 88) _) _
              simp only [Act.put, List.setIfInBounds_toArray, List.set_cons_zero, List.set_cons_succ]
              refine wpAnyH_ready (rs := [16]) (by kernel_rfl) (by simp) ?_
              refine AllReadyH.cons rfl (fun K hK => ?_) AllReadyH.nil
              refine step_call rfl 28 #[.tmp 88, .tmp 93, .tmp 98, .tmp 103] #[25, 3, 3, 40] rfl #[.agg #[.slice sa sl sc, .slice q2 el o2], .int .i64 gi, .int .i64 ni, .int .u64 ai] (by simp [Act.eval]) (by go_simp) (rsent_any sa sl sc q2 el o2 E gi ni ai X0 QX0.out (HOE.out.2.trans HEL.out) (by omega) (by omega) HOE.out.1 HWA.out) ?_
              rintro e X2 ⟨hB, hP⟩
              rcases hP with ⟨h9, _⟩ | ⟨_, rfl⟩
              · exact absurd h9 HER.out
              rw [HEE.out]
              have PX2 : Hid (Blk X2 gp 25 [.slice sa sl sc, .slice ea el ec]) := Lib.hid (PX0.out.below hB PX0.out.lt)
              have RX2 : Hid (Blk X2 gr 87 [.slice (some ⟨bn, on, none⟩) n nc, .slice (some ⟨bg, og, none⟩) m gc, .slice (some ⟨ba, oa, none⟩) k ac]) := Lib.hid (RX0.out.below hB RX0.out.lt)
              have BX2 : Hid (Below w.heap.size w X2) := Lib.hid (BX0.out.trans (hB.mono BX0.out.size))
              have TX2 : Hid (Blk X2 g5 31 [.slice y1 sl z1, .slice y2 el z2]) := Lib.hid (TX0.out.below hB TX0.out.lt)
              have FX2 : Hid (SpotRow X2 y1 sp) := Lib.hid (FX0.out.below hB)
              have GX2 : Hid (EdgeRow X2 y2 EF) := Lib.hid (GX0.out.below hB)
              have NX2 : Hid (Blk X2 g7 25 [.slice sa sl sc, .slice q2 el o2]) := Lib.hid (NX0.out.below hB NX0.out.lt)
              have QX2 : Hid (EdgeRow X2 q2 E) := Lib.hid (QX0.out.below hB)
              have JX2 : Hid (X2.cell? ⟨bg, og + i, none⟩ = some (.int .i64 gi)) := Lib.hid ((hB.cell (p := ⟨bg, og + i, none⟩) (World.block_lt_of_cell? _ _ JX0.out)).trans JX0.out)
              have KX2 : Hid (X2.cell? ⟨bn, on + i, none⟩ = some (.int .i64 ni)) := Lib.hid ((hB.cell (p := ⟨bn, on + i, none⟩) (World.block_lt_of_cell? _ _ KX0.out)).trans KX0.out)
              have LX2 : Hid (X2.cell? ⟨ba, oa + i, none⟩ = some (.int .u64 ai)) := Lib.hid ((hB.cell (p := ⟨ba, oa + i, none⟩) (World.block_lt_of_cell? _ _ LX0.out)).trans LX0.out)
              clear PX0 RX0 BX0 TX0 FX0 GX0 NX0 QX0 JX0 KX0 LX0 hB
              refine ⟨_, rfl, hK.out _ _ (⟨RX2.out, JX2.out, KX2.out, LX2.out⟩) (fun hHeld => ?_)⟩
              clear hK K
              show wpAnyH _ _ _ _ _ _ _ (Act.put _ (some 104) _) _
              simp only [Act.put, List.setIfInBounds_toArray, List.set_cons_zero, List.set_cons_succ]
              refine wpAnyH_take (i := 17) (v := .tuple #[.agg #[.slice none 0 0, .slice none 0 0], .int .i64 ee]) rfl (by kernel_rfl) (by kernel_rfl) (by kernel_rfl) (fun _ _ _ h => h) (Or.inl ⟨by rfl, fun w _ => by rfl⟩) hHeld ?_
              show wpAnyH _ _ _ _ _ _ _ (Act.put _ (some 87) _) _
              simp only [Act.put, List.setIfInBounds_toArray, List.set_cons_zero, List.set_cons_succ]
              refine wpAnyH_take (i := 18) (v := .agg #[.slice none 0 0, .slice none 0 0]) rfl (by kernel_rfl) (by kernel_rfl) (by kernel_rfl) (fun _ _ _ h => h) (Or.inl ⟨by rfl, by intro w' h; go_simp⟩) hHeld ?_
              show wpAnyH _ _ _ _ _ _ _ (Act.put _ (some 105) _) _
              simp only [Act.put, List.setIfInBounds_toArray, List.set_cons_zero, List.set_cons_succ]
              refine wpAnyH_take (i := 19) (v := .int .i64 ee) rfl (by kernel_rfl) (by kernel_rfl) (by kernel_rfl) (fun _ _ _ h => h) (Or.inl ⟨by rfl, by intro w' h; go_simp⟩) hHeld ?_
              show wpAnyH _ _ _ _ _ _ _ (Act.put _ (some 106) _) _
              simp only [Act.put, List.setIfInBounds_toArray, List.set_cons_zero, List.set_cons_succ]
              refine wpAnyH_ready (rs := [20]) (by kernel_rfl) (by simp) ?_
              refine AllReadyH.cons rfl (fun K hK => ?_) AllReadyH.nil
              refine step_store25 rfl (.tmp 7) (.tmp 105) rfl g7 _ _ none none 0 0 0 0 rfl rfl NX2.out ?_
              intro X3 hT hO
              have PX3 : Hid (Blk X3 gp 25 [.slice sa sl sc, .slice ea el ec]) := Lib.hid (PX2.out.grown hO (by intro e9; injection e9 with e9; exact HPN.out e9))
              have RX3 : Hid (Blk X3 gr 87 [.slice (some ⟨bn, on, none⟩) n nc, .slice (some ⟨bg, og, none⟩) m gc, .slice (some ⟨ba, oa, none⟩) k ac]) := Lib.hid (RX2.out.grown hO (by intro e9; injection e9 with e9; exact Blk.ne_ RX2.out NX2.out (by decide) e9))
              have BX3 : Hid (Below w.heap.size w X3) := Lib.hid (BX2.out.trans (only_up hO HG7.out BX2.out.size))
              have TX3 : Hid (Blk X3 g5 31 [.slice y1 sl z1, .slice y2 el z2]) := Lib.hid (TX2.out.grown hO (by intro e9; injection e9 with e9; exact Blk.ne_ TX2.out NX2.out (by decide) e9))
              have FX3 : Hid (SpotRow X3 y1 sp) := Lib.hid (FX2.out.grown NX2.out (slices2 _ _ _ _ _ _) hO)
              have GX3 : Hid (EdgeRow X3 y2 EF) := Lib.hid (GX2.out.grown NX2.out (slices2 _ _ _ _ _ _) hO)
              have QX3 : Hid (EdgeRow X3 q2 E) := Lib.hid (QX2.out.grown NX2.out (slices2 _ _ _ _ _ _) hO)
              have JX3 : Hid (X3.cell? ⟨bg, og + i, none⟩ = some (.int .i64 gi)) := Lib.hid (hO.cell JX2.out (by intro e9; injection e9 with e9; exact cell_ne (x := gi) (k := .i64) JX2.out NX2.out e9))
              have KX3 : Hid (X3.cell? ⟨bn, on + i, none⟩ = some (.int .i64 ni)) := Lib.hid (hO.cell KX2.out (by intro e9; injection e9 with e9; exact cell_ne (x := ni) (k := .i64) KX2.out NX2.out e9))
              have LX3 : Hid (X3.cell? ⟨ba, oa + i, none⟩ = some (.int .u64 ai)) := Lib.hid (hO.cell LX2.out (by intro e9; injection e9 with e9; exact cell_ne (x := ai) (k := .u64) LX2.out NX2.out e9))
              have NX3 : Hid (Blk X3 g7 25 [.slice none 0 0, .slice none 0 0]) := Lib.hid (hT)
              clear PX2 RX2 BX2 TX2 FX2 GX2 QX2 JX2 KX2 LX2 hO hT
              refine hK.out _ _ (⟨RX3.out, JX3.out, KX3.out, LX3.out⟩) (fun hHeld => ?_)
              clear hK K
              show wpAnyH _ _ _ _ _ _ _ (Act.put _ none _) _
              simp only [Act.put]
              refine wpAnyH_take (i := 21) (v := .int .i64 ee) rfl (by kernel_rfl) (by kernel_rfl) (by kernel_rfl) (fun _ _ _ h => h) (Or.inl ⟨by rfl, fun w _ => by rfl⟩) hHeld ?_
              show wpAnyH _ _ _ _ _ _ _ (Act.put _ (some 8) _) _
              simp only [Act.put, List.setIfInBounds_toArray, List.set_cons_zero, List.set_cons_succ]
              refine wpAnyH_done (by kernel_rfl) ?_ _
              clear hHeld
              go_wp2
              go_roundw
              case rel => exact ⟨i + 1, ee, none, 0, 0, none, 0, 0, by omega, by go_num, rfl, PX3, RX3, BX3, TX3, FX3, GX3, NX3, Lib.hid (.inr ⟨HNZ9.out, HXE.out⟩)⟩
              case measure => simp [intOf]; omega
          · have b0 : (fe == 0) = false := by simpa using hfe
            have b1 : decide (fe = 0) = false := decide_eq_false hfe
            have b2 : (fe != 0) = true := by simpa using hfe
            have hfg : goE sl ns gs am es = fe := by rcases Hf.out with h | h; exact absurd h.1 hfe; exact h.2
            have HFG := Lib.hid hfg
            clear hfg
            exact absurd (HFG.out.symm.trans HGE.out) hfe
        · have d1 : decide ((i : Int) < (m : Int)) = false := decide_eq_false (by omega)
          have hiI : ¬ (i : Int) < (m : Int) := by omega
          have him : i = m := Nat.le_antisymm hi (Nat.le_of_not_lt hil)
          by_cases hfe : fe = 0
          · subst hfe
            obtain ⟨_, e1, e2, e3, e4, E, hE9, hg, _⟩ := Hf.out.resolve_right (fun h => h.1 rfl)
            have e1 := e1.symm
            have e2 := e2.symm
            have e3 := e3.symm
            have e4 := e4.symm
            subst e1
            subst e2
            subst e3
            subst e4
            rw [him, HGN.out] at hg
            injection hg with _ hg
            subst hg
            have QZ := Lib.hid hE9
            have NZ := Nw
            have TZ := Tw
            have BZ := Bw
            have FZ := Fw
            have GZ := Gw
            clear hE9
            go_upto_region 13 with fail
            obtain ⟨Z, hZ⟩ : ∃ Z : World, wj = Z := ⟨_, rfl⟩
            rw [hZ] at NZ TZ BZ FZ GZ QZ ⊢
            have hBz : Below Z.heap.size Z Z.drew := below_drewN (Below.refl _ _) 1
            have NZ0 : Hid (Blk Z.drew g7 25 [.slice sa sl sc, .slice q2 el o2]) := Lib.hid (NZ.out.below hBz NZ.out.lt)
            have TZ0 : Hid (Blk Z.drew g5 31 [.slice y1 sl z1, .slice y2 el z2]) := Lib.hid (TZ.out.below hBz TZ.out.lt)
            have BZ0 : Hid (Below w.heap.size w Z.drew) := Lib.hid (BZ.out.trans (hBz.mono BZ.out.size))
            have FZ0 : Hid (SpotRow Z.drew y1 sp) := Lib.hid (FZ.out.below hBz)
            have GZ0 : Hid (EdgeRow Z.drew y2 EF) := Lib.hid (GZ.out.below hBz)
            have QZ0 : Hid (EdgeRow Z.drew q2 EF) := Lib.hid (QZ.out.below hBz)
            clear hBz
            refine wp_region_held_drew (S := fun w' => Blk w' g5 31 [.slice y1 sl z1, .slice y2 el z2] ∧ Blk w' g7 25 [.slice sa sl sc, .slice q2 el o2]) (by kernel_rfl) (⟨TZ0.out, NZ0.out⟩) (fun hHeld => ?_)
            generalize Z.drew = Z0 at hHeld NZ0 TZ0 BZ0 FZ0 GZ0 QZ0 ⊢
            refine wpAnyH_ready (rs := [0]) (by kernel_rfl) (by simp) ?_
            refine AllReadyH.cons rfl (fun K hK => ?_) AllReadyH.nil
            refine step_call rfl 33 #[] #[] rfl #[] (by simp) (by go_simp) (pawake_any Z0) ?_
            rintro e X1 ⟨rfl, hB⟩
            have NX1 : Hid (Blk X1 g7 25 [.slice sa sl sc, .slice q2 el o2]) := Lib.hid (NZ0.out.below hB NZ0.out.lt)
            have TX1 : Hid (Blk X1 g5 31 [.slice y1 sl z1, .slice y2 el z2]) := Lib.hid (TZ0.out.below hB TZ0.out.lt)
            have BX1 : Hid (Below w.heap.size w X1) := Lib.hid (BZ0.out.trans (hB.mono BZ0.out.size))
            have FX1 : Hid (SpotRow X1 y1 sp) := Lib.hid (FZ0.out.below hB)
            have GX1 : Hid (EdgeRow X1 y2 EF) := Lib.hid (GZ0.out.below hB)
            have QX1 : Hid (EdgeRow X1 q2 EF) := Lib.hid (QZ0.out.below hB)
            clear NZ0 TZ0 BZ0 FZ0 GZ0 QZ0 hB
            refine ⟨_, rfl, hK.out _ _ (⟨TX1.out, NX1.out⟩) (fun hHeld => ?_)⟩
            clear hK K
            show wpAnyH _ _ _ _ _ _ _ (Act.put _ (some 110) _) _
            simp only [Act.put, List.setIfInBounds_toArray, List.set_cons_zero, List.set_cons_succ]
            refine wpAnyH_take (i := 1) (v := .bool true) rfl (by kernel_rfl) (by kernel_rfl) (by kernel_rfl) (fun _ _ _ h => h) (Or.inl ⟨by rfl, fun w _ => by rfl⟩) hHeld ?_
            show wpAnyH _ _ _ _ _ _ _ (Act.put _ (some 111) _) _
            simp only [Act.put, List.setIfInBounds_toArray, List.set_cons_zero, List.set_cons_succ]
            refine wpAnyH_take (i := 2) (v := .int .i64 0) rfl (by kernel_rfl) (by kernel_rfl) (by kernel_rfl) (fun _ _ _ h => h) (Or.inl ⟨by rfl, fun w _ => by rfl⟩) hHeld ?_
            show wpAnyH _ _ _ _ _ _ _ (Act.put _ (some 112) _) _
            simp only [Act.put, List.setIfInBounds_toArray, List.set_cons_zero, List.set_cons_succ]
            refine wpAnyH_take (i := 3) (v := .int .i64 0) rfl (by kernel_rfl) (by kernel_rfl) (by kernel_rfl) (fun _ _ _ h => h) (Or.inl ⟨by rfl, fun w _ => by rfl⟩) hHeld ?_
            show wpAnyH _ _ _ _ _ _ _ (Act.put _ (some 113) _) _
            simp only [Act.put, List.setIfInBounds_toArray, List.set_cons_zero, List.set_cons_succ]
            refine wpAnyH_take (i := 4) (v := .bool true) rfl (by kernel_rfl) (by kernel_rfl) (by kernel_rfl) (fun _ _ _ h => h) (Or.inl ⟨by rfl, by intro w' h; go_simp⟩) hHeld ?_
            show wpAnyH _ _ _ _ _ _ _ (Act.put _ (some 114) _) _
            simp only [Act.put, List.setIfInBounds_toArray, List.set_cons_zero, List.set_cons_succ]
            refine wpAnyH_take (i := 5) (v := .bool true) rfl (by kernel_rfl) (by kernel_rfl) (by kernel_rfl) (fun _ _ _ h => h) (Or.inl ⟨by rfl, by intro w hSw; first | rfl | go_simp⟩) hHeld ?_
            show wpAnyH _ _ _ _ _ _ _ (Act.put _ (some 115) _) _
            simp only [Act.put, List.setIfInBounds_toArray, List.set_cons_zero, List.set_cons_succ]
            refine wpAnyH_take (i := 6) (v := .bool true) rfl (by kernel_rfl) (by kernel_rfl) (by kernel_rfl) (fun _ _ _ h => h) (Or.inl ⟨by rfl, fun w _ => by rfl⟩) hHeld ?_
            show wpAnyH _ _ _ _ _ _ _ (Act.put _ (some 116) _) _
            simp only [Act.put, List.setIfInBounds_toArray, List.set_cons_zero, List.set_cons_succ]
            refine wpAnyH_take (i := 7) (v := .agg #[.slice y1 sl z1, .slice y2 el z2]) rfl (by kernel_rfl) (by kernel_rfl) (by kernel_rfl) (fun _ _ _ h => h) (Or.inl ⟨by rfl, by intro w' h; have k0 := Blk.cell h.1 0; have k1 := Blk.cell h.1 1; simp only [List.getElem?_cons_zero, List.getElem?_cons_succ] at k0 k1; go_simp⟩) hHeld ?_
            show wpAnyH _ _ _ _ _ _ _ (Act.put _ (some 117) _) _
            simp only [Act.put, List.setIfInBounds_toArray, List.set_cons_zero, List.set_cons_succ]
            refine wpAnyH_take (i := 9) (v := .agg #[.slice sa sl sc, .slice q2 el o2]) rfl (by kernel_rfl) (by kernel_rfl) (by kernel_rfl) (fun _ _ _ h => h) (Or.inl ⟨by rfl, by intro w' h; have k0 := Blk.cell h.2 0; have k1 := Blk.cell h.2 1; simp only [List.getElem?_cons_zero, List.getElem?_cons_succ] at k0 k1; go_simp⟩) hHeld ?_
            show wpAnyH _ _ _ _ _ _ _ (Act.put _ (some 119) _) _
            simp only [Act.put, List.setIfInBounds_toArray, List.set_cons_zero, List.set_cons_succ]
            refine wpAnyH_ready (rs := [8]) (by kernel_rfl) (by simp) ?_
            refine AllReadyH.cons rfl (fun K hK => ?_) AllReadyH.nil
            refine step_call rfl 32 #[.tmp 117] #[31] rfl #[.agg #[.slice y1 sl z1, .slice y2 el z2]] (by simp [Act.eval]) (by go_simp) (wfrom_any y1 sl z1 y2 el z2 sp EF X1 FX1.out GX1.out HSL.out HLE.out hs20 he30) ?_
            rintro e X2 ⟨u1, v1, u2, v2, rfl, hs5, he5, hB⟩
            have NX2 : Hid (Blk X2 g7 25 [.slice sa sl sc, .slice q2 el o2]) := Lib.hid (NX1.out.below hB NX1.out.lt)
            have TX2 : Hid (Blk X2 g5 31 [.slice y1 sl z1, .slice y2 el z2]) := Lib.hid (TX1.out.below hB TX1.out.lt)
            have BX2 : Hid (Below w.heap.size w X2) := Lib.hid (BX1.out.trans (hB.mono BX1.out.size))
            have FX2 : Hid (SpotRow X2 y1 sp) := Lib.hid (FX1.out.below hB)
            have GX2 : Hid (EdgeRow X2 y2 EF) := Lib.hid (GX1.out.below hB)
            have QX2 : Hid (EdgeRow X2 q2 EF) := Lib.hid (QX1.out.below hB)
            have IX2 : Hid (SpotRow X2 u1 sp) := Lib.hid (hs5)
            have JX2 : Hid (EdgeRow X2 u2 EF) := Lib.hid (he5)
            clear NX1 TX1 BX1 FX1 GX1 QX1 hB hs5 he5
            refine ⟨_, rfl, hK.out _ _ (⟨TX2.out, NX2.out⟩) (fun hHeld => ?_)⟩
            clear hK K
            show wpAnyH _ _ _ _ _ _ _ (Act.put _ (some 118) _) _
            simp only [Act.put, List.setIfInBounds_toArray, List.set_cons_zero, List.set_cons_succ]
            refine wpAnyH_ready (rs := [10]) (by kernel_rfl) (by simp) ?_
            refine AllReadyH.cons rfl (fun K hK => ?_) AllReadyH.nil
            refine step_call rfl 31 #[.tmp 118, .tmp 119] #[25, 25] rfl #[.agg #[.slice u1 sl v1, .slice u2 el v2], .agg #[.slice sa sl sc, .slice q2 el o2]] (by simp [Act.eval]) (by go_simp) (wsame_any u1 sl v1 u2 el v2 sa sc q2 o2 sp EF X2 IX2.out JX2.out (HS.out.below BX2.out) QX2.out HSL.out HLE.out hs20 he30) ?_
            rintro e X3 ⟨rfl, hB⟩
            have NX3 : Hid (Blk X3 g7 25 [.slice sa sl sc, .slice q2 el o2]) := Lib.hid (NX2.out.below hB NX2.out.lt)
            have TX3 : Hid (Blk X3 g5 31 [.slice y1 sl z1, .slice y2 el z2]) := Lib.hid (TX2.out.below hB TX2.out.lt)
            have BX3 : Hid (Below w.heap.size w X3) := Lib.hid (BX2.out.trans (hB.mono BX2.out.size))
            have FX3 : Hid (SpotRow X3 y1 sp) := Lib.hid (FX2.out.below hB)
            have GX3 : Hid (EdgeRow X3 y2 EF) := Lib.hid (GX2.out.below hB)
            have QX3 : Hid (EdgeRow X3 q2 EF) := Lib.hid (QX2.out.below hB)
            have IX3 : Hid (SpotRow X3 u1 sp) := Lib.hid (IX2.out.below hB)
            have JX3 : Hid (EdgeRow X3 u2 EF) := Lib.hid (JX2.out.below hB)
            clear NX2 TX2 BX2 FX2 GX2 QX2 IX2 JX2 hB
            refine ⟨_, rfl, hK.out _ _ (⟨TX3.out, NX3.out⟩) (fun hHeld => ?_)⟩
            clear hK K
            show wpAnyH _ _ _ _ _ _ _ (Act.put _ (some 120) _) _
            simp only [Act.put, List.setIfInBounds_toArray, List.set_cons_zero, List.set_cons_succ]
            refine wpAnyH_take (i := 11) (v := .bool true) rfl (by kernel_rfl) (by kernel_rfl) (by kernel_rfl) (fun _ _ _ h => h) (Or.inl ⟨by rfl, by intro w hSw; first | rfl | go_simp⟩) hHeld ?_
            show wpAnyH _ _ _ _ _ _ _ (Act.put _ (some 121) _) _
            simp only [Act.put, List.setIfInBounds_toArray, List.set_cons_zero, List.set_cons_succ]
            refine wpAnyH_take (i := 12) (v := .bool true) rfl (by kernel_rfl) (by kernel_rfl) (by kernel_rfl) (fun _ _ _ h => h) (Or.inl ⟨by rfl, fun w _ => by rfl⟩) hHeld ?_
            show wpAnyH _ _ _ _ _ _ _ (Act.put _ (some 4) _) _
            simp only [Act.put, List.setIfInBounds_toArray, List.set_cons_zero, List.set_cons_succ]
            refine wpAnyH_done (by kernel_rfl) ?_ _
            clear hHeld
            go_wp2
            go_ret
            exact ⟨rfl, BX3.out⟩
          · have b0 : (fe == 0) = false := by simpa using hfe
            have b1 : decide (fe = 0) = false := decide_eq_false hfe
            have b2 : (fe != 0) = true := by simpa using hfe
            have hfg : goE sl ns gs am es = fe := by rcases Hf.out with h | h; exact absurd h.1 hfe; exact h.2
            have HFG := Lib.hid hfg
            clear hfg
            exact absurd (HFG.out.symm.trans HGE.out) hfe

set_option maxRecDepth 100000 in
set_option maxHeartbeats 8000000 in
theorem goes_bad (sa : Option Addr) (sl sc : Nat) (ea : Option Addr) (el ec : Nat) (sp : List (Int × Int)) (es : List Ed) (na : Option Addr) (n nc : Nat) (ga : Option Addr) (m gc : Nat) (aa : Option Addr) (k ac : Nat) (ns gs am : List Int) (w : World) (hS : SpotRow w sa sp) (hE : EdgeRow w ea es) (hok : ∀ e ∈ es, EdOk e) (hsl : sp.length = sl) (hel : es.length = el) (hN : IRow w na ns) (hG : IRow w ga gs) (hA : Mon.Nums w aa am) (hn : ns.length = n) (hm : gs.length = m) (hk : am.length = k) (hl : lightB sl el = true) (hsm : m ≤ 20 ∧ n ≤ 20 ∧ k ≤ 20) (hc : m = k ∧ n = m + 1) (hg : goE sl ns gs am es ≠ 0) :
    Calls Try.prog 10 #[.agg #[.slice sa sl sc, .slice ea el ec], .agg #[.slice na n nc, .slice ga m gc, .slice aa k ac]] w (Ok w) := by
  have HLT : Hid (sl ≤ 20 ∧ el ≤ 30) := Lib.hid (by unfold lightB at hl; exact of_decide_eq_true hl)
  have HG0 : Hid (goE sl ns gs am es = (if checkE sl es ≠ 0 then checkE sl es else (goN sl ns gs am es m).1) ∧ goL sl ns gs am es = (goN sl ns gs am es m).2) := Lib.hid (by unfold goE goL; rw [if_neg (by rw [hn, hm, hk]; omega), hm]; exact ⟨rfl, rfl⟩)
  obtain ⟨hm20, hn20, hk20⟩ := hsm
  have HWD := Lib.hid hA.2.1
  obtain ⟨er, her⟩ : ∃ e, goE sl ns gs am es = e := ⟨_, rfl⟩
  have HGE := Lib.hid her
  have HNZ : Hid (er ≠ 0) := Lib.hid (by rw [← her]; exact hg)
  clear her
  have HC := Lib.hid hc
  clear hc hg
  have HL := Lib.hid (fun w => light_any sa sl sc ea el ec w)
  rw [hl] at HL
  have HS := Lib.hid hS
  have HE := Lib.hid hE
  have HOK := Lib.hid hok
  have HSL := Lib.hid hsl
  have HEL := Lib.hid hel
  have HN := Lib.hid hN
  have HG := Lib.hid hG
  have HA := Lib.hid hA
  have HNL := Lib.hid hn
  have HML := Lib.hid hm
  have HKL := Lib.hid hk
  have BV : Hid (Below w.heap.size w ((w.alloc (.cells #[.slice sa sl sc, .slice ea el ec] 25)).alloc (.cells #[.slice na n nc, .slice ga m gc, .slice aa k ac] 87))) := Lib.hid (((Below.refl _ _).alloc (Nat.le_refl _) _).alloc (by simp) _)
  have PV : Hid (Blk ((w.alloc (.cells #[.slice sa sl sc, .slice ea el ec] 25)).alloc (.cells #[.slice na n nc, .slice ga m gc, .slice aa k ac] 87)) w.heap.size 25 [.slice sa sl sc, .slice ea el ec]) := Lib.hid ((Blk.new w 25 [.slice sa sl sc, .slice ea el ec]).alloc _)
  have RV : Hid (Blk ((w.alloc (.cells #[.slice sa sl sc, .slice ea el ec] 25)).alloc (.cells #[.slice na n nc, .slice ga m gc, .slice aa k ac] 87)) (w.heap.size + 1) 87 [.slice na n nc, .slice ga m gc, .slice aa k ac]) := Lib.hid (Blk.mk_ (cs := [.slice na n nc, .slice ga m gc, .slice aa k ac]) (by simp))
  clear hl hS hE hok hsl hel hN hG hA hn hm hk
  go_enter Try.func10, Try.ntmps10
  go_upto_region 1 with fail
  generalize ((w.alloc (.cells #[.slice sa sl sc, .slice ea el ec] 25)).alloc (.cells #[.slice na n nc, .slice ga m gc, .slice aa k ac] 87)) = V at BV PV RV ⊢
  obtain ⟨gr, hgr⟩ : ∃ g, w.heap.size + 1 = g := ⟨_, rfl⟩
  obtain ⟨gp, hgp⟩ : ∃ g, w.heap.size = g := ⟨_, rfl⟩
  rw [hgr] at RV ⊢
  rw [hgp] at PV ⊢
  clear hgr hgp
  have p0 := PV.out.cell 0
  have p1 := PV.out.cell 1
  simp only [List.getElem?_cons_zero, List.getElem?_cons_succ] at p0 p1
  go_wp2_with fail
  clear p0 p1
  refine (HL.out _).mono ?_
  rintro e Y ⟨rfl, hB⟩
  have BY := Lib.hid (BV.out.trans (hB.mono BV.out.size))
  have PY := Lib.hid (PV.out.below hB PV.out.lt)
  have RY := Lib.hid (RV.out.below hB RV.out.lt)
  clear hB BV PV RV HL
  have hlt : sl ≤ 20 ∧ el ≤ 30 := HLT.out
  obtain ⟨hs20, he30⟩ := hlt
  have d1 : decide ((20 : Int) < (m : Int)) = false := decide_eq_false (by omega)
  have d2 : decide ((20 : Int) < (n : Int)) = false := decide_eq_false (by omega)
  have d3 : decide ((20 : Int) < (k : Int)) = false := decide_eq_false (by omega)
  have r0 := RY.out.cell 0
  have r1 := RY.out.cell 1
  have r2 := RY.out.cell 2
  simp only [List.getElem?_cons_zero, List.getElem?_cons_succ] at r0 r1 r2
  go_upto_region 3 with fail
  clear r0 r1 r2 d1 d2 d3
  go_cut [5, 6] (fun p q wc => ∃ (g5 : Nat) , p = .pointer (some ⟨g5, 0, none⟩) ∧ q = .int .i64 er ∧ Hid (Blk wc gp 25 [.slice sa sl sc, .slice ea el ec]) ∧ Hid (Blk wc gr 87 [.slice na n nc, .slice ga m gc, .slice aa k ac]) ∧ Hid (Below w.heap.size w wc) ∧ Hid (Blk wc g5 31 [.slice none 0 0, .slice none 0 0]))
  case first =>
    have hBz : Below Y.heap.size Y Y.drew := below_drewN (Below.refl _ _) 1
    have PX0 : Hid (Blk Y.drew gp 25 [.slice sa sl sc, .slice ea el ec]) := Lib.hid (PY.out.below hBz PY.out.lt)
    have RX0 : Hid (Blk Y.drew gr 87 [.slice na n nc, .slice ga m gc, .slice aa k ac]) := Lib.hid (RY.out.below hBz RY.out.lt)
    have BX0 : Hid (Below w.heap.size w Y.drew) := Lib.hid (BY.out.trans (hBz.mono BY.out.size))
    clear hBz
    refine wp_region_held_drew (S := fun w' => Blk w' gp 25 [.slice sa sl sc, .slice ea el ec] ∧ Blk w' gr 87 [.slice na n nc, .slice ga m gc, .slice aa k ac]) (by kernel_rfl) (⟨PX0.out, RX0.out⟩) (fun hHeld => ?_)
    generalize Y.drew = X0 at hHeld PX0 RX0 BX0 ⊢
    refine wpAnyH_take (i := 0) (v := .pointer (some ⟨gr, 0, none⟩)) rfl (by kernel_rfl) (by kernel_rfl) (by kernel_rfl) (fun _ _ _ h => h) (Or.inl ⟨by rfl, by intro w' h; go_simp⟩) hHeld ?_
    show wpAnyH _ _ _ _ _ _ _ (Act.put _ (some 33) _) _
    simp only [Act.put, List.setIfInBounds_toArray, List.set_cons_zero, List.set_cons_succ]
    refine wpAnyH_take (i := 1) (v := .slice na n nc) rfl (by kernel_rfl) (by kernel_rfl) (by kernel_rfl) (fun _ _ _ h => h) (Or.inl ⟨by rfl, by intro w' h; have k0 := Blk.cell h.2 0; simp only [List.getElem?_cons_zero] at k0; go_simp⟩) hHeld ?_
    show wpAnyH _ _ _ _ _ _ _ (Act.put _ (some 34) _) _
    simp only [Act.put, List.setIfInBounds_toArray, List.set_cons_zero, List.set_cons_succ]
    refine wpAnyH_take (i := 2) (v := .pointer (some ⟨gr, 1, none⟩)) rfl (by kernel_rfl) (by kernel_rfl) (by kernel_rfl) (fun _ _ _ h => h) (Or.inl ⟨by rfl, by intro w' h; go_simp⟩) hHeld ?_
    show wpAnyH _ _ _ _ _ _ _ (Act.put _ (some 35) _) _
    simp only [Act.put, List.setIfInBounds_toArray, List.set_cons_zero, List.set_cons_succ]
    refine wpAnyH_take (i := 3) (v := .slice ga m gc) rfl (by kernel_rfl) (by kernel_rfl) (by kernel_rfl) (fun _ _ _ h => h) (Or.inl ⟨by rfl, by intro w' h; have k0 := Blk.cell h.2 1; simp only [List.getElem?_cons_zero, List.getElem?_cons_succ] at k0; go_simp⟩) hHeld ?_
    show wpAnyH _ _ _ _ _ _ _ (Act.put _ (some 36) _) _
    simp only [Act.put, List.setIfInBounds_toArray, List.set_cons_zero, List.set_cons_succ]
    refine wpAnyH_take (i := 4) (v := .pointer (some ⟨gr, 2, none⟩)) rfl (by kernel_rfl) (by kernel_rfl) (by kernel_rfl) (fun _ _ _ h => h) (Or.inl ⟨by rfl, by intro w' h; go_simp⟩) hHeld ?_
    show wpAnyH _ _ _ _ _ _ _ (Act.put _ (some 37) _) _
    simp only [Act.put, List.setIfInBounds_toArray, List.set_cons_zero, List.set_cons_succ]
    refine wpAnyH_take (i := 5) (v := .slice aa k ac) rfl (by kernel_rfl) (by kernel_rfl) (by kernel_rfl) (fun _ _ _ h => h) (Or.inl ⟨by rfl, by intro w' h; have k0 := Blk.cell h.2 2; simp only [List.getElem?_cons_zero, List.getElem?_cons_succ] at k0; go_simp⟩) hHeld ?_
    show wpAnyH _ _ _ _ _ _ _ (Act.put _ (some 38) _) _
    simp only [Act.put, List.setIfInBounds_toArray, List.set_cons_zero, List.set_cons_succ]
    refine wpAnyH_take (i := 6) (v := .agg #[.slice na n nc, .slice ga m gc, .slice aa k ac]) rfl (by kernel_rfl) (by kernel_rfl) (by kernel_rfl) (fun _ _ _ h => h) (Or.inl ⟨by rfl, by intro w' h; go_simp⟩) hHeld ?_
    show wpAnyH _ _ _ _ _ _ _ (Act.put _ (some 39) _) _
    simp only [Act.put, List.setIfInBounds_toArray, List.set_cons_zero, List.set_cons_succ]
    refine wpAnyH_take (i := 7) (v := .agg #[.slice sa sl sc, .slice ea el ec]) rfl (by kernel_rfl) (by kernel_rfl) (by kernel_rfl) (fun _ _ _ h => h) (Or.inl ⟨by rfl, by intro w' h; have k0 := Blk.cell h.1 0; have k1 := Blk.cell h.1 1; simp only [List.getElem?_cons_zero, List.getElem?_cons_succ] at k0 k1; go_simp⟩) hHeld ?_
    show wpAnyH _ _ _ _ _ _ _ (Act.put _ (some 40) _) _
    simp only [Act.put, List.setIfInBounds_toArray, List.set_cons_zero, List.set_cons_succ]
    refine wpAnyH_ready (rs := [8, 13]) (by kernel_rfl) (by simp) ?_
    refine AllReadyH.cons rfl (fun K hK => ?_) (AllReadyH.cons rfl (fun K hK => ?_) AllReadyH.nil)
    · refine step_call rfl 15 #[.tmp 40] #[25] rfl #[.agg #[.slice sa sl sc, .slice ea el ec]] (by simp [Act.eval]) (by go_simp) (wto_any sa sl sc ea el ec sp es X0 (HS.out.below BX0.out) (HE.out.below BX0.out) HSL.out HEL.out hs20 he30) ?_
      rintro e X1 ⟨sa1, sc1, ea1, ec1, rfl, hS1, hE1, hn1, hn2, hB⟩
      have PX1 : Hid (Blk X1 gp 25 [.slice sa sl sc, .slice ea el ec]) := Lib.hid (PX0.out.below hB PX0.out.lt)
      have RX1 : Hid (Blk X1 gr 87 [.slice na n nc, .slice ga m gc, .slice aa k ac]) := Lib.hid (RX0.out.below hB RX0.out.lt)
      have BX1 : Hid (Below w.heap.size w X1) := Lib.hid (BX0.out.trans (hB.mono BX0.out.size))
      have SX1 : Hid (SpotRow X1 sa1 sp) := Lib.hid (hS1)
      have EX1 : Hid (EdgeRow X1 ea1 es) := Lib.hid (hE1)
      have HN1 := Lib.hid hn1
      have HN2 := Lib.hid hn2
      clear PX0 RX0 BX0 hB hS1 hE1 hn1 hn2
      refine ⟨_, rfl, hK.out _ _ (⟨PX1.out, RX1.out⟩) (fun hHeld => ?_)⟩
      clear hK K
      show wpAnyH _ _ _ _ _ _ _ (Act.put _ (some 41) _) _
      simp only [Act.put, List.setIfInBounds_toArray, List.set_cons_zero, List.set_cons_succ]
      refine wpAnyH_ready (rs := [9, 13]) (by kernel_rfl) (by simp) ?_
      refine AllReadyH.cons rfl (fun K hK => ?_) (AllReadyH.cons rfl (fun K hK => ?_) AllReadyH.nil)
      · refine step_call rfl 42 #[.tmp 39, .tmp 41] #[89, 31] rfl #[.agg #[.slice na n nc, .slice ga m gc, .slice aa k ac], .agg #[.slice sa1 sl sc1, .slice ea1 el ec1]] (by simp [Act.eval]) (by go_simp) (go_any na ga aa n nc m gc k ac ns gs am sa1 sl sc1 ea1 el ec1 sp es X1 (HN.out.below BX1.out) (HG.out.below BX1.out) (HA.out.below BX1.out) HNL.out HML.out HKL.out (by omega) (by omega) (by omega) SX1.out EX1.out HSL.out HEL.out (by omega) (by omega) HN1.out HN2.out HOK.out HA.out.2.1) ?_
        rintro e X2 ⟨v, rfl, hB, _, hv⟩
        obtain rfl := hv (by rw [HSL.out, HGE.out]; exact HNZ.out)
        rw [HSL.out, HGE.out]
        have PX2 : Hid (Blk X2 gp 25 [.slice sa sl sc, .slice ea el ec]) := Lib.hid (PX1.out.below hB PX1.out.lt)
        have RX2 : Hid (Blk X2 gr 87 [.slice na n nc, .slice ga m gc, .slice aa k ac]) := Lib.hid (RX1.out.below hB RX1.out.lt)
        have BX2 : Hid (Below w.heap.size w X2) := Lib.hid (BX1.out.trans (hB.mono BX1.out.size))
        have SX2 : Hid (SpotRow X2 sa1 sp) := Lib.hid (SX1.out.below hB)
        have EX2 : Hid (EdgeRow X2 ea1 es) := Lib.hid (EX1.out.below hB)
        clear PX1 RX1 BX1 SX1 EX1 hB hv
        refine ⟨_, rfl, hK.out _ _ (⟨PX2.out, RX2.out⟩) (fun hHeld => ?_)⟩
        clear hK K
        show wpAnyH _ _ _ _ _ _ _ (Act.put _ (some 42) _) _
        simp only [Act.put, List.setIfInBounds_toArray, List.set_cons_zero, List.set_cons_succ]
        refine wpAnyH_take (i := 10) (v := .tuple #[.agg #[.slice none 0 0, .slice none 0 0], .int .i64 er]) rfl (by kernel_rfl) (by kernel_rfl) (by kernel_rfl) (fun _ _ _ h => h) (Or.inl ⟨by rfl, fun w _ => by rfl⟩) hHeld ?_
        show wpAnyH _ _ _ _ _ _ _ (Act.put _ (some 32) _) _
        simp only [Act.put, List.setIfInBounds_toArray, List.set_cons_zero, List.set_cons_succ]
        refine wpAnyH_take (i := 11) (v := .agg #[.slice none 0 0, .slice none 0 0]) rfl (by kernel_rfl) (by kernel_rfl) (by kernel_rfl) (fun _ _ _ h => h) (Or.inl ⟨by rfl, by intro w' h; go_simp⟩) hHeld ?_
        show wpAnyH _ _ _ _ _ _ _ (Act.put _ (some 43) _) _
        simp only [Act.put, List.setIfInBounds_toArray, List.set_cons_zero, List.set_cons_succ]
        refine wpAnyH_take (i := 12) (v := .int .i64 er) rfl (by kernel_rfl) (by kernel_rfl) (by kernel_rfl) (fun _ _ _ h => h) (Or.inl ⟨by rfl, by intro w' h; go_simp⟩) hHeld ?_
        show wpAnyH _ _ _ _ _ _ _ (Act.put _ (some 44) _) _
        simp only [Act.put, List.setIfInBounds_toArray, List.set_cons_zero, List.set_cons_succ]
        refine wpAnyH_ready (rs := [13]) (by kernel_rfl) (by simp) ?_
        refine AllReadyH.cons rfl (fun K hK => ?_) AllReadyH.nil
        refine step_web rfl rfl ?_
        intro X3 g5 hT hg5 hB
        have HG5 : Hid (w.heap.size ≤ g5) := Lib.hid (Nat.le_trans BX2.out.size hg5)
        have PX3 : Hid (Blk X3 gp 25 [.slice sa sl sc, .slice ea el ec]) := Lib.hid (PX2.out.below hB PX2.out.lt)
        have RX3 : Hid (Blk X3 gr 87 [.slice na n nc, .slice ga m gc, .slice aa k ac]) := Lib.hid (RX2.out.below hB RX2.out.lt)
        have BX3 : Hid (Below w.heap.size w X3) := Lib.hid (BX2.out.trans (hB.mono BX2.out.size))
        have SX3 : Hid (SpotRow X3 sa1 sp) := Lib.hid (SX2.out.below hB)
        have EX3 : Hid (EdgeRow X3 ea1 es) := Lib.hid (EX2.out.below hB)
        have TX3 : Hid (Blk X3 g5 31 [.slice none 0 0, .slice none 0 0]) := Lib.hid (hT)
        clear PX2 RX2 BX2 SX2 EX2 hB hT hg5
        refine hK.out _ _ (⟨PX3.out, RX3.out⟩) (fun hHeld => ?_)
        clear hK K
        show wpAnyH _ _ _ _ _ _ _ (Act.put _ (some 5) _) _
        simp only [Act.put, List.setIfInBounds_toArray, List.set_cons_zero, List.set_cons_succ]
        refine wpAnyH_ready (rs := [14]) (by kernel_rfl) (by simp) ?_
        refine AllReadyH.cons rfl (fun K hK => ?_) AllReadyH.nil
        refine step_put31 rfl (.tmp 5) (.tmp 43) rfl g5 _ _ none none 0 0 0 0 rfl rfl TX3.out ?_
        intro X4 hT hO
        have PX4 : Hid (Blk X4 gp 25 [.slice sa sl sc, .slice ea el ec]) := Lib.hid (PX3.out.grown hO (by intro e9; injection e9 with e9; exact Blk.ne_ PX3.out TX3.out (by decide) e9))
        have RX4 : Hid (Blk X4 gr 87 [.slice na n nc, .slice ga m gc, .slice aa k ac]) := Lib.hid (RX3.out.grown hO (by intro e9; injection e9 with e9; exact Blk.ne_ RX3.out TX3.out (by decide) e9))
        have BX4 : Hid (Below w.heap.size w X4) := Lib.hid (BX3.out.trans (only_up hO HG5.out BX3.out.size))
        have SX4 : Hid (SpotRow X4 sa1 sp) := Lib.hid (SX3.out.grown TX3.out (slices2 none none 0 0 0 0) hO)
        have EX4 : Hid (EdgeRow X4 ea1 es) := Lib.hid (EX3.out.grown TX3.out (slices2 none none 0 0 0 0) hO)
        have TX4 : Hid (Blk X4 g5 31 [.slice none 0 0, .slice none 0 0]) := Lib.hid (hT)
        clear PX3 RX3 BX3 SX3 EX3 hO hT
        refine hK.out _ _ (⟨PX4.out, RX4.out⟩) (fun hHeld => ?_)
        clear hK K
        show wpAnyH _ _ _ _ _ _ _ (Act.put _ none _) _
        simp only [Act.put]
        refine wpAnyH_take (i := 15) (v := .int .i64 er) rfl (by kernel_rfl) (by kernel_rfl) (by kernel_rfl) (fun _ _ _ h => h) (Or.inl ⟨by rfl, fun w _ => by rfl⟩) hHeld ?_
        show wpAnyH _ _ _ _ _ _ _ (Act.put _ (some 6) _) _
        simp only [Act.put, List.setIfInBounds_toArray, List.set_cons_zero, List.set_cons_succ]
        refine wpAnyH_done (by kernel_rfl) ?_ _
        clear hHeld
        go_wp2_with fail
        go_meet
        exact ⟨g5, rfl, rfl, PX4, RX4, BX4, TX4⟩
      · refine step_web rfl rfl ?_
        intro X2 g5 hT hg5 hB
        have HG5 : Hid (w.heap.size ≤ g5) := Lib.hid (Nat.le_trans BX1.out.size hg5)
        have PX2 : Hid (Blk X2 gp 25 [.slice sa sl sc, .slice ea el ec]) := Lib.hid (PX1.out.below hB PX1.out.lt)
        have RX2 : Hid (Blk X2 gr 87 [.slice na n nc, .slice ga m gc, .slice aa k ac]) := Lib.hid (RX1.out.below hB RX1.out.lt)
        have BX2 : Hid (Below w.heap.size w X2) := Lib.hid (BX1.out.trans (hB.mono BX1.out.size))
        have SX2 : Hid (SpotRow X2 sa1 sp) := Lib.hid (SX1.out.below hB)
        have EX2 : Hid (EdgeRow X2 ea1 es) := Lib.hid (EX1.out.below hB)
        have TX2 : Hid (Blk X2 g5 31 [.slice none 0 0, .slice none 0 0]) := Lib.hid (hT)
        clear PX1 RX1 BX1 SX1 EX1 hB hT hg5
        refine hK.out _ _ (⟨PX2.out, RX2.out⟩) (fun hHeld => ?_)
        clear hK K
        show wpAnyH _ _ _ _ _ _ _ (Act.put _ (some 5) _) _
        simp only [Act.put, List.setIfInBounds_toArray, List.set_cons_zero, List.set_cons_succ]
        refine wpAnyH_ready (rs := [9]) (by kernel_rfl) (by simp) ?_
        refine AllReadyH.cons rfl (fun K hK => ?_) AllReadyH.nil
        refine step_call rfl 42 #[.tmp 39, .tmp 41] #[89, 31] rfl #[.agg #[.slice na n nc, .slice ga m gc, .slice aa k ac], .agg #[.slice sa1 sl sc1, .slice ea1 el ec1]] (by simp [Act.eval]) (by go_simp) (go_any na ga aa n nc m gc k ac ns gs am sa1 sl sc1 ea1 el ec1 sp es X2 (HN.out.below BX2.out) (HG.out.below BX2.out) (HA.out.below BX2.out) HNL.out HML.out HKL.out (by omega) (by omega) (by omega) SX2.out EX2.out HSL.out HEL.out (by omega) (by omega) HN1.out HN2.out HOK.out HA.out.2.1) ?_
        rintro e X3 ⟨v, rfl, hB, _, hv⟩
        obtain rfl := hv (by rw [HSL.out, HGE.out]; exact HNZ.out)
        rw [HSL.out, HGE.out]
        have PX3 : Hid (Blk X3 gp 25 [.slice sa sl sc, .slice ea el ec]) := Lib.hid (PX2.out.below hB PX2.out.lt)
        have RX3 : Hid (Blk X3 gr 87 [.slice na n nc, .slice ga m gc, .slice aa k ac]) := Lib.hid (RX2.out.below hB RX2.out.lt)
        have BX3 : Hid (Below w.heap.size w X3) := Lib.hid (BX2.out.trans (hB.mono BX2.out.size))
        have SX3 : Hid (SpotRow X3 sa1 sp) := Lib.hid (SX2.out.below hB)
        have EX3 : Hid (EdgeRow X3 ea1 es) := Lib.hid (EX2.out.below hB)
        have TX3 : Hid (Blk X3 g5 31 [.slice none 0 0, .slice none 0 0]) := Lib.hid (TX2.out.below hB TX2.out.lt)
        clear PX2 RX2 BX2 SX2 EX2 TX2 hB hv
        refine ⟨_, rfl, hK.out _ _ (⟨PX3.out, RX3.out⟩) (fun hHeld => ?_)⟩
        clear hK K
        show wpAnyH _ _ _ _ _ _ _ (Act.put _ (some 42) _) _
        simp only [Act.put, List.setIfInBounds_toArray, List.set_cons_zero, List.set_cons_succ]
        refine wpAnyH_take (i := 10) (v := .tuple #[.agg #[.slice none 0 0, .slice none 0 0], .int .i64 er]) rfl (by kernel_rfl) (by kernel_rfl) (by kernel_rfl) (fun _ _ _ h => h) (Or.inl ⟨by rfl, fun w _ => by rfl⟩) hHeld ?_
        show wpAnyH _ _ _ _ _ _ _ (Act.put _ (some 32) _) _
        simp only [Act.put, List.setIfInBounds_toArray, List.set_cons_zero, List.set_cons_succ]
        refine wpAnyH_take (i := 11) (v := .agg #[.slice none 0 0, .slice none 0 0]) rfl (by kernel_rfl) (by kernel_rfl) (by kernel_rfl) (fun _ _ _ h => h) (Or.inl ⟨by rfl, by intro w' h; go_simp⟩) hHeld ?_
        show wpAnyH _ _ _ _ _ _ _ (Act.put _ (some 43) _) _
        simp only [Act.put, List.setIfInBounds_toArray, List.set_cons_zero, List.set_cons_succ]
        refine wpAnyH_take (i := 12) (v := .int .i64 er) rfl (by kernel_rfl) (by kernel_rfl) (by kernel_rfl) (fun _ _ _ h => h) (Or.inl ⟨by rfl, by intro w' h; go_simp⟩) hHeld ?_
        show wpAnyH _ _ _ _ _ _ _ (Act.put _ (some 44) _) _
        simp only [Act.put, List.setIfInBounds_toArray, List.set_cons_zero, List.set_cons_succ]
        refine wpAnyH_ready (rs := [14]) (by kernel_rfl) (by simp) ?_
        refine AllReadyH.cons rfl (fun K hK => ?_) AllReadyH.nil
        refine step_put31 rfl (.tmp 5) (.tmp 43) rfl g5 _ _ none none 0 0 0 0 rfl rfl TX3.out ?_
        intro X4 hT hO
        have PX4 : Hid (Blk X4 gp 25 [.slice sa sl sc, .slice ea el ec]) := Lib.hid (PX3.out.grown hO (by intro e9; injection e9 with e9; exact Blk.ne_ PX3.out TX3.out (by decide) e9))
        have RX4 : Hid (Blk X4 gr 87 [.slice na n nc, .slice ga m gc, .slice aa k ac]) := Lib.hid (RX3.out.grown hO (by intro e9; injection e9 with e9; exact Blk.ne_ RX3.out TX3.out (by decide) e9))
        have BX4 : Hid (Below w.heap.size w X4) := Lib.hid (BX3.out.trans (only_up hO HG5.out BX3.out.size))
        have SX4 : Hid (SpotRow X4 sa1 sp) := Lib.hid (SX3.out.grown TX3.out (slices2 none none 0 0 0 0) hO)
        have EX4 : Hid (EdgeRow X4 ea1 es) := Lib.hid (EX3.out.grown TX3.out (slices2 none none 0 0 0 0) hO)
        have TX4 : Hid (Blk X4 g5 31 [.slice none 0 0, .slice none 0 0]) := Lib.hid (hT)
        clear PX3 RX3 BX3 SX3 EX3 hO hT
        refine hK.out _ _ (⟨PX4.out, RX4.out⟩) (fun hHeld => ?_)
        clear hK K
        show wpAnyH _ _ _ _ _ _ _ (Act.put _ none _) _
        simp only [Act.put]
        refine wpAnyH_take (i := 15) (v := .int .i64 er) rfl (by kernel_rfl) (by kernel_rfl) (by kernel_rfl) (fun _ _ _ h => h) (Or.inl ⟨by rfl, fun w _ => by rfl⟩) hHeld ?_
        show wpAnyH _ _ _ _ _ _ _ (Act.put _ (some 6) _) _
        simp only [Act.put, List.setIfInBounds_toArray, List.set_cons_zero, List.set_cons_succ]
        refine wpAnyH_done (by kernel_rfl) ?_ _
        clear hHeld
        go_wp2_with fail
        go_meet
        exact ⟨g5, rfl, rfl, PX4, RX4, BX4, TX4⟩
    · refine step_web rfl rfl ?_
      intro X1 g5 hT hg5 hB
      have HG5 : Hid (w.heap.size ≤ g5) := Lib.hid (Nat.le_trans BX0.out.size hg5)
      have PX1 : Hid (Blk X1 gp 25 [.slice sa sl sc, .slice ea el ec]) := Lib.hid (PX0.out.below hB PX0.out.lt)
      have RX1 : Hid (Blk X1 gr 87 [.slice na n nc, .slice ga m gc, .slice aa k ac]) := Lib.hid (RX0.out.below hB RX0.out.lt)
      have BX1 : Hid (Below w.heap.size w X1) := Lib.hid (BX0.out.trans (hB.mono BX0.out.size))
      have TX1 : Hid (Blk X1 g5 31 [.slice none 0 0, .slice none 0 0]) := Lib.hid (hT)
      clear PX0 RX0 BX0 hB hT hg5
      refine hK.out _ _ (⟨PX1.out, RX1.out⟩) (fun hHeld => ?_)
      clear hK K
      show wpAnyH _ _ _ _ _ _ _ (Act.put _ (some 5) _) _
      simp only [Act.put, List.setIfInBounds_toArray, List.set_cons_zero, List.set_cons_succ]
      refine wpAnyH_ready (rs := [8]) (by kernel_rfl) (by simp) ?_
      refine AllReadyH.cons rfl (fun K hK => ?_) AllReadyH.nil
      refine step_call rfl 15 #[.tmp 40] #[25] rfl #[.agg #[.slice sa sl sc, .slice ea el ec]] (by simp [Act.eval]) (by go_simp) (wto_any sa sl sc ea el ec sp es X1 (HS.out.below BX1.out) (HE.out.below BX1.out) HSL.out HEL.out hs20 he30) ?_
      rintro e X2 ⟨sa1, sc1, ea1, ec1, rfl, hS1, hE1, hn1, hn2, hB⟩
      have PX2 : Hid (Blk X2 gp 25 [.slice sa sl sc, .slice ea el ec]) := Lib.hid (PX1.out.below hB PX1.out.lt)
      have RX2 : Hid (Blk X2 gr 87 [.slice na n nc, .slice ga m gc, .slice aa k ac]) := Lib.hid (RX1.out.below hB RX1.out.lt)
      have BX2 : Hid (Below w.heap.size w X2) := Lib.hid (BX1.out.trans (hB.mono BX1.out.size))
      have TX2 : Hid (Blk X2 g5 31 [.slice none 0 0, .slice none 0 0]) := Lib.hid (TX1.out.below hB TX1.out.lt)
      have SX2 : Hid (SpotRow X2 sa1 sp) := Lib.hid (hS1)
      have EX2 : Hid (EdgeRow X2 ea1 es) := Lib.hid (hE1)
      have HN1 := Lib.hid hn1
      have HN2 := Lib.hid hn2
      clear PX1 RX1 BX1 TX1 hB hS1 hE1 hn1 hn2
      refine ⟨_, rfl, hK.out _ _ (⟨PX2.out, RX2.out⟩) (fun hHeld => ?_)⟩
      clear hK K
      show wpAnyH _ _ _ _ _ _ _ (Act.put _ (some 41) _) _
      simp only [Act.put, List.setIfInBounds_toArray, List.set_cons_zero, List.set_cons_succ]
      refine wpAnyH_ready (rs := [9]) (by kernel_rfl) (by simp) ?_
      refine AllReadyH.cons rfl (fun K hK => ?_) AllReadyH.nil
      refine step_call rfl 42 #[.tmp 39, .tmp 41] #[89, 31] rfl #[.agg #[.slice na n nc, .slice ga m gc, .slice aa k ac], .agg #[.slice sa1 sl sc1, .slice ea1 el ec1]] (by simp [Act.eval]) (by go_simp) (go_any na ga aa n nc m gc k ac ns gs am sa1 sl sc1 ea1 el ec1 sp es X2 (HN.out.below BX2.out) (HG.out.below BX2.out) (HA.out.below BX2.out) HNL.out HML.out HKL.out (by omega) (by omega) (by omega) SX2.out EX2.out HSL.out HEL.out (by omega) (by omega) HN1.out HN2.out HOK.out HA.out.2.1) ?_
      rintro e X3 ⟨v, rfl, hB, _, hv⟩
      obtain rfl := hv (by rw [HSL.out, HGE.out]; exact HNZ.out)
      rw [HSL.out, HGE.out]
      have PX3 : Hid (Blk X3 gp 25 [.slice sa sl sc, .slice ea el ec]) := Lib.hid (PX2.out.below hB PX2.out.lt)
      have RX3 : Hid (Blk X3 gr 87 [.slice na n nc, .slice ga m gc, .slice aa k ac]) := Lib.hid (RX2.out.below hB RX2.out.lt)
      have BX3 : Hid (Below w.heap.size w X3) := Lib.hid (BX2.out.trans (hB.mono BX2.out.size))
      have TX3 : Hid (Blk X3 g5 31 [.slice none 0 0, .slice none 0 0]) := Lib.hid (TX2.out.below hB TX2.out.lt)
      have SX3 : Hid (SpotRow X3 sa1 sp) := Lib.hid (SX2.out.below hB)
      have EX3 : Hid (EdgeRow X3 ea1 es) := Lib.hid (EX2.out.below hB)
      clear PX2 RX2 BX2 TX2 SX2 EX2 hB hv
      refine ⟨_, rfl, hK.out _ _ (⟨PX3.out, RX3.out⟩) (fun hHeld => ?_)⟩
      clear hK K
      show wpAnyH _ _ _ _ _ _ _ (Act.put _ (some 42) _) _
      simp only [Act.put, List.setIfInBounds_toArray, List.set_cons_zero, List.set_cons_succ]
      refine wpAnyH_take (i := 10) (v := .tuple #[.agg #[.slice none 0 0, .slice none 0 0], .int .i64 er]) rfl (by kernel_rfl) (by kernel_rfl) (by kernel_rfl) (fun _ _ _ h => h) (Or.inl ⟨by rfl, fun w _ => by rfl⟩) hHeld ?_
      show wpAnyH _ _ _ _ _ _ _ (Act.put _ (some 32) _) _
      simp only [Act.put, List.setIfInBounds_toArray, List.set_cons_zero, List.set_cons_succ]
      refine wpAnyH_take (i := 11) (v := .agg #[.slice none 0 0, .slice none 0 0]) rfl (by kernel_rfl) (by kernel_rfl) (by kernel_rfl) (fun _ _ _ h => h) (Or.inl ⟨by rfl, by intro w' h; go_simp⟩) hHeld ?_
      show wpAnyH _ _ _ _ _ _ _ (Act.put _ (some 43) _) _
      simp only [Act.put, List.setIfInBounds_toArray, List.set_cons_zero, List.set_cons_succ]
      refine wpAnyH_take (i := 12) (v := .int .i64 er) rfl (by kernel_rfl) (by kernel_rfl) (by kernel_rfl) (fun _ _ _ h => h) (Or.inl ⟨by rfl, by intro w' h; go_simp⟩) hHeld ?_
      show wpAnyH _ _ _ _ _ _ _ (Act.put _ (some 44) _) _
      simp only [Act.put, List.setIfInBounds_toArray, List.set_cons_zero, List.set_cons_succ]
      refine wpAnyH_ready (rs := [14]) (by kernel_rfl) (by simp) ?_
      refine AllReadyH.cons rfl (fun K hK => ?_) AllReadyH.nil
      refine step_put31 rfl (.tmp 5) (.tmp 43) rfl g5 _ _ none none 0 0 0 0 rfl rfl TX3.out ?_
      intro X4 hT hO
      have PX4 : Hid (Blk X4 gp 25 [.slice sa sl sc, .slice ea el ec]) := Lib.hid (PX3.out.grown hO (by intro e9; injection e9 with e9; exact Blk.ne_ PX3.out TX3.out (by decide) e9))
      have RX4 : Hid (Blk X4 gr 87 [.slice na n nc, .slice ga m gc, .slice aa k ac]) := Lib.hid (RX3.out.grown hO (by intro e9; injection e9 with e9; exact Blk.ne_ RX3.out TX3.out (by decide) e9))
      have BX4 : Hid (Below w.heap.size w X4) := Lib.hid (BX3.out.trans (only_up hO HG5.out BX3.out.size))
      have SX4 : Hid (SpotRow X4 sa1 sp) := Lib.hid (SX3.out.grown TX3.out (slices2 none none 0 0 0 0) hO)
      have EX4 : Hid (EdgeRow X4 ea1 es) := Lib.hid (EX3.out.grown TX3.out (slices2 none none 0 0 0 0) hO)
      have TX4 : Hid (Blk X4 g5 31 [.slice none 0 0, .slice none 0 0]) := Lib.hid (hT)
      clear PX3 RX3 BX3 SX3 EX3 hO hT
      refine hK.out _ _ (⟨PX4.out, RX4.out⟩) (fun hHeld => ?_)
      clear hK K
      show wpAnyH _ _ _ _ _ _ _ (Act.put _ none _) _
      simp only [Act.put]
      refine wpAnyH_take (i := 15) (v := .int .i64 er) rfl (by kernel_rfl) (by kernel_rfl) (by kernel_rfl) (fun _ _ _ h => h) (Or.inl ⟨by rfl, fun w _ => by rfl⟩) hHeld ?_
      show wpAnyH _ _ _ _ _ _ _ (Act.put _ (some 6) _) _
      simp only [Act.put, List.setIfInBounds_toArray, List.set_cons_zero, List.set_cons_succ]
      refine wpAnyH_done (by kernel_rfl) ?_ _
      clear hHeld
      go_wp2_with fail
      go_meet
      exact ⟨g5, rfl, rfl, PX4, RX4, BX4, TX4⟩
  case rest =>
    obtain ⟨g5, rfl, rfl, PC, RC, BC, TC⟩ := hcut
    have r0 := RC.out.cell 0
    have r1 := RC.out.cell 1
    have r2 := RC.out.cell 2
    simp only [List.getElem?_cons_zero, List.getElem?_cons_succ] at r0 r1 r2
    have b1 : ((m : Int) != (k : Int)) = false := by rw [HC.out.1]; simp
    have b2 : ((n : Int) != (m : Int) + 1) = false := by rw [HC.out.2]; simp
    go_upto_region 6 with fail
    clear r0 r1 r2 b1 b2
    obtain ⟨C, hC⟩ : ∃ C : World, wc = C := ⟨_, rfl⟩
    rw [hC] at PC RC BC TC ⊢
    clear hC
    go_cut [7, 8] (fun p q wd => ∃ (g7 : Nat), p = .pointer (some ⟨g7, 0, none⟩) ∧ q = .int .i64 (checkE sl es) ∧ Hid (w.heap.size ≤ g7) ∧ Hid (gp ≠ g7) ∧ Hid (Blk wd gp 25 [.slice sa sl sc, .slice ea el ec]) ∧ Hid (Blk wd gr 87 [.slice na n nc, .slice ga m gc, .slice aa k ac]) ∧ Hid (Below w.heap.size w wd) ∧ Hid (Blk wd g5 31 [.slice none 0 0, .slice none 0 0]) ∧ Hid (Blk wd g7 25 [.slice sa sl sc, .slice ea el ec]))
    case first =>
      have hBz : Below C.heap.size C C.drew := below_drewN (Below.refl _ _) 1
      have PX0 : Hid (Blk C.drew gp 25 [.slice sa sl sc, .slice ea el ec]) := Lib.hid (PC.out.below hBz PC.out.lt)
      have RX0 : Hid (Blk C.drew gr 87 [.slice na n nc, .slice ga m gc, .slice aa k ac]) := Lib.hid (RC.out.below hBz RC.out.lt)
      have BX0 : Hid (Below w.heap.size w C.drew) := Lib.hid (BC.out.trans (hBz.mono BC.out.size))
      have TX0 : Hid (Blk C.drew g5 31 [.slice none 0 0, .slice none 0 0]) := Lib.hid (TC.out.below hBz TC.out.lt)
      clear hBz
      refine wp_region_held_drew (S := fun w' => Blk w' gp 25 [.slice sa sl sc, .slice ea el ec]) (by kernel_rfl) (PX0.out) (fun hHeld => ?_)
      generalize C.drew = X0 at hHeld PX0 RX0 BX0 TX0 ⊢
      refine wpAnyH_take (i := 0) (v := .agg #[.slice sa sl sc, .slice ea el ec]) rfl (by kernel_rfl) (by kernel_rfl) (by kernel_rfl) (fun _ _ _ h => h) (Or.inl ⟨by rfl, by intro w' h; have k0 := Blk.cell h 0; have k1 := Blk.cell h 1; simp only [List.getElem?_cons_zero, List.getElem?_cons_succ] at k0 k1; go_simp⟩) hHeld ?_
      show wpAnyH _ _ _ _ _ _ _ (Act.put _ (some 73) _) _
      simp only [Act.put, List.setIfInBounds_toArray, List.set_cons_zero, List.set_cons_succ]
      refine wpAnyH_take (i := 1) (v := .agg #[.slice sa sl sc, .slice ea el ec]) rfl (by kernel_rfl) (by kernel_rfl) (by kernel_rfl) (fun _ _ _ h => h) (Or.inl ⟨by rfl, by intro w' h; have k0 := Blk.cell h 0; have k1 := Blk.cell h 1; simp only [List.getElem?_cons_zero, List.getElem?_cons_succ] at k0 k1; go_simp⟩) hHeld ?_
      show wpAnyH _ _ _ _ _ _ _ (Act.put _ (some 74) _) _
      simp only [Act.put, List.setIfInBounds_toArray, List.set_cons_zero, List.set_cons_succ]
      refine wpAnyH_ready (rs := [2, 3]) (by kernel_rfl) (by simp) ?_
      refine AllReadyH.cons rfl (fun K hK => ?_) (AllReadyH.cons rfl (fun K hK => ?_) AllReadyH.nil)
      · refine step_call rfl 19 #[.tmp 74] #[25] rfl #[.agg #[.slice sa sl sc, .slice ea el ec]] (by simp [Act.eval]) (by go_simp) (rcheck_any sa sl sc ea el ec es X0 (HE.out.below BX0.out) HEL.out (by omega) (by omega)) ?_
        rintro e X1 ⟨rfl, hB⟩
        have PX1 : Hid (Blk X1 gp 25 [.slice sa sl sc, .slice ea el ec]) := Lib.hid (PX0.out.below hB PX0.out.lt)
        have RX1 : Hid (Blk X1 gr 87 [.slice na n nc, .slice ga m gc, .slice aa k ac]) := Lib.hid (RX0.out.below hB RX0.out.lt)
        have BX1 : Hid (Below w.heap.size w X1) := Lib.hid (BX0.out.trans (hB.mono BX0.out.size))
        have TX1 : Hid (Blk X1 g5 31 [.slice none 0 0, .slice none 0 0]) := Lib.hid (TX0.out.below hB TX0.out.lt)
        clear PX0 RX0 BX0 TX0 hB
        refine ⟨_, rfl, hK.out _ _ (PX1.out) (fun hHeld => ?_)⟩
        clear hK K
        show wpAnyH _ _ _ _ _ _ _ (Act.put _ (some 75) _) _
        simp only [Act.put, List.setIfInBounds_toArray, List.set_cons_zero, List.set_cons_succ]
        refine wpAnyH_ready (rs := [3]) (by kernel_rfl) (by simp) ?_
        refine AllReadyH.cons rfl (fun K hK => ?_) AllReadyH.nil
        refine step_new25 rfl rfl ?_
        intro X2 g7 hB hT hg7
        have HG7 : Hid (w.heap.size ≤ g7) := Lib.hid (Nat.le_trans BX1.out.size hg7)
        have HPN : Hid (gp ≠ g7) := Lib.hid (by have := PX1.out.lt; omega)
        have PX2 : Hid (Blk X2 gp 25 [.slice sa sl sc, .slice ea el ec]) := Lib.hid (PX1.out.below hB PX1.out.lt)
        have RX2 : Hid (Blk X2 gr 87 [.slice na n nc, .slice ga m gc, .slice aa k ac]) := Lib.hid (RX1.out.below hB RX1.out.lt)
        have BX2 : Hid (Below w.heap.size w X2) := Lib.hid (BX1.out.trans (hB.mono BX1.out.size))
        have TX2 : Hid (Blk X2 g5 31 [.slice none 0 0, .slice none 0 0]) := Lib.hid (TX1.out.below hB TX1.out.lt)
        have NX2 : Hid (Blk X2 g7 25 [.slice none 0 0, .slice none 0 0]) := Lib.hid (hT)
        clear PX1 RX1 BX1 TX1 hB hT hg7
        refine hK.out _ _ (PX2.out) (fun hHeld => ?_)
        clear hK K
        show wpAnyH _ _ _ _ _ _ _ (Act.put _ (some 7) _) _
        simp only [Act.put, List.setIfInBounds_toArray, List.set_cons_zero, List.set_cons_succ]
        refine wpAnyH_ready (rs := [4]) (by kernel_rfl) (by simp) ?_
        refine AllReadyH.cons rfl (fun K hK => ?_) AllReadyH.nil
        refine step_store25 rfl (.tmp 7) (.tmp 73) rfl g7 _ _ sa ea sl sc el ec rfl rfl NX2.out ?_
        intro X3 hT hO
        have PX3 : Hid (Blk X3 gp 25 [.slice sa sl sc, .slice ea el ec]) := Lib.hid (PX2.out.grown hO (by intro e9; injection e9 with e9; exact HPN.out e9))
        have RX3 : Hid (Blk X3 gr 87 [.slice na n nc, .slice ga m gc, .slice aa k ac]) := Lib.hid (RX2.out.grown hO (by intro e9; injection e9 with e9; exact Blk.ne_ RX2.out NX2.out (by decide) e9))
        have BX3 : Hid (Below w.heap.size w X3) := Lib.hid (BX2.out.trans (only_up hO HG7.out BX2.out.size))
        have TX3 : Hid (Blk X3 g5 31 [.slice none 0 0, .slice none 0 0]) := Lib.hid (TX2.out.grown hO (by intro e9; injection e9 with e9; exact Blk.ne_ TX2.out NX2.out (by decide) e9))
        have NX3 : Hid (Blk X3 g7 25 [.slice sa sl sc, .slice ea el ec]) := Lib.hid (hT)
        clear PX2 RX2 BX2 TX2 hO hT
        refine hK.out _ _ (PX3.out) (fun hHeld => ?_)
        clear hK K
        show wpAnyH _ _ _ _ _ _ _ (Act.put _ none _) _
        simp only [Act.put]
        refine wpAnyH_take (i := 5) (v := .int .i64 (checkE sl es)) rfl (by kernel_rfl) (by kernel_rfl) (by kernel_rfl) (fun _ _ _ h => h) (Or.inl ⟨by rfl, fun w _ => by rfl⟩) hHeld ?_
        show wpAnyH _ _ _ _ _ _ _ (Act.put _ (some 8) _) _
        simp only [Act.put, List.setIfInBounds_toArray, List.set_cons_zero, List.set_cons_succ]
        refine wpAnyH_done (by kernel_rfl) ?_ _
        clear hHeld
        go_wp2_with fail
        go_meet
        exact ⟨g7, rfl, rfl, HG7, HPN, PX3, RX3, BX3, TX3, NX3⟩
      · refine step_new25 rfl rfl ?_
        intro X1 g7 hB hT hg7
        have HG7 : Hid (w.heap.size ≤ g7) := Lib.hid (Nat.le_trans BX0.out.size hg7)
        have HPN : Hid (gp ≠ g7) := Lib.hid (by have := PX0.out.lt; omega)
        have PX1 : Hid (Blk X1 gp 25 [.slice sa sl sc, .slice ea el ec]) := Lib.hid (PX0.out.below hB PX0.out.lt)
        have RX1 : Hid (Blk X1 gr 87 [.slice na n nc, .slice ga m gc, .slice aa k ac]) := Lib.hid (RX0.out.below hB RX0.out.lt)
        have BX1 : Hid (Below w.heap.size w X1) := Lib.hid (BX0.out.trans (hB.mono BX0.out.size))
        have TX1 : Hid (Blk X1 g5 31 [.slice none 0 0, .slice none 0 0]) := Lib.hid (TX0.out.below hB TX0.out.lt)
        have NX1 : Hid (Blk X1 g7 25 [.slice none 0 0, .slice none 0 0]) := Lib.hid (hT)
        clear PX0 RX0 BX0 TX0 hB hT hg7
        refine hK.out _ _ (PX1.out) (fun hHeld => ?_)
        clear hK K
        show wpAnyH _ _ _ _ _ _ _ (Act.put _ (some 7) _) _
        simp only [Act.put, List.setIfInBounds_toArray, List.set_cons_zero, List.set_cons_succ]
        refine wpAnyH_ready (rs := [2]) (by kernel_rfl) (by simp) ?_
        refine AllReadyH.cons rfl (fun K hK => ?_) AllReadyH.nil
        refine step_call rfl 19 #[.tmp 74] #[25] rfl #[.agg #[.slice sa sl sc, .slice ea el ec]] (by simp [Act.eval]) (by go_simp) (rcheck_any sa sl sc ea el ec es X1 (HE.out.below BX1.out) HEL.out (by omega) (by omega)) ?_
        rintro e X2 ⟨rfl, hB⟩
        have PX2 : Hid (Blk X2 gp 25 [.slice sa sl sc, .slice ea el ec]) := Lib.hid (PX1.out.below hB PX1.out.lt)
        have RX2 : Hid (Blk X2 gr 87 [.slice na n nc, .slice ga m gc, .slice aa k ac]) := Lib.hid (RX1.out.below hB RX1.out.lt)
        have BX2 : Hid (Below w.heap.size w X2) := Lib.hid (BX1.out.trans (hB.mono BX1.out.size))
        have TX2 : Hid (Blk X2 g5 31 [.slice none 0 0, .slice none 0 0]) := Lib.hid (TX1.out.below hB TX1.out.lt)
        have NX2 : Hid (Blk X2 g7 25 [.slice none 0 0, .slice none 0 0]) := Lib.hid (NX1.out.below hB NX1.out.lt)
        clear PX1 RX1 BX1 TX1 NX1 hB
        refine ⟨_, rfl, hK.out _ _ (PX2.out) (fun hHeld => ?_)⟩
        clear hK K
        show wpAnyH _ _ _ _ _ _ _ (Act.put _ (some 75) _) _
        simp only [Act.put, List.setIfInBounds_toArray, List.set_cons_zero, List.set_cons_succ]
        refine wpAnyH_ready (rs := [4]) (by kernel_rfl) (by simp) ?_
        refine AllReadyH.cons rfl (fun K hK => ?_) AllReadyH.nil
        refine step_store25 rfl (.tmp 7) (.tmp 73) rfl g7 _ _ sa ea sl sc el ec rfl rfl NX2.out ?_
        intro X3 hT hO
        have PX3 : Hid (Blk X3 gp 25 [.slice sa sl sc, .slice ea el ec]) := Lib.hid (PX2.out.grown hO (by intro e9; injection e9 with e9; exact HPN.out e9))
        have RX3 : Hid (Blk X3 gr 87 [.slice na n nc, .slice ga m gc, .slice aa k ac]) := Lib.hid (RX2.out.grown hO (by intro e9; injection e9 with e9; exact Blk.ne_ RX2.out NX2.out (by decide) e9))
        have BX3 : Hid (Below w.heap.size w X3) := Lib.hid (BX2.out.trans (only_up hO HG7.out BX2.out.size))
        have TX3 : Hid (Blk X3 g5 31 [.slice none 0 0, .slice none 0 0]) := Lib.hid (TX2.out.grown hO (by intro e9; injection e9 with e9; exact Blk.ne_ TX2.out NX2.out (by decide) e9))
        have NX3 : Hid (Blk X3 g7 25 [.slice sa sl sc, .slice ea el ec]) := Lib.hid (hT)
        clear PX2 RX2 BX2 TX2 hO hT
        refine hK.out _ _ (PX3.out) (fun hHeld => ?_)
        clear hK K
        show wpAnyH _ _ _ _ _ _ _ (Act.put _ none _) _
        simp only [Act.put]
        refine wpAnyH_take (i := 5) (v := .int .i64 (checkE sl es)) rfl (by kernel_rfl) (by kernel_rfl) (by kernel_rfl) (fun _ _ _ h => h) (Or.inl ⟨by rfl, fun w _ => by rfl⟩) hHeld ?_
        show wpAnyH _ _ _ _ _ _ _ (Act.put _ (some 8) _) _
        simp only [Act.put, List.setIfInBounds_toArray, List.set_cons_zero, List.set_cons_succ]
        refine wpAnyH_done (by kernel_rfl) ?_ _
        clear hHeld
        go_wp2_with fail
        go_meet
        exact ⟨g7, rfl, rfl, HG7, HPN, PX3, RX3, BX3, TX3, NX3⟩
    case rest =>
      obtain ⟨g7, rfl, rfl, HG7, HPN, PD, RD, BD, TD, ND⟩ := hcut
      obtain ⟨D, hD⟩ : ∃ D : World, wc = D := ⟨_, rfl⟩
      rw [hD] at PD RD BD TD ND ⊢
      clear hD
      go_wp2_with fail
      go_loopw [8, 9] (fun s8 s9 wd => ∃ (i : Nat) (fe : Int) (q1 : Option Addr) (l1 o1 : Nat) (q2 : Option Addr) (l2 o2 : Nat), i ≤ m ∧ s9 = .int .i64 (i : Int) ∧ s8 = .int .i64 fe ∧ Hid (Blk wd gp 25 [.slice sa sl sc, .slice ea el ec]) ∧ Hid (Blk wd gr 87 [.slice na n nc, .slice ga m gc, .slice aa k ac]) ∧ Hid (Below w.heap.size w wd) ∧ Hid (Blk wd g5 31 [.slice none 0 0, .slice none 0 0]) ∧ Hid (Blk wd g7 25 [.slice q1 l1 o1, .slice q2 l2 o2]) ∧ Hid ((fe = 0 ∧ q1 = sa ∧ l1 = sl ∧ o1 = sc ∧ l2 = el ∧ ∃ E, EdgeRow wd q2 E ∧ goN sl ns gs am es i = (0, E) ∧ checkE sl es = 0) ∨ (fe ≠ 0 ∧ goE sl ns gs am es = fe))) (fun _ i _ => m - (intOf i).toNat)
      case atStart => exact ⟨0, checkE sl es, sa, sl, sc, ea, el, ec, Nat.zero_le _, rfl, rfl, PD, RD, BD, TD, ND, Lib.hid (start_bad HG0.out.1 (HE.out.below BD.out))⟩
      case round =>
        clear PD RD BD TD ND
        obtain ⟨i, fe, q1, l1, o1, q2, l2, o2, hi, rfl, rfl, Pw, Rw, Bw, Tw, Nw, Hf⟩ := hrel
        obtain ⟨wj, hwj⟩ : ∃ wj : World, wr = wj := ⟨_, rfl⟩
        rw [hwj] at Pw Rw Bw Tw Nw Hf ⊢
        clear hwj
        have r1 : wj.cell? ⟨gr, 1, none⟩ = some (.slice ga m gc) := Rw.out.cell 1
        by_cases hil : i < m
        · have d1 : decide ((i : Int) < (m : Int)) = true := decide_eq_true (by omega)
          have hiI : (i : Int) < (m : Int) := by omega
          by_cases hfe : fe = 0
          · subst hfe
            obtain ⟨_, e1, e2, e3, e4, E, hE9, hg, hck⟩ := Hf.out.resolve_right (fun h => h.1 rfl)
            have e1 := e1.symm
            have e2 := e2.symm
            have e3 := e3.symm
            have e4 := e4.symm
            subst e1
            subst e2
            subst e3
            subst e4
            have HGO := Lib.hid hg
            have HCK9 := Lib.hid hck
            have HOE := Lib.hid (goN_ok HOK.out HWD.out i E hg)
            have Qw := Lib.hid hE9
            clear hE9 hg hck Hf
            have hin : i < n := by have := HC.out.2; omega
            have hik : i < k := by have := HC.out.1; omega
            obtain ⟨gi, hgi⟩ : ∃ x, gs.getD i 0 = x := ⟨_, rfl⟩
            obtain ⟨ni, hni⟩ : ∃ x, ns.getD i 0 = x := ⟨_, rfl⟩
            obtain ⟨ai, hai⟩ : ∃ x, am.getD i 0 = x := ⟨_, rfl⟩
            obtain ⟨bg, og, hga, hcg⟩ := irow_at (HG.out.below Bw.out) (by rw [HML.out]; exact hil)
            obtain ⟨bn, on, hna, hcn⟩ := irow_at (HN.out.below Bw.out) (by rw [HNL.out]; exact hin)
            obtain ⟨ba, oa, haa, hca⟩ := nums_row_at (HA.out.below Bw.out) (by rw [HKL.out]; exact hik)
            rw [hgi] at hcg
            rw [hni] at hcn
            rw [hai] at hca
            subst hga hna haa
            have HWA : Hid (Word ai) := Lib.hid (by rw [← hai, List.getD_eq_getElem?_getD, List.getElem?_eq_getElem (by rw [HKL.out]; exact hik)]; exact HWD.out _ (List.getElem_mem _))
            have HGI := Lib.hid hgi
            have HNI := Lib.hid hni
            have HAI := Lib.hid hai
            have Jw := Lib.hid hcg
            have Kw := Lib.hid hcn
            have Lw := Lib.hid hca
            have Hnn : Hid ((i : Int) < (n : Int)) := Lib.hid (by omega)
            have Hkk : Hid ((i : Int) < (k : Int)) := Lib.hid (by omega)
            have Hmm : Hid ((i : Int) < (m : Int)) := Lib.hid (by omega)
            clear hgi hni hai hcn hca hcg hin hik
            go_upto_region 10 with fail
            clear r1 d1
            have Pwj := Pw
            have Rwj := Rw
            have Bwj := Bw
            have Twj := Tw
            have Nwj := Nw
            have Qwj := Qw
            have Jwj := Jw
            have Kwj := Kw
            have Lwj := Lw
            clear Pw Rw Bw Tw Nw Qw Jw Kw Lw
            by_cases her : sentErr sl E gi ni ai = 0
            · have HER := Lib.hid her
              have HNX : Hid (goN sl ns gs am es (i + 1) = (0, sentL E gi ni ai)) := Lib.hid (by rw [← HGI.out, ← HNI.out, ← HAI.out]; exact goN_good HGO.out (by rw [HGI.out, HNI.out, HAI.out]; exact her))
              clear her
              have hBz : Below wj.heap.size wj wj.drew := below_drewN (Below.refl _ _) 1
              have PX0 : Hid (Blk wj.drew gp 25 [.slice sa sl sc, .slice ea el ec]) := Lib.hid (Pwj.out.below hBz Pwj.out.lt)
              have RX0 : Hid (Blk wj.drew gr 87 [.slice (some ⟨bn, on, none⟩) n nc, .slice (some ⟨bg, og, none⟩) m gc, .slice (some ⟨ba, oa, none⟩) k ac]) := Lib.hid (Rwj.out.below hBz Rwj.out.lt)
              have BX0 : Hid (Below w.heap.size w wj.drew) := Lib.hid (Bwj.out.trans (hBz.mono Bwj.out.size))
              have TX0 : Hid (Blk wj.drew g5 31 [.slice none 0 0, .slice none 0 0]) := Lib.hid (Twj.out.below hBz Twj.out.lt)
              have NX0 : Hid (Blk wj.drew g7 25 [.slice sa sl sc, .slice q2 el o2]) := Lib.hid (Nwj.out.below hBz Nwj.out.lt)
              have QX0 : Hid (EdgeRow wj.drew q2 E) := Lib.hid (Qwj.out.below hBz)
              have JX0 : Hid (wj.drew.cell? ⟨bg, og + i, none⟩ = some (.int .i64 gi)) := Lib.hid ((hBz.cell (p := ⟨bg, og + i, none⟩) (World.block_lt_of_cell? _ _ Jwj.out)).trans Jwj.out)
              have KX0 : Hid (wj.drew.cell? ⟨bn, on + i, none⟩ = some (.int .i64 ni)) := Lib.hid ((hBz.cell (p := ⟨bn, on + i, none⟩) (World.block_lt_of_cell? _ _ Kwj.out)).trans Kwj.out)
              have LX0 : Hid (wj.drew.cell? ⟨ba, oa + i, none⟩ = some (.int .u64 ai)) := Lib.hid ((hBz.cell (p := ⟨ba, oa + i, none⟩) (World.block_lt_of_cell? _ _ Lwj.out)).trans Lwj.out)
              clear hBz
              refine wp_region_held_drew (S := fun w' => Blk w' gr 87 [.slice (some ⟨bn, on, none⟩) n nc, .slice (some ⟨bg, og, none⟩) m gc, .slice (some ⟨ba, oa, none⟩) k ac] ∧ w'.cell? ⟨bg, og + i, none⟩ = some (.int .i64 gi) ∧ w'.cell? ⟨bn, on + i, none⟩ = some (.int .i64 ni) ∧ w'.cell? ⟨ba, oa + i, none⟩ = some (.int .u64 ai)) (by kernel_rfl) (⟨RX0.out, JX0.out, KX0.out, LX0.out⟩) (fun hHeld => ?_)
              generalize wj.drew = X0 at hHeld PX0 RX0 BX0 TX0 NX0 QX0 JX0 KX0 LX0 ⊢
              refine wpAnyH_take (i := 1) (v := .pointer (some ⟨gr, 1, none⟩)) rfl (by kernel_rfl) (by kernel_rfl) (by kernel_rfl) (fun _ _ _ h => h) (Or.inl ⟨by rfl, by intro w' h; go_simp⟩) hHeld ?_
              show wpAnyH _ _ _ _ _ _ _ (Act.put _ (some 89) _) _
              simp only [Act.put, List.setIfInBounds_toArray, List.set_cons_zero, List.set_cons_succ]
              refine wpAnyH_take (i := 2) (v := .slice (some ⟨bg, og, none⟩) m gc) rfl (by kernel_rfl) (by kernel_rfl) (by kernel_rfl) (fun _ _ _ h => h) (Or.inl ⟨by rfl, by intro w' h; have k0 := Blk.cell h.1 1; simp only [List.getElem?_cons_zero, List.getElem?_cons_succ] at k0; go_simp⟩) hHeld ?_
              show wpAnyH _ _ _ _ _ _ _ (Act.put _ (some 90) _) _
              simp only [Act.put, List.setIfInBounds_toArray, List.set_cons_zero, List.set_cons_succ]
              refine wpAnyH_take (i := 3) (v := .int .i64 (i : Int)) rfl (by kernel_rfl) (by kernel_rfl) (by kernel_rfl) (fun _ _ _ h => h) (Or.inl ⟨by rfl, fun w _ => by rfl⟩) hHeld ?_
              show wpAnyH _ _ _ _ _ _ _ (Act.put _ (some 91) _) _
              simp only [Act.put, List.setIfInBounds_toArray, List.set_cons_zero, List.set_cons_succ]
              refine wpAnyH_take (i := 4) (v := .pointer (some ⟨bg, og + i, none⟩)) rfl (by kernel_rfl) (by kernel_rfl) (by kernel_rfl) (fun _ _ _ h => h) (Or.inl ⟨by rfl, by intro w' h; have mm := Hmm.out; go_simp⟩) hHeld ?_
              show wpAnyH _ _ _ _ _ _ _ (Act.put _ (some 92) _) _
              simp only [Act.put, List.setIfInBounds_toArray, List.set_cons_zero, List.set_cons_succ]
              refine wpAnyH_take (i := 5) (v := .int .i64 gi) rfl (by kernel_rfl) (by kernel_rfl) (by kernel_rfl) (fun _ _ _ h => h) (Or.inl ⟨by rfl, by intro w' h; have q9 := h.2.1; go_simp⟩) hHeld ?_
              show wpAnyH _ _ _ _ _ _ _ (Act.put _ (some 93) _) _
              simp only [Act.put, List.setIfInBounds_toArray, List.set_cons_zero, List.set_cons_succ]
              refine wpAnyH_take (i := 6) (v := .pointer (some ⟨gr, 0, none⟩)) rfl (by kernel_rfl) (by kernel_rfl) (by kernel_rfl) (fun _ _ _ h => h) (Or.inl ⟨by rfl, by intro w' h; go_simp⟩) hHeld ?_
              show wpAnyH _ _ _ _ _ _ _ (Act.put _ (some 94) _) _
              simp only [Act.put, List.setIfInBounds_toArray, List.set_cons_zero, List.set_cons_succ]
              refine wpAnyH_take (i := 7) (v := .slice (some ⟨bn, on, none⟩) n nc) rfl (by kernel_rfl) (by kernel_rfl) (by kernel_rfl) (fun _ _ _ h => h) (Or.inl ⟨by rfl, by intro w' h; have k0 := Blk.cell h.1 0; simp only [List.getElem?_cons_zero] at k0; go_simp⟩) hHeld ?_
              show wpAnyH _ _ _ _ _ _ _ (Act.put _ (some 95) _) _
              simp only [Act.put, List.setIfInBounds_toArray, List.set_cons_zero, List.set_cons_succ]
              refine wpAnyH_take (i := 8) (v := .int .i64 (i : Int)) rfl (by kernel_rfl) (by kernel_rfl) (by kernel_rfl) (fun _ _ _ h => h) (Or.inl ⟨by rfl, fun w _ => by rfl⟩) hHeld ?_
              show wpAnyH _ _ _ _ _ _ _ (Act.put _ (some 96) _) _
              simp only [Act.put, List.setIfInBounds_toArray, List.set_cons_zero, List.set_cons_succ]
              refine wpAnyH_take (i := 9) (v := .pointer (some ⟨bn, on + i, none⟩)) rfl (by kernel_rfl) (by kernel_rfl) (by kernel_rfl) (fun _ _ _ h => h) (Or.inl ⟨by rfl, by intro w' h; have nn := Hnn.out; go_simp⟩) hHeld ?_
              show wpAnyH _ _ _ _ _ _ _ (Act.put _ (some 97) _) _
              simp only [Act.put, List.setIfInBounds_toArray, List.set_cons_zero, List.set_cons_succ]
              refine wpAnyH_take (i := 10) (v := .int .i64 ni) rfl (by kernel_rfl) (by kernel_rfl) (by kernel_rfl) (fun _ _ _ h => h) (Or.inl ⟨by rfl, by intro w' h; have q9 := h.2.2.1; go_simp⟩) hHeld ?_
              show wpAnyH _ _ _ _ _ _ _ (Act.put _ (some 98) _) _
              simp only [Act.put, List.setIfInBounds_toArray, List.set_cons_zero, List.set_cons_succ]
              refine wpAnyH_take (i := 11) (v := .pointer (some ⟨gr, 2, none⟩)) rfl (by kernel_rfl) (by kernel_rfl) (by kernel_rfl) (fun _ _ _ h => h) (Or.inl ⟨by rfl, by intro w' h; go_simp⟩) hHeld ?_
              show wpAnyH _ _ _ _ _ _ _ (Act.put _ (some 99) _) _
              simp only [Act.put, List.setIfInBounds_toArray, List.set_cons_zero, List.set_cons_succ]
              refine wpAnyH_take (i := 12) (v := .slice (some ⟨ba, oa, none⟩) k ac) rfl (by kernel_rfl) (by kernel_rfl) (by kernel_rfl) (fun _ _ _ h => h) (Or.inl ⟨by rfl, by intro w' h; have k0 := Blk.cell h.1 2; simp only [List.getElem?_cons_zero, List.getElem?_cons_succ] at k0; go_simp⟩) hHeld ?_
              show wpAnyH _ _ _ _ _ _ _ (Act.put _ (some 100) _) _
              simp only [Act.put, List.setIfInBounds_toArray, List.set_cons_zero, List.set_cons_succ]
              refine wpAnyH_take (i := 13) (v := .int .i64 (i : Int)) rfl (by kernel_rfl) (by kernel_rfl) (by kernel_rfl) (fun _ _ _ h => h) (Or.inl ⟨by rfl, fun w _ => by rfl⟩) hHeld ?_
              show wpAnyH _ _ _ _ _ _ _ (Act.put _ (some 101) _) _
              simp only [Act.put, List.setIfInBounds_toArray, List.set_cons_zero, List.set_cons_succ]
              refine wpAnyH_take (i := 14) (v := .pointer (some ⟨ba, oa + i, none⟩)) rfl (by kernel_rfl) (by kernel_rfl) (by kernel_rfl) (fun _ _ _ h => h) (Or.inl ⟨by rfl, by intro w' h; have kk := Hkk.out; go_simp⟩) hHeld ?_
              show wpAnyH _ _ _ _ _ _ _ (Act.put _ (some 102) _) _
              simp only [Act.put, List.setIfInBounds_toArray, List.set_cons_zero, List.set_cons_succ]
              refine wpAnyH_take (i := 15) (v := .int .u64 ai) rfl (by kernel_rfl) (by kernel_rfl) (by kernel_rfl) (fun _ _ _ h => h) (Or.inl ⟨by rfl, by intro w' h; have q9 := h.2.2.2; go_simp⟩) hHeld ?_
              show wpAnyH _ _ _ _ _ _ _ (Act.put _ (some 103) _) _
              simp only [Act.put, List.setIfInBounds_toArray, List.set_cons_zero, List.set_cons_succ]
              refine wpAnyH_ready (rs := [0]) (by kernel_rfl) (by simp) ?_
              refine AllReadyH.cons rfl (fun K hK => ?_) AllReadyH.nil
              refine step_val rfl (.agg #[.slice sa sl sc, .slice q2 el o2]) X0 (by have q9 := NX0.out.cell 0; have q8 := NX0.out.cell 1; simp only [List.getElem?_cons_zero, List.getElem?_cons_succ] at q9 q8; go_simp) ?_
              refine hK.out _ _ (⟨RX0.out, JX0.out, KX0.out, LX0.out⟩) (fun hHeld => ?_)
              clear hK K
              show wpAnyH _ _ _ _ _ _ _ (Act.put _ (some 88) _) _
              simp only [Act.put, List.setIfInBounds_toArray, List.set_cons_zero, List.set_cons_succ]
              refine wpAnyH_ready (rs := [16]) (by kernel_rfl) (by simp) ?_
              refine AllReadyH.cons rfl (fun K hK => ?_) AllReadyH.nil
              refine step_call rfl 28 #[.tmp 88, .tmp 93, .tmp 98, .tmp 103] #[25, 3, 3, 40] rfl #[.agg #[.slice sa sl sc, .slice q2 el o2], .int .i64 gi, .int .i64 ni, .int .u64 ai] (by simp [Act.eval]) (by go_simp) (rsent_any sa sl sc q2 el o2 E gi ni ai X0 QX0.out (HOE.out.2.trans HEL.out) (by omega) (by omega) HOE.out.1 HWA.out) ?_
              rintro e X2 ⟨hB, hP⟩
              rcases hP with ⟨_, q3, o3, rfl, he7, _⟩ | ⟨h9, _⟩
              rotate_left
              · exact absurd HER.out h9
              have PX2 : Hid (Blk X2 gp 25 [.slice sa sl sc, .slice ea el ec]) := Lib.hid (PX0.out.below hB PX0.out.lt)
              have RX2 : Hid (Blk X2 gr 87 [.slice (some ⟨bn, on, none⟩) n nc, .slice (some ⟨bg, og, none⟩) m gc, .slice (some ⟨ba, oa, none⟩) k ac]) := Lib.hid (RX0.out.below hB RX0.out.lt)
              have BX2 : Hid (Below w.heap.size w X2) := Lib.hid (BX0.out.trans (hB.mono BX0.out.size))
              have TX2 : Hid (Blk X2 g5 31 [.slice none 0 0, .slice none 0 0]) := Lib.hid (TX0.out.below hB TX0.out.lt)
              have NX2 : Hid (Blk X2 g7 25 [.slice sa sl sc, .slice q2 el o2]) := Lib.hid (NX0.out.below hB NX0.out.lt)
              have QX2 : Hid (EdgeRow X2 q2 E) := Lib.hid (QX0.out.below hB)
              have JX2 : Hid (X2.cell? ⟨bg, og + i, none⟩ = some (.int .i64 gi)) := Lib.hid ((hB.cell (p := ⟨bg, og + i, none⟩) (World.block_lt_of_cell? _ _ JX0.out)).trans JX0.out)
              have KX2 : Hid (X2.cell? ⟨bn, on + i, none⟩ = some (.int .i64 ni)) := Lib.hid ((hB.cell (p := ⟨bn, on + i, none⟩) (World.block_lt_of_cell? _ _ KX0.out)).trans KX0.out)
              have LX2 : Hid (X2.cell? ⟨ba, oa + i, none⟩ = some (.int .u64 ai)) := Lib.hid ((hB.cell (p := ⟨ba, oa + i, none⟩) (World.block_lt_of_cell? _ _ LX0.out)).trans LX0.out)
              have MX2 : Hid (EdgeRow X2 q3 (sentL E gi ni ai)) := Lib.hid (he7)
              clear PX0 RX0 BX0 TX0 NX0 QX0 JX0 KX0 LX0 hB he7
              refine ⟨_, rfl, hK.out _ _ (⟨RX2.out, JX2.out, KX2.out, LX2.out⟩) (fun hHeld => ?_)⟩
              clear hK K
              show wpAnyH _ _ _ _ _ _ _ (Act.put _ (some 104) _) _
              simp only [Act.put, List.setIfInBounds_toArray, List.set_cons_zero, List.set_cons_succ]
              refine wpAnyH_take (i := 17) (v := .tuple #[.agg #[.slice sa sl sc, .slice q3 el o3], .int .i64 0]) rfl (by kernel_rfl) (by kernel_rfl) (by kernel_rfl) (fun _ _ _ h => h) (Or.inl ⟨by rfl, fun w _ => by rfl⟩) hHeld ?_
              show wpAnyH _ _ _ _ _ _ _ (Act.put _ (some 87) _) _
              simp only [Act.put, List.setIfInBounds_toArray, List.set_cons_zero, List.set_cons_succ]
              refine wpAnyH_take (i := 18) (v := .agg #[.slice sa sl sc, .slice q3 el o3]) rfl (by kernel_rfl) (by kernel_rfl) (by kernel_rfl) (fun _ _ _ h => h) (Or.inl ⟨by rfl, by intro w' h; go_simp⟩) hHeld ?_
              show wpAnyH _ _ _ _ _ _ _ (Act.put _ (some 105) _) _
              simp only [Act.put, List.setIfInBounds_toArray, List.set_cons_zero, List.set_cons_succ]
              refine wpAnyH_take (i := 19) (v := .int .i64 0) rfl (by kernel_rfl) (by kernel_rfl) (by kernel_rfl) (fun _ _ _ h => h) (Or.inl ⟨by rfl, by intro w' h; go_simp⟩) hHeld ?_
              show wpAnyH _ _ _ _ _ _ _ (Act.put _ (some 106) _) _
              simp only [Act.put, List.setIfInBounds_toArray, List.set_cons_zero, List.set_cons_succ]
              refine wpAnyH_ready (rs := [20]) (by kernel_rfl) (by simp) ?_
              refine AllReadyH.cons rfl (fun K hK => ?_) AllReadyH.nil
              refine step_store25 rfl (.tmp 7) (.tmp 105) rfl g7 _ _ sa q3 sl sc el o3 rfl rfl NX2.out ?_
              intro X3 hT hO
              have PX3 : Hid (Blk X3 gp 25 [.slice sa sl sc, .slice ea el ec]) := Lib.hid (PX2.out.grown hO (by intro e9; injection e9 with e9; exact HPN.out e9))
              have RX3 : Hid (Blk X3 gr 87 [.slice (some ⟨bn, on, none⟩) n nc, .slice (some ⟨bg, og, none⟩) m gc, .slice (some ⟨ba, oa, none⟩) k ac]) := Lib.hid (RX2.out.grown hO (by intro e9; injection e9 with e9; exact Blk.ne_ RX2.out NX2.out (by decide) e9))
              have BX3 : Hid (Below w.heap.size w X3) := Lib.hid (BX2.out.trans (only_up hO HG7.out BX2.out.size))
              have TX3 : Hid (Blk X3 g5 31 [.slice none 0 0, .slice none 0 0]) := Lib.hid (TX2.out.grown hO (by intro e9; injection e9 with e9; exact Blk.ne_ TX2.out NX2.out (by decide) e9))
              have QX3 : Hid (EdgeRow X3 q2 E) := Lib.hid (QX2.out.grown NX2.out (slices2 _ _ _ _ _ _) hO)
              have JX3 : Hid (X3.cell? ⟨bg, og + i, none⟩ = some (.int .i64 gi)) := Lib.hid (hO.cell JX2.out (by intro e9; injection e9 with e9; exact cell_ne (x := gi) (k := .i64) JX2.out NX2.out e9))
              have KX3 : Hid (X3.cell? ⟨bn, on + i, none⟩ = some (.int .i64 ni)) := Lib.hid (hO.cell KX2.out (by intro e9; injection e9 with e9; exact cell_ne (x := ni) (k := .i64) KX2.out NX2.out e9))
              have LX3 : Hid (X3.cell? ⟨ba, oa + i, none⟩ = some (.int .u64 ai)) := Lib.hid (hO.cell LX2.out (by intro e9; injection e9 with e9; exact cell_ne (x := ai) (k := .u64) LX2.out NX2.out e9))
              have MX3 : Hid (EdgeRow X3 q3 (sentL E gi ni ai)) := Lib.hid (MX2.out.grown NX2.out (slices2 _ _ _ _ _ _) hO)
              have NX3 : Hid (Blk X3 g7 25 [.slice sa sl sc, .slice q3 el o3]) := Lib.hid (hT)
              clear PX2 RX2 BX2 TX2 QX2 JX2 KX2 LX2 MX2 hO hT
              refine hK.out _ _ (⟨RX3.out, JX3.out, KX3.out, LX3.out⟩) (fun hHeld => ?_)
              clear hK K
              show wpAnyH _ _ _ _ _ _ _ (Act.put _ none _) _
              simp only [Act.put]
              refine wpAnyH_take (i := 21) (v := .int .i64 0) rfl (by kernel_rfl) (by kernel_rfl) (by kernel_rfl) (fun _ _ _ h => h) (Or.inl ⟨by rfl, fun w _ => by rfl⟩) hHeld ?_
              show wpAnyH _ _ _ _ _ _ _ (Act.put _ (some 8) _) _
              simp only [Act.put, List.setIfInBounds_toArray, List.set_cons_zero, List.set_cons_succ]
              refine wpAnyH_done (by kernel_rfl) ?_ _
              clear hHeld
              go_wp2
              go_roundw
              case rel => exact ⟨i + 1, 0, sa, sl, sc, q3, el, o3, by omega, by go_num, rfl, PX3, RX3, BX3, TX3, NX3, Lib.hid (.inl ⟨rfl, rfl, rfl, rfl, rfl, _, MX3.out, HNX.out, HCK9.out⟩)⟩
              case measure => simp [intOf]; omega
            · have HER := Lib.hid her
              obtain ⟨ee, hee⟩ : ∃ x, sentErr sl E gi ni ai = x := ⟨_, rfl⟩
              have HEE := Lib.hid hee
              have HNZ9 : Hid (ee ≠ 0) := Lib.hid (by rw [← hee]; exact her)
              have HXE : Hid (goE sl ns gs am es = ee) := Lib.hid (by rw [HG0.out.1, if_neg (by rw [HCK9.out]; simp), goN_le (goN_bad HGO.out (by rw [HGI.out, HNI.out, HAI.out]; exact her)) (by rw [HGI.out, HNI.out, HAI.out]; exact her) (by omega), HGI.out, HNI.out, HAI.out]; exact hee)
              clear her hee
              have hBz : Below wj.heap.size wj wj.drew := below_drewN (Below.refl _ _) 1
              have PX0 : Hid (Blk wj.drew gp 25 [.slice sa sl sc, .slice ea el ec]) := Lib.hid (Pwj.out.below hBz Pwj.out.lt)
              have RX0 : Hid (Blk wj.drew gr 87 [.slice (some ⟨bn, on, none⟩) n nc, .slice (some ⟨bg, og, none⟩) m gc, .slice (some ⟨ba, oa, none⟩) k ac]) := Lib.hid (Rwj.out.below hBz Rwj.out.lt)
              have BX0 : Hid (Below w.heap.size w wj.drew) := Lib.hid (Bwj.out.trans (hBz.mono Bwj.out.size))
              have TX0 : Hid (Blk wj.drew g5 31 [.slice none 0 0, .slice none 0 0]) := Lib.hid (Twj.out.below hBz Twj.out.lt)
              have NX0 : Hid (Blk wj.drew g7 25 [.slice sa sl sc, .slice q2 el o2]) := Lib.hid (Nwj.out.below hBz Nwj.out.lt)
              have QX0 : Hid (EdgeRow wj.drew q2 E) := Lib.hid (Qwj.out.below hBz)
              have JX0 : Hid (wj.drew.cell? ⟨bg, og + i, none⟩ = some (.int .i64 gi)) := Lib.hid ((hBz.cell (p := ⟨bg, og + i, none⟩) (World.block_lt_of_cell? _ _ Jwj.out)).trans Jwj.out)
              have KX0 : Hid (wj.drew.cell? ⟨bn, on + i, none⟩ = some (.int .i64 ni)) := Lib.hid ((hBz.cell (p := ⟨bn, on + i, none⟩) (World.block_lt_of_cell? _ _ Kwj.out)).trans Kwj.out)
              have LX0 : Hid (wj.drew.cell? ⟨ba, oa + i, none⟩ = some (.int .u64 ai)) := Lib.hid ((hBz.cell (p := ⟨ba, oa + i, none⟩) (World.block_lt_of_cell? _ _ Lwj.out)).trans Lwj.out)
              clear hBz
              refine wp_region_held_drew (S := fun w' => Blk w' gr 87 [.slice (some ⟨bn, on, none⟩) n nc, .slice (some ⟨bg, og, none⟩) m gc, .slice (some ⟨ba, oa, none⟩) k ac] ∧ w'.cell? ⟨bg, og + i, none⟩ = some (.int .i64 gi) ∧ w'.cell? ⟨bn, on + i, none⟩ = some (.int .i64 ni) ∧ w'.cell? ⟨ba, oa + i, none⟩ = some (.int .u64 ai)) (by kernel_rfl) (⟨RX0.out, JX0.out, KX0.out, LX0.out⟩) (fun hHeld => ?_)
              generalize wj.drew = X0 at hHeld PX0 RX0 BX0 TX0 NX0 QX0 JX0 KX0 LX0 ⊢
              refine wpAnyH_take (i := 1) (v := .pointer (some ⟨gr, 1, none⟩)) rfl (by kernel_rfl) (by kernel_rfl) (by kernel_rfl) (fun _ _ _ h => h) (Or.inl ⟨by rfl, by intro w' h; go_simp⟩) hHeld ?_
              show wpAnyH _ _ _ _ _ _ _ (Act.put _ (some 89) _) _
              simp only [Act.put, List.setIfInBounds_toArray, List.set_cons_zero, List.set_cons_succ]
              refine wpAnyH_take (i := 2) (v := .slice (some ⟨bg, og, none⟩) m gc) rfl (by kernel_rfl) (by kernel_rfl) (by kernel_rfl) (fun _ _ _ h => h) (Or.inl ⟨by rfl, by intro w' h; have k0 := Blk.cell h.1 1; simp only [List.getElem?_cons_zero, List.getElem?_cons_succ] at k0; go_simp⟩) hHeld ?_
              show wpAnyH _ _ _ _ _ _ _ (Act.put _ (some 90) _) _
              simp only [Act.put, List.setIfInBounds_toArray, List.set_cons_zero, List.set_cons_succ]
              refine wpAnyH_take (i := 3) (v := .int .i64 (i : Int)) rfl (by kernel_rfl) (by kernel_rfl) (by kernel_rfl) (fun _ _ _ h => h) (Or.inl ⟨by rfl, fun w _ => by rfl⟩) hHeld ?_
              show wpAnyH _ _ _ _ _ _ _ (Act.put _ (some 91) _) _
              simp only [Act.put, List.setIfInBounds_toArray, List.set_cons_zero, List.set_cons_succ]
              refine wpAnyH_take (i := 4) (v := .pointer (some ⟨bg, og + i, none⟩)) rfl (by kernel_rfl) (by kernel_rfl) (by kernel_rfl) (fun _ _ _ h => h) (Or.inl ⟨by rfl, by intro w' h; have mm := Hmm.out; go_simp⟩) hHeld ?_
              show wpAnyH _ _ _ _ _ _ _ (Act.put _ (some 92) _) _
              simp only [Act.put, List.setIfInBounds_toArray, List.set_cons_zero, List.set_cons_succ]
              refine wpAnyH_take (i := 5) (v := .int .i64 gi) rfl (by kernel_rfl) (by kernel_rfl) (by kernel_rfl) (fun _ _ _ h => h) (Or.inl ⟨by rfl, by intro w' h; have q9 := h.2.1; go_simp⟩) hHeld ?_
              show wpAnyH _ _ _ _ _ _ _ (Act.put _ (some 93) _) _
              simp only [Act.put, List.setIfInBounds_toArray, List.set_cons_zero, List.set_cons_succ]
              refine wpAnyH_take (i := 6) (v := .pointer (some ⟨gr, 0, none⟩)) rfl (by kernel_rfl) (by kernel_rfl) (by kernel_rfl) (fun _ _ _ h => h) (Or.inl ⟨by rfl, by intro w' h; go_simp⟩) hHeld ?_
              show wpAnyH _ _ _ _ _ _ _ (Act.put _ (some 94) _) _
              simp only [Act.put, List.setIfInBounds_toArray, List.set_cons_zero, List.set_cons_succ]
              refine wpAnyH_take (i := 7) (v := .slice (some ⟨bn, on, none⟩) n nc) rfl (by kernel_rfl) (by kernel_rfl) (by kernel_rfl) (fun _ _ _ h => h) (Or.inl ⟨by rfl, by intro w' h; have k0 := Blk.cell h.1 0; simp only [List.getElem?_cons_zero] at k0; go_simp⟩) hHeld ?_
              show wpAnyH _ _ _ _ _ _ _ (Act.put _ (some 95) _) _
              simp only [Act.put, List.setIfInBounds_toArray, List.set_cons_zero, List.set_cons_succ]
              refine wpAnyH_take (i := 8) (v := .int .i64 (i : Int)) rfl (by kernel_rfl) (by kernel_rfl) (by kernel_rfl) (fun _ _ _ h => h) (Or.inl ⟨by rfl, fun w _ => by rfl⟩) hHeld ?_
              show wpAnyH _ _ _ _ _ _ _ (Act.put _ (some 96) _) _
              simp only [Act.put, List.setIfInBounds_toArray, List.set_cons_zero, List.set_cons_succ]
              refine wpAnyH_take (i := 9) (v := .pointer (some ⟨bn, on + i, none⟩)) rfl (by kernel_rfl) (by kernel_rfl) (by kernel_rfl) (fun _ _ _ h => h) (Or.inl ⟨by rfl, by intro w' h; have nn := Hnn.out; go_simp⟩) hHeld ?_
              show wpAnyH _ _ _ _ _ _ _ (Act.put _ (some 97) _) _
              simp only [Act.put, List.setIfInBounds_toArray, List.set_cons_zero, List.set_cons_succ]
              refine wpAnyH_take (i := 10) (v := .int .i64 ni) rfl (by kernel_rfl) (by kernel_rfl) (by kernel_rfl) (fun _ _ _ h => h) (Or.inl ⟨by rfl, by intro w' h; have q9 := h.2.2.1; go_simp⟩) hHeld ?_
              show wpAnyH _ _ _ _ _ _ _ (Act.put _ (some 98) _) _
              simp only [Act.put, List.setIfInBounds_toArray, List.set_cons_zero, List.set_cons_succ]
              refine wpAnyH_take (i := 11) (v := .pointer (some ⟨gr, 2, none⟩)) rfl (by kernel_rfl) (by kernel_rfl) (by kernel_rfl) (fun _ _ _ h => h) (Or.inl ⟨by rfl, by intro w' h; go_simp⟩) hHeld ?_
              show wpAnyH _ _ _ _ _ _ _ (Act.put _ (some 99) _) _
              simp only [Act.put, List.setIfInBounds_toArray, List.set_cons_zero, List.set_cons_succ]
              refine wpAnyH_take (i := 12) (v := .slice (some ⟨ba, oa, none⟩) k ac) rfl (by kernel_rfl) (by kernel_rfl) (by kernel_rfl) (fun _ _ _ h => h) (Or.inl ⟨by rfl, by intro w' h; have k0 := Blk.cell h.1 2; simp only [List.getElem?_cons_zero, List.getElem?_cons_succ] at k0; go_simp⟩) hHeld ?_
              show wpAnyH _ _ _ _ _ _ _ (Act.put _ (some 100) _) _
              simp only [Act.put, List.setIfInBounds_toArray, List.set_cons_zero, List.set_cons_succ]
              refine wpAnyH_take (i := 13) (v := .int .i64 (i : Int)) rfl (by kernel_rfl) (by kernel_rfl) (by kernel_rfl) (fun _ _ _ h => h) (Or.inl ⟨by rfl, fun w _ => by rfl⟩) hHeld ?_
              show wpAnyH _ _ _ _ _ _ _ (Act.put _ (some 101) _) _
              simp only [Act.put, List.setIfInBounds_toArray, List.set_cons_zero, List.set_cons_succ]
              refine wpAnyH_take (i := 14) (v := .pointer (some ⟨ba, oa + i, none⟩)) rfl (by kernel_rfl) (by kernel_rfl) (by kernel_rfl) (fun _ _ _ h => h) (Or.inl ⟨by rfl, by intro w' h; have kk := Hkk.out; go_simp⟩) hHeld ?_
              show wpAnyH _ _ _ _ _ _ _ (Act.put _ (some 102) _) _
              simp only [Act.put, List.setIfInBounds_toArray, List.set_cons_zero, List.set_cons_succ]
              refine wpAnyH_take (i := 15) (v := .int .u64 ai) rfl (by kernel_rfl) (by kernel_rfl) (by kernel_rfl) (fun _ _ _ h => h) (Or.inl ⟨by rfl, by intro w' h; have q9 := h.2.2.2; go_simp⟩) hHeld ?_
              show wpAnyH _ _ _ _ _ _ _ (Act.put _ (some 103) _) _
              simp only [Act.put, List.setIfInBounds_toArray, List.set_cons_zero, List.set_cons_succ]
              refine wpAnyH_ready (rs := [0]) (by kernel_rfl) (by simp) ?_
              refine AllReadyH.cons rfl (fun K hK => ?_) AllReadyH.nil
              refine step_val rfl (.agg #[.slice sa sl sc, .slice q2 el o2]) X0 (by have q9 := NX0.out.cell 0; have q8 := NX0.out.cell 1; simp only [List.getElem?_cons_zero, List.getElem?_cons_succ] at q9 q8; go_simp) ?_
              refine hK.out _ _ (⟨RX0.out, JX0.out, KX0.out, LX0.out⟩) (fun hHeld => ?_)
              clear hK K
              show wpAnyH _ _ _ _ _ _ _ (Act.put _ (some 88) _) _
              simp only [Act.put, List.setIfInBounds_toArray, List.set_cons_zero, List.set_cons_succ]
              refine wpAnyH_ready (rs := [16]) (by kernel_rfl) (by simp) ?_
              refine AllReadyH.cons rfl (fun K hK => ?_) AllReadyH.nil
              refine step_call rfl 28 #[.tmp 88, .tmp 93, .tmp 98, .tmp 103] #[25, 3, 3, 40] rfl #[.agg #[.slice sa sl sc, .slice q2 el o2], .int .i64 gi, .int .i64 ni, .int .u64 ai] (by simp [Act.eval]) (by go_simp) (rsent_any sa sl sc q2 el o2 E gi ni ai X0 QX0.out (HOE.out.2.trans HEL.out) (by omega) (by omega) HOE.out.1 HWA.out) ?_
              rintro e X2 ⟨hB, hP⟩
              rcases hP with ⟨h9, _⟩ | ⟨_, rfl⟩
              · exact absurd h9 HER.out
              rw [HEE.out]
              have PX2 : Hid (Blk X2 gp 25 [.slice sa sl sc, .slice ea el ec]) := Lib.hid (PX0.out.below hB PX0.out.lt)
              have RX2 : Hid (Blk X2 gr 87 [.slice (some ⟨bn, on, none⟩) n nc, .slice (some ⟨bg, og, none⟩) m gc, .slice (some ⟨ba, oa, none⟩) k ac]) := Lib.hid (RX0.out.below hB RX0.out.lt)
              have BX2 : Hid (Below w.heap.size w X2) := Lib.hid (BX0.out.trans (hB.mono BX0.out.size))
              have TX2 : Hid (Blk X2 g5 31 [.slice none 0 0, .slice none 0 0]) := Lib.hid (TX0.out.below hB TX0.out.lt)
              have NX2 : Hid (Blk X2 g7 25 [.slice sa sl sc, .slice q2 el o2]) := Lib.hid (NX0.out.below hB NX0.out.lt)
              have QX2 : Hid (EdgeRow X2 q2 E) := Lib.hid (QX0.out.below hB)
              have JX2 : Hid (X2.cell? ⟨bg, og + i, none⟩ = some (.int .i64 gi)) := Lib.hid ((hB.cell (p := ⟨bg, og + i, none⟩) (World.block_lt_of_cell? _ _ JX0.out)).trans JX0.out)
              have KX2 : Hid (X2.cell? ⟨bn, on + i, none⟩ = some (.int .i64 ni)) := Lib.hid ((hB.cell (p := ⟨bn, on + i, none⟩) (World.block_lt_of_cell? _ _ KX0.out)).trans KX0.out)
              have LX2 : Hid (X2.cell? ⟨ba, oa + i, none⟩ = some (.int .u64 ai)) := Lib.hid ((hB.cell (p := ⟨ba, oa + i, none⟩) (World.block_lt_of_cell? _ _ LX0.out)).trans LX0.out)
              clear PX0 RX0 BX0 TX0 NX0 QX0 JX0 KX0 LX0 hB
              refine ⟨_, rfl, hK.out _ _ (⟨RX2.out, JX2.out, KX2.out, LX2.out⟩) (fun hHeld => ?_)⟩
              clear hK K
              show wpAnyH _ _ _ _ _ _ _ (Act.put _ (some 104) _) _
              simp only [Act.put, List.setIfInBounds_toArray, List.set_cons_zero, List.set_cons_succ]
              refine wpAnyH_take (i := 17) (v := .tuple #[.agg #[.slice none 0 0, .slice none 0 0], .int .i64 ee]) rfl (by kernel_rfl) (by kernel_rfl) (by kernel_rfl) (fun _ _ _ h => h) (Or.inl ⟨by rfl, fun w _ => by rfl⟩) hHeld ?_
              show wpAnyH _ _ _ _ _ _ _ (Act.put _ (some 87) _) _
              simp only [Act.put, List.setIfInBounds_toArray, List.set_cons_zero, List.set_cons_succ]
              refine wpAnyH_take (i := 18) (v := .agg #[.slice none 0 0, .slice none 0 0]) rfl (by kernel_rfl) (by kernel_rfl) (by kernel_rfl) (fun _ _ _ h => h) (Or.inl ⟨by rfl, by intro w' h; go_simp⟩) hHeld ?_
              show wpAnyH _ _ _ _ _ _ _ (Act.put _ (some 105) _) _
              simp only [Act.put, List.setIfInBounds_toArray, List.set_cons_zero, List.set_cons_succ]
              refine wpAnyH_take (i := 19) (v := .int .i64 ee) rfl (by kernel_rfl) (by kernel_rfl) (by kernel_rfl) (fun _ _ _ h => h) (Or.inl ⟨by rfl, by intro w' h; go_simp⟩) hHeld ?_
              show wpAnyH _ _ _ _ _ _ _ (Act.put _ (some 106) _) _
              simp only [Act.put, List.setIfInBounds_toArray, List.set_cons_zero, List.set_cons_succ]
              refine wpAnyH_ready (rs := [20]) (by kernel_rfl) (by simp) ?_
              refine AllReadyH.cons rfl (fun K hK => ?_) AllReadyH.nil
              refine step_store25 rfl (.tmp 7) (.tmp 105) rfl g7 _ _ none none 0 0 0 0 rfl rfl NX2.out ?_
              intro X3 hT hO
              have PX3 : Hid (Blk X3 gp 25 [.slice sa sl sc, .slice ea el ec]) := Lib.hid (PX2.out.grown hO (by intro e9; injection e9 with e9; exact HPN.out e9))
              have RX3 : Hid (Blk X3 gr 87 [.slice (some ⟨bn, on, none⟩) n nc, .slice (some ⟨bg, og, none⟩) m gc, .slice (some ⟨ba, oa, none⟩) k ac]) := Lib.hid (RX2.out.grown hO (by intro e9; injection e9 with e9; exact Blk.ne_ RX2.out NX2.out (by decide) e9))
              have BX3 : Hid (Below w.heap.size w X3) := Lib.hid (BX2.out.trans (only_up hO HG7.out BX2.out.size))
              have TX3 : Hid (Blk X3 g5 31 [.slice none 0 0, .slice none 0 0]) := Lib.hid (TX2.out.grown hO (by intro e9; injection e9 with e9; exact Blk.ne_ TX2.out NX2.out (by decide) e9))
              have QX3 : Hid (EdgeRow X3 q2 E) := Lib.hid (QX2.out.grown NX2.out (slices2 _ _ _ _ _ _) hO)
              have JX3 : Hid (X3.cell? ⟨bg, og + i, none⟩ = some (.int .i64 gi)) := Lib.hid (hO.cell JX2.out (by intro e9; injection e9 with e9; exact cell_ne (x := gi) (k := .i64) JX2.out NX2.out e9))
              have KX3 : Hid (X3.cell? ⟨bn, on + i, none⟩ = some (.int .i64 ni)) := Lib.hid (hO.cell KX2.out (by intro e9; injection e9 with e9; exact cell_ne (x := ni) (k := .i64) KX2.out NX2.out e9))
              have LX3 : Hid (X3.cell? ⟨ba, oa + i, none⟩ = some (.int .u64 ai)) := Lib.hid (hO.cell LX2.out (by intro e9; injection e9 with e9; exact cell_ne (x := ai) (k := .u64) LX2.out NX2.out e9))
              have NX3 : Hid (Blk X3 g7 25 [.slice none 0 0, .slice none 0 0]) := Lib.hid (hT)
              clear PX2 RX2 BX2 TX2 QX2 JX2 KX2 LX2 hO hT
              refine hK.out _ _ (⟨RX3.out, JX3.out, KX3.out, LX3.out⟩) (fun hHeld => ?_)
              clear hK K
              show wpAnyH _ _ _ _ _ _ _ (Act.put _ none _) _
              simp only [Act.put]
              refine wpAnyH_take (i := 21) (v := .int .i64 ee) rfl (by kernel_rfl) (by kernel_rfl) (by kernel_rfl) (fun _ _ _ h => h) (Or.inl ⟨by rfl, fun w _ => by rfl⟩) hHeld ?_
              show wpAnyH _ _ _ _ _ _ _ (Act.put _ (some 8) _) _
              simp only [Act.put, List.setIfInBounds_toArray, List.set_cons_zero, List.set_cons_succ]
              refine wpAnyH_done (by kernel_rfl) ?_ _
              clear hHeld
              go_wp2
              go_roundw
              case rel => exact ⟨i + 1, ee, none, 0, 0, none, 0, 0, by omega, by go_num, rfl, PX3, RX3, BX3, TX3, NX3, Lib.hid (.inr ⟨HNZ9.out, HXE.out⟩)⟩
              case measure => simp [intOf]; omega
          · have b0 : (fe == 0) = false := by simpa using hfe
            have b1 : decide (fe = 0) = false := decide_eq_false hfe
            have b2 : (fe != 0) = true := by simpa using hfe
            have hfg : goE sl ns gs am es = fe := by rcases Hf.out with h | h; exact absurd h.1 hfe; exact h.2
            have HFG := Lib.hid hfg
            clear hfg
            have hee : er = fe := HGE.out.symm.trans HFG.out
            subst hee
            have n0 := Nw.out.cell 0
            have n1 := Nw.out.cell 1
            simp only [List.getElem?_cons_zero, List.getElem?_cons_succ] at n0 n1
            have fz0 := Nw.out.frozen 0
            have fz1 := Nw.out.frozen 1
            have hO : wj.grownBy ((wj.setCell ⟨g7, 0, none⟩ (.slice none 0 0)).setCell ⟨g7, 1, none⟩ (.slice none 0 0)) (some g7) := only_setCell (p := ⟨g7, 1, none⟩) (only_setCell (p := ⟨g7, 0, none⟩) (only_refl wj _) (.inl rfl) _) (.inl rfl) _
            have NZ := Lib.hid (Blk.set_ (Blk.set_ Nw.out 0 (.slice none 0 0)) 1 (.slice none 0 0))
            have TZ := Lib.hid (Tw.out.grown hO (by intro e9; injection e9 with e9; exact Blk.ne_ Tw.out Nw.out (by decide) e9))
            have BZ := Lib.hid (Bw.out.trans (only_up hO HG7.out Bw.out.size))
            clear hO hfe
            go_upto_region 13 with fail
            simp only [List.set_cons_zero, List.set_cons_succ] at NZ
            generalize (wj.setCell ⟨g7, 0, none⟩ (.slice none 0 0)).setCell ⟨g7, 1, none⟩ (.slice none 0 0) = Z at NZ TZ BZ ⊢
            have hBz : Below Z.heap.size Z Z.drew := below_drewN (Below.refl _ _) 1
            have NZ0 : Hid (Blk Z.drew g7 25 [.slice none 0 0, .slice none 0 0]) := Lib.hid (NZ.out.below hBz NZ.out.lt)
            have TZ0 : Hid (Blk Z.drew g5 31 [.slice none 0 0, .slice none 0 0]) := Lib.hid (TZ.out.below hBz TZ.out.lt)
            have BZ0 : Hid (Below w.heap.size w Z.drew) := Lib.hid (BZ.out.trans (hBz.mono BZ.out.size))
            clear hBz
            refine wp_region_held_drew (S := fun w' => Blk w' g5 31 [.slice none 0 0, .slice none 0 0] ∧ Blk w' g7 25 [.slice none 0 0, .slice none 0 0]) (by kernel_rfl) (⟨TZ0.out, NZ0.out⟩) (fun hHeld => ?_)
            generalize Z.drew = Z0 at hHeld NZ0 TZ0 BZ0 ⊢
            refine wpAnyH_ready (rs := [0]) (by kernel_rfl) (by simp) ?_
            refine AllReadyH.cons rfl (fun K hK => ?_) AllReadyH.nil
            refine step_call rfl 33 #[] #[] rfl #[] (by simp) (by go_simp) (pawake_any Z0) ?_
            rintro e X1 ⟨rfl, hB⟩
            have NX1 : Hid (Blk X1 g7 25 [.slice none 0 0, .slice none 0 0]) := Lib.hid (NZ0.out.below hB NZ0.out.lt)
            have TX1 : Hid (Blk X1 g5 31 [.slice none 0 0, .slice none 0 0]) := Lib.hid (TZ0.out.below hB TZ0.out.lt)
            have BX1 : Hid (Below w.heap.size w X1) := Lib.hid (BZ0.out.trans (hB.mono BZ0.out.size))
            clear NZ0 TZ0 BZ0 hB
            refine ⟨_, rfl, hK.out _ _ (⟨TX1.out, NX1.out⟩) (fun hHeld => ?_)⟩
            clear hK K
            show wpAnyH _ _ _ _ _ _ _ (Act.put _ (some 110) _) _
            simp only [Act.put, List.setIfInBounds_toArray, List.set_cons_zero, List.set_cons_succ]
            refine wpAnyH_take (i := 1) (v := .bool true) rfl (by kernel_rfl) (by kernel_rfl) (by kernel_rfl) (fun _ _ _ h => h) (Or.inl ⟨by rfl, fun w _ => by rfl⟩) hHeld ?_
            show wpAnyH _ _ _ _ _ _ _ (Act.put _ (some 111) _) _
            simp only [Act.put, List.setIfInBounds_toArray, List.set_cons_zero, List.set_cons_succ]
            refine wpAnyH_take (i := 2) (v := .int .i64 er) rfl (by kernel_rfl) (by kernel_rfl) (by kernel_rfl) (fun _ _ _ h => h) (Or.inl ⟨by rfl, fun w _ => by rfl⟩) hHeld ?_
            show wpAnyH _ _ _ _ _ _ _ (Act.put _ (some 112) _) _
            simp only [Act.put, List.setIfInBounds_toArray, List.set_cons_zero, List.set_cons_succ]
            refine wpAnyH_take (i := 3) (v := .int .i64 er) rfl (by kernel_rfl) (by kernel_rfl) (by kernel_rfl) (fun _ _ _ h => h) (Or.inl ⟨by rfl, fun w _ => by rfl⟩) hHeld ?_
            show wpAnyH _ _ _ _ _ _ _ (Act.put _ (some 113) _) _
            simp only [Act.put, List.setIfInBounds_toArray, List.set_cons_zero, List.set_cons_succ]
            refine wpAnyH_take (i := 4) (v := .bool true) rfl (by kernel_rfl) (by kernel_rfl) (by kernel_rfl) (fun _ _ _ h => h) (Or.inl ⟨by rfl, by intro w' h; go_simp⟩) hHeld ?_
            show wpAnyH _ _ _ _ _ _ _ (Act.put _ (some 114) _) _
            simp only [Act.put, List.setIfInBounds_toArray, List.set_cons_zero, List.set_cons_succ]
            refine wpAnyH_take (i := 5) (v := .bool true) rfl (by kernel_rfl) (by kernel_rfl) (by kernel_rfl) (fun _ _ _ h => h) (Or.inl ⟨by rfl, by intro w hSw; first | rfl | go_simp⟩) hHeld ?_
            show wpAnyH _ _ _ _ _ _ _ (Act.put _ (some 115) _) _
            simp only [Act.put, List.setIfInBounds_toArray, List.set_cons_zero, List.set_cons_succ]
            refine wpAnyH_take (i := 6) (v := .bool true) rfl (by kernel_rfl) (by kernel_rfl) (by kernel_rfl) (fun _ _ _ h => h) (Or.inl ⟨by rfl, fun w _ => by rfl⟩) hHeld ?_
            show wpAnyH _ _ _ _ _ _ _ (Act.put _ (some 116) _) _
            simp only [Act.put, List.setIfInBounds_toArray, List.set_cons_zero, List.set_cons_succ]
            refine wpAnyH_take (i := 7) (v := .agg #[.slice none 0 0, .slice none 0 0]) rfl (by kernel_rfl) (by kernel_rfl) (by kernel_rfl) (fun _ _ _ h => h) (Or.inl ⟨by rfl, by intro w' h; have k0 := Blk.cell h.1 0; have k1 := Blk.cell h.1 1; simp only [List.getElem?_cons_zero, List.getElem?_cons_succ] at k0 k1; go_simp⟩) hHeld ?_
            show wpAnyH _ _ _ _ _ _ _ (Act.put _ (some 117) _) _
            simp only [Act.put, List.setIfInBounds_toArray, List.set_cons_zero, List.set_cons_succ]
            refine wpAnyH_take (i := 9) (v := .agg #[.slice none 0 0, .slice none 0 0]) rfl (by kernel_rfl) (by kernel_rfl) (by kernel_rfl) (fun _ _ _ h => h) (Or.inl ⟨by rfl, by intro w' h; have k0 := Blk.cell h.2 0; have k1 := Blk.cell h.2 1; simp only [List.getElem?_cons_zero, List.getElem?_cons_succ] at k0 k1; go_simp⟩) hHeld ?_
            show wpAnyH _ _ _ _ _ _ _ (Act.put _ (some 119) _) _
            simp only [Act.put, List.setIfInBounds_toArray, List.set_cons_zero, List.set_cons_succ]
            refine wpAnyH_ready (rs := [8]) (by kernel_rfl) (by simp) ?_
            refine AllReadyH.cons rfl (fun K hK => ?_) AllReadyH.nil
            refine step_call rfl 32 #[.tmp 117] #[31] rfl #[.agg #[.slice none 0 0, .slice none 0 0]] (by simp [Act.eval]) (by go_simp) (wfrom_any none 0 0 none 0 0 [] [] X1 (.inl rfl) (.inl rfl) rfl rfl (by omega) (by omega)) ?_
            rintro e X2 ⟨u1, v1, u2, v2, rfl, hs5, he5, hB⟩
            have NX2 : Hid (Blk X2 g7 25 [.slice none 0 0, .slice none 0 0]) := Lib.hid (NX1.out.below hB NX1.out.lt)
            have TX2 : Hid (Blk X2 g5 31 [.slice none 0 0, .slice none 0 0]) := Lib.hid (TX1.out.below hB TX1.out.lt)
            have BX2 : Hid (Below w.heap.size w X2) := Lib.hid (BX1.out.trans (hB.mono BX1.out.size))
            clear NX1 TX1 BX1 hB hs5 he5
            refine ⟨_, rfl, hK.out _ _ (⟨TX2.out, NX2.out⟩) (fun hHeld => ?_)⟩
            clear hK K
            show wpAnyH _ _ _ _ _ _ _ (Act.put _ (some 118) _) _
            simp only [Act.put, List.setIfInBounds_toArray, List.set_cons_zero, List.set_cons_succ]
            refine wpAnyH_ready (rs := [10]) (by kernel_rfl) (by simp) ?_
            refine AllReadyH.cons rfl (fun K hK => ?_) AllReadyH.nil
            refine step_call rfl 31 #[.tmp 118, .tmp 119] #[25, 25] rfl #[.agg #[.slice u1 0 v1, .slice u2 0 v2], .agg #[.slice none 0 0, .slice none 0 0]] (by simp [Act.eval]) (by go_simp) (wsame_any u1 0 v1 u2 0 v2 none 0 none 0 [] [] X2 (.inl rfl) (.inl rfl) (.inl rfl) (.inl rfl) rfl rfl (by omega) (by omega)) ?_
            rintro e X3 ⟨rfl, hB⟩
            have NX3 : Hid (Blk X3 g7 25 [.slice none 0 0, .slice none 0 0]) := Lib.hid (NX2.out.below hB NX2.out.lt)
            have TX3 : Hid (Blk X3 g5 31 [.slice none 0 0, .slice none 0 0]) := Lib.hid (TX2.out.below hB TX2.out.lt)
            have BX3 : Hid (Below w.heap.size w X3) := Lib.hid (BX2.out.trans (hB.mono BX2.out.size))
            clear NX2 TX2 BX2 hB
            refine ⟨_, rfl, hK.out _ _ (⟨TX3.out, NX3.out⟩) (fun hHeld => ?_)⟩
            clear hK K
            show wpAnyH _ _ _ _ _ _ _ (Act.put _ (some 120) _) _
            simp only [Act.put, List.setIfInBounds_toArray, List.set_cons_zero, List.set_cons_succ]
            refine wpAnyH_take (i := 11) (v := .bool true) rfl (by kernel_rfl) (by kernel_rfl) (by kernel_rfl) (fun _ _ _ h => h) (Or.inl ⟨by rfl, by intro w hSw; first | rfl | go_simp⟩) hHeld ?_
            show wpAnyH _ _ _ _ _ _ _ (Act.put _ (some 121) _) _
            simp only [Act.put, List.setIfInBounds_toArray, List.set_cons_zero, List.set_cons_succ]
            refine wpAnyH_take (i := 12) (v := .bool true) rfl (by kernel_rfl) (by kernel_rfl) (by kernel_rfl) (fun _ _ _ h => h) (Or.inl ⟨by rfl, fun w _ => by rfl⟩) hHeld ?_
            show wpAnyH _ _ _ _ _ _ _ (Act.put _ (some 4) _) _
            simp only [Act.put, List.setIfInBounds_toArray, List.set_cons_zero, List.set_cons_succ]
            refine wpAnyH_done (by kernel_rfl) ?_ _
            clear hHeld
            go_wp2
            go_ret
            exact ⟨rfl, BX3.out⟩
        · have d1 : decide ((i : Int) < (m : Int)) = false := decide_eq_false (by omega)
          have hiI : ¬ (i : Int) < (m : Int) := by omega
          have him : i = m := Nat.le_antisymm hi (Nat.le_of_not_lt hil)
          by_cases hfe : fe = 0
          · subst hfe
            exfalso
            obtain ⟨_, _, _, _, _, E, _, hg, hck⟩ := Hf.out.resolve_right (fun h => h.1 rfl)
            rw [him] at hg
            have h1 := HG0.out.1
            rw [if_neg (by rw [hck]; simp), hg, HGE.out] at h1
            exact HNZ.out h1
          · have b0 : (fe == 0) = false := by simpa using hfe
            have b1 : decide (fe = 0) = false := decide_eq_false hfe
            have b2 : (fe != 0) = true := by simpa using hfe
            have hfg : goE sl ns gs am es = fe := by rcases Hf.out with h | h; exact absurd h.1 hfe; exact h.2
            have HFG := Lib.hid hfg
            clear hfg
            have hee : er = fe := HGE.out.symm.trans HFG.out
            subst hee
            have n0 := Nw.out.cell 0
            have n1 := Nw.out.cell 1
            simp only [List.getElem?_cons_zero, List.getElem?_cons_succ] at n0 n1
            have fz0 := Nw.out.frozen 0
            have fz1 := Nw.out.frozen 1
            have hO : wj.grownBy ((wj.setCell ⟨g7, 0, none⟩ (.slice none 0 0)).setCell ⟨g7, 1, none⟩ (.slice none 0 0)) (some g7) := only_setCell (p := ⟨g7, 1, none⟩) (only_setCell (p := ⟨g7, 0, none⟩) (only_refl wj _) (.inl rfl) _) (.inl rfl) _
            have NZ := Lib.hid (Blk.set_ (Blk.set_ Nw.out 0 (.slice none 0 0)) 1 (.slice none 0 0))
            have TZ := Lib.hid (Tw.out.grown hO (by intro e9; injection e9 with e9; exact Blk.ne_ Tw.out Nw.out (by decide) e9))
            have BZ := Lib.hid (Bw.out.trans (only_up hO HG7.out Bw.out.size))
            clear hO hfe
            go_upto_region 13 with fail
            simp only [List.set_cons_zero, List.set_cons_succ] at NZ
            generalize (wj.setCell ⟨g7, 0, none⟩ (.slice none 0 0)).setCell ⟨g7, 1, none⟩ (.slice none 0 0) = Z at NZ TZ BZ ⊢
            have hBz : Below Z.heap.size Z Z.drew := below_drewN (Below.refl _ _) 1
            have NZ0 : Hid (Blk Z.drew g7 25 [.slice none 0 0, .slice none 0 0]) := Lib.hid (NZ.out.below hBz NZ.out.lt)
            have TZ0 : Hid (Blk Z.drew g5 31 [.slice none 0 0, .slice none 0 0]) := Lib.hid (TZ.out.below hBz TZ.out.lt)
            have BZ0 : Hid (Below w.heap.size w Z.drew) := Lib.hid (BZ.out.trans (hBz.mono BZ.out.size))
            clear hBz
            refine wp_region_held_drew (S := fun w' => Blk w' g5 31 [.slice none 0 0, .slice none 0 0] ∧ Blk w' g7 25 [.slice none 0 0, .slice none 0 0]) (by kernel_rfl) (⟨TZ0.out, NZ0.out⟩) (fun hHeld => ?_)
            generalize Z.drew = Z0 at hHeld NZ0 TZ0 BZ0 ⊢
            refine wpAnyH_ready (rs := [0]) (by kernel_rfl) (by simp) ?_
            refine AllReadyH.cons rfl (fun K hK => ?_) AllReadyH.nil
            refine step_call rfl 33 #[] #[] rfl #[] (by simp) (by go_simp) (pawake_any Z0) ?_
            rintro e X1 ⟨rfl, hB⟩
            have NX1 : Hid (Blk X1 g7 25 [.slice none 0 0, .slice none 0 0]) := Lib.hid (NZ0.out.below hB NZ0.out.lt)
            have TX1 : Hid (Blk X1 g5 31 [.slice none 0 0, .slice none 0 0]) := Lib.hid (TZ0.out.below hB TZ0.out.lt)
            have BX1 : Hid (Below w.heap.size w X1) := Lib.hid (BZ0.out.trans (hB.mono BZ0.out.size))
            clear NZ0 TZ0 BZ0 hB
            refine ⟨_, rfl, hK.out _ _ (⟨TX1.out, NX1.out⟩) (fun hHeld => ?_)⟩
            clear hK K
            show wpAnyH _ _ _ _ _ _ _ (Act.put _ (some 110) _) _
            simp only [Act.put, List.setIfInBounds_toArray, List.set_cons_zero, List.set_cons_succ]
            refine wpAnyH_take (i := 1) (v := .bool true) rfl (by kernel_rfl) (by kernel_rfl) (by kernel_rfl) (fun _ _ _ h => h) (Or.inl ⟨by rfl, fun w _ => by rfl⟩) hHeld ?_
            show wpAnyH _ _ _ _ _ _ _ (Act.put _ (some 111) _) _
            simp only [Act.put, List.setIfInBounds_toArray, List.set_cons_zero, List.set_cons_succ]
            refine wpAnyH_take (i := 2) (v := .int .i64 er) rfl (by kernel_rfl) (by kernel_rfl) (by kernel_rfl) (fun _ _ _ h => h) (Or.inl ⟨by rfl, fun w _ => by rfl⟩) hHeld ?_
            show wpAnyH _ _ _ _ _ _ _ (Act.put _ (some 112) _) _
            simp only [Act.put, List.setIfInBounds_toArray, List.set_cons_zero, List.set_cons_succ]
            refine wpAnyH_take (i := 3) (v := .int .i64 er) rfl (by kernel_rfl) (by kernel_rfl) (by kernel_rfl) (fun _ _ _ h => h) (Or.inl ⟨by rfl, fun w _ => by rfl⟩) hHeld ?_
            show wpAnyH _ _ _ _ _ _ _ (Act.put _ (some 113) _) _
            simp only [Act.put, List.setIfInBounds_toArray, List.set_cons_zero, List.set_cons_succ]
            refine wpAnyH_take (i := 4) (v := .bool true) rfl (by kernel_rfl) (by kernel_rfl) (by kernel_rfl) (fun _ _ _ h => h) (Or.inl ⟨by rfl, by intro w' h; go_simp⟩) hHeld ?_
            show wpAnyH _ _ _ _ _ _ _ (Act.put _ (some 114) _) _
            simp only [Act.put, List.setIfInBounds_toArray, List.set_cons_zero, List.set_cons_succ]
            refine wpAnyH_take (i := 5) (v := .bool true) rfl (by kernel_rfl) (by kernel_rfl) (by kernel_rfl) (fun _ _ _ h => h) (Or.inl ⟨by rfl, by intro w hSw; first | rfl | go_simp⟩) hHeld ?_
            show wpAnyH _ _ _ _ _ _ _ (Act.put _ (some 115) _) _
            simp only [Act.put, List.setIfInBounds_toArray, List.set_cons_zero, List.set_cons_succ]
            refine wpAnyH_take (i := 6) (v := .bool true) rfl (by kernel_rfl) (by kernel_rfl) (by kernel_rfl) (fun _ _ _ h => h) (Or.inl ⟨by rfl, fun w _ => by rfl⟩) hHeld ?_
            show wpAnyH _ _ _ _ _ _ _ (Act.put _ (some 116) _) _
            simp only [Act.put, List.setIfInBounds_toArray, List.set_cons_zero, List.set_cons_succ]
            refine wpAnyH_take (i := 7) (v := .agg #[.slice none 0 0, .slice none 0 0]) rfl (by kernel_rfl) (by kernel_rfl) (by kernel_rfl) (fun _ _ _ h => h) (Or.inl ⟨by rfl, by intro w' h; have k0 := Blk.cell h.1 0; have k1 := Blk.cell h.1 1; simp only [List.getElem?_cons_zero, List.getElem?_cons_succ] at k0 k1; go_simp⟩) hHeld ?_
            show wpAnyH _ _ _ _ _ _ _ (Act.put _ (some 117) _) _
            simp only [Act.put, List.setIfInBounds_toArray, List.set_cons_zero, List.set_cons_succ]
            refine wpAnyH_take (i := 9) (v := .agg #[.slice none 0 0, .slice none 0 0]) rfl (by kernel_rfl) (by kernel_rfl) (by kernel_rfl) (fun _ _ _ h => h) (Or.inl ⟨by rfl, by intro w' h; have k0 := Blk.cell h.2 0; have k1 := Blk.cell h.2 1; simp only [List.getElem?_cons_zero, List.getElem?_cons_succ] at k0 k1; go_simp⟩) hHeld ?_
            show wpAnyH _ _ _ _ _ _ _ (Act.put _ (some 119) _) _
            simp only [Act.put, List.setIfInBounds_toArray, List.set_cons_zero, List.set_cons_succ]
            refine wpAnyH_ready (rs := [8]) (by kernel_rfl) (by simp) ?_
            refine AllReadyH.cons rfl (fun K hK => ?_) AllReadyH.nil
            refine step_call rfl 32 #[.tmp 117] #[31] rfl #[.agg #[.slice none 0 0, .slice none 0 0]] (by simp [Act.eval]) (by go_simp) (wfrom_any none 0 0 none 0 0 [] [] X1 (.inl rfl) (.inl rfl) rfl rfl (by omega) (by omega)) ?_
            rintro e X2 ⟨u1, v1, u2, v2, rfl, hs5, he5, hB⟩
            have NX2 : Hid (Blk X2 g7 25 [.slice none 0 0, .slice none 0 0]) := Lib.hid (NX1.out.below hB NX1.out.lt)
            have TX2 : Hid (Blk X2 g5 31 [.slice none 0 0, .slice none 0 0]) := Lib.hid (TX1.out.below hB TX1.out.lt)
            have BX2 : Hid (Below w.heap.size w X2) := Lib.hid (BX1.out.trans (hB.mono BX1.out.size))
            clear NX1 TX1 BX1 hB hs5 he5
            refine ⟨_, rfl, hK.out _ _ (⟨TX2.out, NX2.out⟩) (fun hHeld => ?_)⟩
            clear hK K
            show wpAnyH _ _ _ _ _ _ _ (Act.put _ (some 118) _) _
            simp only [Act.put, List.setIfInBounds_toArray, List.set_cons_zero, List.set_cons_succ]
            refine wpAnyH_ready (rs := [10]) (by kernel_rfl) (by simp) ?_
            refine AllReadyH.cons rfl (fun K hK => ?_) AllReadyH.nil
            refine step_call rfl 31 #[.tmp 118, .tmp 119] #[25, 25] rfl #[.agg #[.slice u1 0 v1, .slice u2 0 v2], .agg #[.slice none 0 0, .slice none 0 0]] (by simp [Act.eval]) (by go_simp) (wsame_any u1 0 v1 u2 0 v2 none 0 none 0 [] [] X2 (.inl rfl) (.inl rfl) (.inl rfl) (.inl rfl) rfl rfl (by omega) (by omega)) ?_
            rintro e X3 ⟨rfl, hB⟩
            have NX3 : Hid (Blk X3 g7 25 [.slice none 0 0, .slice none 0 0]) := Lib.hid (NX2.out.below hB NX2.out.lt)
            have TX3 : Hid (Blk X3 g5 31 [.slice none 0 0, .slice none 0 0]) := Lib.hid (TX2.out.below hB TX2.out.lt)
            have BX3 : Hid (Below w.heap.size w X3) := Lib.hid (BX2.out.trans (hB.mono BX2.out.size))
            clear NX2 TX2 BX2 hB
            refine ⟨_, rfl, hK.out _ _ (⟨TX3.out, NX3.out⟩) (fun hHeld => ?_)⟩
            clear hK K
            show wpAnyH _ _ _ _ _ _ _ (Act.put _ (some 120) _) _
            simp only [Act.put, List.setIfInBounds_toArray, List.set_cons_zero, List.set_cons_succ]
            refine wpAnyH_take (i := 11) (v := .bool true) rfl (by kernel_rfl) (by kernel_rfl) (by kernel_rfl) (fun _ _ _ h => h) (Or.inl ⟨by rfl, by intro w hSw; first | rfl | go_simp⟩) hHeld ?_
            show wpAnyH _ _ _ _ _ _ _ (Act.put _ (some 121) _) _
            simp only [Act.put, List.setIfInBounds_toArray, List.set_cons_zero, List.set_cons_succ]
            refine wpAnyH_take (i := 12) (v := .bool true) rfl (by kernel_rfl) (by kernel_rfl) (by kernel_rfl) (fun _ _ _ h => h) (Or.inl ⟨by rfl, fun w _ => by rfl⟩) hHeld ?_
            show wpAnyH _ _ _ _ _ _ _ (Act.put _ (some 4) _) _
            simp only [Act.put, List.setIfInBounds_toArray, List.set_cons_zero, List.set_cons_succ]
            refine wpAnyH_done (by kernel_rfl) ?_ _
            clear hHeld
            go_wp2
            go_ret
            exact ⟨rfl, BX3.out⟩

set_option maxRecDepth 100000 in
theorem lifted (os : Os) (started : os.Started) (H : Type) (enc : TypeId × Value → H) :
    ReturnsInHanded {} Try.checked os 10 .any (Rows.pathGoesSpec.pre6 enc Try.prog Try.f10 Rows.pathGoesRow.domain false) (Rows.pathGoesSpec.post enc Try.prog Try.f10 false true false false) := by
  refine returnsInHanded_of_change (C := Try.checked) own started (by kernel_rfl) Try.func10
    (ChangeSpec.witness6 (enc := enc) (C := Try.checked) false ⟨#[], #[.agg #[.slice none 0 0, .slice none 0 0], .agg #[.slice none 0 0, .slice none 0 0, .slice none 0 0]], []⟩ 8 (by kernel_rfl) (by kernel_rfl) (by kernel_rfl) (by kernel_rfl)) ?_
  intro W base args ds gs before hval0 hW hcnd _
  have hval : ∀ (j : Nat) t v, Try.f10.params[j]? = some t → args[j]? = some v → Value.okWide Try.prog W .any base t v := hval0
  have hW' := hW
  obtain ⟨p, q, hA0, hV, rfl, hfz, hnd⟩ := hW
  have hA : DataW.TrodAll enc Try.prog W 0 (fun _ => true) true Try.f10.params.toList args.toList ds p := hA0
  rw [Try.params10] at hA hval
  obtain ⟨v0, vs0, dd0, ds0, p0, q0, hargs, rfl, rfl, h0, r0⟩ := trodAll_cons hA
  obtain ⟨v1, vs1, dd1, ds1, p1, q1, rfl, rfl, rfl, h1, r1⟩ := trodAll_cons r0
  obtain ⟨rfl, rfl, rfl⟩ := trodAll_nil r1
  obtain rfl : args = #[v0, v1] := by cases args; simp_all
  obtain ⟨rfl, rfl⟩ := trodVars_none hV
  have k0 := h0
  have lt0 : ∀ x ∈ p0, x.block < W.heap.size := by obtain ⟨m, hm⟩ := k0; exact DataW.trod_lt m _ _ _ hm
  obtain ⟨A0, l0, c0, B0, m0, d0, sp0, es0, rfl, hsp0, hes0, hS0, hE0, hok0, hm0, hn0⟩ := openWeb (hval 0 25 v0 rfl rfl) h0
  have k1 := h1
  have lt1 : ∀ x ∈ p1, x.block < W.heap.size := by obtain ⟨m, hm⟩ := k1; exact DataW.trod_lt m _ _ _ hm
  obtain ⟨A1, l1, c1, B1, m1, d1, C1, n1, e1, ns1, es1, as1, rfl, hns1, hes1, has1, hN1, hE1, hA1, hl1, hm1, hn1⟩ := openRoute (hval 1 87 v1 rfl rfl) h1
  clear hA0 hval0
  refine Calls.mono (R := Ok W) ?_ fun e W1 ⟨he, bel⟩ => ?_
  · skip
    show Calls Try.prog 10 _ W (Ok W)
    by_cases h : lightB l0 m0 = true
    · by_cases hb : 20 < m1 ∨ 20 < l1 ∨ 20 < n1
      · exact goes_big A0 l0 c0 B0 m0 d0 sp0 es0 A1 l1 c1 B1 m1 d1 C1 n1 e1 ns1 es1 as1 W hS0 hE0 hok0 hsp0 hes0 hN1 hE1 hA1 hns1 hes1 has1 h hb
      · have hsm : m1 ≤ 20 ∧ l1 ≤ 20 ∧ n1 ≤ 20 := ⟨by omega, by omega, by omega⟩
        by_cases hc : m1 = n1 ∧ l1 = m1 + 1
        · by_cases hg : goE l0 ns1 es1 as1 es0 = 0
          · exact goes_ok A0 l0 c0 B0 m0 d0 sp0 es0 A1 l1 c1 B1 m1 d1 C1 n1 e1 ns1 es1 as1 W hS0 hE0 hok0 hsp0 hes0 hN1 hE1 hA1 hns1 hes1 has1 h hsm hc hg
          · exact goes_bad A0 l0 c0 B0 m0 d0 sp0 es0 A1 l1 c1 B1 m1 d1 C1 n1 e1 ns1 es1 as1 W hS0 hE0 hok0 hsp0 hes0 hN1 hE1 hA1 hns1 hes1 has1 h hsm hc hg
        · exact goes_arg A0 l0 c0 B0 m0 d0 sp0 es0 A1 l1 c1 B1 m1 d1 C1 n1 e1 ns1 es1 as1 W hS0 hE0 hok0 hsp0 hes0 hN1 hE1 hA1 hns1 hes1 has1 h hsm (by omega)
    · exact goes_dark A0 l0 c0 B0 m0 d0 sp0 es0 A1 l1 c1 B1 m1 d1 C1 n1 e1 ns1 es1 as1 W hS0 hE0 hok0 hsp0 hes0 hN1 hE1 hA1 hns1 hes1 has1 (by simpa using h)
  subst he
  exact ⟨_, rfl, _, _, _, [], _, [], hW', trodAll_mk1 (shut_bool Try.underlying4 _), (trodAll_cons_mk (Below.trod laidOut (by kernel_rfl) (of_decide_eq_true (by kernel_rfl)) k0 bel lt0) (trodAll_cons_mk (Below.trod laidOut (by kernel_rfl) (of_decide_eq_true (by kernel_rfl)) k1 bel lt1) trodAll_mk0)), rfl, bel.frame _, fun h => by cases h⟩

theorem proved : Rows.PathGoesSaid :=
  OpenClaim.holds_of_wide 10 Try.f10 rfl rfl rfl rfl rfl rfl rfl ⟨rfl, rfl, rfl, rfl, rfl⟩ rfl rfl rfl rfl rfl (by kernel_rfl) Try.func10 (by kernel_rfl)
    (of_decide_eq_true (by kernel_rfl)) (by unfold Func.isWrapper; first | (rw [if_pos (by decide +kernel)]; kernel_rfl) | (rw [if_neg (by decide +kernel)]; exact ⟨rfl, rfl⟩))
    (fun os started H enc _ => lifted os started H enc)
#print axioms proved
end Go.Proofs.Ytnnimjaigciedaa.pathGoes
