/-
  All routes by which an amount can go (All, 34).
  cmp.Compare of two numbers, cmp.Or of two, over how many channels a route goes.
-/
import Derived.Test.YtnnimjaigciedaaPathM
namespace Go.Proofs.Ytnnimjaigciedaa
open Go.RowKit
set_option linter.unusedVariables false

theorem each_at (sa : Option Addr) (sl sc : Nat) (ea : Option Addr) (el ec : Nat) (es : List Ed) (goal amt : Int) (gl : Nat) (w0 : World) (hE : EdgeRow w0 ea es) (hel : es.length = el) (hel2 : el ≤ 90) (hsl2 : sl ≤ 1000) (hok : ∀ e ∈ es, EdOk e) (hg0 : w0.heap.size ≤ gl) (ham : Word amt) : ∀ f, EachAt sa sl sc ea el ec es goal amt gl w0 f := by
  intro f
  induction f with
  | zero =>
    intro na n nc ta tl tc l s acc a c w hll hn0 htl h7 hnt hL hS hF hac hw h0 hB0
    by_cases hg : lastI l = goal
    · exact each_goal sa sl sc ea el ec es goal amt 0 na n nc ta tl tc l s acc a c gl w hll hn0 (by omega) htl (by omega) hL hS hF hac ham hw hg (h0 hg)
    · exact each_full sa sl sc ea el ec es goal amt 0 na n nc ta tl tc l s acc a c gl w hll hn0 (by omega) htl (by omega) hL hS hF hac ham hw hg (by omega)
  | succ f ih =>
    intro na n nc ta tl tc l s acc a c w hll hn0 htl h7 hnt hL hS hF hac hw h0 hB0
    by_cases hg : lastI l = goal
    · exact each_goal sa sl sc ea el ec es goal amt (f + 1) na n nc ta tl tc l s acc a c gl w hll hn0 (by omega) htl (by omega) hL hS hF hac ham hw hg (h0 hg)
    · exact each_go sa sl sc ea el ec es goal amt gl w0 f ih hE hel hel2 hsl2 hok hg0 na n nc ta tl tc l s acc a c w hll hn0 htl h7 hnt hL hS hF hac hw hB0 hg

/-- All routes, as trails. -/
def wayL (sl : Nat) (es : List Ed) (src goal amt : Int) : List Tr := (eachL sl es goal amt 7 [src] [] []).1
theorem wayL_length (sl : Nat) (es : List Ed) (src goal amt : Int) : (wayL sl es src goal amt).length ≤ 32 := (eachL_small 7 [src] [] [] (by simp)).1
/-- What All answers. -/
def PAllPost (sl : Nat) (es : List Ed) (src goal amt : Int) (w : World) (e : Ending) (w' : World) : Prop :=
  Below w.heap.size w w' ∧ ((seekE sl es src goal amt = 0 ∧ ∃ acc a c, acc.map Rt.tr = wayL sl es src goal amt ∧ e = .returned (.tuple #[.slice a acc.length c, .int .i64 0]) ∧ w'.ownsRow w.heap.size 89 3 (.slice a acc.length c) acc.length (rtflat acc) ∧ ∀ r ∈ acc, RtOk w' w.heap.size amt r) ∨ (seekE sl es src goal amt ≠ 0 ∧ e = .returned (.tuple #[.slice none 0 0, .int .i64 (seekE sl es src goal amt)])))

set_option maxRecDepth 100000 in
set_option maxHeartbeats 8000000 in
theorem pall_any (sa : Option Addr) (sl sc : Nat) (ea : Option Addr) (el ec : Nat) (es : List Ed) (src goal amt : Int) (w : World) (hE : EdgeRow w ea es) (hel : es.length = el) (hel2 : el ≤ 90) (hsl2 : sl ≤ 1000) (hok : ∀ e ∈ es, EdOk e) (ham : Word amt) :
    Calls Try.prog 34 #[.agg #[.slice sa sl sc, .slice ea el ec], .int .i64 src, .int .i64 goal, .int .u64 amt] w (PAllPost sl es src goal amt w) := by
  have HE := Lib.hid hE
  have HEL := Lib.hid hel
  have HOK := Lib.hid hok
  have HAM := Lib.hid ham
  have B0 : Hid (Below w.heap.size w (w.alloc (.cells #[.slice sa sl sc, .slice ea el ec] 31))) := Lib.hid ((Below.refl _ _).alloc (Nat.le_refl _) _)
  have p0 : (w.alloc (.cells #[.slice sa sl sc, .slice ea el ec] 31)).cell? ⟨w.heap.size, 0, none⟩ = some (.slice sa sl sc) := (Blk.new w 31 [.slice sa sl sc, .slice ea el ec]).cell 0
  have p1 : (w.alloc (.cells #[.slice sa sl sc, .slice ea el ec] 31)).cell? ⟨w.heap.size, 1, none⟩ = some (.slice ea el ec) := (Blk.new w 31 [.slice sa sl sc, .slice ea el ec]).cell 1
  clear hE hel hok ham
  go_enter Try.func34, Try.ntmps34
  go_wp2_with fail
  clear p0 p1
  refine (seek_any sa sl sc ea el ec es src goal amt (w.alloc (.cells #[.slice sa sl sc, .slice ea el ec] 31)) (HE.out.below B0.out) HEL.out (by omega) (by omega)).mono ?_
  rintro e V2 ⟨hB, hP⟩
  have B2 := Lib.hid (B0.out.trans (hB.mono B0.out.size))
  clear hB B0
  rcases hP with ⟨hz, rfl⟩ | ⟨hz, rfl⟩
  · unfold seekV
    have HZ := Lib.hid hz
    have HSG : Hid (¬ lastI [src] = goal) := Lib.hid (fun h => by
      have h9 := HZ.out
      unfold seekE at h9
      split at h9
      · rename_i h8; exact h8 h9
      · split at h9
        · cases h9
        · rename_i h7; exact h7 (.inr (.inr (.inl h))))
    clear hz
    have B3 : Hid (Below w.heap.size w ((V2.alloc (.cells #[.slice sa sl sc, .slice ea el ec, .int .i64 goal, .int .u64 amt] 117)).alloc (.cells #[.slice none 0 0] 78))) := Lib.hid ((B2.out.alloc B2.out.size _).alloc (by have := B2.out.size; simp; omega) _)
    have K3 : Hid (Blk ((V2.alloc (.cells #[.slice sa sl sc, .slice ea el ec, .int .i64 goal, .int .u64 amt] 117)).alloc (.cells #[.slice none 0 0] 78)) V2.heap.size 117 [.slice sa sl sc, .slice ea el ec, .int .i64 goal, .int .u64 amt]) := Lib.hid ((Blk.new V2 117 [.slice sa sl sc, .slice ea el ec, .int .i64 goal, .int .u64 amt]).alloc _)
    have W3 : Hid (Blk ((V2.alloc (.cells #[.slice sa sl sc, .slice ea el ec, .int .i64 goal, .int .u64 amt] 117)).alloc (.cells #[.slice none 0 0] 78)) (V2.heap.size + 1) 78 [.slice none 0 0]) := Lib.hid (Blk.mk_ (cs := [.slice none 0 0]) (by simp))
    have HGL0 := Lib.hid (show w.heap.size ≤ V2.heap.size + 1 by have := B2.out.size; omega)
    have HKL0 := Lib.hid (show V2.heap.size ≠ V2.heap.size + 1 by omega)
    go_upto_region 5 with fail
    generalize ((V2.alloc (.cells #[.slice sa sl sc, .slice ea el ec, .int .i64 goal, .int .u64 amt] 117)).alloc (.cells #[.slice none 0 0] 78)) = D at B3 K3 W3 ⊢
    obtain ⟨gl, hgl⟩ : ∃ g, V2.heap.size + 1 = g := ⟨_, rfl⟩
    rw [hgl] at W3 HGL0 HKL0 ⊢
    obtain ⟨gk, hgk⟩ : ∃ g, V2.heap.size = g := ⟨_, rfl⟩
    rw [hgk] at K3 HKL0 ⊢
    have BD := B3
    have KD := K3
    have VD := W3
    have HGL := HGL0
    have HKL := HKL0
    clear B3 K3 W3 hgl hgk HGL0 HKL0 B2
    have hBz : Below D.heap.size D D.drew := below_drewN (Below.refl _ _) 1
    have KX0 : Hid (Blk D.drew gk 117 [.slice sa sl sc, .slice ea el ec, .int .i64 goal, .int .u64 amt]) := Lib.hid (KD.out.below hBz KD.out.lt)
    have VX0 : Hid (Blk D.drew gl 78 [.slice none 0 0]) := Lib.hid (VD.out.below hBz VD.out.lt)
    have BX0 : Hid (Below w.heap.size w D.drew) := Lib.hid (BD.out.trans (hBz.mono BD.out.size))
    clear hBz
    refine wp_region_held_drew (S := fun w' => Blk w' gk 117 [.slice sa sl sc, .slice ea el ec, .int .i64 goal, .int .u64 amt]) (by kernel_rfl) (KX0.out) (fun hHeld => ?_)
    generalize D.drew = X0 at hHeld KX0 VX0 BX0 ⊢
    refine wpAnyH_take (i := 0) (v := .agg #[.slice sa sl sc, .slice ea el ec, .int .i64 goal, .int .u64 amt]) rfl (by kernel_rfl) (by kernel_rfl) (by kernel_rfl) (fun _ _ _ h => h) (Or.inl ⟨by rfl, by intro w' h; have k0 := Blk.cell h 0; have k1 := Blk.cell h 1; have k2 := Blk.cell h 2; have k3 := Blk.cell h 3; simp only [List.getElem?_cons_zero, List.getElem?_cons_succ] at k0 k1 k2 k3; go_simp⟩) hHeld ?_
    show wpAnyH _ _ _ _ _ _ _ (Act.put _ (some 24) _) _
    simp only [Act.put, List.setIfInBounds_toArray, List.set_cons_zero, List.set_cons_succ]
    refine wpAnyH_take (i := 1) (v := .int .i64 src) rfl (by kernel_rfl) (by kernel_rfl) (by kernel_rfl) (fun _ _ _ h => h) (Or.inl ⟨by rfl, fun w _ => by rfl⟩) hHeld ?_
    show wpAnyH _ _ _ _ _ _ _ (Act.put _ (some 25) _) _
    simp only [Act.put, List.setIfInBounds_toArray, List.set_cons_zero, List.set_cons_succ]
    refine wpAnyH_take (i := 3) (v := .func (.func 62) #[] #[.pointer (some ⟨gl, 0, none⟩)]) rfl (by kernel_rfl) (by kernel_rfl) (by kernel_rfl) (fun _ _ _ h => h) (Or.inl ⟨by rfl, by intro w' h; have hmf : ∀ (fn : Fn) (first cap : Array Value) (w : World), (Instr.makeFunc fn first cap).run Try.prog w = .ok (.func fn first cap) w := fun _ _ _ _ => rfl; go_simp; first | done | rfl | simp [hmf]⟩) hHeld ?_
    show wpAnyH _ _ _ _ _ _ _ (Act.put _ (some 27) _) _
    simp only [Act.put, List.setIfInBounds_toArray, List.set_cons_zero, List.set_cons_succ]
    refine wpAnyH_ready (rs := [2]) (by kernel_rfl) (by simp) ?_
    refine AllReadyH.cons rfl (fun K hK => ?_) AllReadyH.nil
    refine step_call rfl 61 #[.tmp 25] #[3] rfl #[.int .i64 src] (by simp [Act.eval]) (by go_simp) (setOut_any src X0) ?_
    rintro e X1 ⟨na, nc, ta, tc, rfl, hn2, hs2, hB⟩
    rw [show ([src] : List Int).length = 1 from rfl, show ([] : List Stp).length = 0 from rfl]
    rw [show ([src] : List Int).length = 1 from rfl] at hn2
    rw [show ([] : List Stp).length = 0 from rfl] at hs2
    have KX1 : Hid (Blk X1 gk 117 [.slice sa sl sc, .slice ea el ec, .int .i64 goal, .int .u64 amt]) := Lib.hid (KX0.out.below hB KX0.out.lt)
    have VX1 : Hid (Blk X1 gl 78 [.slice none 0 0]) := Lib.hid (VX0.out.below hB VX0.out.lt)
    have BX1 : Hid (Below w.heap.size w X1) := Lib.hid (BX0.out.trans (hB.mono BX0.out.size))
    have LX1 : Hid (X1.ownsRow (gl + 1) 3 1 (.slice na 1 nc) 1 (ins [src])) := Lib.hid (own_lower hn2 VX0.out.lt)
    have SX1 : Hid (X1.ownsRow (gl + 1) 44 5 (.slice ta 0 tc) 0 (sflat [])) := Lib.hid (own_lower hs2 VX0.out.lt)
    clear hn2 hs2
    clear KX0 VX0 BX0 hB
    refine ⟨_, rfl, hK.out _ _ (KX1.out) (fun hHeld => ?_)⟩
    clear hK K
    show wpAnyH _ _ _ _ _ _ _ (Act.put _ (some 26) _) _
    simp only [Act.put, List.setIfInBounds_toArray, List.set_cons_zero, List.set_cons_succ]
    refine wpAnyH_ready (rs := [4]) (by kernel_rfl) (by simp) ?_
    refine AllReadyH.cons rfl (fun K hK => ?_) AllReadyH.nil
    refine step_call rfl 60 #[.tmp 24, .tmp 26, .tmp 27] #[117, 122, 124] rfl #[.agg #[.slice sa sl sc, .slice ea el ec, .int .i64 goal, .int .u64 amt], .agg #[.slice na 1 nc, .slice ta 0 tc], .func (.func 62) #[] #[.pointer (some ⟨gl, 0, none⟩)]] (by simp [Act.eval]) (by go_simp) (each_at sa sl sc ea el ec es goal amt gl w HE.out HEL.out (by omega) (by omega) HOK.out HGL.out HAM.out 7 na 1 nc ta 0 tc [src] [] [] none 0 X1 rfl (by omega) rfl rfl rfl LX1.out SX1.out ⟨VX1.out, World.ownsRow_nil _ _ _ _, fun r hr => by simp at hr⟩ (by simp) (fun q hq => by simp at hq) (fun h => absurd h HSG.out) BX1.out) ?_
    rintro e X2 ⟨acc, b, rfl, hEE, ⟨a2, c2, hF2⟩, hK⟩
    have FX2 := Lib.hid hF2
    have KX2 := Lib.hid (hK.keep _ _ _ KX1.out (by decide) HKL.out)
    have BX2 := Lib.hid (BX1.out.trans (hK.low.mono HGL.out))
    have HEE := Lib.hid hEE
    clear KX1 VX1 BX1 LX1 SX1 hK hF2 hEE
    refine ⟨_, rfl, hK.out _ _ (KX2.out) (fun hHeld => ?_)⟩
    clear hK K
    show wpAnyH _ _ _ _ _ _ _ (Act.put _ (some 28) _) _
    simp only [Act.put, List.setIfInBounds_toArray, List.set_cons_zero, List.set_cons_succ]
    refine wpAnyH_done (by kernel_rfl) ?_ _
    clear hHeld
    have v0 : X2.cell? ⟨gl, 0, none⟩ = some (.slice a2 acc.length c2) := FX2.out.var.cell 0
    go_wp2
    go_ret2
    have h9 := HEE.out
    refine ⟨BX2.out, .inl ⟨HZ.out, acc, a2, c2, ?_, rfl, own_lower FX2.out.row (by have := HGL.out; omega), fun r hr => ?_⟩⟩
    · unfold wayL
      rw [show ([] : List Tr) = ([] : List Rt).map Rt.tr from rfl, h9]
    · obtain ⟨h1, h2, h3⟩ := FX2.out.ok r hr
      exact ⟨own_lower h1 (by have := HGL.out; omega), own_lower h2 (by have := HGL.out; omega), own_lower h3 (by have := HGL.out; omega)⟩
  · unfold seekV
    have HZ := Lib.hid hz
    obtain ⟨cd, hcd⟩ : ∃ cd, seekE sl es src goal amt = cd := ⟨_, rfl⟩
    have HCD := Lib.hid hcd
    rw [hcd] at hz ⊢
    have b0 : (cd != 0) = true := by simpa using hz
    clear hz hcd
    go_wp2
    go_ret2
    exact ⟨B2.out.alloc B2.out.size _, .inr ⟨HZ.out, by rw [HCD.out]; rfl⟩⟩
end Go.Proofs.Ytnnimjaigciedaa
namespace Go.Proofs.Ytnnimjaigciedaa
open Go.RowKit
set_option linter.unusedVariables false

def cmpE (x y : Int) : Int := if x < y then -1 else if y < x then 1 else 0
set_option maxRecDepth 100000 in
theorem nan40 (x : Int) (w : World) : Calls Try.prog 83 #[.int .u64 x] w fun e w' => e = .returned (.bool false) ∧ w = w' := by
  have b0 : (x != x) = false := by simp
  go_enter Try.func83, Try.ntmps83
  go_wp2
  go_ret
  exact ⟨by first | rfl | simp, rfl⟩
set_option maxRecDepth 100000 in
theorem nan3 (x : Int) (w : World) : Calls Try.prog 84 #[.int .i64 x] w fun e w' => e = .returned (.bool false) ∧ w = w' := by
  have b0 : (x != x) = false := by simp
  go_enter Try.func84, Try.ntmps84
  go_wp2
  go_ret
  exact ⟨by first | rfl | simp, rfl⟩
set_option maxRecDepth 100000 in
theorem cmp40 (x y : Int) (w : World) : Calls Try.prog 68 #[.int .u64 x, .int .u64 y] w fun e w' => e = .returned (.int .i64 (cmpE x y)) ∧ Below w.heap.size w w' := by
  have HN := Lib.hid nan40
  by_cases h1 : x < y
  · have HE : Hid (cmpE x y = -1) := Lib.hid (by unfold cmpE; rw [if_pos h1])
    have d1 : decide (x < y) = true := decide_eq_true h1
    go_enter Try.func68, Try.ntmps68
    go_wp2_with fail
    refine (HN.out x _).mono ?_
    rintro e Y ⟨rfl, rfl⟩
    go_wp2_with fail
    refine (HN.out y _).mono ?_
    rintro e Y ⟨rfl, rfl⟩
    go_wp2
    go_ret
    exact ⟨by rw [HE.out]; rfl, Below.refl _ _⟩
  · by_cases h2 : y < x
    · have HE : Hid (cmpE x y = 1) := Lib.hid (by unfold cmpE; rw [if_neg h1, if_pos h2])
      have d1 : decide (x < y) = false := decide_eq_false h1
      have d2 : decide (y < x) = true := decide_eq_true h2
      go_enter Try.func68, Try.ntmps68
      go_wp2_with fail
      refine (HN.out x _).mono ?_
      rintro e Y ⟨rfl, rfl⟩
      go_wp2_with fail
      refine (HN.out y _).mono ?_
      rintro e Y ⟨rfl, rfl⟩
      go_wp2
      go_ret
      exact ⟨by rw [HE.out]; rfl, Below.refl _ _⟩
    · have HE : Hid (cmpE x y = 0) := Lib.hid (by unfold cmpE; rw [if_neg h1, if_neg h2])
      have d1 : decide (x < y) = false := decide_eq_false h1
      have d2 : decide (y < x) = false := decide_eq_false h2
      go_enter Try.func68, Try.ntmps68
      go_wp2_with fail
      refine (HN.out x _).mono ?_
      rintro e Y ⟨rfl, rfl⟩
      go_wp2_with fail
      refine (HN.out y _).mono ?_
      rintro e Y ⟨rfl, rfl⟩
      go_wp2
      go_ret
      exact ⟨by rw [HE.out]; rfl, Below.refl _ _⟩
set_option maxRecDepth 100000 in
theorem cmp3 (x y : Int) (w : World) : Calls Try.prog 69 #[.int .i64 x, .int .i64 y] w fun e w' => e = .returned (.int .i64 (cmpE x y)) ∧ Below w.heap.size w w' := by
  have HN := Lib.hid nan3
  by_cases h1 : x < y
  · have HE : Hid (cmpE x y = -1) := Lib.hid (by unfold cmpE; rw [if_pos h1])
    have d1 : decide (x < y) = true := decide_eq_true h1
    go_enter Try.func69, Try.ntmps69
    go_wp2_with fail
    refine (HN.out x _).mono ?_
    rintro e Y ⟨rfl, rfl⟩
    go_wp2_with fail
    refine (HN.out y _).mono ?_
    rintro e Y ⟨rfl, rfl⟩
    go_wp2
    go_ret
    exact ⟨by rw [HE.out]; rfl, Below.refl _ _⟩
  · by_cases h2 : y < x
    · have HE : Hid (cmpE x y = 1) := Lib.hid (by unfold cmpE; rw [if_neg h1, if_pos h2])
      have d1 : decide (x < y) = false := decide_eq_false h1
      have d2 : decide (y < x) = true := decide_eq_true h2
      go_enter Try.func69, Try.ntmps69
      go_wp2_with fail
      refine (HN.out x _).mono ?_
      rintro e Y ⟨rfl, rfl⟩
      go_wp2_with fail
      refine (HN.out y _).mono ?_
      rintro e Y ⟨rfl, rfl⟩
      go_wp2
      go_ret
      exact ⟨by rw [HE.out]; rfl, Below.refl _ _⟩
    · have HE : Hid (cmpE x y = 0) := Lib.hid (by unfold cmpE; rw [if_neg h1, if_neg h2])
      have d1 : decide (x < y) = false := decide_eq_false h1
      have d2 : decide (y < x) = false := decide_eq_false h2
      go_enter Try.func69, Try.ntmps69
      go_wp2_with fail
      refine (HN.out x _).mono ?_
      rintro e Y ⟨rfl, rfl⟩
      go_wp2_with fail
      refine (HN.out y _).mono ?_
      rintro e Y ⟨rfl, rfl⟩
      go_wp2
      go_ret
      exact ⟨by rw [HE.out]; rfl, Below.refl _ _⟩
def orE (a b : Int) : Int := if a ≠ 0 then a else b
set_option maxRecDepth 100000 in
theorem or_any (g : Nat) (a b : Int) (w : World) (h : Blk w g 3 [.int .i64 a, .int .i64 b]) : Calls Try.prog 67 #[.slice (some ⟨g, 0, none⟩) 2 2] w fun e w' => e = .returned (.int .i64 (orE a b)) ∧ Below w.heap.size w w' := by
  have c0 : w.cell? ⟨g, 0, none⟩ = some (.int .i64 a) := h.cell 0
  have c1 : w.cell? ⟨g, 1, none⟩ = some (.int .i64 b) := h.cell 1
  clear h
  by_cases ha : a = 0
  · by_cases hb : b = 0
    · subst ha hb
      go_enter Try.func67, Try.ntmps67
      go_wp2
      refine wp_loop_rounds 3 ?_
      rw [rounds_succ]
      go_wp2
      rw [rounds_succ]
      go_wp2
      rw [rounds_succ]
      go_wp2
      go_ret
      exact ⟨rfl, Below.refl _ _⟩
    · have HE : Hid (orE 0 b = b) := Lib.hid rfl
      have d : (b != 0) = true := by simpa using hb
      subst ha
      go_enter Try.func67, Try.ntmps67
      go_wp2
      refine wp_loop_rounds 2 ?_
      rw [rounds_succ]
      go_wp2
      rw [rounds_succ]
      go_wp2
      go_ret
      exact ⟨by rw [HE.out]; rfl, Below.refl _ _⟩
  · have HE : Hid (orE a b = a) := Lib.hid (by unfold orE; rw [if_pos ha])
    have d : (a != 0) = true := by simpa using ha
    go_enter Try.func67, Try.ntmps67
    go_wp2
    refine wp_loop_rounds 1 ?_
    rw [rounds_succ]
    go_wp2
    go_ret
    exact ⟨by rw [HE.out]; rfl, Below.refl _ _⟩
set_option maxRecDepth 100000 in
theorem long_any (na ga aa : Option Addr) (n nc m gc k ac : Nat) (w : World) : Calls Try.prog 44 #[.agg #[.slice na n nc, .slice ga m gc, .slice aa k ac]] w fun e w' => e = .returned (.int .i64 (m : Int)) ∧ Below w.heap.size w w' := by
  have p1 : (w.alloc (.cells #[.slice na n nc, .slice ga m gc, .slice aa k ac] 89)).cell? ⟨w.heap.size, 1, none⟩ = some (.slice ga m gc) := (Blk.new w 89 [.slice na n nc, .slice ga m gc, .slice aa k ac]).cell 1
  go_enter Try.func44, Try.ntmps44
  go_wp2
  go_ret
  exact ⟨rfl, (Below.refl _ _).alloc (Nat.le_refl _) _⟩
end Go.Proofs.Ytnnimjaigciedaa
