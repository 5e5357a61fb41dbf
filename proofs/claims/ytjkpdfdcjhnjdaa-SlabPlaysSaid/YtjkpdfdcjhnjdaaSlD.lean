/-
  A slab's calls: Fuse, Loose, Steps, Down, Read.
-/
import Derived.Test.YtjkpdfdcjhnjdaaSlC
namespace Go.Proofs.Ytjkpdfdcjhnjdaa
open Go.RowKit
set_option linter.unusedVariables false

def mx (n : Int) : Int := if n < -1 then -1 else n
def fusS (s : SS) (n : Int) : SS := if s.dn = true then s else ⟨s.l, s.k, s.st, mx n, s.dn⟩
def FusPost (base b : Nat) (v : Value) (s : SS) (n : Int) (w : World) (e : Ending) (w' : World) : Prop := e = .returned (.int .i64 (chkE s.dn)) ∧ AtS w' base b v (fusS s n) ∧ OnlyS (fun i => i = b) w w'
theorem fus_nil (v : Value) (w : World) : Calls Try.prog 16 #[.pointer none, v] w fun e w' => e = .returned (.int .i64 2) ∧ w = w' := by
  go_enter Try.func16, Try.ntmps16
  go_wp2_with fail
  refine (check_nil _).mono ?_
  rintro e w' ⟨rfl, rfl⟩
  go_wp2
  go_ret
  exact ⟨rfl, rfl⟩
set_option maxHeartbeats 2000000 in
theorem fus_any (base b : Nat) (v : Value) (s : SS) (n : Int) (w : World) (h : AtS w base b v s) (hn : n ≤ 9223372036854775807) : Calls Try.prog 16 #[.pointer (some ⟨b, 0, none⟩), .int .i64 n] w (FusPost base b v s n w) := by
  have HK := Lib.hid (check_any base b v s w h)
  have H := Lib.hid h
  have hc3 : w.cell? ⟨b, 3, none⟩ = some (.int .i64 s.fu) := h.top.cell 3
  have hf3 := h.top.frozen 3
  by_cases hd : s.dn = true
  · have HE : Hid (chkE s.dn = 5) := Lib.hid (by rw [hd]; rfl)
    have HF : Hid (fusS s n = s) := Lib.hid (by unfold fusS; rw [if_pos hd])
    clear h hd hc3
    go_enter Try.func16, Try.ntmps16
    go_wp2_with fail
    refine HK.out.mono ?_
    rintro e w1 ⟨rfl, rfl⟩
    rw [HE.out]
    go_wp2
    go_ret
    exact ⟨by rw [HE.out]; rfl, by rw [HF.out]; exact H.out, OnlyS.refl _ _⟩
  · have HE : Hid (chkE s.dn = 0) := Lib.hid (by unfold chkE; rw [if_neg hd])
    have HF : Hid (fusS s n = ⟨s.l, s.k, s.st, mx n, s.dn⟩) := Lib.hid (by unfold fusS; rw [if_neg hd])
    by_cases hm : n < -1
    · have HX : Hid (mx n = -1) := Lib.hid (if_pos hm)
      clear h hd
      go_enter Try.func16, Try.ntmps16
      go_wp2_with fail
      refine HK.out.mono ?_
      rintro e w1 ⟨rfl, rfl⟩
      rw [HE.out]
      go_wp2
      go_ret
      refine ⟨by rw [HE.out]; rfl, ?_, (OnlyS.refl (fun i => i = b) w).setCell (p := ⟨b, 3, none⟩) (.inl rfl) _⟩
      rw [HF.out, HX.out]
      exact ⟨H.out.top.set_ 3 (.int .i64 (-1)), H.out.row.onlyS ((OnlyS.refl (fun i => i = b) w).setCell (p := ⟨b, 3, none⟩) (.inl rfl) _) (fun g hg e => H.out.row.ne H.out.top (by decide) (by rw [hg, e])), H.out.kl, H.out.small, Int.le_refl _, by show (-1 : Int) ≤ _; decide⟩
    · have HX : Hid (mx n = n) := Lib.hid (if_neg hm)
      have HN := Lib.hid hn
      have HM := Lib.hid hm
      clear h hd hn
      go_enter Try.func16, Try.ntmps16
      go_wp2_with fail
      refine HK.out.mono ?_
      rintro e w1 ⟨rfl, rfl⟩
      rw [HE.out]
      go_wp2
      go_ret
      refine ⟨by rw [HE.out]; rfl, ?_, (OnlyS.refl (fun i => i = b) w).setCell (p := ⟨b, 3, none⟩) (.inl rfl) _⟩
      rw [HF.out, HX.out]
      exact ⟨H.out.top.set_ 3 (.int .i64 n), H.out.row.onlyS ((OnlyS.refl (fun i => i = b) w).setCell (p := ⟨b, 3, none⟩) (.inl rfl) _) (fun g hg e => H.out.row.ne H.out.top (by decide) (by rw [hg, e])), H.out.kl, H.out.small, by show -1 ≤ n; have := HM.out; omega, HN.out⟩

def loose (s : SS) : Nat := s.l.length - s.k
theorem loo_nil (w : World) : Calls Try.prog 18 #[.pointer none] w fun e w' => e = .returned (.int .i64 0) ∧ w = w' := by
  go_enter Try.func18, Try.ntmps18
  go_wp2
  go_ret
  exact ⟨rfl, rfl⟩
set_option maxHeartbeats 2000000 in
theorem loo_any (base b : Nat) (v : Value) (s : SS) (w : World) (h : AtS w base b v s) : Calls Try.prog 18 #[.pointer (some ⟨b, 0, none⟩)] w fun e w' => e = .returned (.int .i64 (loose s : Int)) ∧ ∃ n, w' = w.drewN n := by
  obtain ⟨A', c', hv, _⟩ := h.slice
  have hc0 : w.cell? ⟨b, 0, none⟩ = some v := h.top.cell 0
  have hc1 : w.cell? ⟨b, 1, none⟩ = some (.int .i64 s.k) := h.top.cell 1
  rw [hv] at hc0
  obtain ⟨m, hm⟩ : ∃ m, s.l.length = m := ⟨_, rfl⟩
  obtain ⟨k, hk⟩ : ∃ k, s.k = k := ⟨_, rfl⟩
  have h1 := h.kl
  have h2 := h.small
  rw [hm] at hc0 h1 h2
  rw [hk] at hc1 h1
  have HE : Hid ((loose s : Int) = (m : Int) - (k : Int)) := Lib.hid (by unfold loose; rw [hm, hk]; omega)
  clear h hv hm hk
  go_enter Try.func18, Try.ntmps18
  go_wp2_with fail
  go_quiet (fail)
  go_wp2
  go_ret
  exact ⟨by rw [HE.out]; rfl, _, rfl⟩

theorem ste_nil (w : World) : Calls Try.prog 19 #[.pointer none] w fun e w' => e = .returned (.int .i64 0) ∧ w = w' := by
  go_enter Try.func19, Try.ntmps19
  go_wp2
  go_ret
  exact ⟨rfl, rfl⟩
theorem ste_any (base b : Nat) (v : Value) (s : SS) (w : World) (h : AtS w base b v s) : Calls Try.prog 19 #[.pointer (some ⟨b, 0, none⟩)] w fun e w' => e = .returned (.int .i64 s.st) ∧ w = w' := by
  have hc2 : w.cell? ⟨b, 2, none⟩ = some (.int .i64 s.st) := h.top.cell 2
  go_enter Try.func19, Try.ntmps19
  go_wp2
  go_ret
  exact ⟨rfl, rfl⟩
theorem dow_nil (w : World) : Calls Try.prog 20 #[.pointer none] w fun e w' => e = .returned (.bool false) ∧ w = w' := by
  go_enter Try.func20, Try.ntmps20
  go_wp2
  go_ret
  exact ⟨rfl, rfl⟩
theorem dow_any (base b : Nat) (v : Value) (s : SS) (w : World) (h : AtS w base b v s) : Calls Try.prog 20 #[.pointer (some ⟨b, 0, none⟩)] w fun e w' => e = .returned (.bool s.dn) ∧ w = w' := by
  have hc4 : w.cell? ⟨b, 4, none⟩ = some (.bool s.dn) := h.top.cell 4
  go_enter Try.func20, Try.ntmps20
  go_wp2
  go_ret
  exact ⟨rfl, rfl⟩

/-- What a Read answers: a row of its own. -/
def ReadPost (l : List Int) (dn : Bool) (E : Int) (w : World) (e : Ending) (w' : World) : Prop :=
  ∃ A n c, e = .returned (.tuple #[.slice A n c, .int .i64 E]) ∧ n = (if dn = true then [] else l).length ∧ Src w' A c (if dn = true then [] else l) ∧ n ≤ c ∧ c ≤ maxLen ∧ (∀ a, A = some a → w.heap.size ≤ a.block) ∧ Below w.heap.size w w'
theorem rea_nil (w : World) : Calls Try.prog 14 #[.pointer none] w fun e w' => e = .returned (.tuple #[.slice none 0 0, .int .i64 2]) ∧ w = w' := by
  go_enter Try.func14, Try.ntmps14
  go_wp2_with fail
  refine (check_nil _).mono ?_
  rintro e w' ⟨rfl, rfl⟩
  go_wp2
  go_ret2
  exact ⟨rfl, rfl⟩
theorem src_cells {w : World} {A : Option Addr} {c : Nat} {l : List Int} (h : Src w A c l) (a : Addr) (hA : A = some a) : ∀ j u, (byt l)[j]? = some u → w.cell? (a.add j) = some u := by
  intro j u hu
  rcases h.2 with rfl | ⟨b, off, h, _, hcell⟩
  · simp [byt] at hu
  · rw [hA] at h
    injection h with h
    subst h
    have hj : j < l.length := by
      have := (List.getElem?_eq_some_iff.1 hu).1
      simpa [byt] using this
    rw [Go.WideShapes.add_plain, hcell j hj, ← hu]
    simp [byt, List.getD, hj]
theorem run_copy_src (w : World) (A : Option Addr) (c g m cd : Nat) (l : List Int) (hl : l.length = m) (hS : Src w A c l) (cur : List Value) (hg : Blk w g 5 cur) (hc : cur.length = m) :
    ∃ W, (∀ ty, (Builtin.copy_ #[27, 27] ty #[.slice (some ⟨g, 0, none⟩) m cd, .slice A m c]).run Try.prog w = .ok (goInt m) W) ∧ Blk W g 5 (byt l) ∧ w.grownBy W (some g) := by
  obtain ⟨i0, hi, hz0, hz1, hz2⟩ := info_parts byte_info
  cases A with
  | none =>
    have h0 : l = [] := by
      rcases hS.2 with h | ⟨b, off, h, _⟩
      · exact h
      · cases h
    subst h0
    simp at hl
    subst hl
    have : cur = [] := List.eq_nil_of_length_eq_zero hc
    subst this
    refine ⟨w, fun ty => ?_, hg, World.grownBy.refl w _⟩
    simp [Builtin.copy_, run_underlying Try.underlying27, Builtin.lenOf, sizeOf, typeInfo, hi, Builtin.firstCells, storeCells]
  | some ad =>
    refine ⟨_, fun ty => run_copy_all (P := Try.prog) 27 27 ty 5 i0 Try.underlying27 hi g m cd c cur hg ad (byt l) (by rw [byt_length, hl, hz1]; omega) (by rw [byt_length, hc, hl]) (src_cells hS ad rfl) (byt_one l), hg.setRow (byt l), only_setRow (only_refl _ _) _⟩
set_option maxRecDepth 100000 in
set_option maxHeartbeats 2000000 in
theorem rea_any (base b : Nat) (v : Value) (s : SS) (w : World) (h : AtS w base b v s) : Calls Try.prog 14 #[.pointer (some ⟨b, 0, none⟩)] w (ReadPost s.l s.dn (chkE s.dn) w) := by
  have HK := Lib.hid (check_any base b v s w h)
  by_cases hd : s.dn = true
  · have HE : Hid (chkE s.dn = 5) := Lib.hid (by rw [hd]; rfl)
    have HD := Lib.hid hd
    clear h hd
    go_enter Try.func14, Try.ntmps14
    go_wp2_with fail
    refine HK.out.mono ?_
    rintro e w1 ⟨rfl, rfl⟩
    rw [HE.out]
    go_wp2
    go_ret2
    refine ⟨none, 0, 0, by rw [HE.out]; rfl, ?_, ?_, Nat.le_refl _, Nat.zero_le _, by simp, Below.refl _ _⟩
    · rw [if_pos HD.out]; rfl
    · rw [if_pos HD.out]; exact ⟨fun _ => rfl, .inl rfl⟩
  · have HE : Hid (chkE s.dn = 0) := Lib.hid (by unfold chkE; rw [if_neg hd])
    have HD := Lib.hid hd
    have H := Lib.hid h
    obtain ⟨A, c', hv, hS⟩ := h.slice
    have hc0 : w.cell? ⟨b, 0, none⟩ = some v := h.top.cell 0
    rw [hv] at hc0
    obtain ⟨m, hm⟩ : ∃ m, s.l.length = m := ⟨_, rfl⟩
    have h2 := h.small
    rw [hm] at hc0 h2
    have HM := Lib.hid hm
    have HS := Lib.hid hS
    obtain ⟨i0, hi, hz0, hz1, hz2⟩ := info_parts byte_info
    clear h hd hv hm hS
    go_enter Try.func14, Try.ntmps14
    go_wp2_with fail
    refine HK.out.mono ?_
    rintro e w1 ⟨rfl, rfl⟩
    rw [HE.out]
    go_wp2_with (at_make; refine wpList_make_full _ rfl (.tmp 15) (.tmp 15) 27 rfl w.heap.size 5 i0 (.int .u8 0) 1 Try.underlying27 hi hz0 hz1 .i64 .i64 _ _ m rfl rfl ?c1 ?c2 ?c3 ?c4 ?c5 ?_)
    case c1 => rfl
    case c2 => rfl
    case c3 => rw [hz2]; omega
    case c4 => unfold maxLen; omega
    case c5 => exact Nat.le_refl _
    intro w1 hown hg
    have hlt := (World.ownsRow.lt hown w.heap.size rfl).2
    obtain ⟨cur, hcur, hcl⟩ : ∃ cur, Blk w1 w.heap.size 5 cur ∧ cur.length = m := by
      rcases hown.2 with ⟨h, _⟩ | ⟨g, cap, cur, h, _, hgb, _, _, hcs, _⟩
      · cases h
      · injection h with h1 h2 h3
        injection h1 with h1
        injection h1 with h1
        subst h1
        exact ⟨cur.toList, by unfold Blk; simpa using hgb, by rw [Array.length_toList]; omega⟩
    have hB1 : Below w.heap.size w w1 := (Below.refl _ _).grown hg (Nat.le_refl _) (by simp)
    have hc1 : w1.cell? ⟨b, 0, none⟩ = some (.slice A m c') := (hB1.cell (p := ⟨b, 0, none⟩) H.out.top.lt).trans hc0
    obtain ⟨W, hcp, hBW, hgW⟩ := run_copy_src w1 A c' w.heap.size m m s.l HM.out (HS.out.below hB1) cur hcur hcl
    have HCP := Lib.hid hcp
    have HBW := Lib.hid hBW
    have HB2 : Hid (Below w.heap.size w W) := Lib.hid (hB1.grown hgW (Nat.le_of_lt hlt) (fun q hq => by injection hq with hq; omega))
    clear hown hg hlt hcl hcur hcp hBW hgW hB1 hc0 hi hz0 hz1 hz2
    go_wp2_with fail
    rw [HCP.out 3]
    simp only [Result.andThen_ok, Oper.upon_value]
    go_wp2
    go_ret2
    refine ⟨_, _, _, by rw [HE.out]; rfl, ?_, ?_, Nat.le_refl _, by unfold maxLen; omega, by simp, HB2.out⟩
    · rw [if_neg HD.out]; exact HM.out.symm
    · rw [if_neg HD.out]
      refine ⟨fun h => (by cases h), .inr ⟨_, 0, rfl, HBW.out.lt, fun i hi => ?_⟩⟩
      rw [HBW.out.cell]
      simp [byt, List.getD, hi]
end Go.Proofs.Ytjkpdfdcjhnjdaa
