/-
  Trails: a clone of ways, the end, the beginning.
-/
import Derived.Test.YtnnimjaigciedaaPathB
import Derived.IntWalk
namespace Go.Proofs.Ytnnimjaigciedaa
open Go.RowKit
set_option linter.unusedVariables false

theorem StpRow.cells {w : World} {ad : Addr} {l : List Stp} (h : StpRow w (some ad) l) : ∀ j u, (sflat l)[j]? = some u → w.cell? (ad.add j) = some u := by
  have key : ∀ (l : List Stp) (j : Nat) (u : Value), (sflat l)[j]? = some u → j / 5 < l.length ∧ (scells (l.getD (j / 5) stp00))[j % 5]? = some u := by
    intro l
    induction l with
    | nil => intro j u h; simp [sflat] at h
    | cons f r ih =>
      intro j u h
      have e : sflat (f :: r) = scells f ++ sflat r := by simp [sflat]
      have hl : (scells f).length = 5 := rfl
      rw [e] at h
      by_cases hj : j < 5
      · rw [List.getElem?_append_left (by rw [hl]; exact hj)] at h
        rw [show j / 5 = 0 by omega, show j % 5 = j by omega]
        exact ⟨by simp, by simpa using h⟩
      · rw [List.getElem?_append_right (by rw [hl]; omega), hl] at h
        obtain ⟨h1, h2⟩ := ih (j - 5) u h
        rw [show j / 5 = (j - 5) / 5 + 1 by omega, show j % 5 = (j - 5) % 5 by omega]
        exact ⟨by simp; omega, by simpa using h2⟩
  intro j u hu
  obtain ⟨h1, h2⟩ := key l j u hu
  rcases h with h0 | ⟨b, off, he, _, hc⟩
  · subst h0; simp at h1
  · injection he with he
    subst he
    rw [Go.WideShapes.add_plain, ← hc (j / 5) h1 (j % 5) u h2]
    congr 2; omega
theorem sflat_all (l : List Stp) : ∀ u ∈ sflat l, u.oneCell' = true := by
  intro u hu
  obtain ⟨s, _, hs⟩ := List.mem_flatMap.1 hu
  exact scells_one s u hs

set_option maxRecDepth 100000 in
set_option maxHeartbeats 1000000 in
theorem clone33_any (a : Option Addr) (c n : Nat) (l : List Stp) (w : World) (hR : StpRow w a l) (hnil : a = none → l = [] ∧ c = 0) (hl : l.length = n) (hl2 : n ≤ 1000) :
    Calls Try.prog 86 #[.slice a n c] w (StepsPost 44 w l) := by
  have hq := fun (w : World) (a : Option Addr) (n c n' c' : Nat) => Lib.run_eql_slice_nil (P := Try.prog) w 33 44 a n c n' c' Try.underlying33
  cases a with
  | none =>
    obtain ⟨rfl, rfl⟩ := hnil rfl
    obtain rfl : n = 0 := hl.symm
    go_enter Try.func86, Try.ntmps86
    go_wp2
    go_ret
    exact ⟨_, rfl, World.ownsRow_nil _ _ _ _, Below.refl _ _⟩
  | some ad =>
    have HL := Lib.hid hl
    obtain ⟨i0, hi, hz0, hz1, hz2⟩ := info_parts step_info
    have B0 : Below w.heap.size w (w.alloc (.cells #[] 44)) := (Below.refl _ _).alloc (Nat.le_refl _) _
    have hown : (w.alloc (.cells #[] 44)).ownsRow w.heap.size 44 5 (.slice (some ⟨w.heap.size, 0, none⟩) 0 0) 0 [] := World.ownsRow_made w #[] 0 (Nat.le_refl _) (Nat.zero_le _) rfl
    obtain ⟨v, Y, hr, ho, hg, _, _⟩ := run_append_own_at (P := Try.prog) (w.alloc (.cells #[] 44)) w.heap.size 33 0 44 i0 _ 5 40 Try.underlying33 hi hz0 hz1 hz2 rfl (by decide) _ 0 [] hown ad n c (sflat l) (by rw [sflat_length, hl]) (hR.below B0).cells (sflat_all l) (by unfold maxLen; omega) (by omega) (by simp)
    have HB : Hid (Below w.heap.size w Y) := Lib.hid (B0.grown hg (by simp) (fun k hk => (hown.lt k hk).1))
    have HO : Hid (Y.ownsRow w.heap.size 44 5 v l.length (sflat l)) := Lib.hid (by rw [HL.out]; rw [Nat.zero_add, List.nil_append] at ho; exact ho)
    have HR : Hid (∀ ty, (Builtin.append_ #[33, 33] ty #[.slice (some ⟨w.heap.size, 0, none⟩) 0 0, .slice (some ad) n c]).run Try.prog (w.alloc (.cells #[] 44)) = .ok v Y) := Lib.hid (fun ty => hr)
    clear hR hnil hl hg ho hr hown B0
    go_enter Try.func86, Try.ntmps86
    go_wp2_with (at_builtin; refine wpList_append_run_ rfl (.tmp 5) (.tmp 6) 33 33 rfl v Y (fun ty => HR.out ty) ?_)
    go_ret
    exact ⟨v, rfl, HO.out, HB.out⟩

set_option maxRecDepth 100000 in
set_option maxHeartbeats 1000000 in
theorem end_any (na : Option Addr) (n nc : Nat) (ta : Option Addr) (tl tc : Nat) (l : List Int) (w : World) (hR : IRow w na l) (hl : l.length = n) (h0 : 0 < n) (hn : n ≤ 1000) :
    Calls Try.prog 70 #[.agg #[.slice na n nc, .slice ta tl tc]] w fun r w' => r = .returned (.int .i64 (l.getD (n - 1) 0)) ∧ Below w.heap.size w w' := by
  rcases hR with h | ⟨b, off, rfl, hb, hc⟩
  · rw [h] at hl; simp at hl; omega
  · have hx := hc (n - 1) (by omega)
    obtain ⟨m, rfl⟩ : ∃ m, n = m + 1 := ⟨n - 1, by omega⟩
    rw [Nat.add_sub_cancel] at hx ⊢
    obtain ⟨x, hxe⟩ : ∃ x, l.getD m 0 = x := ⟨_, rfl⟩
    rw [hxe] at hx ⊢
    clear hc hl hxe
    have e1 : ((m + 1 : Nat) : Int) - 1 = (m : Int) := by omega
    have e2 : IntKind.i64.wrap (((m + 1 : Nat) : Int) - 1) = (m : Int) := by rw [e1]; exact IntWalk.i64_in _ (by omega)
    have k0 : (0 : Int) ≤ (m : Int) := Int.natCast_nonneg _
    have k1 : (m : Int) < ((m + 1 : Nat) : Int) := by omega
    have hx2 : (w.alloc (.cells #[.slice (some ⟨b, off, none⟩) (m + 1) nc, .slice ta tl tc] 122)).cell? ⟨b, off + m, none⟩ = some (.int .i64 x) := by rw [World.cell?_alloc_lt w _ _ hb]; exact hx
    clear e1
    go_enter Try.func70, Try.ntmps70
    go_wp2
    go_ret
    exact ⟨rfl, (Below.refl _ _).alloc (Nat.le_refl _) _⟩
end Go.Proofs.Ytnnimjaigciedaa
