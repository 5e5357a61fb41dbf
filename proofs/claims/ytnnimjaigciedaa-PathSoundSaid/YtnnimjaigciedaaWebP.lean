/-
  What is sent there and back: plain lists and numbers.
-/
import Derived.Test.YtnnimjaigciedaaM02
namespace Go.Proofs.Ytnnimjaigciedaa
set_option linter.unusedVariables false

theorem sentErr_ok {sl : Nat} {es : List Ed} {edge node amt : Int} (h : sentErr sl es edge node amt = 0) :
    checkE sl es = 0 ∧ ∃ k : Nat, edge = k ∧ k < es.length ∧ (sideE (es.getD k ed0) node = 0 ∨ sideE (es.getD k ed0) node = 1) ∧ amt ≤ canE (es.getD k ed0) (sideE (es.getD k ed0) node) ∧ canE (es.getD k ed0) (1 - sideE (es.getD k ed0) node) + amt < 18446744073709551616 := by
  unfold sentErr at h
  split at h
  · rename_i h1; exact absurd h h1
  · rename_i h1
    split at h
    · cases h
    · rename_i h2
      split at h
      · cases h
      · rename_i h3
        split at h
        · cases h
        · rename_i h4
          refine ⟨Classical.not_not.1 h1, edge.toNat, by omega, by omega, ?_, ?_, ?_⟩
          · rcases sideE_cases (es.getD edge.toNat ed0) node with h5 | h5 | h5
            · rw [h5] at h3; exact absurd (by omega) h3
            · exact .inl h5
            · exact .inr h5
          · unfold subE at h4
            split at h4
            · exact absurd (by decide) h4
            · omega
          · unfold addE at h
            split at h
            · assumption
            · cases h

theorem good_of {sl : Nat} {es : List Ed} (h : checkE sl es = 0) : AllGood sl es ∧ sl ≤ 8 ∧ es.length ≤ 16 := by
  unfold checkE at h
  split at h
  · cases h
  · split at h
    · exact ⟨by assumption, by omega, by omega⟩
    · cases h
theorem ed_mem (es : List Ed) (k : Nat) (hk : k < es.length) : es.getD k ed0 ∈ es := by
  rw [show es.getD k ed0 = es[k] by simp [List.getD, hk]]
  exact List.getElem_mem hk

/-- The other end. -/
def endE (e : Ed) (s : Int) : Int := if s = 0 then e.p else e.q

theorem sentEd_ends (e : Ed) (s amt : Int) : (sentEd e s amt).p = e.p ∧ (sentEd e s amt).q = e.q := by unfold sentEd; split <;> exact ⟨rfl, rfl⟩

theorem check_set {sl : Nat} {es : List Ed} {k : Nat} {e : Ed} (hk : k < es.length) (hp : e.p = (es.getD k ed0).p) (hq : e.q = (es.getD k ed0).q) (h : checkE sl es = 0) : checkE sl (es.set k e) = 0 := by
  obtain ⟨h1, h2, h3⟩ := good_of h
  unfold checkE
  rw [List.length_set, if_neg (by omega), if_pos]
  intro x hx
  rcases List.mem_or_eq_of_mem_set hx with hx | rfl
  · exact h1 x hx
  · have := h1 _ (ed_mem es k hk)
    unfold EdGood at *
    rw [hp, hq]; exact this

theorem sent_back {sl : Nat} {es : List Ed} {node amt : Int} {k : Nat} (h : sentErr sl es k node amt = 0) (hok : ∀ e ∈ es, EdOk e) (hamt : Word amt) :
    sentErr sl (sentL es k node amt) k (endE (es.getD k ed0) (1 - sideE (es.getD k ed0) node)) amt = 0 ∧
    sentL (sentL es k node amt) k (endE (es.getD k ed0) (1 - sideE (es.getD k ed0) node)) amt = es := by
  obtain ⟨hc, k', hk', hk, hs, ha, hb⟩ := sentErr_ok h
  obtain rfl : k' = k := by omega
  obtain ⟨hg, _, _⟩ := good_of hc
  have hgk := hg _ (ed_mem es k' hk)
  have hok' := hok _ (ed_mem es k' hk)
  have hL : sentL es k' node amt = es.set k' (sentEd (es.getD k' ed0) (sideE (es.getD k' ed0) node) amt) := by unfold sentL; rw [Int.toNat_natCast]
  rw [hL]
  generalize hx : es.getD k' ed0 = x at *
  have hx' : es[k'] = x := by rw [← hx]; simp [List.getD, hk]
  obtain ⟨p, q, c, d, f, g, h', i⟩ := x
  have hget : ∀ y, (es.set k' y).getD k' ed0 = y := fun y => by simp [List.getD, hk]
  have hset : es.set k' ⟨p, q, c, d, f, g, h', i⟩ = es := by rw [← hx']; exact List.set_getElem_self hk
  have hne : p ≠ q := hgk.2.2
  rcases hs with hs | hs
  · rw [hs] at ha hb ⊢
    have e1 : sideE (sentEd ⟨p, q, c, d, f, g, h', i⟩ 0 amt) (endE ⟨p, q, c, d, f, g, h', i⟩ (1 - 0)) = 1 := by simp [sideE, sentEd, endE, hne]
    have hcs : checkE sl (es.set k' (sentEd ⟨p, q, c, d, f, g, h', i⟩ 0 amt)) = 0 := check_set hk (by rw [hx]; rfl) (by rw [hx]; rfl) hc
    constructor
    · unfold sentErr
      rw [if_neg (by rw [hcs]; simp), List.length_set, if_neg (by omega), Int.toNat_natCast, hget, e1, if_neg (by omega)]
      simp [canE, sentEd, subE, addE] at ha hb ⊢
      unfold EdOk Word at *
      simp at hok'
      omega
    · unfold sentL
      rw [Int.toNat_natCast, hget, e1, List.set_set]
      rw [show sentEd (sentEd ⟨p, q, c, d, f, g, h', i⟩ 0 amt) 1 amt = ⟨p, q, c, d, f, g, h', i⟩ by simp [sentEd]]
      exact hset
  · rw [hs] at ha hb ⊢
    have e1 : sideE (sentEd ⟨p, q, c, d, f, g, h', i⟩ 1 amt) (endE ⟨p, q, c, d, f, g, h', i⟩ (1 - 1)) = 0 := by simp [sideE, sentEd, endE]
    have hcs : checkE sl (es.set k' (sentEd ⟨p, q, c, d, f, g, h', i⟩ 1 amt)) = 0 := check_set hk (by rw [hx]; rfl) (by rw [hx]; rfl) hc
    constructor
    · unfold sentErr
      rw [if_neg (by rw [hcs]; simp), List.length_set, if_neg (by omega), Int.toNat_natCast, hget, e1, if_neg (by omega)]
      simp [canE, sentEd, subE, addE] at ha hb ⊢
      unfold EdOk Word at *
      simp at hok'
      omega
    · unfold sentL
      rw [Int.toNat_natCast, hget, e1, List.set_set]
      rw [show sentEd (sentEd ⟨p, q, c, d, f, g, h', i⟩ 1 amt) 0 amt = ⟨p, q, c, d, f, g, h', i⟩ by simp [sentEd]]
      exact hset

theorem sum3 (s c d : Int) (hs : Word s) (hc : Word c) (hd : Word d) : sumE [s, c, d] = (if s + c + d < 18446744073709551616 then 0 else 11) ∧ (s + c + d < 18446744073709551616 → sumV [s, c, d] = s + c + d) := by
  unfold Word at *
  unfold sumE sumV sumGo
  have a0 : addE 0 s = 0 := if_pos (by omega)
  have v0 : addV 0 s = s := by unfold addV; rw [if_pos (by omega)]; omega
  rw [if_pos a0, v0]
  unfold sumGo
  by_cases h1 : s + c < 18446744073709551616
  · have a1 : addE s c = 0 := if_pos h1
    have v1 : addV s c = s + c := if_pos h1
    rw [if_pos a1, v1]
    unfold sumGo
    by_cases h2 : s + c + d < 18446744073709551616
    · have a2 : addE (s + c) d = 0 := if_pos h2
      have v2 : addV (s + c) d = s + c + d := if_pos h2
      rw [if_pos a2, v2, if_pos h2]
      exact ⟨rfl, fun _ => rfl⟩
    · have a2 : ¬ addE (s + c) d = 0 := by unfold addE; rw [if_neg h2]; decide
      rw [if_neg a2, if_neg h2]
      exact ⟨rfl, fun h => absurd h h2⟩
  · have a1 : ¬ addE s c = 0 := by unfold addE; rw [if_neg h1]; decide
    rw [if_neg a1, if_neg (by omega)]
    exact ⟨rfl, fun h => by omega⟩

theorem allGo_set (es : List Ed) (hok : ∀ e ∈ es, EdOk e) (e' : Ed) (hok' : EdOk e') : ∀ k, k < es.length → e'.c + e'.d = (es.getD k ed0).c + (es.getD k ed0).d → ∀ s, Word s → allGo s (es.set k e') = allGo s es := by
  induction es with
  | nil => intro k hk; simp at hk
  | cons a r ih =>
    intro k hk he s hs
    have ha := hok a (by simp)
    have word_sum : ∀ (x : Ed), EdOk x → sumE [s, x.c, x.d] = 0 → Word (sumV [s, x.c, x.d]) := by
      intro x hx h0
      obtain ⟨h1, h2⟩ := sum3 s x.c x.d hs hx.2.2.1 hx.2.2.2.1
      rw [h1] at h0
      split at h0
      · rename_i h3
        rw [h2 h3]
        have := hx.2.2.1; have := hx.2.2.2.1
        unfold Word at *; omega
      · cases h0
    match k, hk with
    | 0, _ =>
      simp only [List.set_cons_zero, List.getD_cons_zero] at he ⊢
      unfold allGo
      obtain ⟨h1, h2⟩ := sum3 s e'.c e'.d hs hok'.2.2.1 hok'.2.2.2.1
      obtain ⟨h3, h4⟩ := sum3 s a.c a.d hs ha.2.2.1 ha.2.2.2.1
      have hee : s + e'.c + e'.d = s + a.c + a.d := by omega
      rw [h1, h3, hee]
      by_cases h5 : s + a.c + a.d < 18446744073709551616
      · rw [if_pos h5, if_pos rfl, if_pos rfl, h4 h5, h2 (by omega), hee]
      · rw [if_neg h5, if_neg (by decide), if_neg (by decide)]
    | k + 1, hk =>
      simp only [List.set_cons_succ, List.getD_cons_succ] at he ⊢
      unfold allGo
      by_cases h0 : sumE [s, a.c, a.d] = 0
      · rw [if_pos h0, if_pos h0]
        exact ih (fun e he => hok e (by simp [he])) k (by simpa using hk) he _ (word_sum a ha h0)
      · rw [if_neg h0, if_neg h0]

theorem sent_ok {sl : Nat} {es : List Ed} {node amt : Int} {k : Nat} (h : sentErr sl es k node amt = 0) (hok : ∀ e ∈ es, EdOk e) (hamt : Word amt) : (∀ e ∈ sentL es k node amt, EdOk e) ∧ (sentL es k node amt).length = es.length ∧ allV (sentL es k node amt) = allV es ∧ allE (sentL es k node amt) = allE es := by
  obtain ⟨hc, k', hk', hk, hs, ha, hb⟩ := sentErr_ok h
  obtain rfl : k' = k := by omega
  have hok' := hok _ (ed_mem es k' hk)
  have hL : sentL es k' node amt = es.set k' (sentEd (es.getD k' ed0) (sideE (es.getD k' ed0) node) amt) := by unfold sentL; rw [Int.toNat_natCast]
  rw [hL]
  have hnew : EdOk (sentEd (es.getD k' ed0) (sideE (es.getD k' ed0) node) amt) ∧ (sentEd (es.getD k' ed0) (sideE (es.getD k' ed0) node) amt).c + (sentEd (es.getD k' ed0) (sideE (es.getD k' ed0) node) amt).d = (es.getD k' ed0).c + (es.getD k' ed0).d := by
    rcases hs with hs | hs
    · rw [hs] at ha hb ⊢
      simp [canE, sentEd, EdOk] at ha hb hok' ⊢
      unfold Word at *
      refine ⟨?_, by omega⟩
      refine ⟨hok'.1, hok'.2.1, by omega, by omega, hok'.2.2.2.2⟩
    · rw [hs] at ha hb ⊢
      simp [canE, sentEd, EdOk] at ha hb hok' ⊢
      unfold Word at *
      refine ⟨?_, by omega⟩
      refine ⟨hok'.1, hok'.2.1, by omega, by omega, hok'.2.2.2.2⟩
  have hgo := allGo_set es hok _ hnew.1 k' hk hnew.2 0 ⟨by decide, by decide⟩
  refine ⟨fun e he => ?_, List.length_set, by unfold allV; rw [hgo], by unfold allE; rw [hgo]⟩
  rcases List.mem_or_eq_of_mem_set he with he | rfl
  · exact hok e he
  · exact hnew.1
end Go.Proofs.Ytnnimjaigciedaa
