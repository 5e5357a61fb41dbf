/-
  tollhouselaw01.OctetOnes returns true for every input: some things laid by one call are the bytes of each laid by a call of its own, and take as many bytes as they should; nothing that was there is written.
-/
import Derived.Test.YtneacogenjlhgaaRows
import Derived.Test.YtneacogenjlhgaaOnesWalk
import Derived.Test.YtneacogenjlhgaaOnesArg
import Derived.ProofKit
import Derived.OpenShut
import Derived.ShutString
import Derived.ChangeOld
namespace Go.Proofs.Ytneacogenjlhgaa.octetOnes
open Go.ChangeShapes Go.WideShapes Go.ChangeAt Go.RowKit
set_option linter.unusedVariables false
theorem own : ownKnob Try.prog.godebug = none := by kernel_rfl
theorem laidOut : laidOutB Try.prog = true := by kernel_rfl
theorem bytes5 : Try.prog.bytesOf 5 = 1 := by kernel_rfl
theorem bytes39 : Try.prog.bytesOf 39 = 4 := by kernel_rfl
theorem bytes28 : Try.prog.bytesOf 28 = 8 := by kernel_rfl
theorem bytes29 : Try.prog.bytesOf 29 = 32 := by kernel_rfl

set_option maxRecDepth 100000 in
theorem lifted (os : Os) (started : os.Started) (H : Type) (enc : TypeId × Value → H) :
    ReturnsInHanded {} Try.checked os 6 .any (Rows.octetOnesSpec.pre6 enc Try.prog Try.f6 Rows.octetOnesRow.domain false) (Rows.octetOnesSpec.post enc Try.prog Try.f6 false true false false) := by
  refine returnsInHanded_of_change_sized (C := Try.checked) own started (by kernel_rfl) Try.func6
    (ChangeSpec.witness6 (enc := enc) (C := Try.checked) false ⟨#[], #[.slice none 0 0, .slice none 0 0, .slice none 0 0, .slice none 0 0], []⟩ 8 (by kernel_rfl) (by kernel_rfl) (by kernel_rfl) (by kernel_rfl)) ?_
  intro W base args ds gs before hval0 hW hcnd hsz _
  have hval : ∀ (j : Nat) t v, Try.f6.params[j]? = some t → args[j]? = some v → Value.okWide Try.prog W .any base t v := hval0
  have hW' := hW
  obtain ⟨p, q, hA0, hV, rfl, hfz, hnd⟩ := hW
  have hA : DataW.TrodAll enc Try.prog W 0 (fun _ => true) true Try.f6.params.toList args.toList ds p := hA0
  rw [Try.params6] at hA hval
  obtain ⟨v0, vs0, d0, ds0, p0, q0, hargs, rfl, rfl, h0, r0⟩ := trodAll_cons hA
  obtain ⟨v1, vs1, d1, ds1, p1, q1, rfl, rfl, rfl, h1, r1⟩ := trodAll_cons r0
  obtain ⟨v2, vs2, d2, ds2, p2, q2, rfl, rfl, rfl, h2, r2⟩ := trodAll_cons r1
  obtain ⟨v3, vs3, d3, ds3, p3, q3, rfl, rfl, rfl, h3, r3⟩ := trodAll_cons r2
  obtain ⟨rfl, rfl, rfl⟩ := trodAll_nil r3
  obtain rfl : args = #[v0, v1, v2, v3] := by cases args; simp_all
  obtain ⟨rfl, rfl⟩ := trodVars_none hV
  obtain ⟨a0, len0, cap0, rfl⟩ := okWide_slice Try.underlying26 (hval 0 26 v0 rfl rfl)
  have k0 := h0
  have lt0 : ∀ x ∈ p0, x.block < W.heap.size := by obtain ⟨m, hm⟩ := k0; exact DataW.trod_lt m _ _ _ hm
  obtain ⟨l0, e0, s0, n0, w0, b0⟩ := openNum Try.underlying26 Try.underlying5 (by kernel_rfl) h0
  have m0 : len0 ≤ 140737488355328 := by
    rcases b0 with h | ⟨el, sp, rfl, hl⟩
    · omega
    · have this : (el.length + sp.length) * Try.prog.bytesOf 5 ≤ reachBytes := sized_slice hsz (j := 0) (t := 26) (e := 5) rfl rfl Try.underlying26
      rw [bytes5] at this
      simp only [reachBytes] at this
      omega
  obtain ⟨a1, len1, cap1, rfl⟩ := okWide_slice Try.underlying51 (hval 1 51 v1 rfl rfl)
  have k1 := h1
  have lt1 : ∀ x ∈ p1, x.block < W.heap.size := by obtain ⟨m, hm⟩ := k1; exact DataW.trod_lt m _ _ _ hm
  obtain ⟨l1, e1, s1, n1, w1, b1⟩ := openNum Try.underlying51 Try.underlying39 (by kernel_rfl) h1
  have m1 : len1 ≤ 140737488355328 := by
    rcases b1 with h | ⟨el, sp, rfl, hl⟩
    · omega
    · have this : (el.length + sp.length) * Try.prog.bytesOf 39 ≤ reachBytes := sized_slice hsz (j := 1) (t := 51) (e := 39) rfl rfl Try.underlying51
      rw [bytes39] at this
      simp only [reachBytes] at this
      omega
  obtain ⟨a2, len2, cap2, rfl⟩ := okWide_slice Try.underlying23 (hval 2 23 v2 rfl rfl)
  have k2 := h2
  have lt2 : ∀ x ∈ p2, x.block < W.heap.size := by obtain ⟨m, hm⟩ := k2; exact DataW.trod_lt m _ _ _ hm
  obtain ⟨l2, e2, s2, n2, w2, b2⟩ := openNum Try.underlying23 Try.underlying28 (by kernel_rfl) h2
  have m2 : len2 ≤ 140737488355328 := by
    rcases b2 with h | ⟨el, sp, rfl, hl⟩
    · omega
    · have this : (el.length + sp.length) * Try.prog.bytesOf 28 ≤ reachBytes := sized_slice hsz (j := 2) (t := 23) (e := 28) rfl rfl Try.underlying23
      rw [bytes28] at this
      simp only [reachBytes] at this
      omega
  obtain ⟨a3, len3, cap3, rfl⟩ := okWide_slice Try.underlying52 (hval 3 52 v3 rfl rfl)
  have k3 := h3
  have lt3 : ∀ x ∈ p3, x.block < W.heap.size := by obtain ⟨m, hm⟩ := k3; exact DataW.trod_lt m _ _ _ hm
  obtain ⟨l3, e3, s3, b3⟩ := openDigs h3
  have m3 : len3 ≤ 140737488355328 := by
    rcases b3 with h | ⟨el, sp, rfl, hl⟩
    · omega
    · have this : (el.length + sp.length) * Try.prog.bytesOf 29 ≤ reachBytes := sized_slice hsz (j := 3) (t := 52) (e := 29) rfl rfl Try.underlying52
      rw [bytes29] at this
      simp only [reachBytes] at this
      omega
  clear hA0 hval0
  refine (walk a0 a1 a2 a3 len0 len1 len2 len3 cap0 cap1 cap2 cap3 l0 l1 l2 l3 W ⟨⟨n0, s0⟩, s1, s2, s3, e0, e1, e2, e3, fun n hn => bounds_u32 (w1 n hn), fun n hn => bounds_u64 (w2 n hn), m0, m1, m2, m3⟩).mono fun e W' ⟨he, bel⟩ => ?_
  subst he
  exact ⟨_, rfl, _, _, _, [], _, [], hW', trodAll_mk1 (shut_bool Try.underlying4 _), (trodAll_cons_mk (Below.trod laidOut (by kernel_rfl) (of_decide_eq_true (by kernel_rfl)) k0 bel lt0) (trodAll_cons_mk (Below.trod laidOut (by kernel_rfl) (of_decide_eq_true (by kernel_rfl)) k1 bel lt1) (trodAll_cons_mk (Below.trod laidOut (by kernel_rfl) (of_decide_eq_true (by kernel_rfl)) k2 bel lt2) (trodAll_cons_mk (Below.trod laidOut (by kernel_rfl) (of_decide_eq_true (by kernel_rfl)) k3 bel lt3) trodAll_mk0)))), rfl, bel.frame _, fun h => by cases h⟩

theorem proved : Rows.OctetOnesSaid :=
  OpenClaim.holds_of_wide 6 Try.f6 rfl rfl rfl rfl rfl rfl rfl ⟨rfl, rfl, rfl, rfl, rfl⟩ rfl rfl rfl rfl rfl (by kernel_rfl) Try.func6 (by kernel_rfl)
    (of_decide_eq_true (by kernel_rfl)) (by unfold Func.isWrapper; first | (rw [if_pos (by decide +kernel)]; kernel_rfl) | (rw [if_neg (by decide +kernel)]; exact ⟨rfl, rfl⟩))
    (fun os started H enc _ => lifted os started H enc)
#print axioms proved

end Go.Proofs.Ytneacogenjlhgaa.octetOnes
