/-
  What came in: states, wishes, pairs of amounts; the example is kept.
-/
import Derived.Test.YtkiifjkcpangfaaRows
import Derived.Test.YtkiifjkcpangfaaChecked
import Derived.Test.YtkiifjkcpangfaaFlat
import Derived.Test.YtkiifjkcpangfaaPacS
namespace Go.Proofs.Ytkiifjkcpangfaa
open Go.ChangeShapes Go.WideShapes Go.ChangeAt Go.RowKit Go.Deep
set_option linter.unusedVariables false

theorem own : ownKnob Try.prog.godebug = none := by kernel_rfl
theorem laidOut : laidOutB Try.prog = true := by kernel_rfl
theorem i64_wf {x : Int} (h : (Lit.int .i64 x).wf = true) : -9223372036854775808 ≤ x ∧ x ≤ 9223372036854775807 := by
  simp [Lit.wf, IntKind.min, IntKind.max, IntKind.signed, IntKind.bits] at h
  exact ⟨by omega, by omega⟩
theorem StAt.other {w w' : World} {B g n cap g' t : Nat} {s : St} {a : Option Addr} {cs : List Value} (h : StAt w B g s a n cap) (hG : w.grownBy w' (some g')) (hne : g ≠ g') (hB : Blk w g' t cs) (ht : 60 ≠ t) : StAt w' B g s a n cap :=
  ⟨h.blk.grown hG (fun e => by injection e with e; exact hne e), h.own.kept hG (.inr (fun e => own_ne h.own hB ht e.symm)), h.ok, h.len⟩
theorem StAt.nil_ {w : World} {B g n cap : Nat} {s : St} {a : Option Addr} (h : StAt w B g s a n cap) : a = none → n = 0 ∧ cap = 0 := own_nil h.own

/-- A payment's parts, each with its place. -/
def LC : List (Nat × TypeId) := [(0, 23), (1, 3), (2, 23)] ++ ((List.range 32).map fun j => (3 + j, 5)) ++ [(35, 23)]
theorem LC_h {j : Nat} (hj : j < 32) : (3 + j, (5 : TypeId)) ∈ LC := by
  unfold LC
  simp only [List.mem_append, List.mem_map, List.mem_range]
  exact .inl (.inr ⟨j, hj, rfl⟩)
section
variable {H : Type} {enc : TypeId × Value → H} {W : World} {base : Nat} {spare : Nat → Bool} {held : Bool}
theorem cnd_parts {cs : List Value} {o : Nat} (hp : ∀ j u, (j, u) ∈ LC → PartAt enc Try.prog W base spare held cs (o + j) u) : ∃ c : Cnd, c.Ok ∧ ∀ j v, c.cells[j]? = some v → cs[o + j]? = some v := by
  obtain ⟨z0, h0, w0⟩ := (hp 0 23 (by simp [LC])).int Try.underlying23
  obtain ⟨z1, h1, w1⟩ := (hp 1 3 (by simp [LC])).int Try.underlying3
  obtain ⟨z2, h2, w2⟩ := (hp 2 23 (by simp [LC])).int Try.underlying23
  obtain ⟨z3, h3, w3⟩ := (hp 35 23 (by simp [LC])).int Try.underlying23
  have each : ∀ j, ∃ z, j < 32 → cs[o + (3 + j)]? = some (.int .u8 z) := by
    intro j
    by_cases hj : j < 32
    · obtain ⟨z, hz, _⟩ := (hp (3 + j) 5 (LC_h hj)).int Try.underlying5
      exact ⟨z, fun _ => hz⟩
    · exact ⟨0, fun h => absurd h hj⟩
  obtain ⟨f, hf⟩ := Classical.axiomOfChoice each
  refine ⟨⟨z0, z1, z2, (List.range 32).map f, z3⟩, ⟨word_wf w0, word_wf w2, by simp⟩, fun j v hv => ?_⟩
  unfold Cnd.cells at hv
  rw [List.append_assoc] at hv
  by_cases hj : j < 3
  · rw [List.getElem?_append_left (by simpa using hj)] at hv
    match j, hj, hv with
    | 0, _, hv => rw [← hv]; exact h0
    | 1, _, hv => rw [← hv]; exact h1
    | 2, _, hv => rw [← hv]; exact h2
  · rw [List.getElem?_append_right (by simp; omega)] at hv
    simp only [List.length_cons, List.length_nil] at hv
    by_cases hk : j < 35
    · rw [List.getElem?_append_left (by simp [u8s]; omega)] at hv
      have e := hf (j - 3) (by omega)
      rw [show 3 + (j - 3) = j by omega] at e
      rw [e, ← hv]
      simp [u8s, List.getElem?_range (show j - 3 < 32 by omega)]
    · rw [List.getElem?_append_right (by simp [u8s]; omega)] at hv
      simp only [u8s, List.length_map, List.length_range] at hv
      obtain hj35 | hj36 : j = 35 ∨ 35 < j := by omega
      · subst hj35; rw [← hv]; exact h3
      · rw [List.getElem?_eq_none (by simp; omega)] at hv; cases hv

theorem conds_of {a : Option Addr} {n : Nat} (h : FlatRow enc Try.prog W base spare held a 36 n LC) : ∃ l : List Cnd, l.length = n ∧ CRow W a l := by
  have each : ∀ i, ∃ q : Cnd, q.Ok ∧ (i < n → ∃ b off, a = some ⟨b, off, none⟩ ∧ b < W.heap.size ∧ ∀ j v, q.cells[j]? = some v → W.cell? ⟨b, off + i * 36 + j, none⟩ = some v) := by
    intro i
    by_cases hi : i < n
    · obtain ⟨b, off, ha, hb, cs, hc, hp⟩ := h.row hi
      obtain ⟨c, hok, hcs⟩ := cnd_parts (o := 0) (cs := cs) (fun j u hm => by rw [Nat.zero_add]; exact hp j u hm)
      exact ⟨c, hok, fun _ => ⟨b, off, ha, hb, fun j v hv => hc j v (by have := hcs j v hv; rwa [Nat.zero_add] at this)⟩⟩
    · exact ⟨cnd0, cnd0_ok, fun h => absurd h hi⟩
  obtain ⟨f, hf⟩ := Classical.axiomOfChoice each
  refine ⟨(List.range n).map f, by simp, ?_, fun e he => ?_⟩
  · rcases h.1 with h0 | ⟨b, off, ha, hb, _⟩
    · subst h0; exact .inl rfl
    · refine .inr ⟨b, off, ha, hb, fun i hi => ?_⟩
      have hi' : i < n := by simpa using hi
      obtain ⟨b', off', ha', _, h1⟩ := (hf i).2 hi'
      rw [ha] at ha'
      injection ha' with ha'
      injection ha' with e1 e2
      subst e1 e2
      simp only [List.getD, List.getElem?_map, List.getElem?_range hi', Option.map_some, Option.getD_some]
      exact h1
  · obtain ⟨i, _, rfl⟩ := List.mem_map.1 he
    exact (hf i).1

theorem flat53 : flatR Try.prog 4 53 = LC := by kernel_rfl
/-- A wish's parts. -/
def LO : List (Nat × TypeId) := [(0, 3), (1, 23)] ++ (LC.map fun q => (2 + q.1, q.2)) ++ [(38, 23)]
theorem flat55 : flatR Try.prog 4 55 = LO := by kernel_rfl
theorem LO_c {j u : Nat} (h : (j, u) ∈ LC) : (2 + j, u) ∈ LO := by
  unfold LO
  simp only [List.mem_append, List.mem_map]
  exact .inl (.inr ⟨(j, u), h, rfl⟩)
theorem op_parts {cs : List Value} (hp : ∀ j u, (j, u) ∈ LO → PartAt enc Try.prog W base spare held cs j u) : ∃ (k a : Int) (c : Cnd) (id : Int), c.Ok ∧ Word a ∧ Word id ∧ ∀ (j : Nat) (v : Value), (ocells k a c id)[j]? = some v → cs[j]? = some v := by
  obtain ⟨z0, h0, w0⟩ := (hp 0 3 (by simp [LO])).int Try.underlying3
  obtain ⟨z1, h1, w1⟩ := (hp 1 23 (by simp [LO])).int Try.underlying23
  obtain ⟨z2, h2, w2⟩ := (hp 38 23 (by simp [LO])).int Try.underlying23
  obtain ⟨c, hok, hc⟩ := cnd_parts (o := 2) (cs := cs) (fun j u hm => hp (2 + j) u (LO_c hm))
  refine ⟨z0, z1, c, z2, hok, word_wf w1, word_wf w2, fun j v hv => ?_⟩
  unfold ocells at hv
  rw [List.append_assoc] at hv
  by_cases hj : j < 2
  · rw [List.getElem?_append_left (by simpa using hj)] at hv
    match j, hj, hv with
    | 0, _, hv => rw [← hv]; exact h0
    | 1, _, hv => rw [← hv]; exact h1
  · rw [List.getElem?_append_right (by simp; omega)] at hv
    simp only [List.length_cons, List.length_nil] at hv
    by_cases hk : j < 38
    · rw [List.getElem?_append_left (by rw [hok.len]; omega)] at hv
      have e := hc (j - 2) v hv
      rwa [show 2 + (j - 2) = j by omega] at e
    · rw [List.getElem?_append_right (by rw [hok.len]; omega), hok.len] at hv
      obtain h38 | h39 : j = 38 ∨ 38 < j := by omega
      · subst h38; rw [← hv]; exact h2
      · rw [List.getElem?_eq_none (by simp; omega)] at hv; cases hv
theorem list_of {cs ds : List Value} (hl : cs.length = ds.length) (h : ∀ (j : Nat) (v : Value), ds[j]? = some v → cs[j]? = some v) : cs = ds := by
  apply List.ext_getElem?
  intro j
  by_cases hj : j < ds.length
  · rw [h j _ (List.getElem?_eq_getElem hj), List.getElem?_eq_getElem hj]
  · rw [List.getElem?_eq_none (by omega), List.getElem?_eq_none (by omega)]

set_option maxRecDepth 100000 in
theorem openOp {v : Value} {d : DataW H} {p : List MemPlace} {b0 : Nat} (hv : Value.okWide Try.prog W .any b0 55 v) (h : DataW.Trod enc Try.prog W base spare held 55 v d p) :
    ∃ (k a : Int) (c : Cnd) (id : Int), v = .agg (ocells k a c id).toArray ∧ c.Ok ∧ Word a ∧ Word id := by
  simp only [Value.okWide, Try.underlying55] at hv
  obtain ⟨cs, rfl, _⟩ := hv
  obtain ⟨fuel, hf⟩ := h
  have hcl : (Value.agg cs).cells.toList = cs.toList := rfl
  rw [hcl] at hf
  have hl : cs.toList.length = 39 := by
    obtain ⟨_, _, _, _, hl, _⟩ := DataW.trod_struct Try.underlying55 hf
    rw [hl]; kernel_rfl
  obtain ⟨k, a, c, id, hok, ha, hid, hc⟩ := op_parts (cs := cs.toList) (fun j u hm => flat_part 4 55 _ _ _ hf j u (by rw [flat55]; exact hm))
  refine ⟨k, a, c, id, ?_, hok, ha, hid⟩
  have := list_of (by rw [hl, ocells_length k a c id hok]) hc
  rw [← this]

set_option maxRecDepth 100000 in
theorem openPut {v : Value} {d : DataW H} {p : List MemPlace} {b0 : Nat} (hv : Value.okWide Try.prog W .any b0 24 v) (h : DataW.Trod enc Try.prog W base spare held 24 v d p) :
    ∃ x y, v = .agg #[.int .u64 x, .int .u64 y] ∧ Word x ∧ Word y := by
  simp only [Value.okWide, Try.underlying24] at hv
  obtain ⟨cs, rfl, _⟩ := hv
  obtain ⟨fuel, hf⟩ := h
  have hcl : (Value.agg cs).cells.toList = cs.toList := rfl
  rw [hcl] at hf
  have hm : flatR Try.prog 1 24 = [(0, 23), (1, 23)] := by kernel_rfl
  have hl : cs.toList.length = 2 := by
    obtain ⟨_, _, _, _, hl, _⟩ := DataW.trod_array Try.underlying24 hf
    rw [hl]; kernel_rfl
  obtain ⟨x, h0, w0⟩ := (flat_part 1 24 _ _ _ hf 0 23 (by rw [hm]; simp)).int Try.underlying23
  obtain ⟨y, h1, w1⟩ := (flat_part 1 24 _ _ _ hf 1 23 (by rw [hm]; simp)).int Try.underlying23
  refine ⟨x, y, ?_, word_wf w0, word_wf w1⟩
  obtain ⟨cs⟩ := cs
  match cs, hl with
  | [u, v], _ =>
    simp at h0 h1
    rw [h0, h1]

set_option maxRecDepth 100000 in
/-- A state that came in. -/
theorem openState {v : Value} {d : DataW H} {p : List MemPlace} {b0 : Nat} (hv : Value.okWide Try.prog W .any b0 27 v) (h : DataW.Trod enc Try.prog W base spare held 27 v d p) :
    ∃ (s : St) (a : Option Addr) (n cap : Nat), v = .agg #[.int .u32 s.ch, .int .u64 s.rd, .int .u64 s.m0, .int .u64 s.m1, .int .u64 s.t0, .int .u64 s.t1, .slice a n cap] ∧ CRow W a s.cs ∧ s.cs.length = n ∧ s.Ok ∧ n ≤ maxLen := by
  simp only [Value.okWide, Try.underlying27] at hv
  obtain ⟨cs, rfl, _⟩ := hv
  obtain ⟨fuel, hf⟩ := h
  have hcl : (Value.agg cs).cells.toList = cs.toList := rfl
  rw [hcl] at hf
  have hm : flatR Try.prog 2 27 = [(0, 22), (1, 23), (2, 23), (3, 23), (4, 23), (5, 23), (6, 25)] := by kernel_rfl
  have hl : cs.toList.length = 7 := by
    obtain ⟨_, _, _, _, hl, _⟩ := DataW.trod_struct Try.underlying27 hf
    rw [hl]; kernel_rfl
  obtain ⟨z0, h0, w0⟩ := (flat_part 2 27 _ _ _ hf 0 22 (by rw [hm]; simp)).int Try.underlying22
  obtain ⟨z1, h1, w1⟩ := (flat_part 2 27 _ _ _ hf 1 23 (by rw [hm]; simp)).int Try.underlying23
  obtain ⟨z2, h2, w2⟩ := (flat_part 2 27 _ _ _ hf 2 23 (by rw [hm]; simp)).int Try.underlying23
  obtain ⟨z3, h3, w3⟩ := (flat_part 2 27 _ _ _ hf 3 23 (by rw [hm]; simp)).int Try.underlying23
  obtain ⟨z4, h4, w4⟩ := (flat_part 2 27 _ _ _ hf 4 23 (by rw [hm]; simp)).int Try.underlying23
  obtain ⟨z5, h5, w5⟩ := (flat_part 2 27 _ _ _ hf 5 23 (by rw [hm]; simp)).int Try.underlying23
  obtain ⟨a, n, cap, h6, d0, p0, t0⟩ := (flat_part 2 27 _ _ _ hf 6 25 (by rw [hm]; simp)).slice Try.underlying25
  have f0 := open_flat 4 36 LC Try.underlying25 (by kernel_rfl) (by decide) flat53 ⟨23, .u64, by simp [LC], Try.underlying23⟩ t0
  obtain ⟨l, hll, hC⟩ := conds_of f0
  refine ⟨⟨z0, z1, z2, z3, z4, z5, l⟩, a, n, cap, ?_, hC, hll, ⟨word_wf w1, word_wf w2, word_wf w3, word_wf w4, word_wf w5⟩, f0.2.1⟩
  obtain ⟨cs⟩ := cs
  match cs, hl with
  | [u0, u1, u2, u3, u4, u5, u6], _ =>
    simp at h0 h1 h2 h3 h4 h5 h6
    rw [h0, h1, h2, h3, h4, h5, h6]
end

theorem built62z (k a : Int) (W : World) : (Instr.build 62 #[(0, .int .i64 k), (1, .int .u64 a)]).run Try.prog W = .ok (.agg (ocells k a cnd0 0).toArray) W := by kernel_rfl
theorem built24 (x y : Int) (W : World) : (Instr.build 24 #[(0, .int .u64 x), (1, .int .u64 y)]).run Try.prog W = .ok (.agg #[.int .u64 x, .int .u64 y]) W := by kernel_rfl
theorem ex_S : nextS (⟨3, 0, 0, 0, 0, 0, []⟩ : St) 10 0 0 1 4 cnd0 0 = (⟨3, 1, 4, 0, 0, 0, []⟩ : St) := by decide
theorem ex_E : nextE (⟨3, 0, 0, 0, 0, 0, []⟩ : St) 10 0 0 1 4 cnd0 0 = 0 := by decide
theorem w10 : Word 10 := ⟨by decide, by decide⟩
theorem w0_ : Word 0 := ⟨by decide, by decide⟩
theorem s0_ok : St.Ok (⟨3, 0, 0, 0, 0, 0, []⟩ : St) := ⟨⟨by decide, by decide⟩, ⟨by decide, by decide⟩, ⟨by decide, by decide⟩, ⟨by decide, by decide⟩, ⟨by decide, by decide⟩⟩
theorem s1_ok : St.Ok (⟨3, 1, 4, 0, 0, 0, []⟩ : St) := ⟨⟨by decide, by decide⟩, ⟨by decide, by decide⟩, ⟨by decide, by decide⟩, ⟨by decide, by decide⟩, ⟨by decide, by decide⟩⟩

set_option maxRecDepth 100000 in
set_option maxHeartbeats 4000000 in
theorem awake_any (w : World) : Calls Try.prog 9 #[] w fun e w' => e = .returned (.bool true) ∧ Below w.heap.size w w' := by
  have b62 := fun W => built62z 1 4 W
  have b24 := fun W => built24 10 0 W
  go_enter Try.func9, Try.ntmps9
  go_wp2_with fail
  refine (new_any 3 w).mono ?_
  rintro e Y1 ⟨rfl, hB⟩
  have B1 : Hid (Below w.heap.size w Y1) := Lib.hid hB
  clear hB
  go_wp2_with fail
  refine (next_any 0 0 (⟨3, 0, 0, 0, 0, 0, []⟩ : St) none 10 0 0 1 4 0 cnd0 Y1 (CRow.nil _ _) (fun _ => ⟨rfl, rfl⟩) rfl (by decide) cnd0_ok ⟨by decide, by decide⟩ w10 w0_ s0_ok).mono ?_
  rw [ex_S, ex_E]
  rintro e Y2 ⟨a, n, cap, rfl, hown, hlen, hB⟩
  have HL : Hid (([] : List Cnd).length = n) := Lib.hid hlen
  have B2 := Lib.hid (B1.out.trans (hB.mono B1.out.size))
  clear hB hlen hown B1 b62
  have HLA := heap_alloc_last Y2 (.cells #[.int .u32 0, .int .u64 0, .int .u64 0, .int .u64 0, .int .u64 0, .int .u64 0, .slice none 0 0] 31)
  have hz1 : (Try.prog.info? 31).map (·.size) = some (#[.int .u32 3, .int .u64 1, .int .u64 4, .int .u64 0, .int .u64 0, .int .u64 0, .slice a n cap] : Array Value).size := info31
  go_upto_region 2 with (first | (refine wpList_store_row rfl 31 (.tmp 1) (.tmp 12) rfl Y2.heap.size #[.int .u32 3, .int .u64 1, .int .u64 4, .int .u64 0, .int .u64 0, .int .u64 0, .slice a n cap] rfl rfl 31 _ HLA hz1 rfl rfl ?_; rw [World.setRow_alloc_new]))
  clear HLA hz1
  have B3 : Hid (Below w.heap.size w (Y2.alloc (.cells #[.int .u32 3, .int .u64 1, .int .u64 4, .int .u64 0, .int .u64 0, .int .u64 0, .slice a n cap] 31))) := Lib.hid (B2.out.alloc B2.out.size _)
  have S3 : Hid (Blk (Y2.alloc (.cells #[.int .u32 3, .int .u64 1, .int .u64 4, .int .u64 0, .int .u64 0, .int .u64 0, .slice a n cap] 31)) Y2.heap.size 31 [.int .u32 3, .int .u64 1, .int .u64 4, .int .u64 0, .int .u64 0, .int .u64 0, .slice a n cap]) := Lib.hid (Blk.new _ _ _)
  clear B2
  generalize Y2.alloc (.cells #[.int .u32 3, .int .u64 1, .int .u64 4, .int .u64 0, .int .u64 0, .int .u64 0, .slice a n cap] 31) = Y3 at B3 S3 ⊢
  generalize Y2.heap.size = g at S3 ⊢
  have k0 := S3.out.cell 0
  have k1 := S3.out.cell 1
  have k2 := S3.out.cell 2
  have k3 := S3.out.cell 3
  have k4 := S3.out.cell 4
  have k5 := S3.out.cell 5
  have k6 := S3.out.cell 6
  simp only [List.getElem?_cons_zero, List.getElem?_cons_succ] at k0 k1 k2 k3 k4 k5 k6
  go_wp2_with fail
  clear k0 k1 k2 k3 k4 k5 k6
  refine (free_any 3 1 4 0 0 0 a n cap [] 10 0 0 Y3 (CRow.nil _ _) HL.out (by rw [← HL.out]; decide) w10 w0_ s1_ok).mono ?_
  rintro e Y4 ⟨rfl, hB⟩
  rw [show freeF (⟨3, 1, 4, 0, 0, 0, []⟩ : St) 10 0 0 = (6, 0) by decide]
  have B4 := Lib.hid (B3.out.trans (hB.mono B3.out.size))
  have S4 := Lib.hid (S3.out.below hB S3.out.lt)
  clear hB B3 S3
  have k0 := S4.out.cell 0
  have k1 := S4.out.cell 1
  have k2 := S4.out.cell 2
  have k3 := S4.out.cell 3
  have k4 := S4.out.cell 4
  have k5 := S4.out.cell 5
  have k6 := S4.out.cell 6
  simp only [List.getElem?_cons_zero, List.getElem?_cons_succ] at k0 k1 k2 k3 k4 k5 k6
  go_wp2_with fail
  clear k0 k1 k2 k3 k4 k5 k6
  refine (free_any 3 1 4 0 0 0 a n cap [] 10 0 1 Y4 (CRow.nil _ _) HL.out (by rw [← HL.out]; decide) w10 w0_ s1_ok).mono ?_
  rintro e Y5 ⟨rfl, hB⟩
  rw [show freeF (⟨3, 1, 4, 0, 0, 0, []⟩ : St) 10 0 1 = (4, 0) by decide]
  have B5 := Lib.hid (B4.out.trans (hB.mono B4.out.size))
  have S5 := Lib.hid (S4.out.below hB S4.out.lt)
  clear hB B4 S4
  have k0 := S5.out.cell 0
  have k1 := S5.out.cell 1
  have k2 := S5.out.cell 2
  have k3 := S5.out.cell 3
  have k4 := S5.out.cell 4
  have k5 := S5.out.cell 5
  have k6 := S5.out.cell 6
  simp only [List.getElem?_cons_zero, List.getElem?_cons_succ] at k0 k1 k2 k3 k4 k5 k6
  go_wp2
  go_ret
  exact ⟨rfl, B5.out⟩
end Go.Proofs.Ytkiifjkcpangfaa
