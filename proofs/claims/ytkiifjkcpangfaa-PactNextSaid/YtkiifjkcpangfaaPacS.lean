/-
  The state of the next round.
-/
import Derived.Test.YtkiifjkcpangfaaPacR
namespace Go.Proofs.Ytkiifjkcpangfaa
open Go.RowKit
set_option linter.unusedVariables false

def St.nxt (s : St) : St := ⟨s.ch, s.rd + 1, s.m0, s.m1, s.t0, s.t1, s.cs⟩
def nextE (s : St) (p0 p1 side k amt : Int) (c : Cnd) (id : Int) : Int :=
  if soundE s p0 p1 ≠ 0 then soundE s p0 p1 else if s.rd = 200 then 8 else if side ≠ turnF (s.rd + 1) then 26
  else if doE s.nxt p0 p1 side k amt c id ≠ 0 then doE s.nxt p0 p1 side k amt c id else soundE (doS s.nxt side k amt c id) p0 p1
def nextS (s : St) (p0 p1 side k amt : Int) (c : Cnd) (id : Int) : St := if nextE s p0 p1 side k amt c id = 0 then doS s.nxt side k amt c id else st0
theorem soundGo_sides (all : List Cnd) : ∀ (cs : List Cnd) (k : Nat), soundGo all k cs = 0 → ∀ c ∈ cs, (c.side = 0 ∨ c.side = 1) ∧ c.amt ≠ 0
  | [], _, _ => by simp
  | c :: r, k, h => by
    rw [soundGo] at h
    split at h
    · cases h
    · rename_i h1
      split at h
      · cases h
      · intro d hd
        rcases List.mem_cons.1 hd with rfl | hd
        · exact ⟨by omega, by omega⟩
        · exact soundGo_sides all r _ h d hd
theorem sound_parts {s : St} {p0 p1 : Int} (h : soundE s p0 p1 = 0) : s.rd ≤ 200 ∧ s.cs.length ≤ 8 ∧ soundGo s.cs 0 s.cs = 0 ∧ (freeF s p0 p1 0).2 = 0 ∧ (freeF s p0 p1 1).2 = 0 := by
  unfold soundE at h
  split at h
  · cases h
  · rename_i h1
    split at h
    · rename_i h2; exact absurd h h2
    · rename_i h2
      split at h
      · rename_i h3; exact absurd h h3
      · rename_i h3
        exact ⟨by omega, by omega, by simpa using h2, by simpa using h3, h⟩
theorem sound_sides {s : St} {p0 p1 : Int} (h : soundE s p0 p1 = 0) : ∀ c ∈ s.cs, c.side = 0 ∨ c.side = 1 := fun c hc => (soundGo_sides s.cs s.cs 0 (sound_parts h).2.2.1 c hc).1
theorem turnF_side (r : Int) : turnF r = 0 ∨ turnF r = 1 := by unfold turnF; omega
theorem spR_zero {e v amt : Int} (h : spR e v amt = 0) : e = 0 ∧ v + amt < 18446744073709551616 := by
  unfold spR at h
  split at h
  · rename_i h1; exact absurd h h1
  · rename_i h1
    split at h
    · cases h
    · exact ⟨by simpa using h1, by omega⟩
theorem St.Ok.pay {s : St} (h : s.Ok) {side amt : Int} (ha : Word amt) (h1 : s.mv side + amt < 18446744073709551616) : (s.pay side amt).Ok := by
  unfold St.pay St.mv at *
  have := h.m0; have := h.m1
  split at h1
  · rw [if_pos (by assumption)]; exact ⟨h.rd, ⟨by have := h.m0.1; have := ha.1; show 0 ≤ s.m0 + amt; omega, by show s.m0 + amt ≤ _; omega⟩, h.m1, h.t0, h.t1⟩
  · rw [if_neg (by assumption)]; exact ⟨h.rd, h.m0, ⟨by have := h.m1.1; have := ha.1; show 0 ≤ s.m1 + amt; omega, by show s.m1 + amt ≤ _; omega⟩, h.t0, h.t1⟩
theorem St.Ok.tak {s : St} (h : s.Ok) {side amt : Int} (ha : Word amt) (h1 : s.tk side + amt < 18446744073709551616) : (s.tak side amt).Ok := by
  unfold St.tak St.tk at *
  split at h1
  · rw [if_pos (by assumption)]; exact ⟨h.rd, h.m0, h.m1, ⟨by have := h.t0.1; have := ha.1; show 0 ≤ s.t0 + amt; omega, by show s.t0 + amt ≤ _; omega⟩, h.t1⟩
  · rw [if_neg (by assumption)]; exact ⟨h.rd, h.m0, h.m1, h.t0, ⟨by have := h.t1.1; have := ha.1; show 0 ≤ s.t1 + amt; omega, by show s.t1 + amt ≤ _; omega⟩⟩
theorem St.at_ok {s : St} (h : ∀ c ∈ s.cs, c.Ok) (id : Int) : (s.at_ id).Ok := by
  unfold St.at_
  by_cases hj : (findV id s.cs).toNat < s.cs.length
  · exact h _ (getD_mem hj)
  · rw [show s.cs.getD (findV id s.cs).toNat cnd0 = cnd0 by simp [List.getD, Nat.le_of_not_lt hj]]
    exact cnd0_ok
theorem doS_ok {s : St} (h : s.Ok) (hc : ∀ c ∈ s.cs, c.Ok) {p0 p1 side k amt : Int} {c : Cnd} {id : Int} (hamt : Word amt) (hE : doE s p0 p1 side k amt c id = 0) : (doS s side k amt c id).Ok := by
  unfold doE at hE
  unfold doS
  by_cases h0 : k = 0
  · simp [h0]; exact h
  by_cases h1 : k = 1
  · simp [h1] at hE ⊢; exact h.pay hamt (spR_zero hE).2
  by_cases h2 : k = 2
  · simp [h2]; exact ⟨h.rd, h.m0, h.m1, h.t0, h.t1⟩
  by_cases h3 : k = 3
  · simp [h3] at hE ⊢
    split at hE
    · cases hE
    · have h4 := (spR_zero hE).2
      exact St.Ok.pay (s := s.less id) ⟨h.rd, h.m0, h.m1, h.t0, h.t1⟩ (St.at_ok hc id).amt h4
  by_cases h4 : k = 4
  · simp [h4]; exact ⟨h.rd, h.m0, h.m1, h.t0, h.t1⟩
  by_cases h5 : k = 5
  · simp [h5] at hE ⊢; exact h.tak hamt (spR_zero hE).2
  · simp [h0, h1, h2, h3, h4, h5] at hE
theorem pay_cs (s : St) (side amt : Int) : (s.pay side amt).cs = s.cs := by unfold St.pay; split <;> rfl
theorem tak_cs (s : St) (side amt : Int) : (s.tak side amt).cs = s.cs := by unfold St.tak; split <;> rfl
theorem doS_len (s : St) (side k amt : Int) (c : Cnd) (id : Int) : (doS s side k amt c id).cs.length ≤ s.cs.length + 1 := by
  unfold doS
  split
  · rw [pay_cs]; omega
  split
  · show (s.cs ++ [c]).length ≤ _; simp
  split
  · rw [pay_cs]; show (s.cs.eraseIdx _).length ≤ _; have := List.length_eraseIdx_le s.cs (findV id s.cs).toNat; omega
  split
  · show (s.cs.eraseIdx _).length ≤ _; have := List.length_eraseIdx_le s.cs (findV id s.cs).toNat; omega
  split
  · rw [tak_cs]; omega
  · omega
theorem doS_cok (s : St) (hs : ∀ c ∈ s.cs, c.Ok) (side k amt : Int) (c : Cnd) (hc : c.Ok) (id : Int) : ∀ d ∈ (doS s side k amt c id).cs, d.Ok := by
  unfold doS
  split
  · rw [pay_cs]; exact hs
  split
  · intro d hd
    rcases List.mem_append.1 (show d ∈ s.cs ++ [c] from hd) with h | h
    · exact hs d h
    · simp at h; rw [h]; exact hc
  split
  · rw [pay_cs]; exact eraseIdx_ok hs _
  split
  · exact eraseIdx_ok hs _
  split
  · rw [tak_cs]; exact hs
  · exact hs
theorem nextE_1 {s : St} {p0 p1 side k amt : Int} {c : Cnd} {id : Int} (h : soundE s p0 p1 ≠ 0) : nextE s p0 p1 side k amt c id = soundE s p0 p1 := by unfold nextE; rw [if_pos h]
theorem nextE_2 {s : St} {p0 p1 side k amt : Int} {c : Cnd} {id : Int} (h : soundE s p0 p1 = 0) (h1 : s.rd = 200) : nextE s p0 p1 side k amt c id = 8 := by unfold nextE; rw [if_neg (by simpa using h), if_pos h1]
theorem nextE_3 {s : St} {p0 p1 side k amt : Int} {c : Cnd} {id : Int} (h : soundE s p0 p1 = 0) (h1 : ¬ s.rd = 200) (h2 : side ≠ turnF (s.rd + 1)) : nextE s p0 p1 side k amt c id = 26 := by unfold nextE; rw [if_neg (by simpa using h), if_neg h1, if_pos h2]
theorem nextE_4 {s : St} {p0 p1 side k amt : Int} {c : Cnd} {id : Int} (h : soundE s p0 p1 = 0) (h1 : ¬ s.rd = 200) (h2 : side = turnF (s.rd + 1)) (h3 : doE s.nxt p0 p1 side k amt c id ≠ 0) : nextE s p0 p1 side k amt c id = doE s.nxt p0 p1 side k amt c id := by unfold nextE; rw [if_neg (by simpa using h), if_neg h1, if_neg (by simpa using h2), if_pos h3]
theorem nextE_5 {s : St} {p0 p1 side k amt : Int} {c : Cnd} {id : Int} (h : soundE s p0 p1 = 0) (h1 : ¬ s.rd = 200) (h2 : side = turnF (s.rd + 1)) (h3 : doE s.nxt p0 p1 side k amt c id = 0) : nextE s p0 p1 side k amt c id = soundE (doS s.nxt side k amt c id) p0 p1 := by unfold nextE; rw [if_neg (by simpa using h), if_neg h1, if_neg (by simpa using h2), if_neg (by simpa using h3)]
/-- What Next leaves: a state in memory of its own, and the error. -/
def NextPost (s : St) (E : Int) (w : World) (e : Ending) (w' : World) : Prop :=
  ∃ a n cap, e = .returned (.tuple #[.agg #[.int .u32 s.ch, .int .u64 s.rd, .int .u64 s.m0, .int .u64 s.m1, .int .u64 s.t0, .int .u64 s.t1, .slice a n cap], .int .i64 E]) ∧ w'.ownsRow w.heap.size 60 36 (.slice a n cap) n (cflat s.cs) ∧ s.cs.length = n ∧ Below w.heap.size w w'
theorem zero31 (W : World) : (Instr.build 31 #[]).run Try.prog W = .ok (.agg #[.int .u32 0, .int .u64 0, .int .u64 0, .int .u64 0, .int .u64 0, .int .u64 0, .slice none 0 0]) W := by kernel_rfl

set_option maxRecDepth 100000 in
set_option maxHeartbeats 4000000 in
theorem next_any (n cap : Nat) (s : St) (a : Option Addr) (p0 p1 side k amt id : Int) (c : Cnd) (w : World) (hC : CRow w a s.cs) (hnil : a = none → n = 0 ∧ cap = 0) (hl : s.cs.length = n) (hn : n ≤ 1000) (hok : c.Ok) (hamt : Word amt) (hp0 : Word p0) (hp1 : Word p1) (hO : s.Ok) :
    Calls Try.prog 24 #[.agg #[.int .u32 s.ch, .int .u64 s.rd, .int .u64 s.m0, .int .u64 s.m1, .int .u64 s.t0, .int .u64 s.t1, .slice a n cap], .agg #[.int .u64 p0, .int .u64 p1], .int .i64 side, .agg (ocells k amt c id).toArray] w (NextPost (nextS s p0 p1 side k amt c id) (nextE s p0 p1 side k amt c id) w) := by
  have BX0 : Hid (Below w.heap.size w ((((w.alloc (.cells #[.int .u32 s.ch, .int .u64 s.rd, .int .u64 s.m0, .int .u64 s.m1, .int .u64 s.t0, .int .u64 s.t1, .slice a n cap] 31)).alloc (.cells #[.int .u64 p0, .int .u64 p1] 24)).alloc (.cells (ocells k amt c id).toArray 62)).alloc (.cells #[.int .u32 0, .int .u64 0, .int .u64 0, .int .u64 0, .int .u64 0, .int .u64 0, .slice none 0 0] 31))) := Lib.hid (((((Below.refl _ _).alloc (Nat.le_refl _) _).alloc (by simp) _).alloc (by simp; omega) _).alloc (by simp; omega) _)
  have SX0 : Hid (Blk ((((w.alloc (.cells #[.int .u32 s.ch, .int .u64 s.rd, .int .u64 s.m0, .int .u64 s.m1, .int .u64 s.t0, .int .u64 s.t1, .slice a n cap] 31)).alloc (.cells #[.int .u64 p0, .int .u64 p1] 24)).alloc (.cells (ocells k amt c id).toArray 62)).alloc (.cells #[.int .u32 0, .int .u64 0, .int .u64 0, .int .u64 0, .int .u64 0, .int .u64 0, .slice none 0 0] 31)) w.heap.size 31 [.int .u32 s.ch, .int .u64 s.rd, .int .u64 s.m0, .int .u64 s.m1, .int .u64 s.t0, .int .u64 s.t1, .slice a n cap]) := Lib.hid ((((Blk.mk_ rfl).alloc _).alloc _).alloc _)
  have PX0 : Hid (Blk ((((w.alloc (.cells #[.int .u32 s.ch, .int .u64 s.rd, .int .u64 s.m0, .int .u64 s.m1, .int .u64 s.t0, .int .u64 s.t1, .slice a n cap] 31)).alloc (.cells #[.int .u64 p0, .int .u64 p1] 24)).alloc (.cells (ocells k amt c id).toArray 62)).alloc (.cells #[.int .u32 0, .int .u64 0, .int .u64 0, .int .u64 0, .int .u64 0, .int .u64 0, .slice none 0 0] 31)) (w.heap.size + 1) 24 [.int .u64 p0, .int .u64 p1]) := Lib.hid (((Blk.mk_ (by simp)).alloc _).alloc _)
  have KX0 : Hid (Blk ((((w.alloc (.cells #[.int .u32 s.ch, .int .u64 s.rd, .int .u64 s.m0, .int .u64 s.m1, .int .u64 s.t0, .int .u64 s.t1, .slice a n cap] 31)).alloc (.cells #[.int .u64 p0, .int .u64 p1] 24)).alloc (.cells (ocells k amt c id).toArray 62)).alloc (.cells #[.int .u32 0, .int .u64 0, .int .u64 0, .int .u64 0, .int .u64 0, .int .u64 0, .slice none 0 0] 31)) (w.heap.size + 1 + 1) 62 (ocells k amt c id)) := Lib.hid ((Blk.mk_ (by simp)).alloc _)
  have RX0 : Hid (Blk ((((w.alloc (.cells #[.int .u32 s.ch, .int .u64 s.rd, .int .u64 s.m0, .int .u64 s.m1, .int .u64 s.t0, .int .u64 s.t1, .slice a n cap] 31)).alloc (.cells #[.int .u64 p0, .int .u64 p1] 24)).alloc (.cells (ocells k amt c id).toArray 62)).alloc (.cells #[.int .u32 0, .int .u64 0, .int .u64 0, .int .u64 0, .int .u64 0, .int .u64 0, .slice none 0 0] 31)) (w.heap.size + 1 + 1 + 1) 31 [.int .u32 0, .int .u64 0, .int .u64 0, .int .u64 0, .int .u64 0, .int .u64 0, .slice none 0 0]) := Lib.hid (Blk.mk_ (by simp))
  have HOK := Lib.hid hok
  have HO := Lib.hid hO
  have HC := Lib.hid hC
  have HL := Lib.hid hl
  have HN := Lib.hid hnil
  have hzk : (Try.prog.info? 62).map (·.size) = some (ocells k amt c id).toArray.size := by rw [ocells_size k amt c id hok]; exact info62
  have HZK := Lib.hid hzk
  clear hC hnil hl hok hO hzk
  go_enter Try.func24, Try.ntmps24
  go_upto_region 1 with fail
  generalize ((((w.alloc (.cells #[.int .u32 s.ch, .int .u64 s.rd, .int .u64 s.m0, .int .u64 s.m1, .int .u64 s.t0, .int .u64 s.t1, .slice a n cap] 31)).alloc (.cells #[.int .u64 p0, .int .u64 p1] 24)).alloc (.cells (ocells k amt c id).toArray 62)).alloc (.cells #[.int .u32 0, .int .u64 0, .int .u64 0, .int .u64 0, .int .u64 0, .int .u64 0, .slice none 0 0] 31)) = X0 at BX0 SX0 PX0 KX0 RX0 ⊢
  obtain ⟨gR, hgR⟩ : ∃ q, w.heap.size + 1 + 1 + 1 = q := ⟨_, rfl⟩
  obtain ⟨gk, hgk⟩ : ∃ q, w.heap.size + 1 + 1 = q := ⟨_, rfl⟩
  obtain ⟨gp, hgp⟩ : ∃ q, w.heap.size + 1 = q := ⟨_, rfl⟩
  obtain ⟨gS, hgS⟩ : ∃ q, w.heap.size = q := ⟨_, rfl⟩
  have HGR : Hid (w.heap.size ≤ gR) := Lib.hid (by omega)
  have HPK : Hid (gp < gR ∧ gk < gR ∧ gS < gR) := Lib.hid ⟨by omega, by omega, by omega⟩
  rw [hgR] at RX0 ⊢
  rw [hgk] at KX0 ⊢
  rw [hgp] at PX0 ⊢
  rw [hgS] at SX0 ⊢
  clear hgR hgk hgp hgS
  obtain ⟨E, hE⟩ : ∃ E, nextE s p0 p1 side k amt c id = E := ⟨_, rfl⟩
  have HE := Lib.hid hE
  clear hE

  have k0 := SX0.out.cell 0
  have k1 := SX0.out.cell 1
  have k2 := SX0.out.cell 2
  have k3 := SX0.out.cell 3
  have k4 := SX0.out.cell 4
  have k5 := SX0.out.cell 5
  have k6 := SX0.out.cell 6
  simp only [List.getElem?_cons_zero, List.getElem?_cons_succ] at k0 k1 k2 k3 k4 k5 k6
  have q0 := PX0.out.cell 0
  have q1 := PX0.out.cell 1
  simp only [List.getElem?_cons_zero, List.getElem?_cons_succ] at q0 q1
  go_wp2_with fail
  clear k0 k1 k2 k3 k4 k5 k6 q0 q1
  refine ((show Calls Try.prog 15 #[.agg #[.int .u32 s.ch, .int .u64 s.rd, .int .u64 s.m0, .int .u64 s.m1, .int .u64 s.t0, .int .u64 s.t1, .slice a n cap], .agg #[.int .u64 p0, .int .u64 p1]] X0 (fun e w2 => e = .returned (.int .i64 (soundE s p0 p1)) ∧ Below X0.heap.size X0 w2) from sound_any s.ch s.rd s.m0 s.m1 s.t0 s.t1 a n cap s.cs p0 p1 X0 (HC.out.below BX0.out) HL.out hn hp0 hp1 HO.out.eta)).mono ?_
  rintro e Y1 ⟨rfl, hB⟩
  have BY1 : Hid (Below w.heap.size w Y1) := Lib.hid (BX0.out.trans (hB.mono BX0.out.size))
  have SY1 : Hid (Blk Y1 gS 31 [.int .u32 s.ch, .int .u64 s.rd, .int .u64 s.m0, .int .u64 s.m1, .int .u64 s.t0, .int .u64 s.t1, .slice a n cap]) := Lib.hid (SX0.out.below hB SX0.out.lt)
  have PY1 : Hid (Blk Y1 gp 24 [.int .u64 p0, .int .u64 p1]) := Lib.hid (PX0.out.below hB PX0.out.lt)
  have KY1 : Hid (Blk Y1 gk 62 (ocells k amt c id)) := Lib.hid (KX0.out.below hB KX0.out.lt)
  have RY1 : Hid (Blk Y1 gR 31 [.int .u32 0, .int .u64 0, .int .u64 0, .int .u64 0, .int .u64 0, .int .u64 0, .slice none 0 0]) := Lib.hid (RX0.out.below hB RX0.out.lt)
  clear BX0 SX0 PX0 KX0 RX0
  clear hB
  obtain ⟨E1, hE1⟩ : ∃ E1, soundE s p0 p1 = E1 := ⟨_, rfl⟩
  rw [hE1]
  have HE1 := Lib.hid hE1
  clear hE1
  by_cases h1 : E1 = 0
  case neg =>
    have b1 : (E1 != 0) = true := by simpa using h1
    have HNZ : Hid (¬ E1 = 0) := Lib.hid h1
    have HT : Hid (nextE s p0 p1 side k amt c id = E1) := Lib.hid (by rw [nextE_1 (by rw [HE1.out]; exact h1), HE1.out])
    clear h1
    have r0 := RY1.out.cell 0
    have r1 := RY1.out.cell 1
    have r2 := RY1.out.cell 2
    have r3 := RY1.out.cell 3
    have r4 := RY1.out.cell 4
    have r5 := RY1.out.cell 5
    have r6 := RY1.out.cell 6
    simp only [List.getElem?_cons_zero, List.getElem?_cons_succ] at r0 r1 r2 r3 r4 r5 r6
    have f0 := RY1.out.frozen 0
    have f1 := RY1.out.frozen 1
    have f2 := RY1.out.frozen 2
    have f3 := RY1.out.frozen 3
    have f4 := RY1.out.frozen 4
    have f5 := RY1.out.frozen 5
    have f6 := RY1.out.frozen 6
    have z31 := zero31
    go_wp2
    have hRR : Blk ((((((((Y1.setCell ⟨gR, 0, none⟩ (.int .u32 0)).setCell ⟨gR, 1, none⟩ (.int .u64 0)).setCell ⟨gR, 2, none⟩ (.int .u64 0)).setCell ⟨gR, 3, none⟩ (.int .u64 0)).setCell ⟨gR, 4, none⟩ (.int .u64 0)).setCell ⟨gR, 5, none⟩ (.int .u64 0)).setCell ⟨gR, 6, none⟩ (.slice none 0 0))) gR 31 [.int .u32 0, .int .u64 0, .int .u64 0, .int .u64 0, .int .u64 0, .int .u64 0, .slice none 0 0] := (((((((RY1.out.set_ 0 _).set_ 1 _).set_ 2 _).set_ 3 _).set_ 4 _).set_ 5 _).set_ 6 _)
    exact bodyPost_ret (results_ct Try.results24 _ _ gR 31 [.int .u32 0, .int .u64 0, .int .u64 0, .int .u64 0, .int .u64 0, .int .u64 0, .slice none 0 0] _ rfl hRR Try.underlying31 rfl info31) rfl (by rw [show nextS s p0 p1 side k amt c id = st0 from if_neg (by rw [HT.out]; exact HNZ.out), HT.out]; exact ⟨none, 0, 0, rfl, World.ownsRow_nil _ _ _ _, rfl, (((((((BY1.out.setCell (p := ⟨gR, 0, none⟩) HGR.out _).setCell (p := ⟨gR, 1, none⟩) HGR.out _).setCell (p := ⟨gR, 2, none⟩) HGR.out _).setCell (p := ⟨gR, 3, none⟩) HGR.out _).setCell (p := ⟨gR, 4, none⟩) HGR.out _).setCell (p := ⟨gR, 5, none⟩) HGR.out _).setCell (p := ⟨gR, 6, none⟩) HGR.out _)⟩)
  subst h1
  have HSP := Lib.hid (sound_parts HE1.out)
  have HSD := Lib.hid (sound_sides HE1.out)
  have k0 := SY1.out.cell 0
  have k1 := SY1.out.cell 1
  have k2 := SY1.out.cell 2
  have k3 := SY1.out.cell 3
  have k4 := SY1.out.cell 4
  have k5 := SY1.out.cell 5
  have k6 := SY1.out.cell 6
  simp only [List.getElem?_cons_zero, List.getElem?_cons_succ] at k0 k1 k2 k3 k4 k5 k6
  by_cases h2 : s.rd = 200
  case pos =>
    have b2 : (s.rd == 200) = true := by simpa using h2
    have HNZ : Hid (¬ (8 : Int) = 0) := Lib.hid (by decide)
    have HT : Hid (nextE s p0 p1 side k amt c id = 8) := Lib.hid (nextE_2 HE1.out h2)
    clear h2
    have r0 := RY1.out.cell 0
    have r1 := RY1.out.cell 1
    have r2 := RY1.out.cell 2
    have r3 := RY1.out.cell 3
    have r4 := RY1.out.cell 4
    have r5 := RY1.out.cell 5
    have r6 := RY1.out.cell 6
    simp only [List.getElem?_cons_zero, List.getElem?_cons_succ] at r0 r1 r2 r3 r4 r5 r6
    have f0 := RY1.out.frozen 0
    have f1 := RY1.out.frozen 1
    have f2 := RY1.out.frozen 2
    have f3 := RY1.out.frozen 3
    have f4 := RY1.out.frozen 4
    have f5 := RY1.out.frozen 5
    have f6 := RY1.out.frozen 6
    have z31 := zero31
    go_wp2
    have hRR : Blk ((((((((Y1.setCell ⟨gR, 0, none⟩ (.int .u32 0)).setCell ⟨gR, 1, none⟩ (.int .u64 0)).setCell ⟨gR, 2, none⟩ (.int .u64 0)).setCell ⟨gR, 3, none⟩ (.int .u64 0)).setCell ⟨gR, 4, none⟩ (.int .u64 0)).setCell ⟨gR, 5, none⟩ (.int .u64 0)).setCell ⟨gR, 6, none⟩ (.slice none 0 0))) gR 31 [.int .u32 0, .int .u64 0, .int .u64 0, .int .u64 0, .int .u64 0, .int .u64 0, .slice none 0 0] := (((((((RY1.out.set_ 0 _).set_ 1 _).set_ 2 _).set_ 3 _).set_ 4 _).set_ 5 _).set_ 6 _)
    exact bodyPost_ret (results_ct Try.results24 _ _ gR 31 [.int .u32 0, .int .u64 0, .int .u64 0, .int .u64 0, .int .u64 0, .int .u64 0, .slice none 0 0] _ rfl hRR Try.underlying31 rfl info31) rfl (by rw [show nextS s p0 p1 side k amt c id = st0 from if_neg (by rw [HT.out]; exact HNZ.out), HT.out]; exact ⟨none, 0, 0, rfl, World.ownsRow_nil _ _ _ _, rfl, (((((((BY1.out.setCell (p := ⟨gR, 0, none⟩) HGR.out _).setCell (p := ⟨gR, 1, none⟩) HGR.out _).setCell (p := ⟨gR, 2, none⟩) HGR.out _).setCell (p := ⟨gR, 3, none⟩) HGR.out _).setCell (p := ⟨gR, 4, none⟩) HGR.out _).setCell (p := ⟨gR, 5, none⟩) HGR.out _).setCell (p := ⟨gR, 6, none⟩) HGR.out _)⟩)
  have b2 : (s.rd == 200) = false := by simpa using h2
  have H2 := Lib.hid h2
  clear h2
  have e1 : IntKind.u64.wrap (s.rd + 1) = s.rd + 1 := IntWalk.u64_in _ ⟨by have := HO.out.rd.1; omega, by have := HSP.out.1; omega⟩
  have hw1 : Word (s.rd + 1) := ⟨by have := HO.out.rd.1; omega, by have := HSP.out.1; omega⟩
  obtain ⟨T, hT⟩ : ∃ T, turnF (s.rd + 1) = T := ⟨_, rfl⟩
  have HTT := Lib.hid hT
  have HTC : Hid (∀ W, Calls Try.prog 22 #[.int .u64 (s.rd + 1)] W fun e w2 => e = .returned (.int .i64 T) ∧ W = w2) := Lib.hid (fun W => by have := turn_any (s.rd + 1) W hw1; rwa [hT] at this)
  clear hT hw1
  by_cases h3 : side = T
  case neg =>
    have b3 : (side != T) = true := by simpa using h3
    have HNZ : Hid (¬ (26 : Int) = 0) := Lib.hid (by decide)
    have HT : Hid (nextE s p0 p1 side k amt c id = 26) := Lib.hid (nextE_3 HE1.out H2.out (by rw [HTT.out]; exact h3))
    clear h3
    skip
    have r0 := RY1.out.cell 0
    have r1 := RY1.out.cell 1
    have r2 := RY1.out.cell 2
    have r3 := RY1.out.cell 3
    have r4 := RY1.out.cell 4
    have r5 := RY1.out.cell 5
    have r6 := RY1.out.cell 6
    simp only [List.getElem?_cons_zero, List.getElem?_cons_succ] at r0 r1 r2 r3 r4 r5 r6
    have f0 := RY1.out.frozen 0
    have f1 := RY1.out.frozen 1
    have f2 := RY1.out.frozen 2
    have f3 := RY1.out.frozen 3
    have f4 := RY1.out.frozen 4
    have f5 := RY1.out.frozen 5
    have f6 := RY1.out.frozen 6
    have z31 := zero31
    go_wp2_with (go_at_call 22; refine (HTC.out _).mono ?_; rintro e w2 ⟨rfl, rfl⟩)
    have hRR : Blk ((((((((Y1.setCell ⟨gR, 0, none⟩ (.int .u32 0)).setCell ⟨gR, 1, none⟩ (.int .u64 0)).setCell ⟨gR, 2, none⟩ (.int .u64 0)).setCell ⟨gR, 3, none⟩ (.int .u64 0)).setCell ⟨gR, 4, none⟩ (.int .u64 0)).setCell ⟨gR, 5, none⟩ (.int .u64 0)).setCell ⟨gR, 6, none⟩ (.slice none 0 0))) gR 31 [.int .u32 0, .int .u64 0, .int .u64 0, .int .u64 0, .int .u64 0, .int .u64 0, .slice none 0 0] := (((((((RY1.out.set_ 0 _).set_ 1 _).set_ 2 _).set_ 3 _).set_ 4 _).set_ 5 _).set_ 6 _)
    exact bodyPost_ret (results_ct Try.results24 _ _ gR 31 [.int .u32 0, .int .u64 0, .int .u64 0, .int .u64 0, .int .u64 0, .int .u64 0, .slice none 0 0] _ rfl hRR Try.underlying31 rfl info31) rfl (by rw [show nextS s p0 p1 side k amt c id = st0 from if_neg (by rw [HT.out]; exact HNZ.out), HT.out]; exact ⟨none, 0, 0, rfl, World.ownsRow_nil _ _ _ _, rfl, (((((((BY1.out.setCell (p := ⟨gR, 0, none⟩) HGR.out _).setCell (p := ⟨gR, 1, none⟩) HGR.out _).setCell (p := ⟨gR, 2, none⟩) HGR.out _).setCell (p := ⟨gR, 3, none⟩) HGR.out _).setCell (p := ⟨gR, 4, none⟩) HGR.out _).setCell (p := ⟨gR, 5, none⟩) HGR.out _).setCell (p := ⟨gR, 6, none⟩) HGR.out _)⟩)
  have b3 : (side != T) = false := by simpa using h3
  have H3 : Hid (side = turnF (s.rd + 1)) := Lib.hid (by rw [HTT.out]; exact h3)
  clear h3
  go_wp2_with (go_at_call 22; refine (HTC.out _).mono ?_; rintro e w2 ⟨rfl, rfl⟩)
  clear k0 k1 k2 k3 k4 k5 k6 b2 b3 e1
  have HRP : Hid (gR + 1 ≤ Y1.heap.size) := Lib.hid RY1.out.lt
  refine ((show Calls Try.prog 21 #[.agg #[.int .u32 s.ch, .int .u64 s.rd, .int .u64 s.m0, .int .u64 s.m1, .int .u64 s.t0, .int .u64 s.t1, .slice a n cap]] Y1 _ from twin_any s.ch s.rd s.m0 s.m1 s.t0 s.t1 a n cap s.cs Y1 (HC.out.below BY1.out) HN.out HL.out hn)).mono ?_
  rintro e Y2 ⟨a1, c1, rfl, hown, hB⟩
  have hown0 := hown
  have BY2 : Hid (Below w.heap.size w Y2) := Lib.hid (BY1.out.trans (hB.mono BY1.out.size))
  have SY2 : Hid (Blk Y2 gS 31 [.int .u32 s.ch, .int .u64 s.rd, .int .u64 s.m0, .int .u64 s.m1, .int .u64 s.t0, .int .u64 s.t1, .slice a n cap]) := Lib.hid (SY1.out.below hB SY1.out.lt)
  have PY2 : Hid (Blk Y2 gp 24 [.int .u64 p0, .int .u64 p1]) := Lib.hid (PY1.out.below hB PY1.out.lt)
  have KY2 : Hid (Blk Y2 gk 62 (ocells k amt c id)) := Lib.hid (KY1.out.below hB KY1.out.lt)
  have RY2 : Hid (Blk Y2 gR 31 [.int .u32 0, .int .u64 0, .int .u64 0, .int .u64 0, .int .u64 0, .int .u64 0, .slice none 0 0]) := Lib.hid (RY1.out.below hB RY1.out.lt)
  clear BY1 SY1 PY1 KY1 RY1
  clear hB
  have HLA := heap_alloc_last Y2 (.cells #[.int .u32 0, .int .u64 0, .int .u64 0, .int .u64 0, .int .u64 0, .int .u64 0, .slice none 0 0] 31)
  have hz1 : (Try.prog.info? 31).map (·.size) = some (#[.int .u32 s.ch, .int .u64 s.rd, .int .u64 s.m0, .int .u64 s.m1, .int .u64 s.t0, .int .u64 s.t1, .slice a1 n c1] : Array Value).size := info31
  go_upto_region 9 with (first | (refine wpList_store_row rfl 31 (.tmp 11) (.tmp 33) rfl Y2.heap.size #[.int .u32 s.ch, .int .u64 s.rd, .int .u64 s.m0, .int .u64 s.m1, .int .u64 s.t0, .int .u64 s.t1, .slice a1 n c1] rfl rfl 31 _ HLA hz1 rfl rfl ?_; rw [World.setRow_alloc_new]))
  clear HLA hz1
  have hB : Below Y2.heap.size Y2 (Y2.alloc (.cells #[.int .u32 s.ch, .int .u64 s.rd, .int .u64 s.m0, .int .u64 s.m1, .int .u64 s.t0, .int .u64 s.t1, .slice a1 n c1] 31)) := (Below.refl _ _).alloc (Nat.le_refl _) _
  have hN : Blk (Y2.alloc (.cells #[.int .u32 s.ch, .int .u64 s.rd, .int .u64 s.m0, .int .u64 s.m1, .int .u64 s.t0, .int .u64 s.t1, .slice a1 n c1] 31)) Y2.heap.size 31 [.int .u32 s.ch, .int .u64 s.rd, .int .u64 s.m0, .int .u64 s.m1, .int .u64 s.t0, .int .u64 s.t1, .slice a1 n c1] := Blk.new Y2 31 [.int .u32 s.ch, .int .u64 s.rd, .int .u64 s.m0, .int .u64 s.m1, .int .u64 s.t0, .int .u64 s.t1, .slice a1 n c1]
  have hown := own_keep hown0 hB
  clear hown0
  have BU : Hid (Below w.heap.size w (Y2.alloc (.cells #[.int .u32 s.ch, .int .u64 s.rd, .int .u64 s.m0, .int .u64 s.m1, .int .u64 s.t0, .int .u64 s.t1, .slice a1 n c1] 31))) := Lib.hid (BY2.out.trans (hB.mono BY2.out.size))
  have SU : Hid (Blk (Y2.alloc (.cells #[.int .u32 s.ch, .int .u64 s.rd, .int .u64 s.m0, .int .u64 s.m1, .int .u64 s.t0, .int .u64 s.t1, .slice a1 n c1] 31)) gS 31 [.int .u32 s.ch, .int .u64 s.rd, .int .u64 s.m0, .int .u64 s.m1, .int .u64 s.t0, .int .u64 s.t1, .slice a n cap]) := Lib.hid (SY2.out.below hB SY2.out.lt)
  have PU : Hid (Blk (Y2.alloc (.cells #[.int .u32 s.ch, .int .u64 s.rd, .int .u64 s.m0, .int .u64 s.m1, .int .u64 s.t0, .int .u64 s.t1, .slice a1 n c1] 31)) gp 24 [.int .u64 p0, .int .u64 p1]) := Lib.hid (PY2.out.below hB PY2.out.lt)
  have KU : Hid (Blk (Y2.alloc (.cells #[.int .u32 s.ch, .int .u64 s.rd, .int .u64 s.m0, .int .u64 s.m1, .int .u64 s.t0, .int .u64 s.t1, .slice a1 n c1] 31)) gk 62 (ocells k amt c id)) := Lib.hid (KY2.out.below hB KY2.out.lt)
  have RU : Hid (Blk (Y2.alloc (.cells #[.int .u32 s.ch, .int .u64 s.rd, .int .u64 s.m0, .int .u64 s.m1, .int .u64 s.t0, .int .u64 s.t1, .slice a1 n c1] 31)) gR 31 [.int .u32 0, .int .u64 0, .int .u64 0, .int .u64 0, .int .u64 0, .int .u64 0, .slice none 0 0]) := Lib.hid (RY2.out.below hB RY2.out.lt)
  have HRY : Hid (gR < Y2.heap.size ∧ gp < Y2.heap.size ∧ gk < Y2.heap.size ∧ gS < Y2.heap.size) := Lib.hid ⟨RY2.out.lt, PY2.out.lt, KY2.out.lt, SY2.out.lt⟩
  clear hB BY2 SY2 PY2 KY2 RY2
  generalize (Y2.alloc (.cells #[.int .u32 s.ch, .int .u64 s.rd, .int .u64 s.m0, .int .u64 s.m1, .int .u64 s.t0, .int .u64 s.t1, .slice a1 n c1] 31)) = U at BU SU PU KU RU hN hown ⊢
  generalize Y2.heap.size = gN at hN HRY ⊢
  have NU := Lib.hid hN
  clear hN
  have k0 := NU.out.cell 0
  have k1 := NU.out.cell 1
  have k2 := NU.out.cell 2
  have k3 := NU.out.cell 3
  have k4 := NU.out.cell 4
  have k5 := NU.out.cell 5
  have k6 := NU.out.cell 6
  simp only [List.getElem?_cons_zero, List.getElem?_cons_succ] at k0 k1 k2 k3 k4 k5 k6
  have f0 := NU.out.frozen 0
  have f1 := NU.out.frozen 1
  have f2 := NU.out.frozen 2
  have f3 := NU.out.frozen 3
  have f4 := NU.out.frozen 4
  have f5 := NU.out.frozen 5
  have f6 := NU.out.frozen 6
  have e1 : IntKind.u64.wrap (s.rd + 1) = s.rd + 1 := IntWalk.u64_in _ ⟨by have := HO.out.rd.1; omega, by have := HSP.out.1; omega⟩
  go_upto_region 10 with fail
  clear k0 k1 k2 k3 k4 k5 k6 f0 f1 f2 f3 f4 f5 f6 e1
  have hG := only_setCell (p := ⟨gN, 1, none⟩) (only_refl U (some gN)) (.inl rfl) (.int .u64 (s.rd + 1))
  have NV : Hid (Blk (U.setCell ⟨gN, 1, none⟩ (.int .u64 (s.rd + 1))) gN 31 [.int .u32 s.ch, .int .u64 (s.rd + 1), .int .u64 s.m0, .int .u64 s.m1, .int .u64 s.t0, .int .u64 s.t1, .slice a1 n c1]) := Lib.hid (NU.out.set_ 1 _)
  have OV : Hid ((U.setCell ⟨gN, 1, none⟩ (.int .u64 (s.rd + 1))).ownsRow Y1.heap.size 60 36 (.slice a1 n c1) n (cflat s.cs)) := Lib.hid (hown.kept hG (.inr (fun e => own_ne hown NU.out (by decide) e.symm)))
  have hne : ∀ q, q < gN → some q ≠ some gN := fun q h e => by injection e with e; omega
  have BV : Hid (Below w.heap.size w (U.setCell ⟨gN, 1, none⟩ (.int .u64 (s.rd + 1)))) := Lib.hid (BU.out.setCell (p := ⟨gN, 1, none⟩) (show w.heap.size ≤ gN by have := HGR.out; have := HRY.out.1; omega) _)
  have SV : Hid (Blk (U.setCell ⟨gN, 1, none⟩ (.int .u64 (s.rd + 1))) gS 31 [.int .u32 s.ch, .int .u64 s.rd, .int .u64 s.m0, .int .u64 s.m1, .int .u64 s.t0, .int .u64 s.t1, .slice a n cap]) := Lib.hid (SU.out.grown hG (hne _ (by have := HRY.out; omega)))
  have PV : Hid (Blk (U.setCell ⟨gN, 1, none⟩ (.int .u64 (s.rd + 1))) gp 24 [.int .u64 p0, .int .u64 p1]) := Lib.hid (PU.out.grown hG (hne _ (by have := HRY.out; omega)))
  have KV : Hid (Blk (U.setCell ⟨gN, 1, none⟩ (.int .u64 (s.rd + 1))) gk 62 (ocells k amt c id)) := Lib.hid (KU.out.grown hG (hne _ (by have := HRY.out; omega)))
  have RV : Hid (Blk (U.setCell ⟨gN, 1, none⟩ (.int .u64 (s.rd + 1))) gR 31 [.int .u32 0, .int .u64 0, .int .u64 0, .int .u64 0, .int .u64 0, .int .u64 0, .slice none 0 0]) := Lib.hid (RU.out.grown hG (hne _ (by have := HRY.out; omega)))
  clear hG hown NU hne BU SU PU KU RU
  generalize (U.setCell ⟨gN, 1, none⟩ (.int .u64 (s.rd + 1))) = V at BV SV PV KV RV NV OV ⊢
  obtain ⟨Bs, hBs⟩ : ∃ q, gR + 1 = q := ⟨_, rfl⟩
  have STV : Hid (StAt V Bs gN s.nxt a1 n c1) := Lib.hid ⟨NV.out, own_mono OV.out (by rw [← hBs]; exact HRP.out), HC.out.ok, HL.out⟩
  have HBS : Hid (Bs ≤ gN ∧ Bs ≤ V.heap.size ∧ gR < Bs ∧ gp < Bs ∧ w.heap.size ≤ Bs) := Lib.hid (by have h1 := HRY.out; have h2 := NV.out.lt; have h3 := HGR.out; have h4 := HPK.out; exact ⟨by omega, by omega, by omega, by omega, by omega⟩)
  clear hBs NV OV
  have q0 := PV.out.cell 0
  have q1 := PV.out.cell 1
  simp only [List.getElem?_cons_zero, List.getElem?_cons_succ] at q0 q1
  have hK9 : V.heap[gk]? = some (.cells (ocells k amt c id).toArray 62 (0, 0)) := KV.out
  have hzk := HZK.out
  have hsd01 := turnF_side (s.rd + 1)
  rw [← H3.out] at hsd01
  have HSD01 := Lib.hid hsd01
  clear hsd01
  go_wp2_with (first | (refine wpList_load_row rfl 62 (.tmp 7) rfl gk rfl 62 (ocells k amt c id).toArray (0, 0) _ hK9 Try.underlying62 rfl hzk ?_))
  clear hK9 hzk q0 q1
  have HON : Hid s.nxt.Ok := Lib.hid ⟨⟨by show 0 ≤ s.rd + 1; have := HO.out.rd.1; omega, by show s.rd + 1 ≤ _; have := HSP.out.1; omega⟩, HO.out.m0, HO.out.m1, HO.out.t0, HO.out.t1⟩
  refine (do_any Bs gN n c1 s.nxt a1 p0 p1 amt id c V STV.out hn HOK.out hamt hp0 hp1 HON.out HBS.out.2.1 HBS.out.1 side k HSD01.out HSD.out).mono ?_
  rintro e Z ⟨rfl, hB, hST⟩
  have BZ := Lib.hid (BV.out.trans (hB.mono HBS.out.2.2.2.2))
  have PZ := Lib.hid (PV.out.below hB HBS.out.2.2.2.1)
  have RZ := Lib.hid (RV.out.below hB HBS.out.2.2.1)
  have ST := Lib.hid hST
  clear hB hST BV PV RV KV SV STV
  obtain ⟨E2, hE2⟩ : ∃ E2, doE s.nxt p0 p1 side k amt c id = E2 := ⟨_, rfl⟩
  rw [hE2] at ST ⊢
  have HE2 := Lib.hid hE2
  clear hE2
  by_cases h4 : E2 = 0
  case neg =>
    have b4 : (E2 != 0) = true := by simpa using h4
    have HNZ : Hid (¬ E2 = 0) := Lib.hid h4
    have HT : Hid (nextE s p0 p1 side k amt c id = E2) := Lib.hid (by rw [nextE_4 HE1.out H2.out H3.out (by rw [HE2.out]; exact h4), HE2.out])
    clear h4
    have r0 := RZ.out.cell 0
    have r1 := RZ.out.cell 1
    have r2 := RZ.out.cell 2
    have r3 := RZ.out.cell 3
    have r4 := RZ.out.cell 4
    have r5 := RZ.out.cell 5
    have r6 := RZ.out.cell 6
    simp only [List.getElem?_cons_zero, List.getElem?_cons_succ] at r0 r1 r2 r3 r4 r5 r6
    have f0 := RZ.out.frozen 0
    have f1 := RZ.out.frozen 1
    have f2 := RZ.out.frozen 2
    have f3 := RZ.out.frozen 3
    have f4 := RZ.out.frozen 4
    have f5 := RZ.out.frozen 5
    have f6 := RZ.out.frozen 6
    have z31 := zero31
    go_wp2
    have hRR : Blk ((((((((Z.setCell ⟨gR, 0, none⟩ (.int .u32 0)).setCell ⟨gR, 1, none⟩ (.int .u64 0)).setCell ⟨gR, 2, none⟩ (.int .u64 0)).setCell ⟨gR, 3, none⟩ (.int .u64 0)).setCell ⟨gR, 4, none⟩ (.int .u64 0)).setCell ⟨gR, 5, none⟩ (.int .u64 0)).setCell ⟨gR, 6, none⟩ (.slice none 0 0))) gR 31 [.int .u32 0, .int .u64 0, .int .u64 0, .int .u64 0, .int .u64 0, .int .u64 0, .slice none 0 0] := (((((((RZ.out.set_ 0 _).set_ 1 _).set_ 2 _).set_ 3 _).set_ 4 _).set_ 5 _).set_ 6 _)
    exact bodyPost_ret (results_ct Try.results24 _ _ gR 31 [.int .u32 0, .int .u64 0, .int .u64 0, .int .u64 0, .int .u64 0, .int .u64 0, .slice none 0 0] _ rfl hRR Try.underlying31 rfl info31) rfl (by rw [show nextS s p0 p1 side k amt c id = st0 from if_neg (by rw [HT.out]; exact HNZ.out), HT.out]; exact ⟨none, 0, 0, rfl, World.ownsRow_nil _ _ _ _, rfl, (((((((BZ.out.setCell (p := ⟨gR, 0, none⟩) HGR.out _).setCell (p := ⟨gR, 1, none⟩) HGR.out _).setCell (p := ⟨gR, 2, none⟩) HGR.out _).setCell (p := ⟨gR, 3, none⟩) HGR.out _).setCell (p := ⟨gR, 4, none⟩) HGR.out _).setCell (p := ⟨gR, 5, none⟩) HGR.out _).setCell (p := ⟨gR, 6, none⟩) HGR.out _)⟩)
  subst h4
  obtain ⟨a2, n2, c2, hST⟩ := ST.out rfl
  have SN := Lib.hid hST
  clear hST ST
  have hn2 : n2 ≤ 1000 := by have h1 := SN.out.len; have h2 := doS_len s.nxt side k amt c id; have h3 := HSP.out.2.1; have h4 : s.nxt.cs.length = s.cs.length := rfl; omega
  have HOD : Hid (doS s.nxt side k amt c id).Ok := Lib.hid (doS_ok HON.out HC.out.ok hamt HE2.out)
  obtain ⟨s2, hs2⟩ : ∃ s2, doS s.nxt side k amt c id = s2 := ⟨_, rfl⟩
  rw [hs2] at SN HOD
  have HS2 := Lib.hid hs2
  clear hs2
  have NB := Lib.hid SN.out.blk
  have k0 := NB.out.cell 0
  have k1 := NB.out.cell 1
  have k2 := NB.out.cell 2
  have k3 := NB.out.cell 3
  have k4 := NB.out.cell 4
  have k5 := NB.out.cell 5
  have k6 := NB.out.cell 6
  simp only [List.getElem?_cons_zero, List.getElem?_cons_succ] at k0 k1 k2 k3 k4 k5 k6
  have q0 := PZ.out.cell 0
  have q1 := PZ.out.cell 1
  simp only [List.getElem?_cons_zero, List.getElem?_cons_succ] at q0 q1
  go_wp2_with fail
  clear k0 k1 k2 k3 k4 k5 k6 q0 q1 NB
  refine (show Calls Try.prog 15 #[.agg #[.int .u32 s2.ch, .int .u64 s2.rd, .int .u64 s2.m0, .int .u64 s2.m1, .int .u64 s2.t0, .int .u64 s2.t1, .slice a2 n2 c2], .agg #[.int .u64 p0, .int .u64 p1]] Z (fun e w2 => e = .returned (.int .i64 (soundE s2 p0 p1)) ∧ Below Z.heap.size Z w2) from sound_any s2.ch s2.rd s2.m0 s2.m1 s2.t0 s2.t1 a2 n2 c2 s2.cs p0 p1 Z SN.out.row SN.out.len hn2 hp0 hp1 HOD.out.eta).mono ?_
  rintro e Q ⟨rfl, hB⟩
  have BQ := Lib.hid (BZ.out.trans (hB.mono BZ.out.size))
  have RQ := Lib.hid (RZ.out.below hB RZ.out.lt)
  have SQ := Lib.hid (SN.out.keep hB)
  have HRN : Hid (gR ≠ gN) := Lib.hid (by have := HBS.out; omega)
  clear hB BZ RZ PZ SN
  obtain ⟨E3, hE3⟩ : ∃ E3, soundE s2 p0 p1 = E3 := ⟨_, rfl⟩
  rw [hE3]
  have HE3 := Lib.hid hE3
  clear hE3
  by_cases h5 : E3 = 0
  case neg =>
    have b5 : (E3 != 0) = true := by simpa using h5
    have HNZ : Hid (¬ E3 = 0) := Lib.hid h5
    have HT : Hid (nextE s p0 p1 side k amt c id = E3) := Lib.hid (by rw [nextE_5 HE1.out H2.out H3.out HE2.out, HS2.out, HE3.out])
    clear h5
    have r0 := RQ.out.cell 0
    have r1 := RQ.out.cell 1
    have r2 := RQ.out.cell 2
    have r3 := RQ.out.cell 3
    have r4 := RQ.out.cell 4
    have r5 := RQ.out.cell 5
    have r6 := RQ.out.cell 6
    simp only [List.getElem?_cons_zero, List.getElem?_cons_succ] at r0 r1 r2 r3 r4 r5 r6
    have f0 := RQ.out.frozen 0
    have f1 := RQ.out.frozen 1
    have f2 := RQ.out.frozen 2
    have f3 := RQ.out.frozen 3
    have f4 := RQ.out.frozen 4
    have f5 := RQ.out.frozen 5
    have f6 := RQ.out.frozen 6
    have z31 := zero31
    go_wp2
    have hRR : Blk ((((((((Q.setCell ⟨gR, 0, none⟩ (.int .u32 0)).setCell ⟨gR, 1, none⟩ (.int .u64 0)).setCell ⟨gR, 2, none⟩ (.int .u64 0)).setCell ⟨gR, 3, none⟩ (.int .u64 0)).setCell ⟨gR, 4, none⟩ (.int .u64 0)).setCell ⟨gR, 5, none⟩ (.int .u64 0)).setCell ⟨gR, 6, none⟩ (.slice none 0 0))) gR 31 [.int .u32 0, .int .u64 0, .int .u64 0, .int .u64 0, .int .u64 0, .int .u64 0, .slice none 0 0] := (((((((RQ.out.set_ 0 _).set_ 1 _).set_ 2 _).set_ 3 _).set_ 4 _).set_ 5 _).set_ 6 _)
    exact bodyPost_ret (results_ct Try.results24 _ _ gR 31 [.int .u32 0, .int .u64 0, .int .u64 0, .int .u64 0, .int .u64 0, .int .u64 0, .slice none 0 0] _ rfl hRR Try.underlying31 rfl info31) rfl (by rw [show nextS s p0 p1 side k amt c id = st0 from if_neg (by rw [HT.out]; exact HNZ.out), HT.out]; exact ⟨none, 0, 0, rfl, World.ownsRow_nil _ _ _ _, rfl, (((((((BQ.out.setCell (p := ⟨gR, 0, none⟩) HGR.out _).setCell (p := ⟨gR, 1, none⟩) HGR.out _).setCell (p := ⟨gR, 2, none⟩) HGR.out _).setCell (p := ⟨gR, 3, none⟩) HGR.out _).setCell (p := ⟨gR, 4, none⟩) HGR.out _).setCell (p := ⟨gR, 5, none⟩) HGR.out _).setCell (p := ⟨gR, 6, none⟩) HGR.out _)⟩)
  subst h5
  have HT : Hid (nextE s p0 p1 side k amt c id = 0) := Lib.hid (by rw [nextE_5 HE1.out H2.out H3.out HE2.out, HS2.out, HE3.out])
  have NB := Lib.hid SQ.out.blk
  have k0 := NB.out.cell 0
  have k1 := NB.out.cell 1
  have k2 := NB.out.cell 2
  have k3 := NB.out.cell 3
  have k4 := NB.out.cell 4
  have k5 := NB.out.cell 5
  have k6 := NB.out.cell 6
  simp only [List.getElem?_cons_zero, List.getElem?_cons_succ] at k0 k1 k2 k3 k4 k5 k6
  have r0 := RQ.out.cell 0
  have r1 := RQ.out.cell 1
  have r2 := RQ.out.cell 2
  have r3 := RQ.out.cell 3
  have r4 := RQ.out.cell 4
  have r5 := RQ.out.cell 5
  have r6 := RQ.out.cell 6
  simp only [List.getElem?_cons_zero, List.getElem?_cons_succ] at r0 r1 r2 r3 r4 r5 r6
  have f0 := RQ.out.frozen 0
  have f1 := RQ.out.frozen 1
  have f2 := RQ.out.frozen 2
  have f3 := RQ.out.frozen 3
  have f4 := RQ.out.frozen 4
  have f5 := RQ.out.frozen 5
  have f6 := RQ.out.frozen 6
  go_wp2
  have hRR : Blk ((((((((Q.setCell ⟨gR, 0, none⟩ (.int .u32 s2.ch)).setCell ⟨gR, 1, none⟩ (.int .u64 s2.rd)).setCell ⟨gR, 2, none⟩ (.int .u64 s2.m0)).setCell ⟨gR, 3, none⟩ (.int .u64 s2.m1)).setCell ⟨gR, 4, none⟩ (.int .u64 s2.t0)).setCell ⟨gR, 5, none⟩ (.int .u64 s2.t1)).setCell ⟨gR, 6, none⟩ (.slice a2 n2 c2))) gR 31 [.int .u32 s2.ch, .int .u64 s2.rd, .int .u64 s2.m0, .int .u64 s2.m1, .int .u64 s2.t0, .int .u64 s2.t1, .slice a2 n2 c2] := (((((((RQ.out.set_ 0 _).set_ 1 _).set_ 2 _).set_ 3 _).set_ 4 _).set_ 5 _).set_ 6 _)
  have hown := SQ.out.own.kept ((only_setCell (p := ⟨gR, 6, none⟩) (only_setCell (p := ⟨gR, 5, none⟩) (only_setCell (p := ⟨gR, 4, none⟩) (only_setCell (p := ⟨gR, 3, none⟩) (only_setCell (p := ⟨gR, 2, none⟩) (only_setCell (p := ⟨gR, 1, none⟩) (only_setCell (p := ⟨gR, 0, none⟩) (only_refl Q (some gR)) (.inl rfl) (.int .u32 s2.ch)) (.inl rfl) (.int .u64 s2.rd)) (.inl rfl) (.int .u64 s2.m0)) (.inl rfl) (.int .u64 s2.m1)) (.inl rfl) (.int .u64 s2.t0)) (.inl rfl) (.int .u64 s2.t1)) (.inl rfl) (.slice a2 n2 c2))) (.inr (fun e => own_ne SQ.out.own RQ.out (by decide) e.symm))
  exact bodyPost_ret (results_ct Try.results24 _ _ gR 31 [.int .u32 s2.ch, .int .u64 s2.rd, .int .u64 s2.m0, .int .u64 s2.m1, .int .u64 s2.t0, .int .u64 s2.t1, .slice a2 n2 c2] _ rfl hRR Try.underlying31 rfl info31) rfl (by rw [show nextS s p0 p1 side k amt c id = s2 from (if_pos HT.out).trans HS2.out, HT.out]; exact ⟨a2, n2, c2, rfl, own_mono hown HBS.out.2.2.2.2, SQ.out.len, (((((((BQ.out.setCell (p := ⟨gR, 0, none⟩) HGR.out _).setCell (p := ⟨gR, 1, none⟩) HGR.out _).setCell (p := ⟨gR, 2, none⟩) HGR.out _).setCell (p := ⟨gR, 3, none⟩) HGR.out _).setCell (p := ⟨gR, 4, none⟩) HGR.out _).setCell (p := ⟨gR, 5, none⟩) HGR.out _).setCell (p := ⟨gR, 6, none⟩) HGR.out _)⟩)
end Go.Proofs.Ytkiifjkcpangfaa
