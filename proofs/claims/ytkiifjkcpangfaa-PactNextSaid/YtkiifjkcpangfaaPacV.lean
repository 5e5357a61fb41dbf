/-
  The document's next state: where no payment is taken out.
-/
import Derived.Test.YtkiifjkcpangfaaPacU
namespace Go.Proofs.Ytkiifjkcpangfaa
open Go.RowKit
set_option linter.unusedVariables false

set_option maxRecDepth 100000 in
set_option maxHeartbeats 4000000 in
theorem rnext_a (n cap : Nat) (s : St) (a : Option Addr) (p0 p1 side k amt id : Int) (c : Cnd) (w : World) (hC : CRow w a s.cs) (hl : s.cs.length = n) (hn : n ≤ 1000) (hok : c.Ok) (hamt : Word amt) (hp0 : Word p0) (hp1 : Word p1) (hO : s.Ok) (hE1 : soundE s p0 p1 = 0) (hrd : ¬ s.rd = 200) (htn : side = turnF (s.rd + 1)) (hk2 : k ≠ 2) (hk3 : k ≠ 3) (hk4 : k ≠ 4) :
    Calls Try.prog 26 #[.agg #[.int .u32 s.ch, .int .u64 s.rd, .int .u64 s.m0, .int .u64 s.m1, .int .u64 s.t0, .int .u64 s.t1, .slice a n cap], .agg #[.int .u64 p0, .int .u64 p1], .int .i64 side, .agg (ocells k amt c id).toArray] w (RNextPost (nextS s p0 p1 side k amt c id) (nextE s p0 p1 side k amt c id) w) := by
  have HE1 := Lib.hid hE1
  have H2 := Lib.hid hrd
  have H3 := Lib.hid htn
  have HSP := Lib.hid (sound_parts hE1)
  have HSD := Lib.hid (sound_sides hE1)
  have HSD01 : Hid (side = 0 ∨ side = 1) := Lib.hid (by rw [htn]; exact turnF_side _)
  have HON : Hid s.nxt.Ok := Lib.hid ⟨⟨by show 0 ≤ s.rd + 1; have := hO.rd.1; omega, by show s.rd + 1 ≤ _; have := (sound_parts hE1).1; omega⟩, hO.m0, hO.m1, hO.t0, hO.t1⟩
  clear hE1 hrd htn
  have b3 : (k == 3) = false := by simpa using hk3
  have b4 : (k == 4) = false := by simpa using hk4
  have BX0 : Hid (Below w.heap.size w ((((w.alloc (.cells #[.int .u32 s.ch, .int .u64 s.rd, .int .u64 s.m0, .int .u64 s.m1, .int .u64 s.t0, .int .u64 s.t1, .slice a n cap] 27)).alloc (.cells #[.int .u64 p0, .int .u64 p1] 24)).alloc (.cells (ocells k amt c id).toArray 55)).alloc (.cells #[.int .u32 0, .int .u64 0, .int .u64 0, .int .u64 0, .int .u64 0, .int .u64 0, .slice none 0 0] 27))) := Lib.hid (((((Below.refl _ _).alloc (Nat.le_refl _) _).alloc (by simp) _).alloc (by simp; omega) _).alloc (by simp; omega) _)
  have SX0 : Hid (Blk ((((w.alloc (.cells #[.int .u32 s.ch, .int .u64 s.rd, .int .u64 s.m0, .int .u64 s.m1, .int .u64 s.t0, .int .u64 s.t1, .slice a n cap] 27)).alloc (.cells #[.int .u64 p0, .int .u64 p1] 24)).alloc (.cells (ocells k amt c id).toArray 55)).alloc (.cells #[.int .u32 0, .int .u64 0, .int .u64 0, .int .u64 0, .int .u64 0, .int .u64 0, .slice none 0 0] 27)) w.heap.size 27 [.int .u32 s.ch, .int .u64 s.rd, .int .u64 s.m0, .int .u64 s.m1, .int .u64 s.t0, .int .u64 s.t1, .slice a n cap]) := Lib.hid ((((Blk.mk_ rfl).alloc _).alloc _).alloc _)
  have PX0 : Hid (Blk ((((w.alloc (.cells #[.int .u32 s.ch, .int .u64 s.rd, .int .u64 s.m0, .int .u64 s.m1, .int .u64 s.t0, .int .u64 s.t1, .slice a n cap] 27)).alloc (.cells #[.int .u64 p0, .int .u64 p1] 24)).alloc (.cells (ocells k amt c id).toArray 55)).alloc (.cells #[.int .u32 0, .int .u64 0, .int .u64 0, .int .u64 0, .int .u64 0, .int .u64 0, .slice none 0 0] 27)) (w.heap.size + 1) 24 [.int .u64 p0, .int .u64 p1]) := Lib.hid (((Blk.mk_ (by simp)).alloc _).alloc _)
  have KX0 : Hid (Blk ((((w.alloc (.cells #[.int .u32 s.ch, .int .u64 s.rd, .int .u64 s.m0, .int .u64 s.m1, .int .u64 s.t0, .int .u64 s.t1, .slice a n cap] 27)).alloc (.cells #[.int .u64 p0, .int .u64 p1] 24)).alloc (.cells (ocells k amt c id).toArray 55)).alloc (.cells #[.int .u32 0, .int .u64 0, .int .u64 0, .int .u64 0, .int .u64 0, .int .u64 0, .slice none 0 0] 27)) (w.heap.size + 1 + 1) 55 (ocells k amt c id)) := Lib.hid ((Blk.mk_ (by simp)).alloc _)
  have RX0 : Hid (Blk ((((w.alloc (.cells #[.int .u32 s.ch, .int .u64 s.rd, .int .u64 s.m0, .int .u64 s.m1, .int .u64 s.t0, .int .u64 s.t1, .slice a n cap] 27)).alloc (.cells #[.int .u64 p0, .int .u64 p1] 24)).alloc (.cells (ocells k amt c id).toArray 55)).alloc (.cells #[.int .u32 0, .int .u64 0, .int .u64 0, .int .u64 0, .int .u64 0, .int .u64 0, .slice none 0 0] 27)) (w.heap.size + 1 + 1 + 1) 27 [.int .u32 0, .int .u64 0, .int .u64 0, .int .u64 0, .int .u64 0, .int .u64 0, .slice none 0 0]) := Lib.hid (Blk.mk_ (by simp))
  have HOK := Lib.hid hok
  have HO := Lib.hid hO
  have HC := Lib.hid hC
  have HL := Lib.hid hl
  clear hC hl hok hO
  go_enter Try.func26, Try.ntmps26
  go_upto_region 1 with fail
  generalize ((((w.alloc (.cells #[.int .u32 s.ch, .int .u64 s.rd, .int .u64 s.m0, .int .u64 s.m1, .int .u64 s.t0, .int .u64 s.t1, .slice a n cap] 27)).alloc (.cells #[.int .u64 p0, .int .u64 p1] 24)).alloc (.cells (ocells k amt c id).toArray 55)).alloc (.cells #[.int .u32 0, .int .u64 0, .int .u64 0, .int .u64 0, .int .u64 0, .int .u64 0, .slice none 0 0] 27)) = X0 at BX0 SX0 PX0 KX0 RX0 ⊢
  obtain ⟨gR, hgR⟩ : ∃ q, w.heap.size + 1 + 1 + 1 = q := ⟨_, rfl⟩
  obtain ⟨gk, hgk⟩ : ∃ q, w.heap.size + 1 + 1 = q := ⟨_, rfl⟩
  obtain ⟨gp, hgp⟩ : ∃ q, w.heap.size + 1 = q := ⟨_, rfl⟩
  obtain ⟨gS, hgS⟩ : ∃ q, w.heap.size = q := ⟨_, rfl⟩
  have HGR : Hid (w.heap.size ≤ gR) := Lib.hid (by omega)
  have HPK : Hid (gp < gR ∧ gk < gR ∧ gS < gR) := Lib.hid ⟨by omega, by omega, by omega⟩
  rw [hgR] at RX0 ⊢
  rw [hgk] at KX0 ⊢
  rw [hgp] at PX0 ⊢
  rw [hgS] at SX0 ⊢
  clear hgR hgk hgp hgS
  have k0 := SX0.out.cell 0
  have k1 := SX0.out.cell 1
  have k2 := SX0.out.cell 2
  have k3 := SX0.out.cell 3
  have k4 := SX0.out.cell 4
  have k5 := SX0.out.cell 5
  have k6 := SX0.out.cell 6
  simp only [List.getElem?_cons_zero, List.getElem?_cons_succ] at k0 k1 k2 k3 k4 k5 k6
  have q0 := PX0.out.cell 0
  have q1 := PX0.out.cell 1
  simp only [List.getElem?_cons_zero, List.getElem?_cons_succ] at q0 q1
  go_wp2_with fail
  clear k0 k1 k2 k3 k4 k5 k6 q0 q1
  refine ((show Calls Try.prog 16 #[.agg #[.int .u32 s.ch, .int .u64 s.rd, .int .u64 s.m0, .int .u64 s.m1, .int .u64 s.t0, .int .u64 s.t1, .slice a n cap], .agg #[.int .u64 p0, .int .u64 p1]] X0 (fun e w2 => e = .returned (.int .i64 (soundE s p0 p1)) ∧ Below X0.heap.size X0 w2) from rsound_any s.ch s.rd s.m0 s.m1 s.t0 s.t1 a n cap s.cs p0 p1 X0 (HC.out.below BX0.out) HL.out hn hp0 hp1 HO.out.eta)).mono ?_
  rintro e Y1 ⟨rfl, hB⟩
  have BY1 : Hid (Below w.heap.size w Y1) := Lib.hid (BX0.out.trans (hB.mono BX0.out.size))
  have SY1 : Hid (Blk Y1 gS 27 [.int .u32 s.ch, .int .u64 s.rd, .int .u64 s.m0, .int .u64 s.m1, .int .u64 s.t0, .int .u64 s.t1, .slice a n cap]) := Lib.hid (SX0.out.below hB SX0.out.lt)
  have PY1 : Hid (Blk Y1 gp 24 [.int .u64 p0, .int .u64 p1]) := Lib.hid (PX0.out.below hB PX0.out.lt)
  have KY1 : Hid (Blk Y1 gk 55 (ocells k amt c id)) := Lib.hid (KX0.out.below hB KX0.out.lt)
  have RY1 : Hid (Blk Y1 gR 27 [.int .u32 0, .int .u64 0, .int .u64 0, .int .u64 0, .int .u64 0, .int .u64 0, .slice none 0 0]) := Lib.hid (RX0.out.below hB RX0.out.lt)
  clear BX0 SX0 PX0 KX0 RX0
  clear hB
  rw [HE1.out]
  have k0 := SY1.out.cell 0
  have k1 := SY1.out.cell 1
  have k2 := SY1.out.cell 2
  have k3 := SY1.out.cell 3
  have k4 := SY1.out.cell 4
  have k5 := SY1.out.cell 5
  have k6 := SY1.out.cell 6
  simp only [List.getElem?_cons_zero, List.getElem?_cons_succ] at k0 k1 k2 k3 k4 k5 k6
  have b2 : (s.rd == 200) = false := by simpa using H2.out
  have e1 : IntKind.u64.wrap (s.rd + 1) = s.rd + 1 := IntWalk.u64_in _ ⟨by have := HO.out.rd.1; omega, by have := HSP.out.1; omega⟩
  have hw1 : Word (s.rd + 1) := ⟨by have := HO.out.rd.1; omega, by have := HSP.out.1; omega⟩
  have HTC : Hid (∀ W, Calls Try.prog 23 #[.int .u64 (s.rd + 1)] W fun e w2 => e = .returned (.int .i64 side) ∧ W = w2) := Lib.hid (fun W => by have := rturn_any (s.rd + 1) W hw1; rwa [← H3.out] at this)
  clear hw1
  have b3 : (side != side) = false := by simp
  have zb := built27 s.ch (s.rd + 1) s.m0 s.m1 s.t0 s.t1
  have HLA := heap_alloc_last Y1 (.cells #[.int .u32 0, .int .u64 0, .int .u64 0, .int .u64 0, .int .u64 0, .int .u64 0, .slice none 0 0] 27)
  have hz1 : (Try.prog.info? 27).map (·.size) = some (#[.int .u32 s.ch, .int .u64 (s.rd + 1), .int .u64 s.m0, .int .u64 s.m1, .int .u64 s.t0, .int .u64 s.t1, .slice none 0 0] : Array Value).size := info27
  go_upto_region 9 with (first | (go_at_call 23; refine (HTC.out _).mono ?_; rintro e w2 ⟨rfl, rfl⟩) | (refine wpList_store_row rfl 27 (.tmp 11) (.tmp 43) rfl Y1.heap.size #[.int .u32 s.ch, .int .u64 (s.rd + 1), .int .u64 s.m0, .int .u64 s.m1, .int .u64 s.t0, .int .u64 s.t1, .slice none 0 0] rfl rfl 27 _ HLA hz1 rfl rfl ?_; rw [World.setRow_alloc_new]))
  clear HLA hz1 zb b2 b3 e1 k0 k1 k2 k3 k4 k5 k6
  have hB : Below Y1.heap.size Y1 (Y1.alloc (.cells #[.int .u32 s.ch, .int .u64 (s.rd + 1), .int .u64 s.m0, .int .u64 s.m1, .int .u64 s.t0, .int .u64 s.t1, .slice none 0 0] 27)) := (Below.refl _ _).alloc (Nat.le_refl _) _
  have NV : Hid (Blk (Y1.alloc (.cells #[.int .u32 s.ch, .int .u64 (s.rd + 1), .int .u64 s.m0, .int .u64 s.m1, .int .u64 s.t0, .int .u64 s.t1, .slice none 0 0] 27)) Y1.heap.size 27 [.int .u32 s.ch, .int .u64 (s.rd + 1), .int .u64 s.m0, .int .u64 s.m1, .int .u64 s.t0, .int .u64 s.t1, .slice none 0 0]) := Lib.hid (Blk.new Y1 27 [.int .u32 s.ch, .int .u64 (s.rd + 1), .int .u64 s.m0, .int .u64 s.m1, .int .u64 s.t0, .int .u64 s.t1, .slice none 0 0])
  have BV : Hid (Below w.heap.size w (Y1.alloc (.cells #[.int .u32 s.ch, .int .u64 (s.rd + 1), .int .u64 s.m0, .int .u64 s.m1, .int .u64 s.t0, .int .u64 s.t1, .slice none 0 0] 27))) := Lib.hid (BY1.out.trans (hB.mono BY1.out.size))
  have SV : Hid (Blk (Y1.alloc (.cells #[.int .u32 s.ch, .int .u64 (s.rd + 1), .int .u64 s.m0, .int .u64 s.m1, .int .u64 s.t0, .int .u64 s.t1, .slice none 0 0] 27)) gS 27 [.int .u32 s.ch, .int .u64 s.rd, .int .u64 s.m0, .int .u64 s.m1, .int .u64 s.t0, .int .u64 s.t1, .slice a n cap]) := Lib.hid (SY1.out.below hB SY1.out.lt)
  have PV : Hid (Blk (Y1.alloc (.cells #[.int .u32 s.ch, .int .u64 (s.rd + 1), .int .u64 s.m0, .int .u64 s.m1, .int .u64 s.t0, .int .u64 s.t1, .slice none 0 0] 27)) gp 24 [.int .u64 p0, .int .u64 p1]) := Lib.hid (PY1.out.below hB PY1.out.lt)
  have KV : Hid (Blk (Y1.alloc (.cells #[.int .u32 s.ch, .int .u64 (s.rd + 1), .int .u64 s.m0, .int .u64 s.m1, .int .u64 s.t0, .int .u64 s.t1, .slice none 0 0] 27)) gk 55 (ocells k amt c id)) := Lib.hid (KY1.out.below hB KY1.out.lt)
  have RV : Hid (Blk (Y1.alloc (.cells #[.int .u32 s.ch, .int .u64 (s.rd + 1), .int .u64 s.m0, .int .u64 s.m1, .int .u64 s.t0, .int .u64 s.t1, .slice none 0 0] 27)) gR 27 [.int .u32 0, .int .u64 0, .int .u64 0, .int .u64 0, .int .u64 0, .int .u64 0, .slice none 0 0]) := Lib.hid (RY1.out.below hB RY1.out.lt)
  have HGN : Hid (gR < Y1.heap.size ∧ gp < Y1.heap.size ∧ gk < Y1.heap.size ∧ gS < Y1.heap.size ∧ w.heap.size ≤ Y1.heap.size) := Lib.hid ⟨RY1.out.lt, PY1.out.lt, KY1.out.lt, SY1.out.lt, BY1.out.size⟩
  clear hB BY1 SY1 PY1 KY1 RY1
  generalize (Y1.alloc (.cells #[.int .u32 s.ch, .int .u64 (s.rd + 1), .int .u64 s.m0, .int .u64 s.m1, .int .u64 s.t0, .int .u64 s.t1, .slice none 0 0] 27)) = V at BV SV PV KV RV NV ⊢
  generalize Y1.heap.size = gN at NV HGN ⊢
  have kk := KV.out.cell 0
  rw [ocells_0] at kk
  go_wp2
  clear kk
  have OV : Hid (V.ownsRow w.heap.size 53 36 (.slice none 0 0) (skp (-1) s.cs 0).length (cflat (skp (-1) s.cs 0))) := Lib.hid (by rw [skp_0]; exact World.ownsRow_nil _ _ _ _)
  go_loopw [13] (fun x wr => ∃ (i : Nat) (v : Value), i ≤ n ∧ x = .int .i64 i ∧ Hid (wr.ownsRow w.heap.size 53 36 v (skp (-1) s.cs i).length (cflat (skp (-1) s.cs i))) ∧ Hid (Blk wr gN 27 [.int .u32 s.ch, .int .u64 (s.rd + 1), .int .u64 s.m0, .int .u64 s.m1, .int .u64 s.t0, .int .u64 s.t1, v]) ∧ Hid (Below w.heap.size w wr) ∧ Hid (Blk wr gS 27 [.int .u32 s.ch, .int .u64 s.rd, .int .u64 s.m0, .int .u64 s.m1, .int .u64 s.t0, .int .u64 s.t1, .slice a n cap]) ∧ Hid (Blk wr gp 24 [.int .u64 p0, .int .u64 p1]) ∧ Hid (Blk wr gk 55 (ocells k amt c id)) ∧ Hid (Blk wr gR 27 [.int .u32 0, .int .u64 0, .int .u64 0, .int .u64 0, .int .u64 0, .int .u64 0, .slice none 0 0])) (fun x _ => n - (intOf x).toNat)
  case atStart => exact ⟨0, _, Nat.zero_le _, rfl, OV, NV, BV, SV, PV, KV, RV⟩
  case round =>
    clear OV NV BV SV PV KV RV
    obtain ⟨i, v, hi, rfl, Owr, Nwr, Bwr, Swr, Pwr, Kwr, Rwr⟩ := hrel
    by_cases hlt : i < n
    · have hi' : i < s.cs.length := by rw [HL.out]; exact hlt
      obtain ⟨b, o, c1, rfl, hb, hc, hr, hok1⟩ := HC.out.get hi'
      have HR0 := Lib.hid hr
      have HBL := Lib.hid hb
      have HOK1 := Lib.hid hok1
      have k6 := Swr.out.cell 6
      simp only [List.getElem?_cons_zero, List.getElem?_cons_succ] at k6
      have HF : Hid (skp (-1) s.cs (i + 1) = skp (-1) s.cs i ++ [c1]) := Lib.hid (by rw [skp_ne (-1) s.cs i hi' (by omega), hc])
      have hni : ((i : Int) != (-1)) = true := by have : (i : Int) ≠ (-1) := (by omega); exact bne_iff_ne.2 this
      clear hr hb hok1 hc hi'
      go_upto_region 18 with fail
      clear k6 hni
      obtain ⟨m, hm⟩ : ∃ m, (skp (-1) s.cs i).length = m := ⟨_, rfl⟩
      have hml : m ≤ 1000 := by have := skp_len ((-1)) s.cs i; omega
      rw [hm] at Owr
      have HM := Lib.hid hm
      clear hm
      obtain ⟨va, vc, htv⟩ := own_slice Owr.out
      have HTV := Lib.hid htv
      clear htv
      have hzc : (Try.prog.info? 53).map (·.size) = some c1.cells.length := by rw [HOK1.out.len]; exact info53
      obtain ⟨i0, hi0, hz0, hz1, hz2⟩ := info_parts zinfo53
      have hBz : Below wr.heap.size wr wr.drew := below_drewN (Below.refl _ _) 1
      have BX0 : Hid (Below w.heap.size w wr.drew) := Lib.hid (Bwr.out.trans (hBz.mono Bwr.out.size))
      have SX0 : Hid (Blk wr.drew gS 27 [.int .u32 s.ch, .int .u64 s.rd, .int .u64 s.m0, .int .u64 s.m1, .int .u64 s.t0, .int .u64 s.t1, .slice (some ⟨b, o, none⟩) n cap]) := Lib.hid (Swr.out.below hBz Swr.out.lt)
      have PX0 : Hid (Blk wr.drew gp 24 [.int .u64 p0, .int .u64 p1]) := Lib.hid (Pwr.out.below hBz Pwr.out.lt)
      have KX0 : Hid (Blk wr.drew gk 55 (ocells k amt c id)) := Lib.hid (Kwr.out.below hBz Kwr.out.lt)
      have RX0 : Hid (Blk wr.drew gR 27 [.int .u32 0, .int .u64 0, .int .u64 0, .int .u64 0, .int .u64 0, .int .u64 0, .slice none 0 0]) := Lib.hid (Rwr.out.below hBz Rwr.out.lt)
      have NX0 : Hid (Blk wr.drew gN 27 [.int .u32 s.ch, .int .u64 (s.rd + 1), .int .u64 s.m0, .int .u64 s.m1, .int .u64 s.t0, .int .u64 s.t1, v]) := Lib.hid (Nwr.out.below hBz Nwr.out.lt)
      have OX0 : Hid (wr.drew.ownsRow w.heap.size 53 36 v m (cflat (skp (-1) s.cs i))) := Lib.hid (own_keep Owr.out hBz)
      clear hBz
      refine wp_region_held_drew (S := fun w' => Blk w' gS 27 [.int .u32 s.ch, .int .u64 s.rd, .int .u64 s.m0, .int .u64 s.m1, .int .u64 s.t0, .int .u64 s.t1, .slice (some ⟨b, o, none⟩) n cap] ∧ Below w.heap.size w w') (by kernel_rfl) (⟨SX0.out, BX0.out⟩) (fun hHeld => ?_)
      generalize wr.drew = X0 at hHeld BX0 SX0 PX0 KX0 RX0 NX0 OX0 ⊢
      refine wpAnyH_take (i := 0) (v := .pointer (some ⟨gN, 6, none⟩)) rfl (by kernel_rfl) (by kernel_rfl) (by kernel_rfl) (fun _ _ _ h => h) (Or.inl ⟨by rfl, by intro w' h; go_simp⟩) hHeld ?_
      show wpAnyH _ _ _ _ _ _ _ (Act.put _ (some 69) _) _
      simp only [Act.put, List.setIfInBounds_toArray, List.set_cons_zero, List.set_cons_succ]
      refine wpAnyH_take (i := 2) (v := .pointer (some ⟨gS, 6, none⟩)) rfl (by kernel_rfl) (by kernel_rfl) (by kernel_rfl) (fun _ _ _ h => h) (Or.inl ⟨by rfl, by intro w' h; go_simp⟩) hHeld ?_
      show wpAnyH _ _ _ _ _ _ _ (Act.put _ (some 71) _) _
      simp only [Act.put, List.setIfInBounds_toArray, List.set_cons_zero, List.set_cons_succ]
      refine wpAnyH_take (i := 3) (v := .slice (some ⟨b, o, none⟩) n cap) rfl (by kernel_rfl) (by kernel_rfl) (by kernel_rfl) (fun _ _ _ h => h) (Or.inl ⟨by rfl, by intro w' h; have q6 := Blk.cell h.1 6; simp only [List.getElem?_cons_zero, List.getElem?_cons_succ] at q6; go_simp⟩) hHeld ?_
      show wpAnyH _ _ _ _ _ _ _ (Act.put _ (some 72) _) _
      simp only [Act.put, List.setIfInBounds_toArray, List.set_cons_zero, List.set_cons_succ]
      refine wpAnyH_take (i := 4) (v := .int .i64 (i : Int)) rfl (by kernel_rfl) (by kernel_rfl) (by kernel_rfl) (fun _ _ _ h => h) (Or.inl ⟨by rfl, fun w _ => by rfl⟩) hHeld ?_
      show wpAnyH _ _ _ _ _ _ _ (Act.put _ (some 73) _) _
      simp only [Act.put, List.setIfInBounds_toArray, List.set_cons_zero, List.set_cons_succ]
      refine wpAnyH_take (i := 5) (v := .pointer (some ⟨b, o + i * 36, none⟩)) rfl (by kernel_rfl) (by kernel_rfl) (by kernel_rfl) (fun _ _ _ h => h) (Or.inl ⟨by rfl, by intro w' h; go_simp⟩) hHeld ?_
      show wpAnyH _ _ _ _ _ _ _ (Act.put _ (some 74) _) _
      simp only [Act.put, List.setIfInBounds_toArray, List.set_cons_zero, List.set_cons_succ]
      refine wpAnyH_take (i := 6) (v := .agg c1.cells.toArray) rfl (by kernel_rfl) (by kernel_rfl) (by kernel_rfl) (fun _ _ _ h => h) (yieldsIf_load_mid (by rfl) 53 (.tmp 74) rfl b (o + i * 36) rfl c1.cells _ (fun w h => range_below HR0.out h.2 HBL.out) Try.underlying53 rfl hzc) hHeld ?_
      show wpAnyH _ _ _ _ _ _ _ (Act.put _ (some 75) _) _
      simp only [Act.put, List.setIfInBounds_toArray, List.set_cons_zero, List.set_cons_succ]
      refine wpAnyH_ready (rs := [1, 7]) (by kernel_rfl) (by simp) ?_
      refine AllReadyH.cons rfl (fun K hK => ?_) (AllReadyH.cons rfl (fun K hK => ?_) AllReadyH.nil)
      · refine step_ld rfl 25 (.tmp 69) rfl gN 6 rfl v (run_load_slice 25 (by decide) X0 gN 6 va _ vc 27 _ NX0.out v HTV.out rfl) ?_
        refine hK.out _ _ (⟨SX0.out, BX0.out⟩) (fun hHeld => ?_)
        clear hK K
        show wpAnyH _ _ _ _ _ _ _ (Act.put _ (some 70) _) _
        simp only [Act.put, List.setIfInBounds_toArray, List.set_cons_zero, List.set_cons_succ]
        refine wpAnyH_ready (rs := [7]) (by kernel_rfl) (by simp) ?_
        refine AllReadyH.cons rfl (fun K hK => ?_) AllReadyH.nil
        refine step_lay rfl 25 1 #[(0, .tmp 75)] rfl #[(0, .agg c1.cells.toArray)] (by simp [Act.eval]) _ _ (lay25 c1 HOK1.out X0) ?_
        have hB : Below X0.heap.size X0 (X0.alloc (.cells c1.cells.toArray 53)) := (Below.refl _ _).alloc (Nat.le_refl _) _
        have hLL := Blk.new X0 53 c1.cells
        generalize X0.alloc (.cells c1.cells.toArray 53) = X2 at hB hLL ⊢
        obtain ⟨gl, hgl⟩ : ∃ g, X0.heap.size = g := ⟨_, rfl⟩
        rw [hgl] at hLL ⊢
        clear hgl
        have BX2 : Hid (Below w.heap.size w X2) := Lib.hid (BX0.out.trans (hB.mono BX0.out.size))
        have SX2 : Hid (Blk X2 gS 27 [.int .u32 s.ch, .int .u64 s.rd, .int .u64 s.m0, .int .u64 s.m1, .int .u64 s.t0, .int .u64 s.t1, .slice (some ⟨b, o, none⟩) n cap]) := Lib.hid (SX0.out.below hB SX0.out.lt)
        have PX2 : Hid (Blk X2 gp 24 [.int .u64 p0, .int .u64 p1]) := Lib.hid (PX0.out.below hB PX0.out.lt)
        have KX2 : Hid (Blk X2 gk 55 (ocells k amt c id)) := Lib.hid (KX0.out.below hB KX0.out.lt)
        have RX2 : Hid (Blk X2 gR 27 [.int .u32 0, .int .u64 0, .int .u64 0, .int .u64 0, .int .u64 0, .int .u64 0, .slice none 0 0]) := Lib.hid (RX0.out.below hB RX0.out.lt)
        have NX2 : Hid (Blk X2 gN 27 [.int .u32 s.ch, .int .u64 (s.rd + 1), .int .u64 s.m0, .int .u64 s.m1, .int .u64 s.t0, .int .u64 s.t1, v]) := Lib.hid (NX0.out.below hB NX0.out.lt)
        have OX2 : Hid (X2.ownsRow w.heap.size 53 36 v m (cflat (skp (-1) s.cs i))) := Lib.hid (own_keep OX0.out hB)
        have LLX2 : Hid (Blk X2 gl 53 c1.cells) := Lib.hid (hLL)
        clear BX0 SX0 PX0 KX0 RX0 NX0 OX0 hB hLL
        refine hK.out _ _ (⟨SX2.out, BX2.out⟩) (fun hHeld => ?_)
        clear hK K
        show wpAnyH _ _ _ _ _ _ _ (Act.put _ (some 76) _) _
        simp only [Act.put, List.setIfInBounds_toArray, List.set_cons_zero, List.set_cons_succ]
        refine wpAnyH_ready (rs := [8]) (by kernel_rfl) (by simp) ?_
        refine AllReadyH.cons rfl (fun K hK => ?_) AllReadyH.nil
        refine step_own rfl (.tmp 70) (.tmp 76) 25 rfl w.heap.size 53 i0 (.agg cz) 36 64 Try.underlying25 hi0 hz0 hz1 hz2 rfl (by decide) v m _ rfl OX2.out ⟨gl, 0, none⟩ 1 1 c1.cells rfl (by rw [HOK1.out.len]) (news_of LLX2.out) c1.one (by unfold maxLen; omega) (by omega) BX2.out.size ?_
        intro v2 X3 hown hO _ _
        have hKW : ∀ q, v.ownBlock = some q → w.heap.size ≤ q := fun q hq => (OX2.out.lt q hq).1
        have hnS := own_ne OX2.out SX2.out (by decide)
        have hnP := own_ne OX2.out PX2.out (by decide)
        have hnK := own_ne OX2.out KX2.out (by decide)
        have hnR := own_ne OX2.out RX2.out (by decide)
        have hnN := own_ne OX2.out NX2.out (by decide)
        have BX3 : Hid (Below w.heap.size w X3) := Lib.hid (BX2.out.grown hO BX2.out.size hKW)
        have SX3 : Hid (Blk X3 gS 27 [.int .u32 s.ch, .int .u64 s.rd, .int .u64 s.m0, .int .u64 s.m1, .int .u64 s.t0, .int .u64 s.t1, .slice (some ⟨b, o, none⟩) n cap]) := Lib.hid (SX2.out.grown hO hnS)
        have PX3 : Hid (Blk X3 gp 24 [.int .u64 p0, .int .u64 p1]) := Lib.hid (PX2.out.grown hO hnP)
        have KX3 : Hid (Blk X3 gk 55 (ocells k amt c id)) := Lib.hid (KX2.out.grown hO hnK)
        have RX3 : Hid (Blk X3 gR 27 [.int .u32 0, .int .u64 0, .int .u64 0, .int .u64 0, .int .u64 0, .int .u64 0, .slice none 0 0]) := Lib.hid (RX2.out.grown hO hnR)
        have NX3 : Hid (Blk X3 gN 27 [.int .u32 s.ch, .int .u64 (s.rd + 1), .int .u64 s.m0, .int .u64 s.m1, .int .u64 s.t0, .int .u64 s.t1, v]) := Lib.hid (NX2.out.grown hO hnN)
        have OX3 : Hid (X3.ownsRow w.heap.size 53 36 v2 (m + 1) (cflat (skp (-1) s.cs i) ++ c1.cells)) := Lib.hid (hown)
        clear BX2 SX2 PX2 KX2 RX2 NX2 hO hown hKW hnS hnP hnK hnR hnN OX2 LLX2
        refine hK.out _ _ (⟨SX3.out, BX3.out⟩) (fun hHeld => ?_)
        clear hK K
        show wpAnyH _ _ _ _ _ _ _ (Act.put _ (some 77) _) _
        simp only [Act.put, List.setIfInBounds_toArray, List.set_cons_zero, List.set_cons_succ]
        refine wpAnyH_take (i := 9) (v := .pointer (some ⟨gN, 6, none⟩)) rfl (by kernel_rfl) (by kernel_rfl) (by kernel_rfl) (fun _ _ _ h => h) (Or.inl ⟨by rfl, by intro w' h; go_simp⟩) hHeld ?_
        show wpAnyH _ _ _ _ _ _ _ (Act.put _ (some 78) _) _
        simp only [Act.put, List.setIfInBounds_toArray, List.set_cons_zero, List.set_cons_succ]
        refine wpAnyH_ready (rs := [10]) (by kernel_rfl) (by simp) ?_
        refine AllReadyH.cons rfl (fun K hK => ?_) AllReadyH.nil
        obtain ⟨a2, c2, htv2⟩ := own_slice OX3.out
        refine step_cell rfl 25 (.tmp 78) (.tmp 77) rfl gN 6 rfl v2 rfl 27 _ NX3.out (run_store_slice 25 (by decide) X3 gN 6 a2 _ c2 27 _ NX3.out (by simp) v2 htv2) ?_
        clear htv2
        intro X4 hNb hO
        have hKW : ∀ q, some gN = some q → w.heap.size ≤ q := fun q hq => by injection hq with hq; have := HGN.out; omega
        have hTO : v2.ownBlock = none ∨ v2.ownBlock ≠ some gN := .inr (fun e => own_ne OX3.out NX3.out (by decide) e.symm)
        have hnS : some gS ≠ some gN := fun e => by injection e with e; have := HGN.out; omega
        have hnP : some gp ≠ some gN := fun e => by injection e with e; have := HGN.out; omega
        have hnK : some gk ≠ some gN := fun e => by injection e with e; have := HGN.out; omega
        have hnR : some gR ≠ some gN := fun e => by injection e with e; have := HGN.out; omega
        have BX4 : Hid (Below w.heap.size w X4) := Lib.hid (BX3.out.grown hO BX3.out.size hKW)
        have SX4 : Hid (Blk X4 gS 27 [.int .u32 s.ch, .int .u64 s.rd, .int .u64 s.m0, .int .u64 s.m1, .int .u64 s.t0, .int .u64 s.t1, .slice (some ⟨b, o, none⟩) n cap]) := Lib.hid (SX3.out.grown hO hnS)
        have PX4 : Hid (Blk X4 gp 24 [.int .u64 p0, .int .u64 p1]) := Lib.hid (PX3.out.grown hO hnP)
        have KX4 : Hid (Blk X4 gk 55 (ocells k amt c id)) := Lib.hid (KX3.out.grown hO hnK)
        have RX4 : Hid (Blk X4 gR 27 [.int .u32 0, .int .u64 0, .int .u64 0, .int .u64 0, .int .u64 0, .int .u64 0, .slice none 0 0]) := Lib.hid (RX3.out.grown hO hnR)
        have OX4 : Hid (X4.ownsRow w.heap.size 53 36 v2 (m + 1) (cflat (skp (-1) s.cs i) ++ c1.cells)) := Lib.hid (OX3.out.kept hO hTO)
        have NX4 : Hid (Blk X4 gN 27 [.int .u32 s.ch, .int .u64 (s.rd + 1), .int .u64 s.m0, .int .u64 s.m1, .int .u64 s.t0, .int .u64 s.t1, v2]) := Lib.hid (hNb)
        clear BX3 SX3 PX3 KX3 RX3 OX3 hO hNb hKW hTO hnS hnP hnK hnR NX3
        refine hK.out _ _ (⟨SX4.out, BX4.out⟩) (fun hHeld => ?_)
        clear hK K
        show wpAnyH _ _ _ _ _ _ _ (Act.put _ none _) _
        simp only [Act.put]
        refine wpAnyH_done (by kernel_rfl) ?_ _
        clear hHeld
        go_wp2
        go_roundw
        case rel => exact ⟨i + 1, v2, by omega, by go_num, Lib.hid (by rw [HF.out, List.length_append, HM.out, cflat_append, show cflat [c1] = c1.cells by simp [cflat]]; exact OX4.out), NX4, BX4, SX4, PX4, KX4, RX4⟩
        case measure => simp [intOf] <;> omega
      · refine step_lay rfl 25 1 #[(0, .tmp 75)] rfl #[(0, .agg c1.cells.toArray)] (by simp [Act.eval]) _ _ (lay25 c1 HOK1.out X0) ?_
        have hB : Below X0.heap.size X0 (X0.alloc (.cells c1.cells.toArray 53)) := (Below.refl _ _).alloc (Nat.le_refl _) _
        have hLL := Blk.new X0 53 c1.cells
        generalize X0.alloc (.cells c1.cells.toArray 53) = X1 at hB hLL ⊢
        obtain ⟨gl, hgl⟩ : ∃ g, X0.heap.size = g := ⟨_, rfl⟩
        rw [hgl] at hLL ⊢
        clear hgl
        have BX1 : Hid (Below w.heap.size w X1) := Lib.hid (BX0.out.trans (hB.mono BX0.out.size))
        have SX1 : Hid (Blk X1 gS 27 [.int .u32 s.ch, .int .u64 s.rd, .int .u64 s.m0, .int .u64 s.m1, .int .u64 s.t0, .int .u64 s.t1, .slice (some ⟨b, o, none⟩) n cap]) := Lib.hid (SX0.out.below hB SX0.out.lt)
        have PX1 : Hid (Blk X1 gp 24 [.int .u64 p0, .int .u64 p1]) := Lib.hid (PX0.out.below hB PX0.out.lt)
        have KX1 : Hid (Blk X1 gk 55 (ocells k amt c id)) := Lib.hid (KX0.out.below hB KX0.out.lt)
        have RX1 : Hid (Blk X1 gR 27 [.int .u32 0, .int .u64 0, .int .u64 0, .int .u64 0, .int .u64 0, .int .u64 0, .slice none 0 0]) := Lib.hid (RX0.out.below hB RX0.out.lt)
        have NX1 : Hid (Blk X1 gN 27 [.int .u32 s.ch, .int .u64 (s.rd + 1), .int .u64 s.m0, .int .u64 s.m1, .int .u64 s.t0, .int .u64 s.t1, v]) := Lib.hid (NX0.out.below hB NX0.out.lt)
        have OX1 : Hid (X1.ownsRow w.heap.size 53 36 v m (cflat (skp (-1) s.cs i))) := Lib.hid (own_keep OX0.out hB)
        have LLX1 : Hid (Blk X1 gl 53 c1.cells) := Lib.hid (hLL)
        clear BX0 SX0 PX0 KX0 RX0 NX0 OX0 hB hLL
        refine hK.out _ _ (⟨SX1.out, BX1.out⟩) (fun hHeld => ?_)
        clear hK K
        show wpAnyH _ _ _ _ _ _ _ (Act.put _ (some 76) _) _
        simp only [Act.put, List.setIfInBounds_toArray, List.set_cons_zero, List.set_cons_succ]
        refine wpAnyH_ready (rs := [1]) (by kernel_rfl) (by simp) ?_
        refine AllReadyH.cons rfl (fun K hK => ?_) AllReadyH.nil
        refine step_ld rfl 25 (.tmp 69) rfl gN 6 rfl v (run_load_slice 25 (by decide) X1 gN 6 va _ vc 27 _ NX1.out v HTV.out rfl) ?_
        refine hK.out _ _ (⟨SX1.out, BX1.out⟩) (fun hHeld => ?_)
        clear hK K
        show wpAnyH _ _ _ _ _ _ _ (Act.put _ (some 70) _) _
        simp only [Act.put, List.setIfInBounds_toArray, List.set_cons_zero, List.set_cons_succ]
        refine wpAnyH_ready (rs := [8]) (by kernel_rfl) (by simp) ?_
        refine AllReadyH.cons rfl (fun K hK => ?_) AllReadyH.nil
        refine step_own rfl (.tmp 70) (.tmp 76) 25 rfl w.heap.size 53 i0 (.agg cz) 36 64 Try.underlying25 hi0 hz0 hz1 hz2 rfl (by decide) v m _ rfl OX1.out ⟨gl, 0, none⟩ 1 1 c1.cells rfl (by rw [HOK1.out.len]) (news_of LLX1.out) c1.one (by unfold maxLen; omega) (by omega) BX1.out.size ?_
        intro v2 X3 hown hO _ _
        have hKW : ∀ q, v.ownBlock = some q → w.heap.size ≤ q := fun q hq => (OX1.out.lt q hq).1
        have hnS := own_ne OX1.out SX1.out (by decide)
        have hnP := own_ne OX1.out PX1.out (by decide)
        have hnK := own_ne OX1.out KX1.out (by decide)
        have hnR := own_ne OX1.out RX1.out (by decide)
        have hnN := own_ne OX1.out NX1.out (by decide)
        have BX3 : Hid (Below w.heap.size w X3) := Lib.hid (BX1.out.grown hO BX1.out.size hKW)
        have SX3 : Hid (Blk X3 gS 27 [.int .u32 s.ch, .int .u64 s.rd, .int .u64 s.m0, .int .u64 s.m1, .int .u64 s.t0, .int .u64 s.t1, .slice (some ⟨b, o, none⟩) n cap]) := Lib.hid (SX1.out.grown hO hnS)
        have PX3 : Hid (Blk X3 gp 24 [.int .u64 p0, .int .u64 p1]) := Lib.hid (PX1.out.grown hO hnP)
        have KX3 : Hid (Blk X3 gk 55 (ocells k amt c id)) := Lib.hid (KX1.out.grown hO hnK)
        have RX3 : Hid (Blk X3 gR 27 [.int .u32 0, .int .u64 0, .int .u64 0, .int .u64 0, .int .u64 0, .int .u64 0, .slice none 0 0]) := Lib.hid (RX1.out.grown hO hnR)
        have NX3 : Hid (Blk X3 gN 27 [.int .u32 s.ch, .int .u64 (s.rd + 1), .int .u64 s.m0, .int .u64 s.m1, .int .u64 s.t0, .int .u64 s.t1, v]) := Lib.hid (NX1.out.grown hO hnN)
        have OX3 : Hid (X3.ownsRow w.heap.size 53 36 v2 (m + 1) (cflat (skp (-1) s.cs i) ++ c1.cells)) := Lib.hid (hown)
        clear BX1 SX1 PX1 KX1 RX1 NX1 hO hown hKW hnS hnP hnK hnR hnN OX1 LLX1
        refine hK.out _ _ (⟨SX3.out, BX3.out⟩) (fun hHeld => ?_)
        clear hK K
        show wpAnyH _ _ _ _ _ _ _ (Act.put _ (some 77) _) _
        simp only [Act.put, List.setIfInBounds_toArray, List.set_cons_zero, List.set_cons_succ]
        refine wpAnyH_take (i := 9) (v := .pointer (some ⟨gN, 6, none⟩)) rfl (by kernel_rfl) (by kernel_rfl) (by kernel_rfl) (fun _ _ _ h => h) (Or.inl ⟨by rfl, by intro w' h; go_simp⟩) hHeld ?_
        show wpAnyH _ _ _ _ _ _ _ (Act.put _ (some 78) _) _
        simp only [Act.put, List.setIfInBounds_toArray, List.set_cons_zero, List.set_cons_succ]
        refine wpAnyH_ready (rs := [10]) (by kernel_rfl) (by simp) ?_
        refine AllReadyH.cons rfl (fun K hK => ?_) AllReadyH.nil
        obtain ⟨a2, c2, htv2⟩ := own_slice OX3.out
        refine step_cell rfl 25 (.tmp 78) (.tmp 77) rfl gN 6 rfl v2 rfl 27 _ NX3.out (run_store_slice 25 (by decide) X3 gN 6 a2 _ c2 27 _ NX3.out (by simp) v2 htv2) ?_
        clear htv2
        intro X4 hNb hO
        have hKW : ∀ q, some gN = some q → w.heap.size ≤ q := fun q hq => by injection hq with hq; have := HGN.out; omega
        have hTO : v2.ownBlock = none ∨ v2.ownBlock ≠ some gN := .inr (fun e => own_ne OX3.out NX3.out (by decide) e.symm)
        have hnS : some gS ≠ some gN := fun e => by injection e with e; have := HGN.out; omega
        have hnP : some gp ≠ some gN := fun e => by injection e with e; have := HGN.out; omega
        have hnK : some gk ≠ some gN := fun e => by injection e with e; have := HGN.out; omega
        have hnR : some gR ≠ some gN := fun e => by injection e with e; have := HGN.out; omega
        have BX4 : Hid (Below w.heap.size w X4) := Lib.hid (BX3.out.grown hO BX3.out.size hKW)
        have SX4 : Hid (Blk X4 gS 27 [.int .u32 s.ch, .int .u64 s.rd, .int .u64 s.m0, .int .u64 s.m1, .int .u64 s.t0, .int .u64 s.t1, .slice (some ⟨b, o, none⟩) n cap]) := Lib.hid (SX3.out.grown hO hnS)
        have PX4 : Hid (Blk X4 gp 24 [.int .u64 p0, .int .u64 p1]) := Lib.hid (PX3.out.grown hO hnP)
        have KX4 : Hid (Blk X4 gk 55 (ocells k amt c id)) := Lib.hid (KX3.out.grown hO hnK)
        have RX4 : Hid (Blk X4 gR 27 [.int .u32 0, .int .u64 0, .int .u64 0, .int .u64 0, .int .u64 0, .int .u64 0, .slice none 0 0]) := Lib.hid (RX3.out.grown hO hnR)
        have OX4 : Hid (X4.ownsRow w.heap.size 53 36 v2 (m + 1) (cflat (skp (-1) s.cs i) ++ c1.cells)) := Lib.hid (OX3.out.kept hO hTO)
        have NX4 : Hid (Blk X4 gN 27 [.int .u32 s.ch, .int .u64 (s.rd + 1), .int .u64 s.m0, .int .u64 s.m1, .int .u64 s.t0, .int .u64 s.t1, v2]) := Lib.hid (hNb)
        clear BX3 SX3 PX3 KX3 RX3 OX3 hO hNb hKW hTO hnS hnP hnK hnR NX3
        refine hK.out _ _ (⟨SX4.out, BX4.out⟩) (fun hHeld => ?_)
        clear hK K
        show wpAnyH _ _ _ _ _ _ _ (Act.put _ none _) _
        simp only [Act.put]
        refine wpAnyH_done (by kernel_rfl) ?_ _
        clear hHeld
        go_wp2
        go_roundw
        case rel => exact ⟨i + 1, v2, by omega, by go_num, Lib.hid (by rw [HF.out, List.length_append, HM.out, cflat_append, show cflat [c1] = c1.cells by simp [cflat]]; exact OX4.out), NX4, BX4, SX4, PX4, KX4, RX4⟩
        case measure => simp [intOf] <;> omega
    · obtain rfl : n = i := by omega
      have k6 := Swr.out.cell 6
      simp only [List.getElem?_cons_zero, List.getElem?_cons_succ] at k6
      go_upto_region 20 with fail
      clear k6
      have hO := Owr.out
      have hN := Nwr.out
      have hsk : skp (-1) s.cs n = s.cs := by rw [← HL.out]; exact skp_all (-1) s.cs (by decide)
      rw [hsk] at hO
      clear Owr Nwr hsk
      obtain ⟨m, hm⟩ : ∃ q, s.cs.length = q := ⟨_, rfl⟩
      rw [hm] at hO
      have HM := Lib.hid hm
      have hml : m ≤ 1000 := by have := HL.out; omega
      obtain ⟨va, vc, rfl⟩ := own_slice hO
      have Owr := Lib.hid hO
      have Nwr := Lib.hid hN
      clear hO hN hm
      have kk := Kwr.out.cell 0
      rw [ocells_0] at kk
      by_cases hk0 : k = 0
      case pos =>
        subst hk0
        have HD0 : Hid (doE s.nxt p0 p1 side 0 amt c id = 0) := Lib.hid (doE_0 _ _ _ _ _ _ _)
        have HS2 : Hid (doS s.nxt side 0 amt c id = s.nxt) := Lib.hid (doS_0 _ _ _ _ _)
        have HS2L : Hid ((s.nxt).cs.length = m) := Lib.hid (HM.out)
        have HS2C : Hid (∀ c ∈ (s.nxt).cs, c.Ok) := Lib.hid (HC.out.ok)
        have HS2O : Hid (s.nxt).Ok := Lib.hid (HON.out)
        go_upto_region 48 with fail
        clear kk
        have k0 := Nwr.out.cell 0
        have k1 := Nwr.out.cell 1
        have k2 := Nwr.out.cell 2
        have k3 := Nwr.out.cell 3
        have k4 := Nwr.out.cell 4
        have k5 := Nwr.out.cell 5
        have k6 := Nwr.out.cell 6
        simp only [List.getElem?_cons_zero, List.getElem?_cons_succ] at k0 k1 k2 k3 k4 k5 k6
        have q0 := Pwr.out.cell 0
        have q1 := Pwr.out.cell 1
        simp only [List.getElem?_cons_zero, List.getElem?_cons_succ] at q0 q1
        go_wp2_with fail
        clear k0 k1 k2 k3 k4 k5 k6 q0 q1
        refine (show Calls Try.prog 16 #[.agg #[.int .u32 s.ch, .int .u64 (s.rd + 1), .int .u64 s.m0, .int .u64 s.m1, .int .u64 s.t0, .int .u64 s.t1, .slice va m vc], .agg #[.int .u64 p0, .int .u64 p1]] wr (fun e w2 => e = .returned (.int .i64 (soundE (s.nxt) p0 p1)) ∧ Below wr.heap.size wr w2) from rsound_any (s.nxt).ch (s.nxt).rd (s.nxt).m0 (s.nxt).m1 (s.nxt).t0 (s.nxt).t1 va m vc (s.nxt).cs p0 p1 wr (CRow.of_own (by rw [HS2L.out]; exact Owr.out) HS2C.out) HS2L.out hml hp0 hp1 HS2O.out.eta).mono ?_
        rintro e Q ⟨rfl, hB⟩
        have BQ := Lib.hid (Bwr.out.trans (hB.mono Bwr.out.size))
        have RQ := Lib.hid (Rwr.out.below hB Rwr.out.lt)
        have NQ := Lib.hid (Nwr.out.below hB Nwr.out.lt)
        have OQ := Lib.hid (own_keep Owr.out hB)
        clear hB Bwr Rwr Nwr Owr Pwr Swr Kwr
        obtain ⟨E3, hE3⟩ : ∃ E3, soundE (s.nxt) p0 p1 = E3 := ⟨_, rfl⟩
        rw [hE3]
        have HE3 := Lib.hid hE3
        clear hE3
        by_cases h5 : E3 = 0
        case neg =>
          have b5 : (E3 != 0) = true := by simpa using h5
          have HNZ : Hid (¬ E3 = 0) := Lib.hid h5
          have HT : Hid (nextE s p0 p1 side 0 amt c id = E3) := Lib.hid (by rw [nextE_5 HE1.out H2.out H3.out HD0.out, HS2.out, HE3.out])
          clear h5
          have r0 := RQ.out.cell 0
          have r1 := RQ.out.cell 1
          have r2 := RQ.out.cell 2
          have r3 := RQ.out.cell 3
          have r4 := RQ.out.cell 4
          have r5 := RQ.out.cell 5
          have r6 := RQ.out.cell 6
          simp only [List.getElem?_cons_zero, List.getElem?_cons_succ] at r0 r1 r2 r3 r4 r5 r6
          have f0 := RQ.out.frozen 0
          have f1 := RQ.out.frozen 1
          have f2 := RQ.out.frozen 2
          have f3 := RQ.out.frozen 3
          have f4 := RQ.out.frozen 4
          have f5 := RQ.out.frozen 5
          have f6 := RQ.out.frozen 6
          have z27 := zero27
          go_wp2
          have hRR : Blk ((((((((Q.setCell ⟨gR, 0, none⟩ (.int .u32 0)).setCell ⟨gR, 1, none⟩ (.int .u64 0)).setCell ⟨gR, 2, none⟩ (.int .u64 0)).setCell ⟨gR, 3, none⟩ (.int .u64 0)).setCell ⟨gR, 4, none⟩ (.int .u64 0)).setCell ⟨gR, 5, none⟩ (.int .u64 0)).setCell ⟨gR, 6, none⟩ (.slice none 0 0))) gR 27 [.int .u32 0, .int .u64 0, .int .u64 0, .int .u64 0, .int .u64 0, .int .u64 0, .slice none 0 0] := (((((((RQ.out.set_ 0 _).set_ 1 _).set_ 2 _).set_ 3 _).set_ 4 _).set_ 5 _).set_ 6 _)
          exact bodyPost_ret (results_ct Try.results26 _ _ gR 27 [.int .u32 0, .int .u64 0, .int .u64 0, .int .u64 0, .int .u64 0, .int .u64 0, .slice none 0 0] _ rfl hRR Try.underlying27 rfl info27) rfl (by rw [show nextS s p0 p1 side 0 amt c id = st0 from if_neg (by rw [HT.out]; exact HNZ.out), HT.out]; exact ⟨none, 0, 0, rfl, World.ownsRow_nil _ _ _ _, rfl, (((((((BQ.out.setCell (p := ⟨gR, 0, none⟩) HGR.out _).setCell (p := ⟨gR, 1, none⟩) HGR.out _).setCell (p := ⟨gR, 2, none⟩) HGR.out _).setCell (p := ⟨gR, 3, none⟩) HGR.out _).setCell (p := ⟨gR, 4, none⟩) HGR.out _).setCell (p := ⟨gR, 5, none⟩) HGR.out _).setCell (p := ⟨gR, 6, none⟩) HGR.out _)⟩)
        subst h5
        have HT : Hid (nextE s p0 p1 side 0 amt c id = 0) := Lib.hid (by rw [nextE_5 HE1.out H2.out H3.out HD0.out, HS2.out, HE3.out])
        have k0 := NQ.out.cell 0
        have k1 := NQ.out.cell 1
        have k2 := NQ.out.cell 2
        have k3 := NQ.out.cell 3
        have k4 := NQ.out.cell 4
        have k5 := NQ.out.cell 5
        have k6 := NQ.out.cell 6
        simp only [List.getElem?_cons_zero, List.getElem?_cons_succ] at k0 k1 k2 k3 k4 k5 k6
        have r0 := RQ.out.cell 0
        have r1 := RQ.out.cell 1
        have r2 := RQ.out.cell 2
        have r3 := RQ.out.cell 3
        have r4 := RQ.out.cell 4
        have r5 := RQ.out.cell 5
        have r6 := RQ.out.cell 6
        simp only [List.getElem?_cons_zero, List.getElem?_cons_succ] at r0 r1 r2 r3 r4 r5 r6
        have f0 := RQ.out.frozen 0
        have f1 := RQ.out.frozen 1
        have f2 := RQ.out.frozen 2
        have f3 := RQ.out.frozen 3
        have f4 := RQ.out.frozen 4
        have f5 := RQ.out.frozen 5
        have f6 := RQ.out.frozen 6
        go_wp2
        have hRR : Blk ((((((((Q.setCell ⟨gR, 0, none⟩ (.int .u32 s.ch)).setCell ⟨gR, 1, none⟩ (.int .u64 (s.rd + 1))).setCell ⟨gR, 2, none⟩ (.int .u64 s.m0)).setCell ⟨gR, 3, none⟩ (.int .u64 s.m1)).setCell ⟨gR, 4, none⟩ (.int .u64 s.t0)).setCell ⟨gR, 5, none⟩ (.int .u64 s.t1)).setCell ⟨gR, 6, none⟩ (.slice va m vc))) gR 27 [.int .u32 s.ch, .int .u64 (s.rd + 1), .int .u64 s.m0, .int .u64 s.m1, .int .u64 s.t0, .int .u64 s.t1, .slice va m vc] := (((((((RQ.out.set_ 0 _).set_ 1 _).set_ 2 _).set_ 3 _).set_ 4 _).set_ 5 _).set_ 6 _)
        have hown := OQ.out.kept ((only_setCell (p := ⟨gR, 6, none⟩) (only_setCell (p := ⟨gR, 5, none⟩) (only_setCell (p := ⟨gR, 4, none⟩) (only_setCell (p := ⟨gR, 3, none⟩) (only_setCell (p := ⟨gR, 2, none⟩) (only_setCell (p := ⟨gR, 1, none⟩) (only_setCell (p := ⟨gR, 0, none⟩) (only_refl Q (some gR)) (.inl rfl) (.int .u32 s.ch)) (.inl rfl) (.int .u64 (s.rd + 1))) (.inl rfl) (.int .u64 s.m0)) (.inl rfl) (.int .u64 s.m1)) (.inl rfl) (.int .u64 s.t0)) (.inl rfl) (.int .u64 s.t1)) (.inl rfl) (.slice va m vc))) (.inr (fun e => own_ne OQ.out RQ.out (by decide) e.symm))
        exact bodyPost_ret (results_ct Try.results26 _ _ gR 27 [.int .u32 s.ch, .int .u64 (s.rd + 1), .int .u64 s.m0, .int .u64 s.m1, .int .u64 s.t0, .int .u64 s.t1, .slice va m vc] _ rfl hRR Try.underlying27 rfl info27) rfl (by rw [show nextS s p0 p1 side 0 amt c id = s.nxt from (if_pos HT.out).trans HS2.out, HT.out]; exact ⟨va, m, vc, rfl, hown, HS2L.out, (((((((BQ.out.setCell (p := ⟨gR, 0, none⟩) HGR.out _).setCell (p := ⟨gR, 1, none⟩) HGR.out _).setCell (p := ⟨gR, 2, none⟩) HGR.out _).setCell (p := ⟨gR, 3, none⟩) HGR.out _).setCell (p := ⟨gR, 4, none⟩) HGR.out _).setCell (p := ⟨gR, 5, none⟩) HGR.out _).setCell (p := ⟨gR, 6, none⟩) HGR.out _)⟩)
      have b0 : (k == 0) = false := by simpa using hk0
      by_cases hk1 : k = 1
      case pos =>
        subst hk1
        rcases HSD01.out with rfl | rfl
        · skip
          go_upto_region 26 with fail
          clear kk b0
          have k0 := Swr.out.cell 0
          have k1 := Swr.out.cell 1
          have k2 := Swr.out.cell 2
          have k3 := Swr.out.cell 3
          have k4 := Swr.out.cell 4
          have k5 := Swr.out.cell 5
          have k6 := Swr.out.cell 6
          simp only [List.getElem?_cons_zero, List.getElem?_cons_succ] at k0 k1 k2 k3 k4 k5 k6
          have q0 := Pwr.out.cell 0
          have q1 := Pwr.out.cell 1
          simp only [List.getElem?_cons_zero, List.getElem?_cons_succ] at q0 q1
          have ka := Kwr.out.cell 1
          rw [ocells_1] at ka
          go_wp2_with fail
          clear k0 k1 k2 k3 k4 k5 k6 q0 q1 ka
          refine (room_any s a n cap p0 p1 0 amt wr (HC.out.below Bwr.out) HL.out hn hp0 hp1 HO.out).mono ?_
          rintro e Z ⟨rfl, hB⟩
          have BZ := Lib.hid (Bwr.out.trans (hB.mono Bwr.out.size))
          have SZ := Lib.hid (Swr.out.below hB Swr.out.lt)
          have PZ := Lib.hid (Pwr.out.below hB Pwr.out.lt)
          have KZ := Lib.hid (Kwr.out.below hB Kwr.out.lt)
          have RZ := Lib.hid (Rwr.out.below hB Rwr.out.lt)
          have NZ := Lib.hid (Nwr.out.below hB Nwr.out.lt)
          have OZ := Lib.hid (own_keep Owr.out hB)
          clear hB Bwr Swr Pwr Kwr Rwr Nwr Owr
          obtain ⟨E2, hE2⟩ : ∃ x, spE (freeF s p0 p1 0) amt = x := ⟨_, rfl⟩
          rw [hE2]
          have HE2 := Lib.hid hE2
          clear hE2
          have HDE : Hid (doE s.nxt p0 p1 0 1 amt c id = spR E2 s.m0 amt) := Lib.hid (by rw [doE_1, show freeF s.nxt p0 p1 0 = freeF s p0 p1 0 from rfl, HE2.out]; rfl)
          by_cases h4 : E2 = 0
          case neg =>
            have b4 : (E2 != 0) = true := by simpa using h4
            have HNZ : Hid (¬ E2 = 0) := Lib.hid h4
            have HT : Hid (nextE s p0 p1 0 1 amt c id = E2) := Lib.hid (by rw [nextE_4 HE1.out H2.out H3.out (by rw [HDE.out, spR_e h4]; exact h4), HDE.out, spR_e h4])
            clear h4
            have r0 := RZ.out.cell 0
            have r1 := RZ.out.cell 1
            have r2 := RZ.out.cell 2
            have r3 := RZ.out.cell 3
            have r4 := RZ.out.cell 4
            have r5 := RZ.out.cell 5
            have r6 := RZ.out.cell 6
            simp only [List.getElem?_cons_zero, List.getElem?_cons_succ] at r0 r1 r2 r3 r4 r5 r6
            have f0 := RZ.out.frozen 0
            have f1 := RZ.out.frozen 1
            have f2 := RZ.out.frozen 2
            have f3 := RZ.out.frozen 3
            have f4 := RZ.out.frozen 4
            have f5 := RZ.out.frozen 5
            have f6 := RZ.out.frozen 6
            have z27 := zero27
            go_wp2
            have hRR : Blk ((((((((Z.setCell ⟨gR, 0, none⟩ (.int .u32 0)).setCell ⟨gR, 1, none⟩ (.int .u64 0)).setCell ⟨gR, 2, none⟩ (.int .u64 0)).setCell ⟨gR, 3, none⟩ (.int .u64 0)).setCell ⟨gR, 4, none⟩ (.int .u64 0)).setCell ⟨gR, 5, none⟩ (.int .u64 0)).setCell ⟨gR, 6, none⟩ (.slice none 0 0))) gR 27 [.int .u32 0, .int .u64 0, .int .u64 0, .int .u64 0, .int .u64 0, .int .u64 0, .slice none 0 0] := (((((((RZ.out.set_ 0 _).set_ 1 _).set_ 2 _).set_ 3 _).set_ 4 _).set_ 5 _).set_ 6 _)
            exact bodyPost_ret (results_ct Try.results26 _ _ gR 27 [.int .u32 0, .int .u64 0, .int .u64 0, .int .u64 0, .int .u64 0, .int .u64 0, .slice none 0 0] _ rfl hRR Try.underlying27 rfl info27) rfl (by rw [show nextS s p0 p1 0 1 amt c id = st0 from if_neg (by rw [HT.out]; exact HNZ.out), HT.out]; exact ⟨none, 0, 0, rfl, World.ownsRow_nil _ _ _ _, rfl, (((((((BZ.out.setCell (p := ⟨gR, 0, none⟩) HGR.out _).setCell (p := ⟨gR, 1, none⟩) HGR.out _).setCell (p := ⟨gR, 2, none⟩) HGR.out _).setCell (p := ⟨gR, 3, none⟩) HGR.out _).setCell (p := ⟨gR, 4, none⟩) HGR.out _).setCell (p := ⟨gR, 5, none⟩) HGR.out _).setCell (p := ⟨gR, 6, none⟩) HGR.out _)⟩)
          subst h4
          have kk := KZ.out.cell 0
          rw [ocells_0] at kk
          by_cases h5 : 18446744073709551616 ≤ s.m0 + amt
          case pos =>
            have HRA : Hid (∀ W, Calls Try.prog 29 #[.int .u64 s.m0, .int .u64 amt] W fun e w' => e = .returned (.tuple #[.int .u64 0, .int .i64 11]) ∧ W = w') := Lib.hid (fun W => radd_over _ _ W HO.out.m0 hamt h5)
            have HNZ : Hid (¬ (11 : Int) = 0) := Lib.hid (by decide)
            have HT : Hid (nextE s p0 p1 0 1 amt c id = 11) := Lib.hid (by rw [nextE_4 HE1.out H2.out H3.out (by rw [HDE.out, spR_over h5]; decide), HDE.out, spR_over h5])
            clear h5
            go_upto_region 30 with fail
            clear kk
            have hBz : Below Z.heap.size Z Z.drew := below_drewN (Below.refl _ _) 1
            have BX0 : Hid (Below w.heap.size w Z.drew) := Lib.hid (BZ.out.trans (hBz.mono BZ.out.size))
            have SX0 : Hid (Blk Z.drew gS 27 [.int .u32 s.ch, .int .u64 s.rd, .int .u64 s.m0, .int .u64 s.m1, .int .u64 s.t0, .int .u64 s.t1, .slice a n cap]) := Lib.hid (SZ.out.below hBz SZ.out.lt)
            have PX0 : Hid (Blk Z.drew gp 24 [.int .u64 p0, .int .u64 p1]) := Lib.hid (PZ.out.below hBz PZ.out.lt)
            have KX0 : Hid (Blk Z.drew gk 55 (ocells 1 amt c id)) := Lib.hid (KZ.out.below hBz KZ.out.lt)
            have RX0 : Hid (Blk Z.drew gR 27 [.int .u32 0, .int .u64 0, .int .u64 0, .int .u64 0, .int .u64 0, .int .u64 0, .slice none 0 0]) := Lib.hid (RZ.out.below hBz RZ.out.lt)
            have NX0 : Hid (Blk Z.drew gN 27 [.int .u32 s.ch, .int .u64 (s.rd + 1), .int .u64 s.m0, .int .u64 s.m1, .int .u64 s.t0, .int .u64 s.t1, .slice va m vc]) := Lib.hid (NZ.out.below hBz NZ.out.lt)
            have OX0 : Hid (Z.drew.ownsRow w.heap.size 53 36 (.slice va m vc) m (cflat s.cs)) := Lib.hid (own_keep OZ.out hBz)
            clear hBz
            refine wp_region_held_drew (S := fun w' => Blk w' gk 55 (ocells 1 amt c id)) (by kernel_rfl) (KX0.out) (fun hHeld => ?_)
            generalize Z.drew = X0 at hHeld BX0 SX0 PX0 KX0 RX0 NX0 OX0 ⊢
            refine wpAnyH_take (i := 0) (v := .int .i64 0) rfl (by kernel_rfl) (by kernel_rfl) (by kernel_rfl) (fun _ _ _ h => h) (Or.inl ⟨by rfl, fun w _ => by rfl⟩) hHeld ?_
            show wpAnyH _ _ _ _ _ _ _ (Act.put _ (some 102) _) _
            simp only [Act.put, List.setIfInBounds_toArray, List.set_cons_zero, List.set_cons_succ]
            refine wpAnyH_take (i := 1) (v := .int .i64 0) rfl (by kernel_rfl) (by kernel_rfl) (by kernel_rfl) (fun _ _ _ h => h) (Or.inl ⟨by rfl, fun w _ => by rfl⟩) hHeld ?_
            show wpAnyH _ _ _ _ _ _ _ (Act.put _ (some 103) _) _
            simp only [Act.put, List.setIfInBounds_toArray, List.set_cons_zero, List.set_cons_succ]
            refine wpAnyH_take (i := 2) (v := .pointer (some ⟨gN, 2, none⟩)) rfl (by kernel_rfl) (by kernel_rfl) (by kernel_rfl) (fun _ _ _ h => h) (Or.inl ⟨by rfl, by intro w' h; go_simp⟩) hHeld ?_
            show wpAnyH _ _ _ _ _ _ _ (Act.put _ (some 104) _) _
            simp only [Act.put, List.setIfInBounds_toArray, List.set_cons_zero, List.set_cons_succ]
            refine wpAnyH_take (i := 3) (v := .pointer (some ⟨gN, 2, none⟩)) rfl (by kernel_rfl) (by kernel_rfl) (by kernel_rfl) (fun _ _ _ h => h) (Or.inl ⟨by rfl, by intro w' h; go_simp⟩) hHeld ?_
            show wpAnyH _ _ _ _ _ _ _ (Act.put _ (some 105) _) _
            simp only [Act.put, List.setIfInBounds_toArray, List.set_cons_zero, List.set_cons_succ]
            refine wpAnyH_take (i := 5) (v := .pointer (some ⟨gk, 1, none⟩)) rfl (by kernel_rfl) (by kernel_rfl) (by kernel_rfl) (fun _ _ _ h => h) (Or.inl ⟨by rfl, by intro w' h; go_simp⟩) hHeld ?_
            show wpAnyH _ _ _ _ _ _ _ (Act.put _ (some 107) _) _
            simp only [Act.put, List.setIfInBounds_toArray, List.set_cons_zero, List.set_cons_succ]
            refine wpAnyH_take (i := 6) (v := .int .u64 amt) rfl (by kernel_rfl) (by kernel_rfl) (by kernel_rfl) (fun _ _ _ h => h) (Or.inl ⟨by rfl, by intro w' h; have q := Blk.cell h 1; rw [ocells_1] at q; go_simp⟩) hHeld ?_
            show wpAnyH _ _ _ _ _ _ _ (Act.put _ (some 108) _) _
            simp only [Act.put, List.setIfInBounds_toArray, List.set_cons_zero, List.set_cons_succ]
            refine wpAnyH_take (i := 11) (v := .pointer (some ⟨gN, 2, none⟩)) rfl (by kernel_rfl) (by kernel_rfl) (by kernel_rfl) (fun _ _ _ h => h) (Or.inl ⟨by rfl, by intro w' h; go_simp⟩) hHeld ?_
            show wpAnyH _ _ _ _ _ _ _ (Act.put _ (some 112) _) _
            simp only [Act.put, List.setIfInBounds_toArray, List.set_cons_zero, List.set_cons_succ]
            refine wpAnyH_ready (rs := [4]) (by kernel_rfl) (by simp) ?_
            refine AllReadyH.cons rfl (fun K hK => ?_) AllReadyH.nil
            refine step_ld rfl 23 (.tmp 105) rfl gN 2 rfl (.int .u64 s.m0) (run_load_u64 X0 gN 2 s.m0 27 _ NX0.out rfl) ?_
            refine hK.out _ _ (KX0.out) (fun hHeld => ?_)
            clear hK K
            show wpAnyH _ _ _ _ _ _ _ (Act.put _ (some 106) _) _
            simp only [Act.put, List.setIfInBounds_toArray, List.set_cons_zero, List.set_cons_succ]
            refine wpAnyH_ready (rs := [7]) (by kernel_rfl) (by simp) ?_
            refine AllReadyH.cons rfl (fun K hK => ?_) AllReadyH.nil
            refine step_call rfl 29 #[.tmp 106, .tmp 108] #[23, 23] rfl #[.int .u64 s.m0, .int .u64 amt] (by simp [Act.eval]) (by go_simp) (HRA.out X0) ?_
            rintro e X2 ⟨rfl, rfl⟩
            refine ⟨_, rfl, hK.out _ _ (KX0.out) (fun hHeld => ?_)⟩
            clear hK K
            show wpAnyH _ _ _ _ _ _ _ (Act.put _ (some 109) _) _
            simp only [Act.put, List.setIfInBounds_toArray, List.set_cons_zero, List.set_cons_succ]
            refine wpAnyH_take (i := 8) (v := .tuple #[.int .u64 0, .int .i64 11]) rfl (by kernel_rfl) (by kernel_rfl) (by kernel_rfl) (fun _ _ _ h => h) (Or.inl ⟨by rfl, fun w _ => by rfl⟩) hHeld ?_
            show wpAnyH _ _ _ _ _ _ _ (Act.put _ (some 101) _) _
            simp only [Act.put, List.setIfInBounds_toArray, List.set_cons_zero, List.set_cons_succ]
            refine wpAnyH_take (i := 9) (v := .int .u64 0) rfl (by kernel_rfl) (by kernel_rfl) (by kernel_rfl) (fun _ _ _ h => h) (Or.inl ⟨by rfl, by intro w' h; go_simp⟩) hHeld ?_
            show wpAnyH _ _ _ _ _ _ _ (Act.put _ (some 110) _) _
            simp only [Act.put, List.setIfInBounds_toArray, List.set_cons_zero, List.set_cons_succ]
            refine wpAnyH_take (i := 10) (v := .int .i64 11) rfl (by kernel_rfl) (by kernel_rfl) (by kernel_rfl) (fun _ _ _ h => h) (Or.inl ⟨by rfl, by intro w' h; go_simp⟩) hHeld ?_
            show wpAnyH _ _ _ _ _ _ _ (Act.put _ (some 111) _) _
            simp only [Act.put, List.setIfInBounds_toArray, List.set_cons_zero, List.set_cons_succ]
            refine wpAnyH_take (i := 12) (v := .pointer (some ⟨gN, 2, none⟩)) rfl (by kernel_rfl) (by kernel_rfl) (by kernel_rfl) (fun _ _ _ h => h) (Or.inl ⟨by rfl, by intro w' h; go_simp⟩) hHeld ?_
            show wpAnyH _ _ _ _ _ _ _ (Act.put _ (some 113) _) _
            simp only [Act.put, List.setIfInBounds_toArray, List.set_cons_zero, List.set_cons_succ]
            refine wpAnyH_ready (rs := [13]) (by kernel_rfl) (by simp) ?_
            refine AllReadyH.cons rfl (fun K hK => ?_) AllReadyH.nil
            refine step_cell rfl 23 (.tmp 113) (.tmp 110) rfl gN 2 rfl (.int .u64 0) rfl 27 _ NX0.out (run_store_u64 X0 gN 2 0 27 _ NX0.out (by simp)) ?_
            intro X3 hNb hO
            have hKW : ∀ q, some gN = some q → w.heap.size ≤ q := fun q hq => by injection hq with hq; have := HGN.out; omega
            have hTO : (Value.slice va m vc).ownBlock = none ∨ (Value.slice va m vc).ownBlock ≠ some gN := .inr (fun e => own_ne OX0.out NX0.out (by decide) e.symm)
            have hnS : some gS ≠ some gN := fun e => by injection e with e; have := HGN.out; omega
            have hnP : some gp ≠ some gN := fun e => by injection e with e; have := HGN.out; omega
            have hnK : some gk ≠ some gN := fun e => by injection e with e; have := HGN.out; omega
            have hnR : some gR ≠ some gN := fun e => by injection e with e; have := HGN.out; omega
            have BX3 : Hid (Below w.heap.size w X3) := Lib.hid (BX0.out.grown hO BX0.out.size hKW)
            have SX3 : Hid (Blk X3 gS 27 [.int .u32 s.ch, .int .u64 s.rd, .int .u64 s.m0, .int .u64 s.m1, .int .u64 s.t0, .int .u64 s.t1, .slice a n cap]) := Lib.hid (SX0.out.grown hO hnS)
            have PX3 : Hid (Blk X3 gp 24 [.int .u64 p0, .int .u64 p1]) := Lib.hid (PX0.out.grown hO hnP)
            have KX3 : Hid (Blk X3 gk 55 (ocells 1 amt c id)) := Lib.hid (KX0.out.grown hO hnK)
            have RX3 : Hid (Blk X3 gR 27 [.int .u32 0, .int .u64 0, .int .u64 0, .int .u64 0, .int .u64 0, .int .u64 0, .slice none 0 0]) := Lib.hid (RX0.out.grown hO hnR)
            have OX3 : Hid (X3.ownsRow w.heap.size 53 36 (.slice va m vc) m (cflat s.cs)) := Lib.hid (OX0.out.kept hO hTO)
            have NX3 : Hid (Blk X3 gN 27 [.int .u32 s.ch, .int .u64 (s.rd + 1), .int .u64 0, .int .u64 s.m1, .int .u64 s.t0, .int .u64 s.t1, .slice va m vc]) := Lib.hid (hNb)
            clear BX0 SX0 PX0 KX0 RX0 OX0 hO hNb hKW hTO hnS hnP hnK hnR NX0
            refine hK.out _ _ (KX3.out) (fun hHeld => ?_)
            clear hK K
            show wpAnyH _ _ _ _ _ _ _ (Act.put _ none _) _
            simp only [Act.put]
            refine wpAnyH_take (i := 14) (v := .int .i64 11) rfl (by kernel_rfl) (by kernel_rfl) (by kernel_rfl) (fun _ _ _ h => h) (Or.inl ⟨by rfl, fun w _ => by rfl⟩) hHeld ?_
            show wpAnyH _ _ _ _ _ _ _ (Act.put _ (some 14) _) _
            simp only [Act.put, List.setIfInBounds_toArray, List.set_cons_zero, List.set_cons_succ]
            refine wpAnyH_done (by kernel_rfl) ?_ _
            clear hHeld
            have r0 := RX3.out.cell 0
            have r1 := RX3.out.cell 1
            have r2 := RX3.out.cell 2
            have r3 := RX3.out.cell 3
            have r4 := RX3.out.cell 4
            have r5 := RX3.out.cell 5
            have r6 := RX3.out.cell 6
            simp only [List.getElem?_cons_zero, List.getElem?_cons_succ] at r0 r1 r2 r3 r4 r5 r6
            have f0 := RX3.out.frozen 0
            have f1 := RX3.out.frozen 1
            have f2 := RX3.out.frozen 2
            have f3 := RX3.out.frozen 3
            have f4 := RX3.out.frozen 4
            have f5 := RX3.out.frozen 5
            have f6 := RX3.out.frozen 6
            have z27 := zero27
            go_wp2
            have hRR : Blk ((((((((X3.setCell ⟨gR, 0, none⟩ (.int .u32 0)).setCell ⟨gR, 1, none⟩ (.int .u64 0)).setCell ⟨gR, 2, none⟩ (.int .u64 0)).setCell ⟨gR, 3, none⟩ (.int .u64 0)).setCell ⟨gR, 4, none⟩ (.int .u64 0)).setCell ⟨gR, 5, none⟩ (.int .u64 0)).setCell ⟨gR, 6, none⟩ (.slice none 0 0))) gR 27 [.int .u32 0, .int .u64 0, .int .u64 0, .int .u64 0, .int .u64 0, .int .u64 0, .slice none 0 0] := (((((((RX3.out.set_ 0 _).set_ 1 _).set_ 2 _).set_ 3 _).set_ 4 _).set_ 5 _).set_ 6 _)
            exact bodyPost_ret (results_ct Try.results26 _ _ gR 27 [.int .u32 0, .int .u64 0, .int .u64 0, .int .u64 0, .int .u64 0, .int .u64 0, .slice none 0 0] _ rfl hRR Try.underlying27 rfl info27) rfl (by rw [show nextS s p0 p1 0 1 amt c id = st0 from if_neg (by rw [HT.out]; exact HNZ.out), HT.out]; exact ⟨none, 0, 0, rfl, World.ownsRow_nil _ _ _ _, rfl, (((((((BX3.out.setCell (p := ⟨gR, 0, none⟩) HGR.out _).setCell (p := ⟨gR, 1, none⟩) HGR.out _).setCell (p := ⟨gR, 2, none⟩) HGR.out _).setCell (p := ⟨gR, 3, none⟩) HGR.out _).setCell (p := ⟨gR, 4, none⟩) HGR.out _).setCell (p := ⟨gR, 5, none⟩) HGR.out _).setCell (p := ⟨gR, 6, none⟩) HGR.out _)⟩)
          have HRA : Hid (∀ W, Calls Try.prog 29 #[.int .u64 s.m0, .int .u64 amt] W fun e w' => e = .returned (.tuple #[.int .u64 (s.m0 + amt), .int .i64 0]) ∧ W = w') := Lib.hid (fun W => radd_ok _ _ W HO.out.m0 hamt h5)
          have HD0 : Hid (doE s.nxt p0 p1 0 1 amt c id = 0) := Lib.hid (by rw [HDE.out, spR_ok h5])
          have HS2 : Hid (doS s.nxt 0 1 amt c id = (⟨s.ch, s.rd + 1, s.m0 + amt, s.m1, s.t0, s.t1, s.cs⟩ : St)) := Lib.hid (by rw [doS_1]; simp [St.pay, St.nxt])
          have HS2L : Hid (((⟨s.ch, s.rd + 1, s.m0 + amt, s.m1, s.t0, s.t1, s.cs⟩ : St)).cs.length = m) := Lib.hid HM.out
          have HS2C : Hid (∀ c ∈ ((⟨s.ch, s.rd + 1, s.m0 + amt, s.m1, s.t0, s.t1, s.cs⟩ : St)).cs, c.Ok) := Lib.hid HC.out.ok
          have HS2O : Hid ((⟨s.ch, s.rd + 1, s.m0 + amt, s.m1, s.t0, s.t1, s.cs⟩ : St)).Ok := Lib.hid (by have h := HON.out.pay (side := 0) hamt (by show s.m0 + amt < _; omega); simpa [St.pay, St.nxt] using h)
          clear h5
          go_upto_region 30 with fail
          clear kk
          have hBz : Below Z.heap.size Z Z.drew := below_drewN (Below.refl _ _) 1
          have BX0 : Hid (Below w.heap.size w Z.drew) := Lib.hid (BZ.out.trans (hBz.mono BZ.out.size))
          have SX0 : Hid (Blk Z.drew gS 27 [.int .u32 s.ch, .int .u64 s.rd, .int .u64 s.m0, .int .u64 s.m1, .int .u64 s.t0, .int .u64 s.t1, .slice a n cap]) := Lib.hid (SZ.out.below hBz SZ.out.lt)
          have PX0 : Hid (Blk Z.drew gp 24 [.int .u64 p0, .int .u64 p1]) := Lib.hid (PZ.out.below hBz PZ.out.lt)
          have KX0 : Hid (Blk Z.drew gk 55 (ocells 1 amt c id)) := Lib.hid (KZ.out.below hBz KZ.out.lt)
          have RX0 : Hid (Blk Z.drew gR 27 [.int .u32 0, .int .u64 0, .int .u64 0, .int .u64 0, .int .u64 0, .int .u64 0, .slice none 0 0]) := Lib.hid (RZ.out.below hBz RZ.out.lt)
          have NX0 : Hid (Blk Z.drew gN 27 [.int .u32 s.ch, .int .u64 (s.rd + 1), .int .u64 s.m0, .int .u64 s.m1, .int .u64 s.t0, .int .u64 s.t1, .slice va m vc]) := Lib.hid (NZ.out.below hBz NZ.out.lt)
          have OX0 : Hid (Z.drew.ownsRow w.heap.size 53 36 (.slice va m vc) m (cflat s.cs)) := Lib.hid (own_keep OZ.out hBz)
          clear hBz
          refine wp_region_held_drew (S := fun w' => Blk w' gk 55 (ocells 1 amt c id)) (by kernel_rfl) (KX0.out) (fun hHeld => ?_)
          generalize Z.drew = X0 at hHeld BX0 SX0 PX0 KX0 RX0 NX0 OX0 ⊢
          refine wpAnyH_take (i := 0) (v := .int .i64 0) rfl (by kernel_rfl) (by kernel_rfl) (by kernel_rfl) (fun _ _ _ h => h) (Or.inl ⟨by rfl, fun w _ => by rfl⟩) hHeld ?_
          show wpAnyH _ _ _ _ _ _ _ (Act.put _ (some 102) _) _
          simp only [Act.put, List.setIfInBounds_toArray, List.set_cons_zero, List.set_cons_succ]
          refine wpAnyH_take (i := 1) (v := .int .i64 0) rfl (by kernel_rfl) (by kernel_rfl) (by kernel_rfl) (fun _ _ _ h => h) (Or.inl ⟨by rfl, fun w _ => by rfl⟩) hHeld ?_
          show wpAnyH _ _ _ _ _ _ _ (Act.put _ (some 103) _) _
          simp only [Act.put, List.setIfInBounds_toArray, List.set_cons_zero, List.set_cons_succ]
          refine wpAnyH_take (i := 2) (v := .pointer (some ⟨gN, 2, none⟩)) rfl (by kernel_rfl) (by kernel_rfl) (by kernel_rfl) (fun _ _ _ h => h) (Or.inl ⟨by rfl, by intro w' h; go_simp⟩) hHeld ?_
          show wpAnyH _ _ _ _ _ _ _ (Act.put _ (some 104) _) _
          simp only [Act.put, List.setIfInBounds_toArray, List.set_cons_zero, List.set_cons_succ]
          refine wpAnyH_take (i := 3) (v := .pointer (some ⟨gN, 2, none⟩)) rfl (by kernel_rfl) (by kernel_rfl) (by kernel_rfl) (fun _ _ _ h => h) (Or.inl ⟨by rfl, by intro w' h; go_simp⟩) hHeld ?_
          show wpAnyH _ _ _ _ _ _ _ (Act.put _ (some 105) _) _
          simp only [Act.put, List.setIfInBounds_toArray, List.set_cons_zero, List.set_cons_succ]
          refine wpAnyH_take (i := 5) (v := .pointer (some ⟨gk, 1, none⟩)) rfl (by kernel_rfl) (by kernel_rfl) (by kernel_rfl) (fun _ _ _ h => h) (Or.inl ⟨by rfl, by intro w' h; go_simp⟩) hHeld ?_
          show wpAnyH _ _ _ _ _ _ _ (Act.put _ (some 107) _) _
          simp only [Act.put, List.setIfInBounds_toArray, List.set_cons_zero, List.set_cons_succ]
          refine wpAnyH_take (i := 6) (v := .int .u64 amt) rfl (by kernel_rfl) (by kernel_rfl) (by kernel_rfl) (fun _ _ _ h => h) (Or.inl ⟨by rfl, by intro w' h; have q := Blk.cell h 1; rw [ocells_1] at q; go_simp⟩) hHeld ?_
          show wpAnyH _ _ _ _ _ _ _ (Act.put _ (some 108) _) _
          simp only [Act.put, List.setIfInBounds_toArray, List.set_cons_zero, List.set_cons_succ]
          refine wpAnyH_take (i := 11) (v := .pointer (some ⟨gN, 2, none⟩)) rfl (by kernel_rfl) (by kernel_rfl) (by kernel_rfl) (fun _ _ _ h => h) (Or.inl ⟨by rfl, by intro w' h; go_simp⟩) hHeld ?_
          show wpAnyH _ _ _ _ _ _ _ (Act.put _ (some 112) _) _
          simp only [Act.put, List.setIfInBounds_toArray, List.set_cons_zero, List.set_cons_succ]
          refine wpAnyH_ready (rs := [4]) (by kernel_rfl) (by simp) ?_
          refine AllReadyH.cons rfl (fun K hK => ?_) AllReadyH.nil
          refine step_ld rfl 23 (.tmp 105) rfl gN 2 rfl (.int .u64 s.m0) (run_load_u64 X0 gN 2 s.m0 27 _ NX0.out rfl) ?_
          refine hK.out _ _ (KX0.out) (fun hHeld => ?_)
          clear hK K
          show wpAnyH _ _ _ _ _ _ _ (Act.put _ (some 106) _) _
          simp only [Act.put, List.setIfInBounds_toArray, List.set_cons_zero, List.set_cons_succ]
          refine wpAnyH_ready (rs := [7]) (by kernel_rfl) (by simp) ?_
          refine AllReadyH.cons rfl (fun K hK => ?_) AllReadyH.nil
          refine step_call rfl 29 #[.tmp 106, .tmp 108] #[23, 23] rfl #[.int .u64 s.m0, .int .u64 amt] (by simp [Act.eval]) (by go_simp) (HRA.out X0) ?_
          rintro e X2 ⟨rfl, rfl⟩
          refine ⟨_, rfl, hK.out _ _ (KX0.out) (fun hHeld => ?_)⟩
          clear hK K
          show wpAnyH _ _ _ _ _ _ _ (Act.put _ (some 109) _) _
          simp only [Act.put, List.setIfInBounds_toArray, List.set_cons_zero, List.set_cons_succ]
          refine wpAnyH_take (i := 8) (v := .tuple #[.int .u64 (s.m0 + amt), .int .i64 0]) rfl (by kernel_rfl) (by kernel_rfl) (by kernel_rfl) (fun _ _ _ h => h) (Or.inl ⟨by rfl, fun w _ => by rfl⟩) hHeld ?_
          show wpAnyH _ _ _ _ _ _ _ (Act.put _ (some 101) _) _
          simp only [Act.put, List.setIfInBounds_toArray, List.set_cons_zero, List.set_cons_succ]
          refine wpAnyH_take (i := 9) (v := .int .u64 (s.m0 + amt)) rfl (by kernel_rfl) (by kernel_rfl) (by kernel_rfl) (fun _ _ _ h => h) (Or.inl ⟨by rfl, by intro w' h; go_simp⟩) hHeld ?_
          show wpAnyH _ _ _ _ _ _ _ (Act.put _ (some 110) _) _
          simp only [Act.put, List.setIfInBounds_toArray, List.set_cons_zero, List.set_cons_succ]
          refine wpAnyH_take (i := 10) (v := .int .i64 0) rfl (by kernel_rfl) (by kernel_rfl) (by kernel_rfl) (fun _ _ _ h => h) (Or.inl ⟨by rfl, by intro w' h; go_simp⟩) hHeld ?_
          show wpAnyH _ _ _ _ _ _ _ (Act.put _ (some 111) _) _
          simp only [Act.put, List.setIfInBounds_toArray, List.set_cons_zero, List.set_cons_succ]
          refine wpAnyH_take (i := 12) (v := .pointer (some ⟨gN, 2, none⟩)) rfl (by kernel_rfl) (by kernel_rfl) (by kernel_rfl) (fun _ _ _ h => h) (Or.inl ⟨by rfl, by intro w' h; go_simp⟩) hHeld ?_
          show wpAnyH _ _ _ _ _ _ _ (Act.put _ (some 113) _) _
          simp only [Act.put, List.setIfInBounds_toArray, List.set_cons_zero, List.set_cons_succ]
          refine wpAnyH_ready (rs := [13]) (by kernel_rfl) (by simp) ?_
          refine AllReadyH.cons rfl (fun K hK => ?_) AllReadyH.nil
          refine step_cell rfl 23 (.tmp 113) (.tmp 110) rfl gN 2 rfl (.int .u64 (s.m0 + amt)) rfl 27 _ NX0.out (run_store_u64 X0 gN 2 (s.m0 + amt) 27 _ NX0.out (by simp)) ?_
          intro X3 hNb hO
          have hKW : ∀ q, some gN = some q → w.heap.size ≤ q := fun q hq => by injection hq with hq; have := HGN.out; omega
          have hTO : (Value.slice va m vc).ownBlock = none ∨ (Value.slice va m vc).ownBlock ≠ some gN := .inr (fun e => own_ne OX0.out NX0.out (by decide) e.symm)
          have hnS : some gS ≠ some gN := fun e => by injection e with e; have := HGN.out; omega
          have hnP : some gp ≠ some gN := fun e => by injection e with e; have := HGN.out; omega
          have hnK : some gk ≠ some gN := fun e => by injection e with e; have := HGN.out; omega
          have hnR : some gR ≠ some gN := fun e => by injection e with e; have := HGN.out; omega
          have BX3 : Hid (Below w.heap.size w X3) := Lib.hid (BX0.out.grown hO BX0.out.size hKW)
          have SX3 : Hid (Blk X3 gS 27 [.int .u32 s.ch, .int .u64 s.rd, .int .u64 s.m0, .int .u64 s.m1, .int .u64 s.t0, .int .u64 s.t1, .slice a n cap]) := Lib.hid (SX0.out.grown hO hnS)
          have PX3 : Hid (Blk X3 gp 24 [.int .u64 p0, .int .u64 p1]) := Lib.hid (PX0.out.grown hO hnP)
          have KX3 : Hid (Blk X3 gk 55 (ocells 1 amt c id)) := Lib.hid (KX0.out.grown hO hnK)
          have RX3 : Hid (Blk X3 gR 27 [.int .u32 0, .int .u64 0, .int .u64 0, .int .u64 0, .int .u64 0, .int .u64 0, .slice none 0 0]) := Lib.hid (RX0.out.grown hO hnR)
          have OX3 : Hid (X3.ownsRow w.heap.size 53 36 (.slice va m vc) m (cflat s.cs)) := Lib.hid (OX0.out.kept hO hTO)
          have NX3 : Hid (Blk X3 gN 27 [.int .u32 s.ch, .int .u64 (s.rd + 1), .int .u64 (s.m0 + amt), .int .u64 s.m1, .int .u64 s.t0, .int .u64 s.t1, .slice va m vc]) := Lib.hid (hNb)
          clear BX0 SX0 PX0 KX0 RX0 OX0 hO hNb hKW hTO hnS hnP hnK hnR NX0
          refine hK.out _ _ (KX3.out) (fun hHeld => ?_)
          clear hK K
          show wpAnyH _ _ _ _ _ _ _ (Act.put _ none _) _
          simp only [Act.put]
          refine wpAnyH_take (i := 14) (v := .int .i64 0) rfl (by kernel_rfl) (by kernel_rfl) (by kernel_rfl) (fun _ _ _ h => h) (Or.inl ⟨by rfl, fun w _ => by rfl⟩) hHeld ?_
          show wpAnyH _ _ _ _ _ _ _ (Act.put _ (some 14) _) _
          simp only [Act.put, List.setIfInBounds_toArray, List.set_cons_zero, List.set_cons_succ]
          refine wpAnyH_done (by kernel_rfl) ?_ _
          clear hHeld
          go_upto_region 48 with fail
          have k0 := NX3.out.cell 0
          have k1 := NX3.out.cell 1
          have k2 := NX3.out.cell 2
          have k3 := NX3.out.cell 3
          have k4 := NX3.out.cell 4
          have k5 := NX3.out.cell 5
          have k6 := NX3.out.cell 6
          simp only [List.getElem?_cons_zero, List.getElem?_cons_succ] at k0 k1 k2 k3 k4 k5 k6
          have q0 := PX3.out.cell 0
          have q1 := PX3.out.cell 1
          simp only [List.getElem?_cons_zero, List.getElem?_cons_succ] at q0 q1
          go_wp2_with fail
          clear k0 k1 k2 k3 k4 k5 k6 q0 q1
          refine (show Calls Try.prog 16 #[.agg #[.int .u32 s.ch, .int .u64 (s.rd + 1), .int .u64 (s.m0 + amt), .int .u64 s.m1, .int .u64 s.t0, .int .u64 s.t1, .slice va m vc], .agg #[.int .u64 p0, .int .u64 p1]] X3 (fun e w2 => e = .returned (.int .i64 (soundE ((⟨s.ch, s.rd + 1, s.m0 + amt, s.m1, s.t0, s.t1, s.cs⟩ : St)) p0 p1)) ∧ Below X3.heap.size X3 w2) from rsound_any ((⟨s.ch, s.rd + 1, s.m0 + amt, s.m1, s.t0, s.t1, s.cs⟩ : St)).ch ((⟨s.ch, s.rd + 1, s.m0 + amt, s.m1, s.t0, s.t1, s.cs⟩ : St)).rd ((⟨s.ch, s.rd + 1, s.m0 + amt, s.m1, s.t0, s.t1, s.cs⟩ : St)).m0 ((⟨s.ch, s.rd + 1, s.m0 + amt, s.m1, s.t0, s.t1, s.cs⟩ : St)).m1 ((⟨s.ch, s.rd + 1, s.m0 + amt, s.m1, s.t0, s.t1, s.cs⟩ : St)).t0 ((⟨s.ch, s.rd + 1, s.m0 + amt, s.m1, s.t0, s.t1, s.cs⟩ : St)).t1 va m vc ((⟨s.ch, s.rd + 1, s.m0 + amt, s.m1, s.t0, s.t1, s.cs⟩ : St)).cs p0 p1 X3 (CRow.of_own (by rw [HS2L.out]; exact OX3.out) HS2C.out) HS2L.out hml hp0 hp1 HS2O.out.eta).mono ?_
          rintro e Q ⟨rfl, hB⟩
          have BQ := Lib.hid (BX3.out.trans (hB.mono BX3.out.size))
          have RQ := Lib.hid (RX3.out.below hB RX3.out.lt)
          have NQ := Lib.hid (NX3.out.below hB NX3.out.lt)
          have OQ := Lib.hid (own_keep OX3.out hB)
          clear hB BX3 RX3 NX3 OX3 PX3 SX3 KX3
          obtain ⟨E3, hE3⟩ : ∃ E3, soundE ((⟨s.ch, s.rd + 1, s.m0 + amt, s.m1, s.t0, s.t1, s.cs⟩ : St)) p0 p1 = E3 := ⟨_, rfl⟩
          rw [hE3]
          have HE3 := Lib.hid hE3
          clear hE3
          by_cases h5 : E3 = 0
          case neg =>
            have b5 : (E3 != 0) = true := by simpa using h5
            have HNZ : Hid (¬ E3 = 0) := Lib.hid h5
            have HT : Hid (nextE s p0 p1 0 1 amt c id = E3) := Lib.hid (by rw [nextE_5 HE1.out H2.out H3.out HD0.out, HS2.out, HE3.out])
            clear h5
            have r0 := RQ.out.cell 0
            have r1 := RQ.out.cell 1
            have r2 := RQ.out.cell 2
            have r3 := RQ.out.cell 3
            have r4 := RQ.out.cell 4
            have r5 := RQ.out.cell 5
            have r6 := RQ.out.cell 6
            simp only [List.getElem?_cons_zero, List.getElem?_cons_succ] at r0 r1 r2 r3 r4 r5 r6
            have f0 := RQ.out.frozen 0
            have f1 := RQ.out.frozen 1
            have f2 := RQ.out.frozen 2
            have f3 := RQ.out.frozen 3
            have f4 := RQ.out.frozen 4
            have f5 := RQ.out.frozen 5
            have f6 := RQ.out.frozen 6
            have z27 := zero27
            go_wp2
            have hRR : Blk ((((((((Q.setCell ⟨gR, 0, none⟩ (.int .u32 0)).setCell ⟨gR, 1, none⟩ (.int .u64 0)).setCell ⟨gR, 2, none⟩ (.int .u64 0)).setCell ⟨gR, 3, none⟩ (.int .u64 0)).setCell ⟨gR, 4, none⟩ (.int .u64 0)).setCell ⟨gR, 5, none⟩ (.int .u64 0)).setCell ⟨gR, 6, none⟩ (.slice none 0 0))) gR 27 [.int .u32 0, .int .u64 0, .int .u64 0, .int .u64 0, .int .u64 0, .int .u64 0, .slice none 0 0] := (((((((RQ.out.set_ 0 _).set_ 1 _).set_ 2 _).set_ 3 _).set_ 4 _).set_ 5 _).set_ 6 _)
            exact bodyPost_ret (results_ct Try.results26 _ _ gR 27 [.int .u32 0, .int .u64 0, .int .u64 0, .int .u64 0, .int .u64 0, .int .u64 0, .slice none 0 0] _ rfl hRR Try.underlying27 rfl info27) rfl (by rw [show nextS s p0 p1 0 1 amt c id = st0 from if_neg (by rw [HT.out]; exact HNZ.out), HT.out]; exact ⟨none, 0, 0, rfl, World.ownsRow_nil _ _ _ _, rfl, (((((((BQ.out.setCell (p := ⟨gR, 0, none⟩) HGR.out _).setCell (p := ⟨gR, 1, none⟩) HGR.out _).setCell (p := ⟨gR, 2, none⟩) HGR.out _).setCell (p := ⟨gR, 3, none⟩) HGR.out _).setCell (p := ⟨gR, 4, none⟩) HGR.out _).setCell (p := ⟨gR, 5, none⟩) HGR.out _).setCell (p := ⟨gR, 6, none⟩) HGR.out _)⟩)
          subst h5
          have HT : Hid (nextE s p0 p1 0 1 amt c id = 0) := Lib.hid (by rw [nextE_5 HE1.out H2.out H3.out HD0.out, HS2.out, HE3.out])
          have k0 := NQ.out.cell 0
          have k1 := NQ.out.cell 1
          have k2 := NQ.out.cell 2
          have k3 := NQ.out.cell 3
          have k4 := NQ.out.cell 4
          have k5 := NQ.out.cell 5
          have k6 := NQ.out.cell 6
          simp only [List.getElem?_cons_zero, List.getElem?_cons_succ] at k0 k1 k2 k3 k4 k5 k6
          have r0 := RQ.out.cell 0
          have r1 := RQ.out.cell 1
          have r2 := RQ.out.cell 2
          have r3 := RQ.out.cell 3
          have r4 := RQ.out.cell 4
          have r5 := RQ.out.cell 5
          have r6 := RQ.out.cell 6
          simp only [List.getElem?_cons_zero, List.getElem?_cons_succ] at r0 r1 r2 r3 r4 r5 r6
          have f0 := RQ.out.frozen 0
          have f1 := RQ.out.frozen 1
          have f2 := RQ.out.frozen 2
          have f3 := RQ.out.frozen 3
          have f4 := RQ.out.frozen 4
          have f5 := RQ.out.frozen 5
          have f6 := RQ.out.frozen 6
          go_wp2
          have hRR : Blk ((((((((Q.setCell ⟨gR, 0, none⟩ (.int .u32 s.ch)).setCell ⟨gR, 1, none⟩ (.int .u64 (s.rd + 1))).setCell ⟨gR, 2, none⟩ (.int .u64 (s.m0 + amt))).setCell ⟨gR, 3, none⟩ (.int .u64 s.m1)).setCell ⟨gR, 4, none⟩ (.int .u64 s.t0)).setCell ⟨gR, 5, none⟩ (.int .u64 s.t1)).setCell ⟨gR, 6, none⟩ (.slice va m vc))) gR 27 [.int .u32 s.ch, .int .u64 (s.rd + 1), .int .u64 (s.m0 + amt), .int .u64 s.m1, .int .u64 s.t0, .int .u64 s.t1, .slice va m vc] := (((((((RQ.out.set_ 0 _).set_ 1 _).set_ 2 _).set_ 3 _).set_ 4 _).set_ 5 _).set_ 6 _)
          have hown := OQ.out.kept ((only_setCell (p := ⟨gR, 6, none⟩) (only_setCell (p := ⟨gR, 5, none⟩) (only_setCell (p := ⟨gR, 4, none⟩) (only_setCell (p := ⟨gR, 3, none⟩) (only_setCell (p := ⟨gR, 2, none⟩) (only_setCell (p := ⟨gR, 1, none⟩) (only_setCell (p := ⟨gR, 0, none⟩) (only_refl Q (some gR)) (.inl rfl) (.int .u32 s.ch)) (.inl rfl) (.int .u64 (s.rd + 1))) (.inl rfl) (.int .u64 (s.m0 + amt))) (.inl rfl) (.int .u64 s.m1)) (.inl rfl) (.int .u64 s.t0)) (.inl rfl) (.int .u64 s.t1)) (.inl rfl) (.slice va m vc))) (.inr (fun e => own_ne OQ.out RQ.out (by decide) e.symm))
          exact bodyPost_ret (results_ct Try.results26 _ _ gR 27 [.int .u32 s.ch, .int .u64 (s.rd + 1), .int .u64 (s.m0 + amt), .int .u64 s.m1, .int .u64 s.t0, .int .u64 s.t1, .slice va m vc] _ rfl hRR Try.underlying27 rfl info27) rfl (by rw [show nextS s p0 p1 0 1 amt c id = (⟨s.ch, s.rd + 1, s.m0 + amt, s.m1, s.t0, s.t1, s.cs⟩ : St) from (if_pos HT.out).trans HS2.out, HT.out]; exact ⟨va, m, vc, rfl, hown, HS2L.out, (((((((BQ.out.setCell (p := ⟨gR, 0, none⟩) HGR.out _).setCell (p := ⟨gR, 1, none⟩) HGR.out _).setCell (p := ⟨gR, 2, none⟩) HGR.out _).setCell (p := ⟨gR, 3, none⟩) HGR.out _).setCell (p := ⟨gR, 4, none⟩) HGR.out _).setCell (p := ⟨gR, 5, none⟩) HGR.out _).setCell (p := ⟨gR, 6, none⟩) HGR.out _)⟩)
        · skip
          go_upto_region 26 with fail
          clear kk b0
          have k0 := Swr.out.cell 0
          have k1 := Swr.out.cell 1
          have k2 := Swr.out.cell 2
          have k3 := Swr.out.cell 3
          have k4 := Swr.out.cell 4
          have k5 := Swr.out.cell 5
          have k6 := Swr.out.cell 6
          simp only [List.getElem?_cons_zero, List.getElem?_cons_succ] at k0 k1 k2 k3 k4 k5 k6
          have q0 := Pwr.out.cell 0
          have q1 := Pwr.out.cell 1
          simp only [List.getElem?_cons_zero, List.getElem?_cons_succ] at q0 q1
          have ka := Kwr.out.cell 1
          rw [ocells_1] at ka
          go_wp2_with fail
          clear k0 k1 k2 k3 k4 k5 k6 q0 q1 ka
          refine (room_any s a n cap p0 p1 1 amt wr (HC.out.below Bwr.out) HL.out hn hp0 hp1 HO.out).mono ?_
          rintro e Z ⟨rfl, hB⟩
          have BZ := Lib.hid (Bwr.out.trans (hB.mono Bwr.out.size))
          have SZ := Lib.hid (Swr.out.below hB Swr.out.lt)
          have PZ := Lib.hid (Pwr.out.below hB Pwr.out.lt)
          have KZ := Lib.hid (Kwr.out.below hB Kwr.out.lt)
          have RZ := Lib.hid (Rwr.out.below hB Rwr.out.lt)
          have NZ := Lib.hid (Nwr.out.below hB Nwr.out.lt)
          have OZ := Lib.hid (own_keep Owr.out hB)
          clear hB Bwr Swr Pwr Kwr Rwr Nwr Owr
          obtain ⟨E2, hE2⟩ : ∃ x, spE (freeF s p0 p1 1) amt = x := ⟨_, rfl⟩
          rw [hE2]
          have HE2 := Lib.hid hE2
          clear hE2
          have HDE : Hid (doE s.nxt p0 p1 1 1 amt c id = spR E2 s.m1 amt) := Lib.hid (by rw [doE_1, show freeF s.nxt p0 p1 1 = freeF s p0 p1 1 from rfl, HE2.out]; rfl)
          by_cases h4 : E2 = 0
          case neg =>
            have b4 : (E2 != 0) = true := by simpa using h4
            have HNZ : Hid (¬ E2 = 0) := Lib.hid h4
            have HT : Hid (nextE s p0 p1 1 1 amt c id = E2) := Lib.hid (by rw [nextE_4 HE1.out H2.out H3.out (by rw [HDE.out, spR_e h4]; exact h4), HDE.out, spR_e h4])
            clear h4
            have r0 := RZ.out.cell 0
            have r1 := RZ.out.cell 1
            have r2 := RZ.out.cell 2
            have r3 := RZ.out.cell 3
            have r4 := RZ.out.cell 4
            have r5 := RZ.out.cell 5
            have r6 := RZ.out.cell 6
            simp only [List.getElem?_cons_zero, List.getElem?_cons_succ] at r0 r1 r2 r3 r4 r5 r6
            have f0 := RZ.out.frozen 0
            have f1 := RZ.out.frozen 1
            have f2 := RZ.out.frozen 2
            have f3 := RZ.out.frozen 3
            have f4 := RZ.out.frozen 4
            have f5 := RZ.out.frozen 5
            have f6 := RZ.out.frozen 6
            have z27 := zero27
            go_wp2
            have hRR : Blk ((((((((Z.setCell ⟨gR, 0, none⟩ (.int .u32 0)).setCell ⟨gR, 1, none⟩ (.int .u64 0)).setCell ⟨gR, 2, none⟩ (.int .u64 0)).setCell ⟨gR, 3, none⟩ (.int .u64 0)).setCell ⟨gR, 4, none⟩ (.int .u64 0)).setCell ⟨gR, 5, none⟩ (.int .u64 0)).setCell ⟨gR, 6, none⟩ (.slice none 0 0))) gR 27 [.int .u32 0, .int .u64 0, .int .u64 0, .int .u64 0, .int .u64 0, .int .u64 0, .slice none 0 0] := (((((((RZ.out.set_ 0 _).set_ 1 _).set_ 2 _).set_ 3 _).set_ 4 _).set_ 5 _).set_ 6 _)
            exact bodyPost_ret (results_ct Try.results26 _ _ gR 27 [.int .u32 0, .int .u64 0, .int .u64 0, .int .u64 0, .int .u64 0, .int .u64 0, .slice none 0 0] _ rfl hRR Try.underlying27 rfl info27) rfl (by rw [show nextS s p0 p1 1 1 amt c id = st0 from if_neg (by rw [HT.out]; exact HNZ.out), HT.out]; exact ⟨none, 0, 0, rfl, World.ownsRow_nil _ _ _ _, rfl, (((((((BZ.out.setCell (p := ⟨gR, 0, none⟩) HGR.out _).setCell (p := ⟨gR, 1, none⟩) HGR.out _).setCell (p := ⟨gR, 2, none⟩) HGR.out _).setCell (p := ⟨gR, 3, none⟩) HGR.out _).setCell (p := ⟨gR, 4, none⟩) HGR.out _).setCell (p := ⟨gR, 5, none⟩) HGR.out _).setCell (p := ⟨gR, 6, none⟩) HGR.out _)⟩)
          subst h4
          have kk := KZ.out.cell 0
          rw [ocells_0] at kk
          by_cases h5 : 18446744073709551616 ≤ s.m1 + amt
          case pos =>
            have HRA : Hid (∀ W, Calls Try.prog 29 #[.int .u64 s.m1, .int .u64 amt] W fun e w' => e = .returned (.tuple #[.int .u64 0, .int .i64 11]) ∧ W = w') := Lib.hid (fun W => radd_over _ _ W HO.out.m1 hamt h5)
            have HNZ : Hid (¬ (11 : Int) = 0) := Lib.hid (by decide)
            have HT : Hid (nextE s p0 p1 1 1 amt c id = 11) := Lib.hid (by rw [nextE_4 HE1.out H2.out H3.out (by rw [HDE.out, spR_over h5]; decide), HDE.out, spR_over h5])
            clear h5
            go_upto_region 30 with fail
            clear kk
            have hBz : Below Z.heap.size Z Z.drew := below_drewN (Below.refl _ _) 1
            have BX0 : Hid (Below w.heap.size w Z.drew) := Lib.hid (BZ.out.trans (hBz.mono BZ.out.size))
            have SX0 : Hid (Blk Z.drew gS 27 [.int .u32 s.ch, .int .u64 s.rd, .int .u64 s.m0, .int .u64 s.m1, .int .u64 s.t0, .int .u64 s.t1, .slice a n cap]) := Lib.hid (SZ.out.below hBz SZ.out.lt)
            have PX0 : Hid (Blk Z.drew gp 24 [.int .u64 p0, .int .u64 p1]) := Lib.hid (PZ.out.below hBz PZ.out.lt)
            have KX0 : Hid (Blk Z.drew gk 55 (ocells 1 amt c id)) := Lib.hid (KZ.out.below hBz KZ.out.lt)
            have RX0 : Hid (Blk Z.drew gR 27 [.int .u32 0, .int .u64 0, .int .u64 0, .int .u64 0, .int .u64 0, .int .u64 0, .slice none 0 0]) := Lib.hid (RZ.out.below hBz RZ.out.lt)
            have NX0 : Hid (Blk Z.drew gN 27 [.int .u32 s.ch, .int .u64 (s.rd + 1), .int .u64 s.m0, .int .u64 s.m1, .int .u64 s.t0, .int .u64 s.t1, .slice va m vc]) := Lib.hid (NZ.out.below hBz NZ.out.lt)
            have OX0 : Hid (Z.drew.ownsRow w.heap.size 53 36 (.slice va m vc) m (cflat s.cs)) := Lib.hid (own_keep OZ.out hBz)
            clear hBz
            refine wp_region_held_drew (S := fun w' => Blk w' gk 55 (ocells 1 amt c id)) (by kernel_rfl) (KX0.out) (fun hHeld => ?_)
            generalize Z.drew = X0 at hHeld BX0 SX0 PX0 KX0 RX0 NX0 OX0 ⊢
            refine wpAnyH_take (i := 0) (v := .int .i64 1) rfl (by kernel_rfl) (by kernel_rfl) (by kernel_rfl) (fun _ _ _ h => h) (Or.inl ⟨by rfl, fun w _ => by rfl⟩) hHeld ?_
            show wpAnyH _ _ _ _ _ _ _ (Act.put _ (some 102) _) _
            simp only [Act.put, List.setIfInBounds_toArray, List.set_cons_zero, List.set_cons_succ]
            refine wpAnyH_take (i := 1) (v := .int .i64 1) rfl (by kernel_rfl) (by kernel_rfl) (by kernel_rfl) (fun _ _ _ h => h) (Or.inl ⟨by rfl, fun w _ => by rfl⟩) hHeld ?_
            show wpAnyH _ _ _ _ _ _ _ (Act.put _ (some 103) _) _
            simp only [Act.put, List.setIfInBounds_toArray, List.set_cons_zero, List.set_cons_succ]
            refine wpAnyH_take (i := 2) (v := .pointer (some ⟨gN, 2, none⟩)) rfl (by kernel_rfl) (by kernel_rfl) (by kernel_rfl) (fun _ _ _ h => h) (Or.inl ⟨by rfl, by intro w' h; go_simp⟩) hHeld ?_
            show wpAnyH _ _ _ _ _ _ _ (Act.put _ (some 104) _) _
            simp only [Act.put, List.setIfInBounds_toArray, List.set_cons_zero, List.set_cons_succ]
            refine wpAnyH_take (i := 3) (v := .pointer (some ⟨gN, 3, none⟩)) rfl (by kernel_rfl) (by kernel_rfl) (by kernel_rfl) (fun _ _ _ h => h) (Or.inl ⟨by rfl, by intro w' h; go_simp⟩) hHeld ?_
            show wpAnyH _ _ _ _ _ _ _ (Act.put _ (some 105) _) _
            simp only [Act.put, List.setIfInBounds_toArray, List.set_cons_zero, List.set_cons_succ]
            refine wpAnyH_take (i := 5) (v := .pointer (some ⟨gk, 1, none⟩)) rfl (by kernel_rfl) (by kernel_rfl) (by kernel_rfl) (fun _ _ _ h => h) (Or.inl ⟨by rfl, by intro w' h; go_simp⟩) hHeld ?_
            show wpAnyH _ _ _ _ _ _ _ (Act.put _ (some 107) _) _
            simp only [Act.put, List.setIfInBounds_toArray, List.set_cons_zero, List.set_cons_succ]
            refine wpAnyH_take (i := 6) (v := .int .u64 amt) rfl (by kernel_rfl) (by kernel_rfl) (by kernel_rfl) (fun _ _ _ h => h) (Or.inl ⟨by rfl, by intro w' h; have q := Blk.cell h 1; rw [ocells_1] at q; go_simp⟩) hHeld ?_
            show wpAnyH _ _ _ _ _ _ _ (Act.put _ (some 108) _) _
            simp only [Act.put, List.setIfInBounds_toArray, List.set_cons_zero, List.set_cons_succ]
            refine wpAnyH_take (i := 11) (v := .pointer (some ⟨gN, 2, none⟩)) rfl (by kernel_rfl) (by kernel_rfl) (by kernel_rfl) (fun _ _ _ h => h) (Or.inl ⟨by rfl, by intro w' h; go_simp⟩) hHeld ?_
            show wpAnyH _ _ _ _ _ _ _ (Act.put _ (some 112) _) _
            simp only [Act.put, List.setIfInBounds_toArray, List.set_cons_zero, List.set_cons_succ]
            refine wpAnyH_ready (rs := [4]) (by kernel_rfl) (by simp) ?_
            refine AllReadyH.cons rfl (fun K hK => ?_) AllReadyH.nil
            refine step_ld rfl 23 (.tmp 105) rfl gN 3 rfl (.int .u64 s.m1) (run_load_u64 X0 gN 3 s.m1 27 _ NX0.out rfl) ?_
            refine hK.out _ _ (KX0.out) (fun hHeld => ?_)
            clear hK K
            show wpAnyH _ _ _ _ _ _ _ (Act.put _ (some 106) _) _
            simp only [Act.put, List.setIfInBounds_toArray, List.set_cons_zero, List.set_cons_succ]
            refine wpAnyH_ready (rs := [7]) (by kernel_rfl) (by simp) ?_
            refine AllReadyH.cons rfl (fun K hK => ?_) AllReadyH.nil
            refine step_call rfl 29 #[.tmp 106, .tmp 108] #[23, 23] rfl #[.int .u64 s.m1, .int .u64 amt] (by simp [Act.eval]) (by go_simp) (HRA.out X0) ?_
            rintro e X2 ⟨rfl, rfl⟩
            refine ⟨_, rfl, hK.out _ _ (KX0.out) (fun hHeld => ?_)⟩
            clear hK K
            show wpAnyH _ _ _ _ _ _ _ (Act.put _ (some 109) _) _
            simp only [Act.put, List.setIfInBounds_toArray, List.set_cons_zero, List.set_cons_succ]
            refine wpAnyH_take (i := 8) (v := .tuple #[.int .u64 0, .int .i64 11]) rfl (by kernel_rfl) (by kernel_rfl) (by kernel_rfl) (fun _ _ _ h => h) (Or.inl ⟨by rfl, fun w _ => by rfl⟩) hHeld ?_
            show wpAnyH _ _ _ _ _ _ _ (Act.put _ (some 101) _) _
            simp only [Act.put, List.setIfInBounds_toArray, List.set_cons_zero, List.set_cons_succ]
            refine wpAnyH_take (i := 9) (v := .int .u64 0) rfl (by kernel_rfl) (by kernel_rfl) (by kernel_rfl) (fun _ _ _ h => h) (Or.inl ⟨by rfl, by intro w' h; go_simp⟩) hHeld ?_
            show wpAnyH _ _ _ _ _ _ _ (Act.put _ (some 110) _) _
            simp only [Act.put, List.setIfInBounds_toArray, List.set_cons_zero, List.set_cons_succ]
            refine wpAnyH_take (i := 10) (v := .int .i64 11) rfl (by kernel_rfl) (by kernel_rfl) (by kernel_rfl) (fun _ _ _ h => h) (Or.inl ⟨by rfl, by intro w' h; go_simp⟩) hHeld ?_
            show wpAnyH _ _ _ _ _ _ _ (Act.put _ (some 111) _) _
            simp only [Act.put, List.setIfInBounds_toArray, List.set_cons_zero, List.set_cons_succ]
            refine wpAnyH_take (i := 12) (v := .pointer (some ⟨gN, 3, none⟩)) rfl (by kernel_rfl) (by kernel_rfl) (by kernel_rfl) (fun _ _ _ h => h) (Or.inl ⟨by rfl, by intro w' h; go_simp⟩) hHeld ?_
            show wpAnyH _ _ _ _ _ _ _ (Act.put _ (some 113) _) _
            simp only [Act.put, List.setIfInBounds_toArray, List.set_cons_zero, List.set_cons_succ]
            refine wpAnyH_ready (rs := [13]) (by kernel_rfl) (by simp) ?_
            refine AllReadyH.cons rfl (fun K hK => ?_) AllReadyH.nil
            refine step_cell rfl 23 (.tmp 113) (.tmp 110) rfl gN 3 rfl (.int .u64 0) rfl 27 _ NX0.out (run_store_u64 X0 gN 3 0 27 _ NX0.out (by simp)) ?_
            intro X3 hNb hO
            have hKW : ∀ q, some gN = some q → w.heap.size ≤ q := fun q hq => by injection hq with hq; have := HGN.out; omega
            have hTO : (Value.slice va m vc).ownBlock = none ∨ (Value.slice va m vc).ownBlock ≠ some gN := .inr (fun e => own_ne OX0.out NX0.out (by decide) e.symm)
            have hnS : some gS ≠ some gN := fun e => by injection e with e; have := HGN.out; omega
            have hnP : some gp ≠ some gN := fun e => by injection e with e; have := HGN.out; omega
            have hnK : some gk ≠ some gN := fun e => by injection e with e; have := HGN.out; omega
            have hnR : some gR ≠ some gN := fun e => by injection e with e; have := HGN.out; omega
            have BX3 : Hid (Below w.heap.size w X3) := Lib.hid (BX0.out.grown hO BX0.out.size hKW)
            have SX3 : Hid (Blk X3 gS 27 [.int .u32 s.ch, .int .u64 s.rd, .int .u64 s.m0, .int .u64 s.m1, .int .u64 s.t0, .int .u64 s.t1, .slice a n cap]) := Lib.hid (SX0.out.grown hO hnS)
            have PX3 : Hid (Blk X3 gp 24 [.int .u64 p0, .int .u64 p1]) := Lib.hid (PX0.out.grown hO hnP)
            have KX3 : Hid (Blk X3 gk 55 (ocells 1 amt c id)) := Lib.hid (KX0.out.grown hO hnK)
            have RX3 : Hid (Blk X3 gR 27 [.int .u32 0, .int .u64 0, .int .u64 0, .int .u64 0, .int .u64 0, .int .u64 0, .slice none 0 0]) := Lib.hid (RX0.out.grown hO hnR)
            have OX3 : Hid (X3.ownsRow w.heap.size 53 36 (.slice va m vc) m (cflat s.cs)) := Lib.hid (OX0.out.kept hO hTO)
            have NX3 : Hid (Blk X3 gN 27 [.int .u32 s.ch, .int .u64 (s.rd + 1), .int .u64 s.m0, .int .u64 0, .int .u64 s.t0, .int .u64 s.t1, .slice va m vc]) := Lib.hid (hNb)
            clear BX0 SX0 PX0 KX0 RX0 OX0 hO hNb hKW hTO hnS hnP hnK hnR NX0
            refine hK.out _ _ (KX3.out) (fun hHeld => ?_)
            clear hK K
            show wpAnyH _ _ _ _ _ _ _ (Act.put _ none _) _
            simp only [Act.put]
            refine wpAnyH_take (i := 14) (v := .int .i64 11) rfl (by kernel_rfl) (by kernel_rfl) (by kernel_rfl) (fun _ _ _ h => h) (Or.inl ⟨by rfl, fun w _ => by rfl⟩) hHeld ?_
            show wpAnyH _ _ _ _ _ _ _ (Act.put _ (some 14) _) _
            simp only [Act.put, List.setIfInBounds_toArray, List.set_cons_zero, List.set_cons_succ]
            refine wpAnyH_done (by kernel_rfl) ?_ _
            clear hHeld
            have r0 := RX3.out.cell 0
            have r1 := RX3.out.cell 1
            have r2 := RX3.out.cell 2
            have r3 := RX3.out.cell 3
            have r4 := RX3.out.cell 4
            have r5 := RX3.out.cell 5
            have r6 := RX3.out.cell 6
            simp only [List.getElem?_cons_zero, List.getElem?_cons_succ] at r0 r1 r2 r3 r4 r5 r6
            have f0 := RX3.out.frozen 0
            have f1 := RX3.out.frozen 1
            have f2 := RX3.out.frozen 2
            have f3 := RX3.out.frozen 3
            have f4 := RX3.out.frozen 4
            have f5 := RX3.out.frozen 5
            have f6 := RX3.out.frozen 6
            have z27 := zero27
            go_wp2
            have hRR : Blk ((((((((X3.setCell ⟨gR, 0, none⟩ (.int .u32 0)).setCell ⟨gR, 1, none⟩ (.int .u64 0)).setCell ⟨gR, 2, none⟩ (.int .u64 0)).setCell ⟨gR, 3, none⟩ (.int .u64 0)).setCell ⟨gR, 4, none⟩ (.int .u64 0)).setCell ⟨gR, 5, none⟩ (.int .u64 0)).setCell ⟨gR, 6, none⟩ (.slice none 0 0))) gR 27 [.int .u32 0, .int .u64 0, .int .u64 0, .int .u64 0, .int .u64 0, .int .u64 0, .slice none 0 0] := (((((((RX3.out.set_ 0 _).set_ 1 _).set_ 2 _).set_ 3 _).set_ 4 _).set_ 5 _).set_ 6 _)
            exact bodyPost_ret (results_ct Try.results26 _ _ gR 27 [.int .u32 0, .int .u64 0, .int .u64 0, .int .u64 0, .int .u64 0, .int .u64 0, .slice none 0 0] _ rfl hRR Try.underlying27 rfl info27) rfl (by rw [show nextS s p0 p1 1 1 amt c id = st0 from if_neg (by rw [HT.out]; exact HNZ.out), HT.out]; exact ⟨none, 0, 0, rfl, World.ownsRow_nil _ _ _ _, rfl, (((((((BX3.out.setCell (p := ⟨gR, 0, none⟩) HGR.out _).setCell (p := ⟨gR, 1, none⟩) HGR.out _).setCell (p := ⟨gR, 2, none⟩) HGR.out _).setCell (p := ⟨gR, 3, none⟩) HGR.out _).setCell (p := ⟨gR, 4, none⟩) HGR.out _).setCell (p := ⟨gR, 5, none⟩) HGR.out _).setCell (p := ⟨gR, 6, none⟩) HGR.out _)⟩)
          have HRA : Hid (∀ W, Calls Try.prog 29 #[.int .u64 s.m1, .int .u64 amt] W fun e w' => e = .returned (.tuple #[.int .u64 (s.m1 + amt), .int .i64 0]) ∧ W = w') := Lib.hid (fun W => radd_ok _ _ W HO.out.m1 hamt h5)
          have HD0 : Hid (doE s.nxt p0 p1 1 1 amt c id = 0) := Lib.hid (by rw [HDE.out, spR_ok h5])
          have HS2 : Hid (doS s.nxt 1 1 amt c id = (⟨s.ch, s.rd + 1, s.m0, s.m1 + amt, s.t0, s.t1, s.cs⟩ : St)) := Lib.hid (by rw [doS_1]; simp [St.pay, St.nxt])
          have HS2L : Hid (((⟨s.ch, s.rd + 1, s.m0, s.m1 + amt, s.t0, s.t1, s.cs⟩ : St)).cs.length = m) := Lib.hid HM.out
          have HS2C : Hid (∀ c ∈ ((⟨s.ch, s.rd + 1, s.m0, s.m1 + amt, s.t0, s.t1, s.cs⟩ : St)).cs, c.Ok) := Lib.hid HC.out.ok
          have HS2O : Hid ((⟨s.ch, s.rd + 1, s.m0, s.m1 + amt, s.t0, s.t1, s.cs⟩ : St)).Ok := Lib.hid (by have h := HON.out.pay (side := 1) hamt (by show s.m1 + amt < _; omega); simpa [St.pay, St.nxt] using h)
          clear h5
          go_upto_region 30 with fail
          clear kk
          have hBz : Below Z.heap.size Z Z.drew := below_drewN (Below.refl _ _) 1
          have BX0 : Hid (Below w.heap.size w Z.drew) := Lib.hid (BZ.out.trans (hBz.mono BZ.out.size))
          have SX0 : Hid (Blk Z.drew gS 27 [.int .u32 s.ch, .int .u64 s.rd, .int .u64 s.m0, .int .u64 s.m1, .int .u64 s.t0, .int .u64 s.t1, .slice a n cap]) := Lib.hid (SZ.out.below hBz SZ.out.lt)
          have PX0 : Hid (Blk Z.drew gp 24 [.int .u64 p0, .int .u64 p1]) := Lib.hid (PZ.out.below hBz PZ.out.lt)
          have KX0 : Hid (Blk Z.drew gk 55 (ocells 1 amt c id)) := Lib.hid (KZ.out.below hBz KZ.out.lt)
          have RX0 : Hid (Blk Z.drew gR 27 [.int .u32 0, .int .u64 0, .int .u64 0, .int .u64 0, .int .u64 0, .int .u64 0, .slice none 0 0]) := Lib.hid (RZ.out.below hBz RZ.out.lt)
          have NX0 : Hid (Blk Z.drew gN 27 [.int .u32 s.ch, .int .u64 (s.rd + 1), .int .u64 s.m0, .int .u64 s.m1, .int .u64 s.t0, .int .u64 s.t1, .slice va m vc]) := Lib.hid (NZ.out.below hBz NZ.out.lt)
          have OX0 : Hid (Z.drew.ownsRow w.heap.size 53 36 (.slice va m vc) m (cflat s.cs)) := Lib.hid (own_keep OZ.out hBz)
          clear hBz
          refine wp_region_held_drew (S := fun w' => Blk w' gk 55 (ocells 1 amt c id)) (by kernel_rfl) (KX0.out) (fun hHeld => ?_)
          generalize Z.drew = X0 at hHeld BX0 SX0 PX0 KX0 RX0 NX0 OX0 ⊢
          refine wpAnyH_take (i := 0) (v := .int .i64 1) rfl (by kernel_rfl) (by kernel_rfl) (by kernel_rfl) (fun _ _ _ h => h) (Or.inl ⟨by rfl, fun w _ => by rfl⟩) hHeld ?_
          show wpAnyH _ _ _ _ _ _ _ (Act.put _ (some 102) _) _
          simp only [Act.put, List.setIfInBounds_toArray, List.set_cons_zero, List.set_cons_succ]
          refine wpAnyH_take (i := 1) (v := .int .i64 1) rfl (by kernel_rfl) (by kernel_rfl) (by kernel_rfl) (fun _ _ _ h => h) (Or.inl ⟨by rfl, fun w _ => by rfl⟩) hHeld ?_
          show wpAnyH _ _ _ _ _ _ _ (Act.put _ (some 103) _) _
          simp only [Act.put, List.setIfInBounds_toArray, List.set_cons_zero, List.set_cons_succ]
          refine wpAnyH_take (i := 2) (v := .pointer (some ⟨gN, 2, none⟩)) rfl (by kernel_rfl) (by kernel_rfl) (by kernel_rfl) (fun _ _ _ h => h) (Or.inl ⟨by rfl, by intro w' h; go_simp⟩) hHeld ?_
          show wpAnyH _ _ _ _ _ _ _ (Act.put _ (some 104) _) _
          simp only [Act.put, List.setIfInBounds_toArray, List.set_cons_zero, List.set_cons_succ]
          refine wpAnyH_take (i := 3) (v := .pointer (some ⟨gN, 3, none⟩)) rfl (by kernel_rfl) (by kernel_rfl) (by kernel_rfl) (fun _ _ _ h => h) (Or.inl ⟨by rfl, by intro w' h; go_simp⟩) hHeld ?_
          show wpAnyH _ _ _ _ _ _ _ (Act.put _ (some 105) _) _
          simp only [Act.put, List.setIfInBounds_toArray, List.set_cons_zero, List.set_cons_succ]
          refine wpAnyH_take (i := 5) (v := .pointer (some ⟨gk, 1, none⟩)) rfl (by kernel_rfl) (by kernel_rfl) (by kernel_rfl) (fun _ _ _ h => h) (Or.inl ⟨by rfl, by intro w' h; go_simp⟩) hHeld ?_
          show wpAnyH _ _ _ _ _ _ _ (Act.put _ (some 107) _) _
          simp only [Act.put, List.setIfInBounds_toArray, List.set_cons_zero, List.set_cons_succ]
          refine wpAnyH_take (i := 6) (v := .int .u64 amt) rfl (by kernel_rfl) (by kernel_rfl) (by kernel_rfl) (fun _ _ _ h => h) (Or.inl ⟨by rfl, by intro w' h; have q := Blk.cell h 1; rw [ocells_1] at q; go_simp⟩) hHeld ?_
          show wpAnyH _ _ _ _ _ _ _ (Act.put _ (some 108) _) _
          simp only [Act.put, List.setIfInBounds_toArray, List.set_cons_zero, List.set_cons_succ]
          refine wpAnyH_take (i := 11) (v := .pointer (some ⟨gN, 2, none⟩)) rfl (by kernel_rfl) (by kernel_rfl) (by kernel_rfl) (fun _ _ _ h => h) (Or.inl ⟨by rfl, by intro w' h; go_simp⟩) hHeld ?_
          show wpAnyH _ _ _ _ _ _ _ (Act.put _ (some 112) _) _
          simp only [Act.put, List.setIfInBounds_toArray, List.set_cons_zero, List.set_cons_succ]
          refine wpAnyH_ready (rs := [4]) (by kernel_rfl) (by simp) ?_
          refine AllReadyH.cons rfl (fun K hK => ?_) AllReadyH.nil
          refine step_ld rfl 23 (.tmp 105) rfl gN 3 rfl (.int .u64 s.m1) (run_load_u64 X0 gN 3 s.m1 27 _ NX0.out rfl) ?_
          refine hK.out _ _ (KX0.out) (fun hHeld => ?_)
          clear hK K
          show wpAnyH _ _ _ _ _ _ _ (Act.put _ (some 106) _) _
          simp only [Act.put, List.setIfInBounds_toArray, List.set_cons_zero, List.set_cons_succ]
          refine wpAnyH_ready (rs := [7]) (by kernel_rfl) (by simp) ?_
          refine AllReadyH.cons rfl (fun K hK => ?_) AllReadyH.nil
          refine step_call rfl 29 #[.tmp 106, .tmp 108] #[23, 23] rfl #[.int .u64 s.m1, .int .u64 amt] (by simp [Act.eval]) (by go_simp) (HRA.out X0) ?_
          rintro e X2 ⟨rfl, rfl⟩
          refine ⟨_, rfl, hK.out _ _ (KX0.out) (fun hHeld => ?_)⟩
          clear hK K
          show wpAnyH _ _ _ _ _ _ _ (Act.put _ (some 109) _) _
          simp only [Act.put, List.setIfInBounds_toArray, List.set_cons_zero, List.set_cons_succ]
          refine wpAnyH_take (i := 8) (v := .tuple #[.int .u64 (s.m1 + amt), .int .i64 0]) rfl (by kernel_rfl) (by kernel_rfl) (by kernel_rfl) (fun _ _ _ h => h) (Or.inl ⟨by rfl, fun w _ => by rfl⟩) hHeld ?_
          show wpAnyH _ _ _ _ _ _ _ (Act.put _ (some 101) _) _
          simp only [Act.put, List.setIfInBounds_toArray, List.set_cons_zero, List.set_cons_succ]
          refine wpAnyH_take (i := 9) (v := .int .u64 (s.m1 + amt)) rfl (by kernel_rfl) (by kernel_rfl) (by kernel_rfl) (fun _ _ _ h => h) (Or.inl ⟨by rfl, by intro w' h; go_simp⟩) hHeld ?_
          show wpAnyH _ _ _ _ _ _ _ (Act.put _ (some 110) _) _
          simp only [Act.put, List.setIfInBounds_toArray, List.set_cons_zero, List.set_cons_succ]
          refine wpAnyH_take (i := 10) (v := .int .i64 0) rfl (by kernel_rfl) (by kernel_rfl) (by kernel_rfl) (fun _ _ _ h => h) (Or.inl ⟨by rfl, by intro w' h; go_simp⟩) hHeld ?_
          show wpAnyH _ _ _ _ _ _ _ (Act.put _ (some 111) _) _
          simp only [Act.put, List.setIfInBounds_toArray, List.set_cons_zero, List.set_cons_succ]
          refine wpAnyH_take (i := 12) (v := .pointer (some ⟨gN, 3, none⟩)) rfl (by kernel_rfl) (by kernel_rfl) (by kernel_rfl) (fun _ _ _ h => h) (Or.inl ⟨by rfl, by intro w' h; go_simp⟩) hHeld ?_
          show wpAnyH _ _ _ _ _ _ _ (Act.put _ (some 113) _) _
          simp only [Act.put, List.setIfInBounds_toArray, List.set_cons_zero, List.set_cons_succ]
          refine wpAnyH_ready (rs := [13]) (by kernel_rfl) (by simp) ?_
          refine AllReadyH.cons rfl (fun K hK => ?_) AllReadyH.nil
          refine step_cell rfl 23 (.tmp 113) (.tmp 110) rfl gN 3 rfl (.int .u64 (s.m1 + amt)) rfl 27 _ NX0.out (run_store_u64 X0 gN 3 (s.m1 + amt) 27 _ NX0.out (by simp)) ?_
          intro X3 hNb hO
          have hKW : ∀ q, some gN = some q → w.heap.size ≤ q := fun q hq => by injection hq with hq; have := HGN.out; omega
          have hTO : (Value.slice va m vc).ownBlock = none ∨ (Value.slice va m vc).ownBlock ≠ some gN := .inr (fun e => own_ne OX0.out NX0.out (by decide) e.symm)
          have hnS : some gS ≠ some gN := fun e => by injection e with e; have := HGN.out; omega
          have hnP : some gp ≠ some gN := fun e => by injection e with e; have := HGN.out; omega
          have hnK : some gk ≠ some gN := fun e => by injection e with e; have := HGN.out; omega
          have hnR : some gR ≠ some gN := fun e => by injection e with e; have := HGN.out; omega
          have BX3 : Hid (Below w.heap.size w X3) := Lib.hid (BX0.out.grown hO BX0.out.size hKW)
          have SX3 : Hid (Blk X3 gS 27 [.int .u32 s.ch, .int .u64 s.rd, .int .u64 s.m0, .int .u64 s.m1, .int .u64 s.t0, .int .u64 s.t1, .slice a n cap]) := Lib.hid (SX0.out.grown hO hnS)
          have PX3 : Hid (Blk X3 gp 24 [.int .u64 p0, .int .u64 p1]) := Lib.hid (PX0.out.grown hO hnP)
          have KX3 : Hid (Blk X3 gk 55 (ocells 1 amt c id)) := Lib.hid (KX0.out.grown hO hnK)
          have RX3 : Hid (Blk X3 gR 27 [.int .u32 0, .int .u64 0, .int .u64 0, .int .u64 0, .int .u64 0, .int .u64 0, .slice none 0 0]) := Lib.hid (RX0.out.grown hO hnR)
          have OX3 : Hid (X3.ownsRow w.heap.size 53 36 (.slice va m vc) m (cflat s.cs)) := Lib.hid (OX0.out.kept hO hTO)
          have NX3 : Hid (Blk X3 gN 27 [.int .u32 s.ch, .int .u64 (s.rd + 1), .int .u64 s.m0, .int .u64 (s.m1 + amt), .int .u64 s.t0, .int .u64 s.t1, .slice va m vc]) := Lib.hid (hNb)
          clear BX0 SX0 PX0 KX0 RX0 OX0 hO hNb hKW hTO hnS hnP hnK hnR NX0
          refine hK.out _ _ (KX3.out) (fun hHeld => ?_)
          clear hK K
          show wpAnyH _ _ _ _ _ _ _ (Act.put _ none _) _
          simp only [Act.put]
          refine wpAnyH_take (i := 14) (v := .int .i64 0) rfl (by kernel_rfl) (by kernel_rfl) (by kernel_rfl) (fun _ _ _ h => h) (Or.inl ⟨by rfl, fun w _ => by rfl⟩) hHeld ?_
          show wpAnyH _ _ _ _ _ _ _ (Act.put _ (some 14) _) _
          simp only [Act.put, List.setIfInBounds_toArray, List.set_cons_zero, List.set_cons_succ]
          refine wpAnyH_done (by kernel_rfl) ?_ _
          clear hHeld
          go_upto_region 48 with fail
          have k0 := NX3.out.cell 0
          have k1 := NX3.out.cell 1
          have k2 := NX3.out.cell 2
          have k3 := NX3.out.cell 3
          have k4 := NX3.out.cell 4
          have k5 := NX3.out.cell 5
          have k6 := NX3.out.cell 6
          simp only [List.getElem?_cons_zero, List.getElem?_cons_succ] at k0 k1 k2 k3 k4 k5 k6
          have q0 := PX3.out.cell 0
          have q1 := PX3.out.cell 1
          simp only [List.getElem?_cons_zero, List.getElem?_cons_succ] at q0 q1
          go_wp2_with fail
          clear k0 k1 k2 k3 k4 k5 k6 q0 q1
          refine (show Calls Try.prog 16 #[.agg #[.int .u32 s.ch, .int .u64 (s.rd + 1), .int .u64 s.m0, .int .u64 (s.m1 + amt), .int .u64 s.t0, .int .u64 s.t1, .slice va m vc], .agg #[.int .u64 p0, .int .u64 p1]] X3 (fun e w2 => e = .returned (.int .i64 (soundE ((⟨s.ch, s.rd + 1, s.m0, s.m1 + amt, s.t0, s.t1, s.cs⟩ : St)) p0 p1)) ∧ Below X3.heap.size X3 w2) from rsound_any ((⟨s.ch, s.rd + 1, s.m0, s.m1 + amt, s.t0, s.t1, s.cs⟩ : St)).ch ((⟨s.ch, s.rd + 1, s.m0, s.m1 + amt, s.t0, s.t1, s.cs⟩ : St)).rd ((⟨s.ch, s.rd + 1, s.m0, s.m1 + amt, s.t0, s.t1, s.cs⟩ : St)).m0 ((⟨s.ch, s.rd + 1, s.m0, s.m1 + amt, s.t0, s.t1, s.cs⟩ : St)).m1 ((⟨s.ch, s.rd + 1, s.m0, s.m1 + amt, s.t0, s.t1, s.cs⟩ : St)).t0 ((⟨s.ch, s.rd + 1, s.m0, s.m1 + amt, s.t0, s.t1, s.cs⟩ : St)).t1 va m vc ((⟨s.ch, s.rd + 1, s.m0, s.m1 + amt, s.t0, s.t1, s.cs⟩ : St)).cs p0 p1 X3 (CRow.of_own (by rw [HS2L.out]; exact OX3.out) HS2C.out) HS2L.out hml hp0 hp1 HS2O.out.eta).mono ?_
          rintro e Q ⟨rfl, hB⟩
          have BQ := Lib.hid (BX3.out.trans (hB.mono BX3.out.size))
          have RQ := Lib.hid (RX3.out.below hB RX3.out.lt)
          have NQ := Lib.hid (NX3.out.below hB NX3.out.lt)
          have OQ := Lib.hid (own_keep OX3.out hB)
          clear hB BX3 RX3 NX3 OX3 PX3 SX3 KX3
          obtain ⟨E3, hE3⟩ : ∃ E3, soundE ((⟨s.ch, s.rd + 1, s.m0, s.m1 + amt, s.t0, s.t1, s.cs⟩ : St)) p0 p1 = E3 := ⟨_, rfl⟩
          rw [hE3]
          have HE3 := Lib.hid hE3
          clear hE3
          by_cases h5 : E3 = 0
          case neg =>
            have b5 : (E3 != 0) = true := by simpa using h5
            have HNZ : Hid (¬ E3 = 0) := Lib.hid h5
            have HT : Hid (nextE s p0 p1 1 1 amt c id = E3) := Lib.hid (by rw [nextE_5 HE1.out H2.out H3.out HD0.out, HS2.out, HE3.out])
            clear h5
            have r0 := RQ.out.cell 0
            have r1 := RQ.out.cell 1
            have r2 := RQ.out.cell 2
            have r3 := RQ.out.cell 3
            have r4 := RQ.out.cell 4
            have r5 := RQ.out.cell 5
            have r6 := RQ.out.cell 6
            simp only [List.getElem?_cons_zero, List.getElem?_cons_succ] at r0 r1 r2 r3 r4 r5 r6
            have f0 := RQ.out.frozen 0
            have f1 := RQ.out.frozen 1
            have f2 := RQ.out.frozen 2
            have f3 := RQ.out.frozen 3
            have f4 := RQ.out.frozen 4
            have f5 := RQ.out.frozen 5
            have f6 := RQ.out.frozen 6
            have z27 := zero27
            go_wp2
            have hRR : Blk ((((((((Q.setCell ⟨gR, 0, none⟩ (.int .u32 0)).setCell ⟨gR, 1, none⟩ (.int .u64 0)).setCell ⟨gR, 2, none⟩ (.int .u64 0)).setCell ⟨gR, 3, none⟩ (.int .u64 0)).setCell ⟨gR, 4, none⟩ (.int .u64 0)).setCell ⟨gR, 5, none⟩ (.int .u64 0)).setCell ⟨gR, 6, none⟩ (.slice none 0 0))) gR 27 [.int .u32 0, .int .u64 0, .int .u64 0, .int .u64 0, .int .u64 0, .int .u64 0, .slice none 0 0] := (((((((RQ.out.set_ 0 _).set_ 1 _).set_ 2 _).set_ 3 _).set_ 4 _).set_ 5 _).set_ 6 _)
            exact bodyPost_ret (results_ct Try.results26 _ _ gR 27 [.int .u32 0, .int .u64 0, .int .u64 0, .int .u64 0, .int .u64 0, .int .u64 0, .slice none 0 0] _ rfl hRR Try.underlying27 rfl info27) rfl (by rw [show nextS s p0 p1 1 1 amt c id = st0 from if_neg (by rw [HT.out]; exact HNZ.out), HT.out]; exact ⟨none, 0, 0, rfl, World.ownsRow_nil _ _ _ _, rfl, (((((((BQ.out.setCell (p := ⟨gR, 0, none⟩) HGR.out _).setCell (p := ⟨gR, 1, none⟩) HGR.out _).setCell (p := ⟨gR, 2, none⟩) HGR.out _).setCell (p := ⟨gR, 3, none⟩) HGR.out _).setCell (p := ⟨gR, 4, none⟩) HGR.out _).setCell (p := ⟨gR, 5, none⟩) HGR.out _).setCell (p := ⟨gR, 6, none⟩) HGR.out _)⟩)
          subst h5
          have HT : Hid (nextE s p0 p1 1 1 amt c id = 0) := Lib.hid (by rw [nextE_5 HE1.out H2.out H3.out HD0.out, HS2.out, HE3.out])
          have k0 := NQ.out.cell 0
          have k1 := NQ.out.cell 1
          have k2 := NQ.out.cell 2
          have k3 := NQ.out.cell 3
          have k4 := NQ.out.cell 4
          have k5 := NQ.out.cell 5
          have k6 := NQ.out.cell 6
          simp only [List.getElem?_cons_zero, List.getElem?_cons_succ] at k0 k1 k2 k3 k4 k5 k6
          have r0 := RQ.out.cell 0
          have r1 := RQ.out.cell 1
          have r2 := RQ.out.cell 2
          have r3 := RQ.out.cell 3
          have r4 := RQ.out.cell 4
          have r5 := RQ.out.cell 5
          have r6 := RQ.out.cell 6
          simp only [List.getElem?_cons_zero, List.getElem?_cons_succ] at r0 r1 r2 r3 r4 r5 r6
          have f0 := RQ.out.frozen 0
          have f1 := RQ.out.frozen 1
          have f2 := RQ.out.frozen 2
          have f3 := RQ.out.frozen 3
          have f4 := RQ.out.frozen 4
          have f5 := RQ.out.frozen 5
          have f6 := RQ.out.frozen 6
          go_wp2
          have hRR : Blk ((((((((Q.setCell ⟨gR, 0, none⟩ (.int .u32 s.ch)).setCell ⟨gR, 1, none⟩ (.int .u64 (s.rd + 1))).setCell ⟨gR, 2, none⟩ (.int .u64 s.m0)).setCell ⟨gR, 3, none⟩ (.int .u64 (s.m1 + amt))).setCell ⟨gR, 4, none⟩ (.int .u64 s.t0)).setCell ⟨gR, 5, none⟩ (.int .u64 s.t1)).setCell ⟨gR, 6, none⟩ (.slice va m vc))) gR 27 [.int .u32 s.ch, .int .u64 (s.rd + 1), .int .u64 s.m0, .int .u64 (s.m1 + amt), .int .u64 s.t0, .int .u64 s.t1, .slice va m vc] := (((((((RQ.out.set_ 0 _).set_ 1 _).set_ 2 _).set_ 3 _).set_ 4 _).set_ 5 _).set_ 6 _)
          have hown := OQ.out.kept ((only_setCell (p := ⟨gR, 6, none⟩) (only_setCell (p := ⟨gR, 5, none⟩) (only_setCell (p := ⟨gR, 4, none⟩) (only_setCell (p := ⟨gR, 3, none⟩) (only_setCell (p := ⟨gR, 2, none⟩) (only_setCell (p := ⟨gR, 1, none⟩) (only_setCell (p := ⟨gR, 0, none⟩) (only_refl Q (some gR)) (.inl rfl) (.int .u32 s.ch)) (.inl rfl) (.int .u64 (s.rd + 1))) (.inl rfl) (.int .u64 s.m0)) (.inl rfl) (.int .u64 (s.m1 + amt))) (.inl rfl) (.int .u64 s.t0)) (.inl rfl) (.int .u64 s.t1)) (.inl rfl) (.slice va m vc))) (.inr (fun e => own_ne OQ.out RQ.out (by decide) e.symm))
          exact bodyPost_ret (results_ct Try.results26 _ _ gR 27 [.int .u32 s.ch, .int .u64 (s.rd + 1), .int .u64 s.m0, .int .u64 (s.m1 + amt), .int .u64 s.t0, .int .u64 s.t1, .slice va m vc] _ rfl hRR Try.underlying27 rfl info27) rfl (by rw [show nextS s p0 p1 1 1 amt c id = (⟨s.ch, s.rd + 1, s.m0, s.m1 + amt, s.t0, s.t1, s.cs⟩ : St) from (if_pos HT.out).trans HS2.out, HT.out]; exact ⟨va, m, vc, rfl, hown, HS2L.out, (((((((BQ.out.setCell (p := ⟨gR, 0, none⟩) HGR.out _).setCell (p := ⟨gR, 1, none⟩) HGR.out _).setCell (p := ⟨gR, 2, none⟩) HGR.out _).setCell (p := ⟨gR, 3, none⟩) HGR.out _).setCell (p := ⟨gR, 4, none⟩) HGR.out _).setCell (p := ⟨gR, 5, none⟩) HGR.out _).setCell (p := ⟨gR, 6, none⟩) HGR.out _)⟩)
      have b1 : (k == 1) = false := by simpa using hk1
      by_cases hk5 : k = 5
      case pos =>
        subst hk5
        rcases HSD01.out with rfl | rfl
        · skip
          go_upto_region 26 with fail
          clear kk b0
          have k0 := Swr.out.cell 0
          have k1 := Swr.out.cell 1
          have k2 := Swr.out.cell 2
          have k3 := Swr.out.cell 3
          have k4 := Swr.out.cell 4
          have k5 := Swr.out.cell 5
          have k6 := Swr.out.cell 6
          simp only [List.getElem?_cons_zero, List.getElem?_cons_succ] at k0 k1 k2 k3 k4 k5 k6
          have q0 := Pwr.out.cell 0
          have q1 := Pwr.out.cell 1
          simp only [List.getElem?_cons_zero, List.getElem?_cons_succ] at q0 q1
          have ka := Kwr.out.cell 1
          rw [ocells_1] at ka
          go_wp2_with fail
          clear k0 k1 k2 k3 k4 k5 k6 q0 q1 ka
          refine (room_any s a n cap p0 p1 0 amt wr (HC.out.below Bwr.out) HL.out hn hp0 hp1 HO.out).mono ?_
          rintro e Z ⟨rfl, hB⟩
          have BZ := Lib.hid (Bwr.out.trans (hB.mono Bwr.out.size))
          have SZ := Lib.hid (Swr.out.below hB Swr.out.lt)
          have PZ := Lib.hid (Pwr.out.below hB Pwr.out.lt)
          have KZ := Lib.hid (Kwr.out.below hB Kwr.out.lt)
          have RZ := Lib.hid (Rwr.out.below hB Rwr.out.lt)
          have NZ := Lib.hid (Nwr.out.below hB Nwr.out.lt)
          have OZ := Lib.hid (own_keep Owr.out hB)
          clear hB Bwr Swr Pwr Kwr Rwr Nwr Owr
          obtain ⟨E2, hE2⟩ : ∃ x, spE (freeF s p0 p1 0) amt = x := ⟨_, rfl⟩
          rw [hE2]
          have HE2 := Lib.hid hE2
          clear hE2
          have HDE : Hid (doE s.nxt p0 p1 0 5 amt c id = spR E2 s.t0 amt) := Lib.hid (by rw [doE_5, show freeF s.nxt p0 p1 0 = freeF s p0 p1 0 from rfl, HE2.out]; rfl)
          by_cases h4 : E2 = 0
          case neg =>
            have b4 : (E2 != 0) = true := by simpa using h4
            have HNZ : Hid (¬ E2 = 0) := Lib.hid h4
            have HT : Hid (nextE s p0 p1 0 5 amt c id = E2) := Lib.hid (by rw [nextE_4 HE1.out H2.out H3.out (by rw [HDE.out, spR_e h4]; exact h4), HDE.out, spR_e h4])
            clear h4
            have r0 := RZ.out.cell 0
            have r1 := RZ.out.cell 1
            have r2 := RZ.out.cell 2
            have r3 := RZ.out.cell 3
            have r4 := RZ.out.cell 4
            have r5 := RZ.out.cell 5
            have r6 := RZ.out.cell 6
            simp only [List.getElem?_cons_zero, List.getElem?_cons_succ] at r0 r1 r2 r3 r4 r5 r6
            have f0 := RZ.out.frozen 0
            have f1 := RZ.out.frozen 1
            have f2 := RZ.out.frozen 2
            have f3 := RZ.out.frozen 3
            have f4 := RZ.out.frozen 4
            have f5 := RZ.out.frozen 5
            have f6 := RZ.out.frozen 6
            have z27 := zero27
            go_wp2
            have hRR : Blk ((((((((Z.setCell ⟨gR, 0, none⟩ (.int .u32 0)).setCell ⟨gR, 1, none⟩ (.int .u64 0)).setCell ⟨gR, 2, none⟩ (.int .u64 0)).setCell ⟨gR, 3, none⟩ (.int .u64 0)).setCell ⟨gR, 4, none⟩ (.int .u64 0)).setCell ⟨gR, 5, none⟩ (.int .u64 0)).setCell ⟨gR, 6, none⟩ (.slice none 0 0))) gR 27 [.int .u32 0, .int .u64 0, .int .u64 0, .int .u64 0, .int .u64 0, .int .u64 0, .slice none 0 0] := (((((((RZ.out.set_ 0 _).set_ 1 _).set_ 2 _).set_ 3 _).set_ 4 _).set_ 5 _).set_ 6 _)
            exact bodyPost_ret (results_ct Try.results26 _ _ gR 27 [.int .u32 0, .int .u64 0, .int .u64 0, .int .u64 0, .int .u64 0, .int .u64 0, .slice none 0 0] _ rfl hRR Try.underlying27 rfl info27) rfl (by rw [show nextS s p0 p1 0 5 amt c id = st0 from if_neg (by rw [HT.out]; exact HNZ.out), HT.out]; exact ⟨none, 0, 0, rfl, World.ownsRow_nil _ _ _ _, rfl, (((((((BZ.out.setCell (p := ⟨gR, 0, none⟩) HGR.out _).setCell (p := ⟨gR, 1, none⟩) HGR.out _).setCell (p := ⟨gR, 2, none⟩) HGR.out _).setCell (p := ⟨gR, 3, none⟩) HGR.out _).setCell (p := ⟨gR, 4, none⟩) HGR.out _).setCell (p := ⟨gR, 5, none⟩) HGR.out _).setCell (p := ⟨gR, 6, none⟩) HGR.out _)⟩)
          subst h4
          have kk := KZ.out.cell 0
          rw [ocells_0] at kk
          by_cases h5 : 18446744073709551616 ≤ s.t0 + amt
          case pos =>
            have HRA : Hid (∀ W, Calls Try.prog 29 #[.int .u64 s.t0, .int .u64 amt] W fun e w' => e = .returned (.tuple #[.int .u64 0, .int .i64 11]) ∧ W = w') := Lib.hid (fun W => radd_over _ _ W HO.out.t0 hamt h5)
            have HNZ : Hid (¬ (11 : Int) = 0) := Lib.hid (by decide)
            have HT : Hid (nextE s p0 p1 0 5 amt c id = 11) := Lib.hid (by rw [nextE_4 HE1.out H2.out H3.out (by rw [HDE.out, spR_over h5]; decide), HDE.out, spR_over h5])
            clear h5
            go_upto_region 31 with fail
            clear kk
            have hBz : Below Z.heap.size Z Z.drew := below_drewN (Below.refl _ _) 1
            have BX0 : Hid (Below w.heap.size w Z.drew) := Lib.hid (BZ.out.trans (hBz.mono BZ.out.size))
            have SX0 : Hid (Blk Z.drew gS 27 [.int .u32 s.ch, .int .u64 s.rd, .int .u64 s.m0, .int .u64 s.m1, .int .u64 s.t0, .int .u64 s.t1, .slice a n cap]) := Lib.hid (SZ.out.below hBz SZ.out.lt)
            have PX0 : Hid (Blk Z.drew gp 24 [.int .u64 p0, .int .u64 p1]) := Lib.hid (PZ.out.below hBz PZ.out.lt)
            have KX0 : Hid (Blk Z.drew gk 55 (ocells 5 amt c id)) := Lib.hid (KZ.out.below hBz KZ.out.lt)
            have RX0 : Hid (Blk Z.drew gR 27 [.int .u32 0, .int .u64 0, .int .u64 0, .int .u64 0, .int .u64 0, .int .u64 0, .slice none 0 0]) := Lib.hid (RZ.out.below hBz RZ.out.lt)
            have NX0 : Hid (Blk Z.drew gN 27 [.int .u32 s.ch, .int .u64 (s.rd + 1), .int .u64 s.m0, .int .u64 s.m1, .int .u64 s.t0, .int .u64 s.t1, .slice va m vc]) := Lib.hid (NZ.out.below hBz NZ.out.lt)
            have OX0 : Hid (Z.drew.ownsRow w.heap.size 53 36 (.slice va m vc) m (cflat s.cs)) := Lib.hid (own_keep OZ.out hBz)
            clear hBz
            refine wp_region_held_drew (S := fun w' => Blk w' gk 55 (ocells 5 amt c id)) (by kernel_rfl) (KX0.out) (fun hHeld => ?_)
            generalize Z.drew = X0 at hHeld BX0 SX0 PX0 KX0 RX0 NX0 OX0 ⊢
            refine wpAnyH_take (i := 0) (v := .int .i64 0) rfl (by kernel_rfl) (by kernel_rfl) (by kernel_rfl) (fun _ _ _ h => h) (Or.inl ⟨by rfl, fun w _ => by rfl⟩) hHeld ?_
            show wpAnyH _ _ _ _ _ _ _ (Act.put _ (some 115) _) _
            simp only [Act.put, List.setIfInBounds_toArray, List.set_cons_zero, List.set_cons_succ]
            refine wpAnyH_take (i := 1) (v := .int .i64 0) rfl (by kernel_rfl) (by kernel_rfl) (by kernel_rfl) (fun _ _ _ h => h) (Or.inl ⟨by rfl, fun w _ => by rfl⟩) hHeld ?_
            show wpAnyH _ _ _ _ _ _ _ (Act.put _ (some 116) _) _
            simp only [Act.put, List.setIfInBounds_toArray, List.set_cons_zero, List.set_cons_succ]
            refine wpAnyH_take (i := 2) (v := .pointer (some ⟨gN, 4, none⟩)) rfl (by kernel_rfl) (by kernel_rfl) (by kernel_rfl) (fun _ _ _ h => h) (Or.inl ⟨by rfl, by intro w' h; go_simp⟩) hHeld ?_
            show wpAnyH _ _ _ _ _ _ _ (Act.put _ (some 117) _) _
            simp only [Act.put, List.setIfInBounds_toArray, List.set_cons_zero, List.set_cons_succ]
            refine wpAnyH_take (i := 3) (v := .pointer (some ⟨gN, 4, none⟩)) rfl (by kernel_rfl) (by kernel_rfl) (by kernel_rfl) (fun _ _ _ h => h) (Or.inl ⟨by rfl, by intro w' h; go_simp⟩) hHeld ?_
            show wpAnyH _ _ _ _ _ _ _ (Act.put _ (some 118) _) _
            simp only [Act.put, List.setIfInBounds_toArray, List.set_cons_zero, List.set_cons_succ]
            refine wpAnyH_take (i := 5) (v := .pointer (some ⟨gk, 1, none⟩)) rfl (by kernel_rfl) (by kernel_rfl) (by kernel_rfl) (fun _ _ _ h => h) (Or.inl ⟨by rfl, by intro w' h; go_simp⟩) hHeld ?_
            show wpAnyH _ _ _ _ _ _ _ (Act.put _ (some 120) _) _
            simp only [Act.put, List.setIfInBounds_toArray, List.set_cons_zero, List.set_cons_succ]
            refine wpAnyH_take (i := 6) (v := .int .u64 amt) rfl (by kernel_rfl) (by kernel_rfl) (by kernel_rfl) (fun _ _ _ h => h) (Or.inl ⟨by rfl, by intro w' h; have q := Blk.cell h 1; rw [ocells_1] at q; go_simp⟩) hHeld ?_
            show wpAnyH _ _ _ _ _ _ _ (Act.put _ (some 121) _) _
            simp only [Act.put, List.setIfInBounds_toArray, List.set_cons_zero, List.set_cons_succ]
            refine wpAnyH_take (i := 11) (v := .pointer (some ⟨gN, 4, none⟩)) rfl (by kernel_rfl) (by kernel_rfl) (by kernel_rfl) (fun _ _ _ h => h) (Or.inl ⟨by rfl, by intro w' h; go_simp⟩) hHeld ?_
            show wpAnyH _ _ _ _ _ _ _ (Act.put _ (some 125) _) _
            simp only [Act.put, List.setIfInBounds_toArray, List.set_cons_zero, List.set_cons_succ]
            refine wpAnyH_ready (rs := [4]) (by kernel_rfl) (by simp) ?_
            refine AllReadyH.cons rfl (fun K hK => ?_) AllReadyH.nil
            refine step_ld rfl 23 (.tmp 118) rfl gN 4 rfl (.int .u64 s.t0) (run_load_u64 X0 gN 4 s.t0 27 _ NX0.out rfl) ?_
            refine hK.out _ _ (KX0.out) (fun hHeld => ?_)
            clear hK K
            show wpAnyH _ _ _ _ _ _ _ (Act.put _ (some 119) _) _
            simp only [Act.put, List.setIfInBounds_toArray, List.set_cons_zero, List.set_cons_succ]
            refine wpAnyH_ready (rs := [7]) (by kernel_rfl) (by simp) ?_
            refine AllReadyH.cons rfl (fun K hK => ?_) AllReadyH.nil
            refine step_call rfl 29 #[.tmp 119, .tmp 121] #[23, 23] rfl #[.int .u64 s.t0, .int .u64 amt] (by simp [Act.eval]) (by go_simp) (HRA.out X0) ?_
            rintro e X2 ⟨rfl, rfl⟩
            refine ⟨_, rfl, hK.out _ _ (KX0.out) (fun hHeld => ?_)⟩
            clear hK K
            show wpAnyH _ _ _ _ _ _ _ (Act.put _ (some 122) _) _
            simp only [Act.put, List.setIfInBounds_toArray, List.set_cons_zero, List.set_cons_succ]
            refine wpAnyH_take (i := 8) (v := .tuple #[.int .u64 0, .int .i64 11]) rfl (by kernel_rfl) (by kernel_rfl) (by kernel_rfl) (fun _ _ _ h => h) (Or.inl ⟨by rfl, fun w _ => by rfl⟩) hHeld ?_
            show wpAnyH _ _ _ _ _ _ _ (Act.put _ (some 114) _) _
            simp only [Act.put, List.setIfInBounds_toArray, List.set_cons_zero, List.set_cons_succ]
            refine wpAnyH_take (i := 9) (v := .int .u64 0) rfl (by kernel_rfl) (by kernel_rfl) (by kernel_rfl) (fun _ _ _ h => h) (Or.inl ⟨by rfl, by intro w' h; go_simp⟩) hHeld ?_
            show wpAnyH _ _ _ _ _ _ _ (Act.put _ (some 123) _) _
            simp only [Act.put, List.setIfInBounds_toArray, List.set_cons_zero, List.set_cons_succ]
            refine wpAnyH_take (i := 10) (v := .int .i64 11) rfl (by kernel_rfl) (by kernel_rfl) (by kernel_rfl) (fun _ _ _ h => h) (Or.inl ⟨by rfl, by intro w' h; go_simp⟩) hHeld ?_
            show wpAnyH _ _ _ _ _ _ _ (Act.put _ (some 124) _) _
            simp only [Act.put, List.setIfInBounds_toArray, List.set_cons_zero, List.set_cons_succ]
            refine wpAnyH_take (i := 12) (v := .pointer (some ⟨gN, 4, none⟩)) rfl (by kernel_rfl) (by kernel_rfl) (by kernel_rfl) (fun _ _ _ h => h) (Or.inl ⟨by rfl, by intro w' h; go_simp⟩) hHeld ?_
            show wpAnyH _ _ _ _ _ _ _ (Act.put _ (some 126) _) _
            simp only [Act.put, List.setIfInBounds_toArray, List.set_cons_zero, List.set_cons_succ]
            refine wpAnyH_ready (rs := [13]) (by kernel_rfl) (by simp) ?_
            refine AllReadyH.cons rfl (fun K hK => ?_) AllReadyH.nil
            refine step_cell rfl 23 (.tmp 126) (.tmp 123) rfl gN 4 rfl (.int .u64 0) rfl 27 _ NX0.out (run_store_u64 X0 gN 4 0 27 _ NX0.out (by simp)) ?_
            intro X3 hNb hO
            have hKW : ∀ q, some gN = some q → w.heap.size ≤ q := fun q hq => by injection hq with hq; have := HGN.out; omega
            have hTO : (Value.slice va m vc).ownBlock = none ∨ (Value.slice va m vc).ownBlock ≠ some gN := .inr (fun e => own_ne OX0.out NX0.out (by decide) e.symm)
            have hnS : some gS ≠ some gN := fun e => by injection e with e; have := HGN.out; omega
            have hnP : some gp ≠ some gN := fun e => by injection e with e; have := HGN.out; omega
            have hnK : some gk ≠ some gN := fun e => by injection e with e; have := HGN.out; omega
            have hnR : some gR ≠ some gN := fun e => by injection e with e; have := HGN.out; omega
            have BX3 : Hid (Below w.heap.size w X3) := Lib.hid (BX0.out.grown hO BX0.out.size hKW)
            have SX3 : Hid (Blk X3 gS 27 [.int .u32 s.ch, .int .u64 s.rd, .int .u64 s.m0, .int .u64 s.m1, .int .u64 s.t0, .int .u64 s.t1, .slice a n cap]) := Lib.hid (SX0.out.grown hO hnS)
            have PX3 : Hid (Blk X3 gp 24 [.int .u64 p0, .int .u64 p1]) := Lib.hid (PX0.out.grown hO hnP)
            have KX3 : Hid (Blk X3 gk 55 (ocells 5 amt c id)) := Lib.hid (KX0.out.grown hO hnK)
            have RX3 : Hid (Blk X3 gR 27 [.int .u32 0, .int .u64 0, .int .u64 0, .int .u64 0, .int .u64 0, .int .u64 0, .slice none 0 0]) := Lib.hid (RX0.out.grown hO hnR)
            have OX3 : Hid (X3.ownsRow w.heap.size 53 36 (.slice va m vc) m (cflat s.cs)) := Lib.hid (OX0.out.kept hO hTO)
            have NX3 : Hid (Blk X3 gN 27 [.int .u32 s.ch, .int .u64 (s.rd + 1), .int .u64 s.m0, .int .u64 s.m1, .int .u64 0, .int .u64 s.t1, .slice va m vc]) := Lib.hid (hNb)
            clear BX0 SX0 PX0 KX0 RX0 OX0 hO hNb hKW hTO hnS hnP hnK hnR NX0
            refine hK.out _ _ (KX3.out) (fun hHeld => ?_)
            clear hK K
            show wpAnyH _ _ _ _ _ _ _ (Act.put _ none _) _
            simp only [Act.put]
            refine wpAnyH_take (i := 14) (v := .int .i64 11) rfl (by kernel_rfl) (by kernel_rfl) (by kernel_rfl) (fun _ _ _ h => h) (Or.inl ⟨by rfl, fun w _ => by rfl⟩) hHeld ?_
            show wpAnyH _ _ _ _ _ _ _ (Act.put _ (some 14) _) _
            simp only [Act.put, List.setIfInBounds_toArray, List.set_cons_zero, List.set_cons_succ]
            refine wpAnyH_done (by kernel_rfl) ?_ _
            clear hHeld
            have r0 := RX3.out.cell 0
            have r1 := RX3.out.cell 1
            have r2 := RX3.out.cell 2
            have r3 := RX3.out.cell 3
            have r4 := RX3.out.cell 4
            have r5 := RX3.out.cell 5
            have r6 := RX3.out.cell 6
            simp only [List.getElem?_cons_zero, List.getElem?_cons_succ] at r0 r1 r2 r3 r4 r5 r6
            have f0 := RX3.out.frozen 0
            have f1 := RX3.out.frozen 1
            have f2 := RX3.out.frozen 2
            have f3 := RX3.out.frozen 3
            have f4 := RX3.out.frozen 4
            have f5 := RX3.out.frozen 5
            have f6 := RX3.out.frozen 6
            have z27 := zero27
            go_wp2
            have hRR : Blk ((((((((X3.setCell ⟨gR, 0, none⟩ (.int .u32 0)).setCell ⟨gR, 1, none⟩ (.int .u64 0)).setCell ⟨gR, 2, none⟩ (.int .u64 0)).setCell ⟨gR, 3, none⟩ (.int .u64 0)).setCell ⟨gR, 4, none⟩ (.int .u64 0)).setCell ⟨gR, 5, none⟩ (.int .u64 0)).setCell ⟨gR, 6, none⟩ (.slice none 0 0))) gR 27 [.int .u32 0, .int .u64 0, .int .u64 0, .int .u64 0, .int .u64 0, .int .u64 0, .slice none 0 0] := (((((((RX3.out.set_ 0 _).set_ 1 _).set_ 2 _).set_ 3 _).set_ 4 _).set_ 5 _).set_ 6 _)
            exact bodyPost_ret (results_ct Try.results26 _ _ gR 27 [.int .u32 0, .int .u64 0, .int .u64 0, .int .u64 0, .int .u64 0, .int .u64 0, .slice none 0 0] _ rfl hRR Try.underlying27 rfl info27) rfl (by rw [show nextS s p0 p1 0 5 amt c id = st0 from if_neg (by rw [HT.out]; exact HNZ.out), HT.out]; exact ⟨none, 0, 0, rfl, World.ownsRow_nil _ _ _ _, rfl, (((((((BX3.out.setCell (p := ⟨gR, 0, none⟩) HGR.out _).setCell (p := ⟨gR, 1, none⟩) HGR.out _).setCell (p := ⟨gR, 2, none⟩) HGR.out _).setCell (p := ⟨gR, 3, none⟩) HGR.out _).setCell (p := ⟨gR, 4, none⟩) HGR.out _).setCell (p := ⟨gR, 5, none⟩) HGR.out _).setCell (p := ⟨gR, 6, none⟩) HGR.out _)⟩)
          have HRA : Hid (∀ W, Calls Try.prog 29 #[.int .u64 s.t0, .int .u64 amt] W fun e w' => e = .returned (.tuple #[.int .u64 (s.t0 + amt), .int .i64 0]) ∧ W = w') := Lib.hid (fun W => radd_ok _ _ W HO.out.t0 hamt h5)
          have HD0 : Hid (doE s.nxt p0 p1 0 5 amt c id = 0) := Lib.hid (by rw [HDE.out, spR_ok h5])
          have HS2 : Hid (doS s.nxt 0 5 amt c id = (⟨s.ch, s.rd + 1, s.m0, s.m1, s.t0 + amt, s.t1, s.cs⟩ : St)) := Lib.hid (by rw [doS_5]; simp [St.tak, St.nxt])
          have HS2L : Hid (((⟨s.ch, s.rd + 1, s.m0, s.m1, s.t0 + amt, s.t1, s.cs⟩ : St)).cs.length = m) := Lib.hid HM.out
          have HS2C : Hid (∀ c ∈ ((⟨s.ch, s.rd + 1, s.m0, s.m1, s.t0 + amt, s.t1, s.cs⟩ : St)).cs, c.Ok) := Lib.hid HC.out.ok
          have HS2O : Hid ((⟨s.ch, s.rd + 1, s.m0, s.m1, s.t0 + amt, s.t1, s.cs⟩ : St)).Ok := Lib.hid (by have h := HON.out.tak (side := 0) hamt (by show s.t0 + amt < _; omega); simpa [St.tak, St.nxt] using h)
          clear h5
          go_upto_region 31 with fail
          clear kk
          have hBz : Below Z.heap.size Z Z.drew := below_drewN (Below.refl _ _) 1
          have BX0 : Hid (Below w.heap.size w Z.drew) := Lib.hid (BZ.out.trans (hBz.mono BZ.out.size))
          have SX0 : Hid (Blk Z.drew gS 27 [.int .u32 s.ch, .int .u64 s.rd, .int .u64 s.m0, .int .u64 s.m1, .int .u64 s.t0, .int .u64 s.t1, .slice a n cap]) := Lib.hid (SZ.out.below hBz SZ.out.lt)
          have PX0 : Hid (Blk Z.drew gp 24 [.int .u64 p0, .int .u64 p1]) := Lib.hid (PZ.out.below hBz PZ.out.lt)
          have KX0 : Hid (Blk Z.drew gk 55 (ocells 5 amt c id)) := Lib.hid (KZ.out.below hBz KZ.out.lt)
          have RX0 : Hid (Blk Z.drew gR 27 [.int .u32 0, .int .u64 0, .int .u64 0, .int .u64 0, .int .u64 0, .int .u64 0, .slice none 0 0]) := Lib.hid (RZ.out.below hBz RZ.out.lt)
          have NX0 : Hid (Blk Z.drew gN 27 [.int .u32 s.ch, .int .u64 (s.rd + 1), .int .u64 s.m0, .int .u64 s.m1, .int .u64 s.t0, .int .u64 s.t1, .slice va m vc]) := Lib.hid (NZ.out.below hBz NZ.out.lt)
          have OX0 : Hid (Z.drew.ownsRow w.heap.size 53 36 (.slice va m vc) m (cflat s.cs)) := Lib.hid (own_keep OZ.out hBz)
          clear hBz
          refine wp_region_held_drew (S := fun w' => Blk w' gk 55 (ocells 5 amt c id)) (by kernel_rfl) (KX0.out) (fun hHeld => ?_)
          generalize Z.drew = X0 at hHeld BX0 SX0 PX0 KX0 RX0 NX0 OX0 ⊢
          refine wpAnyH_take (i := 0) (v := .int .i64 0) rfl (by kernel_rfl) (by kernel_rfl) (by kernel_rfl) (fun _ _ _ h => h) (Or.inl ⟨by rfl, fun w _ => by rfl⟩) hHeld ?_
          show wpAnyH _ _ _ _ _ _ _ (Act.put _ (some 115) _) _
          simp only [Act.put, List.setIfInBounds_toArray, List.set_cons_zero, List.set_cons_succ]
          refine wpAnyH_take (i := 1) (v := .int .i64 0) rfl (by kernel_rfl) (by kernel_rfl) (by kernel_rfl) (fun _ _ _ h => h) (Or.inl ⟨by rfl, fun w _ => by rfl⟩) hHeld ?_
          show wpAnyH _ _ _ _ _ _ _ (Act.put _ (some 116) _) _
          simp only [Act.put, List.setIfInBounds_toArray, List.set_cons_zero, List.set_cons_succ]
          refine wpAnyH_take (i := 2) (v := .pointer (some ⟨gN, 4, none⟩)) rfl (by kernel_rfl) (by kernel_rfl) (by kernel_rfl) (fun _ _ _ h => h) (Or.inl ⟨by rfl, by intro w' h; go_simp⟩) hHeld ?_
          show wpAnyH _ _ _ _ _ _ _ (Act.put _ (some 117) _) _
          simp only [Act.put, List.setIfInBounds_toArray, List.set_cons_zero, List.set_cons_succ]
          refine wpAnyH_take (i := 3) (v := .pointer (some ⟨gN, 4, none⟩)) rfl (by kernel_rfl) (by kernel_rfl) (by kernel_rfl) (fun _ _ _ h => h) (Or.inl ⟨by rfl, by intro w' h; go_simp⟩) hHeld ?_
          show wpAnyH _ _ _ _ _ _ _ (Act.put _ (some 118) _) _
          simp only [Act.put, List.setIfInBounds_toArray, List.set_cons_zero, List.set_cons_succ]
          refine wpAnyH_take (i := 5) (v := .pointer (some ⟨gk, 1, none⟩)) rfl (by kernel_rfl) (by kernel_rfl) (by kernel_rfl) (fun _ _ _ h => h) (Or.inl ⟨by rfl, by intro w' h; go_simp⟩) hHeld ?_
          show wpAnyH _ _ _ _ _ _ _ (Act.put _ (some 120) _) _
          simp only [Act.put, List.setIfInBounds_toArray, List.set_cons_zero, List.set_cons_succ]
          refine wpAnyH_take (i := 6) (v := .int .u64 amt) rfl (by kernel_rfl) (by kernel_rfl) (by kernel_rfl) (fun _ _ _ h => h) (Or.inl ⟨by rfl, by intro w' h; have q := Blk.cell h 1; rw [ocells_1] at q; go_simp⟩) hHeld ?_
          show wpAnyH _ _ _ _ _ _ _ (Act.put _ (some 121) _) _
          simp only [Act.put, List.setIfInBounds_toArray, List.set_cons_zero, List.set_cons_succ]
          refine wpAnyH_take (i := 11) (v := .pointer (some ⟨gN, 4, none⟩)) rfl (by kernel_rfl) (by kernel_rfl) (by kernel_rfl) (fun _ _ _ h => h) (Or.inl ⟨by rfl, by intro w' h; go_simp⟩) hHeld ?_
          show wpAnyH _ _ _ _ _ _ _ (Act.put _ (some 125) _) _
          simp only [Act.put, List.setIfInBounds_toArray, List.set_cons_zero, List.set_cons_succ]
          refine wpAnyH_ready (rs := [4]) (by kernel_rfl) (by simp) ?_
          refine AllReadyH.cons rfl (fun K hK => ?_) AllReadyH.nil
          refine step_ld rfl 23 (.tmp 118) rfl gN 4 rfl (.int .u64 s.t0) (run_load_u64 X0 gN 4 s.t0 27 _ NX0.out rfl) ?_
          refine hK.out _ _ (KX0.out) (fun hHeld => ?_)
          clear hK K
          show wpAnyH _ _ _ _ _ _ _ (Act.put _ (some 119) _) _
          simp only [Act.put, List.setIfInBounds_toArray, List.set_cons_zero, List.set_cons_succ]
          refine wpAnyH_ready (rs := [7]) (by kernel_rfl) (by simp) ?_
          refine AllReadyH.cons rfl (fun K hK => ?_) AllReadyH.nil
          refine step_call rfl 29 #[.tmp 119, .tmp 121] #[23, 23] rfl #[.int .u64 s.t0, .int .u64 amt] (by simp [Act.eval]) (by go_simp) (HRA.out X0) ?_
          rintro e X2 ⟨rfl, rfl⟩
          refine ⟨_, rfl, hK.out _ _ (KX0.out) (fun hHeld => ?_)⟩
          clear hK K
          show wpAnyH _ _ _ _ _ _ _ (Act.put _ (some 122) _) _
          simp only [Act.put, List.setIfInBounds_toArray, List.set_cons_zero, List.set_cons_succ]
          refine wpAnyH_take (i := 8) (v := .tuple #[.int .u64 (s.t0 + amt), .int .i64 0]) rfl (by kernel_rfl) (by kernel_rfl) (by kernel_rfl) (fun _ _ _ h => h) (Or.inl ⟨by rfl, fun w _ => by rfl⟩) hHeld ?_
          show wpAnyH _ _ _ _ _ _ _ (Act.put _ (some 114) _) _
          simp only [Act.put, List.setIfInBounds_toArray, List.set_cons_zero, List.set_cons_succ]
          refine wpAnyH_take (i := 9) (v := .int .u64 (s.t0 + amt)) rfl (by kernel_rfl) (by kernel_rfl) (by kernel_rfl) (fun _ _ _ h => h) (Or.inl ⟨by rfl, by intro w' h; go_simp⟩) hHeld ?_
          show wpAnyH _ _ _ _ _ _ _ (Act.put _ (some 123) _) _
          simp only [Act.put, List.setIfInBounds_toArray, List.set_cons_zero, List.set_cons_succ]
          refine wpAnyH_take (i := 10) (v := .int .i64 0) rfl (by kernel_rfl) (by kernel_rfl) (by kernel_rfl) (fun _ _ _ h => h) (Or.inl ⟨by rfl, by intro w' h; go_simp⟩) hHeld ?_
          show wpAnyH _ _ _ _ _ _ _ (Act.put _ (some 124) _) _
          simp only [Act.put, List.setIfInBounds_toArray, List.set_cons_zero, List.set_cons_succ]
          refine wpAnyH_take (i := 12) (v := .pointer (some ⟨gN, 4, none⟩)) rfl (by kernel_rfl) (by kernel_rfl) (by kernel_rfl) (fun _ _ _ h => h) (Or.inl ⟨by rfl, by intro w' h; go_simp⟩) hHeld ?_
          show wpAnyH _ _ _ _ _ _ _ (Act.put _ (some 126) _) _
          simp only [Act.put, List.setIfInBounds_toArray, List.set_cons_zero, List.set_cons_succ]
          refine wpAnyH_ready (rs := [13]) (by kernel_rfl) (by simp) ?_
          refine AllReadyH.cons rfl (fun K hK => ?_) AllReadyH.nil
          refine step_cell rfl 23 (.tmp 126) (.tmp 123) rfl gN 4 rfl (.int .u64 (s.t0 + amt)) rfl 27 _ NX0.out (run_store_u64 X0 gN 4 (s.t0 + amt) 27 _ NX0.out (by simp)) ?_
          intro X3 hNb hO
          have hKW : ∀ q, some gN = some q → w.heap.size ≤ q := fun q hq => by injection hq with hq; have := HGN.out; omega
          have hTO : (Value.slice va m vc).ownBlock = none ∨ (Value.slice va m vc).ownBlock ≠ some gN := .inr (fun e => own_ne OX0.out NX0.out (by decide) e.symm)
          have hnS : some gS ≠ some gN := fun e => by injection e with e; have := HGN.out; omega
          have hnP : some gp ≠ some gN := fun e => by injection e with e; have := HGN.out; omega
          have hnK : some gk ≠ some gN := fun e => by injection e with e; have := HGN.out; omega
          have hnR : some gR ≠ some gN := fun e => by injection e with e; have := HGN.out; omega
          have BX3 : Hid (Below w.heap.size w X3) := Lib.hid (BX0.out.grown hO BX0.out.size hKW)
          have SX3 : Hid (Blk X3 gS 27 [.int .u32 s.ch, .int .u64 s.rd, .int .u64 s.m0, .int .u64 s.m1, .int .u64 s.t0, .int .u64 s.t1, .slice a n cap]) := Lib.hid (SX0.out.grown hO hnS)
          have PX3 : Hid (Blk X3 gp 24 [.int .u64 p0, .int .u64 p1]) := Lib.hid (PX0.out.grown hO hnP)
          have KX3 : Hid (Blk X3 gk 55 (ocells 5 amt c id)) := Lib.hid (KX0.out.grown hO hnK)
          have RX3 : Hid (Blk X3 gR 27 [.int .u32 0, .int .u64 0, .int .u64 0, .int .u64 0, .int .u64 0, .int .u64 0, .slice none 0 0]) := Lib.hid (RX0.out.grown hO hnR)
          have OX3 : Hid (X3.ownsRow w.heap.size 53 36 (.slice va m vc) m (cflat s.cs)) := Lib.hid (OX0.out.kept hO hTO)
          have NX3 : Hid (Blk X3 gN 27 [.int .u32 s.ch, .int .u64 (s.rd + 1), .int .u64 s.m0, .int .u64 s.m1, .int .u64 (s.t0 + amt), .int .u64 s.t1, .slice va m vc]) := Lib.hid (hNb)
          clear BX0 SX0 PX0 KX0 RX0 OX0 hO hNb hKW hTO hnS hnP hnK hnR NX0
          refine hK.out _ _ (KX3.out) (fun hHeld => ?_)
          clear hK K
          show wpAnyH _ _ _ _ _ _ _ (Act.put _ none _) _
          simp only [Act.put]
          refine wpAnyH_take (i := 14) (v := .int .i64 0) rfl (by kernel_rfl) (by kernel_rfl) (by kernel_rfl) (fun _ _ _ h => h) (Or.inl ⟨by rfl, fun w _ => by rfl⟩) hHeld ?_
          show wpAnyH _ _ _ _ _ _ _ (Act.put _ (some 14) _) _
          simp only [Act.put, List.setIfInBounds_toArray, List.set_cons_zero, List.set_cons_succ]
          refine wpAnyH_done (by kernel_rfl) ?_ _
          clear hHeld
          go_upto_region 48 with fail
          have k0 := NX3.out.cell 0
          have k1 := NX3.out.cell 1
          have k2 := NX3.out.cell 2
          have k3 := NX3.out.cell 3
          have k4 := NX3.out.cell 4
          have k5 := NX3.out.cell 5
          have k6 := NX3.out.cell 6
          simp only [List.getElem?_cons_zero, List.getElem?_cons_succ] at k0 k1 k2 k3 k4 k5 k6
          have q0 := PX3.out.cell 0
          have q1 := PX3.out.cell 1
          simp only [List.getElem?_cons_zero, List.getElem?_cons_succ] at q0 q1
          go_wp2_with fail
          clear k0 k1 k2 k3 k4 k5 k6 q0 q1
          refine (show Calls Try.prog 16 #[.agg #[.int .u32 s.ch, .int .u64 (s.rd + 1), .int .u64 s.m0, .int .u64 s.m1, .int .u64 (s.t0 + amt), .int .u64 s.t1, .slice va m vc], .agg #[.int .u64 p0, .int .u64 p1]] X3 (fun e w2 => e = .returned (.int .i64 (soundE ((⟨s.ch, s.rd + 1, s.m0, s.m1, s.t0 + amt, s.t1, s.cs⟩ : St)) p0 p1)) ∧ Below X3.heap.size X3 w2) from rsound_any ((⟨s.ch, s.rd + 1, s.m0, s.m1, s.t0 + amt, s.t1, s.cs⟩ : St)).ch ((⟨s.ch, s.rd + 1, s.m0, s.m1, s.t0 + amt, s.t1, s.cs⟩ : St)).rd ((⟨s.ch, s.rd + 1, s.m0, s.m1, s.t0 + amt, s.t1, s.cs⟩ : St)).m0 ((⟨s.ch, s.rd + 1, s.m0, s.m1, s.t0 + amt, s.t1, s.cs⟩ : St)).m1 ((⟨s.ch, s.rd + 1, s.m0, s.m1, s.t0 + amt, s.t1, s.cs⟩ : St)).t0 ((⟨s.ch, s.rd + 1, s.m0, s.m1, s.t0 + amt, s.t1, s.cs⟩ : St)).t1 va m vc ((⟨s.ch, s.rd + 1, s.m0, s.m1, s.t0 + amt, s.t1, s.cs⟩ : St)).cs p0 p1 X3 (CRow.of_own (by rw [HS2L.out]; exact OX3.out) HS2C.out) HS2L.out hml hp0 hp1 HS2O.out.eta).mono ?_
          rintro e Q ⟨rfl, hB⟩
          have BQ := Lib.hid (BX3.out.trans (hB.mono BX3.out.size))
          have RQ := Lib.hid (RX3.out.below hB RX3.out.lt)
          have NQ := Lib.hid (NX3.out.below hB NX3.out.lt)
          have OQ := Lib.hid (own_keep OX3.out hB)
          clear hB BX3 RX3 NX3 OX3 PX3 SX3 KX3
          obtain ⟨E3, hE3⟩ : ∃ E3, soundE ((⟨s.ch, s.rd + 1, s.m0, s.m1, s.t0 + amt, s.t1, s.cs⟩ : St)) p0 p1 = E3 := ⟨_, rfl⟩
          rw [hE3]
          have HE3 := Lib.hid hE3
          clear hE3
          by_cases h5 : E3 = 0
          case neg =>
            have b5 : (E3 != 0) = true := by simpa using h5
            have HNZ : Hid (¬ E3 = 0) := Lib.hid h5
            have HT : Hid (nextE s p0 p1 0 5 amt c id = E3) := Lib.hid (by rw [nextE_5 HE1.out H2.out H3.out HD0.out, HS2.out, HE3.out])
            clear h5
            have r0 := RQ.out.cell 0
            have r1 := RQ.out.cell 1
            have r2 := RQ.out.cell 2
            have r3 := RQ.out.cell 3
            have r4 := RQ.out.cell 4
            have r5 := RQ.out.cell 5
            have r6 := RQ.out.cell 6
            simp only [List.getElem?_cons_zero, List.getElem?_cons_succ] at r0 r1 r2 r3 r4 r5 r6
            have f0 := RQ.out.frozen 0
            have f1 := RQ.out.frozen 1
            have f2 := RQ.out.frozen 2
            have f3 := RQ.out.frozen 3
            have f4 := RQ.out.frozen 4
            have f5 := RQ.out.frozen 5
            have f6 := RQ.out.frozen 6
            have z27 := zero27
            go_wp2
            have hRR : Blk ((((((((Q.setCell ⟨gR, 0, none⟩ (.int .u32 0)).setCell ⟨gR, 1, none⟩ (.int .u64 0)).setCell ⟨gR, 2, none⟩ (.int .u64 0)).setCell ⟨gR, 3, none⟩ (.int .u64 0)).setCell ⟨gR, 4, none⟩ (.int .u64 0)).setCell ⟨gR, 5, none⟩ (.int .u64 0)).setCell ⟨gR, 6, none⟩ (.slice none 0 0))) gR 27 [.int .u32 0, .int .u64 0, .int .u64 0, .int .u64 0, .int .u64 0, .int .u64 0, .slice none 0 0] := (((((((RQ.out.set_ 0 _).set_ 1 _).set_ 2 _).set_ 3 _).set_ 4 _).set_ 5 _).set_ 6 _)
            exact bodyPost_ret (results_ct Try.results26 _ _ gR 27 [.int .u32 0, .int .u64 0, .int .u64 0, .int .u64 0, .int .u64 0, .int .u64 0, .slice none 0 0] _ rfl hRR Try.underlying27 rfl info27) rfl (by rw [show nextS s p0 p1 0 5 amt c id = st0 from if_neg (by rw [HT.out]; exact HNZ.out), HT.out]; exact ⟨none, 0, 0, rfl, World.ownsRow_nil _ _ _ _, rfl, (((((((BQ.out.setCell (p := ⟨gR, 0, none⟩) HGR.out _).setCell (p := ⟨gR, 1, none⟩) HGR.out _).setCell (p := ⟨gR, 2, none⟩) HGR.out _).setCell (p := ⟨gR, 3, none⟩) HGR.out _).setCell (p := ⟨gR, 4, none⟩) HGR.out _).setCell (p := ⟨gR, 5, none⟩) HGR.out _).setCell (p := ⟨gR, 6, none⟩) HGR.out _)⟩)
          subst h5
          have HT : Hid (nextE s p0 p1 0 5 amt c id = 0) := Lib.hid (by rw [nextE_5 HE1.out H2.out H3.out HD0.out, HS2.out, HE3.out])
          have k0 := NQ.out.cell 0
          have k1 := NQ.out.cell 1
          have k2 := NQ.out.cell 2
          have k3 := NQ.out.cell 3
          have k4 := NQ.out.cell 4
          have k5 := NQ.out.cell 5
          have k6 := NQ.out.cell 6
          simp only [List.getElem?_cons_zero, List.getElem?_cons_succ] at k0 k1 k2 k3 k4 k5 k6
          have r0 := RQ.out.cell 0
          have r1 := RQ.out.cell 1
          have r2 := RQ.out.cell 2
          have r3 := RQ.out.cell 3
          have r4 := RQ.out.cell 4
          have r5 := RQ.out.cell 5
          have r6 := RQ.out.cell 6
          simp only [List.getElem?_cons_zero, List.getElem?_cons_succ] at r0 r1 r2 r3 r4 r5 r6
          have f0 := RQ.out.frozen 0
          have f1 := RQ.out.frozen 1
          have f2 := RQ.out.frozen 2
          have f3 := RQ.out.frozen 3
          have f4 := RQ.out.frozen 4
          have f5 := RQ.out.frozen 5
          have f6 := RQ.out.frozen 6
          go_wp2
          have hRR : Blk ((((((((Q.setCell ⟨gR, 0, none⟩ (.int .u32 s.ch)).setCell ⟨gR, 1, none⟩ (.int .u64 (s.rd + 1))).setCell ⟨gR, 2, none⟩ (.int .u64 s.m0)).setCell ⟨gR, 3, none⟩ (.int .u64 s.m1)).setCell ⟨gR, 4, none⟩ (.int .u64 (s.t0 + amt))).setCell ⟨gR, 5, none⟩ (.int .u64 s.t1)).setCell ⟨gR, 6, none⟩ (.slice va m vc))) gR 27 [.int .u32 s.ch, .int .u64 (s.rd + 1), .int .u64 s.m0, .int .u64 s.m1, .int .u64 (s.t0 + amt), .int .u64 s.t1, .slice va m vc] := (((((((RQ.out.set_ 0 _).set_ 1 _).set_ 2 _).set_ 3 _).set_ 4 _).set_ 5 _).set_ 6 _)
          have hown := OQ.out.kept ((only_setCell (p := ⟨gR, 6, none⟩) (only_setCell (p := ⟨gR, 5, none⟩) (only_setCell (p := ⟨gR, 4, none⟩) (only_setCell (p := ⟨gR, 3, none⟩) (only_setCell (p := ⟨gR, 2, none⟩) (only_setCell (p := ⟨gR, 1, none⟩) (only_setCell (p := ⟨gR, 0, none⟩) (only_refl Q (some gR)) (.inl rfl) (.int .u32 s.ch)) (.inl rfl) (.int .u64 (s.rd + 1))) (.inl rfl) (.int .u64 s.m0)) (.inl rfl) (.int .u64 s.m1)) (.inl rfl) (.int .u64 (s.t0 + amt))) (.inl rfl) (.int .u64 s.t1)) (.inl rfl) (.slice va m vc))) (.inr (fun e => own_ne OQ.out RQ.out (by decide) e.symm))
          exact bodyPost_ret (results_ct Try.results26 _ _ gR 27 [.int .u32 s.ch, .int .u64 (s.rd + 1), .int .u64 s.m0, .int .u64 s.m1, .int .u64 (s.t0 + amt), .int .u64 s.t1, .slice va m vc] _ rfl hRR Try.underlying27 rfl info27) rfl (by rw [show nextS s p0 p1 0 5 amt c id = (⟨s.ch, s.rd + 1, s.m0, s.m1, s.t0 + amt, s.t1, s.cs⟩ : St) from (if_pos HT.out).trans HS2.out, HT.out]; exact ⟨va, m, vc, rfl, hown, HS2L.out, (((((((BQ.out.setCell (p := ⟨gR, 0, none⟩) HGR.out _).setCell (p := ⟨gR, 1, none⟩) HGR.out _).setCell (p := ⟨gR, 2, none⟩) HGR.out _).setCell (p := ⟨gR, 3, none⟩) HGR.out _).setCell (p := ⟨gR, 4, none⟩) HGR.out _).setCell (p := ⟨gR, 5, none⟩) HGR.out _).setCell (p := ⟨gR, 6, none⟩) HGR.out _)⟩)
        · skip
          go_upto_region 26 with fail
          clear kk b0
          have k0 := Swr.out.cell 0
          have k1 := Swr.out.cell 1
          have k2 := Swr.out.cell 2
          have k3 := Swr.out.cell 3
          have k4 := Swr.out.cell 4
          have k5 := Swr.out.cell 5
          have k6 := Swr.out.cell 6
          simp only [List.getElem?_cons_zero, List.getElem?_cons_succ] at k0 k1 k2 k3 k4 k5 k6
          have q0 := Pwr.out.cell 0
          have q1 := Pwr.out.cell 1
          simp only [List.getElem?_cons_zero, List.getElem?_cons_succ] at q0 q1
          have ka := Kwr.out.cell 1
          rw [ocells_1] at ka
          go_wp2_with fail
          clear k0 k1 k2 k3 k4 k5 k6 q0 q1 ka
          refine (room_any s a n cap p0 p1 1 amt wr (HC.out.below Bwr.out) HL.out hn hp0 hp1 HO.out).mono ?_
          rintro e Z ⟨rfl, hB⟩
          have BZ := Lib.hid (Bwr.out.trans (hB.mono Bwr.out.size))
          have SZ := Lib.hid (Swr.out.below hB Swr.out.lt)
          have PZ := Lib.hid (Pwr.out.below hB Pwr.out.lt)
          have KZ := Lib.hid (Kwr.out.below hB Kwr.out.lt)
          have RZ := Lib.hid (Rwr.out.below hB Rwr.out.lt)
          have NZ := Lib.hid (Nwr.out.below hB Nwr.out.lt)
          have OZ := Lib.hid (own_keep Owr.out hB)
          clear hB Bwr Swr Pwr Kwr Rwr Nwr Owr
          obtain ⟨E2, hE2⟩ : ∃ x, spE (freeF s p0 p1 1) amt = x := ⟨_, rfl⟩
          rw [hE2]
          have HE2 := Lib.hid hE2
          clear hE2
          have HDE : Hid (doE s.nxt p0 p1 1 5 amt c id = spR E2 s.t1 amt) := Lib.hid (by rw [doE_5, show freeF s.nxt p0 p1 1 = freeF s p0 p1 1 from rfl, HE2.out]; rfl)
          by_cases h4 : E2 = 0
          case neg =>
            have b4 : (E2 != 0) = true := by simpa using h4
            have HNZ : Hid (¬ E2 = 0) := Lib.hid h4
            have HT : Hid (nextE s p0 p1 1 5 amt c id = E2) := Lib.hid (by rw [nextE_4 HE1.out H2.out H3.out (by rw [HDE.out, spR_e h4]; exact h4), HDE.out, spR_e h4])
            clear h4
            have r0 := RZ.out.cell 0
            have r1 := RZ.out.cell 1
            have r2 := RZ.out.cell 2
            have r3 := RZ.out.cell 3
            have r4 := RZ.out.cell 4
            have r5 := RZ.out.cell 5
            have r6 := RZ.out.cell 6
            simp only [List.getElem?_cons_zero, List.getElem?_cons_succ] at r0 r1 r2 r3 r4 r5 r6
            have f0 := RZ.out.frozen 0
            have f1 := RZ.out.frozen 1
            have f2 := RZ.out.frozen 2
            have f3 := RZ.out.frozen 3
            have f4 := RZ.out.frozen 4
            have f5 := RZ.out.frozen 5
            have f6 := RZ.out.frozen 6
            have z27 := zero27
            go_wp2
            have hRR : Blk ((((((((Z.setCell ⟨gR, 0, none⟩ (.int .u32 0)).setCell ⟨gR, 1, none⟩ (.int .u64 0)).setCell ⟨gR, 2, none⟩ (.int .u64 0)).setCell ⟨gR, 3, none⟩ (.int .u64 0)).setCell ⟨gR, 4, none⟩ (.int .u64 0)).setCell ⟨gR, 5, none⟩ (.int .u64 0)).setCell ⟨gR, 6, none⟩ (.slice none 0 0))) gR 27 [.int .u32 0, .int .u64 0, .int .u64 0, .int .u64 0, .int .u64 0, .int .u64 0, .slice none 0 0] := (((((((RZ.out.set_ 0 _).set_ 1 _).set_ 2 _).set_ 3 _).set_ 4 _).set_ 5 _).set_ 6 _)
            exact bodyPost_ret (results_ct Try.results26 _ _ gR 27 [.int .u32 0, .int .u64 0, .int .u64 0, .int .u64 0, .int .u64 0, .int .u64 0, .slice none 0 0] _ rfl hRR Try.underlying27 rfl info27) rfl (by rw [show nextS s p0 p1 1 5 amt c id = st0 from if_neg (by rw [HT.out]; exact HNZ.out), HT.out]; exact ⟨none, 0, 0, rfl, World.ownsRow_nil _ _ _ _, rfl, (((((((BZ.out.setCell (p := ⟨gR, 0, none⟩) HGR.out _).setCell (p := ⟨gR, 1, none⟩) HGR.out _).setCell (p := ⟨gR, 2, none⟩) HGR.out _).setCell (p := ⟨gR, 3, none⟩) HGR.out _).setCell (p := ⟨gR, 4, none⟩) HGR.out _).setCell (p := ⟨gR, 5, none⟩) HGR.out _).setCell (p := ⟨gR, 6, none⟩) HGR.out _)⟩)
          subst h4
          have kk := KZ.out.cell 0
          rw [ocells_0] at kk
          by_cases h5 : 18446744073709551616 ≤ s.t1 + amt
          case pos =>
            have HRA : Hid (∀ W, Calls Try.prog 29 #[.int .u64 s.t1, .int .u64 amt] W fun e w' => e = .returned (.tuple #[.int .u64 0, .int .i64 11]) ∧ W = w') := Lib.hid (fun W => radd_over _ _ W HO.out.t1 hamt h5)
            have HNZ : Hid (¬ (11 : Int) = 0) := Lib.hid (by decide)
            have HT : Hid (nextE s p0 p1 1 5 amt c id = 11) := Lib.hid (by rw [nextE_4 HE1.out H2.out H3.out (by rw [HDE.out, spR_over h5]; decide), HDE.out, spR_over h5])
            clear h5
            go_upto_region 31 with fail
            clear kk
            have hBz : Below Z.heap.size Z Z.drew := below_drewN (Below.refl _ _) 1
            have BX0 : Hid (Below w.heap.size w Z.drew) := Lib.hid (BZ.out.trans (hBz.mono BZ.out.size))
            have SX0 : Hid (Blk Z.drew gS 27 [.int .u32 s.ch, .int .u64 s.rd, .int .u64 s.m0, .int .u64 s.m1, .int .u64 s.t0, .int .u64 s.t1, .slice a n cap]) := Lib.hid (SZ.out.below hBz SZ.out.lt)
            have PX0 : Hid (Blk Z.drew gp 24 [.int .u64 p0, .int .u64 p1]) := Lib.hid (PZ.out.below hBz PZ.out.lt)
            have KX0 : Hid (Blk Z.drew gk 55 (ocells 5 amt c id)) := Lib.hid (KZ.out.below hBz KZ.out.lt)
            have RX0 : Hid (Blk Z.drew gR 27 [.int .u32 0, .int .u64 0, .int .u64 0, .int .u64 0, .int .u64 0, .int .u64 0, .slice none 0 0]) := Lib.hid (RZ.out.below hBz RZ.out.lt)
            have NX0 : Hid (Blk Z.drew gN 27 [.int .u32 s.ch, .int .u64 (s.rd + 1), .int .u64 s.m0, .int .u64 s.m1, .int .u64 s.t0, .int .u64 s.t1, .slice va m vc]) := Lib.hid (NZ.out.below hBz NZ.out.lt)
            have OX0 : Hid (Z.drew.ownsRow w.heap.size 53 36 (.slice va m vc) m (cflat s.cs)) := Lib.hid (own_keep OZ.out hBz)
            clear hBz
            refine wp_region_held_drew (S := fun w' => Blk w' gk 55 (ocells 5 amt c id)) (by kernel_rfl) (KX0.out) (fun hHeld => ?_)
            generalize Z.drew = X0 at hHeld BX0 SX0 PX0 KX0 RX0 NX0 OX0 ⊢
            refine wpAnyH_take (i := 0) (v := .int .i64 1) rfl (by kernel_rfl) (by kernel_rfl) (by kernel_rfl) (fun _ _ _ h => h) (Or.inl ⟨by rfl, fun w _ => by rfl⟩) hHeld ?_
            show wpAnyH _ _ _ _ _ _ _ (Act.put _ (some 115) _) _
            simp only [Act.put, List.setIfInBounds_toArray, List.set_cons_zero, List.set_cons_succ]
            refine wpAnyH_take (i := 1) (v := .int .i64 1) rfl (by kernel_rfl) (by kernel_rfl) (by kernel_rfl) (fun _ _ _ h => h) (Or.inl ⟨by rfl, fun w _ => by rfl⟩) hHeld ?_
            show wpAnyH _ _ _ _ _ _ _ (Act.put _ (some 116) _) _
            simp only [Act.put, List.setIfInBounds_toArray, List.set_cons_zero, List.set_cons_succ]
            refine wpAnyH_take (i := 2) (v := .pointer (some ⟨gN, 4, none⟩)) rfl (by kernel_rfl) (by kernel_rfl) (by kernel_rfl) (fun _ _ _ h => h) (Or.inl ⟨by rfl, by intro w' h; go_simp⟩) hHeld ?_
            show wpAnyH _ _ _ _ _ _ _ (Act.put _ (some 117) _) _
            simp only [Act.put, List.setIfInBounds_toArray, List.set_cons_zero, List.set_cons_succ]
            refine wpAnyH_take (i := 3) (v := .pointer (some ⟨gN, 5, none⟩)) rfl (by kernel_rfl) (by kernel_rfl) (by kernel_rfl) (fun _ _ _ h => h) (Or.inl ⟨by rfl, by intro w' h; go_simp⟩) hHeld ?_
            show wpAnyH _ _ _ _ _ _ _ (Act.put _ (some 118) _) _
            simp only [Act.put, List.setIfInBounds_toArray, List.set_cons_zero, List.set_cons_succ]
            refine wpAnyH_take (i := 5) (v := .pointer (some ⟨gk, 1, none⟩)) rfl (by kernel_rfl) (by kernel_rfl) (by kernel_rfl) (fun _ _ _ h => h) (Or.inl ⟨by rfl, by intro w' h; go_simp⟩) hHeld ?_
            show wpAnyH _ _ _ _ _ _ _ (Act.put _ (some 120) _) _
            simp only [Act.put, List.setIfInBounds_toArray, List.set_cons_zero, List.set_cons_succ]
            refine wpAnyH_take (i := 6) (v := .int .u64 amt) rfl (by kernel_rfl) (by kernel_rfl) (by kernel_rfl) (fun _ _ _ h => h) (Or.inl ⟨by rfl, by intro w' h; have q := Blk.cell h 1; rw [ocells_1] at q; go_simp⟩) hHeld ?_
            show wpAnyH _ _ _ _ _ _ _ (Act.put _ (some 121) _) _
            simp only [Act.put, List.setIfInBounds_toArray, List.set_cons_zero, List.set_cons_succ]
            refine wpAnyH_take (i := 11) (v := .pointer (some ⟨gN, 4, none⟩)) rfl (by kernel_rfl) (by kernel_rfl) (by kernel_rfl) (fun _ _ _ h => h) (Or.inl ⟨by rfl, by intro w' h; go_simp⟩) hHeld ?_
            show wpAnyH _ _ _ _ _ _ _ (Act.put _ (some 125) _) _
            simp only [Act.put, List.setIfInBounds_toArray, List.set_cons_zero, List.set_cons_succ]
            refine wpAnyH_ready (rs := [4]) (by kernel_rfl) (by simp) ?_
            refine AllReadyH.cons rfl (fun K hK => ?_) AllReadyH.nil
            refine step_ld rfl 23 (.tmp 118) rfl gN 5 rfl (.int .u64 s.t1) (run_load_u64 X0 gN 5 s.t1 27 _ NX0.out rfl) ?_
            refine hK.out _ _ (KX0.out) (fun hHeld => ?_)
            clear hK K
            show wpAnyH _ _ _ _ _ _ _ (Act.put _ (some 119) _) _
            simp only [Act.put, List.setIfInBounds_toArray, List.set_cons_zero, List.set_cons_succ]
            refine wpAnyH_ready (rs := [7]) (by kernel_rfl) (by simp) ?_
            refine AllReadyH.cons rfl (fun K hK => ?_) AllReadyH.nil
            refine step_call rfl 29 #[.tmp 119, .tmp 121] #[23, 23] rfl #[.int .u64 s.t1, .int .u64 amt] (by simp [Act.eval]) (by go_simp) (HRA.out X0) ?_
            rintro e X2 ⟨rfl, rfl⟩
            refine ⟨_, rfl, hK.out _ _ (KX0.out) (fun hHeld => ?_)⟩
            clear hK K
            show wpAnyH _ _ _ _ _ _ _ (Act.put _ (some 122) _) _
            simp only [Act.put, List.setIfInBounds_toArray, List.set_cons_zero, List.set_cons_succ]
            refine wpAnyH_take (i := 8) (v := .tuple #[.int .u64 0, .int .i64 11]) rfl (by kernel_rfl) (by kernel_rfl) (by kernel_rfl) (fun _ _ _ h => h) (Or.inl ⟨by rfl, fun w _ => by rfl⟩) hHeld ?_
            show wpAnyH _ _ _ _ _ _ _ (Act.put _ (some 114) _) _
            simp only [Act.put, List.setIfInBounds_toArray, List.set_cons_zero, List.set_cons_succ]
            refine wpAnyH_take (i := 9) (v := .int .u64 0) rfl (by kernel_rfl) (by kernel_rfl) (by kernel_rfl) (fun _ _ _ h => h) (Or.inl ⟨by rfl, by intro w' h; go_simp⟩) hHeld ?_
            show wpAnyH _ _ _ _ _ _ _ (Act.put _ (some 123) _) _
            simp only [Act.put, List.setIfInBounds_toArray, List.set_cons_zero, List.set_cons_succ]
            refine wpAnyH_take (i := 10) (v := .int .i64 11) rfl (by kernel_rfl) (by kernel_rfl) (by kernel_rfl) (fun _ _ _ h => h) (Or.inl ⟨by rfl, by intro w' h; go_simp⟩) hHeld ?_
            show wpAnyH _ _ _ _ _ _ _ (Act.put _ (some 124) _) _
            simp only [Act.put, List.setIfInBounds_toArray, List.set_cons_zero, List.set_cons_succ]
            refine wpAnyH_take (i := 12) (v := .pointer (some ⟨gN, 5, none⟩)) rfl (by kernel_rfl) (by kernel_rfl) (by kernel_rfl) (fun _ _ _ h => h) (Or.inl ⟨by rfl, by intro w' h; go_simp⟩) hHeld ?_
            show wpAnyH _ _ _ _ _ _ _ (Act.put _ (some 126) _) _
            simp only [Act.put, List.setIfInBounds_toArray, List.set_cons_zero, List.set_cons_succ]
            refine wpAnyH_ready (rs := [13]) (by kernel_rfl) (by simp) ?_
            refine AllReadyH.cons rfl (fun K hK => ?_) AllReadyH.nil
            refine step_cell rfl 23 (.tmp 126) (.tmp 123) rfl gN 5 rfl (.int .u64 0) rfl 27 _ NX0.out (run_store_u64 X0 gN 5 0 27 _ NX0.out (by simp)) ?_
            intro X3 hNb hO
            have hKW : ∀ q, some gN = some q → w.heap.size ≤ q := fun q hq => by injection hq with hq; have := HGN.out; omega
            have hTO : (Value.slice va m vc).ownBlock = none ∨ (Value.slice va m vc).ownBlock ≠ some gN := .inr (fun e => own_ne OX0.out NX0.out (by decide) e.symm)
            have hnS : some gS ≠ some gN := fun e => by injection e with e; have := HGN.out; omega
            have hnP : some gp ≠ some gN := fun e => by injection e with e; have := HGN.out; omega
            have hnK : some gk ≠ some gN := fun e => by injection e with e; have := HGN.out; omega
            have hnR : some gR ≠ some gN := fun e => by injection e with e; have := HGN.out; omega
            have BX3 : Hid (Below w.heap.size w X3) := Lib.hid (BX0.out.grown hO BX0.out.size hKW)
            have SX3 : Hid (Blk X3 gS 27 [.int .u32 s.ch, .int .u64 s.rd, .int .u64 s.m0, .int .u64 s.m1, .int .u64 s.t0, .int .u64 s.t1, .slice a n cap]) := Lib.hid (SX0.out.grown hO hnS)
            have PX3 : Hid (Blk X3 gp 24 [.int .u64 p0, .int .u64 p1]) := Lib.hid (PX0.out.grown hO hnP)
            have KX3 : Hid (Blk X3 gk 55 (ocells 5 amt c id)) := Lib.hid (KX0.out.grown hO hnK)
            have RX3 : Hid (Blk X3 gR 27 [.int .u32 0, .int .u64 0, .int .u64 0, .int .u64 0, .int .u64 0, .int .u64 0, .slice none 0 0]) := Lib.hid (RX0.out.grown hO hnR)
            have OX3 : Hid (X3.ownsRow w.heap.size 53 36 (.slice va m vc) m (cflat s.cs)) := Lib.hid (OX0.out.kept hO hTO)
            have NX3 : Hid (Blk X3 gN 27 [.int .u32 s.ch, .int .u64 (s.rd + 1), .int .u64 s.m0, .int .u64 s.m1, .int .u64 s.t0, .int .u64 0, .slice va m vc]) := Lib.hid (hNb)
            clear BX0 SX0 PX0 KX0 RX0 OX0 hO hNb hKW hTO hnS hnP hnK hnR NX0
            refine hK.out _ _ (KX3.out) (fun hHeld => ?_)
            clear hK K
            show wpAnyH _ _ _ _ _ _ _ (Act.put _ none _) _
            simp only [Act.put]
            refine wpAnyH_take (i := 14) (v := .int .i64 11) rfl (by kernel_rfl) (by kernel_rfl) (by kernel_rfl) (fun _ _ _ h => h) (Or.inl ⟨by rfl, fun w _ => by rfl⟩) hHeld ?_
            show wpAnyH _ _ _ _ _ _ _ (Act.put _ (some 14) _) _
            simp only [Act.put, List.setIfInBounds_toArray, List.set_cons_zero, List.set_cons_succ]
            refine wpAnyH_done (by kernel_rfl) ?_ _
            clear hHeld
            have r0 := RX3.out.cell 0
            have r1 := RX3.out.cell 1
            have r2 := RX3.out.cell 2
            have r3 := RX3.out.cell 3
            have r4 := RX3.out.cell 4
            have r5 := RX3.out.cell 5
            have r6 := RX3.out.cell 6
            simp only [List.getElem?_cons_zero, List.getElem?_cons_succ] at r0 r1 r2 r3 r4 r5 r6
            have f0 := RX3.out.frozen 0
            have f1 := RX3.out.frozen 1
            have f2 := RX3.out.frozen 2
            have f3 := RX3.out.frozen 3
            have f4 := RX3.out.frozen 4
            have f5 := RX3.out.frozen 5
            have f6 := RX3.out.frozen 6
            have z27 := zero27
            go_wp2
            have hRR : Blk ((((((((X3.setCell ⟨gR, 0, none⟩ (.int .u32 0)).setCell ⟨gR, 1, none⟩ (.int .u64 0)).setCell ⟨gR, 2, none⟩ (.int .u64 0)).setCell ⟨gR, 3, none⟩ (.int .u64 0)).setCell ⟨gR, 4, none⟩ (.int .u64 0)).setCell ⟨gR, 5, none⟩ (.int .u64 0)).setCell ⟨gR, 6, none⟩ (.slice none 0 0))) gR 27 [.int .u32 0, .int .u64 0, .int .u64 0, .int .u64 0, .int .u64 0, .int .u64 0, .slice none 0 0] := (((((((RX3.out.set_ 0 _).set_ 1 _).set_ 2 _).set_ 3 _).set_ 4 _).set_ 5 _).set_ 6 _)
            exact bodyPost_ret (results_ct Try.results26 _ _ gR 27 [.int .u32 0, .int .u64 0, .int .u64 0, .int .u64 0, .int .u64 0, .int .u64 0, .slice none 0 0] _ rfl hRR Try.underlying27 rfl info27) rfl (by rw [show nextS s p0 p1 1 5 amt c id = st0 from if_neg (by rw [HT.out]; exact HNZ.out), HT.out]; exact ⟨none, 0, 0, rfl, World.ownsRow_nil _ _ _ _, rfl, (((((((BX3.out.setCell (p := ⟨gR, 0, none⟩) HGR.out _).setCell (p := ⟨gR, 1, none⟩) HGR.out _).setCell (p := ⟨gR, 2, none⟩) HGR.out _).setCell (p := ⟨gR, 3, none⟩) HGR.out _).setCell (p := ⟨gR, 4, none⟩) HGR.out _).setCell (p := ⟨gR, 5, none⟩) HGR.out _).setCell (p := ⟨gR, 6, none⟩) HGR.out _)⟩)
          have HRA : Hid (∀ W, Calls Try.prog 29 #[.int .u64 s.t1, .int .u64 amt] W fun e w' => e = .returned (.tuple #[.int .u64 (s.t1 + amt), .int .i64 0]) ∧ W = w') := Lib.hid (fun W => radd_ok _ _ W HO.out.t1 hamt h5)
          have HD0 : Hid (doE s.nxt p0 p1 1 5 amt c id = 0) := Lib.hid (by rw [HDE.out, spR_ok h5])
          have HS2 : Hid (doS s.nxt 1 5 amt c id = (⟨s.ch, s.rd + 1, s.m0, s.m1, s.t0, s.t1 + amt, s.cs⟩ : St)) := Lib.hid (by rw [doS_5]; simp [St.tak, St.nxt])
          have HS2L : Hid (((⟨s.ch, s.rd + 1, s.m0, s.m1, s.t0, s.t1 + amt, s.cs⟩ : St)).cs.length = m) := Lib.hid HM.out
          have HS2C : Hid (∀ c ∈ ((⟨s.ch, s.rd + 1, s.m0, s.m1, s.t0, s.t1 + amt, s.cs⟩ : St)).cs, c.Ok) := Lib.hid HC.out.ok
          have HS2O : Hid ((⟨s.ch, s.rd + 1, s.m0, s.m1, s.t0, s.t1 + amt, s.cs⟩ : St)).Ok := Lib.hid (by have h := HON.out.tak (side := 1) hamt (by show s.t1 + amt < _; omega); simpa [St.tak, St.nxt] using h)
          clear h5
          go_upto_region 31 with fail
          clear kk
          have hBz : Below Z.heap.size Z Z.drew := below_drewN (Below.refl _ _) 1
          have BX0 : Hid (Below w.heap.size w Z.drew) := Lib.hid (BZ.out.trans (hBz.mono BZ.out.size))
          have SX0 : Hid (Blk Z.drew gS 27 [.int .u32 s.ch, .int .u64 s.rd, .int .u64 s.m0, .int .u64 s.m1, .int .u64 s.t0, .int .u64 s.t1, .slice a n cap]) := Lib.hid (SZ.out.below hBz SZ.out.lt)
          have PX0 : Hid (Blk Z.drew gp 24 [.int .u64 p0, .int .u64 p1]) := Lib.hid (PZ.out.below hBz PZ.out.lt)
          have KX0 : Hid (Blk Z.drew gk 55 (ocells 5 amt c id)) := Lib.hid (KZ.out.below hBz KZ.out.lt)
          have RX0 : Hid (Blk Z.drew gR 27 [.int .u32 0, .int .u64 0, .int .u64 0, .int .u64 0, .int .u64 0, .int .u64 0, .slice none 0 0]) := Lib.hid (RZ.out.below hBz RZ.out.lt)
          have NX0 : Hid (Blk Z.drew gN 27 [.int .u32 s.ch, .int .u64 (s.rd + 1), .int .u64 s.m0, .int .u64 s.m1, .int .u64 s.t0, .int .u64 s.t1, .slice va m vc]) := Lib.hid (NZ.out.below hBz NZ.out.lt)
          have OX0 : Hid (Z.drew.ownsRow w.heap.size 53 36 (.slice va m vc) m (cflat s.cs)) := Lib.hid (own_keep OZ.out hBz)
          clear hBz
          refine wp_region_held_drew (S := fun w' => Blk w' gk 55 (ocells 5 amt c id)) (by kernel_rfl) (KX0.out) (fun hHeld => ?_)
          generalize Z.drew = X0 at hHeld BX0 SX0 PX0 KX0 RX0 NX0 OX0 ⊢
          refine wpAnyH_take (i := 0) (v := .int .i64 1) rfl (by kernel_rfl) (by kernel_rfl) (by kernel_rfl) (fun _ _ _ h => h) (Or.inl ⟨by rfl, fun w _ => by rfl⟩) hHeld ?_
          show wpAnyH _ _ _ _ _ _ _ (Act.put _ (some 115) _) _
          simp only [Act.put, List.setIfInBounds_toArray, List.set_cons_zero, List.set_cons_succ]
          refine wpAnyH_take (i := 1) (v := .int .i64 1) rfl (by kernel_rfl) (by kernel_rfl) (by kernel_rfl) (fun _ _ _ h => h) (Or.inl ⟨by rfl, fun w _ => by rfl⟩) hHeld ?_
          show wpAnyH _ _ _ _ _ _ _ (Act.put _ (some 116) _) _
          simp only [Act.put, List.setIfInBounds_toArray, List.set_cons_zero, List.set_cons_succ]
          refine wpAnyH_take (i := 2) (v := .pointer (some ⟨gN, 4, none⟩)) rfl (by kernel_rfl) (by kernel_rfl) (by kernel_rfl) (fun _ _ _ h => h) (Or.inl ⟨by rfl, by intro w' h; go_simp⟩) hHeld ?_
          show wpAnyH _ _ _ _ _ _ _ (Act.put _ (some 117) _) _
          simp only [Act.put, List.setIfInBounds_toArray, List.set_cons_zero, List.set_cons_succ]
          refine wpAnyH_take (i := 3) (v := .pointer (some ⟨gN, 5, none⟩)) rfl (by kernel_rfl) (by kernel_rfl) (by kernel_rfl) (fun _ _ _ h => h) (Or.inl ⟨by rfl, by intro w' h; go_simp⟩) hHeld ?_
          show wpAnyH _ _ _ _ _ _ _ (Act.put _ (some 118) _) _
          simp only [Act.put, List.setIfInBounds_toArray, List.set_cons_zero, List.set_cons_succ]
          refine wpAnyH_take (i := 5) (v := .pointer (some ⟨gk, 1, none⟩)) rfl (by kernel_rfl) (by kernel_rfl) (by kernel_rfl) (fun _ _ _ h => h) (Or.inl ⟨by rfl, by intro w' h; go_simp⟩) hHeld ?_
          show wpAnyH _ _ _ _ _ _ _ (Act.put _ (some 120) _) _
          simp only [Act.put, List.setIfInBounds_toArray, List.set_cons_zero, List.set_cons_succ]
          refine wpAnyH_take (i := 6) (v := .int .u64 amt) rfl (by kernel_rfl) (by kernel_rfl) (by kernel_rfl) (fun _ _ _ h => h) (Or.inl ⟨by rfl, by intro w' h; have q := Blk.cell h 1; rw [ocells_1] at q; go_simp⟩) hHeld ?_
          show wpAnyH _ _ _ _ _ _ _ (Act.put _ (some 121) _) _
          simp only [Act.put, List.setIfInBounds_toArray, List.set_cons_zero, List.set_cons_succ]
          refine wpAnyH_take (i := 11) (v := .pointer (some ⟨gN, 4, none⟩)) rfl (by kernel_rfl) (by kernel_rfl) (by kernel_rfl) (fun _ _ _ h => h) (Or.inl ⟨by rfl, by intro w' h; go_simp⟩) hHeld ?_
          show wpAnyH _ _ _ _ _ _ _ (Act.put _ (some 125) _) _
          simp only [Act.put, List.setIfInBounds_toArray, List.set_cons_zero, List.set_cons_succ]
          refine wpAnyH_ready (rs := [4]) (by kernel_rfl) (by simp) ?_
          refine AllReadyH.cons rfl (fun K hK => ?_) AllReadyH.nil
          refine step_ld rfl 23 (.tmp 118) rfl gN 5 rfl (.int .u64 s.t1) (run_load_u64 X0 gN 5 s.t1 27 _ NX0.out rfl) ?_
          refine hK.out _ _ (KX0.out) (fun hHeld => ?_)
          clear hK K
          show wpAnyH _ _ _ _ _ _ _ (Act.put _ (some 119) _) _
          simp only [Act.put, List.setIfInBounds_toArray, List.set_cons_zero, List.set_cons_succ]
          refine wpAnyH_ready (rs := [7]) (by kernel_rfl) (by simp) ?_
          refine AllReadyH.cons rfl (fun K hK => ?_) AllReadyH.nil
          refine step_call rfl 29 #[.tmp 119, .tmp 121] #[23, 23] rfl #[.int .u64 s.t1, .int .u64 amt] (by simp [Act.eval]) (by go_simp) (HRA.out X0) ?_
          rintro e X2 ⟨rfl, rfl⟩
          refine ⟨_, rfl, hK.out _ _ (KX0.out) (fun hHeld => ?_)⟩
          clear hK K
          show wpAnyH _ _ _ _ _ _ _ (Act.put _ (some 122) _) _
          simp only [Act.put, List.setIfInBounds_toArray, List.set_cons_zero, List.set_cons_succ]
          refine wpAnyH_take (i := 8) (v := .tuple #[.int .u64 (s.t1 + amt), .int .i64 0]) rfl (by kernel_rfl) (by kernel_rfl) (by kernel_rfl) (fun _ _ _ h => h) (Or.inl ⟨by rfl, fun w _ => by rfl⟩) hHeld ?_
          show wpAnyH _ _ _ _ _ _ _ (Act.put _ (some 114) _) _
          simp only [Act.put, List.setIfInBounds_toArray, List.set_cons_zero, List.set_cons_succ]
          refine wpAnyH_take (i := 9) (v := .int .u64 (s.t1 + amt)) rfl (by kernel_rfl) (by kernel_rfl) (by kernel_rfl) (fun _ _ _ h => h) (Or.inl ⟨by rfl, by intro w' h; go_simp⟩) hHeld ?_
          show wpAnyH _ _ _ _ _ _ _ (Act.put _ (some 123) _) _
          simp only [Act.put, List.setIfInBounds_toArray, List.set_cons_zero, List.set_cons_succ]
          refine wpAnyH_take (i := 10) (v := .int .i64 0) rfl (by kernel_rfl) (by kernel_rfl) (by kernel_rfl) (fun _ _ _ h => h) (Or.inl ⟨by rfl, by intro w' h; go_simp⟩) hHeld ?_
          show wpAnyH _ _ _ _ _ _ _ (Act.put _ (some 124) _) _
          simp only [Act.put, List.setIfInBounds_toArray, List.set_cons_zero, List.set_cons_succ]
          refine wpAnyH_take (i := 12) (v := .pointer (some ⟨gN, 5, none⟩)) rfl (by kernel_rfl) (by kernel_rfl) (by kernel_rfl) (fun _ _ _ h => h) (Or.inl ⟨by rfl, by intro w' h; go_simp⟩) hHeld ?_
          show wpAnyH _ _ _ _ _ _ _ (Act.put _ (some 126) _) _
          simp only [Act.put, List.setIfInBounds_toArray, List.set_cons_zero, List.set_cons_succ]
          refine wpAnyH_ready (rs := [13]) (by kernel_rfl) (by simp) ?_
          refine AllReadyH.cons rfl (fun K hK => ?_) AllReadyH.nil
          refine step_cell rfl 23 (.tmp 126) (.tmp 123) rfl gN 5 rfl (.int .u64 (s.t1 + amt)) rfl 27 _ NX0.out (run_store_u64 X0 gN 5 (s.t1 + amt) 27 _ NX0.out (by simp)) ?_
          intro X3 hNb hO
          have hKW : ∀ q, some gN = some q → w.heap.size ≤ q := fun q hq => by injection hq with hq; have := HGN.out; omega
          have hTO : (Value.slice va m vc).ownBlock = none ∨ (Value.slice va m vc).ownBlock ≠ some gN := .inr (fun e => own_ne OX0.out NX0.out (by decide) e.symm)
          have hnS : some gS ≠ some gN := fun e => by injection e with e; have := HGN.out; omega
          have hnP : some gp ≠ some gN := fun e => by injection e with e; have := HGN.out; omega
          have hnK : some gk ≠ some gN := fun e => by injection e with e; have := HGN.out; omega
          have hnR : some gR ≠ some gN := fun e => by injection e with e; have := HGN.out; omega
          have BX3 : Hid (Below w.heap.size w X3) := Lib.hid (BX0.out.grown hO BX0.out.size hKW)
          have SX3 : Hid (Blk X3 gS 27 [.int .u32 s.ch, .int .u64 s.rd, .int .u64 s.m0, .int .u64 s.m1, .int .u64 s.t0, .int .u64 s.t1, .slice a n cap]) := Lib.hid (SX0.out.grown hO hnS)
          have PX3 : Hid (Blk X3 gp 24 [.int .u64 p0, .int .u64 p1]) := Lib.hid (PX0.out.grown hO hnP)
          have KX3 : Hid (Blk X3 gk 55 (ocells 5 amt c id)) := Lib.hid (KX0.out.grown hO hnK)
          have RX3 : Hid (Blk X3 gR 27 [.int .u32 0, .int .u64 0, .int .u64 0, .int .u64 0, .int .u64 0, .int .u64 0, .slice none 0 0]) := Lib.hid (RX0.out.grown hO hnR)
          have OX3 : Hid (X3.ownsRow w.heap.size 53 36 (.slice va m vc) m (cflat s.cs)) := Lib.hid (OX0.out.kept hO hTO)
          have NX3 : Hid (Blk X3 gN 27 [.int .u32 s.ch, .int .u64 (s.rd + 1), .int .u64 s.m0, .int .u64 s.m1, .int .u64 s.t0, .int .u64 (s.t1 + amt), .slice va m vc]) := Lib.hid (hNb)
          clear BX0 SX0 PX0 KX0 RX0 OX0 hO hNb hKW hTO hnS hnP hnK hnR NX0
          refine hK.out _ _ (KX3.out) (fun hHeld => ?_)
          clear hK K
          show wpAnyH _ _ _ _ _ _ _ (Act.put _ none _) _
          simp only [Act.put]
          refine wpAnyH_take (i := 14) (v := .int .i64 0) rfl (by kernel_rfl) (by kernel_rfl) (by kernel_rfl) (fun _ _ _ h => h) (Or.inl ⟨by rfl, fun w _ => by rfl⟩) hHeld ?_
          show wpAnyH _ _ _ _ _ _ _ (Act.put _ (some 14) _) _
          simp only [Act.put, List.setIfInBounds_toArray, List.set_cons_zero, List.set_cons_succ]
          refine wpAnyH_done (by kernel_rfl) ?_ _
          clear hHeld
          go_upto_region 48 with fail
          have k0 := NX3.out.cell 0
          have k1 := NX3.out.cell 1
          have k2 := NX3.out.cell 2
          have k3 := NX3.out.cell 3
          have k4 := NX3.out.cell 4
          have k5 := NX3.out.cell 5
          have k6 := NX3.out.cell 6
          simp only [List.getElem?_cons_zero, List.getElem?_cons_succ] at k0 k1 k2 k3 k4 k5 k6
          have q0 := PX3.out.cell 0
          have q1 := PX3.out.cell 1
          simp only [List.getElem?_cons_zero, List.getElem?_cons_succ] at q0 q1
          go_wp2_with fail
          clear k0 k1 k2 k3 k4 k5 k6 q0 q1
          refine (show Calls Try.prog 16 #[.agg #[.int .u32 s.ch, .int .u64 (s.rd + 1), .int .u64 s.m0, .int .u64 s.m1, .int .u64 s.t0, .int .u64 (s.t1 + amt), .slice va m vc], .agg #[.int .u64 p0, .int .u64 p1]] X3 (fun e w2 => e = .returned (.int .i64 (soundE ((⟨s.ch, s.rd + 1, s.m0, s.m1, s.t0, s.t1 + amt, s.cs⟩ : St)) p0 p1)) ∧ Below X3.heap.size X3 w2) from rsound_any ((⟨s.ch, s.rd + 1, s.m0, s.m1, s.t0, s.t1 + amt, s.cs⟩ : St)).ch ((⟨s.ch, s.rd + 1, s.m0, s.m1, s.t0, s.t1 + amt, s.cs⟩ : St)).rd ((⟨s.ch, s.rd + 1, s.m0, s.m1, s.t0, s.t1 + amt, s.cs⟩ : St)).m0 ((⟨s.ch, s.rd + 1, s.m0, s.m1, s.t0, s.t1 + amt, s.cs⟩ : St)).m1 ((⟨s.ch, s.rd + 1, s.m0, s.m1, s.t0, s.t1 + amt, s.cs⟩ : St)).t0 ((⟨s.ch, s.rd + 1, s.m0, s.m1, s.t0, s.t1 + amt, s.cs⟩ : St)).t1 va m vc ((⟨s.ch, s.rd + 1, s.m0, s.m1, s.t0, s.t1 + amt, s.cs⟩ : St)).cs p0 p1 X3 (CRow.of_own (by rw [HS2L.out]; exact OX3.out) HS2C.out) HS2L.out hml hp0 hp1 HS2O.out.eta).mono ?_
          rintro e Q ⟨rfl, hB⟩
          have BQ := Lib.hid (BX3.out.trans (hB.mono BX3.out.size))
          have RQ := Lib.hid (RX3.out.below hB RX3.out.lt)
          have NQ := Lib.hid (NX3.out.below hB NX3.out.lt)
          have OQ := Lib.hid (own_keep OX3.out hB)
          clear hB BX3 RX3 NX3 OX3 PX3 SX3 KX3
          obtain ⟨E3, hE3⟩ : ∃ E3, soundE ((⟨s.ch, s.rd + 1, s.m0, s.m1, s.t0, s.t1 + amt, s.cs⟩ : St)) p0 p1 = E3 := ⟨_, rfl⟩
          rw [hE3]
          have HE3 := Lib.hid hE3
          clear hE3
          by_cases h5 : E3 = 0
          case neg =>
            have b5 : (E3 != 0) = true := by simpa using h5
            have HNZ : Hid (¬ E3 = 0) := Lib.hid h5
            have HT : Hid (nextE s p0 p1 1 5 amt c id = E3) := Lib.hid (by rw [nextE_5 HE1.out H2.out H3.out HD0.out, HS2.out, HE3.out])
            clear h5
            have r0 := RQ.out.cell 0
            have r1 := RQ.out.cell 1
            have r2 := RQ.out.cell 2
            have r3 := RQ.out.cell 3
            have r4 := RQ.out.cell 4
            have r5 := RQ.out.cell 5
            have r6 := RQ.out.cell 6
            simp only [List.getElem?_cons_zero, List.getElem?_cons_succ] at r0 r1 r2 r3 r4 r5 r6
            have f0 := RQ.out.frozen 0
            have f1 := RQ.out.frozen 1
            have f2 := RQ.out.frozen 2
            have f3 := RQ.out.frozen 3
            have f4 := RQ.out.frozen 4
            have f5 := RQ.out.frozen 5
            have f6 := RQ.out.frozen 6
            have z27 := zero27
            go_wp2
            have hRR : Blk ((((((((Q.setCell ⟨gR, 0, none⟩ (.int .u32 0)).setCell ⟨gR, 1, none⟩ (.int .u64 0)).setCell ⟨gR, 2, none⟩ (.int .u64 0)).setCell ⟨gR, 3, none⟩ (.int .u64 0)).setCell ⟨gR, 4, none⟩ (.int .u64 0)).setCell ⟨gR, 5, none⟩ (.int .u64 0)).setCell ⟨gR, 6, none⟩ (.slice none 0 0))) gR 27 [.int .u32 0, .int .u64 0, .int .u64 0, .int .u64 0, .int .u64 0, .int .u64 0, .slice none 0 0] := (((((((RQ.out.set_ 0 _).set_ 1 _).set_ 2 _).set_ 3 _).set_ 4 _).set_ 5 _).set_ 6 _)
            exact bodyPost_ret (results_ct Try.results26 _ _ gR 27 [.int .u32 0, .int .u64 0, .int .u64 0, .int .u64 0, .int .u64 0, .int .u64 0, .slice none 0 0] _ rfl hRR Try.underlying27 rfl info27) rfl (by rw [show nextS s p0 p1 1 5 amt c id = st0 from if_neg (by rw [HT.out]; exact HNZ.out), HT.out]; exact ⟨none, 0, 0, rfl, World.ownsRow_nil _ _ _ _, rfl, (((((((BQ.out.setCell (p := ⟨gR, 0, none⟩) HGR.out _).setCell (p := ⟨gR, 1, none⟩) HGR.out _).setCell (p := ⟨gR, 2, none⟩) HGR.out _).setCell (p := ⟨gR, 3, none⟩) HGR.out _).setCell (p := ⟨gR, 4, none⟩) HGR.out _).setCell (p := ⟨gR, 5, none⟩) HGR.out _).setCell (p := ⟨gR, 6, none⟩) HGR.out _)⟩)
          subst h5
          have HT : Hid (nextE s p0 p1 1 5 amt c id = 0) := Lib.hid (by rw [nextE_5 HE1.out H2.out H3.out HD0.out, HS2.out, HE3.out])
          have k0 := NQ.out.cell 0
          have k1 := NQ.out.cell 1
          have k2 := NQ.out.cell 2
          have k3 := NQ.out.cell 3
          have k4 := NQ.out.cell 4
          have k5 := NQ.out.cell 5
          have k6 := NQ.out.cell 6
          simp only [List.getElem?_cons_zero, List.getElem?_cons_succ] at k0 k1 k2 k3 k4 k5 k6
          have r0 := RQ.out.cell 0
          have r1 := RQ.out.cell 1
          have r2 := RQ.out.cell 2
          have r3 := RQ.out.cell 3
          have r4 := RQ.out.cell 4
          have r5 := RQ.out.cell 5
          have r6 := RQ.out.cell 6
          simp only [List.getElem?_cons_zero, List.getElem?_cons_succ] at r0 r1 r2 r3 r4 r5 r6
          have f0 := RQ.out.frozen 0
          have f1 := RQ.out.frozen 1
          have f2 := RQ.out.frozen 2
          have f3 := RQ.out.frozen 3
          have f4 := RQ.out.frozen 4
          have f5 := RQ.out.frozen 5
          have f6 := RQ.out.frozen 6
          go_wp2
          have hRR : Blk ((((((((Q.setCell ⟨gR, 0, none⟩ (.int .u32 s.ch)).setCell ⟨gR, 1, none⟩ (.int .u64 (s.rd + 1))).setCell ⟨gR, 2, none⟩ (.int .u64 s.m0)).setCell ⟨gR, 3, none⟩ (.int .u64 s.m1)).setCell ⟨gR, 4, none⟩ (.int .u64 s.t0)).setCell ⟨gR, 5, none⟩ (.int .u64 (s.t1 + amt))).setCell ⟨gR, 6, none⟩ (.slice va m vc))) gR 27 [.int .u32 s.ch, .int .u64 (s.rd + 1), .int .u64 s.m0, .int .u64 s.m1, .int .u64 s.t0, .int .u64 (s.t1 + amt), .slice va m vc] := (((((((RQ.out.set_ 0 _).set_ 1 _).set_ 2 _).set_ 3 _).set_ 4 _).set_ 5 _).set_ 6 _)
          have hown := OQ.out.kept ((only_setCell (p := ⟨gR, 6, none⟩) (only_setCell (p := ⟨gR, 5, none⟩) (only_setCell (p := ⟨gR, 4, none⟩) (only_setCell (p := ⟨gR, 3, none⟩) (only_setCell (p := ⟨gR, 2, none⟩) (only_setCell (p := ⟨gR, 1, none⟩) (only_setCell (p := ⟨gR, 0, none⟩) (only_refl Q (some gR)) (.inl rfl) (.int .u32 s.ch)) (.inl rfl) (.int .u64 (s.rd + 1))) (.inl rfl) (.int .u64 s.m0)) (.inl rfl) (.int .u64 s.m1)) (.inl rfl) (.int .u64 s.t0)) (.inl rfl) (.int .u64 (s.t1 + amt))) (.inl rfl) (.slice va m vc))) (.inr (fun e => own_ne OQ.out RQ.out (by decide) e.symm))
          exact bodyPost_ret (results_ct Try.results26 _ _ gR 27 [.int .u32 s.ch, .int .u64 (s.rd + 1), .int .u64 s.m0, .int .u64 s.m1, .int .u64 s.t0, .int .u64 (s.t1 + amt), .slice va m vc] _ rfl hRR Try.underlying27 rfl info27) rfl (by rw [show nextS s p0 p1 1 5 amt c id = (⟨s.ch, s.rd + 1, s.m0, s.m1, s.t0, s.t1 + amt, s.cs⟩ : St) from (if_pos HT.out).trans HS2.out, HT.out]; exact ⟨va, m, vc, rfl, hown, HS2L.out, (((((((BQ.out.setCell (p := ⟨gR, 0, none⟩) HGR.out _).setCell (p := ⟨gR, 1, none⟩) HGR.out _).setCell (p := ⟨gR, 2, none⟩) HGR.out _).setCell (p := ⟨gR, 3, none⟩) HGR.out _).setCell (p := ⟨gR, 4, none⟩) HGR.out _).setCell (p := ⟨gR, 5, none⟩) HGR.out _).setCell (p := ⟨gR, 6, none⟩) HGR.out _)⟩)
      have b5 : (k == 5) = false := by simpa using hk5
      have b2 : (k == 2) = false := by simpa using hk2
      have HNZ : Hid (¬ (33 : Int) = 0) := Lib.hid (by decide)
      have HDE : doE s.nxt p0 p1 side k amt c id = 33 := doE_n hk0 hk1 hk2 hk3 hk4 hk5 _ _ _ _ _ _ _
      have HT : Hid (nextE s p0 p1 side k amt c id = 33) := Lib.hid (by rw [nextE_4 HE1.out H2.out H3.out (by rw [HDE]; decide), HDE])
      clear HDE hk0 hk1 hk2 hk3 hk4 hk5
      have r0 := Rwr.out.cell 0
      have r1 := Rwr.out.cell 1
      have r2 := Rwr.out.cell 2
      have r3 := Rwr.out.cell 3
      have r4 := Rwr.out.cell 4
      have r5 := Rwr.out.cell 5
      have r6 := Rwr.out.cell 6
      simp only [List.getElem?_cons_zero, List.getElem?_cons_succ] at r0 r1 r2 r3 r4 r5 r6
      have f0 := Rwr.out.frozen 0
      have f1 := Rwr.out.frozen 1
      have f2 := Rwr.out.frozen 2
      have f3 := Rwr.out.frozen 3
      have f4 := Rwr.out.frozen 4
      have f5 := Rwr.out.frozen 5
      have f6 := Rwr.out.frozen 6
      have z27 := zero27
      go_wp2
      have hRR : Blk ((((((((wr.setCell ⟨gR, 0, none⟩ (.int .u32 0)).setCell ⟨gR, 1, none⟩ (.int .u64 0)).setCell ⟨gR, 2, none⟩ (.int .u64 0)).setCell ⟨gR, 3, none⟩ (.int .u64 0)).setCell ⟨gR, 4, none⟩ (.int .u64 0)).setCell ⟨gR, 5, none⟩ (.int .u64 0)).setCell ⟨gR, 6, none⟩ (.slice none 0 0))) gR 27 [.int .u32 0, .int .u64 0, .int .u64 0, .int .u64 0, .int .u64 0, .int .u64 0, .slice none 0 0] := (((((((Rwr.out.set_ 0 _).set_ 1 _).set_ 2 _).set_ 3 _).set_ 4 _).set_ 5 _).set_ 6 _)
      exact bodyPost_ret (results_ct Try.results26 _ _ gR 27 [.int .u32 0, .int .u64 0, .int .u64 0, .int .u64 0, .int .u64 0, .int .u64 0, .slice none 0 0] _ rfl hRR Try.underlying27 rfl info27) rfl (by rw [show nextS s p0 p1 side k amt c id = st0 from if_neg (by rw [HT.out]; exact HNZ.out), HT.out]; exact ⟨none, 0, 0, rfl, World.ownsRow_nil _ _ _ _, rfl, (((((((Bwr.out.setCell (p := ⟨gR, 0, none⟩) HGR.out _).setCell (p := ⟨gR, 1, none⟩) HGR.out _).setCell (p := ⟨gR, 2, none⟩) HGR.out _).setCell (p := ⟨gR, 3, none⟩) HGR.out _).setCell (p := ⟨gR, 4, none⟩) HGR.out _).setCell (p := ⟨gR, 5, none⟩) HGR.out _).setCell (p := ⟨gR, 6, none⟩) HGR.out _)⟩)
end Go.Proofs.Ytkiifjkcpangfaa
