/-
  tollhouselaw03.MillParts (function 4) returns true for all parts that came in; nothing that was there is written.
-/
import Derived.Test.YtcpjfdaacnkcnaaDoorCame
import Derived.Deep.RegionHeld3
import Derived.Deep.AppendLies
namespace Go.Proofs.YtcpjfdaacnkcnaaDoor
open Go.RowKit
set_option linter.unusedVariables false

theorem Own.below_ {w w' : World} {base B : Nat} {v : Value} {l : List Nat} (h : Own w base v l) (hB : Below B w w') (hg : ∀ g, v.ownBlock = some g → g < B) : Own w' base v l := by
  refine ⟨h.1, ?_⟩
  rcases h.2 with h1 | ⟨g, cap, cur, hv, hb, hh, rest⟩
  · exact .inl h1
  · exact .inr ⟨g, cap, cur, hv, hb, (hB.block g (hg g (by rw [hv]; rfl))).trans hh, rest⟩
theorem Rep.below_ {w w' : World} {b B : Nat} {l bs : List Nat} (h : Rep w b l bs) (hB : Below B w w') (hb : b < B) : Rep w' b l bs := ⟨h.blk.below hB hb, h.len, h.lt, h.rest⟩
theorem Own.lit (w : World) : Own (w.alloc (.cells #[] 5)) w.heap.size (.slice (some ⟨w.heap.size, 0, none⟩) 0 0) [] := World.ownsRow_lit w #[] 0 (Nat.le_refl _) (by unfold maxLen; omega) rfl

theorem Came.src {W wr : World} {A : Option Addr} {m : Nat} {ps : List (List Nat)} (h : Came W A m ps) (hB : Below W.heap.size W wr) (k : Nat) (hk : k < m) {g off n ci : Nat} {Ai : Option Addr} (hA : A = some ⟨g, off, none⟩)
    (hc : wr.cell? ⟨g, off + k, none⟩ = some (.slice Ai n ci)) : Src W W.heap.size Ai ci (ps.getD k []) := by
  have hkp : k < ps.length := by rw [h.len]; exact hk
  rcases h.parts.at_ with h0 | ⟨g', off', hA', hg, hgb, hcell⟩
  · rw [h0] at hkp
    simp at hkp
  rw [hA] at hA'
  injection hA' with hA'
  injection hA' with e1 e2
  subst e1; subst e2
  obtain ⟨Aj, cj, hcj, _, hs⟩ := hcell k hkp
  rw [hB.cell (p := ⟨g, off + k, none⟩) hg, hcj] at hc
  injection hc with hc
  injection hc with e1 e2 e3
  subst e1; subst e3
  exact hs
theorem run_slice_lo (A : Option Addr) (L c h : Nat) (hh : h ≤ c) (W : World) : (Instr.slice 22 (.slice A L c) none (some (.int .i64 (h : Int))) none).run Tryd.prog W = .ok (.slice A h c) W := by
  obtain ⟨i0, hi, hz0, hz1, hz2⟩ := info_parts byte_info
  rw [run_slice_h (P := Tryd.prog) W 22 A L c (by kernel_rfl) .i64 (h : Int) (by omega) (by omega), show Tryd.prog.elem 22 = 5 by kernel_rfl]
  cases A <;> simp [sizeOf, typeInfo, hi, sliced, Addr.add]
def cutAt (A : Option Addr) (c h : Nat) : Option Addr := if c = h then A else A.map (·.add h)
theorem run_slice_hi (A : Option Addr) (L c h : Nat) (hh : h ≤ L) (hc : L ≤ c) (W : World) : (Instr.slice 22 (.slice A L c) (some (.int .i64 (h : Int))) none none).run Tryd.prog W = .ok (.slice (cutAt A c h) (L - h) (c - h)) W := by
  obtain ⟨i0, hi, hz0, hz1, hz2⟩ := info_parts byte_info
  rw [run_slice_l (P := Tryd.prog) W 22 A L c (by kernel_rfl) .i64 (h : Int) (by omega) (by omega), show Tryd.prog.elem 22 = 5 by kernel_rfl]
  simp [sizeOf, typeInfo, hi, hz1, sliced, cutAt]
theorem Src.lo {w : World} {b c h : Nat} {A : Option Addr} {l : List Nat} (hs : Src w b A c l) : Src w b A c (l.take h) := by
  refine ⟨Nat.le_trans (by simp; omega) hs.le, ?_, fun x hx => hs.lt x (List.mem_of_mem_take hx)⟩
  rcases hs.at_ with h0 | ⟨g, off, h1, h2, h3, h4⟩
  · exact .inl (by rw [h0]; simp)
  · refine .inr ⟨g, off, h1, h2, h3, fun i hi => ?_⟩
    have hi' : i < h ∧ i < l.length := by have h5 := hi; rw [List.length_take] at h5; omega
    rw [h4 i hi'.2]
    simp [List.getD, hi'.1]
theorem Src.hi {w : World} {b c h : Nat} {A : Option Addr} {l : List Nat} (hs : Src w b A c l) (hh : h ≤ l.length) : Src w b (cutAt A c h) (c - h) (l.drop h) := by
  cases A with
  | none =>
    have h0 : l = [] := by
      rcases hs.at_ with h0 | ⟨g, off, h1, _⟩
      · exact h0
      · cases h1
    subst h0
    exact ⟨by simp, .inl (by simp), by simp⟩
  | some ad =>
    rcases hs.at_ with h0 | ⟨g, off, h1, h2, h3, h4⟩
    · subst h0
      exact ⟨by simp, .inl (by simp), by simp⟩
    · injection h1 with h1
      subst h1
      have h := hs.cut hh
      unfold cutAt
      rw [Option.map_some, Addr.add_mid]
      exact h
theorem Parts.two {w : World} {b g : Nat} {t : TypeId} {A1 A2 : Option Addr} {c1 c2 n1 n2 : Nat} {x1 x2 : List Nat} (h : Blk w g t [.slice A1 n1 c1, .slice A2 n2 c2]) (hn1 : n1 = x1.length) (hn2 : n2 = x2.length) (hb : g ≠ b) (hc1 : c1 ≤ 9223372036854775807) (hc2 : c2 ≤ 9223372036854775807) (hs1 : Src w b A1 c1 x1) (hs2 : Src w b A2 c2 x2) : Parts w b (some ⟨g, 0, none⟩) [x1, x2] := by
  subst hn1; subst hn2
  refine ⟨.inr ⟨g, 0, rfl, h.lt, hb, fun i hi => ?_⟩⟩
  match i, hi with
  | 0, _ => exact ⟨A1, c1, by rw [h.cell]; rfl, hc1, hs1⟩
  | 1, _ => exact ⟨A2, c2, by rw [h.cell]; rfl, hc2, hs2⟩
theorem up_alloc {W W' : World} (h : Below W.heap.size W W') (o : Obj) : Below W.heap.size W (W'.alloc o) := h.alloc h.size o
theorem built1 {V w7 : World} {v : Value} (h : Below (V.alloc (.cells #[v] 22)).heap.size (V.alloc (.cells #[v] 22)) w7) : Blk w7 V.heap.size 22 [v] := (Blk.new V 22 [v]).below h (by simp)
theorem built2 {V w7 : World} {v u : Value} (h : Below (V.alloc (.cells #[v, u] 22)).heap.size (V.alloc (.cells #[v, u] 22)) w7) : Blk w7 V.heap.size 22 [v, u] := (Blk.new V 22 [v, u]).below h (by simp)
theorem built1d {V w7 : World} {v : Value} {B : Nat} (h : Below B (V.alloc (.cells #[v] 22)).drew w7) (hB : V.heap.size < B) : Blk w7 V.heap.size 22 [v] := ((Blk.new V 22 [v]).drewN 1).below h hB
theorem built2d {V w7 : World} {v u : Value} {B : Nat} (h : Below B (V.alloc (.cells #[v, u] 22)).drew w7) (hB : V.heap.size < B) : Blk w7 V.heap.size 22 [v, u] := ((Blk.new V 22 [v, u]).drewN 1).below h hB
theorem lit_block {h : Nat} {g : Nat} (hg : (Value.slice (some ⟨h, 0, none⟩) 0 0).ownBlock = some g) : h = g := by simpa [Value.ownBlock] using hg
theorem set_lt (l : List Nat) (k x : Nat) (h : ∀ y ∈ l, y < 256) (hx : x < 256) : ∀ y ∈ l.set k x, y < 256 := by
  intro y hy
  rcases List.mem_or_eq_of_mem_set hy with h1 | rfl
  · exact h y h1
  · exact hx
theorem w8_set (l : List Nat) (k x : Nat) : w8 (l.set k x) = (w8 l).set k (.int .u8 (x : Int)) := by simp [w8, List.map_set]

set_option maxRecDepth 100000 in
set_option maxHeartbeats 4000000 in
theorem millParts_walk (A : Option Addr) (m c : Nat) (ps : List (List Nat)) (W : World) (HT : Hid (Tab W)) (HC : Hid (Came W A m ps)) :
    Calls Tryd.prog 4 #[.slice A m c] W fun e w' => e = .returned (.bool true) ∧ Below W.heap.size W w' := by
  have hm := HC.out.most
  go_enter Tryd.func4, Tryd.ntmps4
  go_wp2_with fail
  refine (new_any _).mono ?_
  rintro e w1 ⟨rfl, hr1, hB1⟩
  have HR1 := Lib.hid hr1
  have HB1 := Lib.hid hB1
  clear hr1 hB1
  go_wp2_with fail
  go_loopw [13, 4, 5, 6, 7, 8] (fun i t _ _ _ _ wr => ∃ (j : Nat) (bs : List Nat), j ≤ m ∧ j ≤ 30 ∧ i = .int .i64 j ∧ Hid (Own wr W.heap.size t (ps.take j).flatten) ∧ Hid (t.ownBlock ≠ some W.heap.size) ∧ Hid (Rep wr W.heap.size (ps.take j).flatten bs) ∧ Hid (Below W.heap.size W wr) ∧ Hid ((ps.take j).flatten.length ≤ j * 2000)) (fun i _ _ _ _ _ _ => m - (intOf i).toNat)
  case atStart => exact ⟨0, _, Nat.zero_le _, Nat.zero_le _, rfl, Lib.hid (Own.nil _ _), Lib.hid (by simp [Value.ownBlock]), HR1, HB1, Lib.hid (by simp)⟩
  case round =>
    obtain ⟨j, bs, hj, hj30, rfl, HO, HOB, HR, HB, HLN⟩ := hrel
    by_cases hcont : j < m ∧ j < 30 ∧ (ps.getD j []).length ≤ 2000
    · obtain ⟨hlt, h30, hx2000⟩ := hcont
      obtain ⟨g, off, Ai, ci, hA, hg, hgW, hcell, hci, _, hfl, _, hsrc⟩ := HC.out.at_ HB.out j hlt
      obtain ⟨x, hx⟩ : ∃ x, ps.getD j [] = x := ⟨_, rfl⟩
      obtain ⟨n, hn⟩ : ∃ n, x.length = n := ⟨_, rfl⟩
      have hsw := HC.out.src HB.out j hlt hA hcell
      rw [hx] at hsw
      have HSW := Lib.hid hsw
      have hxb : ∀ y ∈ x, y < 256 := by rw [← hx]; exact (HC.out.each _ (by simp [List.getD, show j < ps.length by rw [HC.out.len]; exact hlt])).2
      rw [hx, hn] at hcell hx2000
      rw [hx] at hfl hsrc
      have HX := Lib.hid hn
      have HFL := Lib.hid hfl
      have HSR := Lib.hid hsrc
      have HXB := Lib.hid hxb
      have HA := Lib.hid hA
      have hb0 : W.heap.size ≠ 0 := by have := HT.out.lt; omega
      have hwr : W.heap.size < wr.heap.size := HR.out.blk.lt
      have n1 : (n : Int) ≤ 2000 := by omega
      have HO7 := Lib.hid (Own.lit wr)
      have HBL := Lib.hid ((Below.refl wr.heap.size wr).alloc (Nat.le_refl _) (.cells #[] 5))
      have HS7 : Hid (Src (wr.alloc (.cells #[] 5)) W.heap.size Ai ci x) := Lib.hid ((HSR.out W.heap.size (Nat.le_refl _)).below HBL.out)
      have HLE : Hid (([] : List Nat).length + x.length ≤ 140737488355328) := Lib.hid (by rw [HX.out]; simp; omega)
      have HLE2 : Hid ((ps.take j).flatten.length + x.length ≤ 140737488355328) := Lib.hid (by have := HLN.out; rw [HX.out]; omega)
      have d1 : decide (30 ≤ (j : Int)) = false := by simp; omega
      have d2 : decide (2000 < (n : Int)) = false := by simp; omega
      subst hA
      clear hx hn hfl hsrc hxb hsw
      go_upto_region 8 with (at_builtin; refine wpList_app rfl (.tmp 25) (.tmp 26) rfl wr.heap.size W.heap.size _ [] x rfl HO7.out Ai n ci rfl HX.out.symm HS7.out HLE.out HBL.out.size ?_; intro v7 w2 HO2 HG2 HL2)
      clear d1 d2
      have hL7 : ∀ g, v7.ownBlock = some g → wr.heap.size ≤ g := fun g hg => (HO2.out.base_ hg).1
      have HB2 : Hid (Below wr.heap.size wr w2) := Lib.hid (HBL.out.grown HG2.out HBL.out.size (fun g hg => (lit_block hg) ▸ Nat.le_refl _))
      rw [List.nil_append] at HO2
      have hOB7 : v7.ownBlock ≠ some W.heap.size := fun h => by have := hL7 _ h; omega
      obtain ⟨A7, c7, hv7, hc7, hs7⟩ := HO2.out.src (b := W.heap.size) hOB7 HXB.out
      subst hv7
      rw [HX.out] at HO2 hL7 hOB7 ⊢
      have HS2 := Lib.hid hs7
      have HL7 := Lib.hid hL7
      clear hs7 HG2 HL2 HO7 HBL HS7 hcell hL7 hOB7
      have h2s : wr.heap.size ≤ w2.heap.size := HB2.out.size
      go_wp2_with fail
      have HBN := Lib.hid ((Below.refl w2.heap.size w2).alloc (Nat.le_refl _) (.cells #[.slice A7 n c7] 22))
      have HPN := Lib.hid (Blk.new w2 22 [.slice A7 n c7])
      generalize w2.alloc (.cells #[.slice A7 n c7] 22) = w3 at HBN HPN ⊢
      have HP3 := Lib.hid (Parts.one (b := W.heap.size) (x := x) HPN.out HX.out.symm (by omega) hc7 (HS2.out.below HBN.out))
      have HB3 := Lib.hid (HB2.out.trans (HBN.out.mono h2s))
      have HW3 := Lib.hid (HB.out.trans (HB3.out.mono (by omega)))
      have HT3 := Lib.hid (HT.out.below HW3.out HT.out.lt)
      have HN3 : Hid ((ps.take j).flatten.length + [x].flatten.length ≤ 1000000000000) := Lib.hid (by have h1 := HLE2.out; have h2 := HLN.out; have h3 := HX.out; simp only [List.flatten_cons, List.flatten_nil, List.append_nil]; omega)
      refine (write_any W.heap.size 1 1 _ _ bs [x] w3 (Lib.hid (HR.out.below_ HB3.out hwr)) HT3 hb0 HP3 (Lib.hid rfl) (by omega) HN3).mono ?_
      rintro e w4 ⟨rfl, ⟨bs4, hr4⟩, hg4⟩
      rw [show ([x] : List (List Nat)).flatten = x by simp, ← HFL.out] at hr4
      have HR4 := Lib.hid hr4
      have HW4 := Lib.hid (HW3.out.trans (only_up hg4 (Nat.le_refl _) HW3.out.size))
      have HO4 := Lib.hid ((HO.out.below_ HB3.out (fun g hg => (HO.out.base_ hg).2)).grown hg4 HOB.out)
      have HI4 := Lib.hid ((HO2.out.below HBN.out).grown hg4 (fun h => by have := HL7.out _ h; omega))
      have HT4 := Lib.hid (HT3.out.grown hg4 hb0)
      have h34 : w3.heap.size ≤ w4.heap.size := hg4.size
      have h23 : w2.heap.size < w3.heap.size := HPN.out.lt
      have HUB : Hid (∀ g, u4.ownBlock = some g → g < wr.heap.size) := Lib.hid fun g hg => (HO.out.base_ hg).2
      have h4s : wr.heap.size ≤ w4.heap.size := by omega
      clear hr4 hg4 HN3 HP3 HPN HS2 HO HR HB HSR HB2 HB3 HBN HO2
      go_wp2_with fail
      generalize wr.heap.size = B at *
      go_loopw [34, 8] (fun i _ wq => ∃ (q : Nat) (l' : List Nat), q ≤ n ∧ i = .int .i64 q ∧ Hid (Own wq B (.slice A7 n c7) l') ∧ Hid (l'.length = n) ∧ Hid (∀ y ∈ l', y < 256) ∧ Hid (Below B w4 wq)) (fun i _ _ => n - (intOf i).toNat)
      case atStart => exact ⟨0, x, Nat.zero_le _, rfl, HI4, HX, HXB, Lib.hid (Below.refl _ _)⟩
      case round =>
        obtain ⟨q, l', hq, rfl, HI5, HX5, HXB5, HB5⟩ := hrel
        by_cases hqn : q < n
        · obtain ⟨g7, c7', hv7, hgb7, hgl7⟩ := World.ownsRow.form HI5.out (by rw [HX5.out]; omega)
          injection hv7 with e1 e2 e3
          subst e1
          have hO5 : wr.ownsRow B 5 1 (.slice (some ⟨g7, 0, none⟩) n c7) n (w8 l') := by have h := HI5.out; unfold Own at h; rw [HX5.out] at h; exact h
          obtain ⟨y, hy⟩ : ∃ y, l'.getD q 0 = y := ⟨_, rfl⟩
          have hcl : wr.cell? ⟨g7, q, none⟩ = some (.int .u8 (y : Int)) := by
            rw [hO5.cellAt q (by omega), w8_get l' q (by rw [HX5.out]; omega), hy]
          have hfr : wr.frozen? ⟨g7, q, none⟩ = false := hO5.frozenAt q
          have hyb : y < 256 := by rw [← hy]; exact getD_lt (by omega) HXB5.out q
          have hxor := u8_xor_nat y 255 hyb (by omega)
          have hxl : y ^^^ 255 < 256 := Nat.xor_lt_two_pow (n := 8) hyb (by omega)
          have HST := Lib.hid (hO5.stored q (.int .u8 ((y ^^^ 255 : Nat) : Int))).1
          rw [show ((255 : Nat) : Int) = 255 from rfl] at hxor
          have i0 : (0 : Int) ≤ (q : Int) := by omega
          have i1 : (q : Int) < (n : Int) := by omega
          clear hy hO5 e2 e3
          go_wp2
          go_roundw
          case rel => exact ⟨q + 1, l'.set q (y ^^^ 255), by omega, by go_num, Lib.hid (by have h := HST.out; rw [← w8_set] at h; unfold Own; rw [List.length_set, HX5.out]; exact h), Lib.hid (by rw [List.length_set]; exact HX5.out), Lib.hid (set_lt _ _ _ HXB5.out hxl), Lib.hid (HB5.out.setCell hgb7 _)⟩
          case measure => simp [intOf]; omega
        · have HW5 : Hid (Below W.heap.size W wr) := Lib.hid (HW4.out.trans (HB5.out.mono (by omega)))
          have HR5 := Lib.hid (HR4.out.below_ HB5.out hwr)
          have HO5 := Lib.hid (HO4.out.below_ HB5.out HUB.out)
          have HS5 := Lib.hid (HSW.out.below HW5.out)
          clear HI5 HX5 HXB5 HI4 HO4 HR4 HT4 HT3 HW3 HL7
          go_upto_region 15 with (at_builtin; refine wpList_app rfl (.tmp 44) (.tmp 45) rfl W.heap.size W.heap.size _ _ x rfl HO5.out Ai n ci rfl HX.out.symm HS5.out HLE2.out HW5.out.size ?_; intro v8 w6 HO6 HG6 HL6)
          rw [← HFL.out] at HO6
          have HOB6 : Hid (v8.ownBlock ≠ some W.heap.size) := Lib.hid (by
            rcases HL6.out with h | h
            · rw [h]; exact HOB.out
            · rw [h]; intro he; injection he with he; have := HR5.out.blk.lt; omega)
          have HR6 := Lib.hid (HR5.out.far HG6.out HOB.out)
          have HW6 : Hid (Below W.heap.size W w6) := Lib.hid (HW5.out.grown HG6.out HW5.out.size fun g' hg' => (HO5.out.base_ hg').1)
          have HT6 := Lib.hid (HT.out.below HW6.out HT.out.lt)
          have HBY : ∀ y ∈ (ps.take (j + 1)).flatten, y < 256 := fun y hy => by
            obtain ⟨p, hp, hyp⟩ := List.mem_flatten.1 hy
            exact (HC.out.each p (List.mem_of_mem_take hp)).2 y hyp
          obtain ⟨A8, c8, hv8, hc8, hs8⟩ := HO6.out.src HOB6.out HBY
          subst hv8
          have HS8 := Lib.hid hs8
          have HLN6 : Hid ((ps.take (j + 1)).flatten.length ≤ (j + 1) * 2000) := Lib.hid (by rw [HFL.out, List.length_append, HX.out]; have := HLN.out; omega)
          obtain ⟨q, hq6⟩ : ∃ q, (ps.take (j + 1)).flatten = q := ⟨_, rfl⟩
          rw [hq6] at HO6 HR6 HS8 HLN6 HOB6 ⊢
          have HQ := Lib.hid hq6
          have h6 : W.heap.size < w6.heap.size := HR6.out.blk.lt
          clear hs8 hq6 HO5 HR5 HG6 HL6 HBY HS5 HW5
          obtain ⟨L, hL⟩ : ∃ L, q.length = L := ⟨_, rfl⟩
          obtain ⟨h, hh⟩ : ∃ h, L / 2 = h := ⟨_, rfl⟩
          rw [hL] at HOB6 HO6 ⊢
          have HL := Lib.hid hL
          have HHH := Lib.hid hh
          have hLc : L ≤ c8 := by have := HS8.out.le; rw [hL] at this; exact this
          have hlo := run_slice_lo A8 L c8 h (by omega)
          have hhi := run_slice_hi A8 L c8 h (by omega) hLc
          have hne := neq_same (sha q) (sha_length q)
          have hq2 : (L : Int).tdiv 2 = (h : Int) := by rw [Int.tdiv_eq_ediv_of_nonneg (by omega)]; omega
          have HSUM : Hid (∀ w', Below w6.heap.size w6 w' → Calls Tryd.prog 15 #[.pointer (some ⟨W.heap.size, 0, none⟩)] w' fun e w'' => e = .returned (.agg (w8 (sha q)).toArray) ∧ Below w6.heap.size w6 w'' ∧ Below w'.heap.size w' w'') := Lib.hid fun w' hw => (sum_any W.heap.size q bs4 w' (Lib.hid (HR6.out.below hw)) (Lib.hid (HT6.out.below hw (by omega))) hb0 (Lib.hid (by have := HLN6.out; omega))).mono fun e w'' ⟨h1, h2⟩ => ⟨h1, hw.trans (h2.mono hw.size), h2⟩
          have HOF1 : Hid (∀ w' g', Below w6.heap.size w6 w' → Blk w' g' 22 [.slice A8 L c8] → w6.heap.size ≤ g' → Calls Tryd.prog 10 #[.slice (some ⟨g', 0, none⟩) 1 1] w' fun e w'' => e = .returned (.agg (w8 (sha q)).toArray) ∧ Below w6.heap.size w6 w'') := Lib.hid fun w' g' hw hbk hg' => by
            have h1 := of_any 1 1 W.heap.size _ [q] w' (Lib.hid (HT6.out.below hw (by omega))) (Lib.hid (Parts.one (b := W.heap.size) (x := q) hbk hL.symm (by omega) hc8 (HS8.out.below hw))) (Lib.hid rfl) (by omega) (Lib.hid (by have := HLN6.out; simp; omega))
            rw [show ([q] : List (List Nat)).flatten = q by simp] at h1
            exact h1.mono fun e w'' ⟨h1, h2⟩ => ⟨h1, hw.trans (h2.mono hw.size)⟩
          have HOF2 : Hid (∀ w' g', Below w6.heap.size w6 w' → Blk w' g' 22 [.slice A8 h c8, .slice (cutAt A8 c8 h) (L - h) (c8 - h)] → w6.heap.size ≤ g' → Calls Tryd.prog 10 #[.slice (some ⟨g', 0, none⟩) 2 2] w' fun e w'' => e = .returned (.agg (w8 (sha q)).toArray) ∧ Below w6.heap.size w6 w'') := Lib.hid fun w' g' hw hbk hg' => by
            have h1 := of_any 2 2 W.heap.size _ [q.take h, q.drop h] w' (Lib.hid (HT6.out.below hw (by omega))) (Lib.hid (Parts.two (b := W.heap.size) hbk (by rw [List.length_take]; omega) (by rw [List.length_drop]; omega) (by omega) hc8 (by omega) ((HS8.out.below hw).lo) ((HS8.out.below hw).hi (by omega)))) (Lib.hid rfl) (by omega) (Lib.hid (by have := HLN6.out; simp; omega))
            rw [show ([q.take h, q.drop h] : List (List Nat)).flatten = q by simp] at h1
            exact h1.mono fun e w'' ⟨h1, h2⟩ => ⟨h1, hw.trans (h2.mono hw.size)⟩
          clear hL hh hlo hhi
          have hhL : h ≤ L := by have := HHH.out; omega
          have b1 : (0 : Int) ≤ (h : Int) := by omega
          have b2 : (h : Int) ≤ (L : Int) := by omega
          have b3 : (L : Int) ≤ (c8 : Int) := by omega
          have b4 : (h : Int) ≤ (c8 : Int) := by omega
          have hq3 : IntKind.i64.wrap (h : Int) = (h : Int) := IntWalk.i64_in _ (by omega)
          have hq4 : (L : Int) / 2 = (h : Int) := by have := HHH.out; omega
          have hz1 := run_slice_lo A8 L c8 h (by omega)
          have hz2 := run_slice_hi A8 L c8 h (by omega) hLc
          obtain ⟨Ah, hAh⟩ : ∃ Ah, cutAt A8 c8 h = Ah := ⟨_, rfl⟩
          rw [hAh] at HOF2
          simp only [hAh] at hz2
          have hz3 := fun W => (run_sliceAt_slice (P := Tryd.prog) W 22 (.slice A8 L c8) none (some (.int .i64 (h : Int))) none (by kernel_rfl)).trans (hz1 W)
          have hz4 := fun W => (run_sliceAt_slice (P := Tryd.prog) W 22 (.slice A8 L c8) (some (.int .i64 (h : Int))) none none (by kernel_rfl)).trans (hz2 W)
          clear hAh
          go_region_held3 (fun w' => Below w6.heap.size w6 w') (first | assumption | exact (Below.refl _ _).drew | exact up_alloc (by assumption) _ | exact up_alloc (Below.refl _ _).drew _)
            (first
              | (go_at_call 15
                 ((with_reducible refine (HSUM.out _ ?_).mono ?_))
                 · first | assumption | exact up_alloc (by assumption) _ | exact up_alloc (Below.refl _ _).drew _ | exact (Below.refl _ _).drew
                 rintro e w7 ⟨rfl, hS7, hB7⟩)
              | (go_at_call 10
                 ((with_reducible refine (HOF1.out _ _ ?_ ?_ ?_).mono ?_))
                 · first | assumption | exact up_alloc (by assumption) _
                 · first | exact Blk.new _ 22 [_] | (have hb7 := built1 hB7; exact hb7) | exact built1d hB7 (by simp)
                 · first | exact hS7.size | exact Nat.le_refl _
                 rintro e w8 ⟨rfl, hS8⟩)
              | (go_at_call 10
                 ((with_reducible refine (HOF2.out _ _ ?_ ?_ ?_).mono ?_))
                 · first | assumption | exact up_alloc (by assumption) _
                 · first | exact Blk.new _ 22 [_, _] | (have hb7 := built2 hB7; exact hb7) | exact built2d hB7 (by simp)
                 · first | exact hS7.size | exact hS8.size
                 rintro e w9 ⟨rfl, hS9⟩))
          all_goals
            clear hz1 hz2 hz3 hz4 hq2 hq3 hq4 hne
            go_wp2
            go_roundw
            case rel => exact ⟨j + 1, bs4, by omega, by omega, by go_num, Lib.hid (by rw [HQ.out]; exact HO6.out.below hS9), HOB6, Lib.hid (by rw [HQ.out]; exact HR6.out.below hS9), Lib.hid (HW6.out.trans (hS9.mono (by omega))), Lib.hid (by rw [HQ.out]; exact HLN6.out)⟩
            case measure => simp [intOf]; omega
    · by_cases hlt : j < m
      · obtain ⟨g, off, Ai, ci, hA, hg, hgW, hcell, hci, _, hfl, _, hsrc⟩ := HC.out.at_ HB.out j hlt
        obtain ⟨n, hn⟩ : ∃ n, (ps.getD j []).length = n := ⟨_, rfl⟩
        rw [hn] at hcell hcont
        subst hA
        clear hn hfl hsrc
        by_cases h30 : j < 30
        · have n1 : (2000 : Int) < (n : Int) := by omega
          have j1 : (j : Int) < 30 := by omega
          have hz25 := zero25
          have heq := eql_same noSum rfl
          have heq2 := eql_same (sha []) (sha_length [])
          go_wp2_with fail
          refine (write_nil _ _).mono ?_
          rintro e w' ⟨rfl, rfl⟩
          have HB2 : Hid (Below W.heap.size W _) := Lib.hid (up_alloc (up_alloc HB.out (.cells #[.int .u8 1] 5)) (.cells #[.slice (some ⟨wr.heap.size, 0, none⟩) 1 1] 22))
          generalize (wr.alloc (.cells #[.int .u8 1] 5)).alloc (.cells #[.slice (some ⟨wr.heap.size, 0, none⟩) 1 1] 22) = w2 at HB2 ⊢
          go_wp2_with fail
          refine (awake_any _ (Lib.hid (HT.out.below HB2.out HT.out.lt))).mono ?_
          rintro e w3 ⟨rfl, hB3⟩
          have HB3 := Lib.hid (HB2.out.trans (hB3.mono HB2.out.size))
          clear hB3
          go_wp2_with fail
          refine (sum_nil _).mono ?_
          rintro e w4 ⟨rfl, hB4⟩
          have HB4 := Lib.hid (HB3.out.trans (hB4.mono HB3.out.size))
          clear hB4
          go_wp2_with fail
          refine (of_any 0 0 0 none [] w4 (Lib.hid (HT.out.below HB4.out HT.out.lt)) (Lib.hid ⟨.inl rfl⟩) (Lib.hid rfl) (by omega) (Lib.hid (by simp))).mono ?_
          rintro e w5 ⟨rfl, hB5⟩
          rw [show ([] : List (List Nat)).flatten = [] from rfl]
          have HB5 := Lib.hid (HB4.out.trans (hB5.mono HB4.out.size))
          clear hB5
          go_wp2_with fail
          have HB6 := Lib.hid (up_alloc (up_alloc HB5.out (.cells #[] 5)) (.cells #[.slice none 0 0, .slice (some ⟨w5.heap.size, 0, none⟩) 0 0] 22))
          have HPB : Hid (Blk ((w5.alloc (.cells #[] 5)).alloc (.cells #[.slice none 0 0, .slice (some ⟨w5.heap.size, 0, none⟩) 0 0] 22)) (w5.heap.size + 1) 22 [.slice none 0 0, .slice (some ⟨w5.heap.size, 0, none⟩) 0 0]) := Lib.hid (by
            have h := Blk.new (w5.alloc (.cells #[] 5)) 22 [.slice none 0 0, .slice (some ⟨w5.heap.size, 0, none⟩) 0 0]
            rw [World.size_alloc] at h
            exact h)
          generalize (w5.alloc (.cells #[] 5)).alloc (.cells #[.slice none 0 0, .slice (some ⟨w5.heap.size, 0, none⟩) 0 0] 22) = w6 at HB6 HPB ⊢
          have HPP := Lib.hid (Parts.two (b := 0) (x1 := []) (x2 := []) HPB.out rfl rfl (by omega) (by omega) (by omega) ⟨by simp, .inl rfl, by simp⟩ ⟨by simp, .inl rfl, by simp⟩)
          refine (of_any 2 2 0 _ [[], []] w6 (Lib.hid (HT.out.below HB6.out HT.out.lt)) HPP (Lib.hid rfl) (by omega) (Lib.hid (by simp))).mono ?_
          rintro e w7 ⟨rfl, hB7⟩
          rw [show ([[], []] : List (List Nat)).flatten = [] from rfl]
          have HB7 := Lib.hid (HB6.out.trans (hB7.mono HB6.out.size))
          clear hB7
          go_wp2
          go_ret
          exact ⟨rfl, HB7.out⟩
        · have j1 : (30 : Int) ≤ (j : Int) := by omega
          have hz25 := zero25
          have heq := eql_same noSum rfl
          have heq2 := eql_same (sha []) (sha_length [])
          go_wp2_with fail
          refine (write_nil _ _).mono ?_
          rintro e w' ⟨rfl, rfl⟩
          have HB2 : Hid (Below W.heap.size W _) := Lib.hid (up_alloc (up_alloc HB.out (.cells #[.int .u8 1] 5)) (.cells #[.slice (some ⟨wr.heap.size, 0, none⟩) 1 1] 22))
          generalize (wr.alloc (.cells #[.int .u8 1] 5)).alloc (.cells #[.slice (some ⟨wr.heap.size, 0, none⟩) 1 1] 22) = w2 at HB2 ⊢
          go_wp2_with fail
          refine (awake_any _ (Lib.hid (HT.out.below HB2.out HT.out.lt))).mono ?_
          rintro e w3 ⟨rfl, hB3⟩
          have HB3 := Lib.hid (HB2.out.trans (hB3.mono HB2.out.size))
          clear hB3
          go_wp2_with fail
          refine (sum_nil _).mono ?_
          rintro e w4 ⟨rfl, hB4⟩
          have HB4 := Lib.hid (HB3.out.trans (hB4.mono HB3.out.size))
          clear hB4
          go_wp2_with fail
          refine (of_any 0 0 0 none [] w4 (Lib.hid (HT.out.below HB4.out HT.out.lt)) (Lib.hid ⟨.inl rfl⟩) (Lib.hid rfl) (by omega) (Lib.hid (by simp))).mono ?_
          rintro e w5 ⟨rfl, hB5⟩
          rw [show ([] : List (List Nat)).flatten = [] from rfl]
          have HB5 := Lib.hid (HB4.out.trans (hB5.mono HB4.out.size))
          clear hB5
          go_wp2_with fail
          have HB6 := Lib.hid (up_alloc (up_alloc HB5.out (.cells #[] 5)) (.cells #[.slice none 0 0, .slice (some ⟨w5.heap.size, 0, none⟩) 0 0] 22))
          have HPB : Hid (Blk ((w5.alloc (.cells #[] 5)).alloc (.cells #[.slice none 0 0, .slice (some ⟨w5.heap.size, 0, none⟩) 0 0] 22)) (w5.heap.size + 1) 22 [.slice none 0 0, .slice (some ⟨w5.heap.size, 0, none⟩) 0 0]) := Lib.hid (by
            have h := Blk.new (w5.alloc (.cells #[] 5)) 22 [.slice none 0 0, .slice (some ⟨w5.heap.size, 0, none⟩) 0 0]
            rw [World.size_alloc] at h
            exact h)
          generalize (w5.alloc (.cells #[] 5)).alloc (.cells #[.slice none 0 0, .slice (some ⟨w5.heap.size, 0, none⟩) 0 0] 22) = w6 at HB6 HPB ⊢
          have HPP := Lib.hid (Parts.two (b := 0) (x1 := []) (x2 := []) HPB.out rfl rfl (by omega) (by omega) (by omega) ⟨by simp, .inl rfl, by simp⟩ ⟨by simp, .inl rfl, by simp⟩)
          refine (of_any 2 2 0 _ [[], []] w6 (Lib.hid (HT.out.below HB6.out HT.out.lt)) HPP (Lib.hid rfl) (by omega) (Lib.hid (by simp))).mono ?_
          rintro e w7 ⟨rfl, hB7⟩
          rw [show ([[], []] : List (List Nat)).flatten = [] from rfl]
          have HB7 := Lib.hid (HB6.out.trans (hB7.mono HB6.out.size))
          clear hB7
          go_wp2
          go_ret
          exact ⟨rfl, HB7.out⟩
      · skip
        have hz25 := zero25
        have heq := eql_same noSum rfl
        have heq2 := eql_same (sha []) (sha_length [])
        go_wp2_with fail
        refine (write_nil _ _).mono ?_
        rintro e w' ⟨rfl, rfl⟩
        have HB2 : Hid (Below W.heap.size W _) := Lib.hid (up_alloc (up_alloc HB.out (.cells #[.int .u8 1] 5)) (.cells #[.slice (some ⟨wr.heap.size, 0, none⟩) 1 1] 22))
        generalize (wr.alloc (.cells #[.int .u8 1] 5)).alloc (.cells #[.slice (some ⟨wr.heap.size, 0, none⟩) 1 1] 22) = w2 at HB2 ⊢
        go_wp2_with fail
        refine (awake_any _ (Lib.hid (HT.out.below HB2.out HT.out.lt))).mono ?_
        rintro e w3 ⟨rfl, hB3⟩
        have HB3 := Lib.hid (HB2.out.trans (hB3.mono HB2.out.size))
        clear hB3
        go_wp2_with fail
        refine (sum_nil _).mono ?_
        rintro e w4 ⟨rfl, hB4⟩
        have HB4 := Lib.hid (HB3.out.trans (hB4.mono HB3.out.size))
        clear hB4
        go_wp2_with fail
        refine (of_any 0 0 0 none [] w4 (Lib.hid (HT.out.below HB4.out HT.out.lt)) (Lib.hid ⟨.inl rfl⟩) (Lib.hid rfl) (by omega) (Lib.hid (by simp))).mono ?_
        rintro e w5 ⟨rfl, hB5⟩
        rw [show ([] : List (List Nat)).flatten = [] from rfl]
        have HB5 := Lib.hid (HB4.out.trans (hB5.mono HB4.out.size))
        clear hB5
        go_wp2_with fail
        have HB6 := Lib.hid (up_alloc (up_alloc HB5.out (.cells #[] 5)) (.cells #[.slice none 0 0, .slice (some ⟨w5.heap.size, 0, none⟩) 0 0] 22))
        have HPB : Hid (Blk ((w5.alloc (.cells #[] 5)).alloc (.cells #[.slice none 0 0, .slice (some ⟨w5.heap.size, 0, none⟩) 0 0] 22)) (w5.heap.size + 1) 22 [.slice none 0 0, .slice (some ⟨w5.heap.size, 0, none⟩) 0 0]) := Lib.hid (by
          have h := Blk.new (w5.alloc (.cells #[] 5)) 22 [.slice none 0 0, .slice (some ⟨w5.heap.size, 0, none⟩) 0 0]
          rw [World.size_alloc] at h
          exact h)
        generalize (w5.alloc (.cells #[] 5)).alloc (.cells #[.slice none 0 0, .slice (some ⟨w5.heap.size, 0, none⟩) 0 0] 22) = w6 at HB6 HPB ⊢
        have HPP := Lib.hid (Parts.two (b := 0) (x1 := []) (x2 := []) HPB.out rfl rfl (by omega) (by omega) (by omega) ⟨by simp, .inl rfl, by simp⟩ ⟨by simp, .inl rfl, by simp⟩)
        refine (of_any 2 2 0 _ [[], []] w6 (Lib.hid (HT.out.below HB6.out HT.out.lt)) HPP (Lib.hid rfl) (by omega) (Lib.hid (by simp))).mono ?_
        rintro e w7 ⟨rfl, hB7⟩
        rw [show ([[], []] : List (List Nat)).flatten = [] from rfl]
        have HB7 := Lib.hid (HB6.out.trans (hB7.mono HB6.out.size))
        clear hB7
        go_wp2
        go_ret
        exact ⟨rfl, HB7.out⟩
end Go.Proofs.YtcpjfdaacnkcnaaDoor
