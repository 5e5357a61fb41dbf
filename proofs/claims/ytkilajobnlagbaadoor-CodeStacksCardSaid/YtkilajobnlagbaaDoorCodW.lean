/-
  law11.CodeStacks 8: its walk.
-/
import Derived.Test.YtkilajobnlagbaaDoorCodT
import Derived.ArgAppend
namespace Go.Proofs.YtkilajobnlagbaaDoor
open Go.RowKit
set_option linter.unusedVariables false

/-- Bytes to which one may be appended: a row of one's own, or a row read up to its end. -/
def QAt (w : World) (B : Nat) (v : Value) (l : List Int) : Prop :=
  Oct.Own w B v l ∨ ∃ g, v = .slice (some ⟨g, 0, none⟩) l.length l.length ∧ g < w.heap.size ∧ ∀ i, i < l.length → w.cell? ⟨g, i, none⟩ = some (.int .u8 (l.getD i 0))
theorem QAt.below {w w' : World} {B : Nat} {v : Value} {l : List Int} (h : QAt w B v l) (hB : Below w.heap.size w w') : QAt w' B v l := by
  rcases h with h | ⟨g, hv, hg, hc⟩
  · exact .inl (h.below hB)
  · exact .inr ⟨g, hv, Nat.lt_of_lt_of_le hg hB.size, fun i hi => (hB.cell (p := ⟨g, i, none⟩) hg).trans (hc i hi)⟩
theorem QAt.app {w : World} {B : Nat} {v : Value} {l : List Int} (h : QAt w B v l) (x : Int) (hb : B ≤ w.heap.size) (hl : l.length ≤ 1000) :
    ∃ v' W', (∀ ty, (Builtin.append_ #[22, 22] ty #[v, .slice (some ⟨w.heap.size, 0, none⟩) 1 1]).run Tryd.prog (w.alloc (.cells #[.int .u8 x] 5)) = .ok v' W') ∧ Oct.Own W' B v' (l ++ [x]) ∧ ∀ a : World, Below B a w → Below B a W' := by
  have hS : Oct.Src (w.alloc (.cells #[.int .u8 x] 5)) (some ⟨w.heap.size, 0, none⟩) 1 [x] := Oct.Src.lit w _ [x] rfl
  have hZ : Below w.heap.size w (w.alloc (.cells #[.int .u8 x] 5)) := up1 w _
  rcases h with h | ⟨g, rfl, hg, hc⟩
  · obtain ⟨v', W', hr, h2, h3, h4⟩ := Oct.run_app (w.alloc (.cells #[.int .u8 x] 5)) B 22 22 0 Tryd.underlying22 Tryd.underlying22 v l [x] (h.below hZ) (some ⟨w.heap.size, 0, none⟩) 1 hS (by simp; omega) (Nat.le_trans hb hZ.size)
    refine ⟨v', W', fun ty => hr, h2, fun a ha => ?_⟩
    exact (ha.trans (hZ.mono hb)).grown h3 (Nat.le_trans hb hZ.size) (fun j hj => (World.ownsRow.lt (h.below hZ) j hj).1) |> fun q => q
  · obtain ⟨i0, hi, hz0, hz1, hz2⟩ := info_parts Oct.byte_info
    obtain ⟨v', W', hr, h2, h3⟩ := run_append_arg_grows (P := Tryd.prog) (w.alloc (.cells #[.int .u8 x] 5)) 22 0 5 i0 _ 1 1 Tryd.underlying22 hi hz0 hz1 hz2 rfl (by decide) ⟨g, 0, none⟩ l.length l.length (Oct.byt l) (by simp [Oct.byt])
      (fun j u hu => by
        have hj : j < l.length := by
          have := (List.getElem?_eq_some_iff.1 hu).1
          simpa [Oct.byt] using this
        rw [Go.WideShapes.add_plain, Nat.zero_add, World.cell?_alloc_lt _ _ _ hg, hc j hj, ← hu]
        simp [Oct.byt, List.getD, hj]) ⟨w.heap.size, 0, none⟩ 1 1 (Oct.byt [x]) rfl
      (fun j u hu => by
        match j, hu with
        | 0, hu =>
          rw [← hu]
          exact World.cell?_alloc_new _ _ _ _
        | j + 1, hu => simp [Oct.byt] at hu) (by omega) (by unfold maxLen; omega) (by omega)
    have hB : Below (w.alloc (.cells #[.int .u8 x] 5)).heap.size (w.alloc (.cells #[.int .u8 x] 5)) W' := ⟨h3.os, h3.tape, h3.output, h3.size, fun k hk => h3.block k hk (by intro e; cases e)⟩
    refine ⟨v', W', fun ty => hr, ?_, fun a ha => (ha.trans (hZ.mono hb)).trans (hB.mono (Nat.le_trans hb hZ.size))⟩
    have h4 : W'.ownsRow B 5 1 v' (l.length + 1) (Oct.byt l ++ Oct.byt [x]) := by
      refine ⟨h2.1, ?_⟩
      rcases h2.2 with q | ⟨g', c', cur, q1, q2, q3⟩
      · exact .inl q
      · exact .inr ⟨g', c', cur, q1, Nat.le_trans (Nat.le_trans hb hZ.size) q2, q3⟩
    unfold Oct.Own
    rw [List.length_append, ← Oct.byt_append]
    exact h4
/-- A row of one's own that holds something lies somewhere. -/
theorem own_at {w : World} {B : Nat} {v : Value} {l : List Int} (h : Oct.Own w B v l) (hv : v ≠ .slice none 0 0) : ∃ g c, v = .slice (some ⟨g, 0, none⟩) l.length c ∧ l.length ≤ c ∧ c ≤ 9223372036854775807 ∧ g < w.heap.size ∧ ∀ i, i < l.length → w.cell? ⟨g, i, none⟩ = some (.int .u8 (l.getD i 0)) := by
  rcases h.2 with ⟨h1, _⟩ | ⟨g, c, cur, rfl, hb, hg, h1, h2, h3, h4⟩
  · exact absurd h1 hv
  · refine ⟨g, c, rfl, h1, by unfold maxLen at h2; omega, ?_, fun i hi => ?_⟩
    · rcases Nat.lt_or_ge g w.heap.size with hlt | hge
      · exact hlt
      · rw [Array.getElem?_eq_none hge] at hg; cases hg
    · rw [cell_of_row w g i cur 5 (0, 0) hg]
      have : (cur.toList.take (l.length * 1))[i]? = (Oct.byt l)[i]? := by rw [h4]
      rw [List.getElem?_take, if_pos (by omega)] at this
      rw [← Array.getElem?_toList, this]
      simp [Oct.byt, List.getD, hi]
theorem own_ne_nil {w : World} {B : Nat} {v : Value} {l : List Int} (h : Oct.Own w B v l) (hl : l ≠ []) : v ≠ .slice none 0 0 := by
  intro e
  rcases h.2 with ⟨_, h0⟩ | ⟨g, c, cur, h1, _⟩
  · exact hl (List.eq_nil_of_length_eq_zero h0)
  · rw [e] at h1; cases h1
theorem cutAt (g K c : Nat) (hK : K ≤ c) (W : World) : (Instr.slice 22 (.slice (some ⟨g, 0, none⟩) K c) none (some (.int .i64 (K : Int))) (some (.int .i64 (K : Int)))).run Tryd.prog W = .ok (.slice (some ⟨g, 0, none⟩) K K) W := by
  obtain ⟨i0, hi0, hz0, hz1, hz2⟩ := info_parts Oct.byte_info
  rw [run_slice_hm (P := Tryd.prog) W 22 _ K c (by kernel_rfl) .i64 .i64 (K : Int) (K : Int) (by omega) (by omega) (by omega), show Tryd.prog.elem 22 = 5 by kernel_rfl]
  by_cases e : K = 0 <;> simp [sizeOf, typeInfo, hi0, hz1, sliced, e, Go.WideShapes.add_plain]
theorem rep_snoc (k : Nat) (x : Int) : List.replicate k x ++ [x] = List.replicate (k + 1) x := by rw [List.replicate_succ']
theorem rep_bytes (l : List Int) (h : ∀ x ∈ l, x = 0 ∨ x = 15 ∨ x = 17) : ∀ b ∈ l, 0 ≤ b ∧ b < 256 := fun b hb => by rcases h b hb with rfl | rfl | rfl <;> decide
theorem tmod_40 (n K : Nat) (h : n % 40 = K) : Int.tmod (n : Int) 40 = (K : Int) := by
  rw [Int.tmod_eq_emod_of_nonneg (by omega)]
  omega
/-- A run in a world that holds nothing but a height. -/
theorem bare_run (A : Option Addr) (n c : Nat) (l : List Int) (ht : Int) (x : Int) (y : Nat) (z : Int) (he : runV l [] [] ht 500 = (x, y, z)) (hh : Word ht) (w : World) (HP : Hid (Pg w A n c l)) (HT : Hid (KTab w)) :
    Calls Tryd.prog 11 #[.slice A n c, .agg #[.slice none 0 0, .slice none 0 0, .int .u64 ht], .int .i64 500] w fun e w' => e = .returned (.tuple #[.int .u64 x, .int .i64 (y : Int), .int .i64 z]) ∧ Below w.heap.size w w' := by
  have := run_any A n c l none 0 0 none 0 0 ht [] [] 500 w HP HT (frow_nil w) (brow_nil w) hh (by decide) (by decide)
  rw [he] at this
  exact this

set_option maxRecDepth 100000 in
set_option maxHeartbeats 4000000 in
theorem codeStacks_walk (n : Nat) (W : World) (HM : Hid (MCell W)) (HT : Hid (KTab W)) (HPT : Hid (PTab W)) (hn : n < 256) :
    Calls Tryd.prog 8 #[.int .u8 (n : Int)] W fun e W1 => e = .returned (.bool true) ∧ Below W.heap.size W W1 := by
  obtain ⟨K, hK⟩ : ∃ K, n % 40 = K := ⟨_, rfl⟩
  have q0 := tmod_40 n K hK
  have hK40 : K < 40 := by omega
  have n0 : (0 : Int) ≤ (n : Int) := Int.natCast_nonneg _
  have n1 : (n : Int) < 256 := by omega
  have K0 : (0 : Int) ≤ (K : Int) := Int.natCast_nonneg _
  have K1 : (K : Int) < 40 := by omega
  have HKK : Hid (K < 40) := Lib.hid hK40
  have b6 : ∀ w, (Instr.build 33 #[(2, .int .u64 6)]).run Tryd.prog w = .ok (.agg #[.slice none 0 0, .slice none 0 0, .int .u64 6]) w := fun w => by kernel_rfl
  have b0 : ∀ w, (Instr.build 33 #[]).run Tryd.prog w = .ok (.agg #[.slice none 0 0, .slice none 0 0, .int .u64 0]) w := fun w => by kernel_rfl
  have HB6 := Lib.hid b6
  have HB0 := Lib.hid b0
  clear hK hK40 hn b6 b0
  go_enter Tryd.func8, Tryd.ntmps8
  go_upto_region 2 with fail
  have B1 : Hid (Below W.heap.size W (W.alloc (.cells #[] 5))) := Lib.hid (up1 W _)
  have O1 : Hid (Oct.Own (W.alloc (.cells #[] 5)) W.heap.size (.slice (some ⟨W.heap.size, 0, none⟩) 0 0) []) := Lib.hid (World.ownsRow_lit W #[] 0 (Nat.le_refl _) (by unfold maxLen; omega) rfl)
  generalize W.alloc (.cells #[] 5) = Y1 at B1 O1 ⊢
  have N1 : Hid ((.slice (some ⟨W.heap.size, 0, none⟩) 0 0 : Value) ≠ .slice none 0 0) := Lib.hid (by intro h; cases h)
  generalize (Value.slice (some ⟨W.heap.size, 0, none⟩) 0 0) = v1 at O1 N1 ⊢
  go_wp2_with fail
  go_loopw [3, 16] (fun v t wr => ∃ k : Nat, t = .int .i64 k ∧ k ≤ K ∧ Hid (Oct.Own wr W.heap.size v (List.replicate k 17)) ∧ Hid (v ≠ .slice none 0 0) ∧ Hid (Below W.heap.size W wr)) (fun _ t _ => K - (intOf t).toNat)
  case atStart => exact ⟨0, rfl, Nat.zero_le _, O1, N1, B1⟩
  case round =>
    obtain ⟨k, rfl, hk, HO, HN, HB⟩ := hrel
    have k0 : (0 : Int) ≤ (k : Int) := Int.natCast_nonneg _
    have k2 : (k : Int) < 100 := by omega
    by_cases hlt : k < K
    · have kn : (k : Int) < (K : Int) := by omega
      obtain ⟨v', W', hr, hO', hB'⟩ := QAt.app (.inl HO.out) 17 HB.out.size (by rw [List.length_replicate]; omega)
      rw [rep_snoc] at hO'
      have HO2 := Lib.hid hO'
      have HB2 := Lib.hid (hB' W HB.out)
      have HN2 := Lib.hid (own_ne_nil hO' (by simp [List.replicate_succ]))
      clear hO' hB' HO HB HN
      go_wp2_with (at_builtin; refine wpList_append_v rfl (.tmp 18) (.tmp 19) 22 22 rfl v' W' (hr _) ?_)
      exact ⟨⟨k + 1, rfl, by omega, HO2, HN2, HB2⟩, by show K - (k + 1) < K - k; omega⟩
    · have kn : ¬ ((k : Int) < (K : Int)) := by omega
      have hkK : k = K := by omega
      subst hkK
      obtain ⟨g, c, rfl, hgc, hcm, hg, hcells⟩ := own_at HO.out HN.out
      rw [List.length_replicate] at hgc hcells HO ⊢
      have HCUT := Lib.hid (fun w => cutAt g k c hgc w)
      have hQ : QAt wr W.heap.size (.slice (some ⟨g, 0, none⟩) k k) (List.replicate k 17) := .inr ⟨g, by rw [List.length_replicate], hg, by rw [List.length_replicate]; exact hcells⟩
      have hQ0 : QAt wr wr.heap.size (.slice (some ⟨g, 0, none⟩) k k) (List.replicate k 17) := .inr ⟨g, by rw [List.length_replicate], hg, by rw [List.length_replicate]; exact hcells⟩
      obtain ⟨v', W', hr, hO', hB'⟩ := QAt.app hQ0 0 (Nat.le_refl _) (by rw [List.length_replicate]; have := HKK.out; omega)
      obtain ⟨A, c', rfl, hP⟩ := own_pg hO' (rep_bytes _ (by
        intro x hx
        rcases List.mem_append.1 hx with hx | hx
        · exact .inr (.inr (List.eq_of_mem_replicate hx))
        · simp at hx; exact .inl hx))
      have hW' := hB' wr (Below.refl _ _)
      have B2 : Hid (Below W.heap.size W W') := Lib.hid (HB.out.trans (hW'.mono HB.out.size))
      have P2 := Lib.hid hP
      have Q2 : Hid (QAt W' W.heap.size (.slice (some ⟨g, 0, none⟩) k k) (List.replicate k 17)) := Lib.hid (hQ.below hW')
      have HR := Lib.hid hr
      have HV := runV_nows k HKK.out
      clear hgc hcells hQ hQ0 hO' hB' hP HO HB HN hlt hk hg hcm hW' hr
      have hcut := HCUT.out
      have hb6 := HB6.out
      obtain ⟨len, hlen⟩ : ∃ x, (List.replicate k (17 : Int) ++ [0]).length = x := ⟨_, rfl⟩
      rw [hlen] at P2 HR
      clear hlen
      by_cases hk0 : k = 0
      · rw [if_pos hk0] at HV
        have HE := Lib.hid HV
        have HDK : Hid ((k : Int) = 0) := Lib.hid (by omega)
        clear HV hk0
        have hr := HR.out
        go_wp2_with (at_builtin; refine wpList_append_v rfl (.tmp 29) (.tmp 30) 22 22 rfl _ W' (hr _) ?_)
        clear hr HR
        refine (bare_run A len c' _ 6 _ _ _ HE.out ⟨by decide, by decide⟩ W' P2 (Lib.hid (HT.out.keep B2.out))).mono ?_
        rintro e Y2 ⟨rfl, hB⟩
        have B3 := Lib.hid (B2.out.trans (hB.mono B2.out.size))
        clear hB B2 P2 Q2
        have dk := HDK.out
        go_wp2_with fail
        refine (awake_any Y2 (Lib.hid (HM.out.below B3.out)) (Lib.hid (HT.out.keep B3.out)) (Lib.hid (PTab.below HPT.out B3.out))).mono ?_
        rintro e Y3 ⟨rfl, hB⟩
        have B4 := Lib.hid (B3.out.trans (hB.mono B3.out.size))
        clear hB B3
        go_wp2
        go_ret
        exact ⟨rfl, B4.out⟩
      · rw [if_neg hk0] at HV
        have dk : ¬ ((k : Int) = 0) := by omega
        by_cases hk32 : 32 < k
        · rw [if_pos hk32] at HV
          have HE := Lib.hid HV
          have dk2 : (32 : Int) < (k : Int) := by omega
          clear HV
          have hr := HR.out
          go_wp2_with (at_builtin; refine wpList_append_v rfl (.tmp 29) (.tmp 30) 22 22 rfl _ W' (hr _) ?_)
          clear hr HR
          refine (bare_run A len c' _ 6 _ _ _ HE.out ⟨by decide, by decide⟩ W' P2 (Lib.hid (HT.out.keep B2.out))).mono ?_
          rintro e Y2 ⟨rfl, hB⟩
          have B3 := Lib.hid (B2.out.trans (hB.mono B2.out.size))
          clear hB B2 P2 Q2
          go_wp2_with fail
          refine (awake_any Y2 (Lib.hid (HM.out.below B3.out)) (Lib.hid (HT.out.keep B3.out)) (Lib.hid (PTab.below HPT.out B3.out))).mono ?_
          rintro e Y3 ⟨rfl, hB⟩
          have B4 := Lib.hid (B3.out.trans (hB.mono B3.out.size))
          clear hB B3
          go_wp2
          go_ret
          exact ⟨rfl, B4.out⟩
        · rw [if_neg hk32] at HV
          have HE := Lib.hid HV
          have dk2 : ¬ ((32 : Int) < (k : Int)) := by omega
          have HD := Lib.hid (runV_drops k HKK.out (by omega) (by omega))
          have H32 : Hid (k ≤ 32) := Lib.hid (by omega)
          clear HV
          have hr := HR.out
          go_wp2_with (at_builtin; refine wpList_append_v rfl (.tmp 29) (.tmp 30) 22 22 rfl _ W' (hr _) ?_)
          clear hr HR
          refine (bare_run A len c' _ 6 _ _ _ HE.out ⟨by decide, by decide⟩ W' P2 (Lib.hid (HT.out.keep B2.out))).mono ?_
          rintro e Y2 ⟨rfl, hB⟩
          have B3 := Lib.hid (B2.out.trans (hB.mono B2.out.size))
          have Q3 := Lib.hid (Q2.out.below hB)
          clear hB B2 P2 Q2 hk0 hk32
          go_wp2_with fail
          have e0 : ((k : Int) == 0) = false := by simpa using dk
          have e1 : decide ((32 : Int) < (k : Int)) = false := by simpa using dk2
          simp only [e0, e1]
          clear dk dk2 e0 e1
          go_loopw [8, 66] (fun v t wr => ∃ j : Nat, t = .int .i64 j ∧ j ≤ k ∧ Hid (QAt wr W.heap.size v (List.replicate k 17 ++ List.replicate j 15)) ∧ Hid (Below W.heap.size W wr)) (fun _ t _ => k - (intOf t).toNat)
          case atStart => exact ⟨0, rfl, Nat.zero_le _, Lib.hid (by simpa using Q3.out), B3⟩
          case round =>
            obtain ⟨j, rfl, hj, HQj, HBj⟩ := hrel
            have j0 : (0 : Int) ≤ (j : Int) := Int.natCast_nonneg _
            have j2 : (j : Int) < 100 := by have := H32.out; omega
            by_cases hlt : j < k
            · have jn : (j : Int) < (k : Int) := by omega
              obtain ⟨u, W2, hr, hO', hB'⟩ := QAt.app HQj.out 15 HBj.out.size (by rw [List.length_append, List.length_replicate, List.length_replicate]; have := H32.out; omega)
              rw [List.append_assoc, rep_snoc] at hO'
              have HO2 := Lib.hid hO'
              have HB2 := Lib.hid (hB' W HBj.out)
              clear hO' hB' HQj HBj
              go_wp2_with (at_builtin; refine wpList_append_v rfl (.tmp 68) (.tmp 69) 22 22 rfl u W2 (hr _) ?_)
              exact ⟨⟨j + 1, rfl, by omega, Lib.hid (.inl HO2.out), HB2⟩, by show k - (j + 1) < k - j; omega⟩
            · have jn : ¬ ((j : Int) < (k : Int)) := by omega
              have hjk : j = k := by omega
              subst hjk
              obtain ⟨u, W2, hr, hO', hB'⟩ := QAt.app HQj.out 15 HBj.out.size (by rw [List.length_append, List.length_replicate, List.length_replicate]; have := H32.out; omega)
              obtain ⟨A2, c2, rfl, hP⟩ := own_pg hO' (rep_bytes _ (by
                intro x hx
                rcases List.mem_append.1 hx with hx | hx
                · rcases List.mem_append.1 hx with hx | hx
                  · exact .inr (.inr (List.eq_of_mem_replicate hx))
                  · exact .inr (.inl (List.eq_of_mem_replicate hx))
                · simp at hx; exact .inr (.inl hx)))
              have P4 := Lib.hid hP
              have B4 := Lib.hid (hB' W HBj.out)
              obtain ⟨x, y, z, hxyz⟩ : ∃ x y z, runV (List.replicate j 17 ++ List.replicate j 15 ++ [15]) [] [] 0 500 = (x, y, z) := ⟨_, _, _, rfl⟩
              have hz := HD.out
              rw [hxyz] at hz
              have hz' : z = 12 := hz
              subst hz'
              have HX := Lib.hid hxyz
              obtain ⟨len2, hlen2⟩ : ∃ x, (List.replicate j (17 : Int) ++ List.replicate j 15 ++ [15]).length = x := ⟨_, rfl⟩
              rw [hlen2] at P4 hr
              have hb0 := HB0.out
              clear hlen2 hxyz hz hO' hB' hP HQj HBj hlt hj
              go_wp2_with (at_builtin; refine wpList_append_v rfl (.tmp 73) (.tmp 74) 22 22 rfl _ W2 (hr _) ?_)
              clear hr
              refine (bare_run A2 len2 c2 _ 0 _ _ _ HX.out ⟨by decide, by decide⟩ W2 P4 (Lib.hid (HT.out.keep B4.out))).mono ?_
              rintro e Y5 ⟨rfl, hB⟩
              have B5 := Lib.hid (B4.out.trans (hB.mono B4.out.size))
              clear hB B4 P4
              go_wp2_with fail
              refine (awake_any Y5 (Lib.hid (HM.out.below B5.out)) (Lib.hid (HT.out.keep B5.out)) (Lib.hid (PTab.below HPT.out B5.out))).mono ?_
              rintro e Y6 ⟨rfl, hB⟩
              have B6 := Lib.hid (B5.out.trans (hB.mono B5.out.size))
              clear hB B5
              go_wp2
              go_ret
              exact ⟨rfl, B6.out⟩
end Go.Proofs.YtkilajobnlagbaaDoor
