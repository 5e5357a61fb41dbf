/-
  The document's ring: Power (function 47), Rows (44): all sums of a ring, in rows of the call's own; nothing that was there is written.
-/
import Derived.Test.YtkonokjhpddbfaaDoorRngL
import Derived.Test.YtkonokjhpddbfaaDoorRngS
namespace Go.Proofs.YtkonokjhpddbfaaDoor
open Go.RowKit
set_option linter.unusedVariables false

set_option maxRecDepth 100000 in
theorem power_any (n : Nat) (w : World) (hn : n ≤ 8) : Calls Tryd.prog 47 #[.int .i64 (n : Int)] w fun e w' => e = .returned (.int .i64 ((pw n : Nat) : Int)) ∧ Below w.heap.size w w' := by
  have n1 : (n : Int) ≤ 8 := by omega
  go_enter Tryd.func47, Tryd.ntmps47
  go_wp2
  go_loopw [4, 3] (fun i p wr => ∃ (k y : Nat), k ≤ n ∧ i = .int .i64 k ∧ p = .int .i64 (y : Int) ∧ Hid (y = pw k) ∧ Hid (Below w.heap.size w wr)) (fun i _ _ => n - (intOf i).toNat)
  case atStart => exact ⟨0, 1, Nat.zero_le _, rfl, rfl, Lib.hid rfl, Lib.hid (below_drewN (Below.refl _ _) 0)⟩
  case round =>
    obtain ⟨k, y, hk, rfl, rfl, HY, HB⟩ := hrel
    by_cases hlt : k < n
    · have k1 : (k : Int) < (n : Int) := by omega
      have y1 : (y : Int) ≤ 256 := by have := pw_le k (by omega); have := HY.out; omega
      go_wp2
      go_roundw
      case rel => exact ⟨k + 1, 2 * y, by omega, by go_num, by go_num, Lib.hid (by rw [HY.out, pw_succ]), HB⟩
      case measure => simp [intOf]; omega
    · obtain rfl : k = n := by omega
      go_wp2
      go_ret
      exact ⟨by rw [← HY.out]; rfl, HB.out⟩

theorem info22f : (Tryd.prog.info? 22).map (fun i => (i.zero, i.size, i.bytes)) = some (some (.slice none 0 0), 1, 24) := by kernel_rfl
/-- How many elements a slice has. -/
def pwLen : Value → Nat
  | .slice _ n _ => n
  | _ => 0
theorem own_keepB {w w' : World} {base n size : Nat} {t : TypeId} {v : Value} {xs : List Value} (h : w.ownsRow base t size v n xs) (hB : Below w.heap.size w w') : w'.ownsRow base t size v n xs :=
  h.kept (row := none) ⟨hB.os, hB.tape, hB.output, hB.size, fun i hi _ => hB.block i hi⟩ (by cases v.ownBlock <;> simp)
theorem own_mono {w : World} {base b n size : Nat} {t : TypeId} {v : Value} {xs : List Value} (h : w.ownsRow base t size v n xs) (hb : b ≤ base) : w.ownsRow b t size v n xs := by
  refine ⟨h.1, ?_⟩
  rcases h.2 with h0 | ⟨g, cap, cur, h1, h2, h3⟩
  · exact .inl h0
  · exact .inr ⟨g, cap, cur, h1, Nat.le_trans hb h2, h3⟩
/-- The document's rows so far. -/
def OutAt (w : World) (base : Nat) (v : Value) (seed : List Nat) (tall k : Nat) : Prop :=
  ∃ ws : List Value, w.ownsRow base 22 1 v k ws ∧ ∀ i, i < k → ∃ u, ws[i]? = some u ∧ w.ownsRow base 29 32 u (pw (tall - i)) (w8 (rows (levN seed i) (pw (tall - i)))) ∧ u.ownBlock ≠ v.ownBlock
theorem OutAt.below {w w' : World} {base : Nat} {v : Value} {seed : List Nat} {tall k : Nat} (h : OutAt w base v seed tall k) (hB : Below w.heap.size w w') : OutAt w' base v seed tall k := by
  obtain ⟨ws, ho, hc⟩ := h
  exact ⟨ws, own_keepB ho hB, fun i hi => by obtain ⟨u, h1, h2, h3⟩ := hc i hi; exact ⟨u, h1, own_keepB h2 hB, h3⟩⟩
theorem OutAt.mono {w : World} {base b : Nat} {v : Value} {seed : List Nat} {tall k : Nat} (h : OutAt w base v seed tall k) (hb : b ≤ base) : OutAt w b v seed tall k := by
  obtain ⟨ws, ho, hc⟩ := h
  exact ⟨ws, own_mono ho hb, fun i hi => by obtain ⟨u, h1, h2, h3⟩ := hc i hi; exact ⟨u, h1, own_mono h2 hb, h3⟩⟩
theorem OutAt.lt {w : World} {base : Nat} {v : Value} {seed : List Nat} {tall k : Nat} (h : OutAt w base v seed tall k) : ∀ q, v.ownBlock = some q → base ≤ q ∧ q < w.heap.size := by
  obtain ⟨ws, ho, hc⟩ := h
  exact fun q hq => ho.lt q hq
theorem own_far {w w' : World} {base n size : Nat} {t : TypeId} {v : Value} {xs : List Value} {row : Option Nat} (h : w.ownsRow base t size v n xs) (hg : w.grownBy w' row) (hn : v.ownBlock ≠ row) : w'.ownsRow base t size v n xs :=
  h.kept hg (by rcases hv : v.ownBlock with _ | g
                · exact .inl rfl
                · exact .inr (fun he => hn (by rw [hv, he])))
theorem OutAt.push {w : World} {base : Nat} {v u : Value} {seed : List Nat} {tall k : Nat} (h : OutAt w base v seed tall k) (hk : k < 20) (hbase : base ≤ w.heap.size) (hone : u.oneCell' = true)
    (hu : w.ownsRow base 29 32 u (pw (tall - k)) (w8 (rows (levN seed k) (pw (tall - k))))) (hn : u.ownBlock ≠ v.ownBlock) :
    ∃ v' W, (∀ ty, (Builtin.append_ #[87, 87] ty #[v, .slice (some ⟨w.heap.size, 0, none⟩) 1 1]).run Tryd.prog (w.alloc (.cells #[u] 22)) = .ok v' W) ∧ OutAt W base v' seed tall (k + 1) ∧ W.ownsRow base 29 32 u (pw (tall - k)) (w8 (rows (levN seed k) (pw (tall - k)))) ∧ (w.alloc (.cells #[u] 22)).grownBy W v.ownBlock := by
  obtain ⟨j0, hj, hy0, hy1, hy2⟩ := info_parts info22f
  obtain ⟨ws, ho, hc⟩ := h
  have hB : Below w.heap.size w (w.alloc (.cells #[u] 22)) := (Below.refl _ _).alloc (Nat.le_refl _) _
  have hl := Blk.new w 22 [u]
  obtain ⟨v', W, hrun, hown, hgrow, _, hblk⟩ := run_append_own_at (P := Tryd.prog) (w.alloc (.cells #[u] 22)) base 87 0 22 j0 (.slice none 0 0) 1 24 Tryd.underlying87 hj hy0 hy1 hy2 rfl (by decide) v k ws (own_keepB ho hB) ⟨w.heap.size, 0, none⟩ 1 1 [u] rfl
    (fun j x hx => by rw [Go.WideShapes.add_plain, Nat.zero_add, hl.cell]; exact hx) (fun x hx => by simp only [List.mem_cons, List.not_mem_nil, or_false] at hx; rw [hx]; exact hone) (by unfold maxLen; omega) (by omega) (by simp; omega)
  have hws : ws.length = k := by have := ho.1; omega
  have keep : ∀ (x : Value) (m : Nat) (xs : List Value), w.ownsRow base 29 32 x m xs → x.ownBlock ≠ v.ownBlock → W.ownsRow base 29 32 x m xs ∧ x.ownBlock ≠ v'.ownBlock := by
    intro x m xs hx hne
    refine ⟨own_far (own_keepB hx hB) hgrow hne, ?_⟩
    rcases hblk with e | e
    · rw [e]; exact hne
    · rw [e]
      intro he
      have := ((own_keepB hx hB).lt _ he).2
      omega
  refine ⟨v', W, fun _ => hrun, ⟨ws ++ [u], hown, fun i hi => ?_⟩, (keep _ _ _ hu hn).1, hgrow⟩
  by_cases hik : i < k
  · obtain ⟨x, h1, h2, h3⟩ := hc i hik
    refine ⟨x, ?_, keep _ _ _ h2 h3⟩
    rw [List.getElem?_append_left (by omega)]
    exact h1
  · obtain rfl : i = k := by omega
    refine ⟨u, ?_, keep _ _ _ hu hn⟩
    rw [List.getElem?_append_right (by omega), hws, Nat.sub_self]
    rfl
theorem own_row {w : World} {base n : Nat} {v : Value} {f : Nat → List Nat} (hf : ∀ a, (f a).length = 32) (hn : 0 < n) (h : w.ownsRow base 29 32 v n (w8 (rows f n))) : ∃ g c, v = .slice (some ⟨g, 0, none⟩) n c ∧ base ≤ g ∧ g < w.heap.size ∧ n ≤ c ∧ c ≤ 9223372036854775807 ∧ ∀ i, i < n → w.rangeAt g (i * 32) (w8 (f i)) := by
  rcases h.2 with ⟨_, h0⟩ | ⟨g, cap, cur, hv, hb, hg, hn1, hc, _⟩
  · omega
  · have hw := wayR_own hf h
    obtain ⟨A, c, hv2, h3⟩ := hw
    rw [hv] at hv2
    injection hv2 with e1 e2 e3
    rcases h3 with h3 | ⟨g', o, hA, hg', hc'⟩
    · omega
    · rw [← e1] at hA
      injection hA with hA
      injection hA with a1 a2
      subst a1
      subst a2
      exact ⟨g, cap, hv, hb, hg', hn1, by unfold maxLen at hc; exact hc, fun i hi => by have := hc' i hi; rw [Nat.zero_add] at this; exact this⟩

set_option maxRecDepth 100000 in
set_option maxHeartbeats 4000000 in
theorem rrows_any (f r : ByteArray) (seed : List Nat) (tall : Nat) (w : World) (HX : Hid (Texts f r)) (HL : Hid (seed.length = 32)) (HP : Hid (∀ x ∈ seed, x < 256)) (ht : tall ≤ 8) :
    Calls Tryd.prog 44 #[.agg #[.string f, .string r], .agg (w8 seed).toArray, .int .i64 (tall : Int)] w fun e w' => ∃ v, e = .returned v ∧ OutAt w' w.heap.size v seed tall (tall + 1) ∧ Below w.heap.size w w' := by
  have t1 : (tall : Int) ≤ 8 := by omega
  have HSS : Hid ((Tryd.prog.info? 29).map (·.size) = some (w8 seed).length) := Lib.hid (by rw [w8_length, HL.out]; exact info29)
  obtain ⟨i0, hi, hz0, hz1, hz2⟩ := info_parts info29f
  obtain ⟨j0, hj, hy0, hy1, hy2⟩ := info_parts info22f
  go_enter Tryd.func44, Tryd.ntmps44
  go_upto_region 1 with fail
  have HA : Hid (Blk ((w.alloc (.cells #[.string f, .string r] 40)).alloc (.cells (w8 seed).toArray 29)) w.heap.size 40 ([.string f, .string r])) := Lib.hid (by
    have h := (Blk.new w 40 ([.string f, .string r])).alloc (.cells (w8 seed).toArray 29)
    exact h)
  have HS : Hid (Blk ((w.alloc (.cells #[.string f, .string r] 40)).alloc (.cells (w8 seed).toArray 29)) (w.heap.size + 1) 29 (w8 seed)) := Lib.hid (by
    have h := Blk.new (w.alloc (.cells #[.string f, .string r] 40)) 29 (w8 seed)
    rw [World.size_alloc] at h
    exact h)
  have HW : Hid (Below w.heap.size w ((w.alloc (.cells #[.string f, .string r] 40)).alloc (.cells (w8 seed).toArray 29))) := Lib.hid (((Below.refl _ _).alloc (Nat.le_refl _) _).alloc (by simp) _)
  generalize ((w.alloc (.cells #[.string f, .string r] 40)).alloc (.cells (w8 seed).toArray 29)) = V at HA HS HW ⊢
  have hv1 : w.heap.size + 1 < V.heap.size := HS.out.lt
  have hpt := pw_le tall ht
  go_wp2_with fail
  go_loopw [8, 7] (fun i t wr => ∃ (k : Nat) (v : Value), k ≤ pw tall ∧ i = .int .i64 k ∧ v = t ∧ Hid (wr.ownsRow V.heap.size 29 32 v k (w8 (rows (leafN seed) k))) ∧ Hid (Below V.heap.size V wr)) (fun i _ _ => pw tall - (intOf i).toNat)
  case atStart => exact ⟨0, .slice none 0 0, Nat.zero_le _, rfl, rfl, Lib.hid (World.ownsRow_nil _ _ _ _), Lib.hid (Below.refl _ _)⟩
  case round =>
    obtain ⟨k, v, hk, rfl, rfl, HO, HB⟩ := hrel
    go_wp2_with fail
    refine (power_any tall wr ht).mono ?_
    rintro e w1 ⟨rfl, hB⟩
    have HO1 := Lib.hid (own_keepB HO.out hB)
    have HB1 := Lib.hid (HB.out.trans (hB.mono HB.out.size))
    clear hB HO HB
    by_cases hlt : k < pw tall
    · have k1 : (k : Int) < ((pw tall : Nat) : Int) := by omega
      have k2 : (k : Int) < 4294967296 := by omega
      have k3 : (k : Int) ≤ 256 := by omega
      have HRA := Lib.hid (HA.out.below HB1.out (by omega)).all
      have HRS := Lib.hid (HS.out.below HB1.out (by omega)).all
      go_wp2_with (first | (refine wpList_load_mid rfl 40 (.tmp 3) rfl w.heap.size 0 rfl [.string f, .string r] _ HRA.out Tryd.underlying40 rfl info40 ?_) | (refine wpList_load_mid rfl 29 (.tmp 4) rfl (w.heap.size + 1) 0 rfl (w8 seed) _ HRS.out Tryd.underlying29 rfl HSS.out ?_))
      clear HRA HRS
      refine (rleaf_any f r seed k w1 HX HL HP (by omega)).mono ?_
      rintro e X ⟨rfl, hB⟩
      have HO2 := Lib.hid (own_keepB HO1.out hB)
      have HB2 := Lib.hid (HB1.out.trans (hB.mono HB1.out.size))
      clear hB HO1 HB1
      have HFK : Hid ((w8 (leafN seed k)).length = 32) := Lib.hid (by rw [w8_length]; exact sha_length _)
      have hl1 := Blk.new X 29 (w8 (leafN seed k))
      have hB1 : Below X.heap.size X (X.alloc (.cells (w8 (leafN seed k)).toArray 29)) := (Below.refl _ _).alloc (Nat.le_refl _) _
      obtain ⟨v2, W2, hrun, hown, hgrow, _, hblk⟩ := run_append_own_at (P := Tryd.prog) (X.alloc (.cells (w8 (leafN seed k)).toArray 29)) V.heap.size 22 0 29 i0 (.agg zsum) 32 32 Tryd.underlying22 hi hz0 hz1 hz2 rfl (by decide) v k (w8 (rows (leafN seed) k)) (HO2.out.alloc _) ⟨X.heap.size, 0, none⟩ 1 1 (w8 (leafN seed k)) (by rw [HFK.out])
        (fun j u hu => by rw [Go.WideShapes.add_plain, Nat.zero_add, hl1.cell]; exact hu) (w8_one _) (by unfold maxLen; omega) (by omega) (by have := HB2.out.size; simp; omega)
      have HRUN : Hid (∀ ty, (Builtin.append_ #[22, 22] ty #[v, .slice (some ⟨X.heap.size, 0, none⟩) 1 1]).run Tryd.prog (X.alloc (.cells (w8 (leafN seed k)).toArray 29)) = .ok v2 W2) := Lib.hid fun ty => hrun
      have HO3 : Hid (W2.ownsRow V.heap.size 29 32 v2 (k + 1) (w8 (rows (leafN seed) (k + 1)))) := Lib.hid (by rw [rows_succ, ← w8_append]; exact hown)
      have HB3 : Hid (Below V.heap.size V W2) := Lib.hid ((HB2.out.trans (hB1.mono HB2.out.size)).grown hgrow (by have := HB2.out.size; simp; omega) (fun q hq => ((HO2.out.alloc (.cells (w8 (leafN seed k)).toArray 29)).lt q hq).1))
      have HLAY := Lib.hid (lay22 (leafN seed k) (sha_length _) X)
      clear hrun hown hgrow hblk hl1 hB1 HO2 HB2
      go_wp2_with (first | (refine wpList_lay_v rfl 22 1 #[(0, .tmp 23)] rfl #[(0, .agg (w8 (leafN seed k)).toArray)] (by simp [Act.eval]) _ _ HLAY.out ?_) | (at_builtin; refine wpList_append_run_ rfl (.tmp 18) (.tmp 24) 22 22 rfl v2 W2 (fun ty => HRUN.out ty) ?_))
      go_roundw
      case rel => exact ⟨k + 1, v2, by omega, by go_num, rfl, HO3, HB3⟩
      case measure => simp [intOf]; omega
    · obtain rfl : k = pw tall := by omega
      obtain ⟨gr, cr, hv, hgb, hgl, hgc, hgm, hgr⟩ := own_row (f := leafN seed) (fun a => sha_length _) (pw_pos tall) HO1.out
      subst hv
      have HO2 : Hid (w1.ownsRow V.heap.size 29 32 (.slice (some ⟨gr, 0, none⟩) (pw tall) cr) (pw (tall - 0)) (w8 (rows (levN seed 0) (pw (tall - 0))))) := HO1
      clear HO1 hgr hgb
      go_upto_region 7 with fail
      have hB1 : Below w1.heap.size w1 (w1.alloc (.cells #[.slice (some ⟨gr, 0, none⟩) (pw tall) cr] 22)) := (Below.refl _ _).alloc (Nat.le_refl _) _
      have HO3 := Lib.hid (own_keepB HO2.out hB1)
      have HB2 := Lib.hid (HB1.out.trans (hB1.mono HB1.out.size))
      have HOUT : Hid (OutAt (w1.alloc (.cells #[.slice (some ⟨gr, 0, none⟩) (pw tall) cr] 22)) V.heap.size (.slice (some ⟨w1.heap.size, 0, none⟩) 1 1) seed tall 1) := Lib.hid ⟨[.slice (some ⟨gr, 0, none⟩) (pw tall) cr],
        ⟨rfl, .inr ⟨w1.heap.size, 1, _, rfl, HB1.out.size, heap_alloc_last _ _, Nat.le_refl _, by unfold maxLen; omega, rfl, rfl⟩⟩, fun i hi => by
          obtain rfl : i = 0 := by omega
          exact ⟨_, rfl, HO3.out, by intro he; simp [Value.ownBlock] at he; omega⟩⟩
      clear hB1 HO2 HB1 hgl
      generalize w1.alloc (.cells #[.slice (some ⟨gr, 0, none⟩) (pw tall) cr] 22) = W1 at HO3 HB2 HOUT ⊢
      generalize w1.heap.size = go1 at HOUT ⊢
      go_loopw [7, 9, 10, 11] (fun t o _ _ wr => ∃ (j : Nat) (v vo : Value), j ≤ tall ∧ v = t ∧ vo = o ∧ Hid (wr.ownsRow V.heap.size 29 32 v (pw (tall - j)) (w8 (rows (levN seed j) (pw (tall - j))))) ∧ Hid (OutAt wr V.heap.size vo seed tall (j + 1)) ∧ Hid (Below V.heap.size V wr)) (fun t _ _ _ _ => pwLen t)
      case atStart => exact ⟨0, _, _, Nat.zero_le _, rfl, rfl, HO3, HOUT, HB2⟩
      case round =>
        clear HO3 HOUT HB2
        obtain ⟨j, v, vo, hj9, rfl, rfl, HO, HOUT, HB⟩ := hrel
        obtain ⟨gr, cr, hv, hgb, hgl, hgc, hgm, hgr⟩ := own_row (levN_length seed j) (pw_pos (tall - j)) HO.out
        subst hv
        have HGR := Lib.hid hgr
        clear hgr
        have hpj := pw_le (tall - j) (by omega)
        by_cases hlt : j < tall
        · have hpw : pw (tall - j) = 2 * pw (tall - (j + 1)) := by rw [← pw_succ]; congr 1; omega
          have hp0 := pw_pos (tall - (j + 1))
          have hp1 : (1 : Int) < ((pw (tall - j) : Nat) : Int) := by omega
          have HPW := Lib.hid hpw
          go_wp2_with fail
          obtain ⟨W3, hW3⟩ : ∃ W3, wr = W3 := ⟨_, rfl⟩
          rw [hW3] at HO HOUT HB HGR hgl ⊢
          clear hW3
          have HA3 := Lib.hid (HA.out.below HB.out (by omega))
          have hws : w.heap.size < W3.heap.size := HA3.out.lt
          have hpm : ((pw (tall - j) : Nat) : Int) ≤ 256 := by omega
          go_loopw [11, 10] (fun i t wr => ∃ (n : Nat) (v : Value), n ≤ pw (tall - (j + 1)) ∧ i = .int .i64 (2 * (n : Int)) ∧ v = t ∧ Hid (wr.ownsRow W3.heap.size 29 32 v n (w8 (rows (levN seed (j + 1)) n))) ∧ Hid (Below W3.heap.size W3 wr)) (fun i _ _ => pw (tall - j) - (intOf i).toNat)
          case atStart => exact ⟨0, .slice none 0 0, Nat.zero_le _, rfl, rfl, Lib.hid (World.ownsRow_nil _ _ _ _), Lib.hid (Below.refl _ _)⟩
          case round =>
            obtain ⟨n, v, hn9, rfl, rfl, Gr, Br⟩ := hrel
            have Pr : Hid (∀ i, i < pw (tall - j) → wr.rangeAt gr (i * 32) (w8 (levN seed j i))) := Lib.hid (fun i hi j9 u hu => (Br.out.cell (p := ⟨gr, i * 32 + j9, none⟩) (World.block_lt_of_cell? _ _ (HGR.out i hi j9 u hu))).trans (HGR.out i hi j9 u hu))
            have Ar := Lib.hid (HA3.out.below Br.out hws)
            have hpw2 := HPW.out
            by_cases hln : n < pw (tall - (j + 1))
            · have n1 : 2 * (n : Int) < ((pw (tall - j) : Nat) : Int) := by omega
              have n2 : 2 * n + 1 < pw (tall - j) := by omega
              have n3 : 2 * (n : Int) + 1 < ((pw (tall - j) : Nat) : Int) := by omega
              have n4 : (n : Int) ≤ 256 := by omega
              have n5 : 2 * (n : Int) + 1 ≤ 256 := by omega
              have n6 : (0 : Int) ≤ 2 * (n : Int) + 1 := by omega
              have n7 : (0 : Int) ≤ 2 * (n : Int) := by omega
              have HRF : Hid (∀ (X : World) (g : Nat), (∀ i, i < pw (tall - j) → X.rangeAt gr (i * 32) (w8 (levN seed j i))) → Blk X g 30 [.slice (some ⟨gr, 2 * n * 32, none⟩) 32 32, .slice (some ⟨gr, (2 * n + 1) * 32, none⟩) 32 32] → Calls Tryd.prog 70 #[.agg #[.string f, .string r], .int .u8 3, .slice (some ⟨g, 0, none⟩) 2 2] X fun e w' => e = .returned (.agg (w8 (joinN (levN seed j (2 * n)) (levN seed j (2 * n + 1)))).toArray) ∧ Below X.heap.size X w') := Lib.hid fun X g h1 h3 => by
                have hp := Parts.two' (b := X.heap.size) (x1 := (levN seed j (2 * n))) (x2 := (levN seed j (2 * n + 1))) h3 (levN_length _ _ _).symm (levN_length _ _ _).symm (by have := h3.lt; omega) (by omega) (by omega) ⟨by rw [levN_length]; omega, .inr ⟨gr, (2 * n) * 32, rfl, World.block_lt_of_cell? _ _ (h1 (2 * n) (by omega) 0 _ (w8_get _ 0 (by rw [levN_length]; omega))), by have h9 : gr < X.heap.size := World.block_lt_of_cell? _ _ (h1 (2 * n) (by omega) 0 _ (w8_get _ 0 (by rw [levN_length]; omega))); omega, fun j2 hj2 => h1 (2 * n) (by omega) j2 _ (w8_get _ j2 hj2)⟩, levN_lt _ _ _⟩ ⟨by rw [levN_length]; omega, .inr ⟨gr, (2 * n + 1) * 32, rfl, World.block_lt_of_cell? _ _ (h1 (2 * n + 1) (by omega) 0 _ (w8_get _ 0 (by rw [levN_length]; omega))), by have h9 : gr < X.heap.size := World.block_lt_of_cell? _ _ (h1 (2 * n + 1) (by omega) 0 _ (w8_get _ 0 (by rw [levN_length]; omega))); omega, fun j2 hj2 => h1 (2 * n + 1) (by omega) j2 _ (w8_get _ j2 hj2)⟩, levN_lt _ _ _⟩
                exact reffor_any f r 3 2 2 _ _ [(levN seed j (2 * n)), (levN seed j (2 * n + 1))] X HX (by omega) (Lib.hid hp) (Lib.hid rfl) (by omega) (Lib.hid (by simp [levN_length])) (Lib.hid (by
                  intro p hp x hx
                  simp only [List.mem_cons, List.not_mem_nil, or_false] at hp
                  rcases hp with rfl | rfl
                  · exact levN_lt _ _ _ x hx
                  · exact levN_lt _ _ _ x hx))
              go_upto_region 12 with fail
              have hBz : Below wr.heap.size wr wr.drew := below_drewN (Below.refl _ _) 1
              have AX0 : Hid (Blk wr.drew w.heap.size 40 [.string f, .string r]) := Lib.hid (Ar.out.below hBz Ar.out.lt)
              have PX0 : Hid ((∀ i, i < pw (tall - j) → wr.drew.rangeAt gr (i * 32) (w8 (levN seed j i)))) := Lib.hid (fun i hi j9 u hu => (hBz.cell (p := ⟨gr, i * 32 + j9, none⟩) (World.block_lt_of_cell? _ _ (Pr.out i hi j9 u hu))).trans (Pr.out i hi j9 u hu))
              have GX0 : Hid (wr.drew.ownsRow W3.heap.size 29 32 v n (w8 (rows (levN seed (j + 1)) n))) := Lib.hid (own_keepB Gr.out hBz)
              have BX0 : Hid (Below W3.heap.size W3 wr.drew) := Lib.hid (Br.out.trans (hBz.mono Br.out.size))
              clear hBz
              refine wp_region_held_drew (S := fun w' => Blk w' w.heap.size 40 [.string f, .string r]) (by kernel_rfl) (AX0.out) (fun hHeld => ?_)
              generalize wr.drew = X0 at hHeld AX0 PX0 GX0 BX0 ⊢
              refine wpAnyH_take (i := 0) (v := v) rfl (by kernel_rfl) (by kernel_rfl) (by kernel_rfl) (fun _ _ _ h => h) (Or.inl ⟨by rfl, fun w _ => by rfl⟩) hHeld ?_
              show wpAnyH _ _ _ _ _ _ _ (Act.put _ (some 37) _) _
              simp only [Act.put, List.setIfInBounds_toArray, List.set_cons_zero, List.set_cons_succ]
              refine wpAnyH_take (i := 1) (v := .agg #[.string f, .string r]) rfl (by kernel_rfl) (by kernel_rfl) (by kernel_rfl) (fun _ _ _ h => h) (yieldsIf_load_mid (by rfl) 40 (.tmp 3) rfl w.heap.size 0 rfl [.string f, .string r] _ (fun w' h => h.all) Tryd.underlying40 rfl info40) hHeld ?_
              show wpAnyH _ _ _ _ _ _ _ (Act.put _ (some 38) _) _
              simp only [Act.put, List.setIfInBounds_toArray, List.set_cons_zero, List.set_cons_succ]
              refine wpAnyH_take (i := 2) (v := .slice (some ⟨gr, 0, none⟩) (pw (tall - j)) cr) rfl (by kernel_rfl) (by kernel_rfl) (by kernel_rfl) (fun _ _ _ h => h) (Or.inl ⟨by rfl, fun w _ => by rfl⟩) hHeld ?_
              show wpAnyH _ _ _ _ _ _ _ (Act.put _ (some 39) _) _
              simp only [Act.put, List.setIfInBounds_toArray, List.set_cons_zero, List.set_cons_succ]
              refine wpAnyH_take (i := 3) (v := .int .i64 (2 * (n : Int))) rfl (by kernel_rfl) (by kernel_rfl) (by kernel_rfl) (fun _ _ _ h => h) (Or.inl ⟨by rfl, fun w _ => by rfl⟩) hHeld ?_
              show wpAnyH _ _ _ _ _ _ _ (Act.put _ (some 40) _) _
              simp only [Act.put, List.setIfInBounds_toArray, List.set_cons_zero, List.set_cons_succ]
              refine wpAnyH_take (i := 4) (v := .pointer (some ⟨gr, 2 * n * 32, none⟩)) rfl (by kernel_rfl) (by kernel_rfl) (by kernel_rfl) (fun _ _ _ h => h) (Or.inl ⟨by rfl, by intro w' h; go_simp; first | done | (rw [if_pos (by omega), show (2 * (n : Int)).toNat = 2 * n by omega])⟩) hHeld ?_
              show wpAnyH _ _ _ _ _ _ _ (Act.put _ (some 41) _) _
              simp only [Act.put, List.setIfInBounds_toArray, List.set_cons_zero, List.set_cons_succ]
              refine wpAnyH_take (i := 5) (v := .slice (some ⟨gr, 2 * n * 32, none⟩) 32 32) rfl (by kernel_rfl) (by kernel_rfl) (by kernel_rfl) (fun _ _ _ h => h) (Or.inl ⟨by rfl, by intro w' h; go_simp⟩) hHeld ?_
              show wpAnyH _ _ _ _ _ _ _ (Act.put _ (some 42) _) _
              simp only [Act.put, List.setIfInBounds_toArray, List.set_cons_zero, List.set_cons_succ]
              refine wpAnyH_take (i := 6) (v := .slice (some ⟨gr, 0, none⟩) (pw (tall - j)) cr) rfl (by kernel_rfl) (by kernel_rfl) (by kernel_rfl) (fun _ _ _ h => h) (Or.inl ⟨by rfl, fun w _ => by rfl⟩) hHeld ?_
              show wpAnyH _ _ _ _ _ _ _ (Act.put _ (some 43) _) _
              simp only [Act.put, List.setIfInBounds_toArray, List.set_cons_zero, List.set_cons_succ]
              refine wpAnyH_take (i := 7) (v := .int .i64 (2 * (n : Int))) rfl (by kernel_rfl) (by kernel_rfl) (by kernel_rfl) (fun _ _ _ h => h) (Or.inl ⟨by rfl, fun w _ => by rfl⟩) hHeld ?_
              show wpAnyH _ _ _ _ _ _ _ (Act.put _ (some 44) _) _
              simp only [Act.put, List.setIfInBounds_toArray, List.set_cons_zero, List.set_cons_succ]
              refine wpAnyH_take (i := 8) (v := .int .i64 (2 * (n : Int) + 1)) rfl (by kernel_rfl) (by kernel_rfl) (by kernel_rfl) (fun _ _ _ h => h) (Or.inl ⟨by rfl, by intro w' h; go_simp; first | done | (exact IntWalk.i64_in _ ⟨by omega, by omega⟩)⟩) hHeld ?_
              show wpAnyH _ _ _ _ _ _ _ (Act.put _ (some 45) _) _
              simp only [Act.put, List.setIfInBounds_toArray, List.set_cons_zero, List.set_cons_succ]
              refine wpAnyH_take (i := 9) (v := .pointer (some ⟨gr, (2 * n + 1) * 32, none⟩)) rfl (by kernel_rfl) (by kernel_rfl) (by kernel_rfl) (fun _ _ _ h => h) (Or.inl ⟨by rfl, by intro w' h; go_simp; first | done | (rw [if_pos (by omega), show (2 * (n : Int) + 1).toNat = 2 * n + 1 by omega])⟩) hHeld ?_
              show wpAnyH _ _ _ _ _ _ _ (Act.put _ (some 46) _) _
              simp only [Act.put, List.setIfInBounds_toArray, List.set_cons_zero, List.set_cons_succ]
              refine wpAnyH_take (i := 10) (v := .slice (some ⟨gr, (2 * n + 1) * 32, none⟩) 32 32) rfl (by kernel_rfl) (by kernel_rfl) (by kernel_rfl) (fun _ _ _ h => h) (Or.inl ⟨by rfl, by intro w' h; go_simp⟩) hHeld ?_
              show wpAnyH _ _ _ _ _ _ _ (Act.put _ (some 47) _) _
              simp only [Act.put, List.setIfInBounds_toArray, List.set_cons_zero, List.set_cons_succ]
              refine wpAnyH_ready (rs := [11]) (by kernel_rfl) (by simp) ?_
              refine AllReadyH.cons rfl (fun K hK => ?_) AllReadyH.nil
              refine Kt.step_lay rfl 23 2 #[(0, .tmp 42), (1, .tmp 47)] rfl #[(0, .slice (some ⟨gr, 2 * n * 32, none⟩) 32 32), (1, .slice (some ⟨gr, (2 * n + 1) * 32, none⟩) 32 32)] (by simp [Act.eval]) (.slice (some ⟨X0.heap.size, 0, none⟩) 2 2) (X0.alloc (.cells #[.slice (some ⟨gr, 2 * n * 32, none⟩) 32 32, .slice (some ⟨gr, (2 * n + 1) * 32, none⟩) 32 32] 30)) (by kernel_rfl) ?_
              have hB : Below X0.heap.size X0 (X0.alloc (.cells #[.slice (some ⟨gr, 2 * n * 32, none⟩) 32 32, .slice (some ⟨gr, (2 * n + 1) * 32, none⟩) 32 32] 30)) := (Below.refl _ _).alloc (Nat.le_refl _) _
              have hL := Blk.new X0 30 [.slice (some ⟨gr, 2 * n * 32, none⟩) 32 32, .slice (some ⟨gr, (2 * n + 1) * 32, none⟩) 32 32]
              generalize X0.alloc (.cells #[.slice (some ⟨gr, 2 * n * 32, none⟩) 32 32, .slice (some ⟨gr, (2 * n + 1) * 32, none⟩) 32 32] 30) = X1 at hB hL ⊢
              generalize X0.heap.size = gl at hL ⊢
              have AX1 : Hid (Blk X1 w.heap.size 40 [.string f, .string r]) := Lib.hid (AX0.out.below hB AX0.out.lt)
              have PX1 : Hid ((∀ i, i < pw (tall - j) → X1.rangeAt gr (i * 32) (w8 (levN seed j i)))) := Lib.hid (fun i hi j9 u hu => (hB.cell (p := ⟨gr, i * 32 + j9, none⟩) (World.block_lt_of_cell? _ _ (PX0.out i hi j9 u hu))).trans (PX0.out i hi j9 u hu))
              have GX1 : Hid (X1.ownsRow W3.heap.size 29 32 v n (w8 (rows (levN seed (j + 1)) n))) := Lib.hid (own_keepB GX0.out hB)
              have BX1 : Hid (Below W3.heap.size W3 X1) := Lib.hid (BX0.out.trans (hB.mono BX0.out.size))
              have LX1 : Hid (Blk X1 gl 30 [.slice (some ⟨gr, 2 * n * 32, none⟩) 32 32, .slice (some ⟨gr, (2 * n + 1) * 32, none⟩) 32 32]) := Lib.hid (hL)
              clear AX0 PX0 GX0 BX0 hB hL
              refine hK.out _ _ (AX1.out) (fun hHeld => ?_)
              clear hK K
              show wpAnyH _ _ _ _ _ _ _ (Act.put _ (some 48) _) _
              simp only [Act.put, List.setIfInBounds_toArray, List.set_cons_zero, List.set_cons_succ]
              refine wpAnyH_ready (rs := [12]) (by kernel_rfl) (by simp) ?_
              refine AllReadyH.cons rfl (fun K hK => ?_) AllReadyH.nil
              refine step_call rfl 70 #[.tmp 38, .const (.int .u8 3), .tmp 48] #[40, 5, 23] rfl #[.agg #[.string f, .string r], .int .u8 3, .slice (some ⟨gl, 0, none⟩) 2 2] (by simp [Act.eval]) (by go_simp) (HRF.out X1 gl PX1.out LX1.out) ?_
              rintro e X2 ⟨rfl, hB⟩
              have AX2 : Hid (Blk X2 w.heap.size 40 [.string f, .string r]) := Lib.hid (AX1.out.below hB AX1.out.lt)
              have PX2 : Hid ((∀ i, i < pw (tall - j) → X2.rangeAt gr (i * 32) (w8 (levN seed j i)))) := Lib.hid (fun i hi j9 u hu => (hB.cell (p := ⟨gr, i * 32 + j9, none⟩) (World.block_lt_of_cell? _ _ (PX1.out i hi j9 u hu))).trans (PX1.out i hi j9 u hu))
              have GX2 : Hid (X2.ownsRow W3.heap.size 29 32 v n (w8 (rows (levN seed (j + 1)) n))) := Lib.hid (own_keepB GX1.out hB)
              have BX2 : Hid (Below W3.heap.size W3 X2) := Lib.hid (BX1.out.trans (hB.mono BX1.out.size))
              have LX2 : Hid (Blk X2 gl 30 [.slice (some ⟨gr, 2 * n * 32, none⟩) 32 32, .slice (some ⟨gr, (2 * n + 1) * 32, none⟩) 32 32]) := Lib.hid (LX1.out.below hB LX1.out.lt)
              clear AX1 PX1 GX1 BX1 LX1 hB
              refine ⟨_, rfl, hK.out _ _ (AX2.out) (fun hHeld => ?_)⟩
              clear hK K
              show wpAnyH _ _ _ _ _ _ _ (Act.put _ (some 49) _) _
              simp only [Act.put, List.setIfInBounds_toArray, List.set_cons_zero, List.set_cons_succ]
              refine wpAnyH_ready (rs := [13]) (by kernel_rfl) (by simp) ?_
              refine AllReadyH.cons rfl (fun K hK => ?_) AllReadyH.nil
              refine Kt.step_lay rfl 22 1 #[(0, .tmp 49)] rfl #[(0, .agg (w8 (joinN (levN seed j (2 * n)) (levN seed j (2 * n + 1)))).toArray)] (by simp [Act.eval]) (.slice (some ⟨X2.heap.size, 0, none⟩) 1 1) (X2.alloc (.cells (w8 (joinN (levN seed j (2 * n)) (levN seed j (2 * n + 1)))).toArray 29)) (lay22 (joinN (levN seed j (2 * n)) (levN seed j (2 * n + 1))) (joinN_length _ _) X2) ?_
              have hB : Below X2.heap.size X2 (X2.alloc (.cells (w8 (joinN (levN seed j (2 * n)) (levN seed j (2 * n + 1)))).toArray 29)) := (Below.refl _ _).alloc (Nat.le_refl _) _
              have hQ := Blk.new X2 29 (w8 (joinN (levN seed j (2 * n)) (levN seed j (2 * n + 1))))
              generalize X2.alloc (.cells (w8 (joinN (levN seed j (2 * n)) (levN seed j (2 * n + 1)))).toArray 29) = X3 at hB hQ ⊢
              generalize X2.heap.size = gq at hQ ⊢
              have AX3 : Hid (Blk X3 w.heap.size 40 [.string f, .string r]) := Lib.hid (AX2.out.below hB AX2.out.lt)
              have PX3 : Hid ((∀ i, i < pw (tall - j) → X3.rangeAt gr (i * 32) (w8 (levN seed j i)))) := Lib.hid (fun i hi j9 u hu => (hB.cell (p := ⟨gr, i * 32 + j9, none⟩) (World.block_lt_of_cell? _ _ (PX2.out i hi j9 u hu))).trans (PX2.out i hi j9 u hu))
              have GX3 : Hid (X3.ownsRow W3.heap.size 29 32 v n (w8 (rows (levN seed (j + 1)) n))) := Lib.hid (own_keepB GX2.out hB)
              have BX3 : Hid (Below W3.heap.size W3 X3) := Lib.hid (BX2.out.trans (hB.mono BX2.out.size))
              have LX3 : Hid (Blk X3 gl 30 [.slice (some ⟨gr, 2 * n * 32, none⟩) 32 32, .slice (some ⟨gr, (2 * n + 1) * 32, none⟩) 32 32]) := Lib.hid (LX2.out.below hB LX2.out.lt)
              have QX3 : Hid (Blk X3 gq 29 (w8 (joinN (levN seed j (2 * n)) (levN seed j (2 * n + 1))))) := Lib.hid (hQ)
              clear AX2 PX2 GX2 BX2 LX2 hB hQ
              refine hK.out _ _ (AX3.out) (fun hHeld => ?_)
              clear hK K
              show wpAnyH _ _ _ _ _ _ _ (Act.put _ (some 50) _) _
              simp only [Act.put, List.setIfInBounds_toArray, List.set_cons_zero, List.set_cons_succ]
              refine wpAnyH_ready (rs := [14]) (by kernel_rfl) (by simp) ?_
              refine AllReadyH.cons rfl (fun K hK => ?_) AllReadyH.nil
              refine Kt.step_own rfl (.tmp 37) (.tmp 50) 22 rfl W3.heap.size 29 i0 (.agg zsum) 32 32 Tryd.underlying22 hi hz0 hz1 hz2 rfl (by decide) v n (w8 (rows (levN seed (j + 1)) n)) rfl GX3.out ⟨gq, 0, none⟩ 1 1 (w8 (joinN (levN seed j (2 * n)) (levN seed j (2 * n + 1)))) rfl (by rw [w8_length, joinN_length]) (Kt.news_of QX3.out) (w8_one _) (by unfold maxLen; omega) (by omega) (BX3.out.size) ?_
              intro v2 X4 hOwn hGrow hBl hNil
              have OE : Hid (X4.ownsRow W3.heap.size 29 32 v2 (n + 1) (w8 (rows (levN seed (j + 1)) (n + 1)))) := Lib.hid (by rw [rows_succ, ← w8_append]; exact hOwn)
              have BE : Hid (Below W3.heap.size W3 X4) := Lib.hid (BX3.out.grown hGrow BX3.out.size (fun q hq => (GX3.out.lt q hq).1))
              have AE : Blk X4 w.heap.size 40 [.string f, .string r] := AX3.out.grown hGrow (fun e => by have h5 := (GX3.out.lt _ e.symm).1; omega)
              clear hOwn hGrow hBl hNil GX3 PX3 BX3 LX3 QX3 AX3
              refine hK.out _ _ (AE) (fun hHeld => ?_)
              clear hK K
              show wpAnyH _ _ _ _ _ _ _ (Act.put _ (some 51) _) _
              simp only [Act.put, List.setIfInBounds_toArray, List.set_cons_zero, List.set_cons_succ]
              refine wpAnyH_take (i := 15) (v := v2) rfl (by kernel_rfl) (by kernel_rfl) (by kernel_rfl) (fun _ _ _ h => h) (Or.inl ⟨by rfl, fun w _ => by rfl⟩) hHeld ?_
              show wpAnyH _ _ _ _ _ _ _ (Act.put _ (some 10) _) _
              simp only [Act.put, List.setIfInBounds_toArray, List.set_cons_zero, List.set_cons_succ]
              refine wpAnyH_done (by kernel_rfl) ?_ _
              clear hHeld AE
              go_wp2
              go_roundw
              case rel => exact ⟨n + 1, v2, by omega, by go_num, rfl, OE, BE⟩
              case measure => simp [intOf]; omega
            · obtain rfl : n = pw (tall - (j + 1)) := by omega
              have n1 : ¬ (2 * ((pw (tall - (j + 1)) : Nat) : Int) < ((pw (tall - j) : Nat) : Int)) := by omega
              obtain ⟨gq, cq, hvq, hqb, hql, hqc, hqm, hqr⟩ := own_row (levN_length seed (j + 1)) hp0 Gr.out
              subst hvq
              have HOU2 := Lib.hid (HOUT.out.below Br.out)
              have HB2 := Lib.hid (HB.out.trans (Br.out.mono HB.out.size))
              have hVs := HB.out.size
              have hne : (Value.slice (some ⟨gq, 0, none⟩) (pw (tall - (j + 1))) cq).ownBlock ≠ vo.ownBlock := fun he => by have := (HOUT.out.lt gq he.symm).2; omega
              obtain ⟨vo2, W4, hrun, hout, hrow, hgrow⟩ := HOU2.out.push (by omega) HB2.out.size rfl (own_mono Gr.out hVs) hne
              have HB3 : Hid (Below V.heap.size V W4) := Lib.hid ((HB2.out.trans (((Below.refl _ _).alloc (Nat.le_refl _) _ : Below wr.heap.size wr (wr.alloc (.cells #[.slice (some ⟨gq, 0, none⟩) (pw (tall - (j + 1))) cq] 22))).mono HB2.out.size)).grown hgrow (by have := HB2.out.size; simp; omega) (fun q hq => (HOU2.out.lt q hq).1))
              have HRUN := Lib.hid hrun
              have HOU4 := Lib.hid hout
              have HRW4 := Lib.hid hrow
              clear hrun hout hrow hgrow hqr HOU2 HOUT Pr Ar
              go_wp2_with (at_builtin; refine wpList_append_run_ rfl (.tmp 53) (.tmp 55) 87 87 rfl vo2 W4 (fun ty => HRUN.out ty) ?_)
              go_roundw
              case rel => exact ⟨j + 1, _, vo2, by omega, rfl, rfl, HRW4, HOU4, HB3⟩
              case measure => show pw (tall - (j + 1)) < pw (tall - j); omega
        · obtain rfl : j = tall := by omega
          have p0 : pw (j - j) = 1 := by rw [Nat.sub_self]; rfl
          have p1 : ¬ ((1 : Int) < ((pw (j - j) : Nat) : Int)) := by omega
          go_wp2_with fail
          go_ret
          exact ⟨vo, rfl, HOUT.out.mono (by omega), HW.out.trans (HB.out.mono (by omega))⟩
end Go.Proofs.YtkonokjhpddbfaaDoor
