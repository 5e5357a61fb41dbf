/-
  RingKeys: rings that may not be and rings too tall for the law; whole numbers that came in.
-/
import Derived.Test.YtkonokjhpddbfaaDoorRngZ
import Derived.Test.YtkonokjhpddbfaaDoorGF
namespace Go.Proofs.YtkonokjhpddbfaaDoor
open Go.ChangeShapes Go.WideShapes Go.ChangeAt Go.RowKit Go.Deep
set_option linter.unusedVariables false

theorem cells38 : Tryd.prog.cellsOf 38 = 1 := by kernel_rfl
theorem ints_came {W : World} {k : IntKind} {top : Nat} {x : Addr} {len cap : Nat} {zs : List Int} (hl : len ≤ cap) (hz : zs.length = cap) (hcell : ∀ i, i < zs.length → W.cell? (x.add i) = some (.int k (zs.getD i 0)))
    (hw : ∀ n ∈ zs, 0 ≤ n ∧ n < (top : Int)) : IntsR W k top (some x) len := by
  rcases Nat.eq_zero_or_pos len with h0 | h0
  · exact .inl h0
  · obtain ⟨g, off, spot⟩ := x
    have hspot : spot = none := by simpa [Addr.add] using World.cell?_spot (hcell 0 (by omega))
    subst hspot
    have hlt : g < W.heap.size := by
      have := World.block_lt_of_cell? _ _ (hcell 0 (by omega))
      rw [Addr.add_mid] at this
      exact this
    refine .inr ⟨g, off, rfl, hlt, fun i hi => ?_⟩
    have h1 := hcell i (by omega)
    rw [Addr.add_mid] at h1
    have hiZ : i < zs.length := by omega
    have hb := hw (zs[i]) (List.getElem_mem hiZ)
    refine ⟨(zs[i]).toNat, by omega, ?_⟩
    rw [h1]
    have e1 : zs.getD i 0 = zs[i] := by simp [List.getD, hiZ]
    rw [e1]
    congr 2
    omega
theorem openU32s {H : Type} {enc : TypeId × Value → H} {W : World} {base : Nat} {held : Bool} {a : Option Addr} {len cap : Nat} {d : DataW H} {p : List MemPlace}
    (h : DataW.Trod enc Tryd.prog W base (fun _ => true) held 82 (.slice a len cap) d p) : IntsR W .u32 4294967296 a len ∧ len ≤ 9223372036854775807 := by
  obtain ⟨fuel, hf⟩ := h
  rcases open_ints Tryd.underlying82 Tryd.underlying38 cells38 hf with ⟨hcs, _⟩ | ⟨x, l, c, zs, hcs, _, hl, hm, hz, hd, hcell, hwz⟩
  · simp [Value.cells] at hcs
    obtain ⟨rfl, rfl, rfl⟩ := hcs
    exact ⟨.inl rfl, by omega⟩
  · simp [Value.cells] at hcs
    obtain ⟨rfl, rfl, rfl⟩ := hcs
    have hz' : zs.length = cap := by simpa using hz
    exact ⟨ints_came hl hz' hcell (fun n hn => by have := bounds_u32 (hwz n hn); omega), by unfold maxLen at hm; omega⟩
theorem openU8s {H : Type} {enc : TypeId × Value → H} {W : World} {base : Nat} {held : Bool} {a : Option Addr} {len cap : Nat} {d : DataW H} {p : List MemPlace}
    (h : DataW.Trod enc Tryd.prog W base (fun _ => true) held 30 (.slice a len cap) d p) : IntsR W .u8 256 a len ∧ len ≤ 9223372036854775807 := by
  obtain ⟨fuel, hf⟩ := h
  rcases open_ints Tryd.underlying30 Tryd.underlying5 cells5 hf with ⟨hcs, _⟩ | ⟨x, l, c, zs, hcs, _, hl, hm, hz, hd, hcell, hwz⟩
  · simp [Value.cells] at hcs
    obtain ⟨rfl, rfl, rfl⟩ := hcs
    exact ⟨.inl rfl, by omega⟩
  · simp [Value.cells] at hcs
    obtain ⟨rfl, rfl, rfl⟩ := hcs
    have hz' : zs.length = cap := by simpa using hz
    exact ⟨ints_came hl hz' hcell (fun n hn => by have := bounds_u8 (hwz n hn); omega), by unfold maxLen at hm; omega⟩

set_option maxRecDepth 100000 in
set_option maxHeartbeats 1000000 in
theorem ringKeys_low (seed d : List Nat) (tall : Int) (ka ba : Option Addr) (kl kc bl bc : Nat) (w : World) (HT : Hid (Tab w)) (HL : Hid (seed.length = 32)) (h : tall < 0) :
    Calls Tryd.prog 9 #[.agg (w8 seed).toArray, .int .i64 tall, .slice ka kl kc, .slice ba bl bc, .agg (w8 d).toArray] w fun e' w' => e' = .returned (.bool true) ∧ Below w.heap.size w w' := by
  have HIS : Hid ((Tryd.prog.info? 29).map (·.size) = some (w8 seed).length) := Lib.hid (by rw [w8_length, HL.out]; exact info29)
  go_enter Tryd.func9, Tryd.ntmps9
  go_upto_region 1 with fail
  have SV : Hid (Blk ((w.alloc (.cells (w8 seed).toArray 29)).alloc (.cells (w8 d).toArray 29)) w.heap.size 29 (w8 seed)) := Lib.hid (by
    have h := (Blk.new w 29 (w8 seed)).alloc (.cells (w8 d).toArray 29)
    exact h)
  have DV : Hid (Blk ((w.alloc (.cells (w8 seed).toArray 29)).alloc (.cells (w8 d).toArray 29)) (w.heap.size + 1) 29 (w8 d)) := Lib.hid (by
    have h := Blk.new (w.alloc (.cells (w8 seed).toArray 29)) 29 (w8 d)
    rw [World.size_alloc] at h
    exact h)
  have BV : Hid (Below w.heap.size w ((w.alloc (.cells (w8 seed).toArray 29)).alloc (.cells (w8 d).toArray 29))) := Lib.hid (((Below.refl _ _).alloc (Nat.le_refl _) _).alloc (by simp) _)
  generalize ((w.alloc (.cells (w8 seed).toArray 29)).alloc (.cells (w8 d).toArray 29)) = V at SV DV BV ⊢
  have HRS := Lib.hid SV.out.all
  go_wp2_with (first | (refine wpList_load_mid rfl 29 (.tmp 5) rfl w.heap.size 0 rfl (w8 seed) _ HRS.out Tryd.underlying29 rfl HIS.out ?_))
  refine (new_bad seed tall V (.inr trivial) (.inl h)).mono ?_
  rintro e X1 ⟨rfl, hB⟩
  have BX1 := Lib.hid (BV.out.trans (hB.mono BV.out.size))
  clear hB BV
  go_wp2_with fail
  refine (refright_no tall X1 (.inl h)).mono ?_
  rintro e X2 ⟨rfl, hB⟩
  have BX2 := Lib.hid (BX1.out.trans (hB.mono BX1.out.size))
  clear hB BX1
  go_wp2_with fail
  refine (awake5_any X2 (Lib.hid (HT.out.below BX2.out HT.out.lt))).mono ?_
  rintro e X3 ⟨rfl, hB⟩
  have BX3 := Lib.hid (BX2.out.trans (hB.mono BX2.out.size))
  clear hB BX2
  go_wp2
  go_ret
  exact ⟨rfl, BX3.out⟩

set_option maxRecDepth 100000 in
set_option maxHeartbeats 1000000 in
theorem ringKeys_high (seed d : List Nat) (tall : Int) (ka ba : Option Addr) (kl kc bl bc : Nat) (w : World) (HT : Hid (Tab w)) (HL : Hid (seed.length = 32)) (h : 8 < tall) :
    Calls Tryd.prog 9 #[.agg (w8 seed).toArray, .int .i64 tall, .slice ka kl kc, .slice ba bl bc, .agg (w8 d).toArray] w fun e' w' => e' = .returned (.bool true) ∧ Below w.heap.size w w' := by
  have HIS : Hid ((Tryd.prog.info? 29).map (·.size) = some (w8 seed).length) := Lib.hid (by rw [w8_length, HL.out]; exact info29)
  go_enter Tryd.func9, Tryd.ntmps9
  go_upto_region 1 with fail
  have SV : Hid (Blk ((w.alloc (.cells (w8 seed).toArray 29)).alloc (.cells (w8 d).toArray 29)) w.heap.size 29 (w8 seed)) := Lib.hid (by
    have h := (Blk.new w 29 (w8 seed)).alloc (.cells (w8 d).toArray 29)
    exact h)
  have DV : Hid (Blk ((w.alloc (.cells (w8 seed).toArray 29)).alloc (.cells (w8 d).toArray 29)) (w.heap.size + 1) 29 (w8 d)) := Lib.hid (by
    have h := Blk.new (w.alloc (.cells (w8 seed).toArray 29)) 29 (w8 d)
    rw [World.size_alloc] at h
    exact h)
  have BV : Hid (Below w.heap.size w ((w.alloc (.cells (w8 seed).toArray 29)).alloc (.cells (w8 d).toArray 29))) := Lib.hid (((Below.refl _ _).alloc (Nat.le_refl _) _).alloc (by simp) _)
  generalize ((w.alloc (.cells (w8 seed).toArray 29)).alloc (.cells (w8 d).toArray 29)) = V at SV DV BV ⊢
  have h3 : 3 < tall := by omega
  go_wp2_with fail
  refine (refright_no tall V (.inr h)).mono ?_
  rintro e X0 ⟨rfl, hB⟩
  have BX0 := Lib.hid (BV.out.trans (hB.mono BV.out.size))
  have HSX := Lib.hid (SV.out.below hB SV.out.lt)
  clear hB BV
  have HRS := Lib.hid HSX.out.all
  go_wp2_with (first | (refine wpList_load_mid rfl 29 (.tmp 5) rfl w.heap.size 0 rfl (w8 seed) _ HRS.out Tryd.underlying29 rfl HIS.out ?_))
  refine (new_bad seed tall X0 (.inr trivial) (.inr h)).mono ?_
  rintro e X1 ⟨rfl, hB⟩
  have BX1 := Lib.hid (BX0.out.trans (hB.mono BX0.out.size))
  clear hB BX0
  go_wp2_with fail
  refine (refright_no tall X1 (.inr h)).mono ?_
  rintro e X2 ⟨rfl, hB⟩
  have BX2 := Lib.hid (BX1.out.trans (hB.mono BX1.out.size))
  clear hB BX1
  go_wp2_with fail
  refine (awake5_any X2 (Lib.hid (HT.out.below BX2.out HT.out.lt))).mono ?_
  rintro e X3 ⟨rfl, hB⟩
  have BX3 := Lib.hid (BX2.out.trans (hB.mono BX2.out.size))
  clear hB BX2
  go_wp2
  go_ret
  exact ⟨rfl, BX3.out⟩

set_option maxRecDepth 100000 in
set_option maxHeartbeats 1000000 in
theorem ringKeys_mid (seed d : List Nat) (tall : Int) (ka ba : Option Addr) (kl kc bl bc : Nat) (w : World) (HT : Hid (Tab w)) (HL : Hid (seed.length = 32)) (h : 3 < tall) (h8 : tall ≤ 8) :
    Calls Tryd.prog 9 #[.agg (w8 seed).toArray, .int .i64 tall, .slice ka kl kc, .slice ba bl bc, .agg (w8 d).toArray] w fun e' w' => e' = .returned (.bool true) ∧ Below w.heap.size w w' := by
  have HIS : Hid ((Tryd.prog.info? 29).map (·.size) = some (w8 seed).length) := Lib.hid (by rw [w8_length, HL.out]; exact info29)
  go_enter Tryd.func9, Tryd.ntmps9
  go_upto_region 1 with fail
  have SV : Hid (Blk ((w.alloc (.cells (w8 seed).toArray 29)).alloc (.cells (w8 d).toArray 29)) w.heap.size 29 (w8 seed)) := Lib.hid (by
    have h := (Blk.new w 29 (w8 seed)).alloc (.cells (w8 d).toArray 29)
    exact h)
  have DV : Hid (Blk ((w.alloc (.cells (w8 seed).toArray 29)).alloc (.cells (w8 d).toArray 29)) (w.heap.size + 1) 29 (w8 d)) := Lib.hid (by
    have h := Blk.new (w.alloc (.cells (w8 seed).toArray 29)) 29 (w8 d)
    rw [World.size_alloc] at h
    exact h)
  have BV : Hid (Below w.heap.size w ((w.alloc (.cells (w8 seed).toArray 29)).alloc (.cells (w8 d).toArray 29))) := Lib.hid (((Below.refl _ _).alloc (Nat.le_refl _) _).alloc (by simp) _)
  generalize ((w.alloc (.cells (w8 seed).toArray 29)).alloc (.cells (w8 d).toArray 29)) = V at SV DV BV ⊢
  go_wp2_with fail
  refine (refright_yes tall V (by omega) h8).mono ?_
  rintro e X0 ⟨rfl, hB⟩
  have BX0 := Lib.hid (BV.out.trans (hB.mono BV.out.size))
  clear hB BV
  go_wp2_with fail
  refine (awake5_any X0 (Lib.hid (HT.out.below BX0.out HT.out.lt))).mono ?_
  rintro e X1 ⟨rfl, hB⟩
  have BX1 := Lib.hid (BX0.out.trans (hB.mono BX0.out.size))
  clear hB BX0
  go_wp2
  go_ret
  exact ⟨rfl, BX1.out⟩

theorem ringKeys_walk (seed : List Nat) (tall : Int) (ka : Option Addr) (kl kc : Nat) (ba : Option Addr) (bl bc : Nat) (d : List Nat) (w : World) (HT : Hid (Tab w)) (HL : Hid (seed.length = 32)) (HP : Hid (∀ x ∈ seed, x < 256)) (hti : -9223372036854775808 ≤ tall ∧ tall ≤ 9223372036854775807) (HK : Hid (IntsR w .u32 4294967296 ka kl)) (HKM : Hid (kl ≤ 9223372036854775807)) (HB : Hid (IntsR w .u8 256 ba bl)) (HBM : Hid (bl ≤ 9223372036854775807)) (HDL : Hid (d.length = 32)) (HDP : Hid (∀ x ∈ d, x < 256)) :
    Calls Tryd.prog 9 #[.agg (w8 seed).toArray, .int .i64 tall, .slice ka kl kc, .slice ba bl bc, .agg (w8 d).toArray] w fun e' w' => e' = .returned (.bool true) ∧ Below w.heap.size w w' := by
  by_cases h0 : tall < 0
  · exact ringKeys_low seed d tall ka ba kl kc bl bc w HT HL h0
  · by_cases h8 : 8 < tall
    · exact ringKeys_high seed d tall ka ba kl kc bl bc w HT HL h8
    · by_cases h3 : 3 < tall
      · exact ringKeys_mid seed d tall ka ba kl kc bl bc w HT HL h3 (by omega)
      · obtain ⟨n, rfl⟩ : ∃ n : Nat, tall = (n : Int) := ⟨tall.toNat, by omega⟩
        exact ringKeys_core seed d n ka ba kl kc bl bc w HT HL HP HK HKM HB HBM HDL HDP (by omega)
end Go.Proofs.YtkonokjhpddbfaaDoor
