/-
  A log's Note (function 21).
-/
import Derived.Test.YtcpjfdaacnkcnaaDoorLogLib
import Derived.Deep.Cut
import Derived.Deep.RegionHeld3
namespace Go.Proofs.YtcpjfdaacnkcnaaDoor
open Go.RowKit
set_option linter.unusedVariables false

/-- Only the blocks g and b, and what is new, have turned. -/
structure Only2 (w w' : World) (g : Nat) (b : Option Nat) : Prop where
  os : w'.os = w.os
  tape : w'.tape = w.tape
  output : w'.output = w.output
  size : w.heap.size ≤ w'.heap.size
  block : ∀ i, i < w.heap.size → i ≠ g → b ≠ some i → w'.heap[i]? = w.heap[i]?
theorem Only2.below {w w' : World} {g B : Nat} {b : Option Nat} (h : Only2 w w' g b) (hg : B ≤ g) (hb : ∀ i, b = some i → B ≤ i) (hB : B ≤ w.heap.size) : Below B w w' :=
  ⟨h.os, h.tape, h.output, h.size, fun i hi => h.block i (by omega) (by omega) (fun e => by have := hb i e; omega)⟩
theorem Only2.of_below {w w' : World} {g : Nat} {b : Option Nat} (h : Below w.heap.size w w') : Only2 w w' g b := ⟨h.os, h.tape, h.output, h.size, fun i hi _ _ => h.block i hi⟩
theorem Only2.more {w w1 w2 : World} {g : Nat} {b : Option Nat} (h : Only2 w w1 g b) (hB : Below w1.heap.size w1 w2) : Only2 w w2 g b :=
  ⟨hB.os.trans h.os, hB.tape.trans h.tape, hB.output.trans h.output, Nat.le_trans h.size hB.size, fun i hi h1 h2 => (hB.block i (Nat.lt_of_lt_of_le hi h.size)).trans (h.block i hi h1 h2)⟩
theorem Only2.one {w w1 w2 : World} {g : Nat} {b : Option Nat} {r : Option Nat} (h : Only2 w w1 g b) (hG : w1.grownBy w2 r) (hr : ∀ i, r = some i → i = g ∨ b = some i ∨ w.heap.size ≤ i) : Only2 w w2 g b :=
  ⟨hG.os.trans h.os, hG.tape.trans h.tape, hG.output.trans h.output, Nat.le_trans h.size hG.size, fun i hi h1 h2 => (hG.block i (Nat.lt_of_lt_of_le hi h.size) (by
    intro he
    rcases hr i he.symm with h3 | h3 | h3
    · exact h1 h3
    · exact h2 h3
    · omega)).trans (h.block i hi h1 h2)⟩

theorem take_four (D : List Nat) (h : D.length = 32) : D.take 4 = [D.getD 0 0, D.getD 1 0, D.getD 2 0, D.getD 3 0] := by
  match D, h with
  | _ :: _ :: _ :: _ :: _, _ => rfl

theorem Own.lower {w : World} {base base' : Nat} {v : Value} {l : List Nat} (h : Own w base v l) (hb : base' ≤ base) : Own w base' v l := by
  refine ⟨h.1, ?_⟩
  rcases h.2 with h1 | ⟨g, cap, cur, hv, hg, rest⟩
  · exact .inl h1
  · exact .inr ⟨g, cap, cur, hv, by omega, rest⟩

set_option maxRecDepth 100000 in
set_option maxHeartbeats 2000000 in
theorem note_new (g b n : Nat) (met : Bool) (T : List (List Nat × Value)) (D x : List Nat) (A : Option Addr) (c : Nat) (w : World) (HB : Hid (Blk w g 49 [.map (some b), .bool met])) (HM : Hid (LogMap w b T)) (hgb : g ≠ b) 
    (HD : Hid (D.length = 32)) (HDB : Hid (∀ z ∈ D, z < 256)) (HS : Hid (Src w g A c x)) (HN : Hid (x.length = n)) (hn : n ≤ 1000000) (HNK : Hid (∀ p ∈ T, p.1 ≠ D.take 4)) :
    Calls Tryd.prog 21 #[.pointer (some ⟨g, 0, none⟩), .agg (w8 D).toArray, .slice A n c] w fun e w' => e = .returned (.tuple #[]) ∧ ∃ v, Own w' w.heap.size v x ∧ Blk w' g 49 [.map (some b), .bool met] ∧ LogMap w' b (T ++ [(D.take 4, v)]) ∧ Only2 w w' g (some b) := by
  have hc0 : w.cell? ⟨g, 0, none⟩ = some (.map (some b)) := HB.out.cell 0
  have hf0 := HB.out.frozen 0
  have hgl : g < w.heap.size := HB.out.lt
  have hmn := fun W => run_eql_map_nil (P := Tryd.prog) W 47 52 22 (some b) under47
  have HTK := Lib.hid (take_four D HD.out)
  have HKB : Hid (∀ z ∈ D.take 4, z < 256) := Lib.hid fun z hz => HDB.out z (List.mem_of_mem_take hz)
  have HKL : Hid ((D.take 4).length = 4) := Lib.hid (by rw [List.length_take, HD.out]; rfl)
  go_enter Tryd.func21, Tryd.ntmps21
  go_upto_region 4 with fail
  have HBD : Hid (Blk (w.alloc (.cells (w8 D).toArray 25)) w.heap.size 25 (w8 D)) := Lib.hid (Blk.new w 25 _)
  have HB1 : Hid (Below w.heap.size w (w.alloc (.cells (w8 D).toArray 25))) := Lib.hid ((Below.refl _ _).alloc (Nat.le_refl _) _)
  generalize w.alloc (.cells (w8 D).toArray 25) = V at HBD HB1 ⊢
  have HLG := Lib.hid (HB.out.below HB1.out hgl)
  have HLM := Lib.hid (HM.out.below HB1.out)
  have HOV : Hid (Only2 w V g (some b)) := Lib.hid (Only2.of_below HB1.out)
  have HSV := Lib.hid (HS.out.below HB1.out)
  have hbl : b < V.heap.size := by
    obtain ⟨es, clock, hh, _⟩ := HLM.out.ex
    exact (Array.getElem?_eq_some_iff.1 hh).1
  have e0 := HBD.out.cell 0
  have e1 := HBD.out.cell 1
  have e2 := HBD.out.cell 2
  have e3 := HBD.out.cell 3
  rw [w8_get D 0 (by rw [HD.out]; omega)] at e0
  rw [w8_get D 1 (by rw [HD.out]; omega)] at e1
  rw [w8_get D 2 (by rw [HD.out]; omega)] at e2
  rw [w8_get D 3 (by rw [HD.out]; omega)] at e3
  obtain ⟨d0, h0⟩ : ∃ d, D.getD 0 0 = d := ⟨_, rfl⟩
  obtain ⟨d1, h1⟩ : ∃ d, D.getD 1 0 = d := ⟨_, rfl⟩
  obtain ⟨d2, h2⟩ : ∃ d, D.getD 2 0 = d := ⟨_, rfl⟩
  obtain ⟨d3, h3⟩ : ∃ d, D.getD 3 0 = d := ⟨_, rfl⟩
  rw [h0] at e0 HTK
  rw [h1] at e1 HTK
  rw [h2] at e2 HTK
  rw [h3] at e3 HTK
  rw [HTK.out] at HKB HKL HNK
  clear h0 h1 h2 h3 hc0 hf0
  have hgV : w.heap.size < V.heap.size := HBD.out.lt
  go_upto_region 5 with fail
  have HBK : Hid (Blk (V.alloc (.cells #[.int .u8 (d0 : Int), .int .u8 (d1 : Int), .int .u8 (d2 : Int), .int .u8 (d3 : Int)] 52)) V.heap.size 52 (w8 [d0, d1, d2, d3])) := Lib.hid (Blk.new V 52 (w8 [d0, d1, d2, d3]))
  have HB2 : Hid (Below V.heap.size V (V.alloc (.cells #[.int .u8 (d0 : Int), .int .u8 (d1 : Int), .int .u8 (d2 : Int), .int .u8 (d3 : Int)] 52))) := Lib.hid ((Below.refl _ _).alloc (Nat.le_refl _) _)
  generalize V.alloc (.cells #[.int .u8 (d0 : Int), .int .u8 (d1 : Int), .int .u8 (d2 : Int), .int .u8 (d3 : Int)] 52) = V2 at HBK HB2 ⊢
  have hV2 : V.heap.size < V2.heap.size := HBK.out.lt
  have HLG2 := Lib.hid (HLG.out.below HB2.out HLG.out.lt)
  have HLM2 := Lib.hid (HLM.out.below HB2.out)
  have HO2 := Lib.hid (HOV.out.more HB2.out)
  have HS2 := Lib.hid (HSV.out.below HB2.out)
  have c0' : V2.cell? ⟨g, 0, none⟩ = some (.map (some b)) := HLG2.out.cell 0
  have k0 : V2.cell? ⟨V.heap.size, 0, none⟩ = some (.int .u8 (d0 : Int)) := HBK.out.cell 0
  have k1 : V2.cell? ⟨V.heap.size, 1, none⟩ = some (.int .u8 (d1 : Int)) := HBK.out.cell 1
  have k2 : V2.cell? ⟨V.heap.size, 2, none⟩ = some (.int .u8 (d2 : Int)) := HBK.out.cell 2
  have k3 : V2.cell? ⟨V.heap.size, 3, none⟩ = some (.int .u8 (d3 : Int)) := HBK.out.cell 3
  have hlk : ∀ q, (Instr.lookup 47 (.map (some b)) (.agg #[.int .u8 (d0 : Int), .int .u8 (d1 : Int), .int .u8 (d2 : Int), .int .u8 (d3 : Int)]) true).run Tryd.prog (V2.drewN q) = .ok (.tuple #[.slice none 0 0, .bool false]) (V2.drewN q) := fun q => by
    rcases LogMap.look (w := V2.drewN q) ⟨HLM2.out.ex, HLM2.out.keys⟩ [d0, d1, d2, d3] HKL.out HKB.out with ⟨h1, _⟩ | ⟨j, v, h1, _⟩
    · exact h1
    · exact absurd rfl (HNK.out _ (List.mem_of_getElem? h1))
  clear hmn e0 e1 e2 e3
  go_quiet (fail)
  go_upto_region 7 with fail
  clear hlk c0' k0 k1 k2 k3
  have HLG3 : Hid (Blk (V2.drewN nq) g 49 [.map (some b), .bool met]) := Lib.hid HLG2.out
  have HLM3 : Hid (LogMap (V2.drewN nq) b T) := Lib.hid ⟨HLM2.out.ex, HLM2.out.keys⟩
  have HBK3 : Hid (Blk (V2.drewN nq) V.heap.size 52 (w8 [d0, d1, d2, d3])) := Lib.hid HBK.out
  have HO3 : Hid (Only2 w (V2.drewN nq) g (some b)) := Lib.hid ⟨HO2.out.os, HO2.out.tape, HO2.out.output, HO2.out.size, HO2.out.block⟩
  have HS3 : Hid (Src (V2.drewN nq) g A c x) := Lib.hid ⟨HS2.out.le, HS2.out.at_, HS2.out.lt⟩
  have hV3 : V.heap.size < (V2.drewN nq).heap.size := hV2
  generalize V2.drewN nq = V3 at HLG3 HLM3 HBK3 HO3 HS3 hV3 ⊢
  cases met
  · have c1 : V3.cell? ⟨g, 1, none⟩ = some (.bool false) := HLG3.out.cell 1
    have f1 := HLG3.out.frozen 1
    have HLG4 : Hid (Blk (V3.setCell ⟨g, 1, none⟩ (.bool false)) g 49 [.map (some b), .bool false]) := Lib.hid (HLG3.out.set_ 1 (.bool false))
    have HGR4 : Hid (V3.grownBy (V3.setCell ⟨g, 1, none⟩ (.bool false)) (some g)) := Lib.hid (only_setCell (only_refl V3 _) (.inl rfl) _)
    have HLM4 := Lib.hid (HLM3.out.far HGR4.out (by intro he; injection he with he; exact hgb he.symm))
    have HBK4 := Lib.hid (HBK3.out.grown HGR4.out (by intro he; injection he; omega))
    have HO4 : Hid (Only2 w (V3.setCell ⟨g, 1, none⟩ (.bool false)) g (some b)) := Lib.hid (HO3.out.one HGR4.out (fun i hi => by injection hi with hi; exact .inl hi.symm))
    have HS4 : Hid (Src (V3.setCell ⟨g, 1, none⟩ (.bool false)) g A c x) := Lib.hid (HS3.out.grown HGR4.out)
    have hV4 : V.heap.size < (V3.setCell ⟨g, 1, none⟩ (.bool false)).heap.size := HBK4.out.lt
    have hw4 : w.heap.size ≤ (V3.setCell ⟨g, 1, none⟩ (.bool false)).heap.size := HO4.out.size
    go_upto_region 8 with fail
    generalize V3.setCell ⟨g, 1, none⟩ (.bool false) = V4 at HLG4 HGR4 HLM4 HBK4 HO4 HS4 hV4 hw4 ⊢
    clear c1 f1 HLG3 HLM3 HBK3
    have HRUN : Hid (∀ X, Below V4.heap.size V4 X → ∀ v, ∃ X2, (Instr.mapUpdate 47 (.map (some b)) (.agg #[.int .u8 (d0 : Int), .int .u8 (d1 : Int), .int .u8 (d2 : Int), .int .u8 (d3 : Int)]) v).run Tryd.prog X = .ok () X2 ∧ LogMap X2 b (T ++ [([d0, d1, d2, d3], v)]) ∧ X.grownBy X2 (some b)) := Lib.hid fun X hX v => LogMap.new_ (HLM4.out.below hX) [d0, d1, d2, d3] HKL.out HKB.out v HNK.out
    have HK : Hid (∀ X, Below V4.heap.size V4 X → X.cell? ⟨g, 0, none⟩ = some (.map (some b)) ∧ X.cell? ⟨V.heap.size, 0, none⟩ = some (.int .u8 (d0 : Int)) ∧ X.cell? ⟨V.heap.size, 1, none⟩ = some (.int .u8 (d1 : Int)) ∧ X.cell? ⟨V.heap.size, 2, none⟩ = some (.int .u8 (d2 : Int)) ∧ X.cell? ⟨V.heap.size, 3, none⟩ = some (.int .u8 (d3 : Int))) := Lib.hid fun X hX => ⟨(HLG4.out.below hX HLG4.out.lt).cell 0, (HBK4.out.below hX hV4).cell 0, (HBK4.out.below hX hV4).cell 1, (HBK4.out.below hX hV4).cell 2, (HBK4.out.below hX hV4).cell 3⟩
    have HK2 : Hid (∀ X X2, Below V4.heap.size V4 X → X.grownBy X2 (some b) → X2.cell? ⟨g, 0, none⟩ = some (.map (some b)) ∧ X2.cell? ⟨V.heap.size, 0, none⟩ = some (.int .u8 (d0 : Int)) ∧ X2.cell? ⟨V.heap.size, 1, none⟩ = some (.int .u8 (d1 : Int)) ∧ X2.cell? ⟨V.heap.size, 2, none⟩ = some (.int .u8 (d2 : Int)) ∧ X2.cell? ⟨V.heap.size, 3, none⟩ = some (.int .u8 (d3 : Int))) := Lib.hid fun X X2 hX hg => by
      have h1 := (HLG4.out.below hX HLG4.out.lt).grown hg (by intro he; injection he with he; exact hgb he)
      have h2 := (HBK4.out.below hX hV4).grown hg (by intro he; injection he with he; omega)
      exact ⟨h1.cell 0, h2.cell 0, h2.cell 1, h2.cell 2, h2.cell 3⟩
    have HBV : Hid (b < V4.heap.size) := Lib.hid (by omega)
    have HCL : Hid (∀ X, Below V4.heap.size V4 X → Calls Tryd.prog 30 #[.slice A n c] X fun e w' => ∃ v, e = .returned v ∧ Own w' V4.heap.size v x ∧ Below V4.heap.size V4 w') := Lib.hid fun X hX => by
      refine (clone_any A c n g x X (Lib.hid (HS4.out.below hX)) HN hn).mono ?_
      rintro e w' ⟨v, rfl, hO, hB⟩
      exact ⟨v, rfl, hO.lower hX.size, hX.trans (hB.mono hX.size)⟩
    obtain ⟨c0', k0, k1, k2, k3⟩ := HK.out V4 (Below.refl _ _)
    go_region_held3 (fun w' => w'.cell? ⟨g, 0, none⟩ = some (.map (some b)) ∧ w'.cell? ⟨V.heap.size, 0, none⟩ = some (.int .u8 (d0 : Int)) ∧ w'.cell? ⟨V.heap.size, 1, none⟩ = some (.int .u8 (d1 : Int)) ∧ w'.cell? ⟨V.heap.size, 2, none⟩ = some (.int .u8 (d2 : Int)) ∧ w'.cell? ⟨V.heap.size, 3, none⟩ = some (.int .u8 (d3 : Int))) (first | exact ⟨c0', k0, k1, k2, k3⟩ | exact HK.out _ hB5 | exact HK2.out _ _ hB5 hg6)
      (first
        | (go_at_call 30
           ((with_reducible refine (HCL.out _ ?_).mono ?_))
           · exact (Below.refl _ _).drew
           rintro e X5 ⟨v5, rfl, hO5', hB5⟩
           obtain ⟨X6, hr6, hlm6, hg6⟩ := HRUN.out X5 hB5 v5))
    have hvb : v5.ownBlock ≠ some b := fun he => by have := (hO5'.base_ he).1; have := HBV.out; omega
    have hO5 : Own X5 w.heap.size v5 x := hO5'.lower hw4
    go_wp2
    go_end0
    exact ⟨rfl, v5, hO5.grown hg6 hvb, HLG4.out.below hB5 HLG4.out.lt |>.grown hg6 (by intro he; injection he with he; exact hgb he), (by rw [HTK.out]; exact hlm6), (HO4.out.more hB5).one hg6 (fun i hi => by injection hi with hi; exact .inr (.inl (by rw [hi])))⟩
  · have c1 : V3.cell? ⟨g, 1, none⟩ = some (.bool true) := HLG3.out.cell 1
    have f1 := HLG3.out.frozen 1
    have HLG4 : Hid (Blk (V3.setCell ⟨g, 1, none⟩ (.bool true)) g 49 [.map (some b), .bool true]) := Lib.hid (HLG3.out.set_ 1 (.bool true))
    have HGR4 : Hid (V3.grownBy (V3.setCell ⟨g, 1, none⟩ (.bool true)) (some g)) := Lib.hid (only_setCell (only_refl V3 _) (.inl rfl) _)
    have HLM4 := Lib.hid (HLM3.out.far HGR4.out (by intro he; injection he with he; exact hgb he.symm))
    have HBK4 := Lib.hid (HBK3.out.grown HGR4.out (by intro he; injection he; omega))
    have HO4 : Hid (Only2 w (V3.setCell ⟨g, 1, none⟩ (.bool true)) g (some b)) := Lib.hid (HO3.out.one HGR4.out (fun i hi => by injection hi with hi; exact .inl hi.symm))
    have HS4 : Hid (Src (V3.setCell ⟨g, 1, none⟩ (.bool true)) g A c x) := Lib.hid (HS3.out.grown HGR4.out)
    have hV4 : V.heap.size < (V3.setCell ⟨g, 1, none⟩ (.bool true)).heap.size := HBK4.out.lt
    have hw4 : w.heap.size ≤ (V3.setCell ⟨g, 1, none⟩ (.bool true)).heap.size := HO4.out.size
    go_upto_region 8 with fail
    generalize V3.setCell ⟨g, 1, none⟩ (.bool true) = V4 at HLG4 HGR4 HLM4 HBK4 HO4 HS4 hV4 hw4 ⊢
    clear c1 f1 HLG3 HLM3 HBK3
    have HRUN : Hid (∀ X, Below V4.heap.size V4 X → ∀ v, ∃ X2, (Instr.mapUpdate 47 (.map (some b)) (.agg #[.int .u8 (d0 : Int), .int .u8 (d1 : Int), .int .u8 (d2 : Int), .int .u8 (d3 : Int)]) v).run Tryd.prog X = .ok () X2 ∧ LogMap X2 b (T ++ [([d0, d1, d2, d3], v)]) ∧ X.grownBy X2 (some b)) := Lib.hid fun X hX v => LogMap.new_ (HLM4.out.below hX) [d0, d1, d2, d3] HKL.out HKB.out v HNK.out
    have HK : Hid (∀ X, Below V4.heap.size V4 X → X.cell? ⟨g, 0, none⟩ = some (.map (some b)) ∧ X.cell? ⟨V.heap.size, 0, none⟩ = some (.int .u8 (d0 : Int)) ∧ X.cell? ⟨V.heap.size, 1, none⟩ = some (.int .u8 (d1 : Int)) ∧ X.cell? ⟨V.heap.size, 2, none⟩ = some (.int .u8 (d2 : Int)) ∧ X.cell? ⟨V.heap.size, 3, none⟩ = some (.int .u8 (d3 : Int))) := Lib.hid fun X hX => ⟨(HLG4.out.below hX HLG4.out.lt).cell 0, (HBK4.out.below hX hV4).cell 0, (HBK4.out.below hX hV4).cell 1, (HBK4.out.below hX hV4).cell 2, (HBK4.out.below hX hV4).cell 3⟩
    have HK2 : Hid (∀ X X2, Below V4.heap.size V4 X → X.grownBy X2 (some b) → X2.cell? ⟨g, 0, none⟩ = some (.map (some b)) ∧ X2.cell? ⟨V.heap.size, 0, none⟩ = some (.int .u8 (d0 : Int)) ∧ X2.cell? ⟨V.heap.size, 1, none⟩ = some (.int .u8 (d1 : Int)) ∧ X2.cell? ⟨V.heap.size, 2, none⟩ = some (.int .u8 (d2 : Int)) ∧ X2.cell? ⟨V.heap.size, 3, none⟩ = some (.int .u8 (d3 : Int))) := Lib.hid fun X X2 hX hg => by
      have h1 := (HLG4.out.below hX HLG4.out.lt).grown hg (by intro he; injection he with he; exact hgb he)
      have h2 := (HBK4.out.below hX hV4).grown hg (by intro he; injection he with he; omega)
      exact ⟨h1.cell 0, h2.cell 0, h2.cell 1, h2.cell 2, h2.cell 3⟩
    have HBV : Hid (b < V4.heap.size) := Lib.hid (by omega)
    have HCL : Hid (∀ X, Below V4.heap.size V4 X → Calls Tryd.prog 30 #[.slice A n c] X fun e w' => ∃ v, e = .returned v ∧ Own w' V4.heap.size v x ∧ Below V4.heap.size V4 w') := Lib.hid fun X hX => by
      refine (clone_any A c n g x X (Lib.hid (HS4.out.below hX)) HN hn).mono ?_
      rintro e w' ⟨v, rfl, hO, hB⟩
      exact ⟨v, rfl, hO.lower hX.size, hX.trans (hB.mono hX.size)⟩
    obtain ⟨c0', k0, k1, k2, k3⟩ := HK.out V4 (Below.refl _ _)
    go_region_held3 (fun w' => w'.cell? ⟨g, 0, none⟩ = some (.map (some b)) ∧ w'.cell? ⟨V.heap.size, 0, none⟩ = some (.int .u8 (d0 : Int)) ∧ w'.cell? ⟨V.heap.size, 1, none⟩ = some (.int .u8 (d1 : Int)) ∧ w'.cell? ⟨V.heap.size, 2, none⟩ = some (.int .u8 (d2 : Int)) ∧ w'.cell? ⟨V.heap.size, 3, none⟩ = some (.int .u8 (d3 : Int))) (first | exact ⟨c0', k0, k1, k2, k3⟩ | exact HK.out _ hB5 | exact HK2.out _ _ hB5 hg6)
      (first
        | (go_at_call 30
           ((with_reducible refine (HCL.out _ ?_).mono ?_))
           · exact (Below.refl _ _).drew
           rintro e X5 ⟨v5, rfl, hO5', hB5⟩
           obtain ⟨X6, hr6, hlm6, hg6⟩ := HRUN.out X5 hB5 v5))
    have hvb : v5.ownBlock ≠ some b := fun he => by have := (hO5'.base_ he).1; have := HBV.out; omega
    have hO5 : Own X5 w.heap.size v5 x := hO5'.lower hw4
    go_wp2
    go_end0
    exact ⟨rfl, v5, hO5.grown hg6 hvb, HLG4.out.below hB5 HLG4.out.lt |>.grown hg6 (by intro he; injection he with he; exact hgb he), (by rw [HTK.out]; exact hlm6), (HO4.out.more hB5).one hg6 (fun i hi => by injection hi with hi; exact .inr (.inl (by rw [hi])))⟩

set_option maxRecDepth 100000 in
set_option maxHeartbeats 2000000 in
theorem note_first (g n : Nat) (met : Bool) (D x : List Nat) (A : Option Addr) (c : Nat) (w : World) (HB : Hid (Blk w g 49 [.map none, .bool met])) 
    (HD : Hid (D.length = 32)) (HDB : Hid (∀ z ∈ D, z < 256)) (HS : Hid (Src w g A c x)) (HN : Hid (x.length = n)) (hn : n ≤ 1000000) :
    Calls Tryd.prog 21 #[.pointer (some ⟨g, 0, none⟩), .agg (w8 D).toArray, .slice A n c] w fun e w' => e = .returned (.tuple #[]) ∧ ∃ b v, Own w' w.heap.size v x ∧ Blk w' g 49 [.map (some b), .bool met] ∧ LogMap w' b [(D.take 4, v)] ∧ w.heap.size ≤ b ∧ v.ownBlock ≠ some b ∧ Only2 w w' g none := by
  have hc0 : w.cell? ⟨g, 0, none⟩ = some (.map none) := HB.out.cell 0
  have hf0 := HB.out.frozen 0
  have hgl : g < w.heap.size := HB.out.lt
  have hmn := fun W => run_eql_map_nil (P := Tryd.prog) W 47 52 22 none under47
  have HTK := Lib.hid (take_four D HD.out)
  have HKB : Hid (∀ z ∈ D.take 4, z < 256) := Lib.hid fun z hz => HDB.out z (List.mem_of_mem_take hz)
  have HKL : Hid ((D.take 4).length = 4) := Lib.hid (by rw [List.length_take, HD.out]; rfl)
  have hmk := fun W => run_makeMap (P := Tryd.prog) 47 W
  go_enter Tryd.func21, Tryd.ntmps21
  go_upto_region 4 with fail
  have hz : (w.setCell ⟨g, 0, none⟩ (.map (some (w.heap.size + 1)))).heap.size = w.heap.size := by simp [World.setCell]
  have HBD : Hid (Blk (((w.setCell ⟨g, 0, none⟩ (.map (some (w.heap.size + 1)))).alloc (.cells (w8 D).toArray 25)).alloc (.map #[] 0)) w.heap.size 25 (w8 D)) := Lib.hid (by
    have h := (Blk.new (w.setCell ⟨g, 0, none⟩ (.map (some (w.heap.size + 1)))) 25 (w8 D)).alloc (.map #[] 0)
    rw [hz] at h
    exact h)
  have HLG : Hid (Blk (((w.setCell ⟨g, 0, none⟩ (.map (some (w.heap.size + 1)))).alloc (.cells (w8 D).toArray 25)).alloc (.map #[] 0)) g 49 [.map (some (w.heap.size + 1)), .bool met]) := Lib.hid (((HB.out.set_ 0 (.map (some (w.heap.size + 1)))).alloc _).alloc _)
  have HLM : Hid (LogMap (((w.setCell ⟨g, 0, none⟩ (.map (some (w.heap.size + 1)))).alloc (.cells (w8 D).toArray 25)).alloc (.map #[] 0)) (w.heap.size + 1) []) := Lib.hid ⟨⟨#[], 0, by
    have h := heap_alloc_last ((w.setCell ⟨g, 0, none⟩ (.map (some (w.heap.size + 1)))).alloc (.cells (w8 D).toArray 25)) (.map #[] 0)
    rw [World.size_alloc, hz] at h
    exact h, rfl⟩, by simp⟩
  have HGS : Hid (w.grownBy (w.setCell ⟨g, 0, none⟩ (.map (some (w.heap.size + 1)))) (some g)) := Lib.hid (only_setCell (only_refl _ (some g)) (.inl rfl) _)
  have HBS : Hid (Below (w.setCell ⟨g, 0, none⟩ (.map (some (w.heap.size + 1)))).heap.size (w.setCell ⟨g, 0, none⟩ (.map (some (w.heap.size + 1)))) (((w.setCell ⟨g, 0, none⟩ (.map (some (w.heap.size + 1)))).alloc (.cells (w8 D).toArray 25)).alloc (.map #[] 0))) := Lib.hid (((Below.refl _ _).alloc (Nat.le_refl _) _).alloc (by simp) _)
  have HOV : Hid (Only2 w (((w.setCell ⟨g, 0, none⟩ (.map (some (w.heap.size + 1)))).alloc (.cells (w8 D).toArray 25)).alloc (.map #[] 0)) g none) := Lib.hid (((Only2.of_below (Below.refl _ _)).one HGS.out (fun i hi => by injection hi with hi; exact .inl hi.symm)).more HBS.out)
  have HSV : Hid (Src (((w.setCell ⟨g, 0, none⟩ (.map (some (w.heap.size + 1)))).alloc (.cells (w8 D).toArray 25)).alloc (.map #[] 0)) g A c x) := Lib.hid ((HS.out.grown HGS.out).below HBS.out)
  clear HGS HBS hz
  have hgb : g ≠ w.heap.size + 1 := by omega
  have hbw : w.heap.size ≤ w.heap.size + 1 := by omega
  obtain ⟨b, hbe⟩ : ∃ b, w.heap.size + 1 = b := ⟨_, rfl⟩
  rw [hbe] at HBD HLG HLM HOV HSV hgb hbw ⊢
  clear hbe hmk
  have HNK : Hid (∀ p ∈ ([] : List (List Nat × Value)), p.1 ≠ D.take 4) := Lib.hid (by simp)
  generalize ((w.setCell ⟨g, 0, none⟩ (.map (some b))).alloc (.cells (w8 D).toArray 25)).alloc (.map #[] 0) = V at HBD HLG HLM HOV HSV ⊢
  have hbl : b < V.heap.size := by
    obtain ⟨es, clock, hh, _⟩ := HLM.out.ex
    exact (Array.getElem?_eq_some_iff.1 hh).1
  have e0 := HBD.out.cell 0
  have e1 := HBD.out.cell 1
  have e2 := HBD.out.cell 2
  have e3 := HBD.out.cell 3
  rw [w8_get D 0 (by rw [HD.out]; omega)] at e0
  rw [w8_get D 1 (by rw [HD.out]; omega)] at e1
  rw [w8_get D 2 (by rw [HD.out]; omega)] at e2
  rw [w8_get D 3 (by rw [HD.out]; omega)] at e3
  obtain ⟨d0, h0⟩ : ∃ d, D.getD 0 0 = d := ⟨_, rfl⟩
  obtain ⟨d1, h1⟩ : ∃ d, D.getD 1 0 = d := ⟨_, rfl⟩
  obtain ⟨d2, h2⟩ : ∃ d, D.getD 2 0 = d := ⟨_, rfl⟩
  obtain ⟨d3, h3⟩ : ∃ d, D.getD 3 0 = d := ⟨_, rfl⟩
  rw [h0] at e0 HTK
  rw [h1] at e1 HTK
  rw [h2] at e2 HTK
  rw [h3] at e3 HTK
  rw [HTK.out] at HKB HKL HNK
  clear h0 h1 h2 h3 hc0 hf0
  have hgV : w.heap.size < V.heap.size := HBD.out.lt
  go_upto_region 5 with fail
  have HBK : Hid (Blk (V.alloc (.cells #[.int .u8 (d0 : Int), .int .u8 (d1 : Int), .int .u8 (d2 : Int), .int .u8 (d3 : Int)] 52)) V.heap.size 52 (w8 [d0, d1, d2, d3])) := Lib.hid (Blk.new V 52 (w8 [d0, d1, d2, d3]))
  have HB2 : Hid (Below V.heap.size V (V.alloc (.cells #[.int .u8 (d0 : Int), .int .u8 (d1 : Int), .int .u8 (d2 : Int), .int .u8 (d3 : Int)] 52))) := Lib.hid ((Below.refl _ _).alloc (Nat.le_refl _) _)
  generalize V.alloc (.cells #[.int .u8 (d0 : Int), .int .u8 (d1 : Int), .int .u8 (d2 : Int), .int .u8 (d3 : Int)] 52) = V2 at HBK HB2 ⊢
  have hV2 : V.heap.size < V2.heap.size := HBK.out.lt
  have HLG2 := Lib.hid (HLG.out.below HB2.out HLG.out.lt)
  have HLM2 := Lib.hid (HLM.out.below HB2.out)
  have HO2 := Lib.hid (HOV.out.more HB2.out)
  have HS2 := Lib.hid (HSV.out.below HB2.out)
  have c0' : V2.cell? ⟨g, 0, none⟩ = some (.map (some b)) := HLG2.out.cell 0
  have k0 : V2.cell? ⟨V.heap.size, 0, none⟩ = some (.int .u8 (d0 : Int)) := HBK.out.cell 0
  have k1 : V2.cell? ⟨V.heap.size, 1, none⟩ = some (.int .u8 (d1 : Int)) := HBK.out.cell 1
  have k2 : V2.cell? ⟨V.heap.size, 2, none⟩ = some (.int .u8 (d2 : Int)) := HBK.out.cell 2
  have k3 : V2.cell? ⟨V.heap.size, 3, none⟩ = some (.int .u8 (d3 : Int)) := HBK.out.cell 3
  have hlk : ∀ q, (Instr.lookup 47 (.map (some b)) (.agg #[.int .u8 (d0 : Int), .int .u8 (d1 : Int), .int .u8 (d2 : Int), .int .u8 (d3 : Int)]) true).run Tryd.prog (V2.drewN q) = .ok (.tuple #[.slice none 0 0, .bool false]) (V2.drewN q) := fun q => by
    rcases LogMap.look (w := V2.drewN q) ⟨HLM2.out.ex, HLM2.out.keys⟩ [d0, d1, d2, d3] HKL.out HKB.out with ⟨h1, _⟩ | ⟨j, v, h1, _⟩
    · exact h1
    · exact absurd rfl (HNK.out _ (List.mem_of_getElem? h1))
  clear hmn e0 e1 e2 e3
  go_quiet (fail)
  go_upto_region 7 with fail
  clear hlk c0' k0 k1 k2 k3
  have HLG3 : Hid (Blk (V2.drewN nq) g 49 [.map (some b), .bool met]) := Lib.hid HLG2.out
  have HLM3 : Hid (LogMap (V2.drewN nq) b []) := Lib.hid ⟨HLM2.out.ex, HLM2.out.keys⟩
  have HBK3 : Hid (Blk (V2.drewN nq) V.heap.size 52 (w8 [d0, d1, d2, d3])) := Lib.hid HBK.out
  have HO3 : Hid (Only2 w (V2.drewN nq) g none) := Lib.hid ⟨HO2.out.os, HO2.out.tape, HO2.out.output, HO2.out.size, HO2.out.block⟩
  have HS3 : Hid (Src (V2.drewN nq) g A c x) := Lib.hid ⟨HS2.out.le, HS2.out.at_, HS2.out.lt⟩
  have hV3 : V.heap.size < (V2.drewN nq).heap.size := hV2
  generalize V2.drewN nq = V3 at HLG3 HLM3 HBK3 HO3 HS3 hV3 ⊢
  cases met
  · have c1 : V3.cell? ⟨g, 1, none⟩ = some (.bool false) := HLG3.out.cell 1
    have f1 := HLG3.out.frozen 1
    have HLG4 : Hid (Blk (V3.setCell ⟨g, 1, none⟩ (.bool false)) g 49 [.map (some b), .bool false]) := Lib.hid (HLG3.out.set_ 1 (.bool false))
    have HGR4 : Hid (V3.grownBy (V3.setCell ⟨g, 1, none⟩ (.bool false)) (some g)) := Lib.hid (only_setCell (only_refl V3 _) (.inl rfl) _)
    have HLM4 := Lib.hid (HLM3.out.far HGR4.out (by intro he; injection he with he; exact hgb he.symm))
    have HBK4 := Lib.hid (HBK3.out.grown HGR4.out (by intro he; injection he; omega))
    have HO4 : Hid (Only2 w (V3.setCell ⟨g, 1, none⟩ (.bool false)) g none) := Lib.hid (HO3.out.one HGR4.out (fun i hi => by injection hi with hi; exact .inl hi.symm))
    have HS4 : Hid (Src (V3.setCell ⟨g, 1, none⟩ (.bool false)) g A c x) := Lib.hid (HS3.out.grown HGR4.out)
    have hV4 : V.heap.size < (V3.setCell ⟨g, 1, none⟩ (.bool false)).heap.size := HBK4.out.lt
    have hw4 : w.heap.size ≤ (V3.setCell ⟨g, 1, none⟩ (.bool false)).heap.size := HO4.out.size
    go_upto_region 8 with fail
    generalize V3.setCell ⟨g, 1, none⟩ (.bool false) = V4 at HLG4 HGR4 HLM4 HBK4 HO4 HS4 hV4 hw4 ⊢
    clear c1 f1 HLG3 HLM3 HBK3
    have HRUN : Hid (∀ X, Below V4.heap.size V4 X → ∀ v, ∃ X2, (Instr.mapUpdate 47 (.map (some b)) (.agg #[.int .u8 (d0 : Int), .int .u8 (d1 : Int), .int .u8 (d2 : Int), .int .u8 (d3 : Int)]) v).run Tryd.prog X = .ok () X2 ∧ LogMap X2 b ([] ++ [([d0, d1, d2, d3], v)]) ∧ X.grownBy X2 (some b)) := Lib.hid fun X hX v => LogMap.new_ (HLM4.out.below hX) [d0, d1, d2, d3] HKL.out HKB.out v HNK.out
    have HK : Hid (∀ X, Below V4.heap.size V4 X → X.cell? ⟨g, 0, none⟩ = some (.map (some b)) ∧ X.cell? ⟨V.heap.size, 0, none⟩ = some (.int .u8 (d0 : Int)) ∧ X.cell? ⟨V.heap.size, 1, none⟩ = some (.int .u8 (d1 : Int)) ∧ X.cell? ⟨V.heap.size, 2, none⟩ = some (.int .u8 (d2 : Int)) ∧ X.cell? ⟨V.heap.size, 3, none⟩ = some (.int .u8 (d3 : Int))) := Lib.hid fun X hX => ⟨(HLG4.out.below hX HLG4.out.lt).cell 0, (HBK4.out.below hX hV4).cell 0, (HBK4.out.below hX hV4).cell 1, (HBK4.out.below hX hV4).cell 2, (HBK4.out.below hX hV4).cell 3⟩
    have HK2 : Hid (∀ X X2, Below V4.heap.size V4 X → X.grownBy X2 (some b) → X2.cell? ⟨g, 0, none⟩ = some (.map (some b)) ∧ X2.cell? ⟨V.heap.size, 0, none⟩ = some (.int .u8 (d0 : Int)) ∧ X2.cell? ⟨V.heap.size, 1, none⟩ = some (.int .u8 (d1 : Int)) ∧ X2.cell? ⟨V.heap.size, 2, none⟩ = some (.int .u8 (d2 : Int)) ∧ X2.cell? ⟨V.heap.size, 3, none⟩ = some (.int .u8 (d3 : Int))) := Lib.hid fun X X2 hX hg => by
      have h1 := (HLG4.out.below hX HLG4.out.lt).grown hg (by intro he; injection he with he; exact hgb he)
      have h2 := (HBK4.out.below hX hV4).grown hg (by intro he; injection he with he; omega)
      exact ⟨h1.cell 0, h2.cell 0, h2.cell 1, h2.cell 2, h2.cell 3⟩
    have HBV : Hid (b < V4.heap.size) := Lib.hid (by omega)
    have HCL : Hid (∀ X, Below V4.heap.size V4 X → Calls Tryd.prog 30 #[.slice A n c] X fun e w' => ∃ v, e = .returned v ∧ Own w' V4.heap.size v x ∧ Below V4.heap.size V4 w') := Lib.hid fun X hX => by
      refine (clone_any A c n g x X (Lib.hid (HS4.out.below hX)) HN hn).mono ?_
      rintro e w' ⟨v, rfl, hO, hB⟩
      exact ⟨v, rfl, hO.lower hX.size, hX.trans (hB.mono hX.size)⟩
    obtain ⟨c0', k0, k1, k2, k3⟩ := HK.out V4 (Below.refl _ _)
    go_region_held3 (fun w' => w'.cell? ⟨g, 0, none⟩ = some (.map (some b)) ∧ w'.cell? ⟨V.heap.size, 0, none⟩ = some (.int .u8 (d0 : Int)) ∧ w'.cell? ⟨V.heap.size, 1, none⟩ = some (.int .u8 (d1 : Int)) ∧ w'.cell? ⟨V.heap.size, 2, none⟩ = some (.int .u8 (d2 : Int)) ∧ w'.cell? ⟨V.heap.size, 3, none⟩ = some (.int .u8 (d3 : Int))) (first | exact ⟨c0', k0, k1, k2, k3⟩ | exact HK.out _ hB5 | exact HK2.out _ _ hB5 hg6)
      (first
        | (go_at_call 30
           ((with_reducible refine (HCL.out _ ?_).mono ?_))
           · exact (Below.refl _ _).drew
           rintro e X5 ⟨v5, rfl, hO5', hB5⟩
           obtain ⟨X6, hr6, hlm6, hg6⟩ := HRUN.out X5 hB5 v5))
    have hvb : v5.ownBlock ≠ some b := fun he => by have := (hO5'.base_ he).1; have := HBV.out; omega
    have hO5 : Own X5 w.heap.size v5 x := hO5'.lower hw4
    go_wp2
    go_end0
    exact ⟨rfl, b, v5, hO5.grown hg6 hvb, HLG4.out.below hB5 HLG4.out.lt |>.grown hg6 (by intro he; injection he with he; exact hgb he), (by rw [HTK.out]; exact hlm6), hbw, hvb, (HO4.out.more hB5).one hg6 (fun i hi => by injection hi with hi; exact .inr (.inr (by omega)))⟩
  · have c1 : V3.cell? ⟨g, 1, none⟩ = some (.bool true) := HLG3.out.cell 1
    have f1 := HLG3.out.frozen 1
    have HLG4 : Hid (Blk (V3.setCell ⟨g, 1, none⟩ (.bool true)) g 49 [.map (some b), .bool true]) := Lib.hid (HLG3.out.set_ 1 (.bool true))
    have HGR4 : Hid (V3.grownBy (V3.setCell ⟨g, 1, none⟩ (.bool true)) (some g)) := Lib.hid (only_setCell (only_refl V3 _) (.inl rfl) _)
    have HLM4 := Lib.hid (HLM3.out.far HGR4.out (by intro he; injection he with he; exact hgb he.symm))
    have HBK4 := Lib.hid (HBK3.out.grown HGR4.out (by intro he; injection he; omega))
    have HO4 : Hid (Only2 w (V3.setCell ⟨g, 1, none⟩ (.bool true)) g none) := Lib.hid (HO3.out.one HGR4.out (fun i hi => by injection hi with hi; exact .inl hi.symm))
    have HS4 : Hid (Src (V3.setCell ⟨g, 1, none⟩ (.bool true)) g A c x) := Lib.hid (HS3.out.grown HGR4.out)
    have hV4 : V.heap.size < (V3.setCell ⟨g, 1, none⟩ (.bool true)).heap.size := HBK4.out.lt
    have hw4 : w.heap.size ≤ (V3.setCell ⟨g, 1, none⟩ (.bool true)).heap.size := HO4.out.size
    go_upto_region 8 with fail
    generalize V3.setCell ⟨g, 1, none⟩ (.bool true) = V4 at HLG4 HGR4 HLM4 HBK4 HO4 HS4 hV4 hw4 ⊢
    clear c1 f1 HLG3 HLM3 HBK3
    have HRUN : Hid (∀ X, Below V4.heap.size V4 X → ∀ v, ∃ X2, (Instr.mapUpdate 47 (.map (some b)) (.agg #[.int .u8 (d0 : Int), .int .u8 (d1 : Int), .int .u8 (d2 : Int), .int .u8 (d3 : Int)]) v).run Tryd.prog X = .ok () X2 ∧ LogMap X2 b ([] ++ [([d0, d1, d2, d3], v)]) ∧ X.grownBy X2 (some b)) := Lib.hid fun X hX v => LogMap.new_ (HLM4.out.below hX) [d0, d1, d2, d3] HKL.out HKB.out v HNK.out
    have HK : Hid (∀ X, Below V4.heap.size V4 X → X.cell? ⟨g, 0, none⟩ = some (.map (some b)) ∧ X.cell? ⟨V.heap.size, 0, none⟩ = some (.int .u8 (d0 : Int)) ∧ X.cell? ⟨V.heap.size, 1, none⟩ = some (.int .u8 (d1 : Int)) ∧ X.cell? ⟨V.heap.size, 2, none⟩ = some (.int .u8 (d2 : Int)) ∧ X.cell? ⟨V.heap.size, 3, none⟩ = some (.int .u8 (d3 : Int))) := Lib.hid fun X hX => ⟨(HLG4.out.below hX HLG4.out.lt).cell 0, (HBK4.out.below hX hV4).cell 0, (HBK4.out.below hX hV4).cell 1, (HBK4.out.below hX hV4).cell 2, (HBK4.out.below hX hV4).cell 3⟩
    have HK2 : Hid (∀ X X2, Below V4.heap.size V4 X → X.grownBy X2 (some b) → X2.cell? ⟨g, 0, none⟩ = some (.map (some b)) ∧ X2.cell? ⟨V.heap.size, 0, none⟩ = some (.int .u8 (d0 : Int)) ∧ X2.cell? ⟨V.heap.size, 1, none⟩ = some (.int .u8 (d1 : Int)) ∧ X2.cell? ⟨V.heap.size, 2, none⟩ = some (.int .u8 (d2 : Int)) ∧ X2.cell? ⟨V.heap.size, 3, none⟩ = some (.int .u8 (d3 : Int))) := Lib.hid fun X X2 hX hg => by
      have h1 := (HLG4.out.below hX HLG4.out.lt).grown hg (by intro he; injection he with he; exact hgb he)
      have h2 := (HBK4.out.below hX hV4).grown hg (by intro he; injection he with he; omega)
      exact ⟨h1.cell 0, h2.cell 0, h2.cell 1, h2.cell 2, h2.cell 3⟩
    have HBV : Hid (b < V4.heap.size) := Lib.hid (by omega)
    have HCL : Hid (∀ X, Below V4.heap.size V4 X → Calls Tryd.prog 30 #[.slice A n c] X fun e w' => ∃ v, e = .returned v ∧ Own w' V4.heap.size v x ∧ Below V4.heap.size V4 w') := Lib.hid fun X hX => by
      refine (clone_any A c n g x X (Lib.hid (HS4.out.below hX)) HN hn).mono ?_
      rintro e w' ⟨v, rfl, hO, hB⟩
      exact ⟨v, rfl, hO.lower hX.size, hX.trans (hB.mono hX.size)⟩
    obtain ⟨c0', k0, k1, k2, k3⟩ := HK.out V4 (Below.refl _ _)
    go_region_held3 (fun w' => w'.cell? ⟨g, 0, none⟩ = some (.map (some b)) ∧ w'.cell? ⟨V.heap.size, 0, none⟩ = some (.int .u8 (d0 : Int)) ∧ w'.cell? ⟨V.heap.size, 1, none⟩ = some (.int .u8 (d1 : Int)) ∧ w'.cell? ⟨V.heap.size, 2, none⟩ = some (.int .u8 (d2 : Int)) ∧ w'.cell? ⟨V.heap.size, 3, none⟩ = some (.int .u8 (d3 : Int))) (first | exact ⟨c0', k0, k1, k2, k3⟩ | exact HK.out _ hB5 | exact HK2.out _ _ hB5 hg6)
      (first
        | (go_at_call 30
           ((with_reducible refine (HCL.out _ ?_).mono ?_))
           · exact (Below.refl _ _).drew
           rintro e X5 ⟨v5, rfl, hO5', hB5⟩
           obtain ⟨X6, hr6, hlm6, hg6⟩ := HRUN.out X5 hB5 v5))
    have hvb : v5.ownBlock ≠ some b := fun he => by have := (hO5'.base_ he).1; have := HBV.out; omega
    have hO5 : Own X5 w.heap.size v5 x := hO5'.lower hw4
    go_wp2
    go_end0
    exact ⟨rfl, b, v5, hO5.grown hg6 hvb, HLG4.out.below hB5 HLG4.out.lt |>.grown hg6 (by intro he; injection he with he; exact hgb he), (by rw [HTK.out]; exact hlm6), hbw, hvb, (HO4.out.more hB5).one hg6 (fun i hi => by injection hi with hi; exact .inr (.inr (by omega)))⟩

set_option maxRecDepth 100000 in
set_option maxHeartbeats 2000000 in
theorem note_same (g b n : Nat) (met : Bool) (T : List (List Nat × Value)) (D x : List Nat) (A : Option Addr) (c : Nat) (w : World) (HB : Hid (Blk w g 49 [.map (some b), .bool met])) (HM : Hid (LogMap w b T)) (hgb : g ≠ b) 
    (HD : Hid (D.length = 32)) (HDB : Hid (∀ z ∈ D, z < 256)) (HS : Hid (Src w g A c x)) (HN : Hid (x.length = n)) (hn : n ≤ 1000000) (j : Nat) (A0 : Option Addr) (n0 c0 : Nat) (y : List Nat) (HJ : Hid (T[j]? = some (D.take 4, .slice A0 n0 c0))) (HU : Hid (∀ i u, T[i]? = some (D.take 4, u) → i = j)) (HS0 : Hid (Src w g A0 c0 y)) (HN0 : Hid (y.length = n0)) (HXY : Hid (y = x)) :
    Calls Tryd.prog 21 #[.pointer (some ⟨g, 0, none⟩), .agg (w8 D).toArray, .slice A n c] w fun e w' => e = .returned (.tuple #[]) ∧ Below w.heap.size w w' := by
  have hc0 : w.cell? ⟨g, 0, none⟩ = some (.map (some b)) := HB.out.cell 0
  have hf0 := HB.out.frozen 0
  have hgl : g < w.heap.size := HB.out.lt
  have hmn := fun W => run_eql_map_nil (P := Tryd.prog) W 47 52 22 (some b) under47
  have HTK := Lib.hid (take_four D HD.out)
  have HKB : Hid (∀ z ∈ D.take 4, z < 256) := Lib.hid fun z hz => HDB.out z (List.mem_of_mem_take hz)
  have HKL : Hid ((D.take 4).length = 4) := Lib.hid (by rw [List.length_take, HD.out]; rfl)
  go_enter Tryd.func21, Tryd.ntmps21
  go_upto_region 4 with fail
  have HBD : Hid (Blk (w.alloc (.cells (w8 D).toArray 25)) w.heap.size 25 (w8 D)) := Lib.hid (Blk.new w 25 _)
  have HB1 : Hid (Below w.heap.size w (w.alloc (.cells (w8 D).toArray 25))) := Lib.hid ((Below.refl _ _).alloc (Nat.le_refl _) _)
  generalize w.alloc (.cells (w8 D).toArray 25) = V at HBD HB1 ⊢
  have HLG := Lib.hid (HB.out.below HB1.out hgl)
  have HLM := Lib.hid (HM.out.below HB1.out)
  have HOV : Hid (Only2 w V g (some b)) := Lib.hid (Only2.of_below HB1.out)
  have HSV := Lib.hid (HS.out.below HB1.out)
  have HSY := Lib.hid (HS0.out.below HB1.out)
  have hbl : b < V.heap.size := by
    obtain ⟨es, clock, hh, _⟩ := HLM.out.ex
    exact (Array.getElem?_eq_some_iff.1 hh).1
  have e0 := HBD.out.cell 0
  have e1 := HBD.out.cell 1
  have e2 := HBD.out.cell 2
  have e3 := HBD.out.cell 3
  rw [w8_get D 0 (by rw [HD.out]; omega)] at e0
  rw [w8_get D 1 (by rw [HD.out]; omega)] at e1
  rw [w8_get D 2 (by rw [HD.out]; omega)] at e2
  rw [w8_get D 3 (by rw [HD.out]; omega)] at e3
  obtain ⟨d0, h0⟩ : ∃ d, D.getD 0 0 = d := ⟨_, rfl⟩
  obtain ⟨d1, h1⟩ : ∃ d, D.getD 1 0 = d := ⟨_, rfl⟩
  obtain ⟨d2, h2⟩ : ∃ d, D.getD 2 0 = d := ⟨_, rfl⟩
  obtain ⟨d3, h3⟩ : ∃ d, D.getD 3 0 = d := ⟨_, rfl⟩
  rw [h0] at e0 HTK
  rw [h1] at e1 HTK
  rw [h2] at e2 HTK
  rw [h3] at e3 HTK
  rw [HTK.out] at HKB HKL HJ HU
  clear h0 h1 h2 h3 hc0 hf0
  have hgV : w.heap.size < V.heap.size := HBD.out.lt
  go_upto_region 5 with fail
  have HBK : Hid (Blk (V.alloc (.cells #[.int .u8 (d0 : Int), .int .u8 (d1 : Int), .int .u8 (d2 : Int), .int .u8 (d3 : Int)] 52)) V.heap.size 52 (w8 [d0, d1, d2, d3])) := Lib.hid (Blk.new V 52 (w8 [d0, d1, d2, d3]))
  have HB2 : Hid (Below V.heap.size V (V.alloc (.cells #[.int .u8 (d0 : Int), .int .u8 (d1 : Int), .int .u8 (d2 : Int), .int .u8 (d3 : Int)] 52))) := Lib.hid ((Below.refl _ _).alloc (Nat.le_refl _) _)
  generalize V.alloc (.cells #[.int .u8 (d0 : Int), .int .u8 (d1 : Int), .int .u8 (d2 : Int), .int .u8 (d3 : Int)] 52) = V2 at HBK HB2 ⊢
  have hV2 : V.heap.size < V2.heap.size := HBK.out.lt
  have HLG2 := Lib.hid (HLG.out.below HB2.out HLG.out.lt)
  have HLM2 := Lib.hid (HLM.out.below HB2.out)
  have HO2 := Lib.hid (HOV.out.more HB2.out)
  have HS2 := Lib.hid (HSV.out.below HB2.out)
  have c0' : V2.cell? ⟨g, 0, none⟩ = some (.map (some b)) := HLG2.out.cell 0
  have k0 : V2.cell? ⟨V.heap.size, 0, none⟩ = some (.int .u8 (d0 : Int)) := HBK.out.cell 0
  have k1 : V2.cell? ⟨V.heap.size, 1, none⟩ = some (.int .u8 (d1 : Int)) := HBK.out.cell 1
  have k2 : V2.cell? ⟨V.heap.size, 2, none⟩ = some (.int .u8 (d2 : Int)) := HBK.out.cell 2
  have k3 : V2.cell? ⟨V.heap.size, 3, none⟩ = some (.int .u8 (d3 : Int)) := HBK.out.cell 3
  have HSY2 := Lib.hid (HSY.out.below HB2.out)
  have hlk : ∀ q, (Instr.lookup 47 (.map (some b)) (.agg #[.int .u8 (d0 : Int), .int .u8 (d1 : Int), .int .u8 (d2 : Int), .int .u8 (d3 : Int)]) true).run Tryd.prog (V2.drewN q) = .ok (.tuple #[.slice A0 n0 c0, .bool true]) (V2.drewN q) := fun q => by
    rcases LogMap.look (w := V2.drewN q) ⟨HLM2.out.ex, HLM2.out.keys⟩ [d0, d1, d2, d3] HKL.out HKB.out with ⟨_, h1⟩ | ⟨i, v, h1, h2⟩
    · exact absurd rfl (h1 _ (List.mem_of_getElem? HJ.out))
    · have hij := HU.out i v h1
      rw [hij, HJ.out] at h1
      injection h1 with h1
      have hv := (Prod.mk.inj h1).2
      rw [← hv] at h2
      exact h2
  clear hmn e0 e1 e2 e3
  go_quiet (fail)
  clear hlk c0' k0 k1 k2 k3
  have HLG3 : Hid (Blk (V2.drewN nq) g 49 [.map (some b), .bool met]) := Lib.hid HLG2.out
  have HLM3 : Hid (LogMap (V2.drewN nq) b T) := Lib.hid ⟨HLM2.out.ex, HLM2.out.keys⟩
  have HBK3 : Hid (Blk (V2.drewN nq) V.heap.size 52 (w8 [d0, d1, d2, d3])) := Lib.hid HBK.out
  have HO3 : Hid (Only2 w (V2.drewN nq) g (some b)) := Lib.hid ⟨HO2.out.os, HO2.out.tape, HO2.out.output, HO2.out.size, HO2.out.block⟩
  have HS3 : Hid (Src (V2.drewN nq) g A c x) := Lib.hid ⟨HS2.out.le, HS2.out.at_, HS2.out.lt⟩
  have hV3 : V.heap.size < (V2.drewN nq).heap.size := hV2
  have HSY3 : Hid (Src (V2.drewN nq) g A0 c0 y) := Lib.hid ⟨HSY2.out.le, HSY2.out.at_, HSY2.out.lt⟩
  have HBW3 : Hid (Below w.heap.size w (V2.drewN nq)) := Lib.hid (below_drewN (HB1.out.trans (HB2.out.mono HB1.out.size)) nq)
  go_wp2_with fail
  generalize V2.drewN nq = V3 at HLG3 HLM3 HBK3 HO3 HS3 HSY3 HBW3 hV3 ⊢
  refine (equal_any A0 A c0 c n0 n g g y x V3 HSY3 HS3 HN0 HN).mono ?_
  rintro e w' ⟨rfl, rfl⟩
  rw [show decide (y = x) = true by simpa using HXY.out]
  go_wp2
  exact bodyPost_ret (v := .tuple #[]) (by simp [results, Tryd.results21, go_sem]) rfl ⟨rfl, HBW3.out⟩

set_option maxRecDepth 100000 in
set_option maxHeartbeats 2000000 in
theorem note_unlike (g b n : Nat) (met : Bool) (T : List (List Nat × Value)) (D x : List Nat) (A : Option Addr) (c : Nat) (w : World) (HB : Hid (Blk w g 49 [.map (some b), .bool met])) (HM : Hid (LogMap w b T)) (hgb : g ≠ b) 
    (HD : Hid (D.length = 32)) (HDB : Hid (∀ z ∈ D, z < 256)) (HS : Hid (Src w g A c x)) (HN : Hid (x.length = n)) (hn : n ≤ 1000000) (j : Nat) (A0 : Option Addr) (n0 c0 : Nat) (y : List Nat) (HJ : Hid (T[j]? = some (D.take 4, .slice A0 n0 c0))) (HU : Hid (∀ i u, T[i]? = some (D.take 4, u) → i = j)) (HS0 : Hid (Src w g A0 c0 y)) (HN0 : Hid (y.length = n0)) (HXY : Hid (¬ y = x)) :
    Calls Tryd.prog 21 #[.pointer (some ⟨g, 0, none⟩), .agg (w8 D).toArray, .slice A n c] w fun e w' => e = .returned (.tuple #[]) ∧ ∃ v, Own w' w.heap.size v x ∧ Blk w' g 49 [.map (some b), .bool true] ∧ LogMap w' b (T.set j (D.take 4, v)) ∧ Only2 w w' g (some b) := by
  have hc0 : w.cell? ⟨g, 0, none⟩ = some (.map (some b)) := HB.out.cell 0
  have hf0 := HB.out.frozen 0
  have hgl : g < w.heap.size := HB.out.lt
  have hmn := fun W => run_eql_map_nil (P := Tryd.prog) W 47 52 22 (some b) under47
  have HTK := Lib.hid (take_four D HD.out)
  have HKB : Hid (∀ z ∈ D.take 4, z < 256) := Lib.hid fun z hz => HDB.out z (List.mem_of_mem_take hz)
  have HKL : Hid ((D.take 4).length = 4) := Lib.hid (by rw [List.length_take, HD.out]; rfl)
  go_enter Tryd.func21, Tryd.ntmps21
  go_upto_region 4 with fail
  have HBD : Hid (Blk (w.alloc (.cells (w8 D).toArray 25)) w.heap.size 25 (w8 D)) := Lib.hid (Blk.new w 25 _)
  have HB1 : Hid (Below w.heap.size w (w.alloc (.cells (w8 D).toArray 25))) := Lib.hid ((Below.refl _ _).alloc (Nat.le_refl _) _)
  generalize w.alloc (.cells (w8 D).toArray 25) = V at HBD HB1 ⊢
  have HLG := Lib.hid (HB.out.below HB1.out hgl)
  have HLM := Lib.hid (HM.out.below HB1.out)
  have HOV : Hid (Only2 w V g (some b)) := Lib.hid (Only2.of_below HB1.out)
  have HSV := Lib.hid (HS.out.below HB1.out)
  have HSY := Lib.hid (HS0.out.below HB1.out)
  have hbl : b < V.heap.size := by
    obtain ⟨es, clock, hh, _⟩ := HLM.out.ex
    exact (Array.getElem?_eq_some_iff.1 hh).1
  have e0 := HBD.out.cell 0
  have e1 := HBD.out.cell 1
  have e2 := HBD.out.cell 2
  have e3 := HBD.out.cell 3
  rw [w8_get D 0 (by rw [HD.out]; omega)] at e0
  rw [w8_get D 1 (by rw [HD.out]; omega)] at e1
  rw [w8_get D 2 (by rw [HD.out]; omega)] at e2
  rw [w8_get D 3 (by rw [HD.out]; omega)] at e3
  obtain ⟨d0, h0⟩ : ∃ d, D.getD 0 0 = d := ⟨_, rfl⟩
  obtain ⟨d1, h1⟩ : ∃ d, D.getD 1 0 = d := ⟨_, rfl⟩
  obtain ⟨d2, h2⟩ : ∃ d, D.getD 2 0 = d := ⟨_, rfl⟩
  obtain ⟨d3, h3⟩ : ∃ d, D.getD 3 0 = d := ⟨_, rfl⟩
  rw [h0] at e0 HTK
  rw [h1] at e1 HTK
  rw [h2] at e2 HTK
  rw [h3] at e3 HTK
  rw [HTK.out] at HKB HKL HJ HU
  clear h0 h1 h2 h3 hc0 hf0
  have hgV : w.heap.size < V.heap.size := HBD.out.lt
  go_upto_region 5 with fail
  have HBK : Hid (Blk (V.alloc (.cells #[.int .u8 (d0 : Int), .int .u8 (d1 : Int), .int .u8 (d2 : Int), .int .u8 (d3 : Int)] 52)) V.heap.size 52 (w8 [d0, d1, d2, d3])) := Lib.hid (Blk.new V 52 (w8 [d0, d1, d2, d3]))
  have HB2 : Hid (Below V.heap.size V (V.alloc (.cells #[.int .u8 (d0 : Int), .int .u8 (d1 : Int), .int .u8 (d2 : Int), .int .u8 (d3 : Int)] 52))) := Lib.hid ((Below.refl _ _).alloc (Nat.le_refl _) _)
  generalize V.alloc (.cells #[.int .u8 (d0 : Int), .int .u8 (d1 : Int), .int .u8 (d2 : Int), .int .u8 (d3 : Int)] 52) = V2 at HBK HB2 ⊢
  have hV2 : V.heap.size < V2.heap.size := HBK.out.lt
  have HLG2 := Lib.hid (HLG.out.below HB2.out HLG.out.lt)
  have HLM2 := Lib.hid (HLM.out.below HB2.out)
  have HO2 := Lib.hid (HOV.out.more HB2.out)
  have HS2 := Lib.hid (HSV.out.below HB2.out)
  have c0' : V2.cell? ⟨g, 0, none⟩ = some (.map (some b)) := HLG2.out.cell 0
  have k0 : V2.cell? ⟨V.heap.size, 0, none⟩ = some (.int .u8 (d0 : Int)) := HBK.out.cell 0
  have k1 : V2.cell? ⟨V.heap.size, 1, none⟩ = some (.int .u8 (d1 : Int)) := HBK.out.cell 1
  have k2 : V2.cell? ⟨V.heap.size, 2, none⟩ = some (.int .u8 (d2 : Int)) := HBK.out.cell 2
  have k3 : V2.cell? ⟨V.heap.size, 3, none⟩ = some (.int .u8 (d3 : Int)) := HBK.out.cell 3
  have HSY2 := Lib.hid (HSY.out.below HB2.out)
  have hlk : ∀ q, (Instr.lookup 47 (.map (some b)) (.agg #[.int .u8 (d0 : Int), .int .u8 (d1 : Int), .int .u8 (d2 : Int), .int .u8 (d3 : Int)]) true).run Tryd.prog (V2.drewN q) = .ok (.tuple #[.slice A0 n0 c0, .bool true]) (V2.drewN q) := fun q => by
    rcases LogMap.look (w := V2.drewN q) ⟨HLM2.out.ex, HLM2.out.keys⟩ [d0, d1, d2, d3] HKL.out HKB.out with ⟨_, h1⟩ | ⟨i, v, h1, h2⟩
    · exact absurd rfl (h1 _ (List.mem_of_getElem? HJ.out))
    · have hij := HU.out i v h1
      rw [hij, HJ.out] at h1
      injection h1 with h1
      have hv := (Prod.mk.inj h1).2
      rw [← hv] at h2
      exact h2
  clear hmn e0 e1 e2 e3
  go_quiet (fail)
  clear hlk c0' k0 k1 k2 k3
  have HLG3 : Hid (Blk (V2.drewN nq) g 49 [.map (some b), .bool met]) := Lib.hid HLG2.out
  have HLM3 : Hid (LogMap (V2.drewN nq) b T) := Lib.hid ⟨HLM2.out.ex, HLM2.out.keys⟩
  have HBK3 : Hid (Blk (V2.drewN nq) V.heap.size 52 (w8 [d0, d1, d2, d3])) := Lib.hid HBK.out
  have HO3 : Hid (Only2 w (V2.drewN nq) g (some b)) := Lib.hid ⟨HO2.out.os, HO2.out.tape, HO2.out.output, HO2.out.size, HO2.out.block⟩
  have HS3 : Hid (Src (V2.drewN nq) g A c x) := Lib.hid ⟨HS2.out.le, HS2.out.at_, HS2.out.lt⟩
  have hV3 : V.heap.size < (V2.drewN nq).heap.size := hV2
  have HSY3 : Hid (Src (V2.drewN nq) g A0 c0 y) := Lib.hid ⟨HSY2.out.le, HSY2.out.at_, HSY2.out.lt⟩
  have HBW3 : Hid (Below w.heap.size w (V2.drewN nq)) := Lib.hid (below_drewN (HB1.out.trans (HB2.out.mono HB1.out.size)) nq)
  go_wp2_with fail
  generalize V2.drewN nq = V3 at HLG3 HLM3 HBK3 HO3 HS3 HSY3 HBW3 hV3 ⊢
  refine (equal_any A0 A c0 c n0 n g g y x V3 HSY3 HS3 HN0 HN).mono ?_
  rintro e w' ⟨rfl, rfl⟩
  rw [show decide (y = x) = false by simpa using HXY.out]
  go_upto_region 7 with fail
  cases met
  · have c1 : V3.cell? ⟨g, 1, none⟩ = some (.bool false) := HLG3.out.cell 1
    have f1 := HLG3.out.frozen 1
    have HLG4 : Hid (Blk (V3.setCell ⟨g, 1, none⟩ (.bool true)) g 49 [.map (some b), .bool true]) := Lib.hid (HLG3.out.set_ 1 (.bool true))
    have HGR4 : Hid (V3.grownBy (V3.setCell ⟨g, 1, none⟩ (.bool true)) (some g)) := Lib.hid (only_setCell (only_refl V3 _) (.inl rfl) _)
    have HLM4 := Lib.hid (HLM3.out.far HGR4.out (by intro he; injection he with he; exact hgb he.symm))
    have HBK4 := Lib.hid (HBK3.out.grown HGR4.out (by intro he; injection he; omega))
    have HO4 : Hid (Only2 w (V3.setCell ⟨g, 1, none⟩ (.bool true)) g (some b)) := Lib.hid (HO3.out.one HGR4.out (fun i hi => by injection hi with hi; exact .inl hi.symm))
    have HS4 : Hid (Src (V3.setCell ⟨g, 1, none⟩ (.bool true)) g A c x) := Lib.hid (HS3.out.grown HGR4.out)
    have hV4 : V.heap.size < (V3.setCell ⟨g, 1, none⟩ (.bool true)).heap.size := HBK4.out.lt
    have hw4 : w.heap.size ≤ (V3.setCell ⟨g, 1, none⟩ (.bool true)).heap.size := HO4.out.size
    go_upto_region 8 with fail
    generalize V3.setCell ⟨g, 1, none⟩ (.bool true) = V4 at HLG4 HGR4 HLM4 HBK4 HO4 HS4 hV4 hw4 ⊢
    clear c1 f1 HLG3 HLM3 HBK3
    have HRUN : Hid (∀ X, Below V4.heap.size V4 X → ∀ v, ∃ X2, (Instr.mapUpdate 47 (.map (some b)) (.agg #[.int .u8 (d0 : Int), .int .u8 (d1 : Int), .int .u8 (d2 : Int), .int .u8 (d3 : Int)]) v).run Tryd.prog X = .ok () X2 ∧ LogMap X2 b (T.set j ([d0, d1, d2, d3], v)) ∧ X.grownBy X2 (some b)) := Lib.hid fun X hX v => LogMap.again (HLM4.out.below hX) [d0, d1, d2, d3] HKL.out HKB.out v _ j HJ.out HU.out
    have HK : Hid (∀ X, Below V4.heap.size V4 X → X.cell? ⟨g, 0, none⟩ = some (.map (some b)) ∧ X.cell? ⟨V.heap.size, 0, none⟩ = some (.int .u8 (d0 : Int)) ∧ X.cell? ⟨V.heap.size, 1, none⟩ = some (.int .u8 (d1 : Int)) ∧ X.cell? ⟨V.heap.size, 2, none⟩ = some (.int .u8 (d2 : Int)) ∧ X.cell? ⟨V.heap.size, 3, none⟩ = some (.int .u8 (d3 : Int))) := Lib.hid fun X hX => ⟨(HLG4.out.below hX HLG4.out.lt).cell 0, (HBK4.out.below hX hV4).cell 0, (HBK4.out.below hX hV4).cell 1, (HBK4.out.below hX hV4).cell 2, (HBK4.out.below hX hV4).cell 3⟩
    have HK2 : Hid (∀ X X2, Below V4.heap.size V4 X → X.grownBy X2 (some b) → X2.cell? ⟨g, 0, none⟩ = some (.map (some b)) ∧ X2.cell? ⟨V.heap.size, 0, none⟩ = some (.int .u8 (d0 : Int)) ∧ X2.cell? ⟨V.heap.size, 1, none⟩ = some (.int .u8 (d1 : Int)) ∧ X2.cell? ⟨V.heap.size, 2, none⟩ = some (.int .u8 (d2 : Int)) ∧ X2.cell? ⟨V.heap.size, 3, none⟩ = some (.int .u8 (d3 : Int))) := Lib.hid fun X X2 hX hg => by
      have h1 := (HLG4.out.below hX HLG4.out.lt).grown hg (by intro he; injection he with he; exact hgb he)
      have h2 := (HBK4.out.below hX hV4).grown hg (by intro he; injection he with he; omega)
      exact ⟨h1.cell 0, h2.cell 0, h2.cell 1, h2.cell 2, h2.cell 3⟩
    have HBV : Hid (b < V4.heap.size) := Lib.hid (by omega)
    have HCL : Hid (∀ X, Below V4.heap.size V4 X → Calls Tryd.prog 30 #[.slice A n c] X fun e w' => ∃ v, e = .returned v ∧ Own w' V4.heap.size v x ∧ Below V4.heap.size V4 w') := Lib.hid fun X hX => by
      refine (clone_any A c n g x X (Lib.hid (HS4.out.below hX)) HN hn).mono ?_
      rintro e w' ⟨v, rfl, hO, hB⟩
      exact ⟨v, rfl, hO.lower hX.size, hX.trans (hB.mono hX.size)⟩
    obtain ⟨c0', k0, k1, k2, k3⟩ := HK.out V4 (Below.refl _ _)
    go_region_held3 (fun w' => w'.cell? ⟨g, 0, none⟩ = some (.map (some b)) ∧ w'.cell? ⟨V.heap.size, 0, none⟩ = some (.int .u8 (d0 : Int)) ∧ w'.cell? ⟨V.heap.size, 1, none⟩ = some (.int .u8 (d1 : Int)) ∧ w'.cell? ⟨V.heap.size, 2, none⟩ = some (.int .u8 (d2 : Int)) ∧ w'.cell? ⟨V.heap.size, 3, none⟩ = some (.int .u8 (d3 : Int))) (first | exact ⟨c0', k0, k1, k2, k3⟩ | exact HK.out _ hB5 | exact HK2.out _ _ hB5 hg6)
      (first
        | (go_at_call 30
           ((with_reducible refine (HCL.out _ ?_).mono ?_))
           · exact (Below.refl _ _).drew
           rintro e X5 ⟨v5, rfl, hO5', hB5⟩
           obtain ⟨X6, hr6, hlm6, hg6⟩ := HRUN.out X5 hB5 v5))
    have hvb : v5.ownBlock ≠ some b := fun he => by have := (hO5'.base_ he).1; have := HBV.out; omega
    have hO5 : Own X5 w.heap.size v5 x := hO5'.lower hw4
    go_wp2
    go_end0
    exact ⟨rfl, v5, hO5.grown hg6 hvb, HLG4.out.below hB5 HLG4.out.lt |>.grown hg6 (by intro he; injection he with he; exact hgb he), (by rw [HTK.out]; exact hlm6), (HO4.out.more hB5).one hg6 (fun i hi => by injection hi with hi; exact .inr (.inl (by rw [hi])))⟩
  · have c1 : V3.cell? ⟨g, 1, none⟩ = some (.bool true) := HLG3.out.cell 1
    have f1 := HLG3.out.frozen 1
    have HLG4 : Hid (Blk (V3.setCell ⟨g, 1, none⟩ (.bool true)) g 49 [.map (some b), .bool true]) := Lib.hid (HLG3.out.set_ 1 (.bool true))
    have HGR4 : Hid (V3.grownBy (V3.setCell ⟨g, 1, none⟩ (.bool true)) (some g)) := Lib.hid (only_setCell (only_refl V3 _) (.inl rfl) _)
    have HLM4 := Lib.hid (HLM3.out.far HGR4.out (by intro he; injection he with he; exact hgb he.symm))
    have HBK4 := Lib.hid (HBK3.out.grown HGR4.out (by intro he; injection he; omega))
    have HO4 : Hid (Only2 w (V3.setCell ⟨g, 1, none⟩ (.bool true)) g (some b)) := Lib.hid (HO3.out.one HGR4.out (fun i hi => by injection hi with hi; exact .inl hi.symm))
    have HS4 : Hid (Src (V3.setCell ⟨g, 1, none⟩ (.bool true)) g A c x) := Lib.hid (HS3.out.grown HGR4.out)
    have hV4 : V.heap.size < (V3.setCell ⟨g, 1, none⟩ (.bool true)).heap.size := HBK4.out.lt
    have hw4 : w.heap.size ≤ (V3.setCell ⟨g, 1, none⟩ (.bool true)).heap.size := HO4.out.size
    go_upto_region 8 with fail
    generalize V3.setCell ⟨g, 1, none⟩ (.bool true) = V4 at HLG4 HGR4 HLM4 HBK4 HO4 HS4 hV4 hw4 ⊢
    clear c1 f1 HLG3 HLM3 HBK3
    have HRUN : Hid (∀ X, Below V4.heap.size V4 X → ∀ v, ∃ X2, (Instr.mapUpdate 47 (.map (some b)) (.agg #[.int .u8 (d0 : Int), .int .u8 (d1 : Int), .int .u8 (d2 : Int), .int .u8 (d3 : Int)]) v).run Tryd.prog X = .ok () X2 ∧ LogMap X2 b (T.set j ([d0, d1, d2, d3], v)) ∧ X.grownBy X2 (some b)) := Lib.hid fun X hX v => LogMap.again (HLM4.out.below hX) [d0, d1, d2, d3] HKL.out HKB.out v _ j HJ.out HU.out
    have HK : Hid (∀ X, Below V4.heap.size V4 X → X.cell? ⟨g, 0, none⟩ = some (.map (some b)) ∧ X.cell? ⟨V.heap.size, 0, none⟩ = some (.int .u8 (d0 : Int)) ∧ X.cell? ⟨V.heap.size, 1, none⟩ = some (.int .u8 (d1 : Int)) ∧ X.cell? ⟨V.heap.size, 2, none⟩ = some (.int .u8 (d2 : Int)) ∧ X.cell? ⟨V.heap.size, 3, none⟩ = some (.int .u8 (d3 : Int))) := Lib.hid fun X hX => ⟨(HLG4.out.below hX HLG4.out.lt).cell 0, (HBK4.out.below hX hV4).cell 0, (HBK4.out.below hX hV4).cell 1, (HBK4.out.below hX hV4).cell 2, (HBK4.out.below hX hV4).cell 3⟩
    have HK2 : Hid (∀ X X2, Below V4.heap.size V4 X → X.grownBy X2 (some b) → X2.cell? ⟨g, 0, none⟩ = some (.map (some b)) ∧ X2.cell? ⟨V.heap.size, 0, none⟩ = some (.int .u8 (d0 : Int)) ∧ X2.cell? ⟨V.heap.size, 1, none⟩ = some (.int .u8 (d1 : Int)) ∧ X2.cell? ⟨V.heap.size, 2, none⟩ = some (.int .u8 (d2 : Int)) ∧ X2.cell? ⟨V.heap.size, 3, none⟩ = some (.int .u8 (d3 : Int))) := Lib.hid fun X X2 hX hg => by
      have h1 := (HLG4.out.below hX HLG4.out.lt).grown hg (by intro he; injection he with he; exact hgb he)
      have h2 := (HBK4.out.below hX hV4).grown hg (by intro he; injection he with he; omega)
      exact ⟨h1.cell 0, h2.cell 0, h2.cell 1, h2.cell 2, h2.cell 3⟩
    have HBV : Hid (b < V4.heap.size) := Lib.hid (by omega)
    have HCL : Hid (∀ X, Below V4.heap.size V4 X → Calls Tryd.prog 30 #[.slice A n c] X fun e w' => ∃ v, e = .returned v ∧ Own w' V4.heap.size v x ∧ Below V4.heap.size V4 w') := Lib.hid fun X hX => by
      refine (clone_any A c n g x X (Lib.hid (HS4.out.below hX)) HN hn).mono ?_
      rintro e w' ⟨v, rfl, hO, hB⟩
      exact ⟨v, rfl, hO.lower hX.size, hX.trans (hB.mono hX.size)⟩
    obtain ⟨c0', k0, k1, k2, k3⟩ := HK.out V4 (Below.refl _ _)
    go_region_held3 (fun w' => w'.cell? ⟨g, 0, none⟩ = some (.map (some b)) ∧ w'.cell? ⟨V.heap.size, 0, none⟩ = some (.int .u8 (d0 : Int)) ∧ w'.cell? ⟨V.heap.size, 1, none⟩ = some (.int .u8 (d1 : Int)) ∧ w'.cell? ⟨V.heap.size, 2, none⟩ = some (.int .u8 (d2 : Int)) ∧ w'.cell? ⟨V.heap.size, 3, none⟩ = some (.int .u8 (d3 : Int))) (first | exact ⟨c0', k0, k1, k2, k3⟩ | exact HK.out _ hB5 | exact HK2.out _ _ hB5 hg6)
      (first
        | (go_at_call 30
           ((with_reducible refine (HCL.out _ ?_).mono ?_))
           · exact (Below.refl _ _).drew
           rintro e X5 ⟨v5, rfl, hO5', hB5⟩
           obtain ⟨X6, hr6, hlm6, hg6⟩ := HRUN.out X5 hB5 v5))
    have hvb : v5.ownBlock ≠ some b := fun he => by have := (hO5'.base_ he).1; have := HBV.out; omega
    have hO5 : Own X5 w.heap.size v5 x := hO5'.lower hw4
    go_wp2
    go_end0
    exact ⟨rfl, v5, hO5.grown hg6 hvb, HLG4.out.below hB5 HLG4.out.lt |>.grown hg6 (by intro he; injection he with he; exact hgb he), (by rw [HTK.out]; exact hlm6), (HO4.out.more hB5).one hg6 (fun i hi => by injection hi with hi; exact .inr (.inl (by rw [hi])))⟩

end Go.Proofs.YtcpjfdaacnkcnaaDoor
