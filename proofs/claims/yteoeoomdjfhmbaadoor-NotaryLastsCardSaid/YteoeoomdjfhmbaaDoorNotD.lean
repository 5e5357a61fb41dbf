/-
  A notary's Tell.
-/
import Derived.Test.YteoeoomdjfhmbaaDoorNotC
namespace Go.Proofs.YteoeoomdjfhmbaaDoor
open Go.RowKit
set_option linter.unusedVariables false

def tellT (T : List (List Nat × List Nat × Int)) (s : List Nat) (ht : Int) : List (List Nat × List Nat × Int) := if isIn T (hsh s) then T else T ++ [(hsh s, s, ht)]
theorem isIn_false {T : List (List Nat × List Nat × Int)} {h : List Nat} (e : isIn T h = false) : ∀ p ∈ T, p.1 ≠ h := by
  intro p hp he
  unfold isIn lookB at e
  rw [Option.isSome_map] at e
  have h1 : T.find? (fun p => decide (p.1 = h)) = none := by
    cases h2 : T.find? (fun p => decide (p.1 = h)) with
    | none => rfl
    | some q => rw [h2] at e; cases e
  rw [List.find?_eq_none] at h1
  exact h1 p hp (by simpa using he)
theorem tellT_ok {T : List (List Nat × List Nat × Int)} {s : List Nat} {ht : Int} (hO : Okay T) (hl : s.length = 32) : Okay (tellT T s ht) := by
  unfold tellT
  split
  · exact hO
  · rename_i h
    refine ⟨fun p hp => ?_, ?_⟩
    · rcases List.mem_append.1 hp with hp | hp
      · exact hO.len p hp
      · rw [List.mem_singleton.1 hp]; exact hl
    · rw [List.map_append, List.nodup_append]
      refine ⟨hO.uniq, by simp, ?_⟩
      intro a ha c hc
      obtain ⟨p, hp, rfl⟩ := List.mem_map.1 ha
      simp at hc
      subst hc
      exact isIn_false (by simpa using h) p hp

theorem run_build_op {P : Program} {o : Oper} {a : Act} {t : TypeId} {parts : Array (Nat × Operand)} (ho : o.op = .build t parts) (vals : Array (Nat × Value)) (hv : (parts.map fun (i, x) => (i, a.eval x)) = vals) (v : Value) (w : World)
    (hb : (Instr.build t vals).run P w = .ok v w) : (execOp a.eval o).run P w = .ok (.value v) w := by
  unfold execOp
  simp only [ho, hv, Sem.run_bind, hb, Result.andThen_ok, Sem.run_pure]

set_option maxRecDepth 100000 in
set_option maxHeartbeats 4000000 in
theorem tell_any (g b : Nat) (T : List (List Nat × List Nat × Int)) (s : List Nat) (ht : Int) (w : World) (HT : Hid (Tab w)) (HN : Hid (Blk w g 75 [.map (some b)])) (HM : Hid (NMap w b (T.map tv))) (hO : Okay T) (hgb : g ≠ b) (hl : s.length = 32) (hb : ∀ x ∈ s, x < 256) :
    Calls Tryd.prog 9 #[.pointer (some ⟨g, 0, none⟩), .agg (w8 s).toArray, .int .u64 ht] w fun e w' => e = .returned (.int .i64 (if isIn T (hsh s) then 7 else 0)) ∧ Blk w' g 75 [.map (some b)] ∧ NMap w' b ((tellT T s ht).map tv) ∧ w.grownBy w' (some b) := by
  have HLK := Lib.hid (fun (V : World) (hV : Tab V) => lock_any s V (Lib.hid hV) (Lib.hid hl) (Lib.hid hb))
  have HFD := Lib.hid (fun (V : World) (hN : Blk V g 75 [.map (some b)]) (hM : NMap V b (T.map tv)) => find_any g b T (hsh s) V (Lib.hid hN) (Lib.hid hM) hO (hsh_length s) (hsh_lt s))
  have HPUT := Lib.hid (fun (V : World) (hM : NMap V b (T.map tv)) (hn : isIn T (hsh s) = false) => NMap.new_ hM (hsh s) (hsh_length s) (hsh_lt s) (.agg (ecells s ht).toArray) (fun p hp => by
    obtain ⟨q, hq, rfl⟩ := List.mem_map.1 hp
    exact isIn_false hn q hq))
  rw [show sha (text 6 [s]) = hsh s from rfl] at HLK
  have hOO := tellT_ok (T := T) (s := s) (ht := ht) hO hl
  have hHl := hsh_length s
  have hEL := ecOf_length T (hsh s) hO
  have hEO := ecOf_one T (hsh s)
  have hbd := fun W => built77 s hl ht W
  have hgl := HN.out.lt
  have hbl := HM.out.lt
  have hz46 : (Tryd.prog.info? 46).map (·.size) = some (w8 s).toArray.size := by rw [List.size_toArray, w8_length, hl]; exact info46
  have htT : tellT T s ht = if isIn T (hsh s) then T else T ++ [(hsh s, s, ht)] := rfl
  obtain ⟨T2, hT2⟩ : ∃ t, tellT T s ht = t := ⟨_, rfl⟩
  rw [hT2] at htT ⊢
  obtain ⟨D, hD⟩ : ∃ d, hsh s = d := ⟨_, rfl⟩
  rw [hD] at HLK HFD HPUT hHl hEL hEO htT ⊢
  obtain ⟨EC, hEC⟩ : ∃ ec, ecOf T D = ec := ⟨_, rfl⟩
  obtain ⟨TB, hTB⟩ : ∃ t, isIn T D = t := ⟨_, rfl⟩
  rw [hEC] at HFD hEL hEO
  rw [hTB] at HFD HPUT htT ⊢
  have hz53 : (Tryd.prog.info? 53).map (·.size) = some (w8 D).toArray.size := by rw [List.size_toArray, w8_length, hHl]; exact info53
  have hzz : (#[.int .u8 0, .int .u8 0, .int .u8 0, .int .u8 0, .int .u8 0, .int .u8 0, .int .u8 0, .int .u8 0, .int .u8 0, .int .u8 0, .int .u8 0, .int .u8 0, .int .u8 0, .int .u8 0, .int .u8 0, .int .u8 0, .int .u8 0, .int .u8 0, .int .u8 0, .int .u8 0, .int .u8 0, .int .u8 0, .int .u8 0, .int .u8 0, .int .u8 0, .int .u8 0, .int .u8 0, .int .u8 0, .int .u8 0, .int .u8 0, .int .u8 0, .int .u8 0] : Array Value).size = (w8 D).toArray.size := by rw [show (w8 D).toArray.size = 32 by rw [List.size_toArray, w8_length, hHl]]; rfl
  have hDO := all_oneCell_toArray (w8_one D)
  have hz77 : (Tryd.prog.info? 77).map (·.size) = some EC.toArray.size := by rw [List.size_toArray, hEL]; exact info77
  have hzo : (#[.int .u8 0, .int .u8 0, .int .u8 0, .int .u8 0, .int .u8 0, .int .u8 0, .int .u8 0, .int .u8 0, .int .u8 0, .int .u8 0, .int .u8 0, .int .u8 0, .int .u8 0, .int .u8 0, .int .u8 0, .int .u8 0, .int .u8 0, .int .u8 0, .int .u8 0, .int .u8 0, .int .u8 0, .int .u8 0, .int .u8 0, .int .u8 0, .int .u8 0, .int .u8 0, .int .u8 0, .int .u8 0, .int .u8 0, .int .u8 0, .int .u8 0, .int .u8 0, .int .u64 0] : Array Value).size = EC.toArray.size := by rw [show EC.toArray.size = 33 by rw [List.size_toArray, hEL]]; rfl
  have HTT := Lib.hid htT
  have HDL := Lib.hid hHl
  have HSL := Lib.hid hl
  clear hD hEC hTB hT2 htT hO hOO hb
  have hmn := fun W => run_eql_map_nil_sl (P := Tryd.prog) W 73 53 77 (some b) under73
  go_enter Tryd.func9, Tryd.ntmps9
  go_upto_region 3 with fail
  have hB0 : Below w.heap.size w (w.alloc (.cells (w8 s).toArray 46)) := (Below.refl _ _).alloc (Nat.le_refl _) _
  have B1 : Hid (Below w.heap.size w (w.alloc (.cells (w8 s).toArray 46))) := Lib.hid hB0
  have N1 := Lib.hid (HN.out.below hB0 hgl)
  have M1 := Lib.hid (HM.out.below hB0)
  have S1 : Hid (Blk (w.alloc (.cells (w8 s).toArray 46)) w.heap.size 46 (w8 s)) := Lib.hid (Blk.new w 46 (w8 s))
  have T1 := HT.out.below hB0 HT.out.lt
  have hS9 := S1.out.lt
  clear hB0 HN HM HT
  obtain ⟨hs, hhs⟩ : ∃ x, w.heap.size = x := ⟨_, rfl⟩
  generalize w.alloc (.cells (w8 s).toArray 46) = V1 at B1 N1 M1 S1 T1 hS9 ⊢
  have HBS := Lib.hid hhs
  rw [hhs] at S1 hgl hbl hS9 ⊢
  clear hhs
  go_wp2_with (first | (refine wpList_load_row rfl 46 (.tmp 4) rfl hs rfl 46 (w8 s).toArray (0, 0) _ S1.out Tryd.underlying46 rfl hz46 ?_))
  refine (HLK.out V1 T1).mono ?_
  rintro e V2 ⟨rfl, hB2⟩
  have B2 := Lib.hid (B1.out.trans (hB2.mono B1.out.size))
  have N2 := Lib.hid (N1.out.below hB2 N1.out.lt)
  have M2 := Lib.hid (M1.out.below hB2)
  have S2 := Lib.hid (S1.out.below hB2 S1.out.lt)
  have HLA := heap_alloc_last V2 (.cells #[.int .u8 0, .int .u8 0, .int .u8 0, .int .u8 0, .int .u8 0, .int .u8 0, .int .u8 0, .int .u8 0, .int .u8 0, .int .u8 0, .int .u8 0, .int .u8 0, .int .u8 0, .int .u8 0, .int .u8 0, .int .u8 0, .int .u8 0, .int .u8 0, .int .u8 0, .int .u8 0, .int .u8 0, .int .u8 0, .int .u8 0, .int .u8 0, .int .u8 0, .int .u8 0, .int .u8 0, .int .u8 0, .int .u8 0, .int .u8 0, .int .u8 0, .int .u8 0] 53)
  clear B1 N1 M1 S1 T1 hB2 HLK
  go_upto_region 4 with (first | (refine wpList_store_row rfl 53 (.tmp 7) (.tmp 13) rfl V2.heap.size (w8 D).toArray rfl rfl 53 _ HLA hz53 hzz hDO ?_; rw [World.setRow_alloc_new]))
  have hB3 : Below V2.heap.size V2 (V2.alloc (.cells (w8 D).toArray 53)) := (Below.refl _ _).alloc (Nat.le_refl _) _
  have B3 := Lib.hid (B2.out.trans (hB3.mono B2.out.size))
  have N3 := Lib.hid (N2.out.below hB3 N2.out.lt)
  have M3 := Lib.hid (M2.out.below hB3)
  have S3 := Lib.hid (S2.out.below hB3 S2.out.lt)
  have D3 : Hid (Blk (V2.alloc (.cells (w8 D).toArray 53)) V2.heap.size 53 (w8 D)) := Lib.hid (Blk.new V2 53 (w8 D))
  have hV2 : hs < V2.heap.size := S2.out.lt
  clear B2 N2 M2 S2 HLA hB3
  generalize V2.alloc (.cells (w8 D).toArray 53) = V3 at B3 N3 M3 S3 D3 ⊢
  generalize V2.heap.size = hh at D3 hV2 ⊢
  go_wp2_with (first | (refine wpList_load_row rfl 53 (.tmp 7) rfl hh rfl 53 (w8 D).toArray (0, 0) _ D3.out Tryd.underlying53 rfl hz53 ?_))
  refine (HFD.out V3 N3.out M3.out).mono ?_
  rintro e V4 ⟨rfl, hB4⟩
  have B4 := Lib.hid (B3.out.trans (hB4.mono B3.out.size))
  have N4 := Lib.hid (N3.out.below hB4 N3.out.lt)
  have M4 := Lib.hid (M3.out.below hB4)
  have S4 := Lib.hid (S3.out.below hB4 S3.out.lt)
  have D4 := Lib.hid (D3.out.below hB4 D3.out.lt)
  have HLA := heap_alloc_last V4 (.cells #[.int .u8 0, .int .u8 0, .int .u8 0, .int .u8 0, .int .u8 0, .int .u8 0, .int .u8 0, .int .u8 0, .int .u8 0, .int .u8 0, .int .u8 0, .int .u8 0, .int .u8 0, .int .u8 0, .int .u8 0, .int .u8 0, .int .u8 0, .int .u8 0, .int .u8 0, .int .u8 0, .int .u8 0, .int .u8 0, .int .u8 0, .int .u8 0, .int .u8 0, .int .u8 0, .int .u8 0, .int .u8 0, .int .u8 0, .int .u8 0, .int .u8 0, .int .u8 0, .int .u64 0] 77)
  clear B3 N3 M3 S3 D3 hB4 HFD
  go_upto_region 5 with (first | (refine wpList_store_row rfl 77 (.tmp 8) (.tmp 18) rfl V4.heap.size EC.toArray rfl rfl 77 _ HLA hz77 hzo hEO ?_; rw [World.setRow_alloc_new]))
  have hB5 : Below V4.heap.size V4 (V4.alloc (.cells EC.toArray 77)) := (Below.refl _ _).alloc (Nat.le_refl _) _
  have B5 := Lib.hid (B4.out.trans (hB5.mono B4.out.size))
  have N5 := Lib.hid (N4.out.below hB5 N4.out.lt)
  have M5 := Lib.hid (M4.out.below hB5)
  have S5 := Lib.hid (S4.out.below hB5 S4.out.lt)
  have D5 := Lib.hid (D4.out.below hB5 D4.out.lt)
  clear B4 N4 M4 S4 D4 HLA hB5
  generalize V4.alloc (.cells EC.toArray 77) = V5 at B5 N5 M5 S5 D5 ⊢
  generalize V4.heap.size = h9
  cases TB
  · have c0 : V5.cell? ⟨g, 0, none⟩ = some (.map (some b)) := N5.out.cell 0
    have HT3 : T2 = T ++ [(D, s, ht)] := by rw [HTT.out]; rfl
    go_upto_region 9 with fail
    clear c0 hmn
    have hBz : Below V5.heap.size V5 V5.drew := below_drewN (Below.refl _ _) 1
    have BX0 : Hid (Below w.heap.size w V5.drew) := Lib.hid (B5.out.trans (hBz.mono B5.out.size))
    have NX0 : Hid (Blk V5.drew g 75 [.map (some b)]) := Lib.hid (N5.out.below hBz N5.out.lt)
    have MX0 : Hid (NMap V5.drew b (T.map tv)) := Lib.hid (M5.out.below hBz)
    have SX0 : Hid (Blk V5.drew hs 46 (w8 s)) := Lib.hid (S5.out.below hBz S5.out.lt)
    have DX0 : Hid (Blk V5.drew hh 53 (w8 D)) := Lib.hid (D5.out.below hBz D5.out.lt)
    clear hBz
    refine wp_region_held_drew (S := fun w' => Blk w' g 75 [.map (some b)] ∧ Blk w' hs 46 (w8 s) ∧ Blk w' hh 53 (w8 D)) (by kernel_rfl) (⟨NX0.out, SX0.out, DX0.out⟩) (fun hHeld => ?_)
    generalize V5.drew = X0 at hHeld BX0 NX0 MX0 SX0 DX0 ⊢
    refine wpAnyH_take (i := 0) (v := .pointer (some ⟨g, 0, none⟩)) rfl (by kernel_rfl) (by kernel_rfl) (by kernel_rfl) (fun _ _ _ h => h) (Or.inl ⟨by rfl, fun w _ => by rfl⟩) hHeld ?_
    show wpAnyH _ _ _ _ _ _ _ (Act.put _ (some 30) _) _
    simp only [Act.put, List.setIfInBounds_toArray, List.set_cons_zero, List.set_cons_succ]
    refine wpAnyH_take (i := 1) (v := .pointer (some ⟨g, 0, none⟩)) rfl (by kernel_rfl) (by kernel_rfl) (by kernel_rfl) (fun _ _ _ h => h) (Or.inl ⟨by rfl, by intro w' h; go_simp⟩) hHeld ?_
    show wpAnyH _ _ _ _ _ _ _ (Act.put _ (some 31) _) _
    simp only [Act.put, List.setIfInBounds_toArray, List.set_cons_zero, List.set_cons_succ]
    refine wpAnyH_take (i := 2) (v := .pointer (some ⟨g, 0, none⟩)) rfl (by kernel_rfl) (by kernel_rfl) (by kernel_rfl) (fun _ _ _ h => h) (Or.inl ⟨by rfl, by intro w' h; go_simp⟩) hHeld ?_
    show wpAnyH _ _ _ _ _ _ _ (Act.put _ (some 32) _) _
    simp only [Act.put, List.setIfInBounds_toArray, List.set_cons_zero, List.set_cons_succ]
    refine wpAnyH_take (i := 3) (v := .map (some b)) rfl (by kernel_rfl) (by kernel_rfl) (by kernel_rfl) (fun _ _ _ h => h) (Or.inl ⟨by rfl, by intro w' h; have k0 := Blk.cell h.1 0; simp only [List.getElem?_cons_zero] at k0; go_simp⟩) hHeld ?_
    show wpAnyH _ _ _ _ _ _ _ (Act.put _ (some 33) _) _
    simp only [Act.put, List.setIfInBounds_toArray, List.set_cons_zero, List.set_cons_succ]
    refine wpAnyH_take (i := 4) (v := .agg (w8 D).toArray) rfl (by kernel_rfl) (by kernel_rfl) (by kernel_rfl) (fun _ _ _ h => h) (yieldsIf_load_mid rfl 53 (.tmp 7) rfl hh 0 rfl (w8 D) _ (fun w' hS => hS.2.2.all) Tryd.underlying53 rfl (by rw [w8_length, HDL.out]; exact info53)) hHeld ?_
    show wpAnyH _ _ _ _ _ _ _ (Act.put _ (some 34) _) _
    simp only [Act.put, List.setIfInBounds_toArray, List.set_cons_zero, List.set_cons_succ]
    refine wpAnyH_take (i := 5) (v := .agg (w8 s).toArray) rfl (by kernel_rfl) (by kernel_rfl) (by kernel_rfl) (fun _ _ _ h => h) (yieldsIf_load_mid rfl 46 (.tmp 4) rfl hs 0 rfl (w8 s) _ (fun w' hS => hS.2.1.all) Tryd.underlying46 rfl (by rw [w8_length, HSL.out]; exact info46)) hHeld ?_
    show wpAnyH _ _ _ _ _ _ _ (Act.put _ (some 35) _) _
    simp only [Act.put, List.setIfInBounds_toArray, List.set_cons_zero, List.set_cons_succ]
    refine wpAnyH_take (i := 6) (v := .int .u64 ht) rfl (by kernel_rfl) (by kernel_rfl) (by kernel_rfl) (fun _ _ _ h => h) (Or.inl ⟨by rfl, fun w _ => by rfl⟩) hHeld ?_
    show wpAnyH _ _ _ _ _ _ _ (Act.put _ (some 36) _) _
    simp only [Act.put, List.setIfInBounds_toArray, List.set_cons_zero, List.set_cons_succ]
    refine wpAnyH_take (i := 7) (v := .agg (ecells s ht).toArray) rfl (by kernel_rfl) (by kernel_rfl) (by kernel_rfl) (fun _ _ _ h => h) (Or.inl ⟨by rfl, fun w' hS => run_build_op rfl #[(0, .agg (w8 s).toArray), (1, .int .u64 ht)] (by simp [Act.eval]) _ w' (hbd w')⟩) hHeld ?_
    show wpAnyH _ _ _ _ _ _ _ (Act.put _ (some 37) _) _
    simp only [Act.put, List.setIfInBounds_toArray, List.set_cons_zero, List.set_cons_succ]
    refine wpAnyH_ready (rs := [8]) (by kernel_rfl) (by simp) ?_
    refine AllReadyH.cons rfl (fun K hK => ?_) AllReadyH.nil
    obtain ⟨X1, hput, hm6, hO⟩ := HPUT.out X0 MX0.out rfl
    refine step_put rfl 73 (.tmp 33) (.tmp 34) (.tmp 37) rfl X1 hput ?_
    have hSN : some hs ≠ some b := fun e => by injection e with e; omega
    have hDN : some hh ≠ some b := fun e => by injection e with e; omega
    have hNN : some g ≠ some b := fun e => hgb (by injection e)
    have B9 := BX0.out
    have NX1 : Hid (Blk X1 g 75 [.map (some b)]) := Lib.hid (NX0.out.grown hO hNN)
    have SX1 : Hid (Blk X1 hs 46 (w8 s)) := Lib.hid (SX0.out.grown hO hSN)
    have DX1 : Hid (Blk X1 hh 53 (w8 D)) := Lib.hid (DX0.out.grown hO hDN)
    have MX1 : Hid (NMap X1 b ((T ++ [(D, s, ht)]).map tv)) := Lib.hid (by rw [List.map_append]; exact hm6)
    clear NX0 SX0 DX0 hm6 hput
    refine hK.out _ _ (⟨NX1.out, SX1.out, DX1.out⟩) (fun hHeld => ?_)
    clear hK K
    show wpAnyH _ _ _ _ _ _ _ (Act.put _ none _) _
    simp only [Act.put]
    refine wpAnyH_done (by kernel_rfl) ?_ _
    clear hHeld
    go_wp2
    go_ret
    subst HT3
    exact ⟨rfl, NX1.out, (by have := MX1.out; simpa using this), World.grownBy.trans (only_below (only_refl w _) B9) hO⟩
  · have HT3 : T2 = T := by rw [HTT.out]; rfl
    go_wp2
    go_ret
    subst HT3
    exact ⟨rfl, N5.out, M5.out, only_below (only_refl w _) B5.out⟩
end Go.Proofs.YteoeoomdjfhmbaaDoor
