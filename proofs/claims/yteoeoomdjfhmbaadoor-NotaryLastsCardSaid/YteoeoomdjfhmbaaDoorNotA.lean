/-
  A notary's find: what is written down of a hash.
-/
import Derived.Test.YteoeoomdjfhmbaaDoorKit
namespace Go.Proofs.YteoeoomdjfhmbaaDoor
open Go.RowKit
set_option linter.unusedVariables false

theorem results_ct {fn : Func} {p u : Tmp} {ty : TypeId} (h : fn.results = #[.cell p ty, .tmp u]) (tmps : Array Value) (w : World) (g t : Nat) (cs : List Value) (d : TypeDesc) (hp : tmps.getD p undef = .pointer (some ⟨g, 0, none⟩)) (hB : Blk w g t cs)
    (hu : Tryd.prog.underlying ty = some d) (hd : d.isRow = true) (hi : (Tryd.prog.info? ty).map (·.size) = some cs.length) :
    (results fn tmps).run Tryd.prog w = .ok (.tuple #[.agg cs.toArray, tmps.getD u undef]) w := by
  rw [results_cell_tmp h, hp]
  simp [asAddr, Result.andThen, run_loadVar_mid w g 0 ty cs d hB.all hu hd hi]
theorem run_storeAt_blk {w : World} {g t : Nat} {ty : TypeId} {old cells : List Value} (hB : Blk w g t old) (hi : (Tryd.prog.info? ty).map (·.size) = some cells.length) (hold : old.length = cells.length) (h1 : cells.toArray.all (·.oneCell') = true) :
    (Instr.storeAt ty (.pointer (some ⟨g, 0, none⟩)) (.agg cells.toArray)).run Tryd.prog w = .ok () (w.setRow g cells.toArray) := by
  simp only [Instr.storeAt, Instr.sureAddr, Sem.run_bind, Sem.run_pure, Result.andThen_ok, run_storeVar_row w g t ty old.toArray cells.toArray hB (by simpa using hi) (by simpa using hold) h1]
theorem info77 : (Tryd.prog.info? 77).map (·.size) = some 33 := by kernel_rfl
theorem info53 : (Tryd.prog.info? 53).map (·.size) = some 32 := by kernel_rfl
theorem info46 : (Tryd.prog.info? 46).map (·.size) = some 32 := by kernel_rfl
theorem info35 : (Tryd.prog.info? 35).map (·.size) = some 32 := by kernel_rfl
theorem ecells_length (s : List Nat) (h : Int) (hs : s.length = 32) : (ecells s h).length = 33 := by simp [ecells, w8_length, hs]
theorem ecells_one (s : List Nat) (h : Int) : (ecells s h).toArray.all (·.oneCell') = true := by
  rw [Array.all_eq_true_iff_forall_mem]
  intro v hv
  simp only [ecells, List.mem_toArray, List.mem_append, List.mem_singleton] at hv
  rcases hv with hv | rfl
  · exact w8_one s v hv
  · rfl
def z32 : List Nat := List.replicate 32 0
theorem load_mid (w : World) (b o : Nat) (ty : TypeId) (cs : List Value) (n : Nat) (e : TypeId) (hc : w.rangeAt b o cs) (hu : Tryd.prog.underlying ty = some (.array n e)) (hi : (Tryd.prog.info? ty).map (·.size) = some cs.length) :
    (Instr.loadAt ty (.pointer (some ⟨b, o, none⟩))).run Tryd.prog w = .ok (.agg cs.toArray) w := run_loadAt_mid w b o ty cs _ hc hu rfl hi
theorem load77 (w : World) (b : Nat) (t : Nat) (cs : List Value) (hB : Blk w b t cs) (hl : cs.length = 33) :
    (Instr.loadAt 77 (.pointer (some ⟨b, 0, none⟩))).run Tryd.prog w = .ok (.agg cs.toArray) w := by
  obtain ⟨d, hd, hr⟩ : ∃ d, Tryd.prog.underlying 77 = some d ∧ d.isRow = true := ⟨_, Tryd.underlying77, rfl⟩
  exact run_loadAt_mid w b 0 77 cs d hB.all hd hr (by rw [hl]; exact info77)

set_option maxRecDepth 100000 in
set_option maxHeartbeats 2000000 in
theorem find_nil (h : List Nat) (w : World) : Calls Tryd.prog 24 #[.pointer none, .agg (w8 h).toArray] w fun e w' => e = .returned (.tuple #[zeroE, .bool false]) ∧ Below w.heap.size w w' := by
  go_enter Tryd.func24, Tryd.ntmps24
  go_upto_region 2 with fail
  have B : Hid (Below w.heap.size w ((w.alloc (.cells (w8 h).toArray 53)).alloc (.cells #[.int .u8 0, .int .u8 0, .int .u8 0, .int .u8 0, .int .u8 0, .int .u8 0, .int .u8 0, .int .u8 0, .int .u8 0, .int .u8 0, .int .u8 0, .int .u8 0, .int .u8 0, .int .u8 0, .int .u8 0, .int .u8 0, .int .u8 0, .int .u8 0, .int .u8 0, .int .u8 0, .int .u8 0, .int .u8 0, .int .u8 0, .int .u8 0, .int .u8 0, .int .u8 0, .int .u8 0, .int .u8 0, .int .u8 0, .int .u8 0, .int .u8 0, .int .u8 0, .int .u64 0] 77))) := Lib.hid (((Below.refl _ _).alloc (Nat.le_refl _) _).alloc (by simp) _)
  have R : Hid (Blk ((w.alloc (.cells (w8 h).toArray 53)).alloc (.cells #[.int .u8 0, .int .u8 0, .int .u8 0, .int .u8 0, .int .u8 0, .int .u8 0, .int .u8 0, .int .u8 0, .int .u8 0, .int .u8 0, .int .u8 0, .int .u8 0, .int .u8 0, .int .u8 0, .int .u8 0, .int .u8 0, .int .u8 0, .int .u8 0, .int .u8 0, .int .u8 0, .int .u8 0, .int .u8 0, .int .u8 0, .int .u8 0, .int .u8 0, .int .u8 0, .int .u8 0, .int .u8 0, .int .u8 0, .int .u8 0, .int .u8 0, .int .u8 0, .int .u64 0] 77)) (w.heap.size + 1) 77 (ecells z32 0)) := Lib.hid (Blk.mk_ (cs := ecells z32 0) (by simp))
  generalize (w.alloc (.cells (w8 h).toArray 53)).alloc (.cells #[.int .u8 0, .int .u8 0, .int .u8 0, .int .u8 0, .int .u8 0, .int .u8 0, .int .u8 0, .int .u8 0, .int .u8 0, .int .u8 0, .int .u8 0, .int .u8 0, .int .u8 0, .int .u8 0, .int .u8 0, .int .u8 0, .int .u8 0, .int .u8 0, .int .u8 0, .int .u8 0, .int .u8 0, .int .u8 0, .int .u8 0, .int .u8 0, .int .u8 0, .int .u8 0, .int .u8 0, .int .u8 0, .int .u8 0, .int .u8 0, .int .u8 0, .int .u8 0, .int .u64 0] 77) = V at B R ⊢
  go_wp2_with (first | (refine wpList_store_row rfl 77 (.tmp 4) (.tmp 10) rfl (w.heap.size + 1) (ecells z32 0).toArray rfl rfl 77 _ R.out info77 rfl (ecells_one _ _) ?_))
  exact bodyPost_ret (results_ct Tryd.results24 _ _ (w.heap.size + 1) 77 (ecells z32 0) _ rfl (R.out.setRow _) Tryd.underlying77 rfl info77) rfl ⟨rfl, below_setRow B.out (by omega) _⟩

/-- A book: of each hash the secret, and when it was told first. -/
def tv (p : List Nat × List Nat × Int) : List Nat × Value := (p.1, .agg (ecells p.2.1 p.2.2).toArray)
def lookB (T : List (List Nat × List Nat × Int)) (h : List Nat) : Option (List Nat × Int) := (T.find? fun p => p.1 = h).map (·.2)
def ecOf (T : List (List Nat × List Nat × Int)) (h : List Nat) : List Value := match lookB T h with | some (s, ht) => ecells s ht | none => ecells z32 0
def isIn (T : List (List Nat × List Nat × Int)) (h : List Nat) : Bool := (lookB T h).isSome
structure Okay (T : List (List Nat × List Nat × Int)) : Prop where
  len : ∀ p ∈ T, p.2.1.length = 32
  uniq : (T.map (·.1)).Nodup
theorem find_uniq : ∀ (T : List (List Nat × List Nat × Int)) (p : List Nat × List Nat × Int), (T.map (·.1)).Nodup → p ∈ T → T.find? (fun q => q.1 = p.1) = some p
  | [], _, _, h => by cases h
  | q :: T, p, hn, h => by
    rw [List.map_cons, List.nodup_cons] at hn
    rw [List.find?_cons]
    by_cases e : q.1 = p.1
    · rcases List.mem_cons.1 h with rfl | h
      · simp
      · exact absurd (List.mem_map.2 ⟨p, h, e.symm⟩) hn.1
    · rcases List.mem_cons.1 h with rfl | h
      · exact absurd rfl e
      · simp [e, find_uniq T p hn.2 h]
theorem ecOf_length (T : List (List Nat × List Nat × Int)) (h : List Nat) (hO : Okay T) : (ecOf T h).length = 33 := by
  unfold ecOf
  split
  · rename_i s ht he
    refine ecells_length _ _ ?_
    unfold lookB at he
    obtain ⟨p, hp, hq⟩ := Option.map_eq_some_iff.1 he
    have := hO.len p (List.mem_of_find?_eq_some hp)
    rw [hq] at this
    exact this
  · exact ecells_length _ _ rfl
theorem ecOf_one (T : List (List Nat × List Nat × Int)) (h : List Nat) : (ecOf T h).toArray.all (·.oneCell') = true := by
  unfold ecOf
  split <;> exact ecells_one _ _
theorem look_book {w : World} {b : Nat} {T : List (List Nat × List Nat × Int)} (hM : NMap w b (T.map tv)) (hO : Okay T) (h : List Nat) (hl : h.length = 32) (hb : ∀ x ∈ h, x < 256) :
    (Instr.lookup 73 (.map (some b)) (.agg (w8 h).toArray) true).run Tryd.prog w = .ok (.tuple #[.agg (ecOf T h).toArray, .bool (isIn T h)]) w := by
  rcases hM.look h hl hb with ⟨h1, h2⟩ | ⟨j, v, h1, h2⟩
  · have e : lookB T h = none := by
      unfold lookB
      rw [Option.map_eq_none_iff, List.find?_eq_none]
      intro p hp he
      exact h2 (tv p) (List.mem_map.2 ⟨p, hp, rfl⟩) (by simpa [tv] using he)
    unfold kv at h1
    rw [h1]
    unfold ecOf isIn
    rw [e]
    rfl
  · rw [List.getElem?_map] at h1
    obtain ⟨p, hp, hq⟩ := Option.map_eq_some_iff.1 h1
    have hp' := List.mem_of_getElem? hp
    have e1 : p.1 = h := congrArg Prod.fst hq
    have e : lookB T h = some p.2 := by
      unfold lookB
      have := find_uniq T p hO.uniq hp'
      rw [e1] at this
      rw [this]
      rfl
    unfold kv at h2
    rw [h2]
    unfold ecOf isIn
    rw [e]
    have e2 : v = .agg (ecells p.2.1 p.2.2).toArray := (congrArg Prod.snd hq).symm
    rw [e2]
    rfl
section
variable {ops : Array Oper} {o : Oper} {a : Act} {w : World} {K : Act → World → Prop} {Q : Exit → Act → World → Prop} {E : Prop}
theorem step_new77 (hw : Region.wanted o (yielded ops a.tmps) = true) (ho : o.op = .alloc 77)
    (h : ∀ Y g, Below w.heap.size w Y → Blk Y g 77 (ecells z32 0) → w.heap.size ≤ g → K (a.put o.dst (.pointer (some ⟨g, 0, none⟩))) Y) :
    if Region.wanted o (yielded ops a.tmps) = true then Oper.wp Tryd.prog o a w K Q else E :=
  step_new hw 77 ho #[.int .u8 0, .int .u8 0, .int .u8 0, .int .u8 0, .int .u8 0, .int .u8 0, .int .u8 0, .int .u8 0, .int .u8 0, .int .u8 0, .int .u8 0, .int .u8 0, .int .u8 0, .int .u8 0, .int .u8 0, .int .u8 0, .int .u8 0, .int .u8 0, .int .u8 0, .int .u8 0, .int .u8 0, .int .u8 0, .int .u8 0, .int .u8 0, .int .u8 0, .int .u8 0, .int .u8 0, .int .u8 0, .int .u8 0, .int .u8 0, .int .u8 0, .int .u8 0, .int .u64 0] _ (by kernel_rfl) (h _ _ ((Below.refl _ _).alloc (Nat.le_refl _) _) (Blk.mk_ (cs := ecells z32 0) rfl) (Nat.le_refl _))
end
set_option maxRecDepth 100000 in
set_option maxHeartbeats 4000000 in
theorem find_any (g b : Nat) (T : List (List Nat × List Nat × Int)) (h : List Nat) (w : World) (HN : Hid (Blk w g 75 [.map (some b)])) (HM : Hid (NMap w b (T.map tv))) (hO : Okay T) (hl : h.length = 32) (hb : ∀ x ∈ h, x < 256) :
    Calls Tryd.prog 24 #[.pointer (some ⟨g, 0, none⟩), .agg (w8 h).toArray] w fun e w' => e = .returned (.tuple #[.agg (ecOf T h).toArray, .bool (isIn T h)]) ∧ Below w.heap.size w w' := by
  have LK := Lib.hid (fun (W : World) (hM : NMap W b (T.map tv)) => look_book hM hO h hl hb)
  have hEL := ecOf_length T h hO
  have hEO := ecOf_one T h
  obtain ⟨EC, hEC⟩ : ∃ ec, ecOf T h = ec := ⟨_, rfl⟩
  obtain ⟨TB, hTB⟩ : ∃ t, isIn T h = t := ⟨_, rfl⟩
  rw [hEC] at LK hEL hEO ⊢
  rw [hTB] at LK ⊢
  have HEL := Lib.hid hEL
  have HEO := Lib.hid hEO
  have hgl := HN.out.lt
  have hbl := HM.out.lt
  clear hEC hTB hEL hEO hO hb
  go_enter Tryd.func24, Tryd.ntmps24
  go_upto_region 3 with fail
  have hB0 : Below w.heap.size w ((w.alloc (.cells (w8 h).toArray 53)).alloc (.cells #[.int .u8 0, .int .u8 0, .int .u8 0, .int .u8 0, .int .u8 0, .int .u8 0, .int .u8 0, .int .u8 0, .int .u8 0, .int .u8 0, .int .u8 0, .int .u8 0, .int .u8 0, .int .u8 0, .int .u8 0, .int .u8 0, .int .u8 0, .int .u8 0, .int .u8 0, .int .u8 0, .int .u8 0, .int .u8 0, .int .u8 0, .int .u8 0, .int .u8 0, .int .u8 0, .int .u8 0, .int .u8 0, .int .u8 0, .int .u8 0, .int .u8 0, .int .u8 0, .int .u64 0] 77)) := (((Below.refl _ _).alloc (Nat.le_refl _) _).alloc (by simp) _)
  have BV : Hid (Below w.heap.size w ((w.alloc (.cells (w8 h).toArray 53)).alloc (.cells #[.int .u8 0, .int .u8 0, .int .u8 0, .int .u8 0, .int .u8 0, .int .u8 0, .int .u8 0, .int .u8 0, .int .u8 0, .int .u8 0, .int .u8 0, .int .u8 0, .int .u8 0, .int .u8 0, .int .u8 0, .int .u8 0, .int .u8 0, .int .u8 0, .int .u8 0, .int .u8 0, .int .u8 0, .int .u8 0, .int .u8 0, .int .u8 0, .int .u8 0, .int .u8 0, .int .u8 0, .int .u8 0, .int .u8 0, .int .u8 0, .int .u8 0, .int .u8 0, .int .u64 0] 77))) := Lib.hid hB0
  have NV := Lib.hid (HN.out.below hB0 hgl)
  have MV := Lib.hid (HM.out.below hB0)
  have HV : Hid (Blk ((w.alloc (.cells (w8 h).toArray 53)).alloc (.cells #[.int .u8 0, .int .u8 0, .int .u8 0, .int .u8 0, .int .u8 0, .int .u8 0, .int .u8 0, .int .u8 0, .int .u8 0, .int .u8 0, .int .u8 0, .int .u8 0, .int .u8 0, .int .u8 0, .int .u8 0, .int .u8 0, .int .u8 0, .int .u8 0, .int .u8 0, .int .u8 0, .int .u8 0, .int .u8 0, .int .u8 0, .int .u8 0, .int .u8 0, .int .u8 0, .int .u8 0, .int .u8 0, .int .u8 0, .int .u8 0, .int .u8 0, .int .u8 0, .int .u64 0] 77)) w.heap.size 53 (w8 h)) := Lib.hid ((Blk.new w 53 (w8 h)).alloc _)
  have RV : Hid (Blk ((w.alloc (.cells (w8 h).toArray 53)).alloc (.cells #[.int .u8 0, .int .u8 0, .int .u8 0, .int .u8 0, .int .u8 0, .int .u8 0, .int .u8 0, .int .u8 0, .int .u8 0, .int .u8 0, .int .u8 0, .int .u8 0, .int .u8 0, .int .u8 0, .int .u8 0, .int .u8 0, .int .u8 0, .int .u8 0, .int .u8 0, .int .u8 0, .int .u8 0, .int .u8 0, .int .u8 0, .int .u8 0, .int .u8 0, .int .u8 0, .int .u8 0, .int .u8 0, .int .u8 0, .int .u8 0, .int .u8 0, .int .u8 0, .int .u64 0] 77)) (w.heap.size + 1) 77 (ecells z32 0)) := Lib.hid (Blk.mk_ (cs := ecells z32 0) (by simp))
  clear hB0 HN HM
  generalize (w.alloc (.cells (w8 h).toArray 53)).alloc (.cells #[.int .u8 0, .int .u8 0, .int .u8 0, .int .u8 0, .int .u8 0, .int .u8 0, .int .u8 0, .int .u8 0, .int .u8 0, .int .u8 0, .int .u8 0, .int .u8 0, .int .u8 0, .int .u8 0, .int .u8 0, .int .u8 0, .int .u8 0, .int .u8 0, .int .u8 0, .int .u8 0, .int .u8 0, .int .u8 0, .int .u8 0, .int .u8 0, .int .u8 0, .int .u8 0, .int .u8 0, .int .u8 0, .int .u8 0, .int .u8 0, .int .u8 0, .int .u8 0, .int .u64 0] 77) = V at BV NV MV HV RV ⊢
  obtain ⟨hh, hhe⟩ : ∃ x, w.heap.size = x := ⟨_, rfl⟩
  have hH := HV.out.lt
  have hR := RV.out.lt
  have hw0 : g < hh ∧ b < hh := ⟨by omega, by omega⟩
  have HHE := Lib.hid hhe
  rw [hhe] at BV HV RV hH hR ⊢
  clear hhe hgl hbl
  obtain ⟨hr, hre⟩ : ∃ x, hh + 1 = x := ⟨_, rfl⟩
  rw [hre] at RV hR ⊢
  have hBz : Below V.heap.size V V.drew := below_drewN (Below.refl _ _) 1
  have BX0 : Hid (Below hh w V.drew) := Lib.hid (BV.out.trans (hBz.mono (HHE.out ▸ BV.out.size)))
  have NX0 : Hid (Blk V.drew g 75 [.map (some b)]) := Lib.hid (NV.out.below hBz NV.out.lt)
  have MX0 : Hid (NMap V.drew b (T.map tv)) := Lib.hid (MV.out.below hBz)
  have HX0 : Hid (Blk V.drew hh 53 (w8 h)) := Lib.hid (HV.out.below hBz HV.out.lt)
  have RX0 : Hid (Blk V.drew hr 77 (ecells z32 0)) := Lib.hid (RV.out.below hBz RV.out.lt)
  clear hBz
  refine wp_region_held_drew (S := fun w' => Blk w' g 75 [.map (some b)] ∧ NMap w' b (T.map tv) ∧ Blk w' hh 53 (w8 h)) (by kernel_rfl) (⟨NX0.out, MX0.out, HX0.out⟩) (fun hHeld => ?_)
  generalize V.drew = X0 at hHeld BX0 NX0 MX0 HX0 RX0 ⊢
  refine wpAnyH_take (i := 0) (v := .pointer (some ⟨g, 0, none⟩)) rfl (by kernel_rfl) (by kernel_rfl) (by kernel_rfl) (fun _ _ _ h => h) (Or.inl ⟨by rfl, fun w _ => by rfl⟩) hHeld ?_
  show wpAnyH _ _ _ _ _ _ _ (Act.put _ (some 12) _) _
  simp only [Act.put, List.setIfInBounds_toArray, List.set_cons_zero, List.set_cons_succ]
  refine wpAnyH_take (i := 1) (v := .pointer (some ⟨g, 0, none⟩)) rfl (by kernel_rfl) (by kernel_rfl) (by kernel_rfl) (fun _ _ _ h => h) (Or.inl ⟨by rfl, by intro w' h; go_simp⟩) hHeld ?_
  show wpAnyH _ _ _ _ _ _ _ (Act.put _ (some 13) _) _
  simp only [Act.put, List.setIfInBounds_toArray, List.set_cons_zero, List.set_cons_succ]
  refine wpAnyH_take (i := 2) (v := .pointer (some ⟨g, 0, none⟩)) rfl (by kernel_rfl) (by kernel_rfl) (by kernel_rfl) (fun _ _ _ h => h) (Or.inl ⟨by rfl, by intro w' h; go_simp⟩) hHeld ?_
  show wpAnyH _ _ _ _ _ _ _ (Act.put _ (some 14) _) _
  simp only [Act.put, List.setIfInBounds_toArray, List.set_cons_zero, List.set_cons_succ]
  refine wpAnyH_take (i := 3) (v := .map (some b)) rfl (by kernel_rfl) (by kernel_rfl) (by kernel_rfl) (fun _ _ _ h => h) (Or.inl ⟨by rfl, by intro w' h; have k0 := Blk.cell h.1 0; simp only [List.getElem?_cons_zero] at k0; go_simp⟩) hHeld ?_
  show wpAnyH _ _ _ _ _ _ _ (Act.put _ (some 15) _) _
  simp only [Act.put, List.setIfInBounds_toArray, List.set_cons_zero, List.set_cons_succ]
  refine wpAnyH_take (i := 4) (v := .agg (w8 h).toArray) rfl (by kernel_rfl) (by kernel_rfl) (by kernel_rfl) (fun _ _ _ h => h) (yieldsIf_load_mid rfl 53 (.tmp 3) rfl hh 0 rfl (w8 h) _ (fun w' hS => hS.2.2.all) Tryd.underlying53 rfl (by rw [w8_length, hl]; exact info53)) hHeld ?_
  show wpAnyH _ _ _ _ _ _ _ (Act.put _ (some 16) _) _
  simp only [Act.put, List.setIfInBounds_toArray, List.set_cons_zero, List.set_cons_succ]
  refine wpAnyH_take (i := 5) (v := .tuple #[.agg EC.toArray, .bool TB]) rfl (by kernel_rfl) (by kernel_rfl) (by kernel_rfl) (fun _ _ _ h => h) (Or.inl ⟨by rfl, by intro w' hS; have hk := LK.out w' hS.2.1; go_simp⟩) hHeld ?_
  show wpAnyH _ _ _ _ _ _ _ (Act.put _ (some 17) _) _
  simp only [Act.put, List.setIfInBounds_toArray, List.set_cons_zero, List.set_cons_succ]
  refine wpAnyH_take (i := 6) (v := .tuple #[.agg EC.toArray, .bool TB]) rfl (by kernel_rfl) (by kernel_rfl) (by kernel_rfl) (fun _ _ _ h => h) (Or.inl ⟨by rfl, fun w _ => by rfl⟩) hHeld ?_
  show wpAnyH _ _ _ _ _ _ _ (Act.put _ (some 11) _) _
  simp only [Act.put, List.setIfInBounds_toArray, List.set_cons_zero, List.set_cons_succ]
  refine wpAnyH_take (i := 7) (v := .agg EC.toArray) rfl (by kernel_rfl) (by kernel_rfl) (by kernel_rfl) (fun _ _ _ h => h) (Or.inl ⟨by rfl, by intro w' h; go_simp⟩) hHeld ?_
  show wpAnyH _ _ _ _ _ _ _ (Act.put _ (some 18) _) _
  simp only [Act.put, List.setIfInBounds_toArray, List.set_cons_zero, List.set_cons_succ]
  refine wpAnyH_take (i := 8) (v := .bool TB) rfl (by kernel_rfl) (by kernel_rfl) (by kernel_rfl) (fun _ _ _ h => h) (Or.inl ⟨by rfl, by intro w' h; go_simp⟩) hHeld ?_
  show wpAnyH _ _ _ _ _ _ _ (Act.put _ (some 19) _) _
  simp only [Act.put, List.setIfInBounds_toArray, List.set_cons_zero, List.set_cons_succ]
  refine wpAnyH_ready (rs := [9]) (by kernel_rfl) (by simp) ?_
  refine AllReadyH.cons rfl (fun K hK => ?_) AllReadyH.nil
  refine step_new77 rfl rfl ?_
  intro X1 he hB hEn hge
  have hhs : hh ≤ X0.heap.size := HHE.out ▸ BX0.out.size
  have hhe : hh ≤ he := by omega
  have hgN : some he = some he := rfl
  have hre2 : hr < he := by have := RX0.out.lt; omega
  have BX1 : Hid (Below hh w X1) := Lib.hid (BX0.out.trans (hB.mono (HHE.out ▸ BX0.out.size)))
  have NX1 : Hid (Blk X1 g 75 [.map (some b)]) := Lib.hid (NX0.out.below hB NX0.out.lt)
  have MX1 : Hid (NMap X1 b (T.map tv)) := Lib.hid (MX0.out.below hB)
  have HX1 : Hid (Blk X1 hh 53 (w8 h)) := Lib.hid (HX0.out.below hB HX0.out.lt)
  have RX1 : Hid (Blk X1 hr 77 (ecells z32 0)) := Lib.hid (RX0.out.below hB RX0.out.lt)
  have EX1 : Hid (Blk X1 he 77 (ecells z32 0)) := Lib.hid (hEn)
  clear BX0 NX0 MX0 HX0 RX0 hB hEn hge
  refine hK.out _ _ (⟨NX1.out, MX1.out, HX1.out⟩) (fun hHeld => ?_)
  clear hK K
  show wpAnyH _ _ _ _ _ _ _ (Act.put _ (some 6) _) _
  simp only [Act.put, List.setIfInBounds_toArray, List.set_cons_zero, List.set_cons_succ]
  refine wpAnyH_ready (rs := [10]) (by kernel_rfl) (by simp) ?_
  refine AllReadyH.cons rfl (fun K hK => ?_) AllReadyH.nil
  refine step_store rfl 77 (.tmp 6) (.tmp 18) rfl he EC rfl rfl 77 _ EX1.out (by rw [HEL.out]; exact info77) (by rw [HEL.out]; rfl) HEO.out ?_
  intro X2 hEn hO
  have hhs : hh ≤ X1.heap.size := HHE.out ▸ BX1.out.size
  have hgN : ∀ k, some he = some k → hh ≤ k := fun k hk => by injection hk with hk; omega
  have hNN : some g ≠ some he := fun e => by injection e with e; omega
  have hMN : some b ≠ some he := fun e => by injection e with e; omega
  have hHN : some hh ≠ some he := fun e => by injection e with e; omega
  have hRN : some hr ≠ some he := fun e => by injection e with e; omega
  have BX2 : Hid (Below hh w X2) := Lib.hid (BX1.out.grown hO hhs hgN)
  have NX2 : Hid (Blk X2 g 75 [.map (some b)]) := Lib.hid (NX1.out.grown hO hNN)
  have MX2 : Hid (NMap X2 b (T.map tv)) := Lib.hid (MX1.out.far hO hMN)
  have HX2 : Hid (Blk X2 hh 53 (w8 h)) := Lib.hid (HX1.out.grown hO hHN)
  have RX2 : Hid (Blk X2 hr 77 (ecells z32 0)) := Lib.hid (RX1.out.grown hO hRN)
  have EX2 : Hid (Blk X2 he 77 EC) := Lib.hid (hEn)
  clear BX1 NX1 MX1 HX1 RX1 hEn hO hgN hNN hMN hHN hRN hhs
  refine hK.out _ _ (⟨NX2.out, MX2.out, HX2.out⟩) (fun hHeld => ?_)
  clear hK K
  show wpAnyH _ _ _ _ _ _ _ (Act.put _ none _) _
  simp only [Act.put]
  refine wpAnyH_take (i := 11) (v := .bool TB) rfl (by kernel_rfl) (by kernel_rfl) (by kernel_rfl) (fun _ _ _ h => h) (Or.inl ⟨by rfl, fun w _ => by rfl⟩) hHeld ?_
  show wpAnyH _ _ _ _ _ _ _ (Act.put _ (some 7) _) _
  simp only [Act.put, List.setIfInBounds_toArray, List.set_cons_zero, List.set_cons_succ]
  refine wpAnyH_done (by kernel_rfl) ?_ _
  clear hHeld
  have hzo : (ecells z32 0).toArray.size = EC.toArray.size := by rw [List.size_toArray, List.size_toArray, HEL.out]; rfl
  have hheo := HEO.out
  have hR9 : X2.heap[hr]? = some (.cells (ecells z32 0).toArray 77 (0, 0)) := RX2.out
  have hz : (Tryd.prog.info? 77).map (·.size) = some EC.toArray.size := by rw [List.size_toArray, HEL.out]; exact info77
  go_wp2_with (first | (refine wpList_load_row rfl 77 (.tmp 6) rfl he rfl 77 EC.toArray (0, 0) _ EX2.out Tryd.underlying77 rfl hz ?_) | (refine wpList_store_row rfl 77 (.tmp 4) (.tmp 20) rfl hr EC.toArray rfl rfl 77 (ecells z32 0).toArray hR9 hz hzo hheo ?_))
  exact bodyPost_ret (results_ct Tryd.results24 _ _ hr 77 EC _ rfl (RX2.out.setRow _) Tryd.underlying77 rfl (by rw [HEL.out]; exact info77)) rfl ⟨rfl, HHE.out ▸ below_setRow BX2.out (by omega) _⟩
end Go.Proofs.YteoeoomdjfhmbaaDoor
