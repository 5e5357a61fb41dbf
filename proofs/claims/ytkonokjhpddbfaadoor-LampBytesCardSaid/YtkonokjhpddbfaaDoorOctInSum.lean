/-
  octet's In.Sum (function 23): the next 32 bytes.
-/
import Derived.Test.YtkonokjhpddbfaaDoorOctInLib
import Derived.Deep.RegionHeld3
namespace Go.Proofs.YtkonokjhpddbfaaDoor.Oct
open Go.RowKit
set_option linter.unusedVariables false

theorem only_setRow (w : World) (g : Nat) (c : Array Value) : w.grownBy (w.setRow g c) (some g) :=
  ⟨rfl, rfl, rfl, by simp, fun i hi hne => setRow_other w g i c (by rintro rfl; exact hne rfl)⟩
theorem Bk.setRow {w : World} {g : Nat} {t : TypeId} {cs : List Value} (h : Bk w g t cs) (c : List Value) : Bk (w.setRow g c.toArray) g t c := setRow_heap w g cs.toArray c.toArray t _ h

theorem step_copy_at {ops : Array Oper} {o : Oper} {a : Act} {w : World} {K : Act → World → Prop} {Q : Exit → Act → World → Prop} {E : Prop} (hgd : o.guard = none) (d s : Operand) (dT sT : TypeId)
    (ho : o.op = .call { callee := .builtin .copy, args := #[d, s], argTypes := #[dT, sT] }) (elem : TypeId) (hu : Tryd.prog.underlying dT = some (.slice elem)) (hsz : (Tryd.prog.info? elem).map (·.size) = some 1)
    (g off dLen dCap : Nat) (ad : Addr) (sLen sCap : Nat) (hd : a.eval d = .slice (some ⟨g, off, none⟩) dLen dCap) (hs : a.eval s = .slice (some ad) sLen sCap)
    (cur : List Value) (t : TypeId) (hg : Bk w g t cur) (cs : List Value) (n : Nat) (hcs : cs.length = n) (hn : n = Nat.min sLen dLen)
    (hsrc : ∀ j v, cs[j]? = some v → w.cell? (ad.add j) = some v) (hfit : off + n ≤ cur.length) (h1 : ∀ v ∈ cs, v.oneCell' = true)
    (h : ∀ w', Hid (Bk w' g t (splice cur off cs)) → Hid (w.grownBy w' (some g)) → K (a.put o.dst (.int .i64 (n : Int))) w') :
    if Region.wanted o (yielded ops a.tmps) = true then Oper.wp Tryd.prog o a w K Q else E := by
  have hw : Region.wanted o (yielded ops a.tmps) = true := by simp [Region.wanted, hgd]
  rw [if_pos hw]
  subst hcs
  have hrun := run_copy_row (P := Tryd.prog) w dT sT o.type elem g off dLen dCap ad sLen sCap cur.toArray t cs hu hsz hg hn hsrc (by simpa using hfit) h1
  have h2 := h (w.setRow g (splice cur off cs).toArray) (Lib.hid (hg.setRow _)) (Lib.hid (only_setRow w g _))
  unfold Oper.wp
  simp [execOp, ho, resolve, invoke, builtin, hd, hs, hrun, Result.andThen]
  exact (by simpa [splice] using h2 : K (a.put o.dst (.int .i64 (cs.length : Int))) (w.setRow g (List.take off cur ++ (cs ++ List.drop (off + cs.length) cur)).toArray))

theorem grown_new {w X1 X2 : World} {r : Option Nat} {b : Nat} (h : w.grownBy X1 r) (h2 : X1.grownBy X2 (some b)) (hb : w.heap.size ≤ b) : w.grownBy X2 r :=
  ⟨h2.os.trans h.os, h2.tape.trans h.tape, h2.output.trans h.output, Nat.le_trans h.size h2.size, fun i hi hn => (h2.block i (Nat.lt_of_lt_of_le hi h.size) (by intro he; injection he; omega)).trans (h.block i hi hn)⟩

set_option maxRecDepth 100000 in
set_option maxHeartbeats 1000000 in
theorem sum_in (g : Nat) (D ys : List Int) (w : World) (HI : Hid (InAt w g (D ++ ys))) (HD : Hid (D.length = 32)) :
    Calls Tryd.prog 72 #[.pointer (some ⟨g, 0, none⟩)] w fun r w' => r = .returned (.agg (byt D).toArray) ∧ InAt w' g ys ∧ w.grownBy w' (some g) := by
  have hsl := slice42 (w.heap.size + 1)
  go_enter Tryd.func72, Tryd.ntmps72
  go_wp2_with fail
  rw [zeros_lit]
  have H0 : Hid (Bk ((w.alloc (.cells zeros 36)).alloc (.cells zeros 36)) w.heap.size 36 zeros.toList) := Lib.hid ((Bk.new w 36 zeros.toList).alloc _)
  have H1 : Hid (Bk ((w.alloc (.cells zeros 36)).alloc (.cells zeros 36)) (w.heap.size + 1) 36 zeros.toList) := Lib.hid (by
    have h := Bk.new (w.alloc (.cells zeros 36)) 36 zeros.toList
    rw [World.size_alloc] at h
    exact h)
  have HB : Hid (Below w.heap.size w ((w.alloc (.cells zeros 36)).alloc (.cells zeros 36))) := Lib.hid (((Below.refl _ w).alloc (Nat.le_refl _) (.cells zeros 36)).alloc (by simp) (.cells zeros 36))
  generalize (w.alloc (.cells zeros 36)).alloc (.cells zeros 36) = W at H0 H1 HB ⊢
  have HG0 : Hid (w.grownBy W (some g)) := Lib.hid (Below.grownBy HB.out _)
  have HIW := Lib.hid (HI.out.below HB.out)
  have hgw := HI.out.lt
  have HL1 : Hid ((byt D).length = 32) := Lib.hid (by simp [byt, HD.out])
  have HZ : Hid (0 + 32 ≤ zeros.toList.length) := Lib.hid (by simp [zeros])
  have HO1 := Lib.hid (byt_one D)
  have HNX : Hid (∀ X, InAt X g (D ++ ys) → Calls Tryd.prog 97 #[.pointer (some ⟨g, 0, none⟩), .int .i64 32] X fun e w' => ∃ ad c, e = .returned (.slice (some ad) 32 c) ∧ (∀ j v, (byt D)[j]? = some v → w'.cell? (ad.add j) = some v) ∧ InAt w' g ys ∧ X.grownBy w' (some g)) := Lib.hid fun X hX => by
    refine (next_any g 32 D ys X (Lib.hid hX) HD).mono ?_
    rintro e w' ⟨A, c, rfl, hs, hi, hg⟩
    obtain ⟨ad, rfl, hc⟩ := hs.cells (by rw [HL1.out]; omega)
    exact ⟨ad, c, rfl, hc, hi, hg⟩
  have HBG : Hid (∀ X1, W.drew.grownBy X1 (some g) → Hid (Bk X1 (w.heap.size + 1) 36 zeros.toList)) := Lib.hid fun X1 hg1 => Lib.hid (Bk.grown (w := W.drew) H1.out hg1 (by intro he; injection he; omega))
  go_region_held3 (fun w' => True) (trivial)
    (first
      | (go_at_call 97
         ((with_reducible refine (HNX.out _ ?_).mono ?_))
         · exact HIW.out.drewN 1
         rintro e X1 ⟨ad, cc, rfl, hs1, hi1, hg1⟩
         have HB1 : Hid (Bk X1 (w.heap.size + 1) 36 zeros.toList) := HBG.out X1 hg1)
      | (refine step_copy_at rfl (.tmp 4) (.tmp 6) 30 30 rfl 5 Tryd.underlying30 info5 (w.heap.size + 1) 0 32 32 ad 32 cc rfl rfl zeros.toList 36 HB1.out (byt D) 32 HL1.out rfl hs1 HZ.out HO1.out ?_
         intro X2 HB2 HG2))
  have HD2 : Hid (Bk X2 (w.heap.size + 1) 36 (byt D)) := Lib.hid (by
    have h := HB2.out
    rw [splice_all _ _ (by rw [HL1.out]; simp [zeros])] at h
    exact h)
  have H02 : Hid (Bk X2 w.heap.size 36 zeros.toList) := Lib.hid (Bk.grown (Bk.grown (w := W.drew) H0.out hg1 (by intro he; injection he; omega)) HG2.out (by intro he; injection he; omega))
  have HI2 := Lib.hid (hi1.far HG2.out (by omega))
  have HW2 : Hid (w.grownBy X2 (some g)) := Lib.hid (grown_new ((only_drewN HG0.out 1).trans hg1) HG2.out (by omega))
  clear hs1 hi1 hg1 HB1 HB2 HG2 hsl
  have HRG := Lib.hid HD2.out.all
  have HS5 : Hid ((Tryd.prog.info? 36).map (·.size) = some (byt D).length) := Lib.hid (by rw [HL1.out]; exact info42)
  have HS6 : Hid ((Tryd.prog.info? 36).map (·.size) = some (byt D).toArray.size) := Lib.hid (by rw [List.size_toArray, HL1.out]; exact info42)
  have HZ6 : Hid (zeros.toList.toArray.size = (byt D).toArray.size) := Lib.hid (by rw [List.size_toArray, List.size_toArray, HL1.out]; simp [zeros])
  have HO6 := Lib.hid (all_oneCell_toArray (byt_one D))
  go_wp2_with (first | (refine wpList_load_mid rfl 36 (.tmp 3) rfl (w.heap.size + 1) 0 rfl (byt D) _ HRG.out Tryd.underlying36 rfl HS5.out ?_) | (refine wpList_store_row rfl 36 (.tmp 2) (.tmp 8) rfl w.heap.size (byt D).toArray rfl rfl 36 _ H02.out HS6.out HZ6.out HO6.out ?_))
  exact bodyPost_ret (v := .agg (byt D).toArray) (results_cell_row Tryd.results72 _ _ w.heap.size 36 (byt D).toArray (0, 0) _ rfl (H02.out.setRow _) Tryd.underlying36 rfl HS6.out) rfl ⟨rfl, HI2.out.far (only_setRow _ _ _) hgw, grown_new HW2.out (only_setRow _ _ _) (Nat.le_refl _)⟩
end Go.Proofs.YtkonokjhpddbfaaDoor.Oct
