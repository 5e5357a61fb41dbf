/-
  Routes found so far, in a variable of one's own; one route more (All's closure, 62).
  Routes that go on from a trail, in numbers (each, 60); where nothing is left to look at.
-/
import Derived.Test.YtnnimjaigciedaaPathI
namespace Go.Proofs.Ytnnimjaigciedaa
open Go.RowKit
set_option linter.unusedVariables false

/-- A route in memory. -/
structure Rt where
  na : Option Addr
  nc : Nat
  ga : Option Addr
  gc : Nat
  aa : Option Addr
  ac : Nat
  l : List Int
  s : List Stp
def Rt.cells (r : Rt) : List Value := [.slice r.na r.l.length r.nc, .slice r.ga r.s.length r.gc, .slice r.aa r.s.length r.ac]
def rtflat (l : List Rt) : List Value := l.flatMap Rt.cells
theorem rtflat_append (l m : List Rt) : rtflat (l ++ m) = rtflat l ++ rtflat m := List.flatMap_append
theorem rtflat_one (r : Rt) : rtflat [r] = r.cells := by simp [rtflat]
theorem rt_one (r : Rt) : ∀ u ∈ r.cells, u.oneCell' = true := by
  intro u hu
  simp [Rt.cells] at hu
  rcases hu with rfl | rfl | rfl <;> rfl
def RtOk (w : World) (base : Nat) (amt : Int) (r : Rt) : Prop :=
  w.ownsRow base 3 1 (.slice r.na r.l.length r.nc) r.l.length (ins r.l) ∧ w.ownsRow base 3 1 (.slice r.ga r.s.length r.gc) r.s.length (ins (stE r.s)) ∧ w.ownsRow base 40 1 (.slice r.aa r.s.length r.ac) r.s.length (Mon.nums (amtsE amt r.s).2)
/-- What finding routes leaves: all but the variable and its row. -/
structure Kp (gl : Nat) (w w' : World) : Prop where
  low : Below gl w w'
  keep : ∀ g t cs, Blk w g t cs → t ≠ 89 → g ≠ gl → Blk w' g t cs
theorem Kp.refl (gl : Nat) (w : World) : Kp gl w w := ⟨Below.refl _ _, fun _ _ _ h _ _ => h⟩
theorem Kp.trans {gl : Nat} {w w' w'' : World} (h : Kp gl w w') (k : Kp gl w' w'') : Kp gl w w'' := ⟨h.low.trans k.low, fun g t cs a b c => k.keep g t cs (h.keep g t cs a b c) b c⟩
theorem Kp.of_below {gl : Nat} {w w' : World} (h : Below w.heap.size w w') (hg : gl ≤ w.heap.size) : Kp gl w w' := ⟨h.mono hg, fun g t cs a _ _ => a.below h a.lt⟩
theorem Kp.own {gl base size n : Nat} {w w' : World} {e : TypeId} {v : Value} {xs : List Value} (h : w.ownsRow base e size v n xs) (k : Kp gl w w') (he : e ≠ 89) (hb : gl < base) : w'.ownsRow base e size v n xs := by
  refine ⟨h.1, ?_⟩
  rcases h.2 with h1 | ⟨g, cap, cur, hv, hbg, hg, rest⟩
  · exact .inl h1
  · have hB : Blk w g e cur.toList := by unfold Blk; simpa using hg
    exact .inr ⟨g, cap, cur, hv, hbg, by simpa [Blk] using k.keep g e _ hB he (by omega), rest⟩
theorem Kp.rt {gl : Nat} {w w' : World} {amt : Int} {r : Rt} (h : RtOk w (gl + 1) amt r) (k : Kp gl w w') : RtOk w' (gl + 1) amt r :=
  ⟨Kp.own h.1 k (by decide) (by omega), Kp.own h.2.1 k (by decide) (by omega), Kp.own h.2.2 k (by decide) (by omega)⟩
/-- The routes found so far. -/
structure Found (w : World) (gl : Nat) (amt : Int) (acc : List Rt) (a : Option Addr) (c : Nat) : Prop where
  var : Blk w gl 78 [.slice a acc.length c]
  row : w.ownsRow (gl + 1) 89 3 (.slice a acc.length c) acc.length (rtflat acc)
  ok : ∀ r ∈ acc, RtOk w (gl + 1) amt r
theorem Found.below {w w' : World} {gl : Nat} {amt : Int} {acc : List Rt} {a : Option Addr} {c : Nat} (h : Found w gl amt acc a c) (hB : Below w.heap.size w w') : Found w' gl amt acc a c :=
  ⟨h.var.below hB h.var.lt, Mon.own_below h.row hB, fun r hr => ⟨Mon.own_below (h.ok r hr).1 hB, Mon.own_below (h.ok r hr).2.1 hB, Mon.own_below (h.ok r hr).2.2 hB⟩⟩
theorem rt_info : (Try.prog.info? 89).map (fun i => (i.zero, i.size, i.bytes)) = some (some (.agg #[.slice none 0 0, .slice none 0 0, .slice none 0 0]), 3, 72) := by kernel_rfl
theorem rt_slice {w : World} {base size n : Nat} {e : TypeId} {v : Value} {xs : List Value} (h : w.ownsRow base e size v n xs) : ∃ a c, v = .slice a n c := by
  rcases h.2 with ⟨rfl, h0⟩ | ⟨g, c, cur, rfl, _⟩
  · exact ⟨none, 0, by rw [h0]⟩
  · exact ⟨_, c, rfl⟩

set_option maxRecDepth 100000 in
set_option maxHeartbeats 4000000 in
/-- One route more. -/
theorem found_any (gl : Nat) (amt : Int) (acc : List Rt) (a : Option Addr) (c : Nat) (r : Rt) (w : World) (hF : Found w gl amt acc a c) (hR : RtOk w (gl + 1) amt r) (hn : acc.length ≤ 100) :
    Calls Try.prog 62 #[.agg #[.slice r.na r.l.length r.nc, .slice r.ga r.s.length r.gc, .slice r.aa r.s.length r.ac], .pointer (some ⟨gl, 0, none⟩)] w fun e w' => e = .returned (.bool (decide (acc.length + 1 < 32))) ∧ (∃ a' c', Found w' gl amt (acc ++ [r]) a' c') ∧ Kp gl w w' := by
  obtain ⟨na, nc, ga, gc, aa, ac, l, s⟩ := r
  obtain ⟨n, hnn⟩ : ∃ n, acc.length = n := ⟨_, rfl⟩
  obtain ⟨xs, hxs⟩ : ∃ xs, rtflat acc = xs := ⟨_, rfl⟩
  obtain ⟨nl, hnl⟩ : ∃ n, l.length = n := ⟨_, rfl⟩
  obtain ⟨ns, hns⟩ : ∃ n, s.length = n := ⟨_, rfl⟩
  have HC : Hid (Rt.cells ⟨na, nc, ga, gc, aa, ac, l, s⟩ = [.slice na nl nc, .slice ga ns gc, .slice aa ns ac]) := Lib.hid (by unfold Rt.cells; rw [← hnl, ← hns])
  have hgl := hF.var.lt
  have HV := Lib.hid hF.var
  have HO := Lib.hid hF.row
  have HK := Lib.hid hF.ok
  have HRR := Lib.hid hR
  rw [hnn] at HV HO hn
  rw [hxs] at HO
  rw [hnn]
  simp only [hnl, hns]
  have HNN := Lib.hid hnn
  have HXS := Lib.hid hxs
  clear hF hR hnn hxs hnl hns
  have p0 : (w.alloc (.cells #[.slice na nl nc, .slice ga ns gc, .slice aa ns ac] 89)).cell? ⟨gl, 0, none⟩ = some (.slice a n c) := (HV.out.alloc _).cell 0
  have b0 : (w.alloc (.cells #[.slice na nl nc, .slice ga ns gc, .slice aa ns ac] 89)).cell? ⟨w.heap.size, 0, none⟩ = some (.slice na nl nc) := (Blk.new w 89 [.slice na nl nc, .slice ga ns gc, .slice aa ns ac]).cell 0
  have b1 : (w.alloc (.cells #[.slice na nl nc, .slice ga ns gc, .slice aa ns ac] 89)).cell? ⟨w.heap.size, 1, none⟩ = some (.slice ga ns gc) := (Blk.new w 89 [.slice na nl nc, .slice ga ns gc, .slice aa ns ac]).cell 1
  have b2 : (w.alloc (.cells #[.slice na nl nc, .slice ga ns gc, .slice aa ns ac] 89)).cell? ⟨w.heap.size, 2, none⟩ = some (.slice aa ns ac) := (Blk.new w 89 [.slice na nl nc, .slice ga ns gc, .slice aa ns ac]).cell 2
  have B1 : Hid (Below w.heap.size w ((w.alloc (.cells #[.slice na nl nc, .slice ga ns gc, .slice aa ns ac] 89)).alloc (.cells #[.slice na nl nc, .slice ga ns gc, .slice aa ns ac] 89))) := Lib.hid (((Below.refl _ _).alloc (Nat.le_refl _) _).alloc (by simp) _)
  have V1 : Hid (Blk ((w.alloc (.cells #[.slice na nl nc, .slice ga ns gc, .slice aa ns ac] 89)).alloc (.cells #[.slice na nl nc, .slice ga ns gc, .slice aa ns ac] 89)) gl 78 [.slice a n c]) := Lib.hid (HV.out.below B1.out HV.out.lt)
  have O1 : Hid (((w.alloc (.cells #[.slice na nl nc, .slice ga ns gc, .slice aa ns ac] 89)).alloc (.cells #[.slice na nl nc, .slice ga ns gc, .slice aa ns ac] 89)).ownsRow (gl + 1) 89 3 (.slice a n c) n xs) := Lib.hid (Mon.own_below HO.out B1.out)
  have N1 : Hid (Blk ((w.alloc (.cells #[.slice na nl nc, .slice ga ns gc, .slice aa ns ac] 89)).alloc (.cells #[.slice na nl nc, .slice ga ns gc, .slice aa ns ac] 89)) (w.heap.size + 1) 89 [.slice na nl nc, .slice ga ns gc, .slice aa ns ac]) := Lib.hid (Blk.mk_ (cs := [.slice na nl nc, .slice ga ns gc, .slice aa ns ac]) (by simp))
  obtain ⟨i0, hi, hz0, hz1, hz2⟩ := info_parts rt_info
  have hS1 : gl + 1 ≤ ((w.alloc (.cells #[.slice na nl nc, .slice ga ns gc, .slice aa ns ac] 89)).alloc (.cells #[.slice na nl nc, .slice ga ns gc, .slice aa ns ac] 89)).heap.size := by simp; omega
  go_enter Try.func62, Try.ntmps62
  go_wp2_with (at_builtin; refine wpList_append_own_at _ rfl (.tmp 4) (.tmp 6) 78 rfl (gl + 1) 89 i0 _ 3 72 Try.underlying78 hi hz0 hz1 hz2 rfl (by decide) (.slice a n c) n xs rfl O1.out ⟨w.heap.size + 1, 0, none⟩ 1 1 [.slice na nl nc, .slice ga ns gc, .slice aa ns ac] rfl rfl (news_of N1.out) (fun u hu => by simp at hu; rcases hu with rfl | rfl | rfl <;> rfl) (by unfold maxLen; omega) (by omega) hS1 ?_)
  intro v9 Y hO hG _ _
  obtain ⟨a9, c9, rfl⟩ := rt_slice hO
  have V2 := Lib.hid (V1.out.grown hG (own_ne V1.out O1.out (by decide)))
  have O2 := Lib.hid hO
  have LB : Hid (Below gl w Y) := Lib.hid (below_own (B1.out.mono (by omega)) hG O1.out (by omega) (by simp; omega))
  have KB : Hid (∀ g t cs, Blk w g t cs → t ≠ 89 → g ≠ gl → Blk Y g t cs) := Lib.hid (fun g t cs h1 h2 h3 => by
    have h4 := h1.below B1.out h1.lt
    exact h4.grown hG (own_ne h4 O1.out h2))
  clear hO hG p0 b0 b1 b2 B1 V1 O1 N1
  have p0 : Y.cell? ⟨gl, 0, none⟩ = some (.slice a n c) := V2.out.cell 0
  have f0 : Y.frozen? ⟨gl, 0, none⟩ = false := V2.out.frozen 0
  have hnI : (n : Int) ≤ 100 := by omega
  go_wp2
  go_ret
  have hd : decide ((n : Int) + 1 < 32) = decide (n + 1 < 32) := by
    by_cases h : n + 1 < 32
    · rw [decide_eq_true h, decide_eq_true (by omega)]
    · rw [decide_eq_false h, decide_eq_false (by omega)]
  have hgY : ∀ g t cs, Blk Y g t cs → g ≠ gl → Blk (Y.setCell ⟨gl, 0, none⟩ (.slice a9 (n + 1) c9)) g t cs := fun g t cs h1 h2 => h1.far (p := ⟨gl, 0, none⟩) (fun e => h2 (by first | exact e | exact e.symm)) _
  have hKp : Kp gl w (Y.setCell ⟨gl, 0, none⟩ (.slice a9 (n + 1) c9)) := ⟨LB.out.setCell (Nat.le_refl _) _, fun g t cs h1 h2 h3 => hgY g t cs (KB.out g t cs h1 h2 h3) h3⟩
  have hl : (acc ++ [(⟨na, nc, ga, gc, aa, ac, l, s⟩ : Rt)]).length = n + 1 := by rw [List.length_append, HNN.out]; rfl
  refine ⟨?_, ⟨a9, c9, ?_, ?_, ?_⟩, hKp⟩
  · show Ending.returned (Value.bool (decide ((n : Int) + 1 < 32))) = _
    rw [hd]
  · rw [hl]
    exact V2.out.set_ 0 (.slice a9 (n + 1) c9)
  · rw [hl, rtflat_append, rtflat_one, HC.out, HXS.out]
    exact own_set (o := 0) O2.out V2.out (by decide)
  · intro r hr
    rcases List.mem_append.1 hr with h1 | h1
    · exact Kp.rt (HK.out r h1) hKp
    · simp at h1
      subst h1
      exact Kp.rt HRR.out hKp
end Go.Proofs.Ytnnimjaigciedaa
namespace Go.Proofs.Ytnnimjaigciedaa
open Go.RowKit
set_option linter.unusedVariables false

instance (amt : Int) (s : List Stp) : Decidable (PayOk amt s) := by unfold PayOk canL; exact inferInstance
abbrev Tr := List Int × List Stp
def Rt.tr (r : Rt) : Tr := (r.l, r.s)
/-- Step by step, as long as more is wanted. -/
def goS (F : Stp → List Tr → List Tr × Bool) (l : List Int) : List Stp → List Tr → List Tr × Bool
  | [], acc => (acc, true)
  | q :: t, acc => if q.t ∈ l then goS F l t acc else if (F q acc).2 = true then goS F l t (F q acc).1 else ((F q acc).1, false)
def lastI (l : List Int) : Int := l.getD (l.length - 1) 0
/-- The routes that go on from a trail, behind those found so far, and whether more are wanted. -/
def eachL (sl : Nat) (es : List Ed) (goal amt : Int) : Nat → List Int → List Stp → List Tr → List Tr × Bool
  | 0, l, s, acc => if lastI l = goal then (if PayOk amt s then (acc ++ [(l, s)], decide (acc.length + 1 < 32)) else (acc, true)) else (acc, true)
  | f + 1, l, s, acc => if lastI l = goal then (if PayOk amt s then (acc ++ [(l, s)], decide (acc.length + 1 < 32)) else (acc, true)) else goS (fun q a => eachL sl es goal amt f (l ++ [q.t]) (s ++ [q]) a) l (stepsL sl es (lastI l) 0) acc
theorem eachL_goal {sl : Nat} {es : List Ed} {goal amt : Int} {f : Nat} {l : List Int} {s : List Stp} {acc : List Tr} (h : lastI l = goal) : eachL sl es goal amt f l s acc = if PayOk amt s then (acc ++ [(l, s)], decide (acc.length + 1 < 32)) else (acc, true) := by
  cases f <;> (unfold eachL; rw [if_pos h])
theorem goS_small {F : Stp → List Tr → List Tr × Bool} {l : List Int} (hF : ∀ q a, a.length < 32 → (F q a).1.length ≤ 32 ∧ ((F q a).2 = true → (F q a).1.length < 32)) : ∀ (S : List Stp) (acc : List Tr), acc.length < 32 → (goS F l S acc).1.length ≤ 32 ∧ ((goS F l S acc).2 = true → (goS F l S acc).1.length < 32) := by
  intro S
  induction S with
  | nil => intro acc h; exact ⟨Nat.le_of_lt h, fun _ => h⟩
  | cons q t ih =>
    intro acc h
    unfold goS
    split
    · exact ih acc h
    · have := hF q acc h
      split
      · rename_i hb; exact ih _ (this.2 hb)
      · exact ⟨this.1, fun hb => by simp at hb⟩
theorem eachL_small {sl : Nat} {es : List Ed} {goal amt : Int} : ∀ (f : Nat) (l : List Int) (s : List Stp) (acc : List Tr), acc.length < 32 → (eachL sl es goal amt f l s acc).1.length ≤ 32 ∧ ((eachL sl es goal amt f l s acc).2 = true → (eachL sl es goal amt f l s acc).1.length < 32) := by
  intro f
  have leaf : ∀ (l : List Int) (s : List Stp) (acc : List Tr), acc.length < 32 → ((if PayOk amt s then (acc ++ [(l, s)], decide (acc.length + 1 < 32)) else (acc, true)) : List Tr × Bool).1.length ≤ 32 ∧ (((if PayOk amt s then (acc ++ [(l, s)], decide (acc.length + 1 < 32)) else (acc, true)) : List Tr × Bool).2 = true → ((if PayOk amt s then (acc ++ [(l, s)], decide (acc.length + 1 < 32)) else (acc, true)) : List Tr × Bool).1.length < 32) := by
    intro l s acc h
    split
    · simp; omega
    · simp; omega
  induction f with
  | zero =>
    intro l s acc h
    unfold eachL
    split
    · exact leaf l s acc h
    · simp; omega
  | succ f ih =>
    intro l s acc h
    unfold eachL
    split
    · exact leaf l s acc h
    · exact goS_small (fun q a ha => ih _ _ a ha) _ acc h
theorem steps_word {sl : Nat} {es : List Ed} {node amt : Int} (hok : ∀ e ∈ es, EdOk e) : ∀ q ∈ stepsL sl es node amt, Word q.b ∧ Word q.r := by
  intro q hq
  obtain ⟨_, i, hi, h⟩ := stepsL_mem hq
  have he : es.getD i ed0 ∈ es := by
    rw [List.getD_eq_getElem?_getD, List.getElem?_eq_getElem hi]
    exact List.getElem_mem _
  have hk := hok _ he
  obtain ⟨_, _, _, _, h5, h6, h7, h8⟩ := hk
  rcases h with ⟨rfl, _⟩ | ⟨rfl, _⟩
  · exact ⟨h5, h6⟩
  · exact ⟨h7, h8⟩
theorem goS_in {F : Stp → List Tr → List Tr × Bool} {l : List Int} {S : List Stp} {i : Nat} {q : Stp} {acc : List Tr} {R : List Tr × Bool} (h : goS F l (S.drop i) acc = R) (hi : i < S.length) (hs : S.getD i stp00 = q) :
    (q.t ∈ l → goS F l (S.drop (i + 1)) acc = R) ∧ (q.t ∉ l → (F q acc).2 = true → goS F l (S.drop (i + 1)) (F q acc).1 = R) ∧ (q.t ∉ l → (F q acc).2 = false → ((F q acc).1, false) = R) := by
  have hd : S.drop i = q :: S.drop (i + 1) := by
    rw [List.drop_eq_getElem_cons hi]
    congr 1
    rw [List.getD_eq_getElem?_getD, List.getElem?_eq_getElem hi] at hs
    exact hs
  rw [hd] at h
  unfold goS at h
  refine ⟨fun k => ?_, fun k b => ?_, fun k b => ?_⟩
  · rw [if_pos k] at h; exact h
  · rw [if_neg k, if_pos b] at h; exact h
  · rw [if_neg k, if_neg (by rw [b]; decide)] at h; exact h
theorem contains_b (a : Option Addr) (n c : Nat) (l : List Int) (x : Int) (w : World) (hR : IRow w a l) (hl : l.length = n) (hn : n ≤ 1000) :
    Calls Try.prog 48 #[.slice a n c, .int .i64 x] w fun e w' => e = .returned (.bool (decide (x ∈ l))) ∧ Below w.heap.size w w' :=
  (contains_any a n c l x w hR hl hn).mono (fun e w' h => ⟨h.1, by rw [← h.2]; exact Below.refl _ _⟩)
theorem irow_own {w : World} {base n c : Nat} {a : Option Addr} {l : List Int} (h : w.ownsRow base 3 1 (.slice a n c) n (ins l)) (hl : l.length = n) : IRow w a l := by
  obtain ⟨a', c', h1, h2, _⟩ := IRow.of_own (l := l) (by rw [hl]; exact h)
  injection h1 with h1 _ _
  rw [h1]; exact h2
theorem srow_own {w : World} {base n c : Nat} {a : Option Addr} {l : List Stp} (h : w.ownsRow base 44 5 (.slice a n c) n (sflat l)) (hl : l.length = n) : StpRow w a l := by
  obtain ⟨a', c', h1, h2, _⟩ := StpRow.of_own (l := l) (by rw [hl]; exact h)
  injection h1 with h1 _ _
  rw [h1]; exact h2
/-- What each answers. -/
def EachPost (sl : Nat) (es : List Ed) (goal amt : Int) (f : Nat) (l : List Int) (s : List Stp) (acc : List Rt) (gl : Nat) (w : World) (e : Ending) (w' : World) : Prop :=
  ∃ acc' b, e = .returned (.bool b) ∧ eachL sl es goal amt f l s (acc.map Rt.tr) = (acc'.map Rt.tr, b) ∧ (∃ a c, Found w' gl amt acc' a c) ∧ Kp gl w w'
end Go.Proofs.Ytnnimjaigciedaa
