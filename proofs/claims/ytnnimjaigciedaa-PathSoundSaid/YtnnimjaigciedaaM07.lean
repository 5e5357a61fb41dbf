/-
  Rows that lie apart from a web's own block; a web that is stored; what is sent back.
  The ways out of a node: plain lists; one of them laid.
-/
import Derived.Test.YtnnimjaigciedaaWebP
import Derived.Test.YtnnimjaigciedaaM05
namespace Go.Proofs.Ytnnimjaigciedaa
open Go.RowKit
set_option linter.unusedVariables false

theorem SpotRow.apart {w : World} {a : Option Addr} {l : List (Int × Int)} {g t : Nat} {cs : List Value} (h : SpotRow w a l) (hb : Blk w g t cs) (hn : ∀ v ∈ cs, ∀ x, v ≠ .int .i64 x) : l = [] ∨ ∃ b off, a = some ⟨b, off, none⟩ ∧ b ≠ g := by
  rcases h with h | ⟨b, off, ha, _, hc⟩
  · exact .inl h
  · cases l with
    | nil => exact .inl rfl
    | cons x r =>
      refine .inr ⟨b, off, ha, ?_⟩
      rintro rfl
      have := (hc 0 (by simp)).1
      rw [hb.cell] at this
      exact hn _ (List.mem_of_getElem? this) _ rfl
theorem EdgeRow.apart {w : World} {a : Option Addr} {l : List Ed} {g t : Nat} {cs : List Value} (h : EdgeRow w a l) (hb : Blk w g t cs) (hn : ∀ v ∈ cs, ∀ x, v ≠ .int .i64 x) : l = [] ∨ ∃ b off, a = some ⟨b, off, none⟩ ∧ b ≠ g := by
  rcases h with h | ⟨b, off, ha, _, hc⟩
  · exact .inl h
  · cases l with
    | nil => exact .inl rfl
    | cons x r =>
      refine .inr ⟨b, off, ha, ?_⟩
      rintro rfl
      have := hc 0 (by simp) 0 _ rfl
      rw [hb.cell] at this
      exact hn _ (List.mem_of_getElem? this) _ rfl
theorem EdgeRow.setFar {w : World} {a : Option Addr} {l : List Ed} (h : EdgeRow w a l) {g i : Nat} (hg : l = [] ∨ ∃ b off, a = some ⟨b, off, none⟩ ∧ b ≠ g) (u : Value) : EdgeRow (w.setCell ⟨g, i, none⟩ u) a l := by
  rcases h with h | ⟨b, off, ha, hlt, hc⟩
  · exact .inl h
  · rcases hg with h0 | ⟨b', off', ha', hne⟩
    · exact .inl h0
    · rw [ha] at ha'
      injection ha' with ha'
      injection ha' with e1 e2
      subst e1 e2
      refine .inr ⟨b, off, ha, by simpa [World.setCell] using hlt, fun k hk j v hv => ?_⟩
      rw [World.cell?_setCell_other w ⟨g, i, none⟩ ⟨b, off + k * 8 + j, none⟩ u (fun e => hne (by injection e with e; exact e.symm))]
      exact hc k hk j v hv
/-- A channel's cells. -/
def EdAt (w : World) (b o : Nat) (e : Ed) : Prop := b < w.heap.size ∧ ∀ j v, (ecells e)[j]? = some v → w.cell? ⟨b, o + j, none⟩ = some v
theorem EdAt.below {w w' : World} {b o : Nat} {e : Ed} (h : EdAt w b o e) (hB : Below w.heap.size w w') : EdAt w' b o e :=
  ⟨Nat.lt_of_lt_of_le h.1 hB.size, fun j v hv => (hB.cell (p := ⟨b, o + j, none⟩) h.1).trans (h.2 j v hv)⟩
theorem EdgeRow.at_ {w : World} {a : Option Addr} {l : List Ed} {k : Nat} (h : EdgeRow w a l) (hk : k < l.length) : ∃ b off, a = some ⟨b, off, none⟩ ∧ EdAt w b (off + k * 8) (l.getD k ed0) := by
  rcases h with h | ⟨b, off, ha, hlt, hc⟩
  · rw [h] at hk; simp at hk
  · exact ⟨b, off, ha, hlt, hc k hk⟩
theorem slices_noint {a b : Option Addr} {l m c d : Nat} : ∀ v ∈ [Value.slice a l c, Value.slice b m d], ∀ x, v ≠ .int .i64 x := by
  intro v hv x e
  simp at hv
  rcases hv with rfl | rfl <;> cases e

section
variable {ops : Array Oper} {o : Oper} {a : Act} {w : World} {K : Act → World → Prop} {Q : Exit → Act → World → Prop} {E : Prop}
/-- A web that is stored into a block that no row of it lies in. -/
theorem step_keepW (hw : Region.wanted o (yielded ops a.tmps) = true) (d s : Operand) (ho : o.op = .store 31 d s) (g : Nat) (a0 b0 : Option Addr) (l0 c0 m0 d0 : Nat) (a1 b1 : Option Addr) (l1 c1 m1 d1 : Nat) (hd : a.eval d = .pointer (some ⟨g, 0, none⟩)) (hs : a.eval s = .agg #[.slice a1 l1 c1, .slice b1 m1 d1]) (hP : Blk w g 31 [.slice a0 l0 c0, .slice b0 m0 d0])
    (h : ∀ Y, Blk Y g 31 [.slice a1 l1 c1, .slice b1 m1 d1] → (∀ sp, SpotRow w a1 sp → SpotRow Y a1 sp) → (∀ es, EdgeRow w b1 es → EdgeRow Y b1 es) → (∀ B v, B ≤ g → Below B v w → Below B v Y) → K (a.put o.dst undef) Y) :
    if Region.wanted o (yielded ops a.tmps) = true then Oper.wp Try.prog o a w K Q else E :=
  step_store58 hw d s ho g 31 (.slice a0 l0 c0) (.slice b0 m0 d0) a1 b1 l1 m1 c1 d1 hd hs hP (h _ ((hP.set_ 0 _).set_ 1 _) (fun sp hS => (hS.setFar (hS.apart hP slices_noint) _).setFar (hS.apart hP slices_noint) _) (fun es hE => (hE.setFar (hE.apart hP slices_noint) _).setFar (hE.apart hP slices_noint) _) (fun B v hB hb => (hb.setCell hB _).setCell hB _))
end

def BackPost (w : World) (sl el : Nat) (sp : List (Int × Int)) (es : List Ed) (r : Ending) (w' : World) : Prop :=
  ∃ sa sc ea ec, r = .returned (.tuple #[.agg #[.slice sa sl sc, .slice ea el ec], .int .i64 0]) ∧ SpotRow w' sa sp ∧ EdgeRow w' ea es ∧ Below w.heap.size w w'

theorem back_any (sa : Option Addr) (sl sc : Nat) (ea : Option Addr) (el ec : Nat) (sp : List (Int × Int)) (es : List Ed) (k : Nat) (node amt n : Int) (w : World) (h0 : sentErr sl es k node amt = 0) (hok : ∀ e ∈ es, EdOk e) (hamt : Word amt) (hsl : sp.length = sl) (hel : es.length = el)
    (hS : SpotRow w sa sp) (hE : EdgeRow w ea (sentL es k node amt)) (hn1 : sa = none → sp = [] ∧ sc = 0) (hn2 : ea = none → sentL es k node amt = [] ∧ ec = 0) (hs20 : sl ≤ 20) (he30 : el ≤ 30) (hn : n = endE (es.getD k ed0) (1 - sideE (es.getD k ed0) node)) :
    Calls Try.prog 27 #[.agg #[.slice sa sl sc, .slice ea el ec], .int .i64 k, .int .i64 n, .int .u64 amt] w (BackPost w sl el sp es) := by
  obtain ⟨hok2, hlen, _, _⟩ := sent_ok h0 hok hamt
  obtain ⟨hb0, hb1⟩ := sent_back h0 hok hamt
  rw [← hn] at hb0 hb1
  have hW : WebAt w (.agg #[.slice sa sl sc, .slice ea el ec]) sp (sentL es k node amt) := ⟨sa, sc, ea, ec, by rw [hsl, hlen, hel], hS, hE, hn1, hn2⟩
  refine (sent_any _ sp (sentL es k node amt) k n amt w hW (by omega) (by omega) hok2 hamt).mono ?_
  rintro r w' ⟨v, rfl, hB, hv, _⟩
  rw [hsl] at hv ⊢
  obtain ⟨sa', sc', ea', ec', rfl, h1, h2, _, _⟩ := hv hb0
  rw [hb1] at h2
  rw [hb0, hb1, hsl, hel]
  exact ⟨sa', sc', ea', ec', rfl, h1, h2, hB⟩
end Go.Proofs.Ytnnimjaigciedaa
namespace Go.Proofs.Ytnnimjaigciedaa
open Go.RowKit
set_option linter.unusedVariables false

/-- A way: the channel, where to, how much, the fee's two numbers. -/
structure Stp where
  e : Int
  t : Int
  c : Int
  b : Int
  r : Int
def scells (s : Stp) : List Value := [.int .i64 s.e, .int .i64 s.t, .int .u64 s.c, .int .u64 s.b, .int .u64 s.r]
def sflat (l : List Stp) : List Value := l.flatMap scells
theorem sflat_append (l m : List Stp) : sflat (l ++ m) = sflat l ++ sflat m := List.flatMap_append
theorem sflat_one (s : Stp) : sflat [s] = scells s := by simp [sflat]
theorem sflat_length (l : List Stp) : (sflat l).length = l.length * 5 := by
  induction l with
  | nil => rfl
  | cons f r ih =>
    have e : sflat (f :: r) = scells f ++ sflat r := by simp [sflat]
    have hl : (scells f).length = 5 := rfl
    rw [e, List.length_append, hl, ih, List.length_cons]
    omega
def stp0 (i : Nat) (e : Ed) : Stp := ⟨i, e.q, e.c, e.f, e.g⟩
def stp1 (i : Nat) (e : Ed) : Stp := ⟨i, e.p, e.d, e.h, e.i⟩
def stepsAt (e : Ed) (i : Nat) (node amt : Int) : List Stp := if sideE e node = 0 then (if amt ≤ e.c then [stp0 i e] else []) else if sideE e node = 1 then (if amt ≤ e.d then [stp1 i e] else []) else []
/-- The ways over the first k channels. -/
def openL (es : List Ed) (node amt : Int) : Nat → List Stp
  | 0 => []
  | k + 1 => openL es node amt k ++ stepsAt (es.getD k ed0) k node amt
def stepsL (sl : Nat) (es : List Ed) (node amt : Int) : List Stp := if checkE sl es = 0 then openL es node amt es.length else []
theorem stepsAt_length (e : Ed) (i : Nat) (node amt : Int) : (stepsAt e i node amt).length ≤ 1 := by
  unfold stepsAt
  split
  · split <;> simp
  · split
    · split <;> simp
    · simp
theorem openL_length (es : List Ed) (node amt : Int) : ∀ k, (openL es node amt k).length ≤ k := by
  intro k
  induction k with
  | zero => simp [openL]
  | succ k ih =>
    unfold openL
    have := stepsAt_length (es.getD k ed0) k node amt
    rw [List.length_append]; omega

/-- What is left behind by who tells ways: a list of its own. -/
def StepsPost (t : TypeId) (w : World) (l : List Stp) (e : Ending) (w' : World) : Prop := ∃ v, e = .returned v ∧ w'.ownsRow w.heap.size t 5 v l.length (sflat l) ∧ Below w.heap.size w w'

theorem step_info : (Try.prog.info? 44).map (fun i => (i.zero, i.size, i.bytes)) = some (some (.agg #[.int .i64 0, .int .i64 0, .int .u64 0, .int .u64 0, .int .u64 0]), 5, 40) := by kernel_rfl
theorem rstep_info : (Try.prog.info? 47).map (fun i => (i.zero, i.size, i.bytes)) = some (some (.agg #[.int .i64 0, .int .i64 0, .int .u64 0, .int .u64 0, .int .u64 0]), 5, 40) := by kernel_rfl
theorem scells_one (s : Stp) : ∀ u ∈ scells s, u.oneCell' = true := by
  intro u hu
  simp [scells] at hu
  rcases hu with rfl | rfl | rfl | rfl | rfl <;> rfl

theorem own_ne {w : World} {g base size n : Nat} {t e : TypeId} {v : Value} {cs xs : List Value} (h : Blk w g t cs) (ho : w.ownsRow base e size v n xs) (hne : t ≠ e) : some g ≠ v.ownBlock := by
  rcases ho.2 with ⟨rfl, _⟩ | ⟨g', cap, cur, rfl, _, hg, _⟩
  · simp [Value.ownBlock]
  · intro e1
    simp [Value.ownBlock] at e1
    subst e1
    unfold Blk at h
    rw [h] at hg
    injection hg with hg
    injection hg with _ h2
    exact hne h2
theorem EdAt.grown {w w' : World} {b o : Nat} {e : Ed} {r : Option Nat} (h : EdAt w b o e) (hg : w.grownBy w' r) (hne : some b ≠ r) : EdAt w' b o e :=
  ⟨Nat.lt_of_lt_of_le h.1 hg.size, fun j v hv => (World.cell?_of_block (a := ⟨b, o + j, none⟩) (hg.block b h.1 hne)).trans (h.2 j v hv)⟩
theorem edat_own {w : World} {b o B n : Nat} {e : Ed} {v : Value} {l : List Stp} {t : TypeId} (h : EdAt w b o e) (ho : w.ownsRow B t 5 v n (sflat l)) (hlt : b < B) : some b ≠ v.ownBlock := by
  intro e1
  have := (ho.lt b e1.symm).1
  omega
theorem own_lower {w : World} {base base' size n : Nat} {e : TypeId} {v : Value} {xs : List Value} (h : w.ownsRow base e size v n xs) (hb : base' ≤ base) : w.ownsRow base' e size v n xs := by
  refine ⟨h.1, ?_⟩
  rcases h.2 with h1 | ⟨g, cap, cur, hv, hbg, rest⟩
  · exact .inl h1
  · exact .inr ⟨g, cap, cur, hv, by omega, rest⟩

section
variable {ops : Array Oper} {o : Oper} {a : Act} {w : World} {K : Act → World → Prop} {Q : Exit → Act → World → Prop} {E : Prop}
theorem step_lay33 (hw : Region.wanted o (yielded ops a.tmps) = true) (k : Nat) (ho : o.op = .buildSlice 33 1 #[(0, .tmp k)]) (e t c b r : Int) (hs : a.eval (.tmp k) = .agg #[.int .i64 e, .int .i64 t, .int .u64 c, .int .u64 b, .int .u64 r])
    (h : ∀ Y g, Below w.heap.size w Y → Blk Y g 44 (scells ⟨e, t, c, b, r⟩) → w.heap.size ≤ g → K (a.put o.dst (.slice (some ⟨g, 0, none⟩) 1 1)) Y) :
    if Region.wanted o (yielded ops a.tmps) = true then Oper.wp Try.prog o a w K Q else E :=
  step_lay hw 33 1 _ ho #[(0, .agg #[.int .i64 e, .int .i64 t, .int .u64 c, .int .u64 b, .int .u64 r])] (by simp [hs]) _ (w.alloc (.cells #[.int .i64 e, .int .i64 t, .int .u64 c, .int .u64 b, .int .u64 r] 44)) (by kernel_rfl) (h _ _ ((Below.refl _ _).alloc (Nat.le_refl _) _) (Blk.new w 44 (scells ⟨e, t, c, b, r⟩)) (Nat.le_refl _))
theorem step_lay35 (hw : Region.wanted o (yielded ops a.tmps) = true) (k : Nat) (ho : o.op = .buildSlice 35 1 #[(0, .tmp k)]) (e t c b r : Int) (hs : a.eval (.tmp k) = .agg #[.int .i64 e, .int .i64 t, .int .u64 c, .int .u64 b, .int .u64 r])
    (h : ∀ Y g, Below w.heap.size w Y → Blk Y g 47 (scells ⟨e, t, c, b, r⟩) → w.heap.size ≤ g → K (a.put o.dst (.slice (some ⟨g, 0, none⟩) 1 1)) Y) :
    if Region.wanted o (yielded ops a.tmps) = true then Oper.wp Try.prog o a w K Q else E :=
  step_lay hw 35 1 _ ho #[(0, .agg #[.int .i64 e, .int .i64 t, .int .u64 c, .int .u64 b, .int .u64 r])] (by simp [hs]) _ (w.alloc (.cells #[.int .i64 e, .int .i64 t, .int .u64 c, .int .u64 b, .int .u64 r] 47)) (by kernel_rfl) (h _ _ ((Below.refl _ _).alloc (Nat.le_refl _) _) (Blk.new w 47 (scells ⟨e, t, c, b, r⟩)) (Nat.le_refl _))
/-- One more way behind the others. -/
theorem step_more (hw : Region.wanted o (yielded ops a.tmps) = true) (T t : TypeId) (hT : (T = 33 ∧ t = 44) ∨ (T = 35 ∧ t = 47)) (s x : Operand) (ho : o.op = .call { callee := .builtin .append, args := #[s, x], argTypes := #[T, T] }) (base : Nat) (v : Value) (l : List Stp) (hs : a.eval s = v) (hown : w.ownsRow base t 5 v l.length (sflat l))
    (g : Nat) (q : Stp) (hx : a.eval x = .slice (some ⟨g, 0, none⟩) 1 1) (hg : Blk w g t (scells q)) (hl : l.length ≤ 100) (hbase : base ≤ w.heap.size)
    (h : ∀ v' Y, Y.ownsRow base t 5 v' (l ++ [q]).length (sflat (l ++ [q])) → w.grownBy Y v.ownBlock → K (a.put o.dst v') Y) :
    if Region.wanted o (yielded ops a.tmps) = true then Oper.wp Try.prog o a w K Q else E := by
  rcases hT with ⟨rfl, rfl⟩ | ⟨rfl, rfl⟩
  · obtain ⟨i0, hi, hz0, hz1, hz2⟩ := info_parts step_info
    refine step_own hw s x 33 ho base 44 i0 _ 5 40 Try.underlying33 hi hz0 hz1 hz2 rfl (by decide) v l.length (sflat l) hs hown ⟨g, 0, none⟩ 1 1 (scells q) hx rfl (news_of hg) (scells_one q) (by unfold maxLen; omega) (by omega) hbase (fun v' Y h1 h2 _ _ => h v' Y ?_ h2)
    rw [sflat_append, sflat_one, List.length_append]; exact h1
  · obtain ⟨i0, hi, hz0, hz1, hz2⟩ := info_parts rstep_info
    refine step_own hw s x 35 ho base 47 i0 _ 5 40 Try.underlying35 hi hz0 hz1 hz2 rfl (by decide) v l.length (sflat l) hs hown ⟨g, 0, none⟩ 1 1 (scells q) hx rfl (news_of hg) (scells_one q) (by unfold maxLen; omega) (by omega) hbase (fun v' Y h1 h2 _ _ => h v' Y ?_ h2)
    rw [sflat_append, sflat_one, List.length_append]; exact h1
end
end Go.Proofs.Ytnnimjaigciedaa
