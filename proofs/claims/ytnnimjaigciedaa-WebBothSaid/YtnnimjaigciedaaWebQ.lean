/-
  Rows that lie apart from a web's own block; a web that is stored; what is sent back.
-/
import Derived.Test.YtnnimjaigciedaaWebP
import Derived.Test.YtnnimjaigciedaaKit
namespace Go.Proofs.Ytnnimjaigciedaa
open Go.RowKit
set_option linter.unusedVariables false

theorem SpotRow.apart {w : World} {a : Option Addr} {l : List (Int × Int)} {g t : Nat} {cs : List Value} (h : SpotRow w a l) (hb : Blk w g t cs) (hn : ∀ v ∈ cs, ∀ x, v ≠ .int .i64 x) : l = [] ∨ ∃ b off, a = some ⟨b, off, none⟩ ∧ b ≠ g := by
  rcases h with h | ⟨b, off, ha, _, hc⟩
  · exact .inl h
  · cases l with
    | nil => exact .inl rfl
    | cons x r =>
      refine .inr ⟨b, off, ha, ?_⟩
      rintro rfl
      have := (hc 0 (by simp)).1
      rw [hb.cell] at this
      exact hn _ (List.mem_of_getElem? this) _ rfl
theorem EdgeRow.apart {w : World} {a : Option Addr} {l : List Ed} {g t : Nat} {cs : List Value} (h : EdgeRow w a l) (hb : Blk w g t cs) (hn : ∀ v ∈ cs, ∀ x, v ≠ .int .i64 x) : l = [] ∨ ∃ b off, a = some ⟨b, off, none⟩ ∧ b ≠ g := by
  rcases h with h | ⟨b, off, ha, _, hc⟩
  · exact .inl h
  · cases l with
    | nil => exact .inl rfl
    | cons x r =>
      refine .inr ⟨b, off, ha, ?_⟩
      rintro rfl
      have := hc 0 (by simp) 0 _ rfl
      rw [hb.cell] at this
      exact hn _ (List.mem_of_getElem? this) _ rfl
theorem EdgeRow.setFar {w : World} {a : Option Addr} {l : List Ed} (h : EdgeRow w a l) {g i : Nat} (hg : l = [] ∨ ∃ b off, a = some ⟨b, off, none⟩ ∧ b ≠ g) (u : Value) : EdgeRow (w.setCell ⟨g, i, none⟩ u) a l := by
  rcases h with h | ⟨b, off, ha, hlt, hc⟩
  · exact .inl h
  · rcases hg with h0 | ⟨b', off', ha', hne⟩
    · exact .inl h0
    · rw [ha] at ha'
      injection ha' with ha'
      injection ha' with e1 e2
      subst e1 e2
      refine .inr ⟨b, off, ha, by simpa [World.setCell] using hlt, fun k hk j v hv => ?_⟩
      rw [World.cell?_setCell_other w ⟨g, i, none⟩ ⟨b, off + k * 8 + j, none⟩ u (fun e => hne (by injection e with e; exact e.symm))]
      exact hc k hk j v hv
/-- A channel's cells. -/
def EdAt (w : World) (b o : Nat) (e : Ed) : Prop := b < w.heap.size ∧ ∀ j v, (ecells e)[j]? = some v → w.cell? ⟨b, o + j, none⟩ = some v
theorem EdAt.below {w w' : World} {b o : Nat} {e : Ed} (h : EdAt w b o e) (hB : Below w.heap.size w w') : EdAt w' b o e :=
  ⟨Nat.lt_of_lt_of_le h.1 hB.size, fun j v hv => (hB.cell (p := ⟨b, o + j, none⟩) h.1).trans (h.2 j v hv)⟩
theorem EdgeRow.at_ {w : World} {a : Option Addr} {l : List Ed} {k : Nat} (h : EdgeRow w a l) (hk : k < l.length) : ∃ b off, a = some ⟨b, off, none⟩ ∧ EdAt w b (off + k * 8) (l.getD k ed0) := by
  rcases h with h | ⟨b, off, ha, hlt, hc⟩
  · rw [h] at hk; simp at hk
  · exact ⟨b, off, ha, hlt, hc k hk⟩
theorem slices_noint {a b : Option Addr} {l m c d : Nat} : ∀ v ∈ [Value.slice a l c, Value.slice b m d], ∀ x, v ≠ .int .i64 x := by
  intro v hv x e
  simp at hv
  rcases hv with rfl | rfl <;> cases e

section
variable {ops : Array Oper} {o : Oper} {a : Act} {w : World} {K : Act → World → Prop} {Q : Exit → Act → World → Prop} {E : Prop}
/-- A web that is stored into a block that no row of it lies in. -/
theorem step_keepW (hw : Region.wanted o (yielded ops a.tmps) = true) (d s : Operand) (ho : o.op = .store 31 d s) (g : Nat) (a0 b0 : Option Addr) (l0 c0 m0 d0 : Nat) (a1 b1 : Option Addr) (l1 c1 m1 d1 : Nat) (hd : a.eval d = .pointer (some ⟨g, 0, none⟩)) (hs : a.eval s = .agg #[.slice a1 l1 c1, .slice b1 m1 d1]) (hP : Blk w g 31 [.slice a0 l0 c0, .slice b0 m0 d0])
    (h : ∀ Y, Blk Y g 31 [.slice a1 l1 c1, .slice b1 m1 d1] → (∀ sp, SpotRow w a1 sp → SpotRow Y a1 sp) → (∀ es, EdgeRow w b1 es → EdgeRow Y b1 es) → (∀ B v, B ≤ g → Below B v w → Below B v Y) → K (a.put o.dst undef) Y) :
    if Region.wanted o (yielded ops a.tmps) = true then Oper.wp Try.prog o a w K Q else E :=
  step_store58 hw d s ho g 31 (.slice a0 l0 c0) (.slice b0 m0 d0) a1 b1 l1 m1 c1 d1 hd hs hP (h _ ((hP.set_ 0 _).set_ 1 _) (fun sp hS => (hS.setFar (hS.apart hP slices_noint) _).setFar (hS.apart hP slices_noint) _) (fun es hE => (hE.setFar (hE.apart hP slices_noint) _).setFar (hE.apart hP slices_noint) _) (fun B v hB hb => (hb.setCell hB _).setCell hB _))
end

def BackPost (w : World) (sl el : Nat) (sp : List (Int × Int)) (es : List Ed) (r : Ending) (w' : World) : Prop :=
  ∃ sa sc ea ec, r = .returned (.tuple #[.agg #[.slice sa sl sc, .slice ea el ec], .int .i64 0]) ∧ SpotRow w' sa sp ∧ EdgeRow w' ea es ∧ Below w.heap.size w w'

theorem back_any (sa : Option Addr) (sl sc : Nat) (ea : Option Addr) (el ec : Nat) (sp : List (Int × Int)) (es : List Ed) (k : Nat) (node amt n : Int) (w : World) (h0 : sentErr sl es k node amt = 0) (hok : ∀ e ∈ es, EdOk e) (hamt : Word amt) (hsl : sp.length = sl) (hel : es.length = el)
    (hS : SpotRow w sa sp) (hE : EdgeRow w ea (sentL es k node amt)) (hn1 : sa = none → sp = [] ∧ sc = 0) (hn2 : ea = none → sentL es k node amt = [] ∧ ec = 0) (hs20 : sl ≤ 20) (he30 : el ≤ 30) (hn : n = endE (es.getD k ed0) (1 - sideE (es.getD k ed0) node)) :
    Calls Try.prog 27 #[.agg #[.slice sa sl sc, .slice ea el ec], .int .i64 k, .int .i64 n, .int .u64 amt] w (BackPost w sl el sp es) := by
  obtain ⟨hok2, hlen, _, _⟩ := sent_ok h0 hok hamt
  obtain ⟨hb0, hb1⟩ := sent_back h0 hok hamt
  rw [← hn] at hb0 hb1
  have hW : WebAt w (.agg #[.slice sa sl sc, .slice ea el ec]) sp (sentL es k node amt) := ⟨sa, sc, ea, ec, by rw [hsl, hlen, hel], hS, hE, hn1, hn2⟩
  refine (sent_any _ sp (sentL es k node amt) k n amt w hW (by omega) (by omega) hok2 hamt).mono ?_
  rintro r w' ⟨v, rfl, hB, hv, _⟩
  rw [hsl] at hv ⊢
  obtain ⟨sa', sc', ea', ec', rfl, h1, h2, _, _⟩ := hv hb0
  rw [hb1] at h2
  rw [hb0, hb1, hsl, hel]
  exact ⟨sa', sc', ea', ec', rfl, h1, h2, hB⟩
end Go.Proofs.Ytnnimjaigciedaa
