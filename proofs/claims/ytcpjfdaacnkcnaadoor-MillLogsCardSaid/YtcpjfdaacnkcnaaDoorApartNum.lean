/-
  Unlike parts have unlike texts; bytes as a text, and unlike bytes as unlike texts.
-/
import Derived.Test.YtcpjfdaacnkcnaaDoorText
import Derived.Laws.BytesString
namespace Go.Proofs.YtcpjfdaacnkcnaaDoor
open Go.RowKit
set_option linter.unusedVariables false

theorem four_inj (m n : Nat) (hm : m < 4294967296) (hn : n < 4294967296) (h : four m = four n) : m = n := by
  simp only [four, List.cons.injEq, and_true] at h
  omega
theorem laidParts_cons (p : List Nat) (ps : List (List Nat)) : laidParts (p :: ps) = four p.length ++ (p ++ laidParts ps) := by simp [laidParts]
theorem laidParts_inj : ∀ (ps qs : List (List Nat)), ps.length = qs.length → (∀ p ∈ ps, p.length < 4294967296) → (∀ q ∈ qs, q.length < 4294967296) → laidParts ps = laidParts qs → ps = qs
  | [], [], _, _, _, _ => rfl
  | [], _ :: _, h, _, _, _ => by simp at h
  | _ :: _, [], h, _, _, _ => by simp at h
  | p :: ps, q :: qs, h, hp, hq, e => by
    rw [laidParts_cons, laidParts_cons] at e
    obtain ⟨e1, e2⟩ := List.append_inj e rfl
    have hl := four_inj _ _ (hp p (by simp)) (hq q (by simp)) e1
    obtain ⟨e3, e4⟩ := List.append_inj e2 hl
    rw [e3, laidParts_inj ps qs (by simpa using h) (fun x hx => hp x (by simp [hx])) (fun x hx => hq x (by simp [hx])) e4]
theorem text_inj (a b : Nat) (ps qs : List (List Nat)) (h1 : ps.length < 256) (h2 : qs.length < 256) (hp : ∀ p ∈ ps, p.length < 4294967296) (hq : ∀ q ∈ qs, q.length < 4294967296) (h : text a ps = text b qs) : a = b ∧ ps = qs := by
  simp only [text, List.cons_append, List.nil_append, List.cons.injEq] at h
  obtain ⟨e1, e2, e3⟩ := h
  exact ⟨e1, laidParts_inj ps qs (by omega) hp hq e3⟩

/-- Bytes as a text. -/
def txt (l : List Int) : ByteArray := l.foldl (fun r n => r.push (UInt8.ofNat n.toNat)) ByteArray.empty
def ints (l : List Nat) : List Int := l.map fun (x : Nat) => (x : Int)
theorem fold_push : ∀ (l : List Int) (r : ByteArray), (l.foldl (fun r n => r.push (UInt8.ofNat n.toNat)) r).data.toList = r.data.toList ++ l.map fun n => UInt8.ofNat n.toNat
  | [], r => by simp
  | a :: l, r => by
    rw [List.foldl_cons, fold_push l]
    have e : (r.push (UInt8.ofNat a.toNat)).data.toList = r.data.toList ++ [UInt8.ofNat a.toNat] := by
      show (r.data.push (UInt8.ofNat a.toNat)).toList = _
      simp
    rw [e]
    simp
theorem txt_list (l : List Int) : (txt l).data.toList = l.map fun n => UInt8.ofNat n.toNat := by
  rw [txt, fold_push]
  rfl
theorem txt_inj : ∀ (l m : List Nat), (∀ x ∈ l, x < 256) → (∀ x ∈ m, x < 256) → (ints l).map (fun n => UInt8.ofNat n.toNat) = (ints m).map (fun n => UInt8.ofNat n.toNat) → l = m
  | [], [], _, _, _ => rfl
  | [], _ :: _, _, _, h => by simp [ints] at h
  | _ :: _, [], _, _, h => by simp [ints] at h
  | a :: l, b :: m, hl, hm, h => by
    simp only [ints, List.map_cons, List.cons.injEq, Int.toNat_natCast] at h
    have ha := hl a (by simp)
    have hb := hm b (by simp)
    have e := congrArg UInt8.toNat h.1
    simp only [UInt8.toNat_ofNat'] at e
    have e2 : a = b := by omega
    rw [e2, txt_inj l m (fun x hx => hl x (by simp [hx])) (fun x hx => hm x (by simp [hx])) (by simpa [ints] using h.2)]
theorem tx_inj (l m : List Nat) (hl : ∀ x ∈ l, x < 256) (hm : ∀ x ∈ m, x < 256) (h : txt (ints l) = txt (ints m)) : l = m := by
  have e := congrArg (fun b : ByteArray => b.data.toList) h
  simp only [txt_list] at e
  exact txt_inj l m hl hm e

theorem to_string (w : World) (b : Nat) (A : Option Addr) (c n : Nat) (l : List Nat) (hn : n = l.length) (hS : Src w b A c l) : (convert 22 9 (.slice A n c)).run Tryd.prog w = .ok (.string (txt (ints l))) w := by
  subst hn
  have hil : (ints l).length = l.length := by simp [ints]
  rw [run_convert_bytes_string w 22 9 5 A l.length c Tryd.underlying22 Tryd.underlying5 Tryd.underlying9]
  rcases hS.at_ with rfl | ⟨g, off, rfl, _, _, hc⟩
  · cases A with
    | none => rfl
    | some ad =>
      refine run_bytesToString w ad 0 c [] ?_
      exact run_loadCells_list w ad [] (by simp)
  · rw [← hil]
    refine run_bytesToString w _ (ints l).length c (ints l) ?_
    have h := run_loadCells_list (P := Tryd.prog) w ⟨g, off, none⟩ ((ints l).map (Value.int .u8)) (by
      intro j v hv
      have hj : j < l.length := by
        have := (List.getElem?_eq_some_iff.1 hv).1
        simpa [ints] using this
      rw [Go.Addr.add_mid, hc j hj, ← hv]
      simp [ints, List.getD, hj])
    simpa using h
end Go.Proofs.YtcpjfdaacnkcnaaDoor
