import Derived.Test.YtdeilmllgbajbaaB2
import Derived.Maps.AppendAt
namespace Go.Proofs.Ytdeilmllgbajbaa
open Go.RowKit

/-- the element at a, in a list of pairs of numbers -/
abbrev atI (L : List (Int × Int)) (a : Int) : Option Int := atK KI64 L a
def sw (L : List (Int × Int)) : List (Int × Int) := L.map Prod.swap
def tieR (L : List (Int × Int)) (a b : Int) : Bool := match atI L a with
  | some b' => b' == b
  | none => (atI (sw L) b).isNone
def tieL (L : List (Int × Int)) (a b : Int) : List (Int × Int) := if (atI L a).isNone && (atI (sw L) b).isNone then L ++ [(a, b)] else L
def cutL (L : List (Int × Int)) (a : Int) : List (Int × Int) := match (L.map Prod.fst).findIdx? (fun k => a == k) with
  | some i => L.eraseIdx i
  | none => L
/-- no two pairs have a side in common -/
structure Tight (L : List (Int × Int)) : Prop where
  a : (L.map Prod.fst).Nodup
  b : (L.map Prod.snd).Nodup
theorem at_idx {L : List (Int × Int)} {a b : Int} (h : atI L a = some b) : ∃ i : Nat, L[i]? = some (a, b) := List.getElem?_of_mem (atK_some key_int h)
theorem idx_at {L : List (Int × Int)} (hn : (L.map Prod.fst).Nodup) {i : Nat} {a b : Int} (h : L[i]? = some (a, b)) : atI L a = some b ∧ (L.map Prod.fst).findIdx? (fun k => a == k) = some i := by
  have h1 : (L.map Prod.fst).findIdx? (KI64.eqb a) = some i := idx_of key_int _ i a hn (by simp [h])
  refine ⟨?_, h1⟩
  cases hq : atI L a with
  | none =>
    exfalso
    exact atK_none key_int hq (List.mem_map.2 ⟨(a, b), List.mem_of_getElem? h, rfl⟩)
  | some b' =>
    obtain ⟨j, hj⟩ := at_idx hq
    have h2 : (L.map Prod.fst).findIdx? (KI64.eqb a) = some j := idx_of key_int _ j a hn (by simp [hj])
    rw [h1] at h2
    cases h2
    rw [h] at hj
    cases hj; rfl
theorem sw_at {L : List (Int × Int)} {i : Nat} {a b : Int} : (sw L)[i]? = some (b, a) ↔ L[i]? = some (a, b) := by
  unfold sw
  rw [List.getElem?_map]
  cases h : L[i]? with
  | none => simp
  | some p => obtain ⟨x, y⟩ := p; simp; exact ⟨fun ⟨h1, h2⟩ => ⟨h2, h1⟩, fun ⟨h1, h2⟩ => ⟨h2, h1⟩⟩
theorem Tight.sw {L : List (Int × Int)} (h : Tight L) : Tight (sw L) := by
  refine ⟨?_, ?_⟩
  · unfold Ytdeilmllgbajbaa.sw; rw [List.map_map]; exact h.b
  · unfold Ytdeilmllgbajbaa.sw; rw [List.map_map]; exact h.a
theorem sw_sw (L : List (Int × Int)) : sw (sw L) = L := by unfold sw; rw [List.map_map]; simp
theorem Tight.nil : Tight [] := ⟨.nil, .nil⟩
theorem Tight.push {L : List (Int × Int)} (h : Tight L) {a b : Int} (ha : atI L a = none) (hb : atI (Ytdeilmllgbajbaa.sw L) b = none) : Tight (L ++ [(a, b)]) := by
  refine ⟨?_, ?_⟩
  · rw [List.map_append]
    refine List.nodup_append.2 ⟨h.a, by simp, fun x hx y hy e => ?_⟩
    simp at hy; subst e hy
    exact atK_none key_int ha hx
  · rw [List.map_append]
    refine List.nodup_append.2 ⟨h.b, by simp, fun x hx y hy e => ?_⟩
    simp at hy; subst e hy
    refine atK_none key_int hb ?_
    unfold Ytdeilmllgbajbaa.sw; rw [List.map_map]; exact hx
theorem Tight.erase {L : List (Int × Int)} (h : Tight L) (i : Nat) : Tight (L.eraseIdx i) :=
  ⟨by rw [← erase_map]; exact h.a.sublist (List.eraseIdx_sublist _ _), by rw [← erase_map]; exact h.b.sublist (List.eraseIdx_sublist _ _)⟩
theorem tieL_yes {L : List (Int × Int)} {a b : Int} (ha : atI L a = none) (hb : atI (sw L) b = none) : tieL L a b = L ++ [(a, b)] ∧ tieR L a b = true := by
  unfold tieL tieR; rw [ha, hb]; exact ⟨rfl, rfl⟩
theorem tieL_a {L : List (Int × Int)} {a b b' : Int} (ha : atI L a = some b') : tieL L a b = L ∧ tieR L a b = (b' == b) := by
  unfold tieL tieR; rw [ha]; exact ⟨rfl, rfl⟩
theorem tieL_b {L : List (Int × Int)} {a b a' : Int} (ha : atI L a = none) (hb : atI (sw L) b = some a') : tieL L a b = L ∧ tieR L a b = false := by
  unfold tieL tieR; rw [ha, hb]; exact ⟨rfl, rfl⟩
theorem Tight.tie {L : List (Int × Int)} (h : Tight L) (a b : Int) : Tight (tieL L a b) := by
  cases ha : atI L a with
  | some b' => rw [(tieL_a ha).1]; exact h
  | none => cases hb : atI (Ytdeilmllgbajbaa.sw L) b with
    | some a' => rw [(tieL_b ha hb).1]; exact h
    | none => rw [(tieL_yes ha hb).1]; exact h.push ha hb
theorem tie_len (L : List (Int × Int)) (a b : Int) : (tieL L a b).length ≤ L.length + 1 := by unfold tieL; split <;> simp
theorem cutL_no {L : List (Int × Int)} {a : Int} (h : atI L a = none) : cutL L a = L := by
  unfold cutL
  have : (L.map Prod.fst).findIdx? (fun k => a == k) = none := by
    rw [List.findIdx?_eq_none_iff]
    intro x hx
    cases he : a == x with
    | false => rfl
    | true => exfalso; rw [beq_iff_eq] at he; subst he; exact atK_none key_int h hx
  rw [this]
theorem cutL_yes {L : List (Int × Int)} (hn : (L.map Prod.fst).Nodup) {i : Nat} {a b : Int} (h : L[i]? = some (a, b)) : cutL L a = L.eraseIdx i := by
  unfold cutL; rw [(idx_at hn h).2]
theorem Tight.cut {L : List (Int × Int)} (h : Tight L) (a : Int) : Tight (cutL L a) := by
  unfold cutL; split
  · exact h.erase _
  · exact h
theorem cut_len (L : List (Int × Int)) (a : Int) : (cutL L a).length ≤ L.length := by
  unfold cutL; split
  · rw [List.length_eraseIdx]; split <;> omega
  · exact Nat.le_refl _
/-- the program's pairs: Cells on the right, or on the left -/
def pP (L : List (Int × Int)) : List (Int × Cl) := L.map (fun p => (p.1, cl p.2))
def pQ (L : List (Int × Int)) : List (Cl × Int) := L.map (fun p => (cl p.1, p.2))
theorem cl_inj {a b : Int} (h : cl a = cl b) : a = b := by
  have := congrArg Cl.a h; simpa [cl] using this
theorem find_map_cl {γ : Type} (L : List (Int × γ)) (a : Int) {δ : Type} (f : γ → δ) : ((L.map (fun p => (p.1, f p.2))).find? (fun p => KI64.eqb a p.1)) = (L.find? (fun p => KI64.eqb a p.1)).map (fun p => (p.1, f p.2)) := by
  induction L with
  | nil => rfl
  | cons x r ih =>
    simp only [List.map_cons, List.find?_cons]
    split
    · rfl
    · exact ih
theorem find_cl {γ : Type} (L : List (Int × γ)) (a : Int) {δ : Type} (f : γ → δ) : ((L.map (fun p => (cl p.1, f p.2))).find? (fun p => KCl.eqb (cl a) p.1)) = (L.find? (fun p => KI64.eqb a p.1)).map (fun p => (cl p.1, f p.2)) := by
  induction L with
  | nil => rfl
  | cons x r ih =>
    have e : KCl.eqb (cl a) (cl x.1) = KI64.eqb a x.1 := by
      cases h : KI64.eqb a x.1 with
      | true => rw [(key_int.same _ _).1 h]; exact (key_cl.same _ _).2 rfl
      | false =>
        cases h2 : KCl.eqb (cl a) (cl x.1) with
        | false => rfl
        | true => rw [cl_inj ((key_cl.same _ _).1 h2), (key_int.same _ _).2 rfl] at h; cases h
    simp only [List.map_cons, List.find?_cons, e]
    split
    · rfl
    · exact ih
theorem pP_at (L : List (Int × Int)) (a : Int) : atK KI64 (pP L) a = (atI L a).map cl := by
  unfold pP atI atK; rw [find_map_cl L a cl]; cases L.find? _ <;> rfl
theorem pP_back (L : List (Int × Int)) (b : Int) : atK KCl ((pP L).map Prod.swap) (cl b) = atI (sw L) b := by
  have e : (pP L).map Prod.swap = (sw L).map (fun p => (cl p.1, p.2)) := by unfold pP sw; rw [List.map_map, List.map_map]; rfl
  unfold atI atK; rw [e, find_cl (sw L) b (fun x => x)]; cases (sw L).find? _ <;> rfl
theorem pQ_at (L : List (Int × Int)) (a : Int) : atK KCl (pQ L) (cl a) = atI L a := by
  unfold pQ atI atK; rw [find_cl L a (fun x => x)]; cases L.find? _ <;> rfl
theorem pQ_back (L : List (Int × Int)) (b : Int) : atK KI64 ((pQ L).map Prod.swap) b = (atI (sw L) b).map cl := by
  have e : (pQ L).map Prod.swap = (sw L).map (fun p => (p.1, cl p.2)) := by unfold pQ sw; rw [List.map_map, List.map_map]; rfl
  unfold atI atK; rw [e, find_map_cl (sw L) b cl]; cases (sw L).find? _ <;> rfl
theorem pP_len (L : List (Int × Int)) : (pP L).length = L.length := by simp [pP]
theorem pQ_len (L : List (Int × Int)) : (pQ L).length = L.length := by simp [pQ]
theorem pP_sw (L : List (Int × Int)) : (pP L).map Prod.swap = pQ (sw L) := by unfold pP pQ sw; rw [List.map_map, List.map_map]; rfl
theorem pQ_sw (L : List (Int × Int)) : (pQ L).map Prod.swap = pP (sw L) := by unfold pP pQ sw; rw [List.map_map, List.map_map]; rfl
end Go.Proofs.Ytdeilmllgbajbaa
