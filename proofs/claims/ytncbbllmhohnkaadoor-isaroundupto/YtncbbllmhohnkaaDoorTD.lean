import Derived.Test.YtncbbllmhohnkaaDoorTC
namespace Go.Proofs.YtncbbllmhohnkaaDoor
open Go.RowKit
/-- the tables that the texts need lie as they are laid -/
structure Tb (w : World) : Prop where
  ops : Ops w
  tz : Tz w
  pw : Lib.TabIs Tryd.prog w "internal/strconv.uint64pow10" .u64 Lib.pow10Tab
theorem tabIs_below {P : Program} {w w' : World} {name : String} {k : IntKind} {zs : List Int} (h : Lib.TabIs P w name k zs) (hb : Below w.heap.size w w') : Lib.TabIs P w' name k zs := by
  unfold Lib.TabIs World.var? at *
  cases hg : P.globalNamed name with
  | none => rw [hg] at h; simp at h
  | some g =>
    rw [hg] at h
    have hlt : g < w.heap.size := by
      by_cases hb : g < w.heap.size
      · exact hb
      · simp [Array.getElem?_eq_none (show w.heap.size ≤ g by omega)] at h
    simp only [Option.bind_some] at h ⊢
    rw [hb.block g hlt]
    exact h
theorem Tb.below {w w' : World} (h : Tb w) (hb : Below w.heap.size w w') : Tb w' :=
  { ops := h.ops.below hb
    tz := h.tz.below hb
    pw := tabIs_below h.pw hb }
theorem Ops.name {w : World} (h : Ops w) {n : Nat} (hn : n < 27) : w.cell? ⟨0, n * 4, none⟩ = some (.string ⟨(nm n).toArray⟩) := by
  obtain ⟨s, h1, h2⟩ := h.s n hn
  rw [h1, ← h2]
/-- what the parts of an instruction are -/
theorem parts_of {n : Nat} (h : isI (parts n) = true) : ∃ (no na nb : Nat) (z : Int), parts n = ⟨(no : Int), (na : Int), (nb : Int), z⟩ ∧ 1 ≤ no ∧ no < 27 ∧ na < 8 ∧ nb < 8 ∧ -32768 ≤ z ∧ z ≤ 65535 := by
  have hi := isn.1 h
  have ha := fitsB_range hi.a
  have hb := fitsB_range hi.b
  have h1 := hi.op1
  have h2 := hi.op2
  have hm := hi.imm
  refine ⟨n / 16777216, n / 1048576 % 16, n / 65536 % 16, _, rfl, ?_, ?_, ?_, ?_, hm⟩
  all_goals (simp only [parts] at h1 h2 ha hb; omega)
theorem nd5 {u : Nat} (h : u < 100000) : Lib.nDigits u ≤ 5 := by
  by_cases h1 : u < 10
  · rw [Lib.nDigits_small h1]; omega
  by_cases h2 : u / 10 < 10
  · rw [Lib.nDigits_big h1, Lib.nDigits_small h2]; omega
  by_cases h3 : u / 10 / 10 < 10
  · rw [Lib.nDigits_big h1, Lib.nDigits_big h2, Lib.nDigits_small h3]; omega
  by_cases h4 : u / 10 / 10 / 10 < 10
  · rw [Lib.nDigits_big h1, Lib.nDigits_big h2, Lib.nDigits_big h3, Lib.nDigits_small h4]; omega
  · rw [Lib.nDigits_big h1, Lib.nDigits_big h2, Lib.nDigits_big h3, Lib.nDigits_big h4, Lib.nDigits_small (show u / 10 / 10 / 10 / 10 < 10 by omega)]; omega
theorem itoa_len {z : Int} (h1 : -32768 ≤ z) (h2 : z ≤ 65535) : (Lib.itoa z).length ≤ 6 := by
  unfold Lib.itoa
  split
  · have := nd5 (show z.natAbs < 100000 by omega)
    rw [List.length_cons, Lib.decDigits_length]; omega
  · have := nd5 (show z.toNat < 100000 by omega)
    rw [Lib.decDigits_length]; omega
theorem nm_len (n : Nat) : (nm n).length ≤ 4 := by
  by_cases h : n < 27
  · have : ∀ k : Fin 27, (nm k.val).length ≤ 4 := by decide
    exact this ⟨n, h⟩
  · unfold nm
    rw [List.getD_eq_getElem?_getD, List.getElem?_eq_none (by simp [nms]; omega)]
    simp
theorem tl_len (n : Nat) : (tl n).length ≤ 40 := by
  unfold tl
  split
  · next hx =>
    obtain ⟨no, na, nb, z, hp, h1, h2, h3, h4, h5, h6⟩ := parts_of hx
    have a1 := itoa_len (z := (na : Int)) (by omega) (by omega)
    have a2 := itoa_len (z := (nb : Int)) (by omega) (by omega)
    have a3 := itoa_len h5 h6
    have a4 := nm_len no
    rw [hp]
    simp only [flds, Int.toNat_natCast]
    cases uA no <;> cases uB no <;> (by_cases e : kd no = 0 <;> simp [jn, e] <;> omega)
  · simp [hx8]
/-- an instruction lies in a block of the call's own -/
structure St (w W : World) (g : Nat) (no na nb : Nat) (z : Int) : Prop where
  c0 : W.cell? ⟨g, 0, none⟩ = some (.int .i64 (no : Int))
  c1 : W.cell? ⟨g, 1, none⟩ = some (.int .i64 (na : Int))
  c2 : W.cell? ⟨g, 2, none⟩ = some (.int .i64 (nb : Int))
  c3 : W.cell? ⟨g, 3, none⟩ = some (.int .i64 z)
  tb : Tb W
  be : Below w.heap.size w W
  le : w.heap.size ≤ g
theorem St.below {w W W' : World} {g no na nb : Nat} {z : Int} (h : St w W g no na nb z) (hb : Below W.heap.size W W') : St w W' g no na nb z := by
  have hl := cell_lt h.c0
  exact ⟨by rw [hb.cell (p := ⟨g, 0, none⟩) hl]; exact h.c0, by rw [hb.cell (p := ⟨g, 1, none⟩) hl]; exact h.c1, by rw [hb.cell (p := ⟨g, 2, none⟩) hl]; exact h.c2, by rw [hb.cell (p := ⟨g, 3, none⟩) hl]; exact h.c3, h.tb.below hb, h.be.trans (hb.mono h.be.size), h.le⟩
theorem St.start {w w1 : World} (no na nb : Nat) (z : Int) (hT : Tb w1) (hb : Below w.heap.size w w1) : St w (w1.alloc (.cells #[.int .i64 (no : Int), .int .i64 (na : Int), .int .i64 (nb : Int), .int .i64 z] 58)) w1.heap.size no na nb z :=
  ⟨by rw [World.cell?_alloc_new]; rfl, by rw [World.cell?_alloc_new]; rfl, by rw [World.cell?_alloc_new]; rfl, by rw [World.cell?_alloc_new]; rfl, hT.below (bel1 _ _), hb.alloc hb.size _, hb.size⟩
end Go.Proofs.YtncbbllmhohnkaaDoor
