import Derived.Test.YtemkmjeioghofaaE1
namespace Go.Proofs.Ytemkmjeioghofaa
open Go.ChangeShapes Go.WideShapes Go.ChangeAt Go.RowKit Go.Deep
section
variable {H : Type} {enc : TypeId × Value → H} {w : World} {base : Nat} {spare : Nat → Bool} {held : Bool}
theorem open_put1 {n : Nat} {v1 v2 : Value} {y : DataW H × List MemPlace} (h : DataW.trod enc Try.prog w base spare held n 35 [v1, v2] = some y) : ∃ (z : Int) (b : Nat), v1 = .int .i64 z ∧ v2 = By b ∧ b < 256 := by
  obtain ⟨xs, k, hk, hxy, _, hxl, hf⟩ := DataW.trod_struct Try.underlying35 h
  match xs, hxl with
  | [y0, y1], _ =>
    have g0 := hf 0 _ rfl
    have g1 := hf 1 _ rfl
    have e1 : Try.prog.cellsOf 3 = 1 := by kernel_rfl
    have e2 : Try.prog.cellsOf 5 = 1 := by kernel_rfl
    simp [e1, e2] at g0 g1
    obtain ⟨z, rfl, _⟩ := int_cell Try.underlying3 g0
    obtain ⟨b, rfl, hb⟩ := u8_cell Try.underlying5 g1
    exact ⟨z, b, rfl, rfl, hb⟩
theorem open_touch {fuel : Nat} {cs : List Value} {x : DataW H × List MemPlace} (hB : Rows.uptoBulk x.1 ≤ 1048576) (h : DataW.trod enc Try.prog w base spare held fuel 46 cs = some x) (hl : cs.length = 5) :
    ∃ (a : Option Addr) (ln cp : Nat) (O : Nat → Opr) (ps : Int) (pb : Nat) (at' : Int) (dv : Value) (zs : List Nat), cs = [.slice a ln cp, .int .i64 ps, .int .u8 (pb : Int), .int .i64 at', dv] ∧ ln ≤ 1048576 ∧ IsOps w a ln O ∧ pb < 256 ∧ Rd w dv zs ∧ (∀ z ∈ zs, z < 256) ∧ zs.length ≤ 1048576 := by
  obtain ⟨xs, k, hk, hxy, _, hxl, hf⟩ := DataW.trod_struct Try.underlying46 h
  match xs, hxl, cs, hl with
  | [y0, y1, y2, y3], _, [v0, v1, v2, v3, v4], _ =>
    have g0 := hf 0 _ rfl
    have g1 := hf 1 _ rfl
    have g2 := hf 2 _ rfl
    have g3 := hf 3 _ rfl
    have e1 : Try.prog.cellsOf 22 = 1 := by kernel_rfl
    have e2 : Try.prog.cellsOf 35 = 2 := by kernel_rfl
    have e3 : Try.prog.cellsOf 3 = 1 := by kernel_rfl
    have e4 : Try.prog.cellsOf 29 = 1 := by kernel_rfl
    simp [e1, e2, e3, e4] at g0 g1 g2 g3
    have hD : x.1 = .agg ([y0, y1, y2, y3].map (·.1)) := congrArg Prod.fst hxy
    rw [hD] at hB
    have b0 := bulk_agg (d := y0.1) (parts := [y0, y1, y2, y3].map (·.1)) (by simp)
    have b3 := bulk_agg (d := y3.1) (parts := [y0, y1, y2, y3].map (·.1)) (by simp)
    obtain ⟨a, ln, cp, O, h0, hln, hO⟩ := open_ops Try.underlying22 Try.underlying80 (by kernel_rfl) ⟨rfl, rfl, rfl, rfl, rfl, rfl, rfl⟩ ⟨by kernel_rfl, by kernel_rfl, by kernel_rfl, by kernel_rfl, by kernel_rfl, by kernel_rfl, by kernel_rfl⟩
      Try.underlying3 Try.underlying4 Try.underlying3 Try.underlying3 rfl Try.underlying29 Try.underlying5 (by kernel_rfl) Try.underlying4 rfl Try.underlying24 Try.underlying4 (by kernel_rfl) (by omega) g0
    obtain ⟨z, b, rfl, rfl, hb⟩ := open_put1 g1
    obtain ⟨at', rfl, _⟩ := int_cell Try.underlying3 g2
    obtain ⟨dv, zs, hdv, hrd, hby, hzl⟩ := open_bytes Try.underlying29 Try.underlying5 (by kernel_rfl) g3
    simp at h0 hdv
    subst h0
    subst hdv
    exact ⟨a, ln, cp, O, z, b, at', _, zs, rfl, hln, hO, hb, hrd, hby, by omega⟩
end
end Go.Proofs.Ytemkmjeioghofaa
