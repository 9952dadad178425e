import Derived.Test.YtgacfdnnmlmgaaaDoorChecked
import Derived.ProofKit
import Derived.OpenShut
import Derived.Below
import Derived.Lib.LaidTab
import Derived.Test.YtgacfdnnmlmgaaaDoorRows
namespace Go.Proofs.YtgacfdnnmlmgaaaDoor
open Go.ChangeShapes Go.WideShapes Go.ChangeAt Go.RowKit
theorem hide {p : Prop} (h : p) : Hid p := h
/-- the names, by number -/
def nms : List (List UInt8) := [[121, 105, 101, 108, 100], [101, 120, 105, 116], [97, 108, 108, 111, 99], [109, 97, 112], [117, 110, 109, 97, 112], [100, 101, 114, 105, 118, 101], [103, 114, 97, 110, 116], [100, 114, 111, 112], [114, 101, 118, 111, 107, 101], [115, 112, 97, 119, 110], [115, 116, 97, 114, 116], [110, 111, 116, 105, 102, 121], [119, 97, 105, 116], [107, 105, 108, 108], [101, 109, 105, 116], [105, 110, 102, 111], [114, 101, 97, 100], [119, 114, 105, 116, 101], [112, 114, 111, 116, 101, 99, 116], [109, 97, 112, 105, 110], [108, 101, 102, 116], [115, 116, 97, 116, 117, 115], [115, 101, 116, 114, 101, 103], [103, 101, 116, 114, 101, 103], [97, 115, 107], [], [], [], [], [], [], [], [99, 111, 117, 110, 116], [101, 110, 118], [99, 97, 112, 115], [109, 97, 112, 115], [112, 97, 103, 101], [99, 108, 101, 97, 110], [102, 114, 101, 101, 122, 101], [110, 101, 119], [115, 101, 116], [102, 105, 108, 108], [112, 108, 97, 99, 101], [99, 111, 112, 121], [115, 101, 108, 102], [110, 97, 116, 109, 97, 112, 105, 110], [99, 108, 97, 105, 109], [110, 97, 116, 114, 101, 97, 100], [110, 97, 116, 119, 114, 105, 116, 101], [102, 108, 117, 115, 104], [110, 97, 116, 108, 101, 102, 116]]
def nmB (n : Nat) : ByteArray := ⟨(nms.getD n []).toArray⟩
def nmv (z : Int) : ByteArray := if 0 ≤ z ∧ z < 51 then nmB z.toNat else ⟨#[]⟩
/-- the program's table lies laid -/
def Nms (w : World) : Prop := ∀ n, n < 51 → w.cell? ⟨0, n, none⟩ = some (.string (nmB n))
theorem laid_nms : (Rows.laid_amber_gate_names : DataW Unit) = .agg (nms.map fun s => .lit (.string s)) := rfl
theorem gNms : Tryd.prog.globalNamed "amber/gate.names" = some 0 := by kernel_rfl
theorem gNmsType : (Tryd.prog.globals[0]?).map (·.type) = some 24 := by kernel_rfl
theorem cellsS : Tryd.prog.cellsOf 9 = 1 := by kernel_rfl
set_option maxRecDepth 100000 in
theorem nms_of {W : World} {l : List (String × DataW Unit)} (hm : ("amber/gate.names", (Rows.laid_amber_gate_names : DataW Unit)) ∈ l) (h : laidMet Tryd.prog l W) : Nms W := by
  obtain ⟨ps, hv, _⟩ := h
  have reads : ∀ {l : List (String × DataW Unit)} {ps : List MemPlace}, DataW.LaidVars Tryd.prog W l ps → ∀ n d, (n, d) ∈ l → ∃ g t cs fuel p, Tryd.prog.globalNamed n = some g ∧ (Tryd.prog.globals[g]?).map (·.type) = some t ∧ W.var? Tryd.prog n = some cs ∧ DataW.trod (fun _ => ()) Tryd.prog W 0 (fun _ => true) false fuel t cs.toList = some (d, p) := by
    intro l
    induction l with
    | nil => intro ps _ n d hm; cases hm
    | cons x r ih =>
      intro ps h n d hm
      obtain ⟨n', d'⟩ := x
      obtain ⟨g, t, cs, fuel, p, q, h1, h2, h3, h4, h5, _⟩ := h
      rcases List.mem_cons.1 hm with e | e
      · cases e
        exact ⟨g, t, cs, fuel, p, h1, h2, h3, h4⟩
      · exact ih h5 n d e
  obtain ⟨g, t, cs, fuel, p, h1, h2, h3, h4⟩ := reads hv _ _ hm
  obtain rfl := Option.some.inj (gNms.symm.trans h1)
  obtain rfl := Option.some.inj (gNmsType.symm.trans h2)
  obtain ⟨xs, m, _, hx, hl, hxl, hf⟩ := DataW.trod_array Tryd.underlying24 h4
  rw [laid_nms] at hx
  have hx1 : nms.map (fun s => (.lit (.string s) : DataW Unit)) = xs.map (·.1) := by
    have := congrArg Prod.fst hx
    simpa using this
  intro n hn
  have hn' := hf n hn
  rw [cellsS] at hn'
  obtain ⟨y, hy⟩ : ∃ y, xs[n]? = some y := ⟨_, List.getElem?_eq_getElem (by omega)⟩
  obtain ⟨u, hu⟩ : ∃ u, nms[n]? = some u := ⟨_, List.getElem?_eq_getElem hn⟩
  have e1 := congrArg (·[n]?) hx1
  simp only [List.getElem?_map, hy, hu, Option.map_some, Option.some.injEq] at e1
  rw [hy] at hn'
  obtain ⟨d, q⟩ := y
  simp only at e1
  subst e1
  obtain ⟨s, e0, e2, _⟩ := DataW.trod_string Tryd.underlying9 hn'
  have e := World.var?_cell gNms h3 n
  have hv : (cs.toList.drop (n * 1)).take 1 = [.string s] := by simpa using e0
  have hv2 : cs.toList[n]? = some (.string s) := by
    have := congrArg (·[0]?) hv
    simpa [List.getElem?_take_of_lt, List.getElem?_drop] using this
  rw [e, show cs[n]? = some (.string s) by simpa using hv2]
  have hs : s = nmB n := by
    unfold nmB
    rw [List.getD_eq_getElem?_getD, hu]
    have : u = s.data.toList := by have h9 : u = s.data.toList ∧ q = [] := by simpa using e2
                                   exact h9.1
    rw [this]; rfl
  rw [hs]
theorem nmB_lo : ∀ k, k < 25 → (#[.string ⟨#[121, 105, 101, 108, 100]⟩, .string ⟨#[101, 120, 105, 116]⟩, .string ⟨#[97, 108, 108, 111, 99]⟩, .string ⟨#[109, 97, 112]⟩, .string ⟨#[117, 110, 109, 97, 112]⟩, .string ⟨#[100, 101, 114, 105, 118, 101]⟩, .string ⟨#[103, 114, 97, 110, 116]⟩, .string ⟨#[100, 114, 111, 112]⟩, .string ⟨#[114, 101, 118, 111, 107, 101]⟩, .string ⟨#[115, 112, 97, 119, 110]⟩, .string ⟨#[115, 116, 97, 114, 116]⟩, .string ⟨#[110, 111, 116, 105, 102, 121]⟩, .string ⟨#[119, 97, 105, 116]⟩, .string ⟨#[107, 105, 108, 108]⟩, .string ⟨#[101, 109, 105, 116]⟩, .string ⟨#[105, 110, 102, 111]⟩, .string ⟨#[114, 101, 97, 100]⟩, .string ⟨#[119, 114, 105, 116, 101]⟩, .string ⟨#[112, 114, 111, 116, 101, 99, 116]⟩, .string ⟨#[109, 97, 112, 105, 110]⟩, .string ⟨#[108, 101, 102, 116]⟩, .string ⟨#[115, 116, 97, 116, 117, 115]⟩, .string ⟨#[115, 101, 116, 114, 101, 103]⟩, .string ⟨#[103, 101, 116, 114, 101, 103]⟩, .string ⟨#[97, 115, 107]⟩] : Array Value)[k]? = some (.string (nmB k)) := by
  intro k hk
  have : k = 0 ∨ k = 1 ∨ k = 2 ∨ k = 3 ∨ k = 4 ∨ k = 5 ∨ k = 6 ∨ k = 7 ∨ k = 8 ∨ k = 9 ∨ k = 10 ∨ k = 11 ∨ k = 12 ∨ k = 13 ∨ k = 14 ∨ k = 15 ∨ k = 16 ∨ k = 17 ∨ k = 18 ∨ k = 19 ∨ k = 20 ∨ k = 21 ∨ k = 22 ∨ k = 23 ∨ k = 24 := by omega
  rcases this with rfl | rfl | rfl | rfl | rfl | rfl | rfl | rfl | rfl | rfl | rfl | rfl | rfl | rfl | rfl | rfl | rfl | rfl | rfl | rfl | rfl | rfl | rfl | rfl | rfl <;> rfl
theorem nmB_hi : ∀ k, k < 19 → (#[.string ⟨#[99, 111, 117, 110, 116]⟩, .string ⟨#[101, 110, 118]⟩, .string ⟨#[99, 97, 112, 115]⟩, .string ⟨#[109, 97, 112, 115]⟩, .string ⟨#[112, 97, 103, 101]⟩, .string ⟨#[99, 108, 101, 97, 110]⟩, .string ⟨#[102, 114, 101, 101, 122, 101]⟩, .string ⟨#[110, 101, 119]⟩, .string ⟨#[115, 101, 116]⟩, .string ⟨#[102, 105, 108, 108]⟩, .string ⟨#[112, 108, 97, 99, 101]⟩, .string ⟨#[99, 111, 112, 121]⟩, .string ⟨#[115, 101, 108, 102]⟩, .string ⟨#[110, 97, 116, 109, 97, 112, 105, 110]⟩, .string ⟨#[99, 108, 97, 105, 109]⟩, .string ⟨#[110, 97, 116, 114, 101, 97, 100]⟩, .string ⟨#[110, 97, 116, 119, 114, 105, 116, 101]⟩, .string ⟨#[102, 108, 117, 115, 104]⟩, .string ⟨#[110, 97, 116, 108, 101, 102, 116]⟩] : Array Value)[k]? = some (.string (nmB (32 + k))) := by
  intro k hk
  have : k = 0 ∨ k = 1 ∨ k = 2 ∨ k = 3 ∨ k = 4 ∨ k = 5 ∨ k = 6 ∨ k = 7 ∨ k = 8 ∨ k = 9 ∨ k = 10 ∨ k = 11 ∨ k = 12 ∨ k = 13 ∨ k = 14 ∨ k = 15 ∨ k = 16 ∨ k = 17 ∨ k = 18 := by omega
  rcases this with rfl | rfl | rfl | rfl | rfl | rfl | rfl | rfl | rfl | rfl | rfl | rfl | rfl | rfl | rfl | rfl | rfl | rfl | rfl <;> rfl
theorem nmB_no : ∀ k, 25 ≤ k → k < 32 → nmB k = ⟨#[]⟩ := by
  intro k h1 h2
  have : k = 25 ∨ k = 26 ∨ k = 27 ∨ k = 28 ∨ k = 29 ∨ k = 30 ∨ k = 31 := by omega
  rcases this with rfl | rfl | rfl | rfl | rfl | rfl | rfl <;> rfl
section
variable (w : World)
set_option maxRecDepth 100000 in
theorem name_any (z : Int) (h : Nms w) : Calls Tryd.prog 4 #[.int .i64 z] w fun e w' => e = .returned (.string (nmv z)) ∧ w' = w := by
  by_cases h1 : z < 0
  · have e : nmv z = ⟨#[]⟩ := by unfold nmv; rw [if_neg (by omega)]
    rw [e]
    clear h e
    go_enter Tryd.func4, Tryd.ntmps4
    go_wp2
    go_ret
    exact ⟨rfl, rfl⟩
  by_cases h2 : 51 ≤ z
  · have e : nmv z = ⟨#[]⟩ := by unfold nmv; rw [if_neg (by omega)]
    rw [e]
    clear h e
    go_enter Tryd.func4, Tryd.ntmps4
    go_wp2
    go_ret
    exact ⟨rfl, rfl⟩
  obtain ⟨k, rfl⟩ := Int.eq_ofNat_of_zero_le (show 0 ≤ z by omega)
  have hk : k < 51 := by omega
  have e : nmv (k : Int) = nmB k := by unfold nmv; rw [if_pos (by omega)]; rfl
  rw [e]
  have c := h k hk
  have hk2 : (k : Int) < 51 := by omega
  generalize nmB k = s at *
  clear h e
  go_enter Tryd.func4, Tryd.ntmps4
  go_wp2
  go_ret
  exact ⟨rfl, rfl⟩
end
end Go.Proofs.YtgacfdnnmlmgaaaDoor
