import Derived.Test.YtohbhhdadcmicaaDoorL0
import Derived.Test.YtohbhhdadcmicaaDoorTD
import Derived.Lib.LaidTab
namespace Go.Proofs.YtohbhhdadcmicaaDoor
open Go.ChangeShapes Go.WideShapes Go.ChangeAt Go.RowKit
theorem laid_reads {P : Program} {W : World} : ∀ {l : List (String × DataW Unit)} {ps : List MemPlace}, DataW.LaidVars P W l ps → ∀ n d, (n, d) ∈ l → ∃ g t cs fuel p, P.globalNamed n = some g ∧ (P.globals[g]?).map (·.type) = some t ∧ W.var? P n = some cs ∧ DataW.trod (fun _ => ()) P W 0 (fun _ => true) false fuel t cs.toList = some (d, p)
  | [], _, _, n, d, hm => by cases hm
  | (n', d') :: r, _, h, n, d, hm => by
    obtain ⟨g, t, cs, fuel, p, q, h1, h2, h3, h4, h5, _⟩ := h
    rcases List.mem_cons.1 hm with e | e
    · cases e
      exact ⟨g, t, cs, fuel, p, h1, h2, h3, h4⟩
    · exact laid_reads h5 n d e
theorem tabIs_of {P : Program} {W : World} {l : List (String × DataW Unit)} {name : String} {k : IntKind} {zs : List Int} {g : Nat} {t e : TypeId} {n : Nat} (hm : (name, Lib.tabData k zs) ∈ l)
    (hg : P.globalNamed name = some g) (hty : (P.globals[g]?).map (·.type) = some t) (ht : P.underlying t = some (.array n e)) (he : P.underlying e = some (.int k)) (hce : P.cellsOf e = 1) (hct : P.cellsOf t = n)
    (h : laidMet P l W) : Lib.TabIs P W name k zs := by
  obtain ⟨ps, hv, _⟩ := h
  obtain ⟨g', t', cs, fuel, p, hg', ht', hvar, hd⟩ := laid_reads hv _ _ hm
  obtain rfl := Option.some.inj (hg.symm.trans hg')
  obtain rfl := Option.some.inj (hty.symm.trans ht')
  unfold Lib.TabIs
  rw [hvar, ← Lib.cells_of_tab ht he hce hct hd]
theorem gNms : Tryd.prog.globalNamed "amber/amberref07.names" = some 1 := by kernel_rfl
theorem gNmsType : (Tryd.prog.globals[1]?).map (·.type) = some 56 := by kernel_rfl
theorem laid_nms : (Rows.laid_amber_amberref07_names : DataW Unit) = .agg ((List.range 27).map fun n => .lit (.string (nm n))) := rfl
set_option maxRecDepth 100000 in
theorem nms_of {W : World} {l : List (String × DataW Unit)} (hm : ("amber/amberref07.names", (Rows.laid_amber_amberref07_names : DataW Unit)) ∈ l) (h : laidMet Tryd.prog l W) : ∀ n, n < 27 → W.cell? ⟨1, n, none⟩ = some (.string ⟨(nm n).toArray⟩) := by
  obtain ⟨ps, hv, _⟩ := h
  obtain ⟨g, t, cs, fuel, p, h1, h2, h3, h4⟩ := laid_reads hv _ _ hm
  obtain rfl := Option.some.inj (gNms.symm.trans h1)
  obtain rfl := Option.some.inj (gNmsType.symm.trans h2)
  obtain ⟨xs, m, _, hx, hl, hxl, hf⟩ := DataW.trod_array Tryd.underlying56 h4
  rw [laid_nms] at hx
  have hx1 : ((List.range 27).map fun n => (.lit (.string (nm n)) : DataW Unit)) = xs.map (·.1) := by
    have := congrArg Prod.fst hx
    simpa using this
  intro n hn
  have hn' := hf n hn
  rw [cells1.1] at hn'
  obtain ⟨y, hy⟩ : ∃ y, xs[n]? = some y := ⟨_, List.getElem?_eq_getElem (by omega)⟩
  have e1 := congrArg (·[n]?) hx1
  simp [hy, hn] at e1
  rw [hy] at hn'
  obtain ⟨d, q⟩ := y
  simp only at e1
  subst e1
  obtain ⟨s, e0, e2, _⟩ := DataW.trod_string Tryd.underlying9 hn'
  have e3 : s.data.toList = nm n := by simpa using (congrArg Prod.fst e2).symm
  have e4 : cs[n]? = some (.string s) := by
    have := congrArg (·[0]?) e0
    simpa [List.getElem?_take, List.getElem?_drop] using this
  rw [World.var?_cell gNms h3 n, e4, ← e3]
theorem gPow : Tryd.prog.globalNamed "internal/strconv.uint64pow10" = some 2 := by kernel_rfl
theorem gTz : Tryd.prog.globalNamed "math/bits.deBruijn64tab" = some 5 := by kernel_rfl
theorem laid_pow : (Rows.laid_internal_strconv_uint64pow10 : DataW Unit) = Lib.tabData .u64 Lib.pow10Tab := rfl
/-- the table of the last bits, as the row lists it -/
def dbT : List Int := [0, 1, 56, 2, 57, 49, 28, 3, 61, 58, 42, 50, 38, 29, 17, 4, 62, 47, 59, 36, 45, 43, 51, 22, 53, 39, 33, 30, 24, 18, 12, 5, 63, 55, 48, 27, 60, 41, 37, 16, 46, 35, 44, 21, 52, 32, 23, 11, 54, 26, 40, 15, 34, 20, 31, 10, 25, 14, 19, 9, 13, 8, 7, 6]
theorem laid_tz : (Rows.laid_math_bits_deBruijn64tab : DataW Unit) = Lib.tabData .u8 dbT := rfl
set_option maxRecDepth 100000 in
theorem tb_of {W : World} (h : laidMet Tryd.prog Rows.isaTellsRow.laid W) : Tb W := by
  refine ⟨ops_of ?_ h, nms_of ?_ h, ?_, ?_⟩
  · exact .tail _ (.tail _ (.tail _ (.tail _ (.head _))))
  · exact .tail _ (.tail _ (.tail _ (.head _)))
  · have e := tabIs_of (l := Rows.isaTellsRow.laid) (zs := dbT) (by rw [← laid_tz]; exact .tail _ (.head _)) gTz (by kernel_rfl) Tryd.underlying91 Tryd.underlying5 (by kernel_rfl) (by kernel_rfl) h
    exact e.cell gTz 15 (by decide)
  · exact tabIs_of (l := Rows.isaTellsRow.laid) (by rw [← laid_pow]; exact .tail _ (.tail _ (.head _))) gPow (by kernel_rfl) Tryd.underlying85 Tryd.underlying45 (by kernel_rfl) (by kernel_rfl) h
end Go.Proofs.YtohbhhdadcmicaaDoor
