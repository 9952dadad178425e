import Derived.Test.YtionncfpcbjchaaDoorFC
import Derived.Test.YtionncfpcbjchaaDoorFD
import Derived.Lib.LaidTab
namespace Go.Proofs.YtionncfpcbjchaaDoor
open Go.ChangeShapes Go.WideShapes Go.ChangeAt Go.RowKit
theorem laid_reads {P : Program} {W : World} : ∀ {l : List (String × DataW Unit)} {ps : List MemPlace}, DataW.LaidVars P W l ps → ∀ n d, (n, d) ∈ l → ∃ g t cs fuel p, P.globalNamed n = some g ∧ (P.globals[g]?).map (·.type) = some t ∧ W.var? P n = some cs ∧ DataW.trod (fun _ => ()) P W 0 (fun _ => true) false fuel t cs.toList = some (d, p)
  | [], _, _, n, d, hm => by cases hm
  | (n', d') :: r, _, h, n, d, hm => by
    obtain ⟨g, t, cs, fuel, p, q, h1, h2, h3, h4, h5, _⟩ := h
    rcases List.mem_cons.1 hm with e | e
    · cases e
      exact ⟨g, t, cs, fuel, p, h1, h2, h3, h4⟩
    · exact laid_reads h5 n d e
theorem tabIs_of {P : Program} {W : World} {l : List (String × DataW Unit)} {name : String} {k : IntKind} {zs : List Int} {g : Nat} {t e : TypeId} {n : Nat} (hm : (name, Lib.tabData k zs) ∈ l)
    (hg : P.globalNamed name = some g) (hty : (P.globals[g]?).map (·.type) = some t) (ht : P.underlying t = some (.array n e)) (he : P.underlying e = some (.int k)) (hce : P.cellsOf e = 1) (hct : P.cellsOf t = n)
    (h : laidMet P l W) : Lib.TabIs P W name k zs := by
  obtain ⟨ps, hv, _⟩ := h
  obtain ⟨g', t', cs, fuel, p, hg', ht', hvar, hd⟩ := laid_reads hv _ _ hm
  obtain rfl := Option.some.inj (hg.symm.trans hg')
  obtain rfl := Option.some.inj (hty.symm.trans ht')
  unfold Lib.TabIs
  rw [hvar, ← Lib.cells_of_tab ht he hce hct hd]
theorem gPow : Tryd.prog.globalNamed "internal/strconv.uint64pow10" = some 0 := by kernel_rfl
theorem laid_pow : (Rows.laid_internal_strconv_uint64pow10 : DataW Unit) = Lib.tabData .u64 Lib.pow10Tab := rfl
theorem tb_of {W : World} {l : List (String × DataW Unit)} (m3 : ("internal/strconv.uint64pow10", (Rows.laid_internal_strconv_uint64pow10 : DataW Unit)) ∈ l) (h : laidMet Tryd.prog l W) : Tb W :=
  tabIs_of (l := l) (by rw [← laid_pow]; exact m3) gPow (by kernel_rfl) Tryd.underlying82 Tryd.underlying77 (by kernel_rfl) (by kernel_rfl) h
theorem var_lt {P : Program} {W : World} {l : List (String × DataW Unit)} {n : String} {d : DataW Unit} {g : Nat} (hm : (n, d) ∈ l) (hg : P.globalNamed n = some g) (h : laidMet P l W) : g < W.heap.size := by
  obtain ⟨ps, hv, _⟩ := h
  obtain ⟨g', t', cs, fuel, p, hg', ht', hvar, hd⟩ := laid_reads hv _ _ hm
  obtain rfl := Option.some.inj (hg.symm.trans hg')
  unfold World.var? at hvar
  rw [hg] at hvar
  by_cases hb : g < W.heap.size
  · exact hb
  · simp [Array.getElem?_eq_none (show W.heap.size ≤ g by omega)] at hvar
theorem gLast : Tryd.prog.globalNamed "math/bits.deBruijn64tab" = some 2 := by kernel_rfl
def dbT : List Int := [0, 1, 56, 2, 57, 49, 28, 3, 61, 58, 42, 50, 38, 29, 17, 4, 62, 47, 59, 36, 45, 43, 51, 22, 53, 39, 33, 30, 24, 18, 12, 5, 63, 55, 48, 27, 60, 41, 37, 16, 46, 35, 44, 21, 52, 32, 23, 11, 54, 26, 40, 15, 34, 20, 31, 10, 25, 14, 19, 9, 13, 8, 7, 6]
/-- the tables laid, for a witness's world -/
def lay (cs : Array Value) (o : Obj) : Obj :=
  match o with
  | .cells _ t frozen => .cells cs t frozen
  | o => o
def db32 : List Int := [0, 1, 28, 2, 29, 14, 24, 3, 30, 22, 20, 15, 25, 17, 4, 8, 31, 27, 13, 23, 21, 19, 16, 7, 26, 12, 18, 6, 11, 5, 10, 9]
def layAll (h : Array Obj) : Array Obj :=
  ((h.modify 0 (lay (Lib.pow10Tab.map fun z => Value.int .u64 z).toArray)).modify 2 (lay (dbT.map fun z => Value.int .u8 z).toArray)).modify 1 (lay (db32.map fun z => Value.int .u8 z).toArray)
set_option maxRecDepth 100000 in
set_option maxHeartbeats 2000000 in
theorem forests_walk (w : World) (v : Fv) (F : Fo) (hF : F.Ok) (h3 : 3 ≤ w.heap.size) (hA : FoAt w.heap.size w v F) (hT : Tb w) :
    Calls Tryd.prog 4 #[.agg (v.cells F).toArray] w fun e w' => e = .returned (.bool true) ∧ Below w.heap.size w w' := by
  have hb0 : Below w.heap.size w (w.alloc (.cells (v.cells F).toArray 28)) := (Below.refl _ _).alloc (Nat.le_refl _) _
  have hbx : Blk (w.alloc (.cells (v.cells F).toArray 28)) w.heap.size 28 (v.cells F) := Blk.new w _ _
  have hVl : (v.cells F).length = 5 := rfl
  have call1 : ∀ w1, w.heap.size + 1 ≤ w1.heap.size → Below w.heap.size w w1 → Calls Tryd.prog 7 #[.agg (v.cells F).toArray] w1 fun e w' => e = .returned (.string ⟨F.text.toArray⟩) ∧ Below w1.heap.size w1 w' := fun w1 h1 h2 => rForest_any w1 v F hF (by omega) ((hA.keep h2).mono (by omega)) (hT.up h3 h2)
  have call2 : ∀ w1, w.heap.size + 1 ≤ w1.heap.size → Below w.heap.size w w1 → Calls Tryd.prog 6 #[.agg (v.cells F).toArray] w1 fun e w' => e = .returned (.string ⟨F.text.toArray⟩) ∧ Below w1.heap.size w1 w' := fun w1 h1 h2 => Forest_any w1 v F hF (by omega) ((hA.keep h2).mono (by omega)) (hT.up h3 h2)
  have C1 := hide call1
  have C2 := hide call2
  have hs0 : w.heap.size + 1 ≤ (w.alloc (.cells (v.cells F).toArray 28)).heap.size := by simp
  have HB0 := hide (And.intro hb0 (And.intro hbx hs0))
  clear hA hT call1 call2 hb0 hbx hs0
  obtain ⟨V, hV⟩ : ∃ V, v.cells F = V := ⟨_, rfl⟩
  obtain ⟨T, hTx⟩ : ∃ T, F.text = T := ⟨_, rfl⟩
  rw [hV] at C1 C2 HB0 hVl ⊢
  rw [hTx] at C1 C2
  clear hV hTx
  go_enter Tryd.func4, Tryd.ntmps4
  go_upto_region 1 with fail
  generalize w.alloc (.cells V.toArray 28) = w0 at *
  go_wp2_with (refine loadT Tryd.underlying28 rfl V (by rw [hVl]; exact info_fo) (by rfl) _ rfl ⟨w.heap.size, 0, none⟩ rfl (Blk.cells HB0.out.2.1) ?_)
  refine (C1.out w0 HB0.out.2.2 HB0.out.1).mono ?_
  rintro e w1 ⟨rfl, hb1⟩
  have HB1 : Hid (Below w.heap.size w w1 ∧ Blk w1 w.heap.size 28 V ∧ w.heap.size + 1 ≤ w1.heap.size) := hide ⟨HB0.out.1.trans (hb1.mono HB0.out.1.size), HB0.out.2.1.below hb1 HB0.out.2.1.lt, Nat.le_trans HB0.out.2.2 hb1.size⟩
  clear hb1 HB0
  go_wp2_with (refine loadT Tryd.underlying28 rfl V (by rw [hVl]; exact info_fo) (by rfl) _ rfl ⟨w.heap.size, 0, none⟩ rfl (Blk.cells HB1.out.2.1) ?_)
  refine (C2.out w1 HB1.out.2.2 HB1.out.1).mono ?_
  rintro e w2 ⟨rfl, hb1⟩
  have HB2 : Hid (Below w.heap.size w w2 ∧ Blk w2 w.heap.size 28 V ∧ w.heap.size + 1 ≤ w2.heap.size) := hide ⟨HB1.out.1.trans (hb1.mono HB1.out.1.size), HB1.out.2.1.below hb1 HB1.out.2.1.lt, Nat.le_trans HB1.out.2.2 hb1.size⟩
  clear hb1 HB1
  go_wp2_with (refine loadT Tryd.underlying28 rfl V (by rw [hVl]; exact info_fo) (by rfl) _ rfl ⟨w.heap.size, 0, none⟩ rfl (Blk.cells HB2.out.2.1) ?_)
  refine (C1.out w2 HB2.out.2.2 HB2.out.1).mono ?_
  rintro e w3 ⟨rfl, hb1⟩
  have HB3 := hide (HB2.out.1.trans (hb1.mono HB2.out.1.size))
  clear hb1 HB2
  go_wp2
  go_ret
  exact ⟨rfl, HB3.out⟩
end Go.Proofs.YtionncfpcbjchaaDoor
