import Derived.Test.YtjhphhcmefeiiaaDoorXH
namespace Go.Proofs.YtjhphhcmefeiiaaDoor
open Go.RowKit
set_option linter.unusedVariables false

def zR : Obj := .cells #[.int .u32 0, .int .u32 0, .int .u32 0, .int .u32 0, .int .u32 0, .int .u32 0, .int .u32 0, .int .u32 0, .int .u32 0] 25
def zE : Obj := .cells #[.int .i64 0, .int .u32 0, .int .i64 0, .int .u32 0, .int .i64 0] 28
/-- a step's answer in two blocks of the law's own -/
def frRE (w : World) (Y X : Array Value) : World := (((w.alloc zR).alloc zE).setRow w.heap.size Y).setRow (w.heap.size + 1) X
theorem two_a (w : World) : ((w.alloc zR).alloc zE).heap[w.heap.size]? = some (.cells #[.int .u32 0, .int .u32 0, .int .u32 0, .int .u32 0, .int .u32 0, .int .u32 0, .int .u32 0, .int .u32 0, .int .u32 0] 25 (0, 0)) := by
  rw [(bel1 (w.alloc zR) zE).block _ (by simp)]
  exact heap_alloc_last w _
theorem two_e (w : World) : ((w.alloc zR).alloc zE).heap[w.heap.size + 1]? = some (.cells #[.int .i64 0, .int .u32 0, .int .i64 0, .int .u32 0, .int .i64 0] 28 (0, 0)) := by
  have h := heap_alloc_last (w.alloc zR) zE
  have e : (w.alloc zR).heap.size = w.heap.size + 1 := by simp
  rw [e] at h
  exact h
theorem two_e' (w : World) (Y : Array Value) : (((w.alloc zR).alloc zE).setRow w.heap.size Y).heap[w.heap.size + 1]? = some (.cells #[.int .i64 0, .int .u32 0, .int .i64 0, .int .u32 0, .int .i64 0] 28 (0, 0)) := by
  rw [setRow_other _ _ _ _ (by omega)]; exact two_e w
theorem frRE_a (w : World) (Y X : Array Value) : (frRE w Y X).heap[w.heap.size]? = some (.cells Y 25 (0, 0)) := by
  unfold frRE
  rw [setRow_other _ _ _ _ (by omega)]
  exact setRow_heap _ _ _ _ _ _ (two_a w)
theorem frRE_e (w : World) (Y X : Array Value) : (frRE w Y X).heap[w.heap.size + 1]? = some (.cells X 28 (0, 0)) := setRow_heap _ _ _ _ _ _ (two_e' w Y)
theorem frRE_b (w : World) (Y X : Array Value) : Below w.heap.size w (frRE w Y X) :=
  ⟨rfl, rfl, rfl, by simp [frRE, World.setRow]; omega, fun k hk => by
    unfold frRE
    rw [setRow_other _ _ k _ (by omega), setRow_other _ _ k _ (by omega), (bel1 (w.alloc zR) zE).block k (by simp; omega), (bel1 w zR).block k hk]⟩
theorem e5_all (k a r v c : Int) : (e5 k a r v c).toArray.all (·.oneCell') = true := all_oneCell_toArray (e5_ones k a r v c)
set_option maxRecDepth 100000 in
set_option maxHeartbeats 3200000 in
theorem execs_walk (w : World) (R : Nat → Nat) (pc : Nat) (hR : RgOk R pc) (n : Nat) (hn : n < 4294967296) (hO : Ops w) : Calls Tryd.prog 3 #[.agg (rg R pc).toArray, .int .u32 (n : Nat)] w fun e w' => e = .returned (.bool true) ∧ Below w.heap.size w w' := by
  obtain ⟨R', pc', ek, ea, er, ev, ec, h1, h2⟩ := both_any R pc n hn hR
  have r0 := Rb.new w R pc
  have b0 := bel1 w (.cells (rg R pc).toArray 25)
  have HX := hide (And.intro r0 (And.intro b0 (hO.below b0)))
  have H1 := hide h1
  have H2 := hide h2
  clear r0 b0 hO h1 h2
  go_enter Tryd.func3, Tryd.ntmps3
  go_upto_region 1 with fail
  generalize w.alloc (.cells (rg R pc).toArray 25) = w1 at *
  obtain ⟨N, hN⟩ : ∃ N, w.heap.size = N := ⟨_, rfl⟩
  rw [hN] at HX ⊢
  have hX5 : (e5 ek ea er ev ec).toArray.size = 5 := rfl
  go_wp2_with (refine wpList_load_row rfl 25 _ rfl N rfl 25 (rg R pc).toArray (0, 0) _ HX.out.1.out Tryd.underlying25 rfl (info_rg _ _) ?_)
  refine (H1.out _ HX.out.2.2).mono ?_
  rintro e w2 ⟨rfl, hb2⟩
  generalize hXe : (e5 ek ea er ev ec).toArray = X at *
  have HXe := hide hXe
  clear hXe
  have b3 := hb2.trans ((frRE_b w2 (rg R' pc').toArray X).mono hb2.size)
  have HR3 := hide (HX.out.1.below b3)
  have HB3 := hide (HX.out.2.1.trans (b3.mono (by rw [← hN]; exact HX.out.2.1.size)))
  have HA3 := hide (frRE_a w2 (rg R' pc').toArray X)
  have HE3 := hide (frRE_e w2 (rg R' pc').toArray X)
  clear b3 hb2 HX H1
  go_upto_region 2 with (first
    | (refine wpList_store_row rfl 25 _ _ rfl w2.heap.size (rg R' pc').toArray rfl rfl 25 _ (two_a w2) (info_rg _ _) (by rw [rg_size]; rfl) (rg_one _ _) ?_)
    | (refine wpList_store_row rfl 28 _ _ rfl (w2.heap.size + 1) X rfl rfl 28 _ (two_e' w2 _) (by rw [hX5]; exact info_eff) (by rw [hX5]; rfl) (by rw [← HXe.out]; exact e5_all _ _ _ _ _) ?_))
  show Code.wp _ _ _ _ (frRE w2 (rg R' pc').toArray X)
  generalize frRE w2 (rg R' pc').toArray X = w3 at *
  generalize w2.heap.size = M at *
  go_wp2_with (refine wpList_load_row rfl 25 _ rfl N rfl 25 (rg R pc).toArray (0, 0) _ HR3.out.out Tryd.underlying25 rfl (info_rg _ _) ?_)
  refine (H2.out _).mono ?_
  rintro e w4 ⟨rfl, hb4⟩
  have b5 := hb4.trans ((frRE_b w4 (rg R' pc').toArray X).mono hb4.size)
  have HB5 := hide (HB3.out.trans (b5.mono (by rw [← hN]; exact HB3.out.size)))
  have HA5 := hide ((b5.block M (Array.getElem?_eq_some_iff.1 HA3.out).1).trans HA3.out)
  have HE5 := hide ((b5.block (M + 1) (Array.getElem?_eq_some_iff.1 HE3.out).1).trans HE3.out)
  have HA6 := hide (frRE_a w4 (rg R' pc').toArray X)
  have HE6 := hide (frRE_e w4 (rg R' pc').toArray X)
  clear b5 hb4 HR3 HB3 HA3 HE3 H2
  go_upto_region 3 with (first
    | (refine wpList_store_row rfl 25 _ _ rfl w4.heap.size (rg R' pc').toArray rfl rfl 25 _ (two_a w4) (info_rg _ _) (by rw [rg_size]; rfl) (rg_one _ _) ?_)
    | (refine wpList_store_row rfl 28 _ _ rfl (w4.heap.size + 1) X rfl rfl 28 _ (two_e' w4 _) (by rw [hX5]; exact info_eff) (by rw [hX5]; rfl) (by rw [← HXe.out]; exact e5_all _ _ _ _ _) ?_))
  show Code.wp _ _ _ _ (frRE w4 (rg R' pc').toArray X)
  generalize frRE w4 (rg R' pc').toArray X = w5 at *
  generalize w4.heap.size = M' at *
  have he := eq_rg R' pc'
  have hX : X = #[.int .i64 ek, .int .u32 ea, .int .i64 er, .int .u32 ev, .int .i64 ec] := HXe.out.symm
  rw [hX] at HE5 HE6
  clear hX HXe hX5
  have d0 : w5.cell? ⟨M + 1, 0, none⟩ = some (.int .i64 ek) := by rw [cell_of_row _ _ _ _ _ _ HE5.out]; rfl
  have d1 : w5.cell? ⟨M + 1, 1, none⟩ = some (.int .u32 ea) := by rw [cell_of_row _ _ _ _ _ _ HE5.out]; rfl
  have d2 : w5.cell? ⟨M + 1, 2, none⟩ = some (.int .i64 er) := by rw [cell_of_row _ _ _ _ _ _ HE5.out]; rfl
  have d3 : w5.cell? ⟨M + 1, 3, none⟩ = some (.int .u32 ev) := by rw [cell_of_row _ _ _ _ _ _ HE5.out]; rfl
  have d4 : w5.cell? ⟨M + 1, 4, none⟩ = some (.int .i64 ec) := by rw [cell_of_row _ _ _ _ _ _ HE5.out]; rfl
  have g0 : w5.cell? ⟨M' + 1, 0, none⟩ = some (.int .i64 ek) := by rw [cell_of_row _ _ _ _ _ _ HE6.out]; rfl
  have g1 : w5.cell? ⟨M' + 1, 1, none⟩ = some (.int .u32 ea) := by rw [cell_of_row _ _ _ _ _ _ HE6.out]; rfl
  have g2 : w5.cell? ⟨M' + 1, 2, none⟩ = some (.int .i64 er) := by rw [cell_of_row _ _ _ _ _ _ HE6.out]; rfl
  have g3 : w5.cell? ⟨M' + 1, 3, none⟩ = some (.int .u32 ev) := by rw [cell_of_row _ _ _ _ _ _ HE6.out]; rfl
  have g4 : w5.cell? ⟨M' + 1, 4, none⟩ = some (.int .i64 ec) := by rw [cell_of_row _ _ _ _ _ _ HE6.out]; rfl
  go_wp2_with (first
    | refine wpList_load_row rfl 25 _ rfl M rfl 25 (rg R' pc').toArray (0, 0) _ HA5.out Tryd.underlying25 rfl (info_rg _ _) ?_
    | refine wpList_load_row rfl 25 _ rfl M' rfl 25 (rg R' pc').toArray (0, 0) _ HA6.out Tryd.underlying25 rfl (info_rg _ _) ?_)
  go_ret
  subst hN
  exact ⟨by simp, HB5.out⟩
end Go.Proofs.YtjhphhcmefeiiaaDoor
