import Derived.Test.YtjpnjgbcmodnoaaXA
import Derived.Shelf.SlSortCmp.NoneTotal
import Derived.Shelf.Lay
import Derived.Shelf.SlGeneric
import Derived.Ground.SlsfProg
namespace Go.Proofs.Ytjpnjgbcmodnoaa
open Go.RowKit Go.Shelf Go.Sort Go.Proofs Go.Lib

shelf_lay_g SlLaysF0.n6 Slsf 6 at Try 48 as Try.sortP
theorem lt_cp (x y : Nat × Nat) : ltOf cp x y = decide (cp x y < 0) := rfl
theorem swo_cp : SWO (ltOf cp) where
  irrefl x := by
    rw [lt_cp, decide_eq_false_iff_not, cp_neg]
    intro h
    exact h.ne rfl
  trans x y z h1 h2 := by
    rw [lt_cp, decide_eq_true_iff, cp_neg] at *
    unfold PLt at *
    omega
  ntrans x y z h1 h2 := by
    rw [lt_cp, decide_eq_false_iff_not, cp_neg] at *
    unfold PLt at *
    omega
theorem tot_cp (x y : Nat × Nat) (h1 : ltOf cp x y = false) (h2 : ltOf cp y x = false) : x = y := by
  rw [lt_cp, decide_eq_false_iff_not, cp_neg] at h1 h2
  unfold PLt at h1 h2
  exact Prod.ext (by omega) (by omega)
theorem encP_one (x : Nat × Nat) : ∀ v ∈ encP x, v.oneCell' = true := by
  intro v hv
  simp [encP] at hv
  rcases hv with rfl | rfl <;> rfl
theorem cmpLays (blk off size : Nat) (w : World) : CmpLays Try.prog 49 #[] encP 2 cp blk off size w := fun _ _ _ _ x y => closure_any _ x y
theorem enters_cp : ∀ args w, (callFunc 49 args).run Try.prog w = .ok (.enter 49 args) w := enters_of Try.func49 (by kernel_rfl) rfl
theorem isAgg_place : ∀ w, (isAgg 45).run Try.prog w = .ok true w := fun _ => by kernel_rfl
theorem sizeOf_place : ∀ w, (Go.sizeOf 45).run Try.prog w = .ok 2 w := fun _ => by kernel_rfl
theorem sort_any (w : World) (base : Nat) (v : Value) (ps : List (Nat × Nat)) (hrow : w.ownsRow base 45 2 v ps.length (encPs ps)) (hle : ps.length ≤ 768) :
    Calls Try.prog 48 #[v, .func (.func 49) #[] #[]] w fun e w' => e = .returned (.tuple #[]) ∧ ∃ ts, List.Perm ts ps ∧ ts.Pairwise (fun a b => ¬ PLt b a) ∧ w'.ownsRow base 45 2 v ts.length (encPs ts) ∧ Grew w v w' v := by
  rcases hrow.2 with ⟨hnil, h0⟩ | ⟨g, cap, cur, rfl, hbase, hb, h1, h2, h3, h4⟩
  · obtain rfl : ps = [] := List.length_eq_zero_iff.1 h0
    subst hnil
    have hcon := AnyF.slices_SortFunc_none Try.sortP none 0 (.func (.func 49) #[] #[]) w
    change Calls Try.prog 48 _ _ _ at hcon
    refine hcon.mono ?_
    rintro e w' ⟨rfl, rfl⟩
    exact ⟨rfl, [], List.Perm.refl _, List.Pairwise.nil, hrow, Grew.refl _ _⟩
  · have hcon := AnyQ.slices_SortFunc_total Try.sortP 2 isAgg_place sizeOf_place encP (fun _ => rfl) encP_one cp swo_cp 49 #[] g 0 cap ps.toArray w enters_cp (cmpLays g 0 _ w) (holdsK_own hb h4) (Array.getElem?_eq_some_iff.1 hb).1 (by simp; omega) tot_cp
    change Calls Try.prog 48 _ _ _ at hcon
    rw [show ps.toArray.size = ps.length by simp] at hcon
    refine hcon.mono ?_
    rintro e w' ⟨rfl, n, os, rfl⟩
    have hp : (ps.toArray.toList.mergeSort fun x y => !ltOf cp y x).Perm ps := List.mergeSort_perm _ _
    refine ⟨rfl, _, hp, ?_, ?_, grew_sorted _⟩
    · refine List.Pairwise.imp (fun {a b} h => ?_) (List.pairwise_mergeSort (le := fun x y => !ltOf cp y x) (fun a b c h1 h2 => ?_) (fun a b => ?_) ps)
      · simp only [Bool.not_eq_true', lt_cp, decide_eq_false_iff_not, cp_neg] at h
        exact h
      · simp only [Bool.not_eq_true'] at h1 h2 ⊢
        exact swo_cp.ntrans _ _ _ h2 h1
      · by_cases h : ltOf cp b a = true
        · have := swo_cp.trans b a b
          rw [show ltOf cp a b = false by
            cases e : ltOf cp a b with
            | false => rfl
            | true => have := swo_cp.trans _ _ _ h e; rw [swo_cp.irrefl] at this; cases this]
          simp
        · simp [Bool.not_eq_true _ ▸ h]
    · rw [hp.length_eq]
      exact ownsRow_sortedK hp.length_eq hbase hb h1 h2 h3
end Go.Proofs.Ytjpnjgbcmodnoaa
