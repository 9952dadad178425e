import Derived.Test.YtngmnlmagbfijabB2
namespace Go.Proofs.Ytngmnlmagbfijab
open Go.RowKit Go.Shelf
attribute [local go_sem] Oper.semAt_some
theorem values_stops (n : Nat) (hn : 1 ≤ n) (Bn : Nat) (S : Nat → Prop) (v : Value) (zs : List Int) (hlen : zs.length ≤ 1048576) (w : World) (hBn : w.heap[Bn]? = some (.cells #[v] 31 (0, 0))) (hR : Rd S w v zs) (hS : ∀ b, S b → b < w.heap.size) :
    SeqStopsK Fence.wide n Try.prog 32 #[.pointer (some ⟨Bn, 0, none⟩)] (fun x : Int => #[Value.int .i64 x]) (KeepF S) (fun ys => ys = zs) (fun pre => pre <+: zs) zs.length w := fun l J Jx W hW _ _ hY h0 => by
  refine (values1_in n hn l Bn S v zs hlen J Jx hY W ((hW.block Bn (Array.getElem?_eq_some_iff.1 hBn).1).trans hBn) (hR.keep (fun b hb => hW.block b (hS b hb))) h0).mono ?_
  rintro e W' ⟨hv, ⟨ys, rfl, hJ⟩ | ⟨pre, hp, hJ⟩⟩
  · exact ⟨hv, .inl ⟨_, rfl, hJ⟩⟩
  · exact ⟨hv, .inr ⟨_, hp, hJ⟩⟩
set_option maxRecDepth 100000 in
set_option maxHeartbeats 8000000 in
/-- AppendSeq(nil, Values(v)) -/
theorem appendSeq_in (n : Nat) (hn : 3 ≤ n) (w : World) (Bn : Nat) (S : Nat → Prop) (v : Value) (zs : List Int) (hlen : zs.length ≤ 1048576) (hBn : w.heap[Bn]? = some (.cells #[v] 31 (0, 0))) (hR : Rd S w v zs) (hS : ∀ b, S b → b < w.heap.size) :
    CallsIn Fence.wide n Try.prog 34 #[.slice none 0 0, .func (.func 32) #[] #[.pointer (some ⟨Bn, 0, none⟩)]] w fun x W' => ∃ r, x = .returned r ∧ Oi W' w.heap.size r zs ∧ Below w.heap.size w W' := by
  have h1 : 1 ≤ n := by omega
  obtain ⟨i3, hi, hz, hs, hb⟩ := info3'
  refine callsIn_of_wp_marks Try.func34 rfl trivial ?_ rfl
  simp only [Try.ntmps34, List.size_toArray, List.length_cons, List.length_nil, Nat.reduceAdd, Nat.reduceSub, Array.replicate_succ, Array.replicate_zero, List.push_toArray, List.append_toArray, List.nil_append, List.cons_append]
  gi_wp2_with fail
  have c2 := Boxed.new w 31 (.slice none 0 0)
  have hB0 : Below w.heap.size w (w.alloc (.cells #[.slice none 0 0] 31)) := (Below.refl _ w).alloc (Nat.le_refl _) _
  have hsz : (w.alloc (.cells #[.slice none 0 0] 31)).heap.size = w.heap.size + 1 := by simp
  generalize w.alloc (.cells #[.slice none 0 0] 31) = W0 at *
  have hBnl : Bn < w.heap.size := (Array.getElem?_eq_some_iff.1 hBn).1
  refine wpIn_rangeFunc_ownH rfl h1 (gf := 32) (lb := #[.pointer (some ⟨Bn, 0, none⟩)]) rfl trivial (enters_of Try.func32 (by kernel_rfl) rfl)
    (values_stops (n - 1) (by omega) Bn S v zs hlen W0 ((hB0.block Bn hBnl).trans hBn) (hR.keep (fun b hb => hB0.block b (hS b hb))) (fun b hb => by have := hS b hb; omega)) keepF_t (keepF_b (fun b hb => by have := hS b hb; omega)) (Below.refl _ _) (fun _ => rfl)
    (fun pre W => ((∃ v, Boxed W w.heap.size 31 v ∧ W.ownsRow (w.heap.size + 1) 3 1 v pre.length (pre.map Zi) ∧ True) ∧ pre.length ≤ zs.length) ∧ Below w.heap.size w W)
    (fun _ _ _ => False)
    (OwnFrom.and (Own.from (fun s A A' row hs hg hr => ⟨holdsRow_own (w.heap.size + 1) w.heap.size 31 3 1 (fun s : List Int => s.length) (fun s => s.map Zi) (fun _ _ => True) s A A' row hs.1 hg hr, hs.2⟩) _) (ownFrom_below (Nat.le_refl _) (by omega)))
    (fun _ _ _ _ _ hs _ _ => hs)
    ⟨⟨⟨_, c2, ⟨rfl, .inl ⟨rfl, rfl⟩⟩, trivial⟩, by simp⟩, hB0⟩
    (fun x a' _ => a' = { tmps := #[.slice none 0 0, .func (.func 32) #[] #[.pointer (some ⟨Bn, 0, none⟩)], .pointer (some ⟨w.heap.size, 0, none⟩), undef, .slice none 0 0, .int .i64 x, .func (.func 32) #[] #[.pointer (some ⟨Bn, 0, none⟩)], .int .i64 x, undef, undef, undef, undef, undef], defers := [] })
    (fun _ _ _ _ _ _ hs _ _ => hs)
    ?assign ?body ?done ?stop
  case assign =>
    rintro l pre x W K hi' hK
    gi_wp2
    exact hK _ _ (KeepsFrom.refl _ _) ⟨Nat.le_refl _, fun _ _ => rfl⟩ hi' rfl
  case body =>
    rintro l pre x a' W hl ⟨r, hr⟩ ⟨⟨⟨u, bS, hown, _⟩, hpl⟩, hB⟩ rfl hlt
    obtain ⟨ao, co, rfl⟩ := own_shape hown
    have cS := bS.cell
    have hbl := bS.lt
    gi_wp2_with (gi_at_builtin; refine wpListIn_append_own_at _ rfl _ _ 31 rfl (w.heap.size + 1) 3 i3 (.int .i64 0) 1 8 Try.underlying31 hi hz hs hb rfl (by decide) _ _ _ rfl (hown.alloc _) ⟨W.heap.size, 0, none⟩ 1 1 [.int .i64 x] rfl rfl (cell_one_new _ _ _) (by simp [Value.oneCell']) (by unfold maxLen; omega) (by omega) (by have := hB.size; simp; omega) ?_; intro v' w3 hown3 hg3 _ _
                 obtain ⟨gg, cap, rfl⟩ := ownsRow_succ hown3
                 obtain ⟨b1, b2, _, b4, b5⟩ := Boxed.appended bS (by decide) (own_low hown (show w.heap.size ≤ w.heap.size + 1 by omega)) hB.size (by omega) (own_low hown3 (show w.heap.size ≤ w.heap.size + 1 by omega)) hg3
                 have b3 := hown3.kept (grownBy_setCell' w3 w.heap.size (.slice (some ⟨gg, 0, none⟩) (pre.length + 1) cap)) (.inr (b1.not_row (by decide) hown3).symm)
                 have cB := b1.cell
                 have fB := b1.frozen)
    refine ⟨b4.from _, ⟨b5.size, fun b hb' => b5.block b (hS b hb')⟩, ⟨⟨_, b2, ?_, trivial⟩, by simp; omega⟩, hB.trans b5⟩
    rw [List.length_append, List.map_append]
    exact b3
  case done =>
    rintro D ys W hDl rfl ⟨⟨⟨u, bS, hown, _⟩, hpl⟩, hB⟩ hK
    obtain ⟨ao, co, rfl⟩ := own_shape hown
    have cS := bS.cell
    gi_wp2
    refine ⟨by simp, .inl ⟨_, _, rfl, run_takeDeferred hK, ?_⟩⟩
    refine ⟨_, results_tmp rfl _ _ _, _, rfl, ?_, hB.trans (belowK_b (w := w) (Nat.le_refl _) W D _ _ (by omega) hK rfl rfl)⟩
    have h9 := own_low hown (show w.heap.size ≤ w.heap.size + 1 by omega)
    exact ownsRow_putObj h9 _ hK rfl
  case stop =>
    rintro D c pre W _ _ h _
    exact h.elim
end Go.Proofs.Ytngmnlmagbfijab
