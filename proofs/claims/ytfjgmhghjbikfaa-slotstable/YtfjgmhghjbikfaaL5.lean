import Derived.Test.YtfjgmhghjbikfaaL4
import Derived.Deep.RegionHeld
namespace Go.Proofs.Ytfjgmhghjbikfaa
open Go.RowKit

theorem cell_agg (w : World) (v : Int) : Calls Try.prog 23 #[.int .i64 v] w fun x w' => x = .returned (.agg #[.string (cl v).s, .int .i64 (cl v).a, .int .i64 (cl v).b]) ∧ Below w.heap.size w w' := cell_any w v
set_option maxHeartbeats 1600000 in
theorem same_any (w : World) (o : Option Int) : Calls Try.prog 34 #[.int .i64 (o.getD 0), .bool o.isSome, ((o.map cl).getD Cl.zero).val, .bool o.isSome, .int .i64 (o.getD 0), .bool o.isSome] w fun e w' => e = .returned (.bool true) ∧ Below w.heap.size w w' := by
  have h26 := eq26
  cases o with
  | none =>
    simp only [Option.getD_none, Option.isSome_none, Option.map_none, Cl.val, Cl.zero]
    have HB := hide ((Below.refl w.heap.size w).alloc (Nat.le_refl _) (.cells #[.string ByteArray.empty, .int .i64 0, .int .i64 0] 39))
    go_enter Try.func34, Try.ntmps34
    go_wp2
    go_ret
    exact ⟨rfl, HB.out⟩
  | some x =>
    simp only [Option.getD_some, Option.isSome_some, Option.map_some, Cl.val]
    have b0 := heap_alloc_new w (.cells #[.string (cl x).s, .int .i64 (cl x).a, .int .i64 (cl x).b] 39)
    have hB := (Below.refl w.heap.size w).alloc (Nat.le_refl _) (.cells #[.string (cl x).s, .int .i64 (cl x).a, .int .i64 (cl x).b] 39)
    have HB := hide hB
    obtain ⟨c0, c1, c2, _, _, _⟩ := blk3 b0
    have HK : Hid (∀ W, Below (w.alloc (.cells #[.string (cl x).s, .int .i64 (cl x).a, .int .i64 (cl x).b] 39)).heap.size (w.alloc (.cells #[.string (cl x).s, .int .i64 (cl x).a, .int .i64 (cl x).b] 39)) W → W.cell? ⟨w.heap.size, 0, none⟩ = some (.string (cl x).s) ∧ W.cell? ⟨w.heap.size, 1, none⟩ = some (.int .i64 (cl x).a) ∧ W.cell? ⟨w.heap.size, 2, none⟩ = some (.int .i64 (cl x).b)) := hide (fun W hW => by
      obtain ⟨c0, c1, c2, _, _, _⟩ := blk3 ((hW.block _ (by simp)).trans b0)
      exact ⟨c0, c1, c2⟩)
    clear b0 hB
    go_enter Try.func34, Try.ntmps34
    go_wp2
    generalize w.alloc (.cells #[.string (cl x).s, .int .i64 (cl x).a, .int .i64 (cl x).b] 39) = w1 at *
    have HBd : Hid (Below w1.heap.size w1 w1.drew) := hide (Below.refl _ _).drew
    go_region_held (fun W => W.cell? ⟨w.heap.size, 0, none⟩ = some (.string (cl x).s) ∧ W.cell? ⟨w.heap.size, 1, none⟩ = some (.int .i64 (cl x).a) ∧ W.cell? ⟨w.heap.size, 2, none⟩ = some (.int .i64 (cl x).b))
      (first | assumption | exact q3 | exact And.intro c0 (And.intro c1 c2))
      (first
        | (go_at_call 23; refine (cell_agg _ x).mono ?_; rintro e w3 ⟨rfl, hb⟩
           have Q3 := hide hb
           have q3 := HK.out _ (HBd.out.trans (hb.mono HBd.out.size))
           clear hb))
    go_wp2
    go_ret
    exact ⟨rfl, HB.out.trans ((HBd.out.trans (Q3.out.mono HBd.out.size)).mono HB.out.size)⟩
end Go.Proofs.Ytfjgmhghjbikfaa
