import Derived.Test.YtmflohehnoghhaaG2
import Derived.Laws.ResultCell
import Derived.Laws.Rows
import Derived.Laws.Tables
namespace Go.Proofs.Ytmflohehnoghhaa
open Go.RowKit
section
variable (w : World) (B : Nat) (m : Nat → E)
set_option maxHeartbeats 400000 in
theorem map_ok (v s : Nat) (b : Bool) (h : Tb w B m) (hv : v < 16) (hs : s < 48) (hm : m v = none) :
    Calls Try.prog 17 #[.pointer (some ⟨B, 0, none⟩), .int .i64 (v : Int), .int .i64 (s : Int), .bool b] w fun e w' => e = .returned (.int .i64 0) ∧ TGo w w' B (upd m v (some (s, b))) := by
  go_enter Try.func17, Try.ntmps17
  go_wp2_with fail
  refine (isPage_yes w v hv).mono ?_
  rintro e w1 ⟨rfl, rfl⟩
  go_wp2_with fail
  refine (isSlot_yes w1 s hs).mono ?_
  rintro e w1 ⟨rfl, rfl⟩
  have hp := present_any w1 B m v h hv
  rw [hm] at hp
  go_wp2_with fail
  refine hp.mono ?_
  rintro e w1 ⟨rfl, rfl⟩
  have HR := hide (And.intro (h.set hv (some (s, b))).drew ((Mod.refl (fun b => b = B) w1).setCells (b := B) (.inl rfl) (v * 2) (enc (some (s, b)))).drew)
  obtain ⟨c0, c1⟩ := h.c hv
  have f0 := h.frz (v * 2)
  have f1 := h.frz (v * 2 + 1)
  clear h hp hm
  have hk : ∀ W, Calls Try.prog 34 #[.bool b] W fun e w' => e = .returned (.int .i64 (may (some (s, b)) : Nat)) ∧ w' = W := fun W => kind_any W b s
  have he : enc (some (s, b)) = [.int .i64 (may (some (s, b)) : Nat), .int .i64 (s : Int)] := rfl
  rw [he] at HR
  clear he
  generalize ((may (some (s, b)) : Nat) : Int) = z2 at *
  generalize ((may (m v) : Nat) : Int) = z0 at *
  generalize ((sl (m v) : Nat) : Int) = z1 at *
  go_wp2
  go_region_held (fun _ => True) (trivial) ((refine (hk _).mono ?_; rintro e w2 ⟨rfl, rfl⟩))
  go_wp2
  go_ret
  exact ⟨rfl, HR.out⟩
set_option maxHeartbeats 400000 in
theorem unmap_no (v : Int) (hv : NoPage v) :
    Calls Try.prog 20 #[.pointer (some ⟨B, 0, none⟩), .int .i64 v] w fun e w' => e = .returned (.int .i64 60) ∧ w' = w := by
  go_enter Try.func20, Try.ntmps20
  go_wp2_with fail
  refine (mapped_no w B v hv).mono ?_
  rintro e w1 ⟨rfl, rfl⟩
  go_wp2
  go_ret
  simp
set_option maxHeartbeats 400000 in
theorem unmap_un (v : Nat) (h : Tb w B m) (hv : v < 16) (hm : m v = none) :
    Calls Try.prog 20 #[.pointer (some ⟨B, 0, none⟩), .int .i64 (v : Int)] w fun e w' => e = .returned (.int .i64 62) ∧ w' = w := by
  go_enter Try.func20, Try.ntmps20
  go_wp2_with fail
  refine (mapped_un w B m v h hv hm).mono ?_
  rintro e w1 ⟨rfl, rfl⟩
  go_wp2
  go_ret
  simp
set_option maxHeartbeats 400000 in
theorem unmap_ok (v : Nat) (h : Tb w B m) (hv : v < 16) (x : Nat × Bool) (hm : m v = some x) :
    Calls Try.prog 20 #[.pointer (some ⟨B, 0, none⟩), .int .i64 (v : Int)] w fun e w' => e = .returned (.int .i64 0) ∧ TGo w w' B (upd m v none) := by
  go_enter Try.func20, Try.ntmps20
  go_wp2_with fail
  refine (mapped_yes w B m v h hv x hm).mono ?_
  rintro e w1 ⟨rfl, rfl⟩
  have HR := hide (And.intro (h.set hv none) ((Mod.refl (fun b => b = B) w1).setCells (b := B) (.inl rfl) (v * 2) (enc none)))
  obtain ⟨c0, c1⟩ := h.c hv
  have f0 := h.frz (v * 2)
  have f1 := h.frz (v * 2 + 1)
  clear h hm
  generalize ((may (m v) : Nat) : Int) = z0 at *
  generalize ((sl (m v) : Nat) : Int) = z1 at *
  go_wp2
  go_ret
  exact ⟨rfl, HR.out⟩
set_option maxHeartbeats 400000 in
theorem protect_no (v : Int) (b : Bool) (hv : NoPage v) :
    Calls Try.prog 22 #[.pointer (some ⟨B, 0, none⟩), .int .i64 v, .bool b] w fun e w' => e = .returned (.int .i64 60) ∧ w' = w := by
  go_enter Try.func22, Try.ntmps22
  go_wp2_with fail
  refine (mapped_no w B v hv).mono ?_
  rintro e w1 ⟨rfl, rfl⟩
  go_wp2
  go_ret
  simp
set_option maxHeartbeats 400000 in
theorem protect_un (v : Nat) (b : Bool) (h : Tb w B m) (hv : v < 16) (hm : m v = none) :
    Calls Try.prog 22 #[.pointer (some ⟨B, 0, none⟩), .int .i64 (v : Int), .bool b] w fun e w' => e = .returned (.int .i64 62) ∧ w' = w := by
  go_enter Try.func22, Try.ntmps22
  go_wp2_with fail
  refine (mapped_un w B m v h hv hm).mono ?_
  rintro e w1 ⟨rfl, rfl⟩
  go_wp2
  go_ret
  simp
set_option maxHeartbeats 400000 in
theorem protect_ok (v : Nat) (b : Bool) (h : Tb w B m) (hv : v < 16) (s : Nat) (c : Bool) (hm : m v = some (s, c)) :
    Calls Try.prog 22 #[.pointer (some ⟨B, 0, none⟩), .int .i64 (v : Int), .bool b] w fun e w' => e = .returned (.int .i64 0) ∧ TGo w w' B (upd m v (some (s, b))) := by
  go_enter Try.func22, Try.ntmps22
  go_wp2_with fail
  refine (mapped_yes w B m v h hv _ hm).mono ?_
  rintro e w1 ⟨rfl, rfl⟩
  have HR := hide (And.intro (h.setMay hv (some (s, b)) (by rw [hm]; rfl)).drew ((Mod.refl (fun b => b = B) w1).setCell (p := ⟨B, v * 2, none⟩) (.inl rfl) (.int .i64 (may (some (s, b)) : Nat))).drew)
  obtain ⟨c0, c1⟩ := h.c hv
  have f0 := h.frz (v * 2)
  have hk : ∀ W, Calls Try.prog 34 #[.bool b] W fun e w' => e = .returned (.int .i64 (may (some (s, b)) : Nat)) ∧ w' = W := fun W => kind_any W b s
  clear h hm c1
  generalize ((may (some (s, b)) : Nat) : Int) = z2 at *
  generalize ((may (m v) : Nat) : Int) = z0 at *
  go_wp2
  go_region_held (fun _ => True) (trivial) ((refine (hk _).mono ?_; rintro e w2 ⟨rfl, rfl⟩))
  go_wp2
  go_ret
  exact ⟨rfl, HR.out⟩
theorem results_row2 {P : Program} {fn : Func} {p u : Tmp} {ty : TypeId} (h : fn.results = #[.cell p ty, .tmp u]) (tmps : Array Value) (w : World) (g : Nat) (t : TypeId) (cs : Array Value) (fr : Nat × Nat) (d : TypeDesc)
    (hp : tmps.getD p undef = .pointer (some ⟨g, 0, none⟩)) (hg : w.heap[g]? = some (.cells cs t fr))
    (hu : P.underlying ty = some d) (hd : (match d with | .struct _ | .array _ _ => true | _ => false) = true) (hi : (P.info? ty).map (·.size) = some cs.size) :
    (results fn tmps).run P w = .ok (.tuple #[.agg cs, tmps.getD u undef]) w := by
  rw [results_cell_tmp h, hp]
  simp [asAddr, run_loadVar_row w g t ty cs fr d hg hu hd hi]
theorem info33 : (Try.prog.info? 59).map (·.size) = some 3 := by kernel_rfl
theorem info58 : (Try.prog.info? 49).map (·.size) = some 32 := by kernel_rfl
theorem below_setRow {w wr : World} {g : Nat} (h : Below w.heap.size w wr) (hg : w.heap.size ≤ g) (cs : Array Value) : Below w.heap.size w (wr.setRow g cs) :=
  ⟨h.os, h.tape, h.output, by simp [World.setRow]; exact h.size, fun k hk => by rw [setRow_other wr g k cs (by omega)]; exact h.block k hk⟩
set_option maxHeartbeats 400000 in
theorem entry_no (v : Int) (hv : NoPage v) :
    Calls Try.prog 27 #[.pointer (some ⟨B, 0, none⟩), .int .i64 v] w fun e w' => e = .returned (.tuple #[.agg (ent none).toArray, .int .i64 60]) ∧ Below w.heap.size w w' := by
  go_enter Try.func27, Try.ntmps27
  go_wp2_with fail
  refine (isPage_no _ v hv).mono ?_
  rintro e w1 ⟨rfl, rfl⟩
  have hz := heap_alloc_last w (.cells (ent none).toArray 59)
  go_wp2_with (refine wpList_store_row rfl 59 _ _ rfl w.heap.size (ent none).toArray rfl rfl 59 _ (heap_alloc_last w _) info33 rfl rfl ?_)
  refine bodyPost_ret (results_row2 rfl _ _ w.heap.size 59 (ent none).toArray (0, 0) _ rfl hz Try.underlying59 rfl info33) rfl ?_
  exact ⟨rfl, (Below.refl _ _).alloc (Nat.le_refl _) _⟩
end
end Go.Proofs.Ytmflohehnoghhaa
