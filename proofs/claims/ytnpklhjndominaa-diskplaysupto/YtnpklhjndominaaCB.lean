import Derived.Test.YtnpklhjndominaaCA
namespace Go.Proofs.Ytnpklhjndominaa
open Go.RowKit

/-- a disk that is up and not armed, nothing waiting -/
def cln (M : Nat → List Nat) (A : Nat) : Dsk := ⟨M, [], A, false, 0, false⟩
/-- the same with writes waiting -/
def wait (M : Nat → List Nat) (c : List (Nat × List Nat)) (A : Nat) : Dsk := ⟨M, c, A, false, 0, false⟩
theorem keptTo_none {p : Nat → Bool} (c : List (Nat × List Nat)) (hp : ∀ i, p i = false) (i : Nat) : keptTo p c i = [] := by
  induction i with
  | zero => rfl
  | succ i ih => rw [keptTo_no (hp i), ih]
theorem kp_nil (i : Nat) : kp [] i = false := rfl
theorem crash_nil {B : Nat} {D : Dsk} {w : World} {F : Nat → Prop} (hd : DkA B D w F) : Calls Try.prog 22 #[dp B, .slice none 0 0] w fun e w' => e = .returned (.int .i64 0) ∧ ∃ F', DkA B (cln D.M D.acts) w' F' ∧ Ext F w F' w' := by
  refine (crash_any hd (.slice none 0 0) [] (.inl ⟨rfl, rfl⟩) (fun b hb => by simp [Value.ownBlock] at hb)).mono ?_
  rintro e w' ⟨rfl, F', h1, h2⟩
  rw [keptTo_none _ kp_nil]
  refine ⟨rfl, F', ?_, h2⟩
  have e : D.up.settled (kp []) = cln D.M D.acts := by
    unfold Dsk.settled
    rw [keptTo_none _ kp_nil, play_nil]; rfl
  rw [← e]; exact h1
theorem sec_rep (b : Nat) (h : b < 256) : Sec (List.replicate 128 b) := ⟨by simp, fun x hx => by rw [(List.mem_replicate.1 hx).2]; exact h⟩
theorem own_farD {B : Nat} {D : Dsk} {w w3 : World} {F : Nat → Prop} {r : Value} {zs : List Nat} (h : Ow w3 w.heap.size r zs) (hF : DkA B D w F) : ∀ b, r.ownBlock = some b → ¬ F b := fun b hb hf => by
  have h1 := (World.ownsRow.lt h b hb).1
  have h2 := (good_dk B D).lt hF b hf
  omega
theorem upd_same (M : Nat → List Nat) (s : Nat) (b : List Nat) : upd M s b s = b := by unfold upd; rw [if_pos rfl]
theorem seen_one (M : Nat → List Nat) (s : Nat) (b : List Nat) (A : Nat) : (wait M [(s, b)] A).seen s = b := by
  show upd M s b s = b
  unfold upd; rw [if_pos rfl]
theorem crash_one {B : Nat} {M : Nat → List Nat} {x : Nat × List Nat} {A : Nat} {w : World} {F : Nat → Prop} (hd : DkA B (wait M [x] A) w F) :
    Calls Try.prog 22 #[dp B, .slice (some ⟨w.heap.size, 0, none⟩) 1 1] (w.alloc (Obj.cells #[Value.bool true] 4)) fun e w' => e = .returned (.int .i64 1) ∧ ∃ F', DkA B (cln (upd M x.1 x.2) A) w' F' ∧ Ext F w F' w' := by
  have hb : Below w.heap.size w (w.alloc (Obj.cells #[Value.bool true] 4)) := (Below.refl _ _).alloc (Nat.le_refl _) _
  refine (crash_any ((good_dk _ _).below hd hb) (.slice (some ⟨w.heap.size, 0, none⟩) 1 1) [true] (.inr ⟨_, 1, rfl, cell_one_new w 4 (.bool true)⟩) (fun b hb' hf => by
    simp [Value.ownBlock] at hb'; have := (good_dk _ _).lt hd b hf; omega)).mono ?_
  rintro e w' ⟨rfl, F', h1, h2⟩
  exact ⟨rfl, F', h1, (Ext.of_below hb).trans h2⟩
end Go.Proofs.Ytnpklhjndominaa
