import Derived.Test.YtogcgccfalfbaaaCA
namespace Go.Proofs.Ytogcgccfalfbaaa
open Go.RowKit

/-- a disk that is up and not armed, nothing waiting -/
def cln (M : Nat → List Nat) (A : Nat) : Dsk := ⟨M, [], A, false, 0, false⟩
/-- the same with writes waiting -/
def wait (M : Nat → List Nat) (c : List (Nat × List Nat)) (A : Nat) : Dsk := ⟨M, c, A, false, 0, false⟩
theorem keptTo_none {p : Nat → Bool} (c : List (Nat × List Nat)) (hp : ∀ i, p i = false) (i : Nat) : keptTo p c i = [] := by
  induction i with
  | zero => rfl
  | succ i ih => rw [keptTo_no (hp i), ih]
theorem kp_nil (i : Nat) : kp [] i = false := rfl
theorem crash_nil {B : Nat} {D : Dsk} {w : World} {F : Nat → Prop} (hd : DkA B D w F) : Calls Try.prog 21 #[dp B, .slice none 0 0] w fun e w' => e = .returned (.int .i64 0) ∧ ∃ F', DkA B (cln D.M D.acts) w' F' ∧ Ext F w F' w' := by
  refine (crash_any hd (.slice none 0 0) [] (.inl ⟨rfl, rfl⟩) (fun b hb => by simp [Value.ownBlock] at hb)).mono ?_
  rintro e w' ⟨rfl, F', h1, h2⟩
  rw [keptTo_none _ kp_nil]
  refine ⟨rfl, F', ?_, h2⟩
  have e : D.up.settled (kp []) = cln D.M D.acts := by
    unfold Dsk.settled
    rw [keptTo_none _ kp_nil, play_nil]; rfl
  rw [← e]; exact h1
theorem sec_rep (b : Nat) (h : b < 256) : Sec (List.replicate 128 b) := ⟨by simp, fun x hx => by rw [(List.mem_replicate.1 hx).2]; exact h⟩
theorem own_farD {B : Nat} {D : Dsk} {w w3 : World} {F : Nat → Prop} {r : Value} {zs : List Nat} (h : Ow w3 w.heap.size r zs) (hF : DkA B D w F) : ∀ b, r.ownBlock = some b → ¬ F b := fun b hb hf => by
  have h1 := (World.ownsRow.lt h b hb).1
  have h2 := (good_dk B D).lt hF b hf
  omega
theorem upd_same (M : Nat → List Nat) (s : Nat) (b : List Nat) : upd M s b s = b := by unfold upd; rw [if_pos rfl]
theorem seen_one (M : Nat → List Nat) (s : Nat) (b : List Nat) (A : Nat) : (wait M [(s, b)] A).seen s = b := by
  show upd M s b s = b
  unfold upd; rw [if_pos rfl]
theorem crash_one {B : Nat} {M : Nat → List Nat} {x : Nat × List Nat} {A : Nat} {w : World} {F : Nat → Prop} (hd : DkA B (wait M [x] A) w F) :
    Calls Try.prog 21 #[dp B, .slice (some ⟨w.heap.size, 0, none⟩) 1 1] (w.alloc (Obj.cells #[Value.bool true] 4)) fun e w' => e = .returned (.int .i64 1) ∧ ∃ F', DkA B (cln (upd M x.1 x.2) A) w' F' ∧ Ext F w F' w' := by
  have hb : Below w.heap.size w (w.alloc (Obj.cells #[Value.bool true] 4)) := (Below.refl _ _).alloc (Nat.le_refl _) _
  refine (crash_any ((good_dk _ _).below hd hb) (.slice (some ⟨w.heap.size, 0, none⟩) 1 1) [true] (.inr ⟨_, 1, rfl, cell_one_new w 4 (.bool true)⟩) (fun b hb' hf => by
    simp [Value.ownBlock] at hb'; have := (good_dk _ _).lt hd b hf; omega)).mono ?_
  rintro e w' ⟨rfl, F', h1, h2⟩
  exact ⟨rfl, F', h1, (Ext.of_below hb).trans h2⟩
set_option maxRecDepth 100000 in
set_option maxHeartbeats 1000000 in
theorem fresh_any (a : Option Addr) (len cap : Nat) (Z : Nat → Opr) (w : World) (hl : len ≤ 1048576) (hZ : IsOps w a len Z) :
    Calls Try.prog 5 #[.slice a len cap] w fun e w' => ∃ B M A, e = .returned (dp B) ∧ Sys w w' (DkA B (cln M A)) ∧ A ≤ 1048577 := by
  go_enter Try.func5, Try.ntmps5
  go_wp2_with fail
  refine (begun_any a len cap Z w hl hZ).mono ?_
  rintro e w1 ⟨B, rfl, h1⟩
  have H1 := hide h1
  clear h1 hZ
  go_wp2_with fail
  obtain ⟨F1, ⟨D1, hd1, ha1, _⟩, _, hn1⟩ := H1.out.call1
  refine (crash_nil hd1).mono ?_
  rintro e w2 ⟨rfl, F2, hd2, hx2⟩
  generalize D1.M = M at hd2
  have hA : D1.acts ≤ 1048576 := by omega
  generalize D1.acts = A at hd2 hA
  have H2 := hide (hn1 _ _ _ hd2 hx2)
  clear hd1 ha1 hn1 hd2 hx2 H1
  go_wp2_with fail
  refine (full_any 90 _).mono ?_
  rintro e w3 ⟨r, rfl, hr, hb3⟩
  obtain ⟨F2', hd2, _, hn2⟩ := H2.out.call1
  have hd3 := (good_dk B (cln M A)).below hd2 hb3
  have Q3 := hide (And.intro hr (And.intro hd3 (And.intro (own_farD hr hd2) (And.intro hb3 hn2))))
  clear hr hb3 hd2 hn2 hd3 H2
  go_wp2_with fail
  refine (write_ok Q3.out.2.1 1023 r _ (by omega) Q3.out.1.rd (sec_rep 90 (by omega)) Q3.out.2.2.1 rfl (fun h => by cases h) (by show A < _; omega) (by show 0 < _; omega)).mono ?_
  rintro e w4 ⟨rfl, F4, hd4, hx4⟩
  have hd4' : DkA B (wait M [(1023, List.replicate 128 90)] (A + 1)) w4 F4 := hd4
  have H4 := hide (Q3.out.2.2.2.2 _ _ _ hd4' ((Ext.of_below Q3.out.2.2.2.1).trans hx4))
  have HD4 := hide hd4'
  clear hd4 hd4' hx4 Q3
  go_wp2_with fail
  refine (read_ok HD4.out 1023 (by omega) rfl).mono ?_
  rintro e w5 ⟨rb, rfl, hr5, hb5⟩
  rw [seen_one] at hr5
  have Q5 := hide (And.intro hr5 hb5)
  clear hr5 hb5
  go_wp2_with fail
  refine (full_any 90 _).mono ?_
  rintro e w6 ⟨r6, rfl, hr6, hb6⟩
  have Q6 := hide (And.intro hr6 hb6)
  clear hr6 hb6
  go_wp2_with fail
  refine (same_eq _ _ _ _ (Q5.out.1.below Q6.out.2 (Nat.le_refl _)).rd Q6.out.1.rd).mono ?_
  rintro e w7 ⟨rfl, rfl⟩
  have H7 := hide ((H4.out.below (good_dk _ _) Q5.out.2).below (good_dk _ _) Q6.out.2)
  clear H4 HD4 Q5 Q6
  go_wp2_with fail
  obtain ⟨F7, hd7, _, hn7⟩ := H7.out.call1
  refine (crash_one hd7).mono ?_
  rintro e w8 ⟨rfl, F8, hd8, hx8⟩
  have H8 := hide (hn7 _ _ _ hd8 hx8)
  have HD8 := hide hd8
  clear hd8 hx8 hn7 hd7 H7
  go_wp2_with fail
  refine (raw_ok HD8.out 1023 (by omega)).mono ?_
  rintro e w9 ⟨r9, rfl, hr9, hb9⟩
  have e9 : (cln (upd M 1023 (List.replicate 128 90)) (A + 1)).M 1023 = List.replicate 128 90 := upd_same M 1023 _
  rw [e9] at hr9
  have Q9 := hide (And.intro hr9 hb9)
  clear hr9 hb9 e9
  go_wp2_with fail
  refine (full_any 90 _).mono ?_
  rintro e w10 ⟨r10, rfl, hr10, hb10⟩
  have Q10 := hide (And.intro hr10 hb10)
  clear hr10 hb10
  go_wp2_with fail
  refine (same_eq _ _ _ _ (Q9.out.1.below Q10.out.2 (Nat.le_refl _)).rd Q10.out.1.rd).mono ?_
  rintro e w11 ⟨rfl, rfl⟩
  have H11 := hide ((H8.out.below (good_dk _ _) Q9.out.2).below (good_dk _ _) Q10.out.2)
  clear H8 HD8 Q9 Q10
  go_wp2
  go_ret
  exact ⟨B, _, _, rfl, H11.out, by omega⟩
end Go.Proofs.Ytogcgccfalfbaaa
