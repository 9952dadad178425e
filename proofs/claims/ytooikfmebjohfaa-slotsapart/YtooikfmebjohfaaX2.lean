import Derived.Test.YtooikfmebjohfaaX1
namespace Go.Proofs.Ytooikfmebjohfaa
open Go.RowKit

/-- clear, of a slice of pointers that is its whole row -/
theorem clear89 (w : World) (p n : Nat) (cur : Array Value) (ty : TypeId) (hp : w.heap[p]? = some (.cells cur 92 (0, 0))) (hn : cur.size = n) :
    (Builtin.clear_ #[89] ty #[.slice (some ⟨p, 0, none⟩) n n]).run Try.prog w = .ok (.tuple #[]) (w.setRow p (List.replicate n (.pointer none)).toArray) := by
  rcases Nat.eq_zero_or_pos n with h0 | h0
  · subst h0
    have : cur = #[] := Array.eq_empty_of_size_eq_zero hn
    subst this
    rw [show (List.replicate 0 (Value.pointer none)).toArray = #[] from rfl, setRow_self w p #[] 92 (0, 0) hp]
    simp [Builtin.clear_, run_underlying Try.underlying89]
  · obtain ⟨k, rfl⟩ : ∃ k, n = k + 1 := ⟨n - 1, by omega⟩
    have hs := run_storeCells_from (P := Try.prog) p 92 (List.replicate (k + 1) (.pointer none)) 0 cur w hp (by simp [hn]) (fun v hv => by rw [(List.mem_replicate.1 hv).2]; rfl)
    simp only [Builtin.clear_]
    simp [run_underlying Try.underlying89, Value.cells, zeroCells_one, hs]
set_option maxHeartbeats 400000 in
theorem clearI_any (w : World) (F : Nat → Prop) (B : Nat) (m : List (Option Int)) (h : Tab KI w F B m) :
    Calls Try.prog 52 #[.pointer (some ⟨B, 0, none⟩)] w fun x w' => x = .returned (.tuple #[]) ∧ Tab KI w' F B (List.replicate m.length none) ∧ Ext F w F w' := by
  obtain ⟨p, ps, h⟩ := h
  obtain ⟨c0, c1, f0, f1⟩ := h.cells
  have hcl := fun ty => clear89 w p m.length _ ty h.row (by simp [h.len])
  have HC := hide h.clear
  have HM := hide (((Mod.refl F w).setRow h.fp (List.replicate m.length (Value.pointer none)).toArray).setCell (p := ⟨B, 1, none⟩) (.inl h.fB) (.int .i64 0))
  have d1 : (w.setRow p (List.replicate m.length (Value.pointer none)).toArray).cell? ⟨B, 1, none⟩ = _ := (cell_setRow_other w p _ ⟨B, 1, none⟩ (fun e => h.ne e.symm)).trans c1
  have g1 : (w.setRow p (List.replicate m.length (Value.pointer none)).toArray).frozen? ⟨B, 1, none⟩ = false := frozen_of_row _ B 1 _ _ ((setRow_other w p B _ (fun e => h.ne e.symm)).trans h.top)
  clear h
  generalize m.countP Option.isSome = cnt at *
  generalize hw : w.setRow p (List.replicate m.length (Value.pointer none)).toArray = w1 at *
  clear hw
  generalize List.replicate m.length (none : Option Int) = mm at *
  generalize List.replicate m.length (none : Option Nat) = pp at *
  generalize m.length = n at *
  go_enter Try.func52, Try.ntmps52
  go_wp2
  go_end0
  exact ⟨rfl, ⟨_, _, HC.out⟩, HM.out, fun _ h => .inl h⟩
set_option maxHeartbeats 400000 in
theorem setB_any (w : World) (F : Nat → Prop) (B : Nat) (m : List (Option Int)) (h : Tab KI w F B m) (i v : Int) :
    Calls Try.prog 39 #[.pointer (some ⟨B, 0, none⟩), .int .i64 i, .int .i64 v] w fun e w' => ∃ m', e = .returned (.bool (look m i).isSome) ∧ Tab KI w' F B m' ∧ Ext F w F w' ∧
      ((look m i = none ∧ m' = m) ∨ ∃ (k : Nat) (x : Int), i = k ∧ m[k]? = some (some x) ∧ m' = m.set k (some v)) := by
  have HT := hide h
  have HG := hide (holdsI_any _ F B m h i)
  have hmi : look m i = none ∨ ∃ (k : Nat) (x : Int), i = k ∧ k < m.length ∧ m[k]? = some (some x) ∧ look m i = some x := by
    rcases look_cases m i with ⟨h1, e⟩ | ⟨k, rfl, hk, hm, e⟩ | ⟨k, x, rfl, hk, hm, e⟩
    · exact .inl e
    · exact .inl e
    · exact .inr ⟨k, x, rfl, hk, hm, e⟩
  rcases hmi with e | ⟨k, x, rfl, hk, hm, e⟩
  · rw [e] at HG ⊢
    have HE := hide e
    clear h e
    go_enter Try.func39, Try.ntmps39
    go_wp2_with fail
    refine HG.out.mono ?_
    rintro e w1 ⟨rfl, rfl⟩
    simp only [Option.isSome_none]
    go_wp2
    go_ret
    exact ⟨m, rfl, HT.out, Ext.refl _ _, .inl ⟨by first | rfl | trivial, rfl⟩⟩
  · rw [e] at HG ⊢
    obtain ⟨p, ps, h⟩ := h
    have c0 := h.cells.1
    obtain ⟨q, hq1, c2, hq3, hq4⟩ := h.ptr hm
    have c3 := cell_of_row _ q 0 _ _ _ hq3
    have f3 := frozen_of_row _ q 0 _ _ hq3
    simp [KI] at c3
    have HD := hide (h.setv hm hq1 v)
    have HM := hide ((Mod.refl F w).setCell (p := ⟨q, 0, none⟩) (.inl hq4) (.int .i64 v))
    have HX := hide hm
    clear h e hm hq1 hq3 hq4
    generalize m.length = n at *
    go_enter Try.func39, Try.ntmps39
    go_wp2_with fail
    refine HG.out.mono ?_
    rintro e w1 ⟨rfl, rfl⟩
    simp only [Option.isSome_some]
    go_wp2
    go_ret
    exact ⟨_, rfl, ⟨_, _, HD.out⟩, ⟨HM.out, fun _ h => .inl h⟩, .inr ⟨k, x, rfl, HX.out, rfl⟩⟩

/-- what every step of a script does to the table: it stays one, as long as it was -/
def Steps (w : World) (F : Nat → Prop) (B : Nat) (m : List (Option Int)) (x : Ending) (w' : World) : Prop :=
  ∃ (v : Value) (m' : List (Option Int)) (F' : Nat → Prop), x = .returned v ∧ Tab KI w' F' B m' ∧ Ext F w F' w' ∧ m'.length = m.length
theorem put_steps (w : World) (F : Nat → Prop) (B : Nat) (m : List (Option Int)) (h : Tab KI w F B m) (c : Int) : Calls Try.prog 38 #[.pointer (some ⟨B, 0, none⟩), .int .i64 c] w (Steps w F B m) := by
  refine (putI_any w F B m h c).mono ?_
  rintro x w' ⟨h1, h2⟩
  rcases Nat.lt_or_eq_of_le (ff_le m) with e | e
  · obtain ⟨rfl, F', hT', hE⟩ := h1 e
    exact ⟨_, _, _, rfl, hT', hE, by simp⟩
  · obtain ⟨rfl, hT', hE⟩ := h2 e
    exact ⟨_, _, _, rfl, hT', hE, rfl⟩
theorem putAt_steps (w : World) (F : Nat → Prop) (B : Nat) (m : List (Option Int)) (h : Tab KI w F B m) (i c : Int) : Calls Try.prog 36 #[.pointer (some ⟨B, 0, none⟩), .int .i64 i, .int .i64 c] w (Steps w F B m) := by
  refine (putAtI_any w F B m h i c).mono ?_
  rintro x w' ⟨v, m', F', rfl, hT', hE, h3⟩
  refine ⟨_, _, _, rfl, hT', hE, ?_⟩
  rcases h3 with ⟨_, _, rfl⟩ | ⟨_, _, _, _, _, rfl⟩ | ⟨_, _, _, _, rfl⟩ <;> simp
theorem set_steps (w : World) (F : Nat → Prop) (B : Nat) (m : List (Option Int)) (h : Tab KI w F B m) (i c : Int) : Calls Try.prog 39 #[.pointer (some ⟨B, 0, none⟩), .int .i64 i, .int .i64 c] w (Steps w F B m) := by
  refine (setI_any w F B m h i c).mono ?_
  rintro x w' ⟨v, m', rfl, hT', hE, h3⟩
  refine ⟨_, _, _, rfl, hT', hE, ?_⟩
  rcases h3 with ⟨_, rfl⟩ | ⟨_, _, _, _, rfl⟩ <;> simp
theorem drop_steps (w : World) (F : Nat → Prop) (B : Nat) (m : List (Option Int)) (h : Tab KI w F B m) (i : Int) : Calls Try.prog 40 #[.pointer (some ⟨B, 0, none⟩), .int .i64 i] w (Steps w F B m) := by
  refine (dropI_any w F B m h i).mono ?_
  rintro x w' ⟨v, m', rfl, hT', hE, h3⟩
  refine ⟨_, _, _, rfl, hT', hE, ?_⟩
  rcases h3 with ⟨_, rfl⟩ | ⟨_, _, _, _, rfl⟩ <;> simp
theorem clear_steps (w : World) (F : Nat → Prop) (B : Nat) (m : List (Option Int)) (h : Tab KI w F B m) : Calls Try.prog 52 #[.pointer (some ⟨B, 0, none⟩)] w (Steps w F B m) := by
  refine (clearI_any w F B m h).mono ?_
  rintro x w' ⟨rfl, hT', hE⟩
  exact ⟨_, _, _, rfl, hT', hE, by simp⟩
set_option maxRecDepth 8000 in
set_option maxHeartbeats 3200000 in
theorem play_any (w wa : World) (B : Nat) (m : List (Option Int)) (R : Asn) (hR : Good R) (a1 : Option Addr) (len cap : Nat) (Z : Nat → Int × Int × Int × Int) (hlen : len ≤ maxLen) (hv : Quads w a1 len Z) (h : Sys w wa (star (TabA B m) R)) :
    Calls Try.prog 50 #[.pointer (some ⟨B, 0, none⟩), .slice a1 len cap] wa fun e w' => e = .returned (.tuple #[]) ∧ ∃ m', Sys w w' (star (TabA B m') R) ∧ m'.length = m.length := by
  have HV := hide hv
  have HS := hide h
  have HR := hide hR
  have hl2 : len ≤ 9223372036854775807 := by unfold maxLen at hlen; omega
  obtain ⟨n0, hn0⟩ : ∃ n0, m.length = n0 := ⟨_, rfl⟩
  have HN := hide hn0
  rw [hn0]
  clear hv h hlen hR hn0
  go_enter Try.func50, Try.ntmps50
  go_wp2
  go_loopw [4] (fun i wr => ∃ (k : Nat) (m : List (Option Int)), k ≤ len ∧ i = .int .i64 k ∧ Sys w wr (star (TabA B m) R) ∧ Hid (m.length = n0)) (fun i _ => len - (intOf i).toNat)
  case atStart => exact ⟨0, m, by omega, rfl, HS.out, HN⟩
  case round =>
    obtain ⟨k, m1, hk, rfl, hS, HL⟩ := hrel
    have HS1 := hide hS
    clear hS HS HN
    by_cases hlt : k < len
    · obtain ⟨x, z0, z1, z2, z3, hx, e0, e1, e2, e3⟩ := HV.out.at HS1.out.bel hlt
      subst hx
      have HSA := hide (HS1.out.alloc ((good_tab B m1).star HR.out) (.cells #[.int .i64 z0, .int .i64 z1, .int .i64 z2, .int .i64 z3] 61))
      obtain ⟨F, hT, hup'⟩ := HSA.out.tab HR.out
      have HT := hide hT
      have HU := hide hup'
      clear HS1 hT hup'
      go_wp2_with fail
      · refine (put_steps _ F B m1 HT.out _).mono ?_
        rintro e w6 ⟨v6, m', F', rfl, hT6, hE6, hl6⟩
        have HS6 := hide (HU.out w6 F' m' hT6 hE6)
        have HL6 := hide (hl6.trans HL.out)
        clear hT6 hE6 hl6
        go_wp2
        go_roundw
        case rel =>
          first
            | exact ⟨k + 1, m', by omega, by go_num, HS6.out, HL6⟩
            | ((repeat apply Exists.intro); refine ⟨?_, rfl⟩; exact ⟨k + 1, m', by omega, by go_num, HS6.out, HL6⟩)
        case measure => simp [intOf]; omega
      · refine (putAt_steps _ F B m1 HT.out _ _).mono ?_
        rintro e w6 ⟨v6, m', F', rfl, hT6, hE6, hl6⟩
        have HS6 := hide (HU.out w6 F' m' hT6 hE6)
        have HL6 := hide (hl6.trans HL.out)
        clear hT6 hE6 hl6
        go_wp2
        go_roundw
        case rel =>
          first
            | exact ⟨k + 1, m', by omega, by go_num, HS6.out, HL6⟩
            | ((repeat apply Exists.intro); refine ⟨?_, rfl⟩; exact ⟨k + 1, m', by omega, by go_num, HS6.out, HL6⟩)
        case measure => simp [intOf]; omega
      · refine (set_steps _ F B m1 HT.out _ _).mono ?_
        rintro e w6 ⟨v6, m', F', rfl, hT6, hE6, hl6⟩
        have HS6 := hide (HU.out w6 F' m' hT6 hE6)
        have HL6 := hide (hl6.trans HL.out)
        clear hT6 hE6 hl6
        go_wp2
        go_roundw
        case rel =>
          first
            | exact ⟨k + 1, m', by omega, by go_num, HS6.out, HL6⟩
            | ((repeat apply Exists.intro); refine ⟨?_, rfl⟩; exact ⟨k + 1, m', by omega, by go_num, HS6.out, HL6⟩)
        case measure => simp [intOf]; omega
      · refine (drop_steps _ F B m1 HT.out _).mono ?_
        rintro e w6 ⟨v6, m', F', rfl, hT6, hE6, hl6⟩
        have HS6 := hide (HU.out w6 F' m' hT6 hE6)
        have HL6 := hide (hl6.trans HL.out)
        clear hT6 hE6 hl6
        go_wp2
        go_roundw
        case rel =>
          first
            | exact ⟨k + 1, m', by omega, by go_num, HS6.out, HL6⟩
            | ((repeat apply Exists.intro); refine ⟨?_, rfl⟩; exact ⟨k + 1, m', by omega, by go_num, HS6.out, HL6⟩)
        case measure => simp [intOf]; omega
      · refine (clear_steps _ F B m1 HT.out).mono ?_
        rintro e w6 ⟨v6, m', F', rfl, hT6, hE6, hl6⟩
        have HS6 := hide (HU.out w6 F' m' hT6 hE6)
        have HL6 := hide (hl6.trans HL.out)
        clear hT6 hE6 hl6
        go_wp2
        go_roundw
        case rel =>
          first
            | exact ⟨k + 1, m', by omega, by go_num, HS6.out, HL6⟩
            | ((repeat apply Exists.intro); refine ⟨?_, rfl⟩; exact ⟨k + 1, m', by omega, by go_num, HS6.out, HL6⟩)
        case measure => simp [intOf]; omega
      · go_roundw
        case rel =>
          first
            | exact ⟨k + 1, m1, by omega, by go_num, HSA.out, HL⟩
            | ((repeat apply Exists.intro); refine ⟨?_, rfl⟩; exact ⟨k + 1, m1, by omega, by go_num, HSA.out, HL⟩)
        case measure => simp [intOf]; omega
    · go_wp2
      go_end0
      exact ⟨rfl, m1, HS1.out, HL.out⟩

set_option maxRecDepth 8000 in
set_option maxHeartbeats 1600000 in
/-- tells: the table holds just these values at these places -/
theorem tells_any (wa : World) (F : Nat → Prop) (B : Nat) (m : List (Option Int)) (hT : Tab KI wa F B m) (v1 v2 : Value) (l1 l2 : List Int) (h1 : wa.ownsRow 0 3 1 v1 l1.length (ints l1)) (h2 : wa.ownsRow 0 3 1 v2 l2.length (ints l2))
    (hc : m.countP Option.isSome = l1.length) (he : l1.length = l2.length) (hl : ∀ k, k < l1.length → look m (l1.getD k 0) = some (l2.getD k 0)) :
    Calls Try.prog 53 #[.pointer (some ⟨B, 0, none⟩), v1, v2] wa fun e w' => e = .returned (.bool true) ∧ w' = wa := by
  have hcap : l1.length ≤ 4096 := by rw [← hc]; exact Nat.le_trans count_le hT.cap
  obtain ⟨a1, c1, rfl, r1⟩ := row_read h1
  obtain ⟨a2, c2, rfl, r2⟩ := row_read h2
  have HT := hide hT
  have HC := hide hc
  have HL := hide hl
  have R1 := hide r1
  have R2 := hide r2
  rw [← he] at R2 ⊢
  clear hT hc hl r1 r2 h1 h2 he
  generalize l1.length = n at *
  go_enter Try.func53, Try.ntmps53
  go_wp2_with fail
  refine (lenI_any wa F B m HT.out).mono ?_
  rintro e w1 ⟨rfl, rfl⟩
  rw [HC.out]
  go_wp2
  go_loopw [7] (fun i wr => ∃ k : Nat, k ≤ n ∧ i = .int .i64 k ∧ wr = w1) (fun i _ => n - (intOf i).toNat)
  case atStart => exact ⟨0, by omega, rfl, rfl⟩
  case round =>
    obtain ⟨k, hk, rfl, rfl⟩ := hrel
    by_cases hlt : k < n
    · obtain ⟨g1, rfl, e1⟩ := R1.out k hlt
      obtain ⟨g2, rfl, e2⟩ := R2.out k hlt
      have HK := hide (HL.out k hlt)
      generalize l1.getD k 0 = y1 at *
      generalize l2.getD k 0 = y2 at *
      go_wp2_with fail
      refine (getI_any wr F B m HT.out y1).mono ?_
      rintro e w2 ⟨rfl, rfl⟩
      rw [HK.out]
      simp only [Option.getD_some, Option.isSome_some]
      go_wp2
      go_roundw
      case rel =>
        first
          | exact ⟨k + 1, by omega, by go_num, by first | rfl | trivial⟩
          | ((repeat apply Exists.intro); refine ⟨?_, rfl⟩; exact ⟨k + 1, by omega, by go_num, by first | rfl | trivial⟩)
      case measure => simp [intOf]; omega
    · go_wp2
      go_ret
      exact ⟨rfl, rfl⟩
end Go.Proofs.Ytooikfmebjohfaa
