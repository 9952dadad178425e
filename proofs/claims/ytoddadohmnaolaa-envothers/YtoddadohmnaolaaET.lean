import Derived.Test.YtoddadohmnaolaaES
namespace Go.Proofs.Ytoddadohmnaolaa
open Go.RowKit Go.Shelf

/-- an environment's place is given up -/
theorem EtAt.shut {w w' : World} {F : Nat → Prop} {T S : Nat} {G : Nat → Prop} {m : List (Option Nat)} {rs : List (Option Er)} {last : Int} (h : EtAt w F T S G m rs last) {k : Nat} (hk : k < 16) (ht : Tab KL w' G S (m.set k none)) (hx : Ext G w G w') : EtAt w' F T S G (m.set k none) (rs.set k none) last where
  top := (hx.mod.block T (h.lt T h.fT) (fun e => (h.fG T e).2 rfl)).trans h.top
  tab := ht
  len := by simpa using h.len
  rlen := by simpa using h.rlen
  free i hi := by
    by_cases e : i = k
    · subst e; rw [List.getElem?_set_self (by rw [h.rlen]; exact hk)]
    · rw [List.getElem?_set_ne (fun e' => e e'.symm)] at hi ⊢; exact h.free i hi
  held i b hi := by
    by_cases e : i = k
    · subst e; rw [List.getElem?_set_self (by rw [h.len]; exact hk)] at hi; cases hi
    · rw [List.getElem?_set_ne (fun e' => e e'.symm)] at hi ⊢
      obtain ⟨r, h1, h2⟩ := h.held i b hi
      exact ⟨r, h1, h2.keep (hx.mod.block b h2.lt (h.own i b hi).2.2)⟩
  fT := h.fT
  fG := h.fG
  own i b hi := by
    by_cases e : i = k
    · subst e; rw [List.getElem?_set_self (by rw [h.len]; exact hk)] at hi; cases hi
    · rw [List.getElem?_set_ne (fun e' => e e'.symm)] at hi; exact h.own i b hi
  dis i j b hi hj := by
    by_cases e : i = k
    · subst e; rw [List.getElem?_set_self (by rw [h.len]; exact hk)] at hi; cases hi
    · by_cases e2 : j = k
      · subst e2; rw [List.getElem?_set_self (by rw [h.len]; exact hk)] at hj; cases hj
      · rw [List.getElem?_set_ne (fun e' => e e'.symm)] at hi
        rw [List.getElem?_set_ne (fun e' => e2 e'.symm)] at hj
        exact h.dis i j b hi hj
  lt b hb := Nat.lt_of_lt_of_le (h.lt b hb) hx.mod.size
/-- all of these are given up -/
def drops (rs : List (Option Er)) (l : List Nat) : List (Option Er) := l.foldl (fun rs c => rs.set c none) rs
theorem drops_snoc (rs : List (Option Er)) (l : List Nat) (c : Nat) : drops rs (l ++ [c]) = (drops rs l).set c none := by simp [drops]
theorem drops_len : ∀ (l : List Nat) (rs : List (Option Er)), (drops rs l).length = rs.length
  | [], _ => rfl
  | c :: l, rs => by show (drops (rs.set c none) l).length = _; rw [drops_len l]; simp
theorem drops_other : ∀ (l : List Nat) (rs : List (Option Er)) (c : Nat), c ∉ l → (drops rs l)[c]? = rs[c]?
  | [], _, _, _ => rfl
  | d :: l, rs, c, h => by
    show (drops (rs.set d none) l)[c]? = _
    rw [drops_other l _ c (fun e => h (List.mem_cons_of_mem _ e)), List.getElem?_set_ne (fun e => h (by rw [e]; exact List.mem_cons_self))]
theorem drops_gone : ∀ (l : List Nat) (rs : List (Option Er)) (c : Nat), c ∈ l → c < rs.length → (drops rs l)[c]? = some none
  | d :: l, rs, c, h, hc => by
    show (drops (rs.set d none) l)[c]? = _
    by_cases e : c ∈ l
    · exact drops_gone l _ c e (by simpa using hc)
    · rw [drops_other l _ c e]
      rcases List.mem_cons.1 h with rfl | h
      · rw [List.getElem?_set_self hc]
      · exact absurd h e
section
variable (w : World) (F : Nat → Prop) (T : Nat) (rs : List (Option Er)) (last : Int)
set_option maxHeartbeats 800000 in
theorem destroyNone_any (h : Et w F T rs last) (e : Int) (hn : look rs e = none) : Calls Try.prog 19 #[.pointer (some ⟨T, 0, none⟩), .int .i64 e] w fun x w' => x = .returned (.tuple #[.slice none 0 0, .int .i64 90]) ∧ w' = w := by
  obtain ⟨S, G, m, h⟩ := h
  have c0 := h.cell.1
  have HG := hide (getL_any _ G S m h.tab e)
  rcases h.cases e with ⟨h1, _⟩ | ⟨k', b, r', e1, hm, h3, h4, h5, hR⟩
  · rw [h1] at HG
    simp only [ptr, Option.isSome_none] at HG
    clear h h1
    go_enter Try.func19, Try.ntmps19
    go_wp2_with fail
    refine HG.out.mono ?_
    rintro e1 w1 ⟨rfl, rfl⟩
    go_wp2
    go_ret2
    exact ⟨rfl, rfl⟩
  · rw [hn] at h5; cases h5
set_option maxHeartbeats 800000 in
theorem destroyZero_any (h : Et w F T rs last) (r : Er) (hr : rs[0]? = some (some r)) : Calls Try.prog 19 #[.pointer (some ⟨T, 0, none⟩), .int .i64 0] w fun x w' => x = .returned (.tuple #[.slice none 0 0, .int .i64 92]) ∧ w' = w := by
  obtain ⟨S, G, m, h⟩ := h
  have c0 := h.cell.1
  have HG := hide (getL_any _ G S m h.tab ((0 : Nat) : Int))
  rcases h.cases ((0 : Nat) : Int) with ⟨_, h1⟩ | ⟨k', b, r', e1, hm, h3, h4, h5, hR⟩
  · rw [look_nat, hr] at h1; cases h1
  · rw [h4] at HG
    simp only [ptr, Option.isSome_some] at HG
    clear h h4 h5 hR
    go_enter Try.func19, Try.ntmps19
    go_wp2_with fail
    refine HG.out.mono ?_
    rintro e1 w1 ⟨rfl, rfl⟩
    go_wp2
    go_ret2
    exact ⟨rfl, rfl⟩
end
end Go.Proofs.Ytoddadohmnaolaa
