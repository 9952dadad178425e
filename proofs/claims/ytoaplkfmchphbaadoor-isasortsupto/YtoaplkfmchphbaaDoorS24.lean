import Derived.Deep.QuietTactic
import Derived.Test.YtoaplkfmchphbaaDoorS18
import Derived.Test.YtoaplkfmchphbaaDoorS23
namespace Go.Proofs.YtoaplkfmchphbaaDoor
open Go.RowKit
/-- a piece of a text -/
def pc (t : Tx) (a b : Nat) : Tx := (t.drop a).take (b - a)
theorem pc_no {t : Tx} {a b : Nat} (h : ∀ j (hj : j < t.length), a ≤ j → j < b → (t[j] == (10 : UInt8)) = false) : ∀ c ∈ pc t a b, (c == (10 : UInt8)) = false := by
  intro c hc
  obtain ⟨j, hj, rfl⟩ := List.mem_iff_getElem.1 hc
  simp only [pc, List.length_take, List.length_drop] at hj
  simp only [pc, List.getElem_take, List.getElem_drop]
  exact h (a + j) (by omega) (by omega) (by omega)
/-- at a line's end -/
theorem split_at {t : Tx} {a b : Nat} (hab : a ≤ b) (hb : b < t.length) (h : ∀ j (hj : j < t.length), a ≤ j → j < b → (t[j] == (10 : UInt8)) = false) (hm : t[b] = 10) : splitT 10 (t.drop a) = pc t a b :: splitT 10 (t.drop (b + 1)) := by
  have e : t.drop a = pc t a b ++ 10 :: t.drop (b + 1) := by
    rw [← hm, ← List.drop_eq_getElem_cons hb]
    unfold pc
    have := List.take_append_drop (b - a) (t.drop a)
    rw [List.drop_drop, show a + (b - a) = b by omega] at this
    exact this.symm
  rw [e, split_mark 10 _ _ (pc_no h)]
/-- at the text's end -/
theorem split_last {t : Tx} {a : Nat} (h : ∀ j (hj : j < t.length), a ≤ j → j < t.length → (t[j] == (10 : UInt8)) = false) : splitT 10 (t.drop a) = [pc t a t.length] := by
  have e : t.drop a = pc t a t.length := by unfold pc; rw [List.take_of_length_le (by simp)]
  rw [e, split_end 10 _ (pc_no h)]
theorem jl_snoc (x : Tx) : ∀ xs : List Tx, jl (xs ++ [x]) = xs.flatMap (· ++ [10]) ++ x
  | [] => by simp [jl]
  | [y] => by simp [jl]
  | y :: z :: r => by
    have ih := jl_snoc x (z :: r)
    rw [show jl (y :: z :: r ++ [x]) = y ++ 10 :: jl (z :: r ++ [x]) from rfl, ih]
    simp
theorem bl_no10 {c : UInt8} (h : bl c = true) : (c == (10 : UInt8)) = false := by
  have h1 : c ∈ ([32, 9] : Tx) := List.contains_iff_mem.1 h
  have h2 : ∀ x ∈ ([32, 9] : Tx), (x == (10 : UInt8)) = false := by decide
  exact h2 c h1
/-- a line with its blanks and its remark bears no line's end -/
theorem dec_no {b s b' r : Tx} (h : ∀ c ∈ b, bl c = true) (hs : ∀ c ∈ s, (c == (10 : UInt8)) = false) (h' : ∀ c ∈ b', bl c = true) (hr : ∀ c ∈ r, (c == (10 : UInt8)) = false) : ∀ c ∈ b ++ s ++ b' ++ r, (c == (10 : UInt8)) = false := by
  intro c hc
  simp only [List.mem_append] at hc
  rcases hc with ((hc | hc) | hc) | hc
  · exact bl_no10 (h c hc)
  · exact hs c hc
  · exact bl_no10 (h' c hc)
  · exact hr c hc
/-- a round at a line's end -/
theorem step_mid {t : Tx} {xs : List Tx} {a b : Nat} {p q r : Tx} (hab : a ≤ b) (hb : b < t.length) (hn : ∀ j (hj : j < t.length), a ≤ j → j < b → (t[j] == (10 : UInt8)) = false) (hm : t[b] = 10) (hp : ∀ c ∈ p, bl c = true) (hq : ∀ c ∈ q, bl c = true) (hr : isRem r = true)
    (h : xs.map lineT ++ (splitT 10 (t.drop a)).map lineT = linesT t) : (xs ++ [p ++ pc t a b ++ q ++ r]).map lineT ++ (splitT 10 (t.drop (b + 1))).map lineT = linesT t := by
  rw [← h, split_at hab hb hn hm, List.map_append, List.map_cons, List.map_nil, line_blanks hp hq hr]
  simp
/-- the last round -/
theorem step_end {t : Tx} {xs : List Tx} {a : Nat} {p q r : Tx} (hn : ∀ j (hj : j < t.length), a ≤ j → j < t.length → (t[j] == (10 : UInt8)) = false) (hp : ∀ c ∈ p, bl c = true) (hq : ∀ c ∈ q, bl c = true) (hr : isRem r = true)
    (h : xs.map lineT ++ (splitT 10 (t.drop a)).map lineT = linesT t) : (xs ++ [p ++ pc t a t.length ++ q ++ r]).map lineT = linesT t := by
  rw [← h, split_last hn, List.map_append, List.map_cons, List.map_nil, line_blanks hp hq hr]
  simp
end Go.Proofs.YtoaplkfmchphbaaDoor

namespace Go.Proofs.YtoaplkfmchphbaaDoor
open Go.RowKit
/-- a region that draws its order, none of whose steps turns an old block: one walk, in the order of the text -/
theorem region_below {P : Program} {id : Nat} {Q : Exit → Act → World → Prop} {a : Act} {w : World} {l : List Oper} (hm : P.follows .mixedOrders = true) (hB : Region.lexB .any l.toArray = true)
    (h : wpQuiet P l.toArray (fun w' => Below w.heap.size w w') (fun a' => ∀ w', Below w.heap.size w w' → Q .normal a' w') l a) : (Code.region id l.toArray true).wp P Q a w :=
  wp_region_quiet (C := fun w' => Below w.heap.size w w') hm hB (Below.refl _ _).drew (by simpa using h)
/-- a call there -/
theorem calls_below {P : Program} {f : FuncId} {args : Array Value} {w w' : World} {v : Value} (hw : Below w.heap.size w w') (h : Calls P f args w' fun e w'' => e = .returned v ∧ Below w'.heap.size w' w'') :
    Calls P f args w' fun e w'' => e = .returned v ∧ Below w.heap.size w w'' :=
  h.mono fun _ _ ⟨he, hm⟩ => ⟨he, hw.trans (hm.mono hw.size)⟩
/-- numbers in a row -/
def Sd (W : World) (ao : Option Addr) (ks : List Int) : Prop := ∀ j (h : j < ks.length), ∃ a : Addr, ao = some a ∧ W.cell? (a.add j) = some (.int .i64 ks[j])
theorem Sd.below {W W' : World} {ao : Option Addr} {ks : List Int} (h : Sd W ao ks) (hb : Below W.heap.size W W') : Sd W' ao ks := fun j hj => by
  obtain ⟨a, h1, h2⟩ := h j hj
  exact ⟨a, h1, by rw [hb.cell (addr_lt h2)]; exact h2⟩
set_option maxRecDepth 100000 in
set_option maxHeartbeats 1000000 in
theorem blank_all (n : Int) : ∃ b : Tx, (∀ c ∈ b, bl c = true) ∧ b.length ≤ 4 ∧ ∀ w, Calls Tryd.prog 13 #[.int .i64 n] w fun e w' => e = .returned (.string ⟨b.toArray⟩) ∧ Below w.heap.size w w' := by
  rcases rem5 n with hq | hq | hq | hq | hq
  · refine ⟨[], by simp, by simp, fun w => ?_⟩
    go_enter Tryd.func13, Tryd.ntmps13
    go_wp2
    go_ret
    exact ⟨rfl, bel1 _ _⟩
  · refine ⟨[32], by decide, by simp, fun w => ?_⟩
    go_enter Tryd.func13, Tryd.ntmps13
    go_wp2
    go_ret
    exact ⟨rfl, bel1 _ _⟩
  · refine ⟨[9], by decide, by simp, fun w => ?_⟩
    go_enter Tryd.func13, Tryd.ntmps13
    go_wp2
    go_ret
    exact ⟨rfl, bel1 _ _⟩
  · refine ⟨[32, 9, 32, 32], by decide, by simp, fun w => ?_⟩
    go_enter Tryd.func13, Tryd.ntmps13
    go_wp2
    go_ret
    exact ⟨rfl, bel1 _ _⟩
  · refine ⟨[32, 32], by decide, by simp, fun w => ?_⟩
    go_enter Tryd.func13, Tryd.ntmps13
    go_wp2
    go_ret
    exact ⟨rfl, bel1 _ _⟩
set_option maxRecDepth 100000 in
set_option maxHeartbeats 1000000 in
theorem remark_all (n : Int) : ∃ b : Tx, isRem b = true ∧ (∀ c ∈ b, (c == (10 : UInt8)) = false) ∧ b.length ≤ 10 ∧ ∀ w, Calls Tryd.prog 14 #[.int .i64 n] w fun e w' => e = .returned (.string ⟨b.toArray⟩) ∧ Below w.heap.size w w' := by
  rcases rem5 n with hq | hq | hq | hq | hq
  · refine ⟨[], rfl, by simp, by simp, fun w => ?_⟩
    go_enter Tryd.func14, Tryd.ntmps14
    go_wp2
    go_ret
    exact ⟨rfl, bel1 _ _⟩
  · refine ⟨[59], rfl, by decide, by simp, fun w => ?_⟩
    go_enter Tryd.func14, Tryd.ntmps14
    go_wp2
    go_ret
    exact ⟨rfl, bel1 _ _⟩
  · refine ⟨[59, 32, 110, 111, 112], rfl, by decide, by simp, fun w => ?_⟩
    go_enter Tryd.func14, Tryd.ntmps14
    go_wp2
    go_ret
    exact ⟨rfl, bel1 _ _⟩
  · refine ⟨[59, 59, 58, 32, 97, 44, 32, 98, 0, 255], rfl, by decide, by simp, fun w => ?_⟩
    go_enter Tryd.func14, Tryd.ntmps14
    go_wp2
    go_ret
    exact ⟨rfl, bel1 _ _⟩
  · refine ⟨[59, 46, 119, 111, 114, 100, 32, 49], rfl, by decide, by simp, fun w => ?_⟩
    go_enter Tryd.func14, Tryd.ntmps14
    go_wp2
    go_ret
    exact ⟨rfl, bel1 _ _⟩
/-- the loop's state: lines 'xs' are laid, the place is 'n', the open line began at 'f' -/
def Bk (t M : Tx) (f n : Nat) (xs : List Tx) : Prop := M.length ≤ 16383 ∧ (∀ x ∈ xs, ∀ c ∈ x, (c == (10 : UInt8)) = false) ∧
  ((n ≤ t.length ∧ f ≤ n ∧ f ≤ M.length ∧ (∀ j (hj : j < t.length), f ≤ j → j < n → (t[j] == (10 : UInt8)) = false) ∧ M = xs.flatMap (· ++ [10]) ∧ xs.map lineT ++ (splitT 10 (t.drop f)).map lineT = linesT t)
   ∨ (n = t.length + 1 ∧ t.length ≤ M.length ∧ M = jl xs ∧ xs.map lineT = linesT t))
theorem pc_len {t : Tx} {a b : Nat} (h : a ≤ b) (hb : b ≤ t.length) : (pc t a b).length = b - a := by
  simp [pc]; omega
theorem Bk.start (t : Tx) : Bk t [] 0 0 [] := ⟨by simp, by simp, .inl ⟨by omega, by omega, by simp, fun _ _ _ h => by omega, rfl, by simp [linesT]⟩⟩
/-- no line's end -/
theorem Bk.on {t M : Tx} {f n : Nat} {xs : List Tx} (h : Bk t M f n xs) (hn : n < t.length) (hc : (t[n] == (10 : UInt8)) = false) : Bk t M f (n + 1) xs := by
  obtain ⟨h1, h2, ⟨h3, h4, h5, h6, h7, h8⟩ | ⟨h3, _⟩⟩ := h
  · refine ⟨h1, h2, .inl ⟨by omega, by omega, h5, fun j hj a b => ?_, h7, h8⟩⟩
    by_cases e : j = n
    · subst e; exact hc
    · exact h6 j hj a (by omega)
  · omega
/-- a line's end -/
theorem Bk.line {t M : Tx} {f n : Nat} {xs : List Tx} (h : Bk t M f n xs) (hn : n < t.length) (hc : t[n] = 10) {p q r : Tx} (hp : ∀ c ∈ p, bl c = true) (hq : ∀ c ∈ q, bl c = true) (hr : isRem r = true) (hr' : ∀ c ∈ r, (c == (10 : UInt8)) = false)
    (hl : (M ++ p ++ pc t f n ++ q ++ r ++ [10]).length ≤ 16383) : Bk t (M ++ p ++ pc t f n ++ q ++ r ++ [10]) (n + 1) (n + 1) (xs ++ [p ++ pc t f n ++ q ++ r]) := by
  obtain ⟨h1, h2, ⟨h3, h4, h5, h6, h7, h8⟩ | ⟨h3, _⟩⟩ := h
  · refine ⟨hl, fun x hx => ?_, .inl ⟨by omega, by omega, ?_, fun j hj a b => by omega, ?_, step_mid h4 hn h6 hc hp hq hr h8⟩⟩
    · rcases List.mem_append.1 hx with hx | hx
      · exact h2 x hx
      · obtain rfl := List.mem_singleton.1 hx
        exact dec_no hp (pc_no h6) hq hr'
    · have := pc_len h4 h3
      simp only [List.length_append, List.length_cons, List.length_nil]
      omega
    · rw [h7]; simp
  · omega
/-- the text's end -/
theorem Bk.last {t M : Tx} {f : Nat} {xs : List Tx} (h : Bk t M f t.length xs) {p q r : Tx} (hp : ∀ c ∈ p, bl c = true) (hq : ∀ c ∈ q, bl c = true) (hr : isRem r = true) (hr' : ∀ c ∈ r, (c == (10 : UInt8)) = false)
    (hl : (M ++ p ++ pc t f t.length ++ q ++ r).length ≤ 16383) : Bk t (M ++ p ++ pc t f t.length ++ q ++ r) (t.length + 1) (t.length + 1) (xs ++ [p ++ pc t f t.length ++ q ++ r]) := by
  obtain ⟨h1, h2, ⟨h3, h4, h5, h6, h7, h8⟩ | ⟨h3, _⟩⟩ := h
  · refine ⟨hl, fun x hx => ?_, .inr ⟨rfl, ?_, ?_, step_end h6 hp hq hr h8⟩⟩
    · rcases List.mem_append.1 hx with hx | hx
      · exact h2 x hx
      · obtain rfl := List.mem_singleton.1 hx
        exact dec_no hp (pc_no h6) hq hr'
    · have := pc_len h4 h3
      simp only [List.length_append]
      omega
    · rw [jl_snoc, h7]; simp
  · omega
end Go.Proofs.YtoaplkfmchphbaaDoor

namespace Go.Proofs.YtoaplkfmchphbaaDoor
open Go.RowKit
theorem asmL_len (ps : List (Tx × (Nat × Int))) : ∀ (ls : List Ln) (k : Nat) (ws : List Nat), ws.length ≤ 512 → (asmL ps ls k ws).1.length ≤ 512 ∧ (asmL ps ls k ws).2.1 ≤ k + ls.length
  | [], k, ws, h => ⟨h, by simp [asmL]⟩
  | l :: r, k, ws, h => by
    rw [asmL]
    by_cases e : fltT ps l k ws.length = 0
    · rw [if_pos e]
      have h1 := flt_room e
      have h2 := asmL_len ps r (k + 1) (ws ++ List.replicate l.words.toNat (wrdT ps l ws.length)) (by simp; omega)
      exact ⟨h2.1, by simp only [List.length_cons]; omega⟩
    · rw [if_neg e]
      exact ⟨by simp, by simp⟩
theorem asm_both (s : Tx) : (asmT s).1.length ≤ 512 ∧ (asmT s).2.1 ≤ 1048576 := by
  unfold asmT
  split
  · simp
  · have h := asmL_len (lbs (linesT s) (linesT s).length) (linesT s) 0 [] (by simp)
    have hc := split_count 10 s
    have hl : (linesT s).length = (splitT 10 s).length := by simp [linesT]
    exact ⟨h.1, by omega⟩
theorem asm_len (s : Tx) : (asmT s).1.length ≤ 512 := (asm_both s).1
theorem asm_line (s : Tx) : (asmT s).2.1 ≤ 1048576 := (asm_both s).2
theorem cat_eq {a b c : Tx} (h : a ++ b = c) : (⟨a.toArray⟩ : ByteArray) ++ ⟨b.toArray⟩ = ⟨c.toArray⟩ := ByteArray.ext (by subst h; simp [ByteArray.data_append])
theorem blanks_of : ∃ B R : Int → Tx, ∀ n, ((∀ c ∈ B n, bl c = true) ∧ (B n).length ≤ 4 ∧ ∀ w, Calls Tryd.prog 13 #[.int .i64 n] w fun e w' => e = .returned (.string ⟨(B n).toArray⟩) ∧ Below w.heap.size w w') ∧
    (isRem (R n) = true ∧ (∀ c ∈ R n, (c == (10 : UInt8)) = false) ∧ (R n).length ≤ 10 ∧ ∀ w, Calls Tryd.prog 14 #[.int .i64 n] w fun e w' => e = .returned (.string ⟨(R n).toArray⟩) ∧ Below w.heap.size w w') :=
  ⟨fun n => (blank_all n).choose, fun n => (remark_all n).choose, fun n => ⟨(blank_all n).choose_spec, (remark_all n).choose_spec⟩⟩
section
variable (w : World)
set_option maxRecDepth 100000 in
set_option maxHeartbeats 2000000 in
theorem blanks_walk (t : Tx) (ao : Option Addr) (cap : Nat) (ks : List Int) (ht : t.length ≤ 140737488351232) (hk : ks.length ≤ 140737488351232) (hS : Sd w ao ks) (hO : Ops w) : Calls Tryd.prog 4 #[.string ⟨t.toArray⟩, .slice ao ks.length cap] w fun e w' => e = .returned (.bool true) ∧ Below w.heap.size w w' := by
  obtain ⟨B, R, hBR⟩ := blanks_of
  have HBR := hide hBR
  have HO := hide hO
  have HS := hide hS
  clear hO hS hBR
  go_enter Tryd.func4, Tryd.ntmps4
  go_wp2_with fail
  refine (known_any _ HO.out).mono ?_
  rintro e w1 ⟨rfl, hb⟩
  have HB1 := hide hb
  clear hb
  go_upto_region 7 with fail
  go_loopw [5, 6, 7, 8] (fun m k f i wr => ∃ (M : Tx) (kn fn n : Nat) (xs : List Tx), m = .string ⟨(10 :: M).toArray⟩ ∧ k = .int .i64 (kn : Int) ∧ f = .int .i64 (fn : Int) ∧ i = .int .i64 (n : Int) ∧ n ≤ t.length + 1 ∧ kn ≤ n ∧ Bk t M fn n xs ∧ Below w.heap.size w wr) (fun _ _ _ i _ => t.length + 1 - (intOf i).toNat)
  case atStart => exact ⟨[], 0, 0, 0, [], rfl, rfl, rfl, rfl, by omega, by omega, Bk.start t, HB1.out⟩
  case round =>
  obtain ⟨M, kn, fn, n, xs, rfl, rfl, rfl, rfl, hn, hkn, hBk, hB⟩ := hrel
  have HK := hide hBk
  have HB := hide hB
  clear hB hBk HB1
  by_cases hle : n ≤ t.length
  · by_cases hlt : n < t.length
    · obtain ⟨c, hc⟩ : ∃ c, t[n] = c := ⟨_, rfl⟩
      have hg : (⟨t.toArray⟩ : ByteArray)[n]'hlt = c := hc
      by_cases h10 : c = 10
      · subst h10
        have h1 : (n : Int) ≤ (t.length : Int) := by omega
        have h2 : (n : Int) < (t.length : Int) := by omega
        have hf : fn ≤ n := by
          rcases HK.out.2.2 with h | h
          · exact h.2.1
          · omega
        have hfI : (fn : Int) ≤ (n : Int) := by omega
        have e1 : (⟨t.toArray⟩ : ByteArray).extract fn n = ⟨(pc t fn n).toArray⟩ := by rw [ext_mk, List.drop_take]; rfl
        by_cases hks : 0 < ks.length
        · obtain ⟨a, rfl, hc0⟩ := (HS.out.below HB.out) (kn % ks.length) (Nat.mod_lt _ hks)
          obtain ⟨z, hz⟩ : ∃ z, ks[kn % ks.length]'(Nat.mod_lt _ hks) = z := ⟨_, rfl⟩
          rw [hz] at hc0
          have hksI : (0 : Int) < (ks.length : Int) := by omega
          have hks0 : ¬ (ks.length : Int) = 0 := by omega
          have hq := Nat.mod_lt kn hks
          have hqe : (kn : Int).tmod (ks.length : Int) = ((kn % ks.length : Nat) : Int) := by rw [Int.tmod_eq_emod_of_nonneg (by omega)]; simp
          clear hz
          generalize kn % ks.length = q at *
          generalize ks.length = kl at *
          have hqI : (q : Int) < (kl : Int) := by omega
          go_upto_region 14 with fail
          obtain ⟨Y1, hY1⟩ : ∃ Y, (10 :: M) ++ B z = Y := ⟨_, rfl⟩
          obtain ⟨Y2, hY2⟩ : ∃ Y, Y1 ++ pc t fn n = Y := ⟨_, rfl⟩
          obtain ⟨Y3, hY3⟩ : ∃ Y, Y2 ++ B (IntKind.i64.wrap (z.tdiv 5)) = Y := ⟨_, rfl⟩
          obtain ⟨Y4, hY4⟩ : ∃ Y, Y3 ++ R (IntKind.i64.wrap (z.tdiv 25)) = Y := ⟨_, rfl⟩
          have b1 := (HBR.out z).1.2.1
          have b2 := (HBR.out (IntKind.i64.wrap (z.tdiv 5))).1.2.1
          have b3 := (HBR.out (IntKind.i64.wrap (z.tdiv 25))).2.2.2.1
          have b4 := pc_len hf hle
          have hM := HK.out.1
          have l1 : Y1.length = M.length + 1 + (B z).length := by rw [← hY1, List.length_append, List.length_cons]
          have l2 : Y2.length = Y1.length + (n - fn) := by rw [← hY2, List.length_append, b4]
          have l3 : Y3.length = Y2.length + (B (IntKind.i64.wrap (z.tdiv 5))).length := by rw [← hY3, List.length_append]
          have l4 : Y4.length = Y3.length + (R (IntKind.i64.wrap (z.tdiv 25))).length := by rw [← hY4, List.length_append]
          refine region_below (by kernel_rfl) (by kernel_rfl) ?_
          iterate 2 (refine wpQuiet_step (fun K hK => ?_); go_simp; refine ⟨_, fun _ _ => rfl, hK _ ?_⟩; clear hK K)
          refine wpQuiet_step (fun K hK => ?_)
          go_simp
          refine ⟨.string ⟨(B z).toArray⟩, fun w' hw' => calls_below hw' ((HBR.out z).1.2.2 w'), hK _ ?_⟩
          clear hK K
          refine wpQuiet_step (fun K hK => ?_)
          go_simp
          refine ⟨.string ⟨Y1.toArray⟩, fun w' hw' => ?_, hK _ ?_⟩
          · rw [if_neg (by omega)]; exact ⟨rfl, congrArg Value.string (cat_eq hY1)⟩
          clear hK K
          iterate 4 (refine wpQuiet_step (fun K hK => ?_); go_simp; refine ⟨_, fun _ _ => rfl, hK _ ?_⟩; clear hK K)
          refine wpQuiet_step (fun K hK => ?_)
          go_simp
          refine ⟨.string ⟨Y2.toArray⟩, fun w' hw' => ?_, hK _ ?_⟩
          · rw [if_neg (by omega)]; exact ⟨rfl, congrArg Value.string (cat_eq hY2)⟩
          clear hK K
          iterate 2 (refine wpQuiet_step (fun K hK => ?_); go_simp; refine ⟨_, fun _ _ => rfl, hK _ ?_⟩; clear hK K)
          refine wpQuiet_step (fun K hK => ?_)
          go_simp
          refine ⟨.string ⟨(B (IntKind.i64.wrap (z.tdiv 5))).toArray⟩, fun w' hw' => calls_below hw' ((HBR.out (IntKind.i64.wrap (z.tdiv 5))).1.2.2 w'), hK _ ?_⟩
          clear hK K
          refine wpQuiet_step (fun K hK => ?_)
          go_simp
          refine ⟨.string ⟨Y3.toArray⟩, fun w' hw' => ?_, hK _ ?_⟩
          · rw [if_neg (by omega)]; exact ⟨rfl, congrArg Value.string (cat_eq hY3)⟩
          clear hK K
          iterate 2 (refine wpQuiet_step (fun K hK => ?_); go_simp; refine ⟨_, fun _ _ => rfl, hK _ ?_⟩; clear hK K)
          refine wpQuiet_step (fun K hK => ?_)
          go_simp
          refine ⟨.string ⟨(R (IntKind.i64.wrap (z.tdiv 25))).toArray⟩, fun w' hw' => calls_below hw' ((HBR.out (IntKind.i64.wrap (z.tdiv 25))).2.2.2.2 w'), hK _ ?_⟩
          clear hK K
          refine wpQuiet_step (fun K hK => ?_)
          go_simp
          refine ⟨.string ⟨Y4.toArray⟩, fun w' hw' => ?_, hK _ ?_⟩
          · rw [if_neg (by omega)]; exact ⟨rfl, congrArg Value.string (cat_eq hY4)⟩
          clear hK K
          refine wpQuiet_step (fun K hK => ?_); go_simp; refine ⟨_, fun _ _ => rfl, hK _ ?_⟩; clear hK K
          refine wpQuiet_nil ?_
          intro w' hw'
          have HB2 := hide (HB.out.trans (hw'.mono HB.out.size))
          clear hw' HB
          obtain ⟨Y5, hY5⟩ : ∃ Y, Y4 ++ [10] = Y := ⟨_, rfl⟩
          have l5 : Y5.length = Y4.length + 1 := by rw [← hY5, List.length_append]; rfl
          have l6 : ¬ 9223372036854775807 < Y4.length + 1 := by omega
          have c5 : (⟨Y4.toArray⟩ : ByteArray) ++ ⟨#[10]⟩ = ⟨Y5.toArray⟩ := cat_eq hY5
          have HY : Hid (Y5 = 10 :: (M ++ B z ++ pc t fn n ++ B (IntKind.i64.wrap (z.tdiv 5)) ++ R (IntKind.i64.wrap (z.tdiv 25)) ++ [10])) := hide (by rw [← hY5, ← hY4, ← hY3, ← hY2, ← hY1]; simp)
          by_cases hbig : 16384 < Y5.length
          · have hbI : (16384 : Int) < (Y5.length : Int) := by omega
            clear HK HBR HS HO hY1 hY2 hY3 hY4 HY l1 l2 l3 l4 l5 hY5 b1 b2 b3 b4 e1
            go_wp2
            (try rw [Exit.noGoto_ret])
            go_ret
            exact ⟨rfl, HB2.out⟩
          · have hbI : ¬ (16384 : Int) < (Y5.length : Int) := by omega
            have HK2 := hide (HK.out.line hlt hc (HBR.out z).1.1 (HBR.out (IntKind.i64.wrap (z.tdiv 5))).1.1 (HBR.out (IntKind.i64.wrap (z.tdiv 25))).2.1 (HBR.out (IntKind.i64.wrap (z.tdiv 25))).2.2.1 (by
              have := congrArg List.length HY.out
              rw [List.length_cons] at this
              omega))
            clear HK HBR HS HO hY1 hY2 hY3 hY4 l1 l2 l3 l4 l5 hY5 b1 b2 b3 b4 e1
            go_wp2
            refine ⟨⟨_, kn + 1, n + 1, n + 1, _, by rw [HY.out], by simp, by simp, by simp, by omega, by omega, HK2.out, HB2.out⟩, ?_⟩
            simp [intOf] <;> omega
        · have hksI : ¬ (0 : Int) < (ks.length : Int) := by omega
          clear hk
          generalize ks.length = kl at *
          go_upto_region 14 with fail
          obtain ⟨Y1, hY1⟩ : ∃ Y, (10 :: M) ++ B 0 = Y := ⟨_, rfl⟩
          obtain ⟨Y2, hY2⟩ : ∃ Y, Y1 ++ pc t fn n = Y := ⟨_, rfl⟩
          obtain ⟨Y3, hY3⟩ : ∃ Y, Y2 ++ B 0 = Y := ⟨_, rfl⟩
          obtain ⟨Y4, hY4⟩ : ∃ Y, Y3 ++ R 0 = Y := ⟨_, rfl⟩
          have b1 := (HBR.out 0).1.2.1
          have b2 := (HBR.out 0).1.2.1
          have b3 := (HBR.out 0).2.2.2.1
          have b4 := pc_len hf hle
          have hM := HK.out.1
          have l1 : Y1.length = M.length + 1 + (B 0).length := by rw [← hY1, List.length_append, List.length_cons]
          have l2 : Y2.length = Y1.length + (n - fn) := by rw [← hY2, List.length_append, b4]
          have l3 : Y3.length = Y2.length + (B 0).length := by rw [← hY3, List.length_append]
          have l4 : Y4.length = Y3.length + (R 0).length := by rw [← hY4, List.length_append]
          refine region_below (by kernel_rfl) (by kernel_rfl) ?_
          iterate 2 (refine wpQuiet_step (fun K hK => ?_); go_simp; refine ⟨_, fun _ _ => rfl, hK _ ?_⟩; clear hK K)
          refine wpQuiet_step (fun K hK => ?_)
          go_simp
          refine ⟨.string ⟨(B 0).toArray⟩, fun w' hw' => calls_below hw' ((HBR.out 0).1.2.2 w'), hK _ ?_⟩
          clear hK K
          refine wpQuiet_step (fun K hK => ?_)
          go_simp
          refine ⟨.string ⟨Y1.toArray⟩, fun w' hw' => ?_, hK _ ?_⟩
          · rw [if_neg (by omega)]; exact ⟨rfl, congrArg Value.string (cat_eq hY1)⟩
          clear hK K
          iterate 4 (refine wpQuiet_step (fun K hK => ?_); go_simp; refine ⟨_, fun _ _ => rfl, hK _ ?_⟩; clear hK K)
          refine wpQuiet_step (fun K hK => ?_)
          go_simp
          refine ⟨.string ⟨Y2.toArray⟩, fun w' hw' => ?_, hK _ ?_⟩
          · rw [if_neg (by omega)]; exact ⟨rfl, congrArg Value.string (cat_eq hY2)⟩
          clear hK K
          iterate 2 (refine wpQuiet_step (fun K hK => ?_); go_simp; refine ⟨_, fun _ _ => rfl, hK _ ?_⟩; clear hK K)
          refine wpQuiet_step (fun K hK => ?_)
          go_simp
          refine ⟨.string ⟨(B 0).toArray⟩, fun w' hw' => calls_below hw' ((HBR.out 0).1.2.2 w'), hK _ ?_⟩
          clear hK K
          refine wpQuiet_step (fun K hK => ?_)
          go_simp
          refine ⟨.string ⟨Y3.toArray⟩, fun w' hw' => ?_, hK _ ?_⟩
          · rw [if_neg (by omega)]; exact ⟨rfl, congrArg Value.string (cat_eq hY3)⟩
          clear hK K
          iterate 2 (refine wpQuiet_step (fun K hK => ?_); go_simp; refine ⟨_, fun _ _ => rfl, hK _ ?_⟩; clear hK K)
          refine wpQuiet_step (fun K hK => ?_)
          go_simp
          refine ⟨.string ⟨(R 0).toArray⟩, fun w' hw' => calls_below hw' ((HBR.out 0).2.2.2.2 w'), hK _ ?_⟩
          clear hK K
          refine wpQuiet_step (fun K hK => ?_)
          go_simp
          refine ⟨.string ⟨Y4.toArray⟩, fun w' hw' => ?_, hK _ ?_⟩
          · rw [if_neg (by omega)]; exact ⟨rfl, congrArg Value.string (cat_eq hY4)⟩
          clear hK K
          refine wpQuiet_step (fun K hK => ?_); go_simp; refine ⟨_, fun _ _ => rfl, hK _ ?_⟩; clear hK K
          refine wpQuiet_nil ?_
          intro w' hw'
          have HB2 := hide (HB.out.trans (hw'.mono HB.out.size))
          clear hw' HB
          obtain ⟨Y5, hY5⟩ : ∃ Y, Y4 ++ [10] = Y := ⟨_, rfl⟩
          have l5 : Y5.length = Y4.length + 1 := by rw [← hY5, List.length_append]; rfl
          have l6 : ¬ 9223372036854775807 < Y4.length + 1 := by omega
          have c5 : (⟨Y4.toArray⟩ : ByteArray) ++ ⟨#[10]⟩ = ⟨Y5.toArray⟩ := cat_eq hY5
          have HY : Hid (Y5 = 10 :: (M ++ B 0 ++ pc t fn n ++ B 0 ++ R 0 ++ [10])) := hide (by rw [← hY5, ← hY4, ← hY3, ← hY2, ← hY1]; simp)
          by_cases hbig : 16384 < Y5.length
          · have hbI : (16384 : Int) < (Y5.length : Int) := by omega
            clear HK HBR HS HO hY1 hY2 hY3 hY4 HY l1 l2 l3 l4 l5 hY5 b1 b2 b3 b4 e1
            go_wp2
            (try rw [Exit.noGoto_ret])
            go_ret
            exact ⟨rfl, HB2.out⟩
          · have hbI : ¬ (16384 : Int) < (Y5.length : Int) := by omega
            have HK2 := hide (HK.out.line hlt hc (HBR.out 0).1.1 (HBR.out 0).1.1 (HBR.out 0).2.1 (HBR.out 0).2.2.1 (by
              have := congrArg List.length HY.out
              rw [List.length_cons] at this
              omega))
            clear HK HBR HS HO hY1 hY2 hY3 hY4 l1 l2 l3 l4 l5 hY5 b1 b2 b3 b4 e1
            go_wp2
            refine ⟨⟨_, kn, n + 1, n + 1, _, by rw [HY.out], by simp, by simp, by simp, by omega, by omega, HK2.out, HB2.out⟩, ?_⟩
            simp [intOf] <;> omega
      · have h10b : ((c.toNat : Int) == 10) = false := by
          rw [beq_eq_false_iff_ne]
          intro e
          exact h10 (UInt8.toNat_inj.1 (by have : c.toNat = 10 := by omega
                                           rw [this]; rfl))
        have HK2 := hide (HK.out.on hlt (by rw [hc, beq_eq_false_iff_ne]; exact h10))
        clear HK h10
        have h1 : (n : Int) ≤ (t.length : Int) := by omega
        have h2 : (n : Int) < (t.length : Int) := by omega
        go_wp2
        refine ⟨⟨M, kn, fn, n + 1, xs, rfl, rfl, rfl, by simp, by omega, by omega, HK2.out, HB.out⟩, ?_⟩
        simp [intOf]
        omega
    · obtain rfl : n = t.length := by omega
      have h1 : (t.length : Int) ≤ (t.length : Int) := by omega
      have h2 : ¬ (t.length : Int) < (t.length : Int) := by omega
      have hf : fn ≤ t.length := by
        rcases HK.out.2.2 with h | h
        · exact h.2.1
        · omega
      have hfI : (fn : Int) ≤ (t.length : Int) := by omega
      have e1 : (⟨t.toArray⟩ : ByteArray).extract fn t.length = ⟨(pc t fn t.length).toArray⟩ := by rw [ext_mk, List.drop_take]; rfl
      by_cases hks : 0 < ks.length
      · obtain ⟨a, rfl, hc0⟩ := (HS.out.below HB.out) (kn % ks.length) (Nat.mod_lt _ hks)
        obtain ⟨z, hz⟩ : ∃ z, ks[kn % ks.length]'(Nat.mod_lt _ hks) = z := ⟨_, rfl⟩
        rw [hz] at hc0
        have hksI : (0 : Int) < (ks.length : Int) := by omega
        have hks0 : ¬ (ks.length : Int) = 0 := by omega
        have hq := Nat.mod_lt kn hks
        have hqe : (kn : Int).tmod (ks.length : Int) = ((kn % ks.length : Nat) : Int) := by rw [Int.tmod_eq_emod_of_nonneg (by omega)]; simp
        clear hz
        generalize kn % ks.length = q at *
        generalize ks.length = kl at *
        have hqI : (q : Int) < (kl : Int) := by omega
        go_upto_region 14 with fail
        obtain ⟨Y1, hY1⟩ : ∃ Y, (10 :: M) ++ B z = Y := ⟨_, rfl⟩
        obtain ⟨Y2, hY2⟩ : ∃ Y, Y1 ++ pc t fn t.length = Y := ⟨_, rfl⟩
        obtain ⟨Y3, hY3⟩ : ∃ Y, Y2 ++ B (IntKind.i64.wrap (z.tdiv 5)) = Y := ⟨_, rfl⟩
        obtain ⟨Y4, hY4⟩ : ∃ Y, Y3 ++ R (IntKind.i64.wrap (z.tdiv 25)) = Y := ⟨_, rfl⟩
        have b1 := (HBR.out z).1.2.1
        have b2 := (HBR.out (IntKind.i64.wrap (z.tdiv 5))).1.2.1
        have b3 := (HBR.out (IntKind.i64.wrap (z.tdiv 25))).2.2.2.1
        have b4 := pc_len hf hle
        have hM := HK.out.1
        have l1 : Y1.length = M.length + 1 + (B z).length := by rw [← hY1, List.length_append, List.length_cons]
        have l2 : Y2.length = Y1.length + (t.length - fn) := by rw [← hY2, List.length_append, b4]
        have l3 : Y3.length = Y2.length + (B (IntKind.i64.wrap (z.tdiv 5))).length := by rw [← hY3, List.length_append]
        have l4 : Y4.length = Y3.length + (R (IntKind.i64.wrap (z.tdiv 25))).length := by rw [← hY4, List.length_append]
        refine region_below (by kernel_rfl) (by kernel_rfl) ?_
        iterate 2 (refine wpQuiet_step (fun K hK => ?_); go_simp; refine ⟨_, fun _ _ => rfl, hK _ ?_⟩; clear hK K)
        refine wpQuiet_step (fun K hK => ?_)
        go_simp
        refine ⟨.string ⟨(B z).toArray⟩, fun w' hw' => calls_below hw' ((HBR.out z).1.2.2 w'), hK _ ?_⟩
        clear hK K
        refine wpQuiet_step (fun K hK => ?_)
        go_simp
        refine ⟨.string ⟨Y1.toArray⟩, fun w' hw' => ?_, hK _ ?_⟩
        · rw [if_neg (by omega)]; exact ⟨rfl, congrArg Value.string (cat_eq hY1)⟩
        clear hK K
        iterate 4 (refine wpQuiet_step (fun K hK => ?_); go_simp; refine ⟨_, fun _ _ => rfl, hK _ ?_⟩; clear hK K)
        refine wpQuiet_step (fun K hK => ?_)
        go_simp
        refine ⟨.string ⟨Y2.toArray⟩, fun w' hw' => ?_, hK _ ?_⟩
        · rw [if_neg (by omega)]; exact ⟨rfl, congrArg Value.string (cat_eq hY2)⟩
        clear hK K
        iterate 2 (refine wpQuiet_step (fun K hK => ?_); go_simp; refine ⟨_, fun _ _ => rfl, hK _ ?_⟩; clear hK K)
        refine wpQuiet_step (fun K hK => ?_)
        go_simp
        refine ⟨.string ⟨(B (IntKind.i64.wrap (z.tdiv 5))).toArray⟩, fun w' hw' => calls_below hw' ((HBR.out (IntKind.i64.wrap (z.tdiv 5))).1.2.2 w'), hK _ ?_⟩
        clear hK K
        refine wpQuiet_step (fun K hK => ?_)
        go_simp
        refine ⟨.string ⟨Y3.toArray⟩, fun w' hw' => ?_, hK _ ?_⟩
        · rw [if_neg (by omega)]; exact ⟨rfl, congrArg Value.string (cat_eq hY3)⟩
        clear hK K
        iterate 2 (refine wpQuiet_step (fun K hK => ?_); go_simp; refine ⟨_, fun _ _ => rfl, hK _ ?_⟩; clear hK K)
        refine wpQuiet_step (fun K hK => ?_)
        go_simp
        refine ⟨.string ⟨(R (IntKind.i64.wrap (z.tdiv 25))).toArray⟩, fun w' hw' => calls_below hw' ((HBR.out (IntKind.i64.wrap (z.tdiv 25))).2.2.2.2 w'), hK _ ?_⟩
        clear hK K
        refine wpQuiet_step (fun K hK => ?_)
        go_simp
        refine ⟨.string ⟨Y4.toArray⟩, fun w' hw' => ?_, hK _ ?_⟩
        · rw [if_neg (by omega)]; exact ⟨rfl, congrArg Value.string (cat_eq hY4)⟩
        clear hK K
        refine wpQuiet_step (fun K hK => ?_); go_simp; refine ⟨_, fun _ _ => rfl, hK _ ?_⟩; clear hK K
        refine wpQuiet_nil ?_
        intro w' hw'
        have HB2 := hide (HB.out.trans (hw'.mono HB.out.size))
        clear hw' HB
        have HY : Hid (Y4 = 10 :: (M ++ B z ++ pc t fn t.length ++ B (IntKind.i64.wrap (z.tdiv 5)) ++ R (IntKind.i64.wrap (z.tdiv 25)))) := hide (by rw [← hY4, ← hY3, ← hY2, ← hY1]; simp)
        by_cases hbig : 16384 < Y4.length
        · have hbI : (16384 : Int) < (Y4.length : Int) := by omega
          clear HK HBR HS HO hY1 hY2 hY3 hY4 HY l1 l2 l3 l4 b1 b2 b3 b4 e1
          go_wp2
          (try rw [Exit.noGoto_ret])
          go_ret
          exact ⟨rfl, HB2.out⟩
        · have hbI : ¬ (16384 : Int) < (Y4.length : Int) := by omega
          have HK2 := hide (HK.out.last (HBR.out z).1.1 (HBR.out (IntKind.i64.wrap (z.tdiv 5))).1.1 (HBR.out (IntKind.i64.wrap (z.tdiv 25))).2.1 (HBR.out (IntKind.i64.wrap (z.tdiv 25))).2.2.1 (by
            have := congrArg List.length HY.out
            rw [List.length_cons] at this
            omega))
          clear HK HBR HS HO hY1 hY2 hY3 hY4 l1 l2 l3 l4 b1 b2 b3 b4 e1
          go_wp2
          refine ⟨⟨_, kn + 1, t.length + 1, t.length + 1, _, by rw [HY.out], by simp, by simp, by simp, by omega, by omega, HK2.out, HB2.out⟩, ?_⟩
          simp [intOf] <;> omega
      · have hksI : ¬ (0 : Int) < (ks.length : Int) := by omega
        clear hk
        generalize ks.length = kl at *
        go_upto_region 14 with fail
        obtain ⟨Y1, hY1⟩ : ∃ Y, (10 :: M) ++ B 0 = Y := ⟨_, rfl⟩
        obtain ⟨Y2, hY2⟩ : ∃ Y, Y1 ++ pc t fn t.length = Y := ⟨_, rfl⟩
        obtain ⟨Y3, hY3⟩ : ∃ Y, Y2 ++ B 0 = Y := ⟨_, rfl⟩
        obtain ⟨Y4, hY4⟩ : ∃ Y, Y3 ++ R 0 = Y := ⟨_, rfl⟩
        have b1 := (HBR.out 0).1.2.1
        have b2 := (HBR.out 0).1.2.1
        have b3 := (HBR.out 0).2.2.2.1
        have b4 := pc_len hf hle
        have hM := HK.out.1
        have l1 : Y1.length = M.length + 1 + (B 0).length := by rw [← hY1, List.length_append, List.length_cons]
        have l2 : Y2.length = Y1.length + (t.length - fn) := by rw [← hY2, List.length_append, b4]
        have l3 : Y3.length = Y2.length + (B 0).length := by rw [← hY3, List.length_append]
        have l4 : Y4.length = Y3.length + (R 0).length := by rw [← hY4, List.length_append]
        refine region_below (by kernel_rfl) (by kernel_rfl) ?_
        iterate 2 (refine wpQuiet_step (fun K hK => ?_); go_simp; refine ⟨_, fun _ _ => rfl, hK _ ?_⟩; clear hK K)
        refine wpQuiet_step (fun K hK => ?_)
        go_simp
        refine ⟨.string ⟨(B 0).toArray⟩, fun w' hw' => calls_below hw' ((HBR.out 0).1.2.2 w'), hK _ ?_⟩
        clear hK K
        refine wpQuiet_step (fun K hK => ?_)
        go_simp
        refine ⟨.string ⟨Y1.toArray⟩, fun w' hw' => ?_, hK _ ?_⟩
        · rw [if_neg (by omega)]; exact ⟨rfl, congrArg Value.string (cat_eq hY1)⟩
        clear hK K
        iterate 4 (refine wpQuiet_step (fun K hK => ?_); go_simp; refine ⟨_, fun _ _ => rfl, hK _ ?_⟩; clear hK K)
        refine wpQuiet_step (fun K hK => ?_)
        go_simp
        refine ⟨.string ⟨Y2.toArray⟩, fun w' hw' => ?_, hK _ ?_⟩
        · rw [if_neg (by omega)]; exact ⟨rfl, congrArg Value.string (cat_eq hY2)⟩
        clear hK K
        iterate 2 (refine wpQuiet_step (fun K hK => ?_); go_simp; refine ⟨_, fun _ _ => rfl, hK _ ?_⟩; clear hK K)
        refine wpQuiet_step (fun K hK => ?_)
        go_simp
        refine ⟨.string ⟨(B 0).toArray⟩, fun w' hw' => calls_below hw' ((HBR.out 0).1.2.2 w'), hK _ ?_⟩
        clear hK K
        refine wpQuiet_step (fun K hK => ?_)
        go_simp
        refine ⟨.string ⟨Y3.toArray⟩, fun w' hw' => ?_, hK _ ?_⟩
        · rw [if_neg (by omega)]; exact ⟨rfl, congrArg Value.string (cat_eq hY3)⟩
        clear hK K
        iterate 2 (refine wpQuiet_step (fun K hK => ?_); go_simp; refine ⟨_, fun _ _ => rfl, hK _ ?_⟩; clear hK K)
        refine wpQuiet_step (fun K hK => ?_)
        go_simp
        refine ⟨.string ⟨(R 0).toArray⟩, fun w' hw' => calls_below hw' ((HBR.out 0).2.2.2.2 w'), hK _ ?_⟩
        clear hK K
        refine wpQuiet_step (fun K hK => ?_)
        go_simp
        refine ⟨.string ⟨Y4.toArray⟩, fun w' hw' => ?_, hK _ ?_⟩
        · rw [if_neg (by omega)]; exact ⟨rfl, congrArg Value.string (cat_eq hY4)⟩
        clear hK K
        refine wpQuiet_step (fun K hK => ?_); go_simp; refine ⟨_, fun _ _ => rfl, hK _ ?_⟩; clear hK K
        refine wpQuiet_nil ?_
        intro w' hw'
        have HB2 := hide (HB.out.trans (hw'.mono HB.out.size))
        clear hw' HB
        have HY : Hid (Y4 = 10 :: (M ++ B 0 ++ pc t fn t.length ++ B 0 ++ R 0)) := hide (by rw [← hY4, ← hY3, ← hY2, ← hY1]; simp)
        by_cases hbig : 16384 < Y4.length
        · have hbI : (16384 : Int) < (Y4.length : Int) := by omega
          clear HK HBR HS HO hY1 hY2 hY3 hY4 HY l1 l2 l3 l4 b1 b2 b3 b4 e1
          go_wp2
          (try rw [Exit.noGoto_ret])
          go_ret
          exact ⟨rfl, HB2.out⟩
        · have hbI : ¬ (16384 : Int) < (Y4.length : Int) := by omega
          have HK2 := hide (HK.out.last (HBR.out 0).1.1 (HBR.out 0).1.1 (HBR.out 0).2.1 (HBR.out 0).2.2.1 (by
            have := congrArg List.length HY.out
            rw [List.length_cons] at this
            omega))
          clear HK HBR HS HO hY1 hY2 hY3 hY4 l1 l2 l3 l4 b1 b2 b3 b4 e1
          go_wp2
          refine ⟨⟨_, kn, t.length + 1, t.length + 1, _, by rw [HY.out], by simp, by simp, by simp, by omega, by omega, HK2.out, HB2.out⟩, ?_⟩
          simp [intOf] <;> omega
  · obtain rfl : n = t.length + 1 := by omega
    have HE : Hid (t.length ≤ 16383 ∧ M.length ≤ 16383 ∧ M = jl xs ∧ xs.map lineT = linesT t ∧ (∀ x ∈ xs, ∀ c ∈ x, (c == (10 : UInt8)) = false)) := hide (by
      obtain ⟨h1, h2, ⟨h3, _⟩ | ⟨_, h4, h5, h6⟩⟩ := HK.out
      · omega
      · exact ⟨by omega, h1, h5, h6, h2⟩)
    have HM : Hid (asmT (10 :: M) = ((asmT t).1, (if (asmT t).2.2 = 0 then 0 else (asmT t).2.1 + 1), (asmT t).2.2) ∧ (((asmT t).2.2 = 0 ∧ (asmT t).2.1 = 0) ∨ ((asmT t).2.2 ≠ 0 ∧ 1 ≤ (asmT t).2.1 ∧ (asmT t).1 = []))) := hide (by
      obtain ⟨a, b, c, d, e⟩ := HE.out
      rw [c]
      exact asm_more e d (by omega) (by rw [← c]; simp; omega))
    have hM := HE.out.2.1
    have HL := hide (asm_len t)
    have HU := hide (asm_line t)
    have HA := hide (fun W h => asm_any W t (by omega) h)
    have HA2 := hide (fun W h => asm_any W (10 :: M) (by simp; omega) h)
    clear HK HE HBR HS
    rw [HM.out.1] at HA2
    have HQ := hide HM.out.2
    clear HM
    obtain ⟨⟨ns, ln, er⟩, hX⟩ : ∃ X, asmT t = X := ⟨_, rfl⟩
    rw [hX] at HA HA2 HQ HL HU
    clear hX
    simp only at HA HA2 HQ HL HU
    have hle2 : ¬ ((t.length : Int) + 1) ≤ (t.length : Int) := by omega
    have hl5 := HL.out
    have hlu := HU.out
    go_wp2_with fail
    refine (HA.out _ (HO.out.below HB.out)).mono ?_
    rintro e w4 ⟨v, rfl, ho4, hb4⟩
    obtain ⟨mo, cm, rfl, hW4⟩ := Wd.of ho4
    have HB4 := hide (HB.out.trans (hb4.mono HB.out.size))
    have HW4 := hide hW4
    clear hb4 hW4 ho4 HB HA
    rcases HQ.out with ⟨rfl, rfl⟩ | ⟨he, h1, rfl⟩
    · rw [if_pos rfl] at HA2
      clear HQ
      go_wp2_with fail
      refine (HA2.out _ (HO.out.below HB4.out)).mono ?_
      rintro e w5 ⟨v, rfl, ho5, hb5⟩
      obtain ⟨m5, c5, rfl, hW5⟩ := Wd.of ho5
      have HB5 := hide (HB4.out.trans (hb5.mono HB4.out.size))
      have HW5 := hide hW5
      have HW45 := hide (HW4.out.below hb5)
      clear hb5 hW5 ho5 HB4 HA2 HW4
      go_wp2_with fail
      refine (same_any _ mo m5 cm c5 ns (by omega) HW45.out HW5.out).mono ?_
      rintro e w6 ⟨rfl, hb6⟩
      have HB6 := hide (HB5.out.trans (hb6.mono HB5.out.size))
      clear hb6 HB5
      go_wp2
      (try rw [Exit.noGoto_ret])
      go_ret
      exact ⟨rfl, HB6.out⟩
    · rw [if_neg he] at HA2
      have heb : (er == 0) = false := by simpa using he
      have h1I : (1 : Int) ≤ (ln : Int) := by omega
      clear HQ
      go_wp2_with fail
      refine (HA2.out _ (HO.out.below HB4.out)).mono ?_
      rintro e w5 ⟨v, rfl, ho5, hb5⟩
      obtain ⟨m5, c5, rfl, hW5⟩ := Wd.of ho5
      have HB5 := hide (HB4.out.trans (hb5.mono HB4.out.size))
      have HW5 := hide hW5
      have HW45 := hide (HW4.out.below hb5)
      clear hb5 hW5 ho5 HB4 HA2 HW4
      go_wp2_with fail
      refine (same_any _ mo m5 cm c5 [] (by simp) HW45.out HW5.out).mono ?_
      rintro e w6 ⟨rfl, hb6⟩
      have HB6 := hide (HB5.out.trans (hb6.mono HB5.out.size))
      clear hb6 HB5
      go_wp2
      (try rw [Exit.noGoto_ret])
      go_ret
      exact ⟨rfl, HB6.out⟩
end
end Go.Proofs.YtoaplkfmchphbaaDoor
