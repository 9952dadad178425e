import Derived.Deep.QuietTactic
import Derived.Test.YtoaplkfmchphbaaDoorE05
import Derived.Test.YtoaplkfmchphbaaDoorE14
import Derived.Test.YtoaplkfmchphbaaDoorE15
import Derived.Test.YtoaplkfmchphbaaDoorE19
namespace Go.Proofs.YtoaplkfmchphbaaDoor
open Go.RowKit
theorem Wd.of {W : World} {base : Nat} {v : Value} {ns : List Nat} (h : W.ownsRow base 29 1 v ns.length (wds ns)) : ∃ ao c, v = .slice ao ns.length c ∧ Wd W ao ns := by
  rcases h.2 with ⟨h1, h2⟩ | ⟨g, cap, cur, h1, _, h3, _, _, _, h7⟩
  · exact ⟨none, 0, by rw [h1, h2], fun j hj => by omega⟩
  · refine ⟨_, _, h1, fun j hj => ⟨⟨g, 0, none⟩, rfl, ?_⟩⟩
    rw [add0, Lib.cell_of_heap h3]
    have e : (wds ns)[j]? = some (.int .u32 (ns[j] : Nat)) := by simp [wds, hj]
    rw [← h7, List.getElem?_take] at e
    split at e
    · rw [← Array.getElem?_toList]; exact e
    · simp at e
section
variable (w : World)
/-- what is told, made into words -/
theorem asm_back (ns : List Nat) (hn : ∀ x ∈ ns, x < 4294967296) (hl : ns.length ≤ 512) (hO : Ops w) : Calls Tryd.prog 10 #[.string ⟨(tls ns).toArray⟩] w fun e w' => ∃ v, e = .returned (.tuple #[v, .int .i64 0, .int .i64 0]) ∧ w'.ownsRow w.heap.size 29 1 v ns.length (wds ns) ∧ Below w.heap.size w w' := by
  have h1 := tls_len2 ns
  refine (asm_any w (tls ns) (by omega) hO).mono ?_
  rw [asm_told hn hl]
  exact fun e w' h => h
set_option maxRecDepth 100000 in
set_option maxHeartbeats 1000000 in
theorem round_walk (ao : Option Addr) (cap : Nat) (ns : List Nat) (hn : ∀ x ∈ ns, x < 4294967296) (hl : ns.length ≤ 1048576) (hW : Wd w ao ns) (ha : ao = none → ns.length = 0 ∧ cap = 0) (hT : Tb w) : Calls Tryd.prog 7 #[.slice ao ns.length cap] w fun e w' => e = .returned (.bool true) ∧ Below w.heap.size w w' := by
  have HN := hide hn
  have HW := hide hW
  have HT := hide hT
  clear hn hW hT
  have hlen := tls_len2 ns
  go_enter Tryd.func7, Tryd.ntmps7
  go_wp2_with fail
  refine (known_any _ HT.out.ops).mono ?_
  rintro e w1 ⟨rfl, hb⟩
  have HB1 := hide hb
  clear hb
  go_wp2_with fail
  refine (words_any _ ao cap ns hl (HW.out.below HB1.out) ha).mono ?_
  rintro e w2 ⟨bo, cb, rfl, hW1, hb1⟩
  have HB2 := hide (HB1.out.trans (hb1.mono HB1.out.size))
  have HW1 := hide hW1
  clear hb1 hW1 HB1
  go_wp2_with fail
  refine (dis_any _ bo cb ns HN.out hl HW1.out (HT.out.below HB2.out)).mono ?_
  rintro e w3 ⟨rfl, hb3⟩
  have HB3 := hide (HB2.out.trans (hb3.mono HB2.out.size))
  clear hb3 HB2 HW1
  by_cases h5 : ns.length ≤ 512
  · have HA := hide (fun W h => asm_back W ns HN.out h5 h)
    generalize tls ns = T at *
    have h5I : (ns.length : Int) ≤ 512 := by omega
    go_wp2_with fail
    refine (HA.out _ (HT.out.below HB3.out).ops).mono ?_
    rintro e w4 ⟨v, rfl, hO4, hb4⟩
    obtain ⟨mo, cm, rfl, hW4⟩ := Wd.of hO4
    have HB4 := hide (HB3.out.trans (hb4.mono HB3.out.size))
    have HW4 := hide hW4
    clear hb4 hW4 hO4 HB3 HA
    go_wp2_with fail
    refine (same_any _ mo ao cm cap ns hl HW4.out (HW.out.below HB4.out)).mono ?_
    rintro e w5 ⟨rfl, hb5⟩
    have HB5 := hide (HB4.out.trans (hb5.mono HB4.out.size))
    clear hb5 HB4
    go_wp2
    go_ret
    exact ⟨rfl, HB5.out⟩
  · have h5I : ¬ (ns.length : Int) ≤ 512 := by omega
    have HA := hide (fun W h => asm_any W (tls ns) (by omega) h)
    by_cases hs : 16384 < (tls ns).length
    · have hsI : (16384 : Int) < ((tls ns).length : Int) := by omega
      generalize tls ns = T at *
      go_wp2_with fail
      refine (HA.out _ (HT.out.below HB3.out).ops).mono ?_
      rintro e w4 ⟨v, rfl, hO4, hb4⟩
      obtain ⟨mo, cm, rfl, hW4⟩ := Wd.of hO4
      have HB4 := hide (HB3.out.trans (hb4.mono HB3.out.size))
      clear hb4 hW4 hO4 HB3 HA
      generalize asmT T = X at *
      go_wp2
      go_ret
      exact ⟨rfl, HB4.out⟩
    · have hsI : ¬ (16384 : Int) < ((tls ns).length : Int) := by omega
      have HV := hide (asm_over HN.out (by omega) (by omega))
      generalize tls ns = T at *
      go_wp2_with fail
      refine (HA.out _ (HT.out.below HB3.out).ops).mono ?_
      rw [HV.out]
      rintro e w4 ⟨v, rfl, hO4, hb4⟩
      obtain ⟨mo, cm, rfl, hW4⟩ := Wd.of hO4
      have HB4 := hide (HB3.out.trans (hb4.mono HB3.out.size))
      clear hb4 hW4 hO4 HB3 HA
      go_wp2
      go_ret
      exact ⟨rfl, HB4.out⟩
end
end Go.Proofs.YtoaplkfmchphbaaDoor

namespace Go.Proofs.YtoaplkfmchphbaaDoor
open Go.RowKit
/-- a region that draws its order, none of whose steps turns an old block: one walk, in the order of the text -/
theorem region_below {P : Program} {id : Nat} {Q : Exit → Act → World → Prop} {a : Act} {w : World} {l : List Oper} (hm : P.follows .mixedOrders = true) (hB : Region.lexB .any l.toArray = true)
    (h : wpQuiet P l.toArray (fun w' => Below w.heap.size w w') (fun a' => ∀ w', Below w.heap.size w w' → Q .normal a' w') l a) : (Code.region id l.toArray true).wp P Q a w :=
  wp_region_quiet (C := fun w' => Below w.heap.size w w') hm hB (Below.refl _ _).drew (by simpa using h)
/-- a call there -/
theorem calls_below {P : Program} {f : FuncId} {args : Array Value} {w w' : World} {v : Value} (hw : Below w.heap.size w w') (h : Calls P f args w' fun e w'' => e = .returned v ∧ Below w'.heap.size w' w'') :
    Calls P f args w' fun e w'' => e = .returned v ∧ Below w.heap.size w w'' :=
  h.mono fun _ _ ⟨he, hm⟩ => ⟨he, hw.trans (hm.mono hw.size)⟩
/-- numbers in a row -/
def Sd (W : World) (ao : Option Addr) (ks : List Int) : Prop := ∀ j (h : j < ks.length), ∃ a : Addr, ao = some a ∧ W.cell? (a.add j) = some (.int .i64 ks[j])
theorem Sd.below {W W' : World} {ao : Option Addr} {ks : List Int} (h : Sd W ao ks) (hb : Below W.heap.size W W') : Sd W' ao ks := fun j hj => by
  obtain ⟨a, h1, h2⟩ := h j hj
  exact ⟨a, h1, by rw [hb.cell (addr_lt h2)]; exact h2⟩
set_option maxRecDepth 100000 in
set_option maxHeartbeats 1000000 in
theorem blank_all (n : Int) : ∃ b : Tx, (∀ c ∈ b, bl c = true) ∧ b.length ≤ 4 ∧ ∀ w, Calls Tryd.prog 13 #[.int .i64 n] w fun e w' => e = .returned (.string ⟨b.toArray⟩) ∧ Below w.heap.size w w' := by
  rcases rem5 n with hq | hq | hq | hq | hq
  · refine ⟨[], by simp, by simp, fun w => ?_⟩
    go_enter Tryd.func13, Tryd.ntmps13
    go_wp2
    go_ret
    exact ⟨rfl, bel1 _ _⟩
  · refine ⟨[32], by decide, by simp, fun w => ?_⟩
    go_enter Tryd.func13, Tryd.ntmps13
    go_wp2
    go_ret
    exact ⟨rfl, bel1 _ _⟩
  · refine ⟨[9], by decide, by simp, fun w => ?_⟩
    go_enter Tryd.func13, Tryd.ntmps13
    go_wp2
    go_ret
    exact ⟨rfl, bel1 _ _⟩
  · refine ⟨[32, 9, 32, 32], by decide, by simp, fun w => ?_⟩
    go_enter Tryd.func13, Tryd.ntmps13
    go_wp2
    go_ret
    exact ⟨rfl, bel1 _ _⟩
  · refine ⟨[32, 32], by decide, by simp, fun w => ?_⟩
    go_enter Tryd.func13, Tryd.ntmps13
    go_wp2
    go_ret
    exact ⟨rfl, bel1 _ _⟩
set_option maxRecDepth 100000 in
set_option maxHeartbeats 1000000 in
theorem remark_all (n : Int) : ∃ b : Tx, isRem b = true ∧ (∀ c ∈ b, (c == (10 : UInt8)) = false) ∧ b.length ≤ 10 ∧ ∀ w, Calls Tryd.prog 14 #[.int .i64 n] w fun e w' => e = .returned (.string ⟨b.toArray⟩) ∧ Below w.heap.size w w' := by
  rcases rem5 n with hq | hq | hq | hq | hq
  · refine ⟨[], rfl, by simp, by simp, fun w => ?_⟩
    go_enter Tryd.func14, Tryd.ntmps14
    go_wp2
    go_ret
    exact ⟨rfl, bel1 _ _⟩
  · refine ⟨[59], rfl, by decide, by simp, fun w => ?_⟩
    go_enter Tryd.func14, Tryd.ntmps14
    go_wp2
    go_ret
    exact ⟨rfl, bel1 _ _⟩
  · refine ⟨[59, 32, 110, 111, 112], rfl, by decide, by simp, fun w => ?_⟩
    go_enter Tryd.func14, Tryd.ntmps14
    go_wp2
    go_ret
    exact ⟨rfl, bel1 _ _⟩
  · refine ⟨[59, 59, 58, 32, 97, 44, 32, 98, 0, 255], rfl, by decide, by simp, fun w => ?_⟩
    go_enter Tryd.func14, Tryd.ntmps14
    go_wp2
    go_ret
    exact ⟨rfl, bel1 _ _⟩
  · refine ⟨[59, 46, 119, 111, 114, 100, 32, 49], rfl, by decide, by simp, fun w => ?_⟩
    go_enter Tryd.func14, Tryd.ntmps14
    go_wp2
    go_ret
    exact ⟨rfl, bel1 _ _⟩
/-- the loop's state: lines 'xs' are laid, the place is 'n', the open line began at 'f' -/
def Bk (t M : Tx) (f n : Nat) (xs : List Tx) : Prop := M.length ≤ 16383 ∧ (∀ x ∈ xs, ∀ c ∈ x, (c == (10 : UInt8)) = false) ∧
  ((n ≤ t.length ∧ f ≤ n ∧ f ≤ M.length ∧ (∀ j (hj : j < t.length), f ≤ j → j < n → (t[j] == (10 : UInt8)) = false) ∧ M = xs.flatMap (· ++ [10]) ∧ xs.map lineT ++ (splitT 10 (t.drop f)).map lineT = linesT t)
   ∨ (n = t.length + 1 ∧ t.length ≤ M.length ∧ M = jl xs ∧ xs.map lineT = linesT t))
theorem pc_len {t : Tx} {a b : Nat} (h : a ≤ b) (hb : b ≤ t.length) : (pc t a b).length = b - a := by
  simp [pc]; omega
theorem Bk.start (t : Tx) : Bk t [] 0 0 [] := ⟨by simp, by simp, .inl ⟨by omega, by omega, by simp, fun _ _ _ h => by omega, rfl, by simp [linesT]⟩⟩
/-- no line's end -/
theorem Bk.on {t M : Tx} {f n : Nat} {xs : List Tx} (h : Bk t M f n xs) (hn : n < t.length) (hc : (t[n] == (10 : UInt8)) = false) : Bk t M f (n + 1) xs := by
  obtain ⟨h1, h2, ⟨h3, h4, h5, h6, h7, h8⟩ | ⟨h3, _⟩⟩ := h
  · refine ⟨h1, h2, .inl ⟨by omega, by omega, h5, fun j hj a b => ?_, h7, h8⟩⟩
    by_cases e : j = n
    · subst e; exact hc
    · exact h6 j hj a (by omega)
  · omega
/-- a line's end -/
theorem Bk.line {t M : Tx} {f n : Nat} {xs : List Tx} (h : Bk t M f n xs) (hn : n < t.length) (hc : t[n] = 10) {p q r : Tx} (hp : ∀ c ∈ p, bl c = true) (hq : ∀ c ∈ q, bl c = true) (hr : isRem r = true) (hr' : ∀ c ∈ r, (c == (10 : UInt8)) = false)
    (hl : (M ++ p ++ pc t f n ++ q ++ r ++ [10]).length ≤ 16383) : Bk t (M ++ p ++ pc t f n ++ q ++ r ++ [10]) (n + 1) (n + 1) (xs ++ [p ++ pc t f n ++ q ++ r]) := by
  obtain ⟨h1, h2, ⟨h3, h4, h5, h6, h7, h8⟩ | ⟨h3, _⟩⟩ := h
  · refine ⟨hl, fun x hx => ?_, .inl ⟨by omega, by omega, ?_, fun j hj a b => by omega, ?_, step_mid h4 hn h6 hc hp hq hr h8⟩⟩
    · rcases List.mem_append.1 hx with hx | hx
      · exact h2 x hx
      · obtain rfl := List.mem_singleton.1 hx
        exact dec_no hp (pc_no h6) hq hr'
    · have := pc_len h4 h3
      simp only [List.length_append, List.length_cons, List.length_nil]
      omega
    · rw [h7]; simp
  · omega
/-- the text's end -/
theorem Bk.last {t M : Tx} {f : Nat} {xs : List Tx} (h : Bk t M f t.length xs) {p q r : Tx} (hp : ∀ c ∈ p, bl c = true) (hq : ∀ c ∈ q, bl c = true) (hr : isRem r = true) (hr' : ∀ c ∈ r, (c == (10 : UInt8)) = false)
    (hl : (M ++ p ++ pc t f t.length ++ q ++ r).length ≤ 16383) : Bk t (M ++ p ++ pc t f t.length ++ q ++ r) (t.length + 1) (t.length + 1) (xs ++ [p ++ pc t f t.length ++ q ++ r]) := by
  obtain ⟨h1, h2, ⟨h3, h4, h5, h6, h7, h8⟩ | ⟨h3, _⟩⟩ := h
  · refine ⟨hl, fun x hx => ?_, .inr ⟨rfl, ?_, ?_, step_end h6 hp hq hr h8⟩⟩
    · rcases List.mem_append.1 hx with hx | hx
      · exact h2 x hx
      · obtain rfl := List.mem_singleton.1 hx
        exact dec_no hp (pc_no h6) hq hr'
    · have := pc_len h4 h3
      simp only [List.length_append]
      omega
    · rw [jl_snoc, h7]; simp
  · omega
end Go.Proofs.YtoaplkfmchphbaaDoor

namespace Go.Proofs.YtoaplkfmchphbaaDoor
open Go.ChangeShapes Go.WideShapes Go.ChangeAt Go.RowKit Go.Deep
section
variable {H : Type} {enc : TypeId × Value → H} {P : Program} {w : World} {base : Nat} {spare : Nat → Bool} {held : Bool}
/-- a slice of numbers that came in -/
theorem open_numbers {t e : TypeId} {fuel : Nat} {cs : List Value} {x : DataW H × List MemPlace} (ht : P.underlying t = some (.slice e)) (he : P.underlying e = some (.int .i64)) (ce : P.cellsOf e = 1)
    (h : DataW.trod enc P w base spare held fuel t cs = some x) : ∃ (a : Option Addr) (cap : Nat) (ks : List Int), cs = [.slice a ks.length cap] ∧ (ks = [] ∨ ∃ el sp, x.1 = .slice el sp ∧ ks.length ≤ el.length) ∧ Sd w a ks := by
  rcases open_slice1 ht ce h with ⟨rfl, _⟩ | ⟨a, len, cap, m, n, V, D, Pl, rfl, hb, hl, hm, hmm, rfl, hx⟩
  · exact ⟨none, 0, [], rfl, .inl rfl, fun k hk => by simp at hk⟩
  have hlm : len ≤ m := by rw [hmm]; split <;> omega
  have each : ∀ i, i < len → ∃ z : Int, V i = .int .i64 z := fun i hi => by
    obtain ⟨z, h1, _, _⟩ := DataW.trod_int he (hx i (by omega)).2
    exact ⟨z, by simpa using h1⟩
  obtain ⟨Z, hZ⟩ := choose_lt each
  refine ⟨some a, cap, (List.range len).map Z, by simp, .inr ⟨_, _, rfl, by simp⟩, fun k hk => ⟨a, rfl, ?_⟩⟩
  have hk' : k < len := by simpa using hk
  rw [(hx k (by omega)).1, hZ k hk']
  simp
/-- a slice of words that came in, with its bulk as it is -/
theorem open_words' {t e : TypeId} {fuel : Nat} {cs : List Value} {x : DataW H × List MemPlace} (ht : P.underlying t = some (.slice e)) (he : P.underlying e = some (.int .u32)) (ce : P.cellsOf e = 1)
    (h : DataW.trod enc P w base spare held fuel t cs = some x) : ∃ (a : Option Addr) (cap : Nat) (ns : List Nat), cs = [.slice a ns.length cap] ∧ (ns = [] ∨ ∃ el sp, x.1 = .slice el sp ∧ ns.length ≤ el.length) ∧ Wd w a ns ∧ (∀ y ∈ ns, y < 4294967296) ∧ (a = none → ns.length = 0 ∧ cap = 0) := by
  rcases open_slice1 ht ce h with ⟨rfl, _⟩ | ⟨a, len, cap, m, n, V, D, Pl, rfl, hb, hl, hm, hmm, rfl, hx⟩
  · exact ⟨none, 0, [], rfl, .inl rfl, fun k hk => by simp at hk, fun y hy => by simp at hy, fun _ => ⟨rfl, rfl⟩⟩
  have hlm : len ≤ m := by rw [hmm]; split <;> omega
  have each : ∀ i, i < len → ∃ z : Nat, V i = .int .u32 (z : Nat) ∧ z < 4294967296 := fun i hi => u32_cell he (hx i (by omega)).2
  obtain ⟨Z, hZ⟩ := choose_lt each
  refine ⟨some a, cap, (List.range len).map Z, by simp, .inr ⟨_, _, rfl, by simp⟩, fun k hk => ⟨a, rfl, ?_⟩, fun y hy => ?_, fun e => by simp at e⟩
  · have hk' : k < len := by simpa using hk
    rw [(hx k (by omega)).1, (hZ k hk').1]
    simp
  · simp at hy
    obtain ⟨k, hk, rfl⟩ := hy
    exact (hZ k hk).2
end
end Go.Proofs.YtoaplkfmchphbaaDoor
