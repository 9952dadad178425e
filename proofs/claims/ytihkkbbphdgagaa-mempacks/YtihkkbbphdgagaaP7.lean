import Derived.Test.YtihkkbbphdgagaaP6
import Derived.Test.YtihkkbbphdgagaaP5
import Derived.Test.YtihkkbbphdgagaaP4
import Derived.Laws.IdiomStrings
import Derived.Laws.BytesArg
import Derived.Laws.AppendOwnNone
import Derived.Maps.AppendAt
namespace Go.Proofs.Ytihkkbbphdgagaa
open Go.RowKit

/-- bytes as a string -/
def sB (F : Nat → Nat) (n : Nat) : ByteArray := ⟨((List.range n).map (fun i => UInt8.ofNat (F i))).toArray⟩
theorem str_of (w : World) (x : Addr) (len cap : Nat) (F : Nat → Nat) (h : ∀ k, k < len → w.cell? (x.add k) = some (.int .u8 (F k : Nat)) ∧ F k < 256) : (convert 25 9 (.slice (some x) len cap)).run Try.prog w = .ok (.string (sB F len)) w := by
  have hl : ((List.range len).map (fun i => UInt8.ofNat (F i))).length = len := by simp
  have h9 := run_convert_bytes_back (P := Try.prog) w 25 9 5 x cap ((List.range len).map (fun i => UInt8.ofNat (F i))) Try.underlying25 Try.underlying5 Try.underlying9 (fun j hj => by
    have hj' : j < len := by rw [hl] at hj; exact hj
    obtain ⟨h1, h2⟩ := h j hj'
    rw [h1]
    simp
    omega)
  rw [hl] at h9
  exact h9
theorem str_nil (w : World) (F : Nat → Nat) : (convert 25 9 (.slice none 0 0)).run Try.prog w = .ok (.string (sB F 0)) w :=
  run_convert_bytes_nil w 25 5 Try.underlying25 Try.underlying5 0 0 9 Try.underlying9
theorem str_bk {w : World} {N : Nat} {f : Nat → Nat} (h : Bk w N f) (hf : ∀ i, f i < 256) : (convert 25 9 (.slice (some ⟨N, 0, none⟩) 128 128)).run Try.prog w = .ok (.string (sB f 128)) w :=
  str_of w _ 128 128 f (fun k hk => ⟨h.get0 hk, hf k⟩)
theorem str_own {w : World} {base : Nat} {a : Option Addr} {n c : Nat} {F : Nat → Nat} (h : w.ownsRow base 5 1 (.slice a n c) n ((List.range n).map fun k => .int .u8 (F k : Nat))) (hF : ∀ k, k < n → F k < 256) : (convert 25 9 (.slice a n c)).run Try.prog w = .ok (.string (sB F n)) w := by
  have h' := h
  obtain ⟨h1, ⟨h2, h3⟩ | ⟨g, cp, cur, h2, _⟩⟩ := h
  · cases h2
    exact str_nil w F
  · cases h2
    refine str_of w _ n c F (fun k hk => ⟨?_, hF k hk⟩)
    rw [add0, h'.cellAt k (by omega)]
    simp [hk]
theorem convS {ops : Array Oper} {rest : List Oper} {op : Oper} {a : Act} {w : World} {Q : Exit → Act → World → Prop} (hw : Region.wanted op (yielded ops a.tmps) = true) (x : Operand) (ho : op.op = .convert 25 9 x) (v : Value) (hx : a.eval x = v) (s : ByteArray) (hr : (convert 25 9 v).run Try.prog w = .ok (.string s) w)
    (h : wpList Try.prog ops Q rest (a.put op.dst (.string s)) w) : wpList Try.prog ops Q (op :: rest) a w :=
  BigFrame.wpList_want hw fun _ hK => by
    unfold Oper.wp execOp
    simp only [ho, hx, Sem.run_bind, Sem.run_pure, Result.andThen_ok, hr]
    exact hK _ _ h
theorem own_up {w w' : World} {base : Nat} {v : Value} {n : Nat} {xs : List Value} (h : w.ownsRow base 5 1 v n xs) (hb : Below w.heap.size w w') : w'.ownsRow base 5 1 v n xs := by
  obtain ⟨h1, h2 | ⟨g, cap, cur, h2, h3, h4, h5⟩⟩ := h
  · exact ⟨h1, .inl h2⟩
  · exact ⟨h1, .inr ⟨g, cap, cur, h2, h3, (hb.block g (Array.getElem?_eq_some_iff.1 h4).1).trans h4, h5⟩⟩
theorem own_shape5 {w : World} {base : Nat} {v : Value} {n : Nat} {xs : List Value} (h : w.ownsRow base 5 1 v n xs) : ∃ a c, v = .slice a n c := by
  obtain ⟨h1, ⟨h2, h3⟩ | ⟨g, cap, cur, h2, _⟩⟩ := h
  · exact ⟨none, 0, by rw [h2, h3]⟩
  · exact ⟨_, _, h2⟩
set_option maxRecDepth 100000 in
set_option maxHeartbeats 12800000 in
theorem packs_walk (p : Nat → Nat) (a : Option Addr) (len cap : Nat) (F : Nat → Nat) (w : World) (hp : ∀ i, i < 32 → p i < 4294967296) (hl : len ≤ 140737488355328) (hn : a = none → len = 0 ∧ cap = 0) (hF : IsBys w a len F) :
    Calls Try.prog 4 #[.agg (page p).toArray, .slice a len cap] w fun e w' => e = .returned (.bool true) ∧ Below w.heap.size w w' := by
  obtain ⟨i5, hi, hz5, hs, hb5⟩ := info5'
  have hp0 : Pg (w.alloc (.cells (page p).toArray 24)) w.heap.size p := ⟨heap_alloc_last _ _⟩
  have hb0 : Below w.heap.size w (w.alloc (.cells (page p).toArray 24)) := (Below.refl _ _).alloc (Nat.le_refl _) _
  have HF := hide hF
  have HNn := hide hn
  clear hF hn
  go_enter Try.func4, Try.ntmps4
  go_upto_region 1 with fail
  generalize w.alloc (.cells (page p).toArray 24) = w0 at *
  have r0 := hp0.range
  have HPk := hide (pack_any p hp w0)
  go_wp2_with (refine load24 rfl _ rfl w.heap.size 0 rfl _ r0 ?_)
  refine HPk.out.mono ?_
  rintro e w1 ⟨X, rfl, hX, hXl, hb1⟩
  have hp1 := hp0.up hb1
  have HB1 := hide (hb0.trans (hb1.mono hb0.size))
  have HX1 := hide hX
  have r1 := hp1.range
  have HRp := hide (rpack_any p hp w1)
  clear hX hp1 hp0 hb0 hb1 r0 hXl HPk
  go_wp2_with (refine load24 rfl _ rfl w.heap.size 0 rfl _ r1 ?_)
  refine HRp.out.mono ?_
  rintro e w2 ⟨r, rfl, hY, hb2⟩
  have HB2 := hide (HB1.out.trans (hb2.mono HB1.out.size))
  have hx2 := str_bk (HX1.out.up hb2) (pb_lt p)
  have hY2 : w2.ownsRow w1.heap.size 5 1 r 128 ((List.range 128).map fun k => .int .u8 (pb p k : Nat)) := by
    have h9 := hY
    unfold OwY at h9
    rw [pk_len] at h9
    have e9 : (pk p 128).map In8 = (List.range 128).map fun k => .int .u8 (pb p k : Nat) := by unfold pk In8; rw [List.map_map]; rfl
    rw [e9] at h9
    exact h9
  obtain ⟨ya, yc, rfl⟩ := own_shape5 hY2
  have hy2 := str_own hY2 (fun k _ => pb_lt p k)
  generalize sB (pb p) 128 = s at *
  have hss : (s.toList == s.toList) = true := by simp
  clear hY hY2 hb2 HX1 HB1 HRp r1
  go_upto_region 5 with (first
    | (refine convS rfl _ rfl (.slice (some ⟨X, 0, none⟩) 128 128) rfl s hx2 ?_)
    | (refine convS rfl _ rfl (.slice ya 128 yc) rfl s hy2 ?_))
  clear hx2 hy2
  cases a with
  | none =>
    obtain ⟨rfl, rfl⟩ := HNn.out rfl
    have HO3 : Hid (w2.ownsRow w2.heap.size 5 1 (.slice none 0 0) 0 ((List.range 0).map fun k => .int .u8 (F k : Nat))) := hide (World.ownsRow_nil _ _ _ _)
    have HB3 := HB2
    clear HB2
    go_upto_region 6 with (at_builtin; refine wpList_append_own_none _ rfl _ _ 25 rfl w2.heap.size 5 i5 1 Try.underlying25 hi (.slice none 0 0) 0 [] rfl (World.ownsRow_nil _ _ _ _) rfl ?_)
    have HU := hide (unpack_bad w2 none 0 0 (by decide))
    have HRu := hide (fun W (hb : Below w.heap.size w W) => runpack_bad W none 0 0 (by decide))
    obtain ⟨z, hzz⟩ : ∃ z : Nat → Nat, z = fun _ => 0 := ⟨_, rfl⟩
    rw [← hzz] at HU
    simp only [← hzz] at HRu
    clear hzz
    go_wp2_with fail
    refine HU.out.mono ?_
    rintro e w4 ⟨rfl, hb4⟩
    have hb5' := hb4.trans ((fresh_below w4 z).mono hb4.size)
    have HO5 := hide (own_up HO3.out hb5')
    have HB5 := hide (HB3.out.trans (hb5'.mono HB3.out.size))
    have HQ5 := hide (fresh_pg w4 z)
    clear hb4 hb5' HO3 HB3 HU
    have hz : Pg (w4.alloc (.cells (page (fun _ => 0)).toArray 24)) w4.heap.size (fun _ => 0) := ⟨heap_alloc_last _ _⟩
    rw [← page_zero] at hz
    go_upto_region 7 with (refine store24 ?anilhw _ _ rfl w4.heap.size z (fun _ => 0) ?anilhx ?anilhy ?anilhz ?_)
    try (case anilhw => rfl)
    case anilhx => rfl
    case anilhy => rfl
    case anilhz => exact hz
    simp only [page_zero]
    show Code.wp _ _ _ _ (fresh w4 z)
    clear hz
    generalize fresh w4 z = w5 at *
    generalize w4.heap.size = G at *
    have HRw := hide (HRu.out w5 HB5.out)
    clear HRu
    go_wp2_with fail
    refine HRw.out.mono ?_
    rintro e w6 ⟨rfl, hb6⟩
    have hb7 := hb6.trans ((fresh_below w6 z).mono hb6.size)
    have HO7 := hide (own_up HO5.out hb7)
    have HB7 := hide (HB5.out.trans (hb7.mono HB5.out.size))
    have rQ := (HQ5.out.up hb7).range
    have rR := (fresh_pg w6 z).range
    clear hb6 hb7 HO5 HB5 HRw HQ5
    have hz : Pg (w6.alloc (.cells (page (fun _ => 0)).toArray 24)) w6.heap.size (fun _ => 0) := ⟨heap_alloc_last _ _⟩
    rw [← page_zero] at hz
    go_upto_region 8 with (refine store24 ?bnilhw _ _ rfl w6.heap.size z (fun _ => 0) ?bnilhx ?bnilhy ?bnilhz ?_)
    try (case bnilhw => rfl)
    case bnilhx => rfl
    case bnilhy => rfl
    case bnilhz => exact hz
    simp only [page_zero]
    show Code.wp _ _ _ _ (fresh w6 z)
    clear hz
    generalize fresh w6 z = w7 at *
    generalize w6.heap.size = G' at *
    have he := eq24 z z
    rw [eqP_refl] at he
    have hc7 := str_nil w7 F
    generalize sB F 0 = t at *
    have htt : (t.toList == t.toList) = true := by simp
    clear HO7
    go_wp2_with (first
      | (refine load24 rfl _ rfl G 0 rfl _ rQ ?_)
      | (refine load24 rfl _ rfl G' 0 rfl _ rR ?_)
      | (refine convS rfl _ rfl (.slice none 0 0) rfl t hc7 ?_))
    go_ret
    exact ⟨by simp, HB7.out⟩
  | some x =>
    clear HNn
    by_cases h128 : len = 128
    · subst h128
      have hnews : ∀ (j : Nat) (u : Value), ((List.range 128).map fun k => Value.int .u8 (F k : Nat))[j]? = some u → w2.cell? (x.add j) = some u := fun j u hj => by
        have hjl : j < 128 := by have := (List.getElem?_eq_some_iff.1 hj).1; simpa using this
        obtain ⟨x', e, h1, h2⟩ := HF.out j hjl
        simp at e
        subst e
        rw [cell_up h1 HB2.out]
        simp [hjl] at hj
        rw [← hj]
      have HNw := hide hnews
      clear hnews
      go_upto_region 6 with (at_builtin; refine wpList_append_own_at _ rfl _ _ 25 rfl w2.heap.size 5 i5 (.int .u8 0) 1 1 Try.underlying25 hi hz5 hs hb5 rfl (by decide) (.slice none 0 0) 0 [] rfl (World.ownsRow_nil _ _ _ _) x 128 cap ((List.range 128).map fun k => Value.int .u8 (F k : Nat)) rfl (by simp) HNw.out (by intro u hu; obtain ⟨k, _, rfl⟩ := List.mem_map.1 hu; rfl) (by unfold maxLen; omega) (by omega) (Nat.le_refl _) ?_; intro v3 w3 ho3 hg3 _ _)
      have ho4 : w3.ownsRow w2.heap.size 5 1 v3 128 ((List.range 128).map fun k => .int .u8 (F k : Nat)) := by
        have h9 := ho3
        rw [Nat.zero_add, List.nil_append] at h9
        exact h9
      obtain ⟨ca, cc, rfl⟩ := own_shape5 ho4
      have HO3 := hide ho4
      have HB3 : Hid (Below w.heap.size w w3) := hide (HB2.out.grown hg3 HB2.out.size (fun k hk => by simp [Value.ownBlock] at hk))
      clear ho3 ho4 hg3 HB2 HNw
      obtain ⟨g, rfl, hcg⟩ : ∃ g, ca = some ⟨g, 0, none⟩ ∧ ∀ i, i < 128 → w3.cell? ((⟨g, 0, none⟩ : Addr).add i) = some (.int .u8 ((if i < 128 then F i else 0 : Nat) : Int)) := by
        have h' := HO3.out
        obtain ⟨h1, ⟨_, h3⟩ | ⟨g, cp, cur, h2, _⟩⟩ := HO3.out
        · cases h3
        · cases h2
          refine ⟨g, rfl, fun i hi => ?_⟩
          rw [add0, h'.cellAt i (by omega), if_pos hi]
          simp [hi]
      have hf9 : ∀ i, (if i < 128 then F i else 0) < 256 := fun i => by
        by_cases hi : i < 128
        · obtain ⟨x', e, h1, h2⟩ := HF.out i hi
          simp only [hi, if_true]; exact h2
        · simp only [hi, if_false]; omega
      have HU := hide (unpack_ok w3 ⟨g, 0, none⟩ cc (fun i => if i < 128 then F i else 0) hf9 hcg)
      have HF9 := hide hf9
      clear hcg hf9
      have HRu := hide (fun W (hb : Below w.heap.size w W) => runpack_ok W x cap (fun i => if i < 128 then F i else 0) HF9.out (fun i hi => by
        obtain ⟨x', e, h1, h2⟩ := HF.out i hi
        simp at e
        subst e
        rw [if_pos hi]
        exact cell_up h1 hb))
      generalize unk (fun i => if i < 128 then F i else 0) 128 = z at *
      go_wp2_with fail
      refine HU.out.mono ?_
      rintro e w4 ⟨rfl, hb4⟩
      have hb5' := hb4.trans ((fresh_below w4 z).mono hb4.size)
      have HO5 := hide (own_up HO3.out hb5')
      have HB5 := hide (HB3.out.trans (hb5'.mono HB3.out.size))
      have HQ5 := hide (fresh_pg w4 z)
      clear hb4 hb5' HO3 HB3 HU
      have hz : Pg (w4.alloc (.cells (page (fun _ => 0)).toArray 24)) w4.heap.size (fun _ => 0) := ⟨heap_alloc_last _ _⟩
      rw [← page_zero] at hz
      go_upto_region 7 with (refine store24 ?aokhw _ _ rfl w4.heap.size z (fun _ => 0) ?aokhx ?aokhy ?aokhz ?_)
      try (case aokhw => rfl)
      case aokhx => rfl
      case aokhy => rfl
      case aokhz => exact hz
      simp only [page_zero]
      show Code.wp _ _ _ _ (fresh w4 z)
      clear hz
      generalize fresh w4 z = w5 at *
      generalize w4.heap.size = G at *
      have HRw := hide (HRu.out w5 HB5.out)
      clear HRu
      go_wp2_with fail
      refine HRw.out.mono ?_
      rintro e w6 ⟨rfl, hb6⟩
      have hb7 := hb6.trans ((fresh_below w6 z).mono hb6.size)
      have HO7 := hide (own_up HO5.out hb7)
      have HB7 := hide (HB5.out.trans (hb7.mono HB5.out.size))
      have rQ := (HQ5.out.up hb7).range
      have rR := (fresh_pg w6 z).range
      clear hb6 hb7 HO5 HB5 HRw HQ5
      have hz : Pg (w6.alloc (.cells (page (fun _ => 0)).toArray 24)) w6.heap.size (fun _ => 0) := ⟨heap_alloc_last _ _⟩
      rw [← page_zero] at hz
      go_upto_region 8 with (refine store24 ?bokhw _ _ rfl w6.heap.size z (fun _ => 0) ?bokhx ?bokhy ?bokhz ?_)
      try (case bokhw => rfl)
      case bokhx => rfl
      case bokhy => rfl
      case bokhz => exact hz
      simp only [page_zero]
      show Code.wp _ _ _ _ (fresh w6 z)
      clear hz
      generalize fresh w6 z = w7 at *
      generalize w6.heap.size = G' at *
      have he := eq24 z z
      rw [eqP_refl] at he
      have hc7 := str_own HO7.out (fun k hk => by obtain ⟨x', e, h1, h2⟩ := HF.out k hk; exact h2)
      have hd7 := str_of w7 x 128 cap F (fun k hk => by
        obtain ⟨x', e, h1, h2⟩ := HF.out k hk
        simp at e
        subst e
        exact ⟨cell_up h1 HB7.out, h2⟩)
      generalize sB F 128 = t at *
      have htt : (t.toList == t.toList) = true := by simp
      clear HO7
      go_wp2_with (first
        | (refine load24 rfl _ rfl G 0 rfl _ rQ ?_)
        | (refine load24 rfl _ rfl G' 0 rfl _ rR ?_)
        | (refine convS rfl _ rfl (.slice (some ⟨g, 0, none⟩) 128 cc) rfl t hc7 ?_)
        | (refine convS rfl _ rfl (.slice (some x) 128 cap) rfl t hd7 ?_))
      go_ret
      exact ⟨by simp, HB7.out⟩
    · have hnews : ∀ (j : Nat) (u : Value), ((List.range len).map fun k => Value.int .u8 (F k : Nat))[j]? = some u → w2.cell? (x.add j) = some u := fun j u hj => by
        have hjl : j < len := by have := (List.getElem?_eq_some_iff.1 hj).1; simpa using this
        obtain ⟨x', e, h1, h2⟩ := HF.out j hjl
        simp at e
        subst e
        rw [cell_up h1 HB2.out]
        simp [hjl] at hj
        rw [← hj]
      have HNw := hide hnews
      clear hnews
      go_upto_region 6 with (at_builtin; refine wpList_append_own_at _ rfl _ _ 25 rfl w2.heap.size 5 i5 (.int .u8 0) 1 1 Try.underlying25 hi hz5 hs hb5 rfl (by decide) (.slice none 0 0) 0 [] rfl (World.ownsRow_nil _ _ _ _) x len cap ((List.range len).map fun k => Value.int .u8 (F k : Nat)) rfl (by simp) HNw.out (by intro u hu; obtain ⟨k, _, rfl⟩ := List.mem_map.1 hu; rfl) (by unfold maxLen; omega) (by omega) (Nat.le_refl _) ?_; intro v3 w3 ho3 hg3 _ _)
      have ho4 : w3.ownsRow w2.heap.size 5 1 v3 len ((List.range len).map fun k => .int .u8 (F k : Nat)) := by
        have h9 := ho3
        rw [Nat.zero_add, List.nil_append] at h9
        exact h9
      obtain ⟨ca, cc, rfl⟩ := own_shape5 ho4
      have HO3 := hide ho4
      have HB3 : Hid (Below w.heap.size w w3) := hide (HB2.out.grown hg3 HB2.out.size (fun k hk => by simp [Value.ownBlock] at hk))
      clear ho3 ho4 hg3 HB2 HNw
      have HU := hide (unpack_bad w3 ca len cc h128)
      have HRu := hide (fun W (hb : Below w.heap.size w W) => runpack_bad W (some x) len cap h128)
      obtain ⟨z, hzz⟩ : ∃ z : Nat → Nat, z = fun _ => 0 := ⟨_, rfl⟩
      rw [← hzz] at HU
      simp only [← hzz] at HRu
      clear hzz
      go_wp2_with fail
      refine HU.out.mono ?_
      rintro e w4 ⟨rfl, hb4⟩
      have hb5' := hb4.trans ((fresh_below w4 z).mono hb4.size)
      have HO5 := hide (own_up HO3.out hb5')
      have HB5 := hide (HB3.out.trans (hb5'.mono HB3.out.size))
      have HQ5 := hide (fresh_pg w4 z)
      clear hb4 hb5' HO3 HB3 HU
      have hz : Pg (w4.alloc (.cells (page (fun _ => 0)).toArray 24)) w4.heap.size (fun _ => 0) := ⟨heap_alloc_last _ _⟩
      rw [← page_zero] at hz
      go_upto_region 7 with (refine store24 ?abadhw _ _ rfl w4.heap.size z (fun _ => 0) ?abadhx ?abadhy ?abadhz ?_)
      try (case abadhw => rfl)
      case abadhx => rfl
      case abadhy => rfl
      case abadhz => exact hz
      simp only [page_zero]
      show Code.wp _ _ _ _ (fresh w4 z)
      clear hz
      generalize fresh w4 z = w5 at *
      generalize w4.heap.size = G at *
      have HRw := hide (HRu.out w5 HB5.out)
      clear HRu
      go_wp2_with fail
      refine HRw.out.mono ?_
      rintro e w6 ⟨rfl, hb6⟩
      have hb7 := hb6.trans ((fresh_below w6 z).mono hb6.size)
      have HO7 := hide (own_up HO5.out hb7)
      have HB7 := hide (HB5.out.trans (hb7.mono HB5.out.size))
      have rQ := (HQ5.out.up hb7).range
      have rR := (fresh_pg w6 z).range
      clear hb6 hb7 HO5 HB5 HRw HQ5
      have hz : Pg (w6.alloc (.cells (page (fun _ => 0)).toArray 24)) w6.heap.size (fun _ => 0) := ⟨heap_alloc_last _ _⟩
      rw [← page_zero] at hz
      go_upto_region 8 with (refine store24 ?bbadhw _ _ rfl w6.heap.size z (fun _ => 0) ?bbadhx ?bbadhy ?bbadhz ?_)
      try (case bbadhw => rfl)
      case bbadhx => rfl
      case bbadhy => rfl
      case bbadhz => exact hz
      simp only [page_zero]
      show Code.wp _ _ _ _ (fresh w6 z)
      clear hz
      generalize fresh w6 z = w7 at *
      generalize w6.heap.size = G' at *
      have he := eq24 z z
      rw [eqP_refl] at he
      have hc7 := str_own HO7.out (fun k hk => by obtain ⟨x', e, h1, h2⟩ := HF.out k hk; exact h2)
      have hd7 := str_of w7 x len cap F (fun k hk => by
        obtain ⟨x', e, h1, h2⟩ := HF.out k hk
        simp at e
        subst e
        exact ⟨cell_up h1 HB7.out, h2⟩)
      generalize sB F len = t at *
      have htt : (t.toList == t.toList) = true := by simp
      clear HO7
      go_wp2_with (first
        | (refine load24 rfl _ rfl G 0 rfl _ rQ ?_)
        | (refine load24 rfl _ rfl G' 0 rfl _ rR ?_)
        | (refine convS rfl _ rfl (.slice ca len cc) rfl t hc7 ?_)
        | (refine convS rfl _ rfl (.slice (some x) len cap) rfl t hd7 ?_))
      go_ret
      exact ⟨by simp, HB7.out⟩
end Go.Proofs.Ytihkkbbphdgagaa
