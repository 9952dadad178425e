import Derived.Test.YtjpnjgbcmodnoaaXB
namespace Go.Proofs.Ytjpnjgbcmodnoaa
open Go.RowKit Go.Shelf

theorem ext_grew {F F' : Nat → Prop} {a w w1 : World} (h : Ext F a F' w) {v v1 : Value} (hv : v.ownBlock = none) (k : Grew w v w1 v1) : Ext F a F' w1 :=
  ⟨⟨k.by'.os.trans h.mod.os, k.by'.tape.trans h.mod.tape, k.by'.output.trans h.mod.output, Nat.le_trans h.mod.size k.by'.size, fun b hb hf => (k.by'.block b (by have := h.mod.size; omega) (by rw [hv]; simp)).trans (h.mod.block b hb hf)⟩, h.new⟩
theorem plt_of {ts : List (Nat × Nat)} (h : ts.Pairwise (fun a b => ¬ PLt b a)) (hn : ts.Nodup) : ts.Pairwise PLt := by
  refine (h.and hn).imp (fun {a b} h => ?_)
  obtain ⟨h1, h2⟩ := h
  unfold PLt at *
  by_cases e : a.1 = b.1
  · by_cases e2 : a.2 = b.2
    · exact absurd (Prod.ext e e2) h2
    · omega
  · omega
set_option maxHeartbeats 1600000 in
theorem revokeNone_any (w : World) (F : Nat → Prop) (B : Nat) (bk : List (Option Lst)) (h : Book w F B bk) (e s : Int) (hn : atB bk e s = none) :
    Calls Try.prog 21 #[.pointer (some ⟨B, 0, none⟩), .int .i64 e, .int .i64 s] w fun x w' => x = .returned (.tuple #[.slice none 0 0, .int .i64 (lcode bk e s)]) ∧ Below w.heap.size w w' := by
  have HL := hide (look_any w F B bk h e s)
  have hc : (lcode bk e s != 0) = true := by rcases lcode_none hn with h | h <;> rw [h] <;> decide
  rw [hn] at HL
  generalize lcode bk e s = c at *
  simp only [Rc.val, Rc.zero, Option.getD_none] at *
  clear h hn
  go_enter Try.func21, Try.ntmps21
  go_wp2_with fail
  refine HL.out.mono ?_
  rintro e1 w1 ⟨rfl, hb1⟩
  have HB := hide hb1
  clear hb1 HL
  go_wp2
  go_ret2
  exact ⟨rfl, HB.out.alloc HB.out.size _⟩
set_option maxHeartbeats 3200000 in
theorem revokeSome_any (w : World) (F : Nat → Prop) (B : Nat) (bk : List (Option Lst)) (h : Book w F B bk) (f : Int → Int → Nat) (hf : Rk bk f) (i j : Nat) (r : Rc) (hn : atB bk (i : Int) (j : Int) = some r) :
    Calls Try.prog 21 #[.pointer (some ⟨B, 0, none⟩), .int .i64 (i : Int), .int .i64 (j : Int)] w fun x w' => ∃ v ps n, x = .returned (.tuple #[v, .int .i64 0]) ∧ Dep n bk (i, j) ∧ ps.Pairwise PLt ∧ List.Perm ps (bel n bk (i, j)) ∧ w'.ownsRow w.heap.size 38 6 v ps.length (encT bk ps) ∧ Book w' F B (rmv bk ps) ∧ Ext F w F w' := by
  obtain ⟨M, hM⟩ := rk_top bk f
  have HD := hide (dep_of hf hM (M + 1) (i, j) (by omega))
  have HNd := hide (bel_nodup hf (M + 1) (i, j))
  have HLe := hide (bel_le h hf (M + 1) (i, j))
  have HMem : Hid (∀ p ∈ bel (M + 1) bk (i, j), ∃ r, atB bk (p.1 : Int) (p.2 : Int) = some r) := hide (fun p hp => bel_mem _ hp)
  have HL := hide (look_any w F B bk h i j)
  rw [hn, lcode_some hn] at HL
  simp only [Rc.val, Option.getD_some] at HL
  have HBk := hide h
  have HFl := hide h.lt
  clear h hn hM hf
  generalize M + 1 = n at *
  go_enter Try.func21, Try.ntmps21
  go_wp2_with fail
  refine HL.out.mono ?_
  rintro e1 w1 ⟨rfl, hb1⟩
  have hb2 := hb1.alloc hb1.size (.cells #[.int .i64 r.k, .int .i64 r.o, .int .i64 r.s, .int .i64 r.r, .int .i64 r.e, .int .i64 r.t] 68)
  have HB2 := hide hb2
  have H2 := hide (HBk.out.below hb2)
  clear hb1 hb2 HL
  go_upto_region 4 with fail
  generalize w1.alloc (.cells #[.int .i64 r.k, .int .i64 r.o, .int .i64 r.s, .int .i64 r.r, .int .i64 r.e, .int .i64 r.t] 68) = w2 at *
  go_wp2_with fail
  refine (below_any n w2 F B bk H2.out i j HD.out w.heap.size (.slice none 0 0) [] HB2.out.size ⟨rfl, .inl ⟨rfl, rfl⟩⟩ HFl.out (by rw [List.nil_append]; exact HLe.out)).mono ?_
  rintro e1 w3 ⟨v3, rfl, ho3, hg3⟩
  rw [List.nil_append] at ho3
  have HO3 := hide ho3
  have HE3 := hide (ext_grew (Ext.of_below (F := F) HB2.out) rfl hg3)
  have H3 : Hid (Book w3 F B bk) := hide (hg3.book (n := w.heap.size) (e := 45) (s := 2) (m := 0) (xs := []) H2.out HFl.out ⟨rfl, .inl ⟨rfl, rfl⟩⟩)
  clear ho3 hg3 H2 HB2
  go_wp2_with fail
  refine (sort_any w3 w.heap.size v3 _ HO3.out HLe.out).mono ?_
  rintro e1 w4 ⟨rfl, ts, hp, hs, ho4, hg4⟩
  have HE4 := hide (ext_own HE3.out HO3.out hg4.by')
  have H4 := hide (hg4.book H3.out HFl.out HO3.out)
  have HO4 := hide ho4
  have HP := hide hp
  have HS := hide (plt_of hs (hp.nodup_iff.2 HNd.out))
  have HT := hide (hp.nodup_iff.2 HNd.out)
  have hl4 : ts.length ≤ 768 := by rw [hp.length_eq]; exact HLe.out
  have HM4 : Hid (∀ p ∈ ts, ∃ r, atB bk (p.1 : Int) (p.2 : Int) = some r) := hide (fun p hq => HMem.out p (hp.mem_iff.1 hq))
  clear hp hs ho4 hg4 HO3 HE3 H3
  go_wp2_with fail
  refine (take_any w4 F B bk H4.out ts HT.out HM4.out hl4 w.heap.size v3 HO4.out HFl.out).mono ?_
  rintro e1 w5 ⟨v5, rfl, ho5, hB5, hE5⟩
  have K1 := hide (own_base ho5 HE4.out.mod.size)
  have K2 := hide hB5
  have K3 := hide (HE4.out.trans hE5)
  clear ho5 hB5 hE5
  go_wp2
  go_ret2
  exact ⟨_, ts, n, rfl, HD.out, HS.out, HP.out, K1.out, K2.out, K3.out⟩
end Go.Proofs.Ytjpnjgbcmodnoaa
