import Derived.Test.YtngmnlmagbfijabB7
namespace Go.Proofs.Ytngmnlmagbfijab
open Go.RowKit
theorem Mp.ne {w : World} {r n : Nat} {f : Int → Option Int} (h : Mp w r n f) {b : Nat} {cs : Array Value} {t : TypeId} {fr : Nat × Nat} (hb : w.heap[b]? = some (.cells cs t fr)) : b ≠ r := by
  obtain ⟨ps, ⟨es, c, h1, h2⟩, h3⟩ := h
  intro e; subst e; rw [hb] at h1; cases h1
theorem cells_ne {w : World} {a b : Nat} {cs ds : Array Value} {t u : TypeId} {fr gr : Nat × Nat} (ha : w.heap[a]? = some (.cells cs t fr)) (hb : w.heap[b]? = some (.cells ds u gr)) (h : t ≠ u) : a ≠ b := by
  intro e; subst e; rw [ha] at hb; cases hb; exact h rfl
theorem putM_heap (w : World) (r t : Nat) (o : Obj) {b : Nat} (h : b ≠ r) : ((w.drewN t).putObj r o).heap[b]? = w.heap[b]? := World.putObj_heap_other h
theorem WayAt.keep {w w' : World} {X : Nat → Prop} {m q n n' : Nat} {s : Pl} (h : WayAt w X m q n s) (hn : n ≤ n') (hq : w'.heap[q]? = w.heap[q]?) (hk : ∀ b, X b → b ≠ m → w'.heap[b]? = w.heap[b]?) : WayAt w' X m q n' s := by
  rcases h with ⟨h1, h2⟩ | ⟨h1, pm, h2, h3, h4, h5⟩ | ⟨h1, mo, h2, h3⟩
  · exact .inl ⟨h1, by rw [hq]; exact h2⟩
  · exact .inr (.inl ⟨h1, pm, by rw [hq]; exact h2, (h3.keep (hk pm h4 h5)).mono hn, h4, h5⟩)
  · refine .inr (.inr ⟨h1, mo, by rw [hq]; exact h2, ?_⟩)
    rcases h3 with h3 | ⟨pm, h3, h4, h5, h6⟩
    · exact .inl h3
    · exact .inr ⟨pm, h3, (h4.keep (hk pm h5 h6)).mono hn, h5, h6⟩
theorem WayAt.ofs {w : World} {X : Nat → Prop} {m q n : Nat} {s : Pl} {u : Int → Option Int} (h : WayAt w X m q n s) : WayAt w X m q n { s with wt := u } := h
theorem WayAt.ne {w : World} {X : Nat → Prop} {m q n k : Nat} {s : Pl} {f : Int → Option Int} (h : WayAt w X m q n s) (hM : Mp w m k f) : q ≠ m := by
  rcases h with ⟨h1, h2⟩ | ⟨h1, pm, h2, h3, h4, h5⟩ | ⟨h1, mo, h2, h3⟩
  · exact hM.ne h2
  · exact hM.ne h2
  · exact hM.ne h2
theorem setP_eq {s : Pl} (h : s.kind ≠ 2) (k v : Int) : setP s k v = { s with wt := upd s.wt k v } := by
  unfold setP; rw [if_neg h]
theorem ok_set {n : Nat} {s : Pl} (h : Okp n s) {k v : Int} (h1 : 1 ≤ k) (h2 : k ≤ 9223372036854775807) (h3 : 1 ≤ v) (h4 : v ≤ 8) : Okp (n + 1) (setP s k v) := (h.set h1 h2 h3 h4).mono (by omega)
section
variable (w : World)
theorem wayT1 {k : Nat} (h : k = 1) : wayT k = 76 := by subst h; rfl
theorem wayT2 {k : Nat} (h : k = 2) : wayT k = 79 := by subst h; rfl
theorem wayT3 {k : Nat} (h : k = 3) : wayT k = 82 := by subst h; rfl
theorem wayOf_any (k : Int) : Calls Try.prog 20 #[.int .i64 k] w fun e w' =>
    (k = 1 ∧ e = .returned (.iface 76 (.pointer (some ⟨w.heap.size, 0, none⟩))) ∧ w' = w.alloc (.cells #[.int .i64 0] 78)) ∨
    (k = 2 ∧ e = .returned (.iface 79 (.pointer (some ⟨w.heap.size + 1, 0, none⟩))) ∧ w' = (w.alloc (.map #[] 0)).alloc (.cells #[.map (some w.heap.size), .int .i64 0] 81)) ∨
    (k = 3 ∧ e = .returned (.iface 82 (.pointer (some ⟨w.heap.size, 0, none⟩))) ∧ w' = w.alloc (.cells #[.map none] 84)) ∨
    (k ≠ 1 ∧ k ≠ 2 ∧ k ≠ 3 ∧ e = .returned .nilIface ∧ w' = w) := by
  have hmm := @run_makeMap Try.prog
  by_cases h1 : k = 1
  · subst h1
    go_enter Try.func20, Try.ntmps20
    go_wp2
    go_ret
    exact .inl ⟨trivial, rfl, rfl⟩
  by_cases h2 : k = 2
  · subst h2
    go_enter Try.func20, Try.ntmps20
    go_wp2
    go_ret
    exact .inr (.inl ⟨trivial, by simp, rfl⟩)
  by_cases h3 : k = 3
  · subst h3
    go_enter Try.func20, Try.ntmps20
    go_wp2
    go_ret
    exact .inr (.inr (.inl ⟨trivial, rfl, rfl⟩))
  have g1 : (k == 1) = false := by simpa using h1
  have g2 : (k == 2) = false := by simpa using h2
  have g3 : (k == 3) = false := by simpa using h3
  go_enter Try.func20, Try.ntmps20
  go_wp2
  go_ret
  exact .inr (.inr (.inr ⟨h1, h2, h3, rfl, rfl⟩))
theorem new_pl (k : Nat) (hk : k = 1 ∨ k = 2 ∨ k = 3) (w1 : World) (q : Nat) (hb : Below w.heap.size w w1) (hW : WayAt w1 (fun b => w.heap.size ≤ b ∧ b < w1.heap.size + 2) w1.heap.size q 0 (start k)) (hq : w.heap.size ≤ q) (hq2 : q < w1.heap.size) :
    ∃ X : Nat → Prop, PlAt ((w1.alloc (.map #[] 0)).alloc (.cells #[.map (some w1.heap.size), .iface (wayT k) (.pointer (some ⟨q, 0, none⟩))] 55)) X (w1.heap.size + 1) 0 (start k) ∧ (∀ b, X b → w.heap.size ≤ b) ∧ Below w.heap.size w ((w1.alloc (.map #[] 0)).alloc (.cells #[.map (some w1.heap.size), .iface (wayT k) (.pointer (some ⟨q, 0, none⟩))] 55)) := by
  have hs := hb.size
  have hM := Mp.new w1
  have hkp : ∀ b, b < w1.heap.size → ((w1.alloc (.map #[] 0)).alloc (.cells #[.map (some w1.heap.size), .iface (wayT k) (.pointer (some ⟨q, 0, none⟩))] 55)).heap[b]? = w1.heap[b]? := fun b hb => by
    rw [Below.heap_alloc _ _ _ (by simp; omega), Below.heap_alloc _ _ _ hb]
  have hlt : ∀ pm, Mp w1 pm 0 (start k).ps → pm < w1.heap.size := fun pm h => h.lt
  refine ⟨fun b => w.heap.size ≤ b ∧ b < w1.heap.size + 2, ⟨w1.heap.size, q, by have := heap_alloc_last (w1.alloc (.map #[] 0)) (.cells #[.map (some w1.heap.size), .iface (wayT k) (.pointer (some ⟨q, 0, none⟩))] 55); rw [World.size_alloc] at this; exact this, hM.keep (Below.heap_alloc _ _ _ (by simp)), ?_, ⟨by omega, by omega⟩, ⟨hs, by omega⟩, ⟨hq, by omega⟩, fun b hb => by have := hb.2; simp; omega, Okp.start hk⟩, fun b hb => hb.1, (hb.alloc hs _).alloc (by simp; omega) _⟩
  rcases hW with ⟨h1, h2⟩ | ⟨h1, pm, h2, h3, h4, h5⟩ | ⟨h1, mo, h2, h3⟩
  · exact .inl ⟨h1, by rw [hkp q hq2]; exact h2⟩
  · exact .inr (.inl ⟨h1, pm, by rw [hkp q hq2]; exact h2, h3.keep (hkp pm h3.lt), h4, h5⟩)
  · refine .inr (.inr ⟨h1, mo, by rw [hkp q hq2]; exact h2, ?_⟩)
    rcases h3 with h3 | ⟨pm, h3, h4, h5, h6⟩
    · exact .inl h3
    · exact .inr ⟨pm, h3, h4.keep (hkp pm h4.lt), h5, h6⟩
set_option maxHeartbeats 1000000 in
theorem New_any (k : Nat) (hk : k = 1 ∨ k = 2 ∨ k = 3) : Calls Try.prog 8 #[.int .i64 (k : Nat)] w fun e w' => ∃ (g : Nat) (X : Nat → Prop), e = .returned (.tuple #[.pointer (some ⟨g, 0, none⟩), .int .i64 0]) ∧ PlAt w' X g 0 (start k) ∧ (∀ b, X b → w.heap.size ≤ b) ∧ Below w.heap.size w w' := by
  have hmm := @run_makeMap Try.prog
  go_enter Try.func8, Try.ntmps8
  go_wp2_with fail
  refine (wayOf_any w (k : Nat)).mono ?_
  rintro e w1 (⟨hk1, rfl, rfl⟩ | ⟨hk2, rfl, rfl⟩ | ⟨hk3, rfl, rfl⟩ | ⟨h1, h2, h3, _, _⟩)
  · obtain rfl : k = 1 := by omega
    go_wp2
    go_ret2
    obtain ⟨X, h1, h2, h3⟩ := new_pl w 1 (.inl rfl) (w.alloc (.cells #[.int .i64 0] 78)) w.heap.size ((Below.refl _ w).alloc (Nat.le_refl _) _) (.inl ⟨rfl, heap_alloc_last w _⟩) (by simp) (by simp)
    simp only [World.size_alloc] at h1 h2 h3
    exact ⟨_, X, rfl, h1, h2, h3⟩
  · obtain rfl : k = 2 := by omega
    go_wp2
    go_ret2
    have hM := Mp.new w
    obtain ⟨X, h1, h2, h3⟩ := new_pl w 2 (.inr (.inl rfl)) ((w.alloc (.map #[] 0)).alloc (.cells #[.map (some w.heap.size), .int .i64 0] 81)) (w.heap.size + 1) (((Below.refl _ w).alloc (Nat.le_refl _) _).alloc (by simp) _) (.inr (.inl ⟨rfl, w.heap.size, by have := heap_alloc_last (w.alloc (.map #[] 0)) (.cells #[.map (some w.heap.size), .int .i64 0] 81); rw [World.size_alloc] at this; exact this, hM.keep (Below.heap_alloc _ _ _ (by simp)), ⟨Nat.le_refl _, by simp; omega⟩, by simp; omega⟩)) (by simp) (by simp)
    simp only [World.size_alloc] at h1 h2 h3
    exact ⟨_, X, rfl, h1, h2, h3⟩
  · obtain rfl : k = 3 := by omega
    go_wp2
    go_ret2
    obtain ⟨X, h1, h2, h3⟩ := new_pl w 3 (.inr (.inr rfl)) (w.alloc (.cells #[.map none] 84)) w.heap.size ((Below.refl _ w).alloc (Nat.le_refl _) _) (.inr (.inr ⟨rfl, none, heap_alloc_last w _, .inl ⟨rfl, fun _ => rfl⟩⟩)) (by simp) (by simp)
    simp only [World.size_alloc] at h1 h2 h3
    exact ⟨_, X, rfl, h1, h2, h3⟩
  · exfalso; omega
set_option maxHeartbeats 1000000 in
theorem Set_bad (g : Nat) (k v : Int) (h : ¬ (1 ≤ k ∧ 1 ≤ v ∧ v ≤ 8)) : Calls Try.prog 10 #[.pointer (some ⟨g, 0, none⟩), .int .i64 k, .int .i64 v] w fun e w' => e = .returned (.int .i64 1) ∧ w' = w := by
  go_enter Try.func10, Try.ntmps10
  by_cases h1 : k < 1
  · go_wp2
    go_ret
    exact ⟨rfl, rfl⟩
  by_cases h2 : v < 1
  · go_wp2
    go_ret
    exact ⟨rfl, rfl⟩
  have h3 : 8 < v := by omega
  go_wp2
  go_ret
  exact ⟨rfl, rfl⟩
set_option maxRecDepth 100000 in
set_option maxHeartbeats 1000000 in
theorem Set_any (g n : Nat) (X : Nat → Prop) (s : Pl) (hP : PlAt w X g n s) (k v : Int) (h1 : 1 ≤ k) (h2 : 1 ≤ v) (h3 : v ≤ 8) (h4 : k ≤ 9223372036854775807) (hn : n ≤ 4194304) : Calls Try.prog 10 #[.pointer (some ⟨g, 0, none⟩), .int .i64 k, .int .i64 v] w fun e w' => e = .returned (.int .i64 0) ∧ PlAt w' X g (n + 1) (setP s k v) ∧ Mod X w w' := by
  obtain ⟨m, q, hP⟩ := hP
  have c0 := cell_of_row _ _ 0 _ _ _ hP.top
  have c1 := cell_of_row _ _ 1 _ _ _ hP.top
  simp only [List.getElem?_toArray, List.getElem?_cons_zero, List.getElem?_cons_succ] at c0 c1
  obtain ⟨es, ck, hput, hM2, _⟩ := hP.wts.put k v
  have hgm : g ≠ m := hP.wts.ne hP.top
  have hqm : q ≠ m := hP.way.ne hP.wts
  have c1' : (w.putObj m (.map es ck)).cell? ⟨g, 1, none⟩ = some (.iface (wayT s.kind) (.pointer (some ⟨q, 0, none⟩))) := by
    have := cell_of_row (w.putObj m (.map es ck)) g 1 _ _ _ (by rw [World.putObj_heap_other hgm]; exact hP.top)
    simpa using this
  have hW := hP.way.keep (n' := n) (w' := w.putObj m (.map es ck)) (Nat.le_refl _) (World.putObj_heap_other hqm) (fun b _ hb => World.putObj_heap_other hb)
  have hT : (w.putObj m (.map es ck)).heap[g]? = some (.cells #[.map (some m), .iface (wayT s.kind) (.pointer (some ⟨q, 0, none⟩))] 55 (0, 0)) := by rw [World.putObj_heap_other hgm]; exact hP.top
  have hO := ok_set hP.ok h1 h4 h2 h3
  have hMd : Mod X w (w.putObj m (.map es ck)) := (Mod.refl X w).putObj (.inl hP.xm) _
  have hlt : ∀ b, X b → b < (w.putObj m (.map es ck)).heap.size := fun b hb => by have := hP.lt b hb; simpa [World.putObj] using this
  have HQ := hide (And.intro hP.xg (And.intro hP.xm (And.intro hP.xq (And.intro hM2 (And.intro hW (And.intro hT (And.intro hO (And.intro hMd hlt))))))))
  have hk := hP.ok.kind
  have hl := hP.ok.last
  clear hM2 hP hW hT hO hMd hlt
  have main : ∀ (w1 : World), Mod X w w1 → PlM w1 X g m q (n + 1) (setP s k v) → PlAt w1 X g (n + 1) (setP s k v) ∧ Mod X w w1 := fun w1 h1 h2 => ⟨⟨m, q, h2⟩, h1⟩
  rcases hk with e | e | e
  · rw [wayT1 e] at c1 c1'
    go_enter Try.func10, Try.ntmps10
    go_upto_region 4 with fail
    generalize w.putObj m (.map es ck) = w1 at *
    go_wp2_with fail
    refine (tset_any w1 q k v).mono ?_
    rintro e2 w2 ⟨rfl, rfl⟩
    go_wp2
    go_ret
    obtain ⟨xg, xm, xq, hM2, hW, hT, hO, hMd, hlt⟩ := HQ.out
    refine ⟨rfl, main _ hMd ?_⟩
    rw [setP_eq (by omega)] at hO ⊢
    exact ⟨hT, hM2, (hW.keep (n' := n + 1) (by omega) rfl (fun _ _ _ => rfl)).ofs, xg, xm, xq, hlt, hO⟩
  · rw [wayT2 e] at c1 c1'
    obtain ⟨xg, xm, xq, hM2, hW, hT, hO, hMd, hlt⟩ := HQ.out
    obtain ⟨pm, hq, hp, xp, hpm⟩ : ∃ pm, (w.putObj m (.map es ck)).heap[q]? = some (.cells #[.map (some pm), .int .i64 s.last] 81 (0, 0)) ∧ Mp (w.putObj m (.map es ck)) pm n s.ps ∧ X pm ∧ pm ≠ m := by
      rcases hW with ⟨h1, h2⟩ | ⟨h1, h2⟩ | ⟨h1, h2⟩
      · omega
      · exact h2
      · omega
    have hl2 := hl e
    go_enter Try.func10, Try.ntmps10
    go_upto_region 4 with fail
    generalize w.putObj m (.map es ck) = w1 at *
    have HH := hide (And.intro hq (And.intro hp (And.intro hM2 (And.intro hT (And.intro hO (And.intro hMd hlt))))))
    clear hW hq hp hM2 hT hO hMd hlt
    go_wp2_with fail
    refine (sset_any w1 q pm n k v s.last s.ps HH.out.1 HH.out.2.1 h2 h3 hl2.1 (by omega)).mono ?_
    rintro e2 w2 ⟨rfl, t, es2, ck2, hw2, hp2⟩
    have HP2 := hide (And.intro hw2 hp2)
    clear hw2 hp2
    go_wp2
    go_ret
    obtain ⟨hq, hp, hM2, hT, hO, hMd, hlt⟩ := HH.out
    obtain ⟨rfl, hp2⟩ := HP2.out
    refine ⟨rfl, main _ (hMd.trans ⟨rfl, rfl, rfl, by simp [World.putObj, World.drewN], fun b _ hb => putM_heap _ _ _ _ (fun e => by subst e; exact hb xp)⟩) ?_⟩
    have hg2 := hp.ne hT
    have hq2 := hp.ne hq
    have e3 : setP s k v = { s with wt := upd s.wt k v, ps := upd s.ps k (min (val s.ps k) (s.last + stp v)) } := by
      unfold setP; rw [if_pos e]; rfl
    rw [e3] at hO ⊢
    exact ⟨(putM_heap _ _ _ _ hg2).trans hT, hM2.keep (putM_heap _ _ _ _ hpm.symm), .inr (.inl ⟨e, pm, (putM_heap _ _ _ _ hq2).trans hq, hp2, xp, hpm⟩), xg, xm, xq, fun b hb => by have := hlt b hb; simpa [World.putObj, World.drewN] using this, hO⟩
  · rw [wayT3 e] at c1 c1'
    go_enter Try.func10, Try.ntmps10
    go_upto_region 4 with fail
    generalize w.putObj m (.map es ck) = w1 at *
    go_wp2_with fail
    refine (rset_any w1 q k v).mono ?_
    rintro e2 w2 ⟨rfl, rfl⟩
    go_wp2
    go_ret
    obtain ⟨xg, xm, xq, hM2, hW, hT, hO, hMd, hlt⟩ := HQ.out
    refine ⟨rfl, main _ hMd ?_⟩
    rw [setP_eq (by omega)] at hO ⊢
    exact ⟨hT, hM2, (hW.keep (n' := n + 1) (by omega) rfl (fun _ _ _ => rfl)).ofs, xg, xm, xq, hlt, hO⟩
end
end Go.Proofs.Ytngmnlmagbfijab
