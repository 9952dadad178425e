import Derived.Test.YtoddadohmnaolaaEP
import Derived.Sort.QuietTacIn
import Derived.RegionIn
namespace Go.Proofs.Ytoddadohmnaolaa
open Go.RowKit Go.Shelf
attribute [local go_sem] Oper.semAt_some

theorem asked_wide (P : Program) (o : Oper) (a : Act) (C : World → Prop) : o.askedIn Fence.wide P a C := by
  intro w _ f _
  trivial
theorem keepsOthers_below {W W' : World} (h : Below W.heap.size W W') : KeepsOthers W W' := ⟨h.size, fun k _ hk _ => (h.block k (Array.getElem?_eq_some_iff.1 hk).1).trans hk⟩
theorem boxed_below {w w' : World} {B : Nat} {t : TypeId} {v : Value} (h : Boxed w B t v) (hb : Below w.heap.size w w') : Boxed w' B t v := (hb.block B h.lt).trans h
theorem own_low {w : World} {base base' : Nat} {e : TypeId} {size : Nat} {v : Value} {n : Nat} {xs : List Value} (h : w.ownsRow base e size v n xs) (hb : base' ≤ base) : w.ownsRow base' e size v n xs := by
  obtain ⟨h1, h2 | ⟨g, cap, cur, h2, h3, h4, h5⟩⟩ := h
  · exact ⟨h1, .inl h2⟩
  · exact ⟨h1, .inr ⟨g, cap, cur, h2, Nat.le_trans hb h3, h4, h5⟩⟩
/-- a child of e -/
def kid (rs : List (Option Er)) (e : Int) (k : Nat) : Bool := match rs[k]? with | some (some r) => decide (r.pa = e) | _ => false
theorem kid_at {rs : List (Option Er)} {e : Int} {k : Nat} {r : Er} (h : rs[k]? = some (some r)) : kid rs e k = decide (r.pa = e) := by unfold kid; rw [h]
theorem kid_lv {rs : List (Option Er)} {e : Int} {k : Nat} (h : kid rs e k = true) : Lv rs k := by
  unfold kid at h
  split at h
  · exact ⟨_, by assumption⟩
  · cases h
def fitK (rs : List (Option Er)) (e : Int) (ps : List Nat) : List Nat := ps.filter (kid rs e)
/-- the children, by number -/
def kidsU (rs : List (Option Er)) (e : Int) : List Nat := fitK rs e ((prs rs 0).map Prod.fst)
theorem fitK_yes {rs : List (Option Er)} {e : Int} {ps : List Nat} {k : Nat} (h : kid rs e k = true) : fitK rs e (ps ++ [k]) = fitK rs e ps ++ [k] := by simp [fitK, h]
theorem fitK_no {rs : List (Option Er)} {e : Int} {ps : List Nat} {k : Nat} (h : kid rs e k = false) : fitK rs e (ps ++ [k]) = fitK rs e ps := by simp [fitK, h]
theorem fitK_le (rs : List (Option Er)) (e : Int) (ps : List Nat) : (fitK rs e ps).length ≤ ps.length := List.length_filter_le _ _
theorem prsL_same {α β : Type} : ∀ (a : List (Option α)) (b : List (Option β)) (s : Nat), a.length = b.length → (∀ i : Nat, a[i]? = some none ↔ b[i]? = some none) → (prsL s a).map Prod.fst = (prsL s b).map Prod.fst
  | [], [], _, _, _ => rfl
  | [], _ :: _, _, h, _ => by simp at h
  | _ :: _, [], _, h, _ => by simp at h
  | x :: a, y :: b, s, h, hh => by
    have ih := prsL_same a b (s + 1) (by simpa using h) (fun i => by simpa using hh (i + 1))
    have h0 := hh 0
    simp at h0
    cases x with
    | none => obtain rfl := h0.1 rfl; exact ih
    | some x =>
      cases y with
      | none => exact absurd (h0.2 rfl) (by simp)
      | some y => simp only [prsL, List.map_cons, ih]
theorem EtAt.fsts {w : World} {F : Nat → Prop} {T S : Nat} {G : Nat → Prop} {m : List (Option Nat)} {rs : List (Option Er)} {last : Int} (h : EtAt w F T S G m rs last) : (prs m 0).map Prod.fst = (prs rs 0).map Prod.fst := by
  unfold prs
  refine prsL_same _ _ _ (by simp [h.len, h.rlen]) (fun i => ?_)
  simp only [List.drop_zero]
  constructor
  · exact h.free i
  · intro hi
    have hl : i < m.length := by rw [h.len, ← h.rlen]; exact (List.getElem?_eq_some_iff.1 hi).1
    cases hm : m[i]? with
    | none => rw [List.getElem?_eq_none_iff] at hm; omega
    | some o =>
      cases o with
      | none => rfl
      | some b => obtain ⟨e, h1, _⟩ := h.held i b hm; rw [hi] at h1; cases h1
set_option maxRecDepth 100000 in
set_option maxHeartbeats 8000000 in
theorem children_in (n : Nat) (hn : 3 ≤ n) (w : World) (F : Nat → Prop) (T : Nat) (rs : List (Option Er)) (last : Int) (S : Nat) (G : Nat → Prop) (m : List (Option Nat)) (h : EtAt w F T S G m rs last) (hD : Dis rs) (e : Int) :
    CallsIn Fence.wide n Try.prog 64 #[.pointer (some ⟨T, 0, none⟩), .int .i64 e] w fun x W' => ∃ v ts, x = .returned v ∧ List.Perm ts (kidsU rs e) ∧ ts.Pairwise (fun a b => ser rs a ≤ ser rs b) ∧ W'.ownsRow w.heap.size 3 1 v ts.length (numN ts) ∧ Below w.heap.size w W' := by
  have h1 : 1 ≤ n := by omega
  obtain ⟨i3, hi, hz, hs, hb⟩ := info3'
  have cT := fun o o' o'' => (h.keep (w' := ((w.alloc o).alloc o').alloc o'') (by simp; omega) (fun b hb => by
    have := h.lt b hb
    rw [Below.heap_alloc _ _ _ (by simp; omega), Below.heap_alloc _ _ _ (by simp; omega), Below.heap_alloc _ _ _ this])).cell.1
  refine callsIn_of_wp_marks Try.func64 rfl trivial ?_ rfl
  simp only [Try.ntmps64, List.size_toArray, List.length_cons, List.length_nil, Nat.reduceAdd, Nat.reduceSub, Array.replicate_succ, Array.replicate_zero, List.push_toArray, List.append_toArray, List.nil_append, List.cons_append]
  gi_wp2_with fail
  refine ⟨trivial, (allL_in S (n - 1) _).mono ?_⟩
  rintro e' w' ⟨rfl, rfl⟩
  gi_wp2_with fail
  -- the range
  have c0 := ((Boxed.new w 23 (.pointer (some ⟨T, 0, none⟩))).alloc (.cells #[.int .i64 e] 3)).alloc (.cells #[.slice none 0 0] 22)
  have c1 := (Boxed.new (w.alloc (.cells #[.pointer (some ⟨T, 0, none⟩)] 23)) 3 (.int .i64 e)).alloc (.cells #[.slice none 0 0] 22)
  have c2 := Boxed.new ((w.alloc (.cells #[.pointer (some ⟨T, 0, none⟩)] 23)).alloc (.cells #[.int .i64 e] 3)) 22 (.slice none 0 0)
  have hbox := heap_alloc_new (((w.alloc (.cells #[.pointer (some ⟨T, 0, none⟩)] 23)).alloc (.cells #[.int .i64 e] 3)).alloc (.cells #[.slice none 0 0] 22)) (.cells #[.pointer (some ⟨S, 0, none⟩)] 75)
  have hB0 : Below w.heap.size w ((((w.alloc (.cells #[.pointer (some ⟨T, 0, none⟩)] 23)).alloc (.cells #[.int .i64 e] 3)).alloc (.cells #[.slice none 0 0] 22)).alloc (.cells #[.pointer (some ⟨S, 0, none⟩)] 75)) := ((((Below.refl _ w).alloc (Nat.le_refl _) _).alloc (by simp) _).alloc (by simp; omega) _).alloc (by simp; omega) _
  have hsz : ((((w.alloc (.cells #[.pointer (some ⟨T, 0, none⟩)] 23)).alloc (.cells #[.int .i64 e] 3)).alloc (.cells #[.slice none 0 0] 22)).alloc (.cells #[.pointer (some ⟨S, 0, none⟩)] 75)).heap.size = w.heap.size + 4 := by simp
  have c0' := c0.alloc (.cells #[.pointer (some ⟨S, 0, none⟩)] 75)
  have c1' := c1.alloc (.cells #[.pointer (some ⟨S, 0, none⟩)] 75)
  have c2' := c2.alloc (.cells #[.pointer (some ⟨S, 0, none⟩)] 75)
  simp only [World.size_alloc] at c1' c2' hbox
  clear c0 c1 c2 cT
  generalize ((((w.alloc (.cells #[.pointer (some ⟨T, 0, none⟩)] 23)).alloc (.cells #[.int .i64 e] 3)).alloc (.cells #[.slice none 0 0] 22)).alloc (.cells #[.pointer (some ⟨S, 0, none⟩)] 75)) = W0 at *
  have hT := h.tab
  have hG : ∀ b, (G b ∨ b = (w.heap.size + 1 + 1 + 1)) → b < W0.heap.size := by
    rintro b (hb | rfl)
    · have := hT.lt b hb; omega
    · omega
  have hFl : ∀ b, G b → b < w.heap.size := hT.lt
  have hlen : (prs m 0).length ≤ 16 := by rw [prs_len, ← h.len]; exact count_le
  refine wpIn_rangeFunc_ownH rfl h1 (gf := 65) (lb := #[.pointer (some ⟨(w.heap.size + 1 + 1 + 1), 0, none⟩)]) rfl trivial (enters_of Try.func65 (by kernel_rfl) rfl)
    (allL_stops (n - 1) (by omega) (w.heap.size + 1 + 1 + 1) S G m _ hbox (hT.below hB0)) keepF_t (keepF_b hG) (Below.refl _ _) (fun _ => rfl)
    (fun pre W => ((∃ v, Boxed W (w.heap.size + 1 + 1) 22 v ∧ W.ownsRow (w.heap.size + 4) 3 1 v (fitK rs e (pre.map (fun x => x.1.1))).length (numN (fitK rs e (pre.map (fun x => x.1.1)))) ∧ True) ∧ Boxed W w.heap.size 23 (.pointer (some ⟨T, 0, none⟩)) ∧ Boxed W (w.heap.size + 1) 3 (.int .i64 e) ∧ Boxed W (w.heap.size + 1 + 1 + 1) 75 (.pointer (some ⟨S, 0, none⟩)) ∧ pre.length ≤ (prs m 0).length) ∧ Below w.heap.size w W)
    (fun _ _ _ => False)
    (OwnFrom.and (Own.from (fun s A A' row hs hg hr => ⟨holdsRow_own (w.heap.size + 4) (w.heap.size + 1 + 1) 22 3 1 (fun s : List { x : Nat × Nat // m[x.1]? = some (some x.2) } => (fitK rs e (s.map (fun x => x.1.1))).length) (fun s => numN (fitK rs e (s.map (fun x => x.1.1)))) (fun _ _ => True) s A A' row hs.1 hg hr,
        hs.2.1.kept hg (fun e9 => by obtain ⟨o, h1, h2⟩ := hr _ e9.symm; rw [show A.heap[w.heap.size]? = _ from hs.2.1] at h1; cases h1; cases h2),
        hs.2.2.1.kept hg (fun e9 => by obtain ⟨o, h1, h2⟩ := hr _ e9.symm; rw [show A.heap[(w.heap.size + 1)]? = _ from hs.2.2.1] at h1; cases h1; cases h2),
        hs.2.2.2.1.kept hg (fun e9 => by obtain ⟨o, h1, h2⟩ := hr _ e9.symm; rw [show A.heap[(w.heap.size + 1 + 1 + 1)]? = _ from hs.2.2.2.1] at h1; cases h1; cases h2), hs.2.2.2.2⟩) _) (ownFrom_below (Nat.le_refl _) (by omega)))
    (fun _ _ _ _ _ hs _ _ => hs)
    ⟨⟨⟨_, c2', ⟨rfl, .inl ⟨rfl, rfl⟩⟩, trivial⟩, c0', c1', hbox, by simp⟩, hB0⟩
    (fun x a' _ => a' = { tmps := #[.pointer (some ⟨T, 0, none⟩), .int .i64 e, .pointer (some ⟨w.heap.size, 0, none⟩), .pointer (some ⟨(w.heap.size + 1), 0, none⟩), .slice none 0 0, .pointer (some ⟨(w.heap.size + 1 + 1), 0, none⟩), .int .i64 (x.1.1 : Nat), .pointer (some ⟨x.1.2, 0, none⟩), .pointer (some ⟨T, 0, none⟩), .pointer (some ⟨T, 0, none⟩), .pointer (some ⟨T, 0, none⟩), .pointer (some ⟨S, 0, none⟩), .func (.func 65) #[] #[.pointer (some ⟨(w.heap.size + 1 + 1 + 1), 0, none⟩)], .int .i64 (x.1.1 : Nat), .pointer (some ⟨x.1.2, 0, none⟩), undef, undef, undef, undef, undef, undef, undef, undef, undef, undef, undef, undef, undef, undef, undef], defers := [] })
    (fun _ _ _ _ _ _ hs _ _ => hs)
    ?assign ?body ?done ?stop
  case assign =>
    rintro l pre x W K hi' hK
    obtain ⟨⟨xi, xb⟩, hx⟩ := x
    gi_wp2
    exact hK _ _ (KeepsFrom.refl _ _) ⟨Nat.le_refl _, fun _ _ => rfl⟩ hi' rfl
  case body =>
    rintro l pre x a' W hl ⟨r, hr⟩ ⟨⟨⟨v, bS, hown, _⟩, bT, bE, bA, hpl⟩, hB⟩ rfl hlt
    obtain ⟨⟨xi, xb⟩, hx⟩ := x
    obtain ⟨rec, hr1, hr2⟩ := h.held xi xb hx
    have hRb := hr2.keep (hB.block xb hr2.lt)
    have cP := hRb.get (j := 1) rfl
    have cE := bE.cell
    have hkid := kid_at (e := e) hr1
    have hpre : (fitK rs e (pre.map (fun x => x.1.1))).length ≤ 16 := by have := fitK_le rs e (pre.map (fun x => x.1.1)); simp at this; omega
    have bd0 : ∀ nq : Nat, Below W.heap.size W (W.drewN nq) := fun nq => ⟨rfl, rfl, rfl, Nat.le_refl _, fun _ _ => rfl⟩
    clear hr1 hr2 hRb
    generalize rec.pa = pa at *
    gi_wp2_with fail
    have hb2 : Below W.heap.size W W.drew := ⟨rfl, rfl, rfl, Nat.le_refl _, fun _ _ => rfl⟩
    have bS2 := boxed_below bS hb2
    have bT2 := boxed_below bT hb2
    have bE2 := boxed_below bE hb2
    have bA2 := boxed_below bA hb2
    have hown2 := own_below hown hb2
    have hB2 := hB.trans (hb2.mono hB.size)
    have hK2 : KeepF (fun b => G b ∨ b = (w.heap.size + 1 + 1 + 1)) W W.drew := ⟨hb2.size, fun b hb' => hb2.block b (by rcases hb' with hb' | rfl; have := hFl b hb'; have := hB.size; omega; exact bA.lt)⟩
    have hO2 := (keepsOthers_below hb2).from W0.heap.size
    obtain ⟨ao, co, rfl⟩ := own_shape hown2
    have HF := hide (And.intro bS2 (And.intro bT2 (And.intro bE2 (And.intro bA2 (And.intro hown2 (And.intro hB2 (And.intro hK2 hO2)))))))
    clear bS bT bE bA hown hB hb2 bd0 bS2 bT2 bE2 bA2 hown2 hB2 hK2 hO2
    by_cases hpe : pa = e
    · have hP : kid rs e xi = true := by rw [hkid]; simp [hpe]
      subst hpe
      clear hkid
      gi_region
      all_goals
        obtain ⟨bS2, bT2, bE2, bA2, hown2, hB2, hK2, hO2⟩ := HF.out
        generalize W.drew = W2 at *
        have cS := bS2.cell
        have hA4 := bA2.lt
        gi_wp2_with (gi_at_builtin; refine wpListIn_append_own_at _ rfl _ _ 22 rfl (w.heap.size + 4) 3 i3 (.int .i64 0) 1 8 Try.underlying22 hi hz hs hb rfl (by decide) _ _ _ rfl (hown2.alloc _) ⟨W2.heap.size, 0, none⟩ 1 1 [.int .i64 (xi : Int)] rfl rfl (cell_one_new _ _ _) (by simp [Value.oneCell']) (by unfold maxLen; omega) (by omega) (by simp; omega) ?_; intro v' w3 hown3 hg3 _ _
                     obtain ⟨gg, cap, rfl⟩ := ownsRow_succ hown3
                     obtain ⟨b1, b2, _, b4, b5⟩ := Boxed.appended bS2 (by decide) (own_low hown2 (show w.heap.size ≤ w.heap.size + 4 by omega)) hB2.size (by omega) (own_low hown3 (show w.heap.size ≤ w.heap.size + 4 by omega)) hg3
                     have b3 := hown3.kept (grownBy_setCell' w3 (w.heap.size + 1 + 1) (.slice (some ⟨gg, 0, none⟩) ((fitK rs pa (pre.map (fun x => x.1.1))).length + 1) cap)) (.inr (b1.not_row (by decide) hown3).symm)
                     have b6 := (bT2.alloc (.cells #[.int .i64 (xi : Int)] 3)).kept hg3 (bT2.not_row (by decide) hown2)
                     have b7 := (bA2.alloc (.cells #[.int .i64 (xi : Int)] 3)).kept hg3 (bA2.not_row (by decide) hown2)
                     have b8 := (bE2.alloc (.cells #[.int .i64 (xi : Int)] 3)).kept hg3 (fun e9 => by have := (World.ownsRow.lt hown2 _ e9.symm).1; omega)
                     have cB := b1.cell
                     have fB := b1.frozen)
        refine ⟨hO2.trans (b4.from _), keepF_t hK2 ⟨b5.size, fun b hb' => ?_⟩, ⟨⟨_, b2, ?_, trivial⟩, b6.other (by omega) _, b8.other (by omega) _, b7.other (by omega) _, by simp; omega⟩, hB2.trans b5⟩
        · rcases hb' with hb' | rfl
          · exact b5.block b (hFl b hb')
          · exact (b7.other (by omega) _).trans bA2.symm
        · rw [List.map_append, List.map_cons, List.map_nil, fitK_yes hP, List.length_append]
          have e9 : numN (fitK rs pa (List.map (fun x => x.1.1) pre) ++ [xi]) = numN (fitK rs pa (List.map (fun x => x.1.1) pre)) ++ [.int .i64 (xi : Int)] := by simp [numN]
          rw [e9]
          exact b3
    · have hP : kid rs e xi = false := by rw [hkid]; simp [hpe]
      have hd : decide (pa = e) = false := by simp [hpe]
      clear hkid
      gi_region
      all_goals
        obtain ⟨bS2, bT2, bE2, bA2, hown2, hB2, hK2, hO2⟩ := HF.out
        generalize W.drew = W2 at *
        have cS := bS2.cell
        have hA4 := bA2.lt
        gi_wp2
        refine ⟨hO2, hK2, ⟨⟨_, bS2, ?_, trivial⟩, bT2, bE2, bA2, by simp; omega⟩, hB2⟩
        rw [List.map_append, List.map_cons, List.map_nil, fitK_no hP]
        exact hown2
  case done =>
    rintro D ys W hDl hys ⟨⟨⟨v, bS, hown, _⟩, bT, bE, bA, hpl⟩, hB⟩ hK
    have hE : Et W F T rs last := ⟨S, G, m, h.keep hB.size (fun b hb => hB.block b (h.lt b hb))⟩
    have hk : fitK rs e (ys.map (fun x => x.1.1)) = kidsU rs e := by
      unfold kidsU
      rw [← h.fsts, ← hys, List.map_map]
      rfl
    rw [hk] at hown
    have hkl : (kidsU rs e).length ≤ 16 := by
      rw [← hk]
      have := fitK_le rs e (ys.map (fun x => x.1.1))
      simp at this
      omega
    obtain ⟨ao, co, rfl⟩ := own_shape hown
    have cS := bS.cell
    have HSo := hide (sortK_any W F T rs last hE hD w.heap.size 23 bT (w.heap.size + 4) _ (kidsU rs e) (fun k hk' => by
      unfold kidsU fitK at hk'
      exact kid_lv (List.mem_filter.1 hk').2) hown (fun b hb' => by
      have h9 := (World.ownsRow.lt hown b hb').1
      exact ⟨fun hf => by have := h.lt b hf; omega, by omega⟩) (by omega))
    gi_wp2_with fail
    refine ⟨trivial, (callsIn_wide.2 HSo.out).mono ?_⟩
    rintro e' w2 ⟨rfl, ts, hp, hpw, hrow2, hg⟩
    have bS2 := bS.kept hg (fun e9 => by have := (World.ownsRow.lt hown _ e9.symm).1; omega)
    have cS2 := bS2.cell
    have hB3 : Below w.heap.size w w2 := hB.grown hg hB.size (fun j ej => by have := (World.ownsRow.lt hown j ej).1; omega)
    have hKD : w2.heap[D]? = W.heap[D]? := hg.block D (Array.getElem?_eq_some_iff.1 hK).1 (fun e9 => by
      obtain ⟨_, ⟨h9, _⟩ | ⟨g9, cp9, cu9, h9, _, hc9, _⟩⟩ := hown
      · rw [h9] at e9; simp [Value.ownBlock] at e9
      · cases h9
        have e8 : D = g9 := by simpa [Value.ownBlock] using e9
        rw [← e8, hK] at hc9
        cases hc9)
    rw [← hKD] at hK
    clear HSo cS
    gi_wp2
    refine ⟨by simp, .inl ⟨_, _, rfl, run_takeDeferred hK, ?_⟩⟩
    refine ⟨_, results_tmp rfl _ _ _, _, ts, rfl, hp, hpw, ?_, hB3.trans (belowK_b (w := w) (Nat.le_refl _) w2 D _ _ (by omega) hK rfl rfl)⟩
    have h9 := own_low hrow2 (show w.heap.size ≤ w.heap.size + 4 by omega)
    exact ownsRow_putObj h9 _ hK rfl
  case stop =>
    rintro D c pre W _ _ h _
    exact h.elim
end Go.Proofs.Ytoddadohmnaolaa
