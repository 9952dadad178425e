import Derived.Test.YtbocpmcodlceoaaGreatMJ
namespace Go.Proofs.YtbocpmcodlceoaaGreat
open Go.RowKit Go.Shelf

section
variable {w : World} {F : Nat → Prop} {T B : Nat} {rs : List (Option Er)} {last : Int}
set_option maxHeartbeats 800000 in
theorem childrenT_any (h : Et w F T rs last) (hD : Dis rs) (k : Nat) (hk : Lv rs k) : Calls Tryz.prog 36 #[.pointer (some ⟨T, 0, none⟩), .int .i64 (k : Int)] w fun x w' => ∃ v, x = .returned (.tuple #[v, .int .i64 0]) ∧ w'.ownsRow w.heap.size 3 1 v (kids rs (k : Int)).length (numN (kids rs (k : Int))) ∧ Below w.heap.size w w' := by
  have HC := hide (children_any w F T last h hD (k : Int))
  obtain ⟨r, hr⟩ := hk
  obtain ⟨S, G, m, h⟩ := h
  have c0 := h.cell.1
  have HG := hide (getL_any _ G S m h.tab (k : Int))
  rcases h.cases (k : Int) with ⟨_, h1⟩ | ⟨k', b, r', e1, hm, h3, h4, _, hR⟩
  · rw [look_nat, hr] at h1; cases h1
  · obtain rfl : k = k' := by omega
    rw [h4] at HG
    simp only [ptr, Option.isSome_some] at HG
    clear h h4 hR
    go_enter Tryz.func36, Tryz.ntmps36
    go_wp2_with fail
    refine HG.out.mono ?_
    rintro e1 w1 ⟨rfl, rfl⟩
    go_wp2_with fail
    refine HC.out.mono ?_
    rintro e1 w2 ⟨v, rfl, ho, hb⟩
    obtain ⟨va, vc, rfl⟩ := own_shape ho
    have HO := hide ho
    have HB := hide hb
    clear ho hb
    go_wp2
    go_ret2
    exact ⟨_, rfl, HO.out, HB.out⟩
set_option maxHeartbeats 800000 in
theorem treeT_any (h : Et w F T rs last) (iv : Iv rs last) (k : Nat) (hk : Lv rs k) : Calls Tryz.prog 38 #[.pointer (some ⟨T, 0, none⟩), .int .i64 (k : Int)] w fun x w' => ∃ v, x = .returned (.tuple #[v, .int .i64 0]) ∧ w'.ownsRow w.heap.size 3 1 v (wk rs 17 k).length (numN (wk rs 17 k)) ∧ Below w.heap.size w w' := by
  have HC := hide (walk_any rs iv.tr.dis (fun n e => wk_len' iv.tr n e) (fun e => kids_len iv.tr e) 17 k w F T last h (dp17 iv.tr k))
  obtain ⟨r, hr⟩ := hk
  obtain ⟨S, G, m, h⟩ := h
  have c0 := h.cell.1
  have HG := hide (getL_any _ G S m h.tab (k : Int))
  rcases h.cases (k : Int) with ⟨_, h1⟩ | ⟨k', b, r', e1, hm, h3, h4, _, hR⟩
  · rw [look_nat, hr] at h1; cases h1
  · obtain rfl : k = k' := by omega
    rw [h4] at HG
    simp only [ptr, Option.isSome_some] at HG
    clear h h4 hR
    go_enter Tryz.func38, Tryz.ntmps38
    go_wp2_with fail
    refine HG.out.mono ?_
    rintro e1 w1 ⟨rfl, rfl⟩
    go_wp2_with fail
    refine HC.out.mono ?_
    rintro e1 w2 ⟨v, rfl, ho, hb⟩
    obtain ⟨va, vc, rfl⟩ := own_shape ho
    have HO := hide ho
    have HB := hide hb
    clear ho hb
    go_wp2
    go_ret2
    exact ⟨_, rfl, HO.out, HB.out⟩
set_option maxRecDepth 8000 in
set_option maxHeartbeats 3200000 in
theorem infoNone_any (h : Et w F T rs last) (e : Int) (hl : look rs e = none) : Calls Tryz.prog 13 #[.pointer (some ⟨T, 0, none⟩), .int .i64 e] w fun x w' => x = .returned (.tuple #[.agg Er.nil.head.toArray, .int .i64 90]) ∧ Below w.heap.size w w' := by
  have h0 : Eb (w.alloc (.cells Er.nil.head.toArray 46)) w.heap.size Er.nil := Eb.new _ _
  have hb0 := (Below.refl w.heap.size w).alloc (Nat.le_refl _) (.cells Er.nil.head.toArray 46)
  obtain ⟨S, G, m, h⟩ := h
  have h := h.below hb0
  have HB0 := hide hb0
  have H0 := hide h0
  clear hb0 h0
  go_enter Tryz.func13, Tryz.ntmps13
  go_upto_region 1 with fail
  show Code.wp _ _ _ _ (w.alloc (.cells Er.nil.head.toArray 46))
  generalize w.alloc (.cells Er.nil.head.toArray 46) = w1 at *
  have c0 := h.cell.1
  have HG := hide (getL_any _ G S m h.tab e)
  rcases h.cases e with ⟨h2, h1⟩ | ⟨k', b, r', e1, hm, h3, h4, _, hR⟩
  · rw [h2] at HG
    simp only [ptr, Option.isSome_none] at HG
    obtain ⟨t, ht⟩ : ∃ t, Er.nil = t := ⟨_, rfl⟩
    rw [ht] at H0
    have HT := hide ht
    have HE4 := hide (H0.out.lay t).out
    have HB4 := hide (below_setCells HB0.out (Nat.le_refl _) 0 t.head)
    clear ht
    clear h HB0
    go_wp2_with fail
    refine HG.out.mono ?_
    rintro e1 w2 ⟨rfl, rfl⟩
    go_wp2_with (refine storeE t ?nw _ _ rfl w.heap.size t ?nx ?ny ?nz ?_; rotate_left 4; generalize w2.setCells w.heap.size 0 t.head = w4 at *)
    try (case nw => rfl)
    try (case nx => rfl)
    try (case ny => rw [← HT.out]; rfl)
    try (case nz => exact H0.out)
    refine bodyPost_ret (results_row2 rfl _ _ w.heap.size 46 t.head.toArray (0, 0) _ rfl HE4.out Tryz.underlying46 rfl (by rw [List.size_toArray, head_len]; exact infoE)) rfl ?_
    exact ⟨by rw [HT.out]; rfl, HB4.out⟩
  · subst e1
    rw [look_nat, h3] at hl; cases hl
set_option maxHeartbeats 3200000 in
theorem childrenTNone_any (h : Et w F T rs last) (e : Int) (hn : look rs e = none) : Calls Tryz.prog 36 #[.pointer (some ⟨T, 0, none⟩), .int .i64 e] w fun x w' => x = .returned (.tuple #[.slice none 0 0, .int .i64 90]) ∧ w' = w := by
  obtain ⟨S, G, m, h⟩ := h
  have c0 := h.cell.1
  have HG := hide (getL_any _ G S m h.tab e)
  rcases h.cases e with ⟨h0, h1⟩ | ⟨k', b, r', e1, hm, h3, h4, h5, hR⟩
  · rw [h0] at HG
    simp only [ptr, Option.isSome_none] at HG
    clear h h0 h1 hn
    go_enter Tryz.func36, Tryz.ntmps36
    go_wp2_with fail
    refine HG.out.mono ?_
    rintro e1 w1 ⟨rfl, rfl⟩
    go_wp2
    go_ret2
    exact ⟨rfl, rfl⟩
  · rw [h5] at hn; cases hn
set_option maxHeartbeats 3200000 in
theorem treeTNone_any (h : Et w F T rs last) (e : Int) (hn : look rs e = none) : Calls Tryz.prog 38 #[.pointer (some ⟨T, 0, none⟩), .int .i64 e] w fun x w' => x = .returned (.tuple #[.slice none 0 0, .int .i64 90]) ∧ w' = w := by
  obtain ⟨S, G, m, h⟩ := h
  have c0 := h.cell.1
  have HG := hide (getL_any _ G S m h.tab e)
  rcases h.cases e with ⟨h0, h1⟩ | ⟨k', b, r', e1, hm, h3, h4, h5, hR⟩
  · rw [h0] at HG
    simp only [ptr, Option.isSome_none] at HG
    clear h h0 h1 hn
    go_enter Tryz.func38, Tryz.ntmps38
    go_wp2_with fail
    refine HG.out.mono ?_
    rintro e1 w1 ⟨rfl, rfl⟩
    go_wp2
    go_ret2
    exact ⟨rfl, rfl⟩
  · rw [h5] at hn; cases hn
end
end Go.Proofs.YtbocpmcodlceoaaGreat

namespace Go.Proofs.YtbocpmcodlceoaaGreat
open Go.RowKit Go.Shelf
attribute [local go_sem] Oper.semAt_some

/-- all numbers in use -/
def lvL (rs : List (Option Er)) : List Nat := (prs rs 0).map Prod.fst
set_option maxRecDepth 100000 in
set_option maxHeartbeats 8000000 in
theorem live_in (n : Nat) (hn : 3 ≤ n) (w : World) (F : Nat → Prop) (T : Nat) (rs : List (Option Er)) (last : Int) (S : Nat) (G : Nat → Prop) (m : List (Option Nat)) (h : EtAt w F T S G m rs last) :
    CallsIn Fence.wide n Tryz.prog 46 #[.pointer (some ⟨T, 0, none⟩)] w fun x W' => ∃ v, x = .returned v ∧ W'.ownsRow w.heap.size 3 1 v (lvL rs).length (numN (lvL rs)) ∧ Below w.heap.size w W' := by
  have h1 : 1 ≤ n := by omega
  obtain ⟨i3, hi, hz, hs, hb⟩ := info3'
  have cT := fun o => (h.keep (w' := (w.alloc o)) (by simp) (fun b hb => by
    have := h.lt b hb
    rw [Below.heap_alloc _ _ _ this])).cell.1
  refine callsIn_of_wp_marks Tryz.func46 rfl trivial ?_ rfl
  simp only [Tryz.ntmps46, List.size_toArray, List.length_cons, List.length_nil, Nat.reduceAdd, Nat.reduceSub, Array.replicate_succ, Array.replicate_zero, List.push_toArray, List.append_toArray, List.nil_append, List.cons_append]
  gi_wp2_with fail
  refine ⟨trivial, (allL_in S (n - 1) _).mono ?_⟩
  rintro e' w' ⟨rfl, rfl⟩
  gi_wp2_with fail
  -- the range
  have c2 := Boxed.new w 50 (.slice none 0 0)
  have hbox := heap_alloc_new (w.alloc (.cells #[.slice none 0 0] 50)) (.cells #[.pointer (some ⟨S, 0, none⟩)] 64)
  have hB0 : Below w.heap.size w ((w.alloc (.cells #[.slice none 0 0] 50)).alloc (.cells #[.pointer (some ⟨S, 0, none⟩)] 64)) := ((Below.refl _ w).alloc (Nat.le_refl _) _).alloc (by simp) _
  have hsz : ((w.alloc (.cells #[.slice none 0 0] 50)).alloc (.cells #[.pointer (some ⟨S, 0, none⟩)] 64)).heap.size = w.heap.size + 2 := by simp
  have c2' := c2.alloc (.cells #[.pointer (some ⟨S, 0, none⟩)] 64)
  simp only [World.size_alloc] at c2' hbox
  clear c2 cT
  generalize ((w.alloc (.cells #[.slice none 0 0] 50)).alloc (.cells #[.pointer (some ⟨S, 0, none⟩)] 64)) = W0 at *
  have hT := h.tab
  have hG : ∀ b, (G b ∨ b = (w.heap.size + 1)) → b < W0.heap.size := by
    rintro b (hb | rfl)
    · have := hT.lt b hb; omega
    · omega
  have hFl : ∀ b, G b → b < w.heap.size := hT.lt
  have hlen : (prs m 0).length ≤ 16 := by rw [prs_len, ← h.len]; exact count_le
  refine wpIn_rangeFunc_ownH rfl h1 (gf := 95) (lb := #[.pointer (some ⟨(w.heap.size + 1), 0, none⟩)]) rfl trivial (enters_of Tryz.func95 (by kernel_rfl) rfl)
    (allL_stops (n - 1) (by omega) (w.heap.size + 1) S G m _ hbox (hT.below hB0)) keepF_t (keepF_b hG) (Below.refl _ _) (fun _ => rfl)
    (fun pre W => ((∃ v, Boxed W w.heap.size 50 v ∧ W.ownsRow (w.heap.size + 2) 3 1 v (pre.map (fun x => x.1.1)).length (numN (pre.map (fun x => x.1.1))) ∧ True) ∧ Boxed W (w.heap.size + 1) 64 (.pointer (some ⟨S, 0, none⟩)) ∧ pre.length ≤ (prs m 0).length) ∧ Below w.heap.size w W)
    (fun _ _ _ => False)
    (OwnFrom.and (Own.from (fun s A A' row hs hg hr => ⟨holdsRow_own (w.heap.size + 2) w.heap.size 50 3 1 (fun s : List { x : Nat × Nat // m[x.1]? = some (some x.2) } => (s.map (fun x => x.1.1)).length) (fun s => numN (s.map (fun x => x.1.1))) (fun _ _ => True) s A A' row hs.1 hg hr,
        hs.2.1.kept hg (fun e9 => by obtain ⟨o, h1, h2⟩ := hr _ e9.symm; rw [show A.heap[(w.heap.size + 1)]? = _ from hs.2.1] at h1; cases h1; cases h2), hs.2.2⟩) _) (ownFrom_below (Nat.le_refl _) (by omega)))
    (fun _ _ _ _ _ hs _ _ => hs)
    ⟨⟨⟨_, c2', ⟨rfl, .inl ⟨rfl, rfl⟩⟩, trivial⟩, hbox, by simp⟩, hB0⟩
    (fun x a' _ => a' = { tmps := #[.pointer (some ⟨T, 0, none⟩), undef, .slice none 0 0, .pointer (some ⟨w.heap.size, 0, none⟩), .int .i64 (x.1.1 : Nat), .pointer (some ⟨T, 0, none⟩), .pointer (some ⟨T, 0, none⟩), .pointer (some ⟨T, 0, none⟩), .pointer (some ⟨S, 0, none⟩), .func (.func 95) #[] #[.pointer (some ⟨(w.heap.size + 1), 0, none⟩)], .int .i64 (x.1.1 : Nat), .pointer (some ⟨x.1.2, 0, none⟩), undef, undef, undef, undef, undef], defers := [] })
    (fun _ _ _ _ _ _ hs _ _ => hs)
    ?assign ?body ?done ?stop
  case assign =>
    rintro l pre x W K hi' hK
    obtain ⟨⟨xi, xb⟩, hx⟩ := x
    gi_wp2
    exact hK _ _ (KeepsFrom.refl _ _) ⟨Nat.le_refl _, fun _ _ => rfl⟩ hi' rfl
  case body =>
    rintro l pre x a' W hl ⟨r, hr⟩ ⟨⟨⟨v, bS, hown, _⟩, bA, hpl⟩, hB⟩ rfl hlt
    obtain ⟨⟨xi, xb⟩, hx⟩ := x
    have hpre : (pre.map (fun x => x.1.1)).length ≤ 16 := by simp; omega
    obtain ⟨L, hL⟩ : ∃ L, L = (pre.map (fun x => x.1.1)).length := ⟨_, rfl⟩
    rw [← hL] at hown hpre
    have HL := hide hL
    clear hL
    obtain ⟨ao, co, rfl⟩ := own_shape hown
    have cS := bS.cell
    have hA4 := bA.lt
    gi_wp2_with (gi_at_builtin; refine wpListIn_append_own_at _ rfl _ _ 50 rfl (w.heap.size + 2) 3 i3 (.int .i64 0) 1 8 Tryz.underlying50 hi hz hs hb rfl (by decide) _ _ _ rfl (hown.alloc _) ⟨W.heap.size, 0, none⟩ 1 1 [.int .i64 (xi : Int)] rfl rfl (cell_one_new _ _ _) (by simp [Value.oneCell']) (by unfold maxLen; omega) (by omega) (by simp; omega) ?_; intro v' w3 hown3 hg3 _ _
                 obtain ⟨gg, cap, rfl⟩ := ownsRow_succ hown3
                 obtain ⟨b1, b2, _, b4, b5⟩ := Boxed.appended bS (by decide) (own_low hown (show w.heap.size ≤ w.heap.size + 2 by omega)) hB.size (by omega) (own_low hown3 (show w.heap.size ≤ w.heap.size + 2 by omega)) hg3
                 have b3 := hown3.kept (grownBy_setCell' w3 w.heap.size (.slice (some ⟨gg, 0, none⟩) (L + 1) cap)) (.inr (b1.not_row (by decide) hown3).symm)
                 have b7 := (bA.alloc (.cells #[.int .i64 (xi : Int)] 3)).kept hg3 (bA.not_row (by decide) hown)
                 have cB := b1.cell
                 have fB := b1.frozen)
    refine ⟨b4.from _, ⟨b5.size, fun b hb' => ?_⟩, ⟨⟨_, b2, ?_⟩, b7.other (by omega) _, by simp; omega⟩, hB.trans b5⟩
    · rcases hb' with hb' | rfl
      · exact b5.block b (hFl b hb')
      · exact (b7.other (by omega) _).trans bA.symm
    · have h9 : (pre ++ [(⟨(xi, xb), hx⟩ : { x : Nat × Nat // m[x.1]? = some (some x.2) })]).length = L + 1 := by rw [HL.out]; simp
      have e9 : numN (List.map (fun x : { x : Nat × Nat // m[x.1]? = some (some x.2) } => x.val.fst) (pre ++ [⟨(xi, xb), hx⟩])) = numN (List.map (fun x => x.val.fst) pre) ++ [.int .i64 (xi : Int)] := by simp [numN]
      rw [h9, e9]
      exact b3
  case done =>
    rintro D ys W hDl hys ⟨⟨⟨v, bS, hown, _⟩, bA, hpl⟩, hB⟩ hK
    have hk : ys.map (fun x => x.1.1) = lvL rs := by
      unfold lvL
      rw [← h.fsts, ← hys, List.map_map]
      rfl
    rw [hk] at hown
    obtain ⟨ao, co, rfl⟩ := own_shape hown
    have cS := bS.cell
    gi_wp2
    refine ⟨by simp, .inl ⟨_, _, rfl, run_takeDeferred hK, ?_⟩⟩
    refine ⟨_, results_tmp rfl _ _ _, _, rfl, ?_, hB.trans (belowK_b (w := w) (Nat.le_refl _) W D _ _ (by omega) hK rfl rfl)⟩
    have h9 := own_low hown (show w.heap.size ≤ w.heap.size + 2 by omega)
    exact ownsRow_putObj h9 _ hK rfl
  case stop =>
    rintro D c pre W _ _ h _
    exact h.elim
theorem live_any {w : World} {F : Nat → Prop} {T : Nat} {rs : List (Option Er)} {last : Int} (h : Et w F T rs last) : Calls Tryz.prog 46 #[.pointer (some ⟨T, 0, none⟩)] w fun x W' => ∃ v, x = .returned v ∧ W'.ownsRow w.heap.size 3 1 v (lvL rs).length (numN (lvL rs)) ∧ Below w.heap.size w W' := by
  obtain ⟨S, G, m, h⟩ := h
  exact (callsIn_wide (n := 3)).1 (live_in 3 (Nat.le_refl _) w F T rs last S G m h)
end Go.Proofs.YtbocpmcodlceoaaGreat

namespace Go.Proofs.YtbocpmcodlceoaaGreat
open Go.ChangeShapes Go.WideShapes Go.ChangeAt Go.RowKit Go.Deep Go.Shelf

theorem look_at {rs : List (Option Er)} {k : Nat} {r : Er} (h : rs[k]? = some (some r)) : look rs (k : Int) = some r := by rw [look_nat, h]; rfl
section
variable {rs rs' : List (Option Er)} {last : Int}
/-- those that are older -/
def oldL (rs : List (Option Er)) (e : Nat) : List Nat := (List.range 16).filter (fun i => (core rs i).isSome && decide (ser rs i < ser rs e))
theorem oldL_lt (h : Tr rs last) {p k : Nat} (hp : Lv rs p) (hs : ser rs p < ser rs k) : (oldL rs p).length < (oldL rs k).length := by
  have hpl := lv_lt h hp
  have hnd : (p :: oldL rs p).Nodup := List.nodup_cons.2 ⟨fun hc => by
    unfold oldL at hc
    have := (List.mem_filter.1 hc).2
    simp at this, List.Pairwise.filter _ List.nodup_range⟩
  have := nodup_le (p :: oldL rs p) (oldL rs k) hnd (fun x hx => by
    unfold oldL
    rcases List.mem_cons.1 hx with rfl | hx
    · exact List.mem_filter.2 ⟨List.mem_range.2 hpl, by simp [lv_core.1 hp, hs]⟩
    · unfold oldL at hx
      obtain ⟨q1, q2⟩ := List.mem_filter.1 hx
      simp at q2
      exact List.mem_filter.2 ⟨q1, by simp [q2.1]; omega⟩)
  simp at this
  omega
theorem oldL_le (h : Tr rs last) {k : Nat} (hk : Lv rs k) : (oldL rs k).length < 16 := by
  have hkl := lv_lt h hk
  have hnd : (k :: oldL rs k).Nodup := List.nodup_cons.2 ⟨fun hc => by
    unfold oldL at hc
    have := (List.mem_filter.1 hc).2
    simp at this, List.Pairwise.filter _ List.nodup_range⟩
  have := nodup_le16 hnd (fun x hx => by
    rcases List.mem_cons.1 hx with rfl | hx
    · exact hkl
    · unfold oldL at hx
      exact List.mem_range.1 (List.mem_filter.1 hx).1)
  simp at this
  omega
theorem line_ex (h : Tr rs last) : ∀ (n k : Nat), Lv rs k → (oldL rs k).length < n → ∃ l, Line rs (k : Int) l ∧ l.length ≤ n
  | 0, _, _, hl => by omega
  | n + 1, k, ⟨r, hr⟩, hl => by
    by_cases h0 : k = 0
    · subst h0
      obtain ⟨r0, h1, h2⟩ := h.root
      rw [hr] at h1
      obtain rfl : r = r0 := by simpa using h1
      refine ⟨_, line_some (look_at hr) (line_none ?_), by simp⟩
      rw [h2]; rfl
    · obtain ⟨p, h1, h2, h3⟩ := h.par k r hr h0
      obtain ⟨l, h4, h5⟩ := line_ex h n p h2 (by have := oldL_lt h h2 h3; omega)
      exact ⟨_, line_some (look_at hr) (by rw [h1]; exact h4), by simp; omega⟩
/-- from a number up to the root -/
def upF (rs : List (Option Er)) : Nat → Int → List Int
  | 0, _ => []
  | n + 1, e => match look rs e with | none => [] | some r => e :: upF rs n r.pa
def ln (rs : List (Option Er)) (e : Int) : List Int := upF rs 16 e
theorem line_up {e : Int} {l : List Int} (h : Line rs e l) : ∀ n, l.length ≤ n → upF rs n e = l := by
  induction l generalizing e with
  | nil => intro n _; have h' : look rs e = none := h; cases n with | zero => rfl | succ n => simp only [upF, h']
  | cons z0 l ih0 =>
    obtain ⟨rfl, r, h, hl0⟩ := h
    have ih := ih0 hl0
    intro n hn
    cases n with
    | zero => simp at hn
    | succ n => simp only [upF, h]; rw [ih n (by simpa using hn)]
theorem ln_line (h : Tr rs last) (e : Int) : Line rs e (ln rs e) ∧ (ln rs e).length ≤ 16 := by
  cases hl : look rs e with
  | none =>
    have h1 := line_none hl
    have h2 := line_up h1 16 (by simp)
    unfold ln
    rw [h2]
    exact ⟨h1, by simp⟩
  | some r =>
    obtain ⟨k, rfl, hr⟩ := look_some hl
    obtain ⟨l, h1, h2⟩ := line_ex h 16 k ⟨r, hr⟩ (oldL_le h ⟨r, hr⟩)
    have h3 := line_up h1 16 h2
    unfold ln
    rw [h3]
    exact ⟨h1, h2⟩
/-- does it run? -/
def rn (rs : List (Option Er)) (e : Int) : Bool := match look rs e with | none => false | some r => decide (r.st = 1) && !((ln rs e).any (flg rs))
end
section
variable {w : World} {F : Nat → Prop} {T : Nat} {rs : List (Option Er)} {last : Int}
set_option maxHeartbeats 1600000 in
theorem runs_all (h : Et w F T rs last) (iv : Tr rs last) (e : Int) : Calls Tryz.prog 42 #[.pointer (some ⟨T, 0, none⟩), .int .i64 e] w fun x w' => x = .returned (.bool (rn rs e)) ∧ Below w.heap.size w w' := by
  unfold rn
  cases hl : look rs e with
  | some r =>
    obtain ⟨k, rfl, hr⟩ := look_some hl
    exact runs_any w F T rs last h k r hr _ (ln_line iv _).1 (ln_line iv _).2
  | none =>
    have HB := hide (Below.refl w.heap.size w)
    obtain ⟨S, G, m, h⟩ := h
    have c0 := h.cell.1
    have HG := hide (getL_any _ G S m h.tab e)
    rcases h.cases e with ⟨h2, h1⟩ | ⟨k', b, r', e1, hm, h3, h4, _, hR⟩
    · rw [h2] at HG
      simp only [ptr, Option.isSome_none] at HG
      clear h
      go_enter Tryz.func42, Tryz.ntmps42
      go_wp2_with fail
      refine HG.out.mono ?_
      rintro e1 w1 ⟨rfl, rfl⟩
      go_wp2
      go_ret
      exact ⟨rfl, HB.out⟩
    · subst e1
      rw [look_at h3] at hl; cases hl
set_option maxRecDepth 8000 in
set_option maxHeartbeats 3200000 in
theorem indexI_any (w : World) (base : Nat) (a : Option Addr) (c : Nat) (l : List Int) (hrow : w.ownsRow base 3 1 (.slice a l.length c) l.length (nums l)) (z : Int) (hl : l.length ≤ 16) : Calls Tryz.prog 93 #[.slice a l.length c, .int .i64 z] w fun x w' => (∃ i : Int, x = .returned (.int .i64 i) ∧ (0 ≤ i ↔ z ∈ l)) ∧ w' = w := by
  have HR := hide hrow
  obtain ⟨L, hL⟩ : ∃ L, l.length = L := ⟨_, rfl⟩
  have HL := hide hL
  rw [hL] at hl HR ⊢
  clear hrow hL
  go_enter Tryz.func93, Tryz.ntmps93
  go_upto_region 2 with fail
  go_loopw [8] (fun x wr => ∃ j : Nat, j ≤ L ∧ x = .int .i64 (j : Int) ∧ Hid (∀ i, i < j → l[i]? ≠ some z) ∧ wr = w) (fun x _ => L - (intOf x).toNat)
  case atStart => exact ⟨0, by omega, rfl, fun i hi => by omega, rfl⟩
  case round =>
  obtain ⟨j, hj, rfl, KN, rfl⟩ := hrel
  by_cases hlt : j < L
  · have hd : decide ((j : Int) < (L : Int)) = true := by simp; omega
    have hj3 : (j : Int) < (L : Int) := by omega
    obtain ⟨y, hy⟩ : ∃ y, l[j]? = some y := ⟨_, List.getElem?_eq_getElem (by have := HL.out; omega)⟩
    have hro := HR.out
    rw [← HL.out] at hro
    obtain ⟨g, rfl, hc⟩ := row_cell hro hy
    have HY := hide hy
    clear hy hro
    by_cases hyz : z = y
    · have hyb : (z == y) = true := by simp [hyz]
      have HYz := hide hyz
      clear hyz
      go_wp2
      go_ret
      refine ⟨⟨(j : Int), rfl, ⟨fun _ => ?_, fun _ => by omega⟩⟩, rfl⟩
      rw [HYz.out]
      exact List.mem_of_getElem? HY.out
    · have hyb : (z == y) = false := by simp [hyz]
      have K1 : Hid (∀ i, i < j + 1 → l[i]? ≠ some z) := hide (fun i hi => by
        by_cases e : i = j
        · subst e; rw [HY.out]; intro e9; exact hyz (by simpa using e9.symm)
        · exact KN.out i (by omega))
      go_wp2
      go_roundw
      case rel =>
        first
          | exact ⟨j + 1, by omega, by go_num, K1, by trivial⟩
          | ((repeat apply Exists.intro); refine ⟨?_, rfl⟩; exact ⟨j + 1, by omega, by go_num, K1, by trivial⟩)
      case measure => simp [intOf]; omega
  · have hd : decide ((j : Int) < (L : Int)) = false := by simp; omega
    go_wp2
    go_ret
    refine ⟨⟨-1, rfl, ⟨fun h => by omega, fun h => ?_⟩⟩, rfl⟩
    obtain ⟨i, hi, e⟩ := List.getElem_of_mem h
    exact absurd (by rw [List.getElem?_eq_getElem hi, e]) (KN.out i (by have := HL.out; omega))
set_option maxHeartbeats 1600000 in
theorem containsI_any (w : World) (base : Nat) (a : Option Addr) (c : Nat) (l : List Int) (hrow : w.ownsRow base 3 1 (.slice a l.length c) l.length (nums l)) (z : Int) (hl : l.length ≤ 16) : Calls Tryz.prog 76 #[.slice a l.length c, .int .i64 z] w fun x w' => x = .returned (.bool (decide (z ∈ l))) ∧ w' = w := by
  have HI := hide (indexI_any w base a c l hrow z hl)
  obtain ⟨q, hq⟩ : ∃ q : Bool, decide (z ∈ l) = q := ⟨_, rfl⟩
  rw [hq]
  have HQ := hide hq
  generalize l.length = L at *
  clear hrow hl hq
  go_enter Tryz.func76, Tryz.ntmps76
  go_wp2_with fail
  refine HI.out.mono ?_
  rintro e1 w1 ⟨⟨i, rfl, hz⟩, rfl⟩
  have hq : decide (0 ≤ i) = q := by
    rw [← HQ.out]
    exact decide_eq_decide.2 hz
  have HQ2 := hide hq
  clear hz hq
  go_wp2
  go_ret
  refine ⟨?_, rfl⟩
  rw [← HQ2.out]
  rfl
set_option maxHeartbeats 1600000 in
theorem inside_any (h : Et w F T rs last) (iv : Tr rs last) (z e : Int) : Calls Tryz.prog 40 #[.pointer (some ⟨T, 0, none⟩), .int .i64 z, .int .i64 e] w fun x w' => x = .returned (.bool (decide (z ∈ ln rs e))) ∧ Below w.heap.size w w' := by
  obtain ⟨h1, h2⟩ := ln_line iv e
  have HL := hide (line_any w F T rs last h e _ h1 h2)
  have HC := hide (fun W base a c hrow => containsI_any W base a c (ln rs e) hrow z h2)
  obtain ⟨q, hq⟩ : ∃ q : Bool, decide (z ∈ ln rs e) = q := ⟨_, rfl⟩
  rw [hq]
  simp only [hq] at HC
  generalize ln rs e = l at *
  clear h h1 h2 hq
  go_enter Tryz.func40, Tryz.ntmps40
  go_wp2_with fail
  refine HL.out.mono ?_
  rintro e1 w2 ⟨v, rfl, hrow, hb⟩
  obtain ⟨a, c, rfl⟩ := own_shape hrow
  have HC2 := hide (HC.out w2 _ a c hrow)
  have HB2 := hide hb
  clear hrow hb HC
  go_wp2_with fail
  refine HC2.out.mono ?_
  rintro e1 w3 ⟨rfl, rfl⟩
  go_wp2
  go_ret
  exact ⟨rfl, HB2.out⟩
end
end Go.Proofs.YtbocpmcodlceoaaGreat

namespace Go.Proofs.YtbocpmcodlceoaaGreat
open Go.RowKit Go.Shelf
attribute [local go_sem] Oper.semAt_some

/-- what Find answers -/
def Fd (rs : List (Option Er)) (s z : Int) : Prop := (z = -1 ∧ ∀ (k : Nat) (r : Er), rs[k]? = some (some r) → r.se ≠ s) ∨ ∃ (k : Nat) (r : Er), z = (k : Int) ∧ rs[k]? = some (some r) ∧ r.se = s
theorem boxed_set {W : World} {b : Nat} {t : TypeId} {v : Value} (h : Boxed W b t v) (u : Value) : Boxed (W.setCell ⟨b, 0, none⟩ u) b t u := by
  have h9 := heap_setCell_same _ b 0 _ _ u h
  simpa [Boxed] using h9
def Nf (rs : List (Option Er)) (s : Int) (l : List Nat) : Prop := ∀ k ∈ l, ∀ r : Er, rs[k]? = some (some r) → r.se ≠ s
theorem Nf.snoc {rs : List (Option Er)} {s : Int} {l : List Nat} (h : Nf rs s l) {k : Nat} {r : Er} (hr : rs[k]? = some (some r)) (hn : r.se ≠ s) : Nf rs s (l ++ [k]) := by
  intro j hj r9 hr9
  rcases List.mem_append.1 hj with hj | hj
  · exact h j hj r9 hr9
  · simp at hj
    subst hj
    rw [hr] at hr9
    cases hr9
    exact hn
set_option maxRecDepth 100000 in
set_option maxHeartbeats 8000000 in
theorem find_in (n : Nat) (hn : 3 ≤ n) (w : World) (F : Nat → Prop) (T : Nat) (rs : List (Option Er)) (last : Int) (S : Nat) (G : Nat → Prop) (m : List (Option Nat)) (h : EtAt w F T S G m rs last) (s : Int) :
    CallsIn Fence.wide n Tryz.prog 44 #[.pointer (some ⟨T, 0, none⟩), .int .i64 s] w fun x W' => ∃ z, x = .returned (.int .i64 z) ∧ Fd rs s z ∧ Below w.heap.size w W' := by
  have h1 : 1 ≤ n := by omega
  have cT := fun o o' => (h.keep (w' := ((w.alloc o).alloc o')) (by simp; omega) (fun b hb => by
    have := h.lt b hb
    rw [Below.heap_alloc _ _ _ (by simp; omega), Below.heap_alloc _ _ _ this])).cell.1
  refine callsIn_of_wp_marks Tryz.func44 rfl trivial ?_ rfl
  simp only [Tryz.ntmps44, List.size_toArray, List.length_cons, List.length_nil, Nat.reduceAdd, Nat.reduceSub, Array.replicate_succ, Array.replicate_zero, List.push_toArray, List.append_toArray, List.nil_append, List.cons_append]
  gi_wp2_with fail
  refine ⟨trivial, (allL_in S (n - 1) _).mono ?_⟩
  rintro e' w' ⟨rfl, rfl⟩
  gi_wp2_with fail
  -- the range
  have c0 := (Boxed.new w 3 (.int .i64 s)).alloc (.cells #[.int .i64 0] 3)
  have c1 := Boxed.new (w.alloc (.cells #[.int .i64 s] 3)) 3 (.int .i64 0)
  have hbox := heap_alloc_new ((w.alloc (.cells #[.int .i64 s] 3)).alloc (.cells #[.int .i64 0] 3)) (.cells #[.pointer (some ⟨S, 0, none⟩)] 64)
  have hB0 : Below w.heap.size w (((w.alloc (.cells #[.int .i64 s] 3)).alloc (.cells #[.int .i64 0] 3)).alloc (.cells #[.pointer (some ⟨S, 0, none⟩)] 64)) := (((Below.refl _ w).alloc (Nat.le_refl _) _).alloc (by simp) _).alloc (by simp; omega) _
  have hsz : (((w.alloc (.cells #[.int .i64 s] 3)).alloc (.cells #[.int .i64 0] 3)).alloc (.cells #[.pointer (some ⟨S, 0, none⟩)] 64)).heap.size = w.heap.size + 3 := by simp
  have c0' := c0.alloc (.cells #[.pointer (some ⟨S, 0, none⟩)] 64)
  have c1' := c1.alloc (.cells #[.pointer (some ⟨S, 0, none⟩)] 64)
  simp only [World.size_alloc] at c0' c1' hbox
  clear c0 c1 cT
  generalize (((w.alloc (.cells #[.int .i64 s] 3)).alloc (.cells #[.int .i64 0] 3)).alloc (.cells #[.pointer (some ⟨S, 0, none⟩)] 64)) = W0 at *
  have hT := h.tab
  have hG : ∀ b, (G b ∨ b = (w.heap.size + 1 + 1)) → b < W0.heap.size := by
    rintro b (hb | rfl)
    · have := hT.lt b hb; omega
    · omega
  have hFl : ∀ b, G b → b < w.heap.size := hT.lt
  refine wpIn_rangeFunc_ownH rfl h1 (gf := 95) (lb := #[.pointer (some ⟨(w.heap.size + 1 + 1), 0, none⟩)]) rfl trivial (enters_of Tryz.func95 (by kernel_rfl) rfl)
    (allL_stops (n - 1) (by omega) (w.heap.size + 1 + 1) S G m _ hbox (hT.below hB0)) keepF_t (keepF_b hG) (Below.refl _ _) (fun _ => rfl)
    (fun pre W => (Nf rs s (pre.map (fun x => x.1.1)) ∧ Boxed W w.heap.size 3 (.int .i64 s) ∧ Boxed W (w.heap.size + 1) 3 (.int .i64 0) ∧ Boxed W (w.heap.size + 1 + 1) 64 (.pointer (some ⟨S, 0, none⟩))) ∧ Below w.heap.size w W)
    (fun c pre W => (c = .ret ∧ ∃ (k : Nat) (r : Er), rs[k]? = some (some r) ∧ r.se = s ∧ Boxed W (w.heap.size + 1) 3 (.int .i64 (k : Int))) ∧ Below w.heap.size w W)
    (OwnFrom.and (Own.from (fun s' A A' row hs hg hr => ⟨hs.1,
        hs.2.1.kept hg (fun e9 => by obtain ⟨o, h1, h2⟩ := hr _ e9.symm; rw [show A.heap[w.heap.size]? = _ from hs.2.1] at h1; cases h1; cases h2),
        hs.2.2.1.kept hg (fun e9 => by obtain ⟨o, h1, h2⟩ := hr _ e9.symm; rw [show A.heap[(w.heap.size + 1)]? = _ from hs.2.2.1] at h1; cases h1; cases h2),
        hs.2.2.2.kept hg (fun e9 => by obtain ⟨o, h1, h2⟩ := hr _ e9.symm; rw [show A.heap[(w.heap.size + 1 + 1)]? = _ from hs.2.2.2] at h1; cases h1; cases h2)⟩) _) (ownFrom_below (Nat.le_refl _) (by omega)))
    (fun c => OwnFrom.and (Own.from (fun s' A A' row hs hg hr => ⟨hs.1, by
        obtain ⟨_, k, r, hk, hr9, hb9⟩ := hs
        exact ⟨k, r, hk, hr9, hb9.kept hg (fun e9 => by obtain ⟨o, h1, h2⟩ := hr _ e9.symm; rw [show A.heap[(w.heap.size + 1)]? = _ from hb9] at h1; cases h1; cases h2)⟩⟩) _) (ownFrom_below (Nat.le_refl _) (by omega)))
    ⟨⟨fun k hk => by simp at hk, c0', c1', hbox⟩, hB0⟩
    (fun x a' _ => a' = { tmps := #[.pointer (some ⟨T, 0, none⟩), .int .i64 s, undef, .pointer (some ⟨w.heap.size, 0, none⟩), .pointer (some ⟨(w.heap.size + 1), 0, none⟩), .int .i64 (x.1.1 : Nat), .pointer (some ⟨x.1.2, 0, none⟩), .pointer (some ⟨T, 0, none⟩), .pointer (some ⟨T, 0, none⟩), .pointer (some ⟨T, 0, none⟩), .pointer (some ⟨S, 0, none⟩), .func (.func 95) #[] #[.pointer (some ⟨(w.heap.size + 1 + 1), 0, none⟩)], .int .i64 (x.1.1 : Nat), .pointer (some ⟨x.1.2, 0, none⟩), undef, undef, undef, undef, undef, undef, undef, undef], defers := [] })
    (fun _ _ _ _ _ _ hs _ _ => hs)
    ?assign ?body ?done ?stop
  case assign =>
    rintro l pre x W K hi' hK
    obtain ⟨⟨xi, xb⟩, hx⟩ := x
    gi_wp2
    exact hK _ _ (KeepsFrom.refl _ _) ⟨Nat.le_refl _, fun _ _ => rfl⟩ hi' rfl
  case body =>
    rintro l pre x a' W hl ⟨r, hr⟩ ⟨⟨hne, bS, bR, bA⟩, hB⟩ rfl hlt
    obtain ⟨⟨xi, xb⟩, hx⟩ := x
    obtain ⟨rec, hr1, hr2⟩ := h.held xi xb hx
    have hRb := hr2.keep (hB.block xb hr2.lt)
    have cP := hRb.get (j := 0) rfl
    have cE := bS.cell
    clear hr2 hRb
    gi_wp2_with fail
    have hb2 : Below W.heap.size W W.drew := ⟨rfl, rfl, rfl, Nat.le_refl _, fun _ _ => rfl⟩
    have bS2 := boxed_below bS hb2
    have bR2 := boxed_below bR hb2
    have bA2 := boxed_below bA hb2
    have hB2 := hB.trans (hb2.mono hB.size)
    have hK2 : KeepF (fun b => G b ∨ b = (w.heap.size + 1 + 1)) W W.drew := ⟨hb2.size, fun b hb' => hb2.block b (by rcases hb' with hb' | rfl; have := hFl b hb'; have := hB.size; omega; exact bA.lt)⟩
    have hO2 := (keepsOthers_below hb2).from W0.heap.size
    have HF := hide (And.intro bS2 (And.intro bR2 (And.intro bA2 (And.intro hB2 (And.intro hK2 hO2)))))
    clear bR bA hB hb2 bS2 bR2 bA2 hB2 hK2 hO2
    by_cases hpe : rec.se = s
    · subst hpe
      gi_region
      all_goals
        obtain ⟨bS2, bR2, bA2, hB2, hK2, hO2⟩ := HF.out
        generalize W.drew = W2 at *
        have cR := bR2.cell
        have fR := bR2.frozen
        have bN := boxed_set bR2 (.int .i64 (xi : Int))
        gi_wp2
        exact ⟨hO2.trans ((KeepsOthers.setCell _ _ _).from _), ⟨rfl, xi, rec, hr1, rfl, bN⟩, hB2.setCell (p := ⟨w.heap.size + 1, 0, none⟩) (by simp) _⟩
    · have hd : decide (rec.se = s) = false := by simp [hpe]
      gi_region
      all_goals
        obtain ⟨bS2, bR2, bA2, hB2, hK2, hO2⟩ := HF.out
        generalize W.drew = W2 at *
        gi_wp2
        refine ⟨hO2, hK2, ⟨?_, bS2, bR2, bA2⟩, hB2⟩
        rw [List.map_append]
        exact hne.snoc hr1 hpe
  case done =>
    rintro D ys W hDl hys ⟨⟨hne, bS, bR, bA⟩, hB⟩ hK
    have bN := boxed_set bR (.int .i64 (-1))
    have cR := bR.cell
    have fR := bR.frozen
    gi_wp2
    have hK' := (KeepsOthers.setCell W ⟨w.heap.size + 1, 0, none⟩ (.int .i64 (-1))).same D _ hK rfl
    refine ⟨by simp, .inl ⟨_, _, rfl, run_takeDeferred hK', ?_⟩⟩
    have bF := bN.kept (grownBy_putObj' _ D (.deferred none)) (fun e9 => by cases e9; omega)
    have hc5 := bF.cell
    refine ⟨.int .i64 (-1), ?_, -1, rfl, .inl ⟨rfl, fun k r hk => ?_⟩, (hB.setCell (p := ⟨w.heap.size + 1, 0, none⟩) (by simp) _).trans (belowK_b (w := w) (Nat.le_refl _) _ D _ _ (by omega) hK' rfl rfl)⟩
    · simp [results, Tryz.f44, go_sem, hc5]
    · have hm : k ∈ ys.map (fun x => x.1.1) := by
        have e1 : ys.map (fun x => x.1.1) = (prs rs 0).map Prod.fst := by rw [← h.fsts, ← hys, List.map_map]; rfl
        rw [e1]
        exact List.mem_map.2 ⟨(k, r), prs_mem.2 hk, rfl⟩
      exact hne k hm r hk
  case stop =>
    rintro D c pre W hDl hpre ⟨⟨rfl, k, r, hk, hr9, hb9⟩, hB⟩ hK
    gi_wp2
    refine ⟨by simp, .inl ⟨_, _, rfl, run_takeDeferred hK, ?_⟩⟩
    have bF := hb9.kept (grownBy_putObj' _ D (.deferred none)) (fun e9 => by cases e9; omega)
    have hc5 := bF.cell
    refine ⟨.int .i64 (k : Int), ?_, (k : Int), rfl, .inr ⟨k, r, rfl, hk, hr9⟩, hB.trans (belowK_b (w := w) (Nat.le_refl _) W D _ _ (by omega) hK rfl rfl)⟩
    simp [results, Tryz.f44, go_sem, hc5]
theorem find_any {w : World} {F : Nat → Prop} {T : Nat} {rs : List (Option Er)} {last : Int} (h : Et w F T rs last) (s : Int) : Calls Tryz.prog 44 #[.pointer (some ⟨T, 0, none⟩), .int .i64 s] w fun x W' => ∃ z, x = .returned (.int .i64 z) ∧ Fd rs s z ∧ Below w.heap.size w W' := by
  obtain ⟨S, G, m, h⟩ := h
  exact (callsIn_wide (n := 3)).1 (find_in 3 (Nat.le_refl _) w F T rs last S G m h s)
theorem find_at {rs : List (Option Er)} {last : Int} (iv : Tr rs last) {k : Nat} {r : Er} (hr : rs[k]? = some (some r)) {z : Int} (h : Fd rs r.se z) : z = (k : Int) := by
  rcases h with ⟨_, h⟩ | ⟨j, rj, h1, h2, h3⟩
  · exact absurd rfl (h k r hr)
  · have e1 : ser rs j = ser rs k := by rw [ser_core, ser_core, core_at h2, core_at hr]; exact h3
    rw [h1, iv.dis j k ⟨rj, h2⟩ ⟨r, hr⟩ e1]
theorem find_no {rs : List (Option Er)} {last : Int} (iv : Tr rs last) {s z : Int} (hs : last < s) (h : Fd rs s z) : z = -1 := by
  rcases h with ⟨h, _⟩ | ⟨j, rj, h1, h2, h3⟩
  · exact h
  · have e1 := iv.old j ⟨rj, h2⟩
    rw [ser_core, core_at h2] at e1
    simp only at e1
    omega
end Go.Proofs.YtbocpmcodlceoaaGreat
