import Derived.Test.YtoddadohmnaolaaFA
namespace Go.Proofs.Ytoddadohmnaolaa
open Go.RowKit Go.Shelf

/-- the tree: the root, parents that live and are older, no two serials alike -/
structure Tr (rs : List (Option Er)) (last : Int) : Prop where
  len : rs.length = 16
  root : ∃ r, rs[0]? = some (some r) ∧ r.pa = -1
  par : ∀ k r, rs[k]? = some (some r) → k ≠ 0 → ∃ p : Nat, r.pa = (p : Int) ∧ Lv rs p ∧ ser rs p < ser rs k
  old : ∀ k, Lv rs k → ser rs k ≤ last
  dis : Dis rs
section
variable {rs rs' : List (Option Er)} {last : Int}
theorem lv_lt (h : Tr rs last) {k : Nat} (hk : Lv rs k) : k < 16 := by
  obtain ⟨r, hr⟩ := hk
  have := (List.getElem?_eq_some_iff.1 hr).1
  rw [h.len] at this; exact this
theorem kid_of {e : Int} {k : Nat} (h : kid rs e k = true) : ∃ r, rs[k]? = some (some r) ∧ r.pa = e := by
  obtain ⟨r, hr⟩ := kid_lv h
  rw [kid_at hr] at h
  exact ⟨r, hr, of_decide_eq_true h⟩
theorem kids_kid {e : Int} {k : Nat} (h : k ∈ kids rs e) : kid rs e k = true := by
  rw [kids_mem] at h
  unfold kidsU fitK at h
  exact (List.mem_filter.1 h).2
theorem kid_kids {e : Int} {k : Nat} (h : kid rs e k = true) : k ∈ kids rs e := by
  rw [kids_mem]
  unfold kidsU fitK
  refine List.mem_filter.2 ⟨?_, h⟩
  obtain ⟨r, hr⟩ := kid_lv h
  exact List.mem_map.2 ⟨(k, r), prs_mem.2 hr, rfl⟩
/-- a child of a number is younger, and not the root -/
theorem kid_ser (h : Tr rs last) {e k : Nat} (hk : kid rs (e : Int) k = true) : ser rs e < ser rs k ∧ k ≠ 0 ∧ Lv rs e := by
  obtain ⟨r, hr, hp⟩ := kid_of hk
  have h0 : k ≠ 0 := fun e0 => by
    subst e0
    obtain ⟨r0, h1, h2⟩ := h.root
    rw [hr] at h1; cases h1
    rw [hp] at h2; omega
  obtain ⟨p, h1, h2, h3⟩ := h.par k r hr h0
  obtain rfl : e = p := by rw [hp] at h1; omega
  exact ⟨h3, h0, h2⟩
theorem wk_lv : ∀ (n : Nat) {e c : Nat}, Lv rs e → c ∈ wk rs n e → Lv rs c
  | 0, e, c, h, hc => by simp [wk] at hc; subst hc; exact h
  | n + 1, e, c, h, hc => by
    simp only [wk, List.mem_cons, List.mem_flatMap] at hc
    rcases hc with rfl | ⟨k, hk, hc⟩
    · exact h
    · exact wk_lv n (kid_lv (kids_kid hk)) hc
theorem wk_ser (h : Tr rs last) : ∀ (n : Nat) {e c : Nat}, c ∈ wk rs n e → c = e ∨ ser rs e < ser rs c
  | 0, e, c, hc => by simp [wk] at hc; exact .inl hc
  | n + 1, e, c, hc => by
    simp only [wk, List.mem_cons, List.mem_flatMap] at hc
    rcases hc with rfl | ⟨k, hk, hc⟩
    · exact .inl rfl
    · have h1 := (kid_ser h (kids_kid hk)).1
      rcases wk_ser h n hc with rfl | h2
      · exact .inr h1
      · exact .inr (by omega)
/-- c is a or below it -/
def AncN (rs : List (Option Er)) (a : Nat) : Nat → Nat → Prop
  | 0, c => c = a
  | n + 1, c => ∃ q : Nat, kid rs (q : Int) c = true ∧ AncN rs a n q
def Anc (rs : List (Option Er)) (a c : Nat) : Prop := ∃ n, AncN rs a n c
theorem Anc.refl {a : Nat} : Anc rs a a := ⟨0, Eq.refl a⟩
theorem Anc.step {a c q : Nat} (h : kid rs (q : Int) c = true) (hq : Anc rs a q) : Anc rs a c := by
  obtain ⟨n, hn⟩ := hq
  exact ⟨n + 1, q, h, hn⟩
theorem anc_cases {a c : Nat} (h : Anc rs a c) : c = a ∨ ∃ q : Nat, kid rs (q : Int) c = true ∧ Anc rs a q := by
  obtain ⟨n, hn⟩ := h
  cases n with
  | zero => exact .inl hn
  | succ n =>
    obtain ⟨q, h1, h2⟩ := hn
    exact .inr ⟨q, h1, n, h2⟩
theorem anc_ind {a : Nat} {P : Nat → Prop} (h0 : P a) (hs : ∀ c q : Nat, kid rs (q : Int) c = true → Anc rs a q → P q → P c) {c : Nat} (h : Anc rs a c) : P c := by
  obtain ⟨n, hn⟩ := h
  induction n generalizing c with
  | zero => obtain rfl : c = a := hn; exact h0
  | succ n ih =>
    obtain ⟨q, h1, h2⟩ := hn
    exact hs c q h1 ⟨n, h2⟩ (ih h2)
theorem Anc.top {a b c : Nat} (hk : kid rs (a : Int) b = true) (h : Anc rs b c) : Anc rs a c := by
  exact anc_ind (P := fun c => Anc rs a c) (Anc.step hk Anc.refl) (fun _ _ h1 _ ih => Anc.step h1 ih) h
theorem wk_anc : ∀ (n : Nat) {e c : Nat}, c ∈ wk rs n e → Anc rs e c
  | 0, e, c, hc => by simp [wk] at hc; subst hc; exact .refl
  | n + 1, e, c, hc => by
    simp only [wk, List.mem_cons, List.mem_flatMap] at hc
    rcases hc with rfl | ⟨k, hk, hc⟩
    · exact .refl
    · exact (wk_anc n hc).top (kids_kid hk)
theorem Anc.ser (h : Tr rs last) {a c : Nat} (ha : Anc rs a c) : ser rs a ≤ ser rs c := by
  refine anc_ind (P := fun c => Go.Proofs.Ytoddadohmnaolaa.ser rs a ≤ Go.Proofs.Ytoddadohmnaolaa.ser rs c) (Int.le_refl _) (fun c q hk _ ih => ?_) ha
  have := (kid_ser h hk).1
  omega
theorem kid_one {c p q : Nat} (h1 : kid rs (p : Int) c = true) (h2 : kid rs (q : Int) c = true) : p = q := by
  obtain ⟨r, hr, h3⟩ := kid_of h1
  obtain ⟨r', hr', h4⟩ := kid_of h2
  rw [hr] at hr'; cases hr'
  omega
theorem anc_one (h : Tr rs last) {e a b c : Nat} (ha : kid rs (e : Int) a = true) (hb : kid rs (e : Int) b = true) (h1 : Anc rs a c) : Anc rs b c → a = b := by
  have la := (kid_ser h ha).1
  have lb := (kid_ser h hb).1
  refine anc_ind (P := fun c => Anc rs b c → a = b) (fun h2 => ?_) (fun c q hk hq ih h2 => ?_) h1
  · rcases anc_cases h2 with h3 | ⟨q, hk, hq⟩
    · exact h3
    · obtain rfl := kid_one ha hk
      have := hq.ser h
      omega
  · rcases anc_cases h2 with rfl | ⟨q2, hk2, hq2⟩
    · obtain rfl := kid_one hb hk
      have := hq.ser h
      omega
    · obtain rfl := kid_one hk hk2
      exact ih hq2
theorem prsL_nodup {α : Type} (l : List (Option α)) (s : Nat) : ((prsL s l).map Prod.fst).Nodup := by
  refine List.Pairwise.map _ (fun a b hab => ?_) (prsL_sorted l s)
  omega
theorem kids_nodup (e : Int) : (kids rs e).Nodup := by
  have h1 : (kidsU rs e).Nodup := by
    unfold kidsU fitK
    exact List.Pairwise.filter _ (prsL_nodup _ _)
  exact (List.mergeSort_perm (kidsU rs e) _).nodup_iff.2 h1
theorem wk_nodup (h : Tr rs last) : ∀ (n e : Nat), (wk rs n e).Nodup
  | 0, e => by simp [wk]
  | n + 1, e => by
    simp only [wk]
    refine List.nodup_cons.2 ⟨fun hc => ?_, ?_⟩
    · obtain ⟨k, hk, hc⟩ := List.mem_flatMap.1 hc
      have h1 := (kid_ser h (kids_kid hk)).1
      rcases wk_ser h n hc with h2 | h2
      · rw [h2] at h1; omega
      · omega
    · refine List.pairwise_flatMap.2 ⟨fun k _ => wk_nodup h n k, ?_⟩
      refine List.Pairwise.imp_of_mem (fun {a b} ha hb hab => ?_) (kids_nodup (rs := rs) (e : Int))
      intro x hx y hy e0
      subst e0
      exact hab (anc_one h (kids_kid ha) (kids_kid hb) (wk_anc n hx) (wk_anc n hy))
theorem nodup_le {α : Type} [BEq α] [LawfulBEq α] : ∀ (l m : List α), l.Nodup → (∀ x ∈ l, x ∈ m) → l.length ≤ m.length
  | [], _, _, _ => Nat.zero_le _
  | x :: l, m, hn, hs => by
    obtain ⟨h1, h2⟩ := List.nodup_cons.1 hn
    have hx : x ∈ m := hs x List.mem_cons_self
    have h3 := nodup_le l (m.erase x) h2 (fun y hy => (List.mem_erase_of_ne (by rintro rfl; exact h1 hy)).2 (hs y (List.mem_cons_of_mem _ hy)))
    rw [List.length_erase_of_mem hx] at h3
    have := List.length_pos_of_mem hx
    rw [List.length_cons]
    omega
theorem nodup_le16 {l : List Nat} (hn : l.Nodup) (hl : ∀ x ∈ l, x < 16) : l.length ≤ 16 := by
  have h := nodup_le l (List.range 16) hn (fun x hx => List.mem_range.2 (hl x hx))
  simpa using h
theorem wk_len (h : Tr rs last) (n : Nat) {e : Nat} (he : Lv rs e) : (wk rs n e).length ≤ 16 := nodup_le16 (wk_nodup h n e) (fun _ hx => lv_lt h (wk_lv n he hx))
theorem wk_len' (h : Tr rs last) : ∀ (n e : Nat), (wk rs n e).length ≤ 4096
  | n, e => by
    by_cases he : Lv rs e
    · have := wk_len h n he; omega
    · have hk : kids rs (e : Int) = [] := by
        rcases hq : kids rs (e : Int) with _ | ⟨k, l⟩
        · rfl
        · exact absurd (kid_ser h (kids_kid (rs := rs) (e := (e : Int)) (k := k) (by rw [hq]; simp))).2.2 he
      cases n with
      | zero => simp [wk]
      | succ n => simp [wk, hk]
theorem kids_len (h : Tr rs last) (e : Int) : (kids rs e).length ≤ 4096 := by
  have := nodup_le16 (kids_nodup (rs := rs) e) (fun x hx => lv_lt h (kid_lv (kids_kid hx)))
  omega
/-- those that are younger -/
def yng (rs : List (Option Er)) (e : Nat) : List Nat := (List.range 16).filter (fun i => (core rs i).isSome && decide (ser rs e < ser rs i))
theorem yng_lt (h : Tr rs last) {e k : Nat} (hk : kid rs (e : Int) k = true) : (yng rs k).length < (yng rs e).length := by
  have h1 := (kid_ser h hk).1
  have hkl := lv_lt h (kid_lv hk)
  have hnd : (k :: yng rs k).Nodup := List.nodup_cons.2 ⟨fun hc => by
    unfold yng at hc
    have := (List.mem_filter.1 hc).2
    simp at this, List.Pairwise.filter _ List.nodup_range⟩
  have := nodup_le (k :: yng rs k) (yng rs e) hnd (fun x hx => by
    unfold yng
    rcases List.mem_cons.1 hx with rfl | hx
    · exact List.mem_filter.2 ⟨List.mem_range.2 hkl, by simp [lv_core.1 (kid_lv hk), h1]⟩
    · unfold yng at hx
      obtain ⟨q1, q2⟩ := List.mem_filter.1 hx
      simp at q2
      exact List.mem_filter.2 ⟨q1, by simp [q2.1]; omega⟩)
  simp at this
  omega
theorem dp_of (h : Tr rs last) : ∀ (n e : Nat), (yng rs e).length < n → Dp rs n e
  | 0, _, hl => by omega
  | n + 1, e, hl => fun k hk => dp_of h n k (by have := yng_lt h (kids_kid hk); omega)
theorem dp17 (h : Tr rs last) (e : Nat) : Dp rs 17 e := dp_of h 17 e (by
  have : (yng rs e).length ≤ (List.range 16).length := List.length_filter_le _ _
  simp at this; omega)
/-- what is below one that is in a walk is in it too -/
theorem wk_closed : ∀ (n : Nat) {e c d : Nat}, Dp rs n e → c ∈ wk rs n e → kid rs (c : Int) d = true → d ∈ wk rs n e
  | 0, _, _, _, hd, _, _ => hd.elim
  | n + 1, e, c, d, hd, hc, hk => by
    simp only [wk, List.mem_cons, List.mem_flatMap] at hc ⊢
    rcases hc with rfl | ⟨k, hk', hc⟩
    · refine .inr ⟨d, kid_kids hk, ?_⟩
      cases n with
      | zero => exact (hd d (kid_kids hk)).elim
      | succ n => simp [wk]
    · exact .inr ⟨k, hk', wk_closed n (hd k hk') hc hk⟩
theorem wk_up : ∀ (n : Nat) {e c : Nat}, c ∈ wk rs n e → c = e ∨ ∃ q, q ∈ wk rs n e ∧ kid rs (q : Int) c = true
  | 0, e, c, hc => by simp [wk] at hc; exact .inl hc
  | n + 1, e, c, hc => by
    simp only [wk, List.mem_cons, List.mem_flatMap] at hc
    rcases hc with rfl | ⟨k, hk, hc⟩
    · exact .inl rfl
    · rcases wk_up n hc with rfl | ⟨q, h1, h2⟩
      · exact .inr ⟨e, by simp [wk], kids_kid hk⟩
      · exact .inr ⟨q, by simp only [wk, List.mem_cons, List.mem_flatMap]; exact .inr ⟨k, hk, h1⟩, h2⟩
theorem wk_self (n e : Nat) : e ∈ wk rs n e := by cases n <;> simp [wk]
theorem Tr.same (h : Tr rs last) (hs : Same rs rs') : Tr rs' last := by
  refine ⟨hs.1.trans h.len, ?_, fun k r hr h0 => ?_, fun k hk => by rw [hs.ser]; exact h.old k ((hs.lv k).1 hk), hs.dis h.dis⟩
  · obtain ⟨r, h1, h2⟩ := h.root
    obtain ⟨r', h3⟩ := (hs.lv 0).2 ⟨r, h1⟩
    refine ⟨r', h3, ?_⟩
    have := hs.2 0
    rw [core_at h1, core_at h3] at this
    simp at this
    rw [this.2.1]; exact h2
  · obtain ⟨r', h3⟩ := (hs.lv k).1 ⟨r, hr⟩
    have := hs.2 k
    rw [core_at hr, core_at h3] at this
    simp at this
    obtain ⟨p, h4, h5, h6⟩ := h.par k r' h3 h0
    exact ⟨p, by rw [this.2.1]; exact h4, (hs.lv p).2 h5, by rw [hs.ser, hs.ser]; exact h6⟩
end
end Go.Proofs.Ytoddadohmnaolaa
