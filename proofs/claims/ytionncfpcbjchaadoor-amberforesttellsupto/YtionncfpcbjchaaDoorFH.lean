import Derived.Test.YtionncfpcbjchaaDoorFG
namespace Go.Proofs.YtionncfpcbjchaaDoor
open Go.RowKit
/-- what digits say -/
def val (l : Tx) : Nat := l.foldl (fun a c => 10 * a + (c.toNat - 48)) 0
theorem dig_nat (k : Nat) (h : k < 10) : (UInt8.ofNat (48 + k)).toNat = 48 + k := by
  have : ∀ k : Fin 10, (UInt8.ofNat (48 + k.val)).toNat = 48 + k.val := by decide
  exact this ⟨k, h⟩
theorem dec_eq (u : Nat) : Lib.decDigits u = if u < 10 then [UInt8.ofNat (48 + u)] else Lib.decDigits (u / 10) ++ [UInt8.ofNat (48 + u % 10)] := by
  rw [Lib.decDigits]
  split <;> rfl
theorem dec_ch (u : Nat) : ∀ c ∈ Lib.decDigits u, 48 ≤ c.toNat ∧ c.toNat ≤ 57 := by
  induction u using Nat.strongRecOn with
  | ind u ih =>
    intro c hc
    rw [dec_eq] at hc
    split at hc
    · next h =>
      rw [List.mem_singleton] at hc
      rw [hc, dig_nat u h]; omega
    · next h =>
      rcases List.mem_append.1 hc with h1 | h1
      · exact ih (u / 10) (by omega) c h1
      · rw [List.mem_singleton] at h1
        rw [h1, dig_nat _ (by omega)]; omega
theorem dec_val (u : Nat) : val (Lib.decDigits u) = u := by
  induction u using Nat.strongRecOn with
  | ind u ih =>
    rw [dec_eq]
    split
    · next h => simp only [val, List.foldl_cons, List.foldl_nil]; rw [dig_nat u h]; omega
    · next h =>
      have h1 := ih (u / 10) (by omega)
      simp only [val] at h1 ⊢
      rw [List.foldl_append, h1]
      simp only [List.foldl_cons, List.foldl_nil]
      rw [dig_nat _ (by omega)]; omega
theorem itoa_ch (z : Int) : ∀ c ∈ Lib.itoa z, c ≠ 32 ∧ c ≠ 10 := by
  have key : ∀ (c : UInt8), 48 ≤ c.toNat → c ≠ 32 ∧ c ≠ 10 := fun c h => ⟨fun e => by subst e; simp at h, fun e => by subst e; simp at h⟩
  intro c hc
  unfold Lib.itoa at hc
  split at hc
  · rcases List.mem_cons.1 hc with rfl | h
    · decide
    · exact key c (dec_ch _ c h).1
  · exact key c (dec_ch _ c hc).1
theorem itoa_inj {z y : Int} (h : Lib.itoa z = Lib.itoa y) : z = y := by
  have no45 : ∀ u : Nat, (45 : UInt8) ∉ Lib.decDigits u := fun u hm => by
    have := (dec_ch u 45 hm).1
    simp at this
  have dinj : ∀ u v : Nat, Lib.decDigits u = Lib.decDigits v → u = v := fun u v e => by rw [← dec_val u, e, dec_val]
  unfold Lib.itoa at h
  split at h <;> split at h
  · have := dinj _ _ (List.cons.inj h).2
    omega
  · exact absurd (by rw [← h]; simp) (no45 y.toNat)
  · exact absurd (by rw [h]; simp) (no45 z.toNat)
  · have := dinj _ _ h
    omega
theorem itoa_ne (z : Int) : Lib.itoa z ≠ [] := by
  obtain ⟨c, h, _⟩ := itoa_last z
  intro e
  rw [e] at h
  cases h
/-- words, a blank ahead of each -/
def wds (ws : List Tx) : Tx := ws.flatMap fun w => 32 :: w
theorem lst_wds (L : List Int) : lst L = wds (L.map Lib.itoa) := by
  induction L with
  | nil => rfl
  | cons z r ih => rw [lst_cons, ih]; simp [wds]
theorem take_free {m : UInt8} {a r : Tx} (ha : m ∉ a) (hr : r = [] ∨ r.head? = some m) : (a ++ r).takeWhile (fun c => c != m) = a := by
  induction a with
  | nil =>
    rcases hr with rfl | h
    · rfl
    · cases r with
      | nil => rfl
      | cons c t => simp at h; subst h; simp
  | cons c t ih =>
    rw [List.mem_cons, not_or] at ha
    have hc : (c != m) = true := by simp; exact fun e => ha.1 e.symm
    rw [List.cons_append, List.takeWhile_cons, if_pos hc, ih ha.2]
theorem first_inj {m : UInt8} {a b r s : Tx} (ha : m ∉ a) (hb : m ∉ b) (hr : r = [] ∨ r.head? = some m) (hs : s = [] ∨ s.head? = some m) (h : a ++ r = b ++ s) : a = b ∧ r = s := by
  have e : a = b := by rw [← take_free ha hr, h, take_free hb hs]
  subst e
  exact ⟨rfl, List.append_cancel_left h⟩
theorem wds_head (ws : List Tx) : wds ws = [] ∨ (wds ws).head? = some 32 := by
  cases ws with
  | nil => exact .inl rfl
  | cons w r => exact .inr (by simp [wds])
theorem wds_inj : ∀ ws vs : List Tx, (∀ w ∈ ws, (32 : UInt8) ∉ w) → (∀ w ∈ vs, (32 : UInt8) ∉ w) → wds ws = wds vs → ws = vs
  | [], [], _, _, _ => rfl
  | [], v :: vs, _, _, h => by simp [wds] at h
  | w :: ws, [], _, _, h => by simp [wds] at h
  | w :: ws, v :: vs, h1, h2, h => by
    have h' : w ++ wds ws = v ++ wds vs := by simpa [wds] using h
    obtain ⟨e1, e2⟩ := first_inj (h1 w (by simp)) (h2 v (by simp)) (wds_head ws) (wds_head vs) h'
    rw [e1, wds_inj ws vs (fun x hx => h1 x (by simp [hx])) (fun x hx => h2 x (by simp [hx])) e2]
/-- lines -/
def nls (ls : List Tx) : Tx := ls.flatMap fun l => l ++ [10]
theorem nls_inj : ∀ ls ms : List Tx, (∀ w ∈ ls, (10 : UInt8) ∉ w) → (∀ w ∈ ms, (10 : UInt8) ∉ w) → nls ls = nls ms → ls = ms
  | [], [], _, _, _ => rfl
  | [], v :: vs, _, _, h => by simp [nls] at h
  | w :: ws, [], _, _, h => by simp [nls] at h
  | w :: ws, v :: vs, h1, h2, h => by
    have h' : w ++ ([10] ++ nls ws) = v ++ ([10] ++ nls vs) := by simpa [nls] using h
    obtain ⟨e1, e2⟩ := first_inj (h1 w (by simp)) (h2 v (by simp)) (.inr rfl) (.inr rfl) h'
    rw [e1, nls_inj ws vs (fun x hx => h1 x (by simp [hx])) (fun x hx => h2 x (by simp [hx])) (by simpa using e2)]
theorem nls_app (a b : List Tx) : nls (a ++ b) = nls a ++ nls b := by simp [nls]
theorem upT_nls (f B : Nat → Tx) (h : ∀ k, f k = B k ++ [10]) (n : Nat) : upT f n = nls ((List.range n).map B) := by
  simp only [upT, nls, List.flatMap_map]
  congr 1
  funext k
  exact h k
theorem hd_ch (k : Nat) (h : k < 16) : hd k ≠ 32 ∧ hd k ≠ 10 := by
  have : ∀ k : Fin 16, hd k.val ≠ 32 ∧ hd k.val ≠ 10 := by decide
  exact this ⟨k, h⟩
theorem hd_inj {j k : Nat} (h : j < 16) (h' : k < 16) (e : hd j = hd k) : j = k := by
  have : ∀ j k : Fin 16, hd j.val = hd k.val → j = k := by decide
  have := this ⟨j, h⟩ ⟨k, h'⟩ e
  simpa using this
theorem hx_cons (c : UInt8) (r : Tx) : hx (c :: r) = hd (c.toNat / 16) :: hd (c.toNat % 16) :: hx r := by simp [hx]
theorem hx_ch (Y : Tx) : ∀ c ∈ hx Y, c ≠ 32 ∧ c ≠ 10 := by
  induction Y with
  | nil => intro c hc; cases hc
  | cons y r ih =>
    intro c hc
    have := y.toNat_lt
    rw [hx_cons] at hc
    rcases List.mem_cons.1 hc with rfl | hc
    · exact hd_ch _ (by omega)
    · rcases List.mem_cons.1 hc with rfl | hc
      · exact hd_ch _ (by omega)
      · exact ih c hc
theorem hx_inj : ∀ Y Z : Tx, hx Y = hx Z → Y = Z
  | [], [], _ => rfl
  | [], z :: r, h => by rw [hx_cons] at h; simp [hx] at h
  | y :: r, [], h => by rw [hx_cons] at h; simp [hx] at h
  | y :: r, z :: t, h => by
    rw [hx_cons, hx_cons] at h
    have hy := y.toNat_lt
    have hz := z.toNat_lt
    obtain ⟨h1, h2⟩ := List.cons.inj h
    obtain ⟨h2, h3⟩ := List.cons.inj h2
    have e1 := hd_inj (by omega) (by omega) h1
    have e2 := hd_inj (by omega) (by omega) h2
    have : y = z := UInt8.toNat_inj.1 (by omega)
    rw [this, hx_inj r t h3]
theorem bys_inj {W W' : List Nat} (h : PgOk W) (h' : PgOk W') (e : bys W = bys W') : W = W' := by
  have key : ∀ i, i < 128 → pb W i = pb W' i := fun i hi => by
    have := congrArg (fun l => l[i]?) e
    simp only [bys, List.getElem?_map, List.getElem?_range hi, Option.map_some, Option.some.injEq] at this
    have h1 : pb W i < 256 := Nat.mod_lt _ (by decide)
    have h2 : pb W' i < 256 := Nat.mod_lt _ (by decide)
    have h3 := congrArg UInt8.toNat this
    simp at h3
    omega
  apply List.ext_getElem?
  intro k
  by_cases hk : k < 32
  · have w1 : W[k]? = some (W.getD k 0) := by simp [List.getD_eq_getElem?_getD, List.getElem?_eq_getElem (show k < W.length by rw [h.1]; exact hk)]
    have w2 : W'[k]? = some (W'.getD k 0) := by simp [List.getD_eq_getElem?_getD, List.getElem?_eq_getElem (show k < W'.length by rw [h'.1]; exact hk)]
    have b1 := h.2 _ (List.mem_of_getElem? w1)
    have b2 := h'.2 _ (List.mem_of_getElem? w2)
    have g : ∀ j, j < 4 → W.getD k 0 / 2 ^ (j * 8) % 256 = W'.getD k 0 / 2 ^ (j * 8) % 256 := fun j hj => by
      have := key (4 * k + j) (by omega)
      simp only [pb] at this
      rw [show (4 * k + j) / 4 = k by omega, show (4 * k + j) % 4 = j by omega] at this
      exact this
    rw [w1, w2]
    generalize W.getD k 0 = x at *
    generalize W'.getD k 0 = y at *
    have g0 : x % 256 = y % 256 := by simpa using g 0 (by omega)
    have g1 : x / 256 % 256 = y / 256 % 256 := by simpa using g 1 (by omega)
    have g2 : x / 65536 % 256 = y / 65536 % 256 := by simpa using g 2 (by omega)
    have g3 : x / 16777216 % 256 = y / 16777216 % 256 := by simpa using g 3 (by omega)
    congr 1
    omega
  · rw [List.getElem?_eq_none (by rw [h.1]; omega), List.getElem?_eq_none (by rw [h'.1]; omega)]
/-- the lines without their ends -/
def envB (k : Nat) (e : EnG) : Tx := [101, 110, 118] ++ wds ((envN k e).map Lib.itoa)
def capB (c : CaG) : Tx := [99, 97, 112] ++ wds ([c.e, c.s, c.k, c.r].map Lib.itoa ++ [whr c.inn] ++ [c.o, c.fe, c.fs].map Lib.itoa)
def mapB (m : MaG) : Tx := [109, 97, 112] ++ wds ([m.e, m.v, m.s, fl m.wr].map Lib.itoa)
def pageB (k : Nat) (W : List Nat) : Tx := [112, 97, 103, 101] ++ wds [Lib.itoa (k : Int), hx (bys W)]
def outB (k : Nat) (o : OuG) : Tx := [111, 117, 116] ++ wds ([(k : Int), o.k, o.s].map Lib.itoa)
theorem wds_app (a b : List Tx) : wds (a ++ b) = wds a ++ wds b := by simp [wds]
theorem wds_one (a : Tx) : wds [a] = 32 :: a := by simp [wds]
theorem envT_eq (k : Nat) (e : EnG) : envT k e = envB k e ++ [10] := by rw [envT, envB, lst_wds]
theorem capT_eq (c : CaG) : capT c = capB c ++ [10] := by rw [capT, capB, lst_wds, lst_wds, wds_app, wds_app, wds_one]; simp only [List.append_assoc]
theorem mapT_eq (m : MaG) : mapT m = mapB m ++ [10] := by rw [mapT, mapB, lst_wds]
theorem pageT_eq (k : Nat) (W : List Nat) : pageT k W = pageB k W ++ [10] := by
  rw [pageT, pageB, lst_wds, show [Lib.itoa (k : Int), hx (bys W)] = [(k : Int)].map Lib.itoa ++ [hx (bys W)] from rfl, wds_app, wds_one]; simp only [List.append_assoc]
theorem outT_eq (k : Nat) (o : OuG) : outT k o = outB k o ++ [10] := by rw [outT, outB, lst_wds]
def Fo.lines (F : Fo) : List Tx := (List.range F.nE).map (fun k => envB k (F.E k)) ++ ((List.range F.nC).map (fun k => capB (F.C k)) ++ ((List.range F.nM).map (fun k => mapB (F.M k)) ++ ((List.range F.nP).map (fun k => pageB k (F.P k)) ++ (List.range F.nO).map (fun k => outB k (F.O k)))))
theorem Fo.text_lines (F : Fo) : F.text = nls F.lines := by
  unfold Fo.text Fo.lines
  rw [nls_app, nls_app, nls_app, nls_app, upT_nls F.e _ (fun k => envT_eq k (F.E k)), upT_nls F.c _ (fun k => capT_eq (F.C k)), upT_nls F.m _ (fun k => mapT_eq (F.M k)), upT_nls F.p _ (fun k => pageT_eq k (F.P k)), upT_nls F.o _ (fun k => outT_eq k (F.O k))]
  simp only [List.append_assoc]
theorem no_wds {m : UInt8} (hm : m ≠ 32) {ws : List Tx} (h : ∀ w ∈ ws, m ∉ w) : m ∉ wds ws := by
  intro hc
  simp only [wds, List.mem_flatMap, List.mem_cons] at hc
  obtain ⟨w, hw, rfl | h9⟩ := hc
  · exact hm rfl
  · exact h w hw h9
theorem no_itoa {L : List Int} (m : UInt8) (hm : m = 32 ∨ m = 10) : ∀ w ∈ L.map Lib.itoa, m ∉ w := by
  intro w hw hc
  obtain ⟨z, _, rfl⟩ := List.mem_map.1 hw
  have := itoa_ch z m hc
  rcases hm with rfl | rfl
  · exact this.1 rfl
  · exact this.2 rfl
theorem no_whr (b : Bool) (m : UInt8) (hm : m = 32 ∨ m = 10) : m ∉ whr b := by
  rcases hm with rfl | rfl <;> cases b <;> decide
theorem no_hx (Y : Tx) (m : UInt8) (hm : m = 32 ∨ m = 10) : m ∉ hx Y := fun hc => by
  have := hx_ch Y m hc
  rcases hm with rfl | rfl
  · exact this.1 rfl
  · exact this.2 rfl
theorem no_cap (c : CaG) (m : UInt8) (hm : m = 32 ∨ m = 10) : ∀ w ∈ [c.e, c.s, c.k, c.r].map Lib.itoa ++ [whr c.inn] ++ [c.o, c.fe, c.fs].map Lib.itoa, m ∉ w := by
  intro w hw
  rcases List.mem_append.1 hw with h | h
  · rcases List.mem_append.1 h with h | h
    · exact no_itoa m hm w h
    · rw [List.mem_singleton] at h; rw [h]; exact no_whr _ m hm
  · exact no_itoa m hm w h
theorem no_page (k : Nat) (W : List Nat) (m : UInt8) (hm : m = 32 ∨ m = 10) : ∀ w ∈ [Lib.itoa (k : Int), hx (bys W)], m ∉ w := by
  intro w hw
  rcases List.mem_cons.1 hw with rfl | h
  · exact no_itoa (L := [(k : Int)]) m hm _ (by simp)
  · rw [List.mem_singleton] at h; rw [h]; exact no_hx _ m hm
theorem no_head {a b : Tx} {m : UInt8} (h1 : m ∉ a) (h2 : m ∉ b) : m ∉ a ++ b := fun h => (List.mem_append.1 h).elim h1 h2
theorem Fo.lines_no (F : Fo) : ∀ w ∈ F.lines, (10 : UInt8) ∉ w := by
  intro w hw
  simp only [Fo.lines, List.mem_append, List.mem_map] at hw
  rcases hw with ⟨k, _, rfl⟩ | ⟨k, _, rfl⟩ | ⟨k, _, rfl⟩ | ⟨k, _, rfl⟩ | ⟨k, _, rfl⟩
  · exact no_head (by decide) (no_wds (by decide) (no_itoa 10 (.inr rfl)))
  · exact no_head (by decide) (no_wds (by decide) (no_cap _ 10 (.inr rfl)))
  · exact no_head (by decide) (no_wds (by decide) (no_itoa 10 (.inr rfl)))
  · exact no_head (by decide) (no_wds (by decide) (no_page _ _ 10 (.inr rfl)))
  · exact no_head (by decide) (no_wds (by decide) (no_itoa 10 (.inr rfl)))
theorem filt_all {n : Nat} {B : Nat → Tx} {m : UInt8} (h : ∀ k, (B k).head? = some m) : ((List.range n).map B).filter (fun l => l.head? == some m) = (List.range n).map B := by
  rw [List.filter_eq_self]
  intro l hl
  obtain ⟨k, _, rfl⟩ := List.mem_map.1 hl
  simp [h k]
theorem filt_none {n : Nat} {B : Nat → Tx} {m j : UInt8} (h : ∀ k, (B k).head? = some j) (hj : j ≠ m) : ((List.range n).map B).filter (fun l => l.head? == some m) = [] := by
  rw [List.filter_eq_nil_iff]
  intro l hl
  obtain ⟨k, _, rfl⟩ := List.mem_map.1 hl
  simp [h k, hj]
theorem map_inj {n n' : Nat} {B B' : Nat → Tx} (h : (List.range n).map B = (List.range n').map B') : n = n' ∧ ∀ k, k < n → B k = B' k := by
  have hl := congrArg List.length h
  simp at hl
  subst hl
  refine ⟨rfl, fun k hk => ?_⟩
  have := congrArg (fun l => l[k]?) h
  simpa [hk] using this
theorem fl_inj {b c : Bool} (h : fl b = fl c) : b = c := by cases b <;> cases c <;> simp_all [fl]
theorem whr_inj {b c : Bool} (h : whr b = whr c) : b = c := by cases b <;> cases c <;> simp_all [whr]
theorem iN_inj {W W' : List Nat} (h : iN W = iN W') : W = W' := by
  have : Function.Injective (fun n : Nat => ((n : Nat) : Int)) := fun a b e => by have e' : (a : Int) = (b : Int) := e; omega
  exact List.map_inj_right (fun _ _ e => this e) |>.1 h
theorem itoas_inj {L M : List Int} (h : L.map Lib.itoa = M.map Lib.itoa) : L = M := (List.map_inj_right (fun _ _ e => itoa_inj e)).1 h
theorem envB_inj {k : Nat} {e f : EnG} (he : e.Ok) (hf : f.Ok) (h : envB k e = envB k f) : e = f := by
  have h1 := itoas_inj (wds_inj _ _ (no_itoa 32 (.inl rfl)) (no_itoa 32 (.inl rfl)) (List.append_cancel_left h))
  obtain ⟨p, s, c, b, z, W, pc, q1, q2, q3⟩ := e
  obtain ⟨p', s', c', b', z', W', pc', q1', q2', q3'⟩ := f
  have l1 : W.length = 8 := he.n
  have l2 : W'.length = 8 := hf.n
  simp only [envN] at h1
  obtain ⟨h2, h3⟩ := List.append_inj h1 (by simp [iN_len, l1, l2])
  obtain ⟨h4, h5⟩ := List.append_inj h2 (by simp)
  have h6 := iN_inj h5
  obtain ⟨h7, h8⟩ := List.append_inj h6 (by omega)
  simp at h3 h4 h8
  obtain ⟨rfl, rfl, rfl⟩ := h3
  obtain ⟨rfl, rfl, rfl, rfl, hz⟩ := h4
  have := fl_inj hz
  subst this h7 h8
  rfl
theorem capB_inj {e f : CaG} (h : capB e = capB f) : e = f := by
  have h1 := wds_inj _ _ (no_cap e 32 (.inl rfl)) (no_cap f 32 (.inl rfl)) (List.append_cancel_left h)
  obtain ⟨a1, a2, a3, a4, a5, a6, a7, a8⟩ := e
  obtain ⟨b1, b2, b3, b4, b5, b6, b7, b8⟩ := f
  simp only [List.map_cons, List.map_nil, List.cons_append, List.nil_append, List.cons.injEq, and_true] at h1
  obtain ⟨e1, e2, e3, e4, e5, e6, e7, e8⟩ := h1
  have := itoa_inj e1; have := itoa_inj e2; have := itoa_inj e3; have := itoa_inj e4; have := whr_inj e5; have := itoa_inj e6; have := itoa_inj e7; have := itoa_inj e8
  simp_all
theorem mapB_inj {e f : MaG} (h : mapB e = mapB f) : e = f := by
  have h1 := itoas_inj (wds_inj _ _ (no_itoa 32 (.inl rfl)) (no_itoa 32 (.inl rfl)) (List.append_cancel_left h))
  obtain ⟨a1, a2, a3, a4⟩ := e
  obtain ⟨b1, b2, b3, b4⟩ := f
  simp only [List.cons.injEq, and_true] at h1
  obtain ⟨rfl, rfl, rfl, e4⟩ := h1
  rw [fl_inj e4]
theorem pageB_inj {k : Nat} {W W' : List Nat} (hW : PgOk W) (hW' : PgOk W') (h : pageB k W = pageB k W') : W = W' := by
  have h1 := wds_inj _ _ (no_page k W 32 (.inl rfl)) (no_page k W' 32 (.inl rfl)) (List.append_cancel_left h)
  simp only [List.cons.injEq, and_true, true_and] at h1
  exact bys_inj hW hW' (hx_inj _ _ h1)
theorem outB_inj {k : Nat} {e f : OuG} (h : outB k e = outB k f) : e = f := by
  have h1 := itoas_inj (wds_inj _ _ (no_itoa 32 (.inl rfl)) (no_itoa 32 (.inl rfl)) (List.append_cancel_left h))
  obtain ⟨a1, a2⟩ := e
  obtain ⟨b1, b2⟩ := f
  simp only [List.cons.injEq, and_true, true_and] at h1
  obtain ⟨rfl, rfl⟩ := h1
  rfl
/-- one text just when they are the same -/
theorem text_iff {F G : Fo} (hF : F.Ok) (hG : G.Ok) : F.text = G.text ↔ Eqv F G := by
  constructor
  · intro h
    rw [F.text_lines, G.text_lines] at h
    have hl := nls_inj _ _ F.lines_no G.lines_no h
    have part : ∀ m : UInt8, F.lines.filter (fun l => l.head? == some m) = G.lines.filter (fun l => l.head? == some m) := fun m => by rw [hl]
    have he : ∀ (F : Fo) k, (envB k (F.E k)).head? = some 101 := fun F k => rfl
    have hc : ∀ (F : Fo) k, (capB (F.C k)).head? = some 99 := fun F k => rfl
    have hm : ∀ (F : Fo) k, (mapB (F.M k)).head? = some 109 := fun F k => rfl
    have hp : ∀ (F : Fo) k, (pageB k (F.P k)).head? = some 112 := fun F k => rfl
    have ho : ∀ (F : Fo) k, (outB k (F.O k)).head? = some 111 := fun F k => rfl
    have pE := part 101
    have pC := part 99
    have pM := part 109
    have pP := part 112
    have pO := part 111
    simp only [Fo.lines, List.filter_append] at pE pC pM pP pO
    rw [filt_all (he F), filt_none (hc F) (by decide), filt_none (hm F) (by decide), filt_none (hp F) (by decide), filt_none (ho F) (by decide), filt_all (he G), filt_none (hc G) (by decide), filt_none (hm G) (by decide), filt_none (hp G) (by decide), filt_none (ho G) (by decide)] at pE
    rw [filt_none (he F) (by decide), filt_all (hc F), filt_none (hm F) (by decide), filt_none (hp F) (by decide), filt_none (ho F) (by decide), filt_none (he G) (by decide), filt_all (hc G), filt_none (hm G) (by decide), filt_none (hp G) (by decide), filt_none (ho G) (by decide)] at pC
    rw [filt_none (he F) (by decide), filt_none (hc F) (by decide), filt_all (hm F), filt_none (hp F) (by decide), filt_none (ho F) (by decide), filt_none (he G) (by decide), filt_none (hc G) (by decide), filt_all (hm G), filt_none (hp G) (by decide), filt_none (ho G) (by decide)] at pM
    rw [filt_none (he F) (by decide), filt_none (hc F) (by decide), filt_none (hm F) (by decide), filt_all (hp F), filt_none (ho F) (by decide), filt_none (he G) (by decide), filt_none (hc G) (by decide), filt_none (hm G) (by decide), filt_all (hp G), filt_none (ho G) (by decide)] at pP
    rw [filt_none (he F) (by decide), filt_none (hc F) (by decide), filt_none (hm F) (by decide), filt_none (hp F) (by decide), filt_all (ho F), filt_none (he G) (by decide), filt_none (hc G) (by decide), filt_none (hm G) (by decide), filt_none (hp G) (by decide), filt_all (ho G)] at pO
    simp only [List.append_nil, List.nil_append] at pE pC pM pP pO
    obtain ⟨e1, e2⟩ := map_inj pE
    obtain ⟨c1, c2⟩ := map_inj pC
    obtain ⟨m1, m2⟩ := map_inj pM
    obtain ⟨p1, p2⟩ := map_inj pP
    obtain ⟨o1, o2⟩ := map_inj pO
    exact ⟨⟨e1, fun k hk => envB_inj (hF.E k hk) (hG.E k (by omega)) (e2 k hk)⟩, ⟨c1, fun k hk => capB_inj (c2 k hk)⟩, ⟨m1, fun k hk => mapB_inj (m2 k hk)⟩, ⟨p1, fun k hk => pageB_inj (hF.P k hk) (hG.P k (by omega)) (p2 k hk)⟩, ⟨o1, fun k hk => outB_inj (o2 k hk)⟩⟩
  · intro h
    have up : ∀ (f g : Nat → Tx) (n n' : Nat), n = n' → (∀ k, k < n → f k = g k) → upT f n = upT g n' := by
      rintro f g n _ rfl hk
      simp only [upT]
      rw [List.flatMap_def, List.flatMap_def, List.map_congr_left (fun k hk' => hk k (List.mem_range.1 hk'))]
    unfold Fo.text
    rw [up F.e G.e _ _ h.e.1 (fun k hk => by rw [Fo.e, Fo.e, h.e.2 k hk]), up F.c G.c _ _ h.c.1 (fun k hk => by rw [Fo.c, Fo.c, h.c.2 k hk]), up F.m G.m _ _ h.m.1 (fun k hk => by rw [Fo.m, Fo.m, h.m.2 k hk]), up F.p G.p _ _ h.p.1 (fun k hk => by rw [Fo.p, Fo.p, h.p.2 k hk]), up F.o G.o _ _ h.o.1 (fun k hk => by rw [Fo.o, Fo.o, h.o.2 k hk])]
theorem itoa_pos (z : Int) : 1 ≤ (Lib.itoa z).length := by
  cases e : Lib.itoa z with
  | nil => exact absurd e (itoa_ne z)
  | cons c r => simp
theorem lst_ge (L : List Int) : 2 * L.length ≤ (lst L).length := by
  induction L with
  | nil => simp [lst]
  | cons z r ih => have := itoa_pos z; rw [lst_cons]; simp; omega
/-- a text with an environment is long -/
theorem text_ge {F : Fo} (hF : F.Ok) (h : 0 < F.nE) : 20 ≤ F.text.length := by
  have h1 := lst_ge (envN 0 (F.E 0))
  have h2 : (envN 0 (F.E 0)).length = 18 := by simp [envN, iN_len, (hF.E 0 h).n]
  have h3 : (envT 0 (F.E 0)).length ≤ (upT F.e F.nE).length := by
    obtain ⟨n, hn⟩ : ∃ n, F.nE = n + 1 := ⟨F.nE - 1, by omega⟩
    rw [hn, upT, List.range_succ_eq_map, List.flatMap_cons, List.length_append]
    simp only [Fo.e]
    omega
  have h4 : (upT F.e F.nE).length ≤ F.text.length := by simp only [Fo.text, List.length_append]; omega
  have h5 : (lst (envN 0 (F.E 0))).length ≤ (envT 0 (F.E 0)).length := by simp only [envT, List.length_append]; omega
  omega
end Go.Proofs.YtionncfpcbjchaaDoor
