import Derived.Below
import Derived.Shelf.Small.Wraps
import Derived.Shelf.Small.Strs
import Derived.Shelf.Small.Utf8
import Derived.Shelf.Strings.Runes
import Derived.Shelf.Strings.SlTrimAscii
import Derived.Test.YtiafodeabdhcoaaGreatDoorProg
import Derived.Deep.Cut
import Derived.Deep.DeepCutAuto
import Derived.WalkSmall
import Derived.BigQuiet
import Derived.WalkMore
import Derived.Laws.DeepStrings4
import Derived.Laws.Strings3
import Derived.Lib.ItoaMem
import Derived.Test.YtiafodeabdhcoaaGreatDoorM00
namespace Go.Proofs.YtiafodeabdhcoaaGreatDoor
open Go.RowKit
theorem cut_at (ms : Tx) : ∀ (s : Tx) (k : Nat) (hk : k < s.length), (∀ j (hj : j < k), ms.contains s[j] = false) → ms.contains s[k] = true → cutT ms s = some (s.take k, s.drop (k + 1))
  | [], k, hk, _, _ => by simp at hk
  | c :: r, 0, _, _, h => by
    simp only [List.getElem_cons_zero] at h
    simp only [cutT, h, if_true, List.take_zero, List.drop_succ_cons, List.drop_zero]
  | c :: r, k + 1, hk, h0, h => by
    have hc := h0 0 (Nat.succ_pos k)
    simp only [List.getElem_cons_zero] at hc
    have ih := cut_at ms r k (by simpa using hk) (fun j hj => by simpa using h0 (j + 1) (by omega)) (by simpa using h)
    simp only [cutT, hc, ih, Bool.false_eq_true, if_false, Option.map_some, List.take_succ_cons, List.drop_succ_cons]
theorem cut_none (ms : Tx) : ∀ (s : Tx), (∀ j (hj : j < s.length), ms.contains s[j] = false) → cutT ms s = none
  | [], _ => rfl
  | c :: r, h => by
    have hc := h 0 (by simp)
    simp only [List.getElem_cons_zero] at hc
    have ih := cut_none ms r (fun j hj => h (j + 1) (Nat.succ_lt_succ hj))
    simp only [cutT, hc, ih, Bool.false_eq_true, if_false, Option.map_none]
theorem split_ne (m : UInt8) (s : Tx) : splitT m s ≠ [] := by
  cases s with
  | nil => simp [splitT]
  | cons c r =>
    simp only [splitT]
    split
    · simp
    · split <;> simp
/-- pieces so far, then one that is open -/
theorem split_mark (m : UInt8) : ∀ (a b : Tx), (∀ x ∈ a, (x == m) = false) → splitT m (a ++ m :: b) = a :: splitT m b
  | [], b, _ => by simp [splitT]
  | c :: r, b, h => by
    have hc := h c (by simp)
    have ih := split_mark m r b (fun x hx => h x (by simp [hx]))
    simp only [List.cons_append, splitT, hc, Bool.false_eq_true, if_false, ih]
theorem split_end (m : UInt8) : ∀ (a : Tx), (∀ x ∈ a, (x == m) = false) → splitT m a = [a]
  | [], _ => rfl
  | c :: r, h => by
    have hc := h c (by simp)
    have ih := split_end m r (fun x hx => h x (by simp [hx]))
    simp only [splitT, hc, Bool.false_eq_true, if_false, ih]
theorem lbl_iff (s : Tx) : isLbl s = true ↔ s ≠ [] ∧ ∀ j (hj : j < s.length), isLet s[j] = true ∨ (j ≠ 0 ∧ isDig s[j] = true) := by
  cases s with
  | nil => simp [isLbl]
  | cons c r =>
    simp only [isLbl, Bool.and_eq_true, List.all_eq_true, Bool.or_eq_true]
    constructor
    · rintro ⟨h1, h2⟩
      refine ⟨by simp, fun j hj => ?_⟩
      cases j with
      | zero => exact .inl h1
      | succ j =>
        simp only [List.getElem_cons_succ]
        rcases h2 _ (List.getElem_mem (by simpa using hj)) with h | h
        · exact .inl h
        · exact .inr ⟨by omega, h⟩
    · rintro ⟨_, h⟩
      refine ⟨?_, fun x hx => ?_⟩
      · rcases h 0 (by simp) with h | h
        · exact h
        · exact absurd rfl h.1
      · obtain ⟨j, hj, rfl⟩ := List.getElem_of_mem hx
        rcases h (j + 1) (by simpa using hj) with h | h
        · exact .inl (by simpa using h)
        · exact .inr (by simpa using h.2)
theorem digV_le (c : UInt8) : digV c ≤ 16 := by
  unfold digV isDig
  split
  · next h => simp at h; omega
  · split <;> omega
theorem numF_take (b : Nat) : ∀ (s : Tx) (n j : Nat) (m : Nat), numF b n (s.take j) = some m → numF b n s = numF b m (s.drop j)
  | [], n, j, m, h => by simp [numF] at h ⊢; subst h; simp
  | c :: r, n, 0, m, h => by simp [numF] at h; subst h; simp
  | c :: r, n, j + 1, m, h => by
    simp only [List.take_succ_cons, numF] at h
    split at h
    · next hd =>
      simp only [numF, hd, if_true, List.drop_succ_cons]
      exact numF_take b r _ j m h
    · simp at h
theorem numF_snoc (b : Nat) (c : UInt8) : ∀ (s : Tx) (n : Nat), numF b n (s ++ [c]) = (numF b n s).bind fun m => if digV c < b then some (m * b + digV c) else none
  | [], n => by simp [numF]
  | x :: r, n => by
    simp only [List.cons_append, numF]
    split
    · exact numF_snoc b c r _
    · rfl
theorem numF_step {b m pos : Nat} {D : Tx} (hp : pos < D.length) (h : numF b 0 (D.take pos) = some m) (hd : digV D[pos] < b) : numF b 0 (D.take (pos + 1)) = some (m * b + digV D[pos]) := by
  rw [List.take_succ_eq_append_getElem hp, numF_snoc, h]
  simp [hd]
theorem numF_none {b m pos : Nat} {D : Tx} (hp : pos < D.length) (h : numF b 0 (D.take pos) = some m) (hd : ¬ digV D[pos] < b) : numF b 0 D = none := by
  rw [numF_take b D 0 pos m h, List.drop_eq_getElem_cons hp]
  simp [numF, hd]
/-- a number of so many digits -/
theorem numF_lt (b : Nat) (hb : 2 ≤ b) : ∀ (s : Tx) (n m k : Nat), n < b ^ k → numF b n s = some m → m < b ^ (k + s.length)
  | [], n, m, k, h, e => by simp [numF] at e; subst e; simpa using h
  | c :: r, n, m, k, h, e => by
    simp only [numF] at e
    split at e
    · next hd =>
      have h1 : n * b + digV c < b ^ (k + 1) := by
        have : (n + 1) * b ≤ b ^ k * b := Nat.mul_le_mul_right b h
        rw [Nat.pow_succ]
        rw [Nat.add_mul] at this
        omega
      have := numF_lt b hb r _ m (k + 1) h1 e
      rw [List.length_cons, show k + (r.length + 1) = k + 1 + r.length by omega]
      exact this
    · simp at e
end Go.Proofs.YtiafodeabdhcoaaGreatDoor

namespace Go.Proofs
open Go.Shelf
def Tryz.lays160_ren : Go.Shelf.Ren := ⟨fun | 160 => 102 | 232 => 130 | 231 => 129 | 227 => 131 | 234 => 133 | 233 => 132 | 236 => 135 | 235 => 134 | 228 => 152 | 271 => 153 | 151 => 128 | 197 => 147 | 120 => 168 | 152 => 151 | 260 => 166 | 137 => 73 | 119 => 167 | 224 => 163 | 225 => 162 | 217 => 107 | 266 => 141 | n => n, fun | 9 => 9 | 4 => 4 | 3 => 3 | 5 => 5 | 117 => 183 | 116 => 182 | 0 => 0 | 124 => 186 | 21 => 21 | 105 => 196 | 46 => 134 | 119 => 215 | 139 => 218 | 138 => 217 | n => n, fun | 3 => 7 | 4 => 8 | n => n⟩
theorem Tryz.lays160 : Go.Proofs.Lays.n160 Tryz.prog Tryz.lays160_ren := {
  mixed := by kernel_rfl
  f119 := Tryz.func167.trans (congrArg some (by kernel_rfl))
  f120 := Tryz.func168.trans (congrArg some (by kernel_rfl))
  f137 := Tryz.func73.trans (congrArg some (by kernel_rfl))
  f151 := Tryz.func128.trans (congrArg some (by kernel_rfl))
  f152 := Tryz.func151.trans (congrArg some (by kernel_rfl))
  f160 := Tryz.func102.trans (congrArg some (by kernel_rfl))
  f197 := Tryz.func147.trans (congrArg some (by kernel_rfl))
  f217 := Tryz.func107.trans (congrArg some (by kernel_rfl))
  f224 := Tryz.func163.trans (congrArg some (by kernel_rfl))
  f225 := Tryz.func162.trans (congrArg some (by kernel_rfl))
  f227 := Tryz.func131.trans (congrArg some (by kernel_rfl))
  f228 := Tryz.func152.trans (congrArg some (by kernel_rfl))
  f231 := Tryz.func129.trans (congrArg some (by kernel_rfl))
  f232 := Tryz.func130.trans (congrArg some (by kernel_rfl))
  f233 := Tryz.func132.trans (congrArg some (by kernel_rfl))
  f234 := Tryz.func133.trans (congrArg some (by kernel_rfl))
  f235 := Tryz.func134.trans (congrArg some (by kernel_rfl))
  f236 := Tryz.func135.trans (congrArg some (by kernel_rfl))
  f260 := Tryz.func166.trans (congrArg some (by kernel_rfl))
  f266 := Tryz.func141.trans (congrArg some (by kernel_rfl))
  f271 := Tryz.func153.trans (congrArg some (by kernel_rfl))
  t0 := Tryz.underlying0
  a0 := Tryz.isAgg0
  z0 := Tryz.sizeOf0
  v0 := Tryz.zeroValue0
  t3 := Tryz.underlying3
  a3 := Tryz.isAgg3
  z3 := Tryz.sizeOf3
  v3 := Tryz.zeroValue3
  t4 := Tryz.underlying4
  a4 := Tryz.isAgg4
  z4 := Tryz.sizeOf4
  v4 := Tryz.zeroValue4
  t5 := Tryz.underlying5
  a5 := Tryz.isAgg5
  z5 := Tryz.sizeOf5
  v5 := Tryz.zeroValue5
  t9 := Tryz.underlying9
  a9 := Tryz.isAgg9
  z9 := Tryz.sizeOf9
  v9 := Tryz.zeroValue9
  t21 := Tryz.underlying21
  a21 := Tryz.isAgg21
  z21 := Tryz.sizeOf21
  v21 := Tryz.zeroValue21
  t46 := Tryz.underlying134
  a46 := Tryz.isAgg134
  z46 := Tryz.sizeOf134
  v46 := Tryz.zeroValue134
  t105 := Tryz.underlying196
  a105 := Tryz.isAgg196
  z105 := Tryz.sizeOf196
  v105 := Tryz.zeroValue196
  t116 := Tryz.underlying182
  a116 := Tryz.isAgg182
  z116 := Tryz.sizeOf182
  t117 := Tryz.underlying183
  a117 := Tryz.isAgg183
  z117 := Tryz.sizeOf183
  v117 := Tryz.zeroValue183
  t119 := Tryz.underlying215
  a119 := Tryz.isAgg215
  z119 := Tryz.sizeOf215
  t124 := Tryz.underlying186
  a124 := Tryz.isAgg186
  z124 := Tryz.sizeOf186
  v124 := Tryz.zeroValue186
  t138 := Tryz.underlying217
  a138 := Tryz.isAgg217
  z138 := Tryz.sizeOf217
  v138 := Tryz.zeroValue217
  t139 := Tryz.underlying218
  a139 := Tryz.isAgg218
  z139 := Tryz.sizeOf218
  v139 := Tryz.zeroValue218
  g3 := by kernel_rfl
  g4 := by kernel_rfl }
def Tryz.lays103_ren : Go.Shelf.Ren := ⟨fun | 103 => 142 | 210 => 161 | 206 => 72 | n => n, fun | 9 => 9 | 4 => 4 | 24 => 192 | 3 => 3 | n => n, fun | n => n⟩
theorem Tryz.lays103 : Go.Proofs.Lays.n103 Tryz.prog Tryz.lays103_ren := {
  mixed := by kernel_rfl
  f103 := Tryz.func142.trans (congrArg some (by kernel_rfl))
  f206 := Tryz.func72.trans (congrArg some (by kernel_rfl))
  f210 := Tryz.func161.trans (congrArg some (by kernel_rfl))
  t3 := Tryz.underlying3
  a3 := Tryz.isAgg3
  z3 := Tryz.sizeOf3
  v3 := Tryz.zeroValue3
  t4 := Tryz.underlying4
  a4 := Tryz.isAgg4
  z4 := Tryz.sizeOf4
  v4 := Tryz.zeroValue4
  t9 := Tryz.underlying9
  a9 := Tryz.isAgg9
  z9 := Tryz.sizeOf9
  v9 := Tryz.zeroValue9
  t24 := Tryz.underlying192
  a24 := Tryz.isAgg192
  z24 := Tryz.sizeOf192
  v24 := Tryz.zeroValue192 }
def Tryz.lays151_ren : Go.Shelf.Ren := ⟨fun | 151 => 128 | 152 => 151 | 137 => 73 | 119 => 167 | 224 => 163 | 225 => 162 | 217 => 107 | 266 => 141 | n => n, fun | 9 => 9 | 21 => 21 | 4 => 4 | 3 => 3 | 5 => 5 | 0 => 0 | 46 => 134 | n => n, fun | n => n⟩
theorem Tryz.lays151 : Go.Proofs.Lays.n151 Tryz.prog Tryz.lays151_ren := {
  mixed := by kernel_rfl
  f119 := Tryz.func167.trans (congrArg some (by kernel_rfl))
  f137 := Tryz.func73.trans (congrArg some (by kernel_rfl))
  f151 := Tryz.func128.trans (congrArg some (by kernel_rfl))
  f152 := Tryz.func151.trans (congrArg some (by kernel_rfl))
  f217 := Tryz.func107.trans (congrArg some (by kernel_rfl))
  f224 := Tryz.func163.trans (congrArg some (by kernel_rfl))
  f225 := Tryz.func162.trans (congrArg some (by kernel_rfl))
  f266 := Tryz.func141.trans (congrArg some (by kernel_rfl))
  t0 := Tryz.underlying0
  a0 := Tryz.isAgg0
  z0 := Tryz.sizeOf0
  v0 := Tryz.zeroValue0
  t3 := Tryz.underlying3
  a3 := Tryz.isAgg3
  z3 := Tryz.sizeOf3
  v3 := Tryz.zeroValue3
  t4 := Tryz.underlying4
  a4 := Tryz.isAgg4
  z4 := Tryz.sizeOf4
  v4 := Tryz.zeroValue4
  t5 := Tryz.underlying5
  a5 := Tryz.isAgg5
  z5 := Tryz.sizeOf5
  v5 := Tryz.zeroValue5
  t9 := Tryz.underlying9
  a9 := Tryz.isAgg9
  z9 := Tryz.sizeOf9
  v9 := Tryz.zeroValue9
  t21 := Tryz.underlying21
  a21 := Tryz.isAgg21
  z21 := Tryz.sizeOf21
  v21 := Tryz.zeroValue21
  t46 := Tryz.underlying134
  a46 := Tryz.isAgg134
  z46 := Tryz.sizeOf134
  v46 := Tryz.zeroValue134 }
def Tryz.lays137_ren : Go.Shelf.Ren := ⟨fun | 137 => 73 | 217 => 107 | 266 => 141 | n => n, fun | 9 => 9 | 5 => 5 | 3 => 3 | n => n, fun | n => n⟩
theorem Tryz.lays137 : Go.Proofs.Lays.n137 Tryz.prog Tryz.lays137_ren := {
  mixed := by kernel_rfl
  f137 := Tryz.func73.trans (congrArg some (by kernel_rfl))
  f217 := Tryz.func107.trans (congrArg some (by kernel_rfl))
  f266 := Tryz.func141.trans (congrArg some (by kernel_rfl))
  t3 := Tryz.underlying3
  a3 := Tryz.isAgg3
  z3 := Tryz.sizeOf3
  v3 := Tryz.zeroValue3
  t5 := Tryz.underlying5
  a5 := Tryz.isAgg5
  z5 := Tryz.sizeOf5
  v5 := Tryz.zeroValue5
  t9 := Tryz.underlying9
  a9 := Tryz.isAgg9
  z9 := Tryz.sizeOf9
  v9 := Tryz.zeroValue9 }
def Tryz.lays119_ren : Go.Shelf.Ren := ⟨fun | 119 => 167 | n => n, fun | 21 => 21 | 4 => 4 | n => n, fun | n => n⟩
theorem Tryz.lays119 : Go.Proofs.Lays.n119 Tryz.prog Tryz.lays119_ren := {
  mixed := by kernel_rfl
  f119 := Tryz.func167.trans (congrArg some (by kernel_rfl))
  t4 := Tryz.underlying4
  a4 := Tryz.isAgg4
  z4 := Tryz.sizeOf4
  v4 := Tryz.zeroValue4
  t21 := Tryz.underlying21
  a21 := Tryz.isAgg21
  z21 := Tryz.sizeOf21
  v21 := Tryz.zeroValue21 }
open Go.RowKit Go.Lib
theorem Tryz.trims (l : List UInt8) (w : World) (hs : l.length ≤ 9223372036854775807) : Calls Tryz.prog 102 #[.string ⟨l.toArray⟩, .string ⟨#[32, 9]⟩] w fun e w' => e = .returned (.string ⟨(Lib.trimS l [32, 9]).toArray⟩) ∧ Below w.heap.size w w' :=
  Any.strings_Trim_laid Tryz.lays160 (by kernel_rfl) ⟨l.toArray⟩ ⟨#[32, 9]⟩ w (by simpa [ByteArray.size] using hs) (by decide) (ascii_of_all (by decide))
theorem Tryz.cutPre (l p : List UInt8) (w : World) : Calls Tryz.prog 142 #[.string ⟨l.toArray⟩, .string ⟨p.toArray⟩] w fun e w' => e = .returned (.tuple #[.string ⟨(Lib.trimPrefix l p).toArray⟩, .bool (Lib.hasPrefix l p)]) ∧ w' = w :=
  Any.strings_CutPrefix Tryz.lays103 ⟨l.toArray⟩ ⟨p.toArray⟩ w
theorem Tryz.contAscii (l : List UInt8) (r : Int) (w : World) (h0 : 0 ≤ r) (h1 : r < 128) : Calls Tryz.prog 128 #[.string ⟨l.toArray⟩, .int .i32 r] w fun e w' => e = .returned (.bool (decide (0 ≤ Lib.indexByte l r.toNat.toUInt8))) ∧ w' = w :=
  Any.strings_ContainsRune_ascii Tryz.lays151 ⟨l.toArray⟩ r w h0 h1
theorem Tryz.idxByte (l : List UInt8) (c : Int) (w : World) : Calls Tryz.prog 73 #[.string ⟨l.toArray⟩, .int .u8 c] w fun e w' => e = .returned (.int .i64 (Lib.indexByte l c.toNat.toUInt8)) ∧ w' = w :=
  Any.strings_IndexByte Tryz.lays137 ⟨l.toArray⟩ c w
theorem Tryz.validR (r : Int) (w : World) : Calls Tryz.prog 167 #[.int .i32 r] w fun e w' => e = .returned (.bool (decide (0 ≤ r ∧ r < 55296 ∨ 57343 < r ∧ r ≤ 1114111))) ∧ w' = w :=
  Any.utf8_ValidRune Tryz.lays119 r w
end Go.Proofs

namespace Go.Proofs.YtiafodeabdhcoaaGreatDoor
open Go.RowKit
theorem mk_size (l : Tx) : (⟨l.toArray⟩ : ByteArray).size = l.length := by simp [ByteArray.size]
theorem mk_get (l : Tx) (j : Nat) (h : j < (⟨l.toArray⟩ : ByteArray).size) : (⟨l.toArray⟩ : ByteArray)[j]'h = l[j]'(by rw [mk_size] at h; exact h) := by
  show l.toArray[j]'_ = _
  simp
set_option maxRecDepth 4000 in
theorem enc_hi {r : Nat} (h0 : 128 ≤ r) (h1 : r ≤ 1114111) (hv : r < 55296 ∨ 57343 < r) : ∃ rs : Tx, Utf8.encode (r : Int) = ⟨rs.toArray⟩ ∧ 2 ≤ rs.length ∧ rs.length ≤ 4 ∧ ∀ (h : 1 < rs.length), rs.length = 2 → 128 ≤ (rs[1]'h).toNat := by
  have hval : Utf8.valid (r : Int) = true := by
    unfold Utf8.valid
    simp only [Bool.or_eq_true, Bool.and_eq_true, decide_eq_true_eq]
    omega
  have n1 : ¬ r < 128 := by omega
  by_cases h2 : r < 2048
  · refine ⟨[UInt8.ofNat (192 + r / 64), UInt8.ofNat (128 + r % 64)], by simp [Utf8.encode, hval, n1, h2], by simp, by simp, fun h _ => ?_⟩
    show 128 ≤ (UInt8.ofNat (128 + r % 64)).toNat
    simp
    omega
  · by_cases h3 : r < 65536
    · exact ⟨[UInt8.ofNat (224 + r / 4096), UInt8.ofNat (128 + r / 64 % 64), UInt8.ofNat (128 + r % 64)], by simp [Utf8.encode, hval, n1, h2, h3], by simp, by simp, fun h e => by simp at e⟩
    · exact ⟨[UInt8.ofNat (240 + r / 262144), UInt8.ofNat (128 + r / 4096 % 64), UInt8.ofNat (128 + r / 64 % 64), UInt8.ofNat (128 + r % 64)], by simp [Utf8.encode, hval, n1, h2, h3], by simp, by simp, fun h e => by simp at e⟩
/-- a step of a walk over a text: an ASCII letter, or something beyond ASCII as a whole -/
theorem it_step {P : Program} {wr : World} {g : Nat} {l : Tx} {pos : Nat} (hI : It wr g ⟨l.toArray⟩ pos) (hp : pos < l.length) :
    ∃ c q : Nat, (∀ ty, (Instr.next (.pointer (some ⟨g, 0, none⟩)) true ty).run P wr = .ok (.tuple #[.bool true, .int .i64 pos, .int .i32 (c : Nat)]) (World.itTo wr g ⟨l.toArray⟩ q)) ∧ pos < q ∧ q ≤ l.length ∧
      ((c < 128 ∧ c = (l[pos]'hp).toNat ∧ q = pos + 1) ∨ (128 ≤ c ∧ c ≤ 1114111 ∧ ∀ j (hj : j < l.length), pos ≤ j → j < q → 128 ≤ (l[j]'hj).toNat)) := by
  have hp' : pos < (⟨l.toArray⟩ : ByteArray).size := by rw [mk_size]; exact hp
  by_cases ha : (l[pos]'hp).toNat < 128
  · have hd := decode_ascii ⟨l.toArray⟩ pos hp' (by rw [mk_get]; exact ha)
    rw [mk_get] at hd
    refine ⟨(l[pos]'hp).toNat, pos + 1, fun ty => ?_, by omega, by omega, .inl ⟨ha, rfl, rfl⟩⟩
    rw [it_next hI ty hp', hd]
  · obtain ⟨h1, h2, h3, h4, h5⟩ := dec_hi ⟨l.toArray⟩ pos hp' (by rw [mk_get]; exact ha)
    rw [mk_size] at h4
    refine ⟨(Utf8.decode ⟨l.toArray⟩ pos).1, pos + (Utf8.decode ⟨l.toArray⟩ pos).2, fun ty => it_next hI ty hp', by omega, h4, .inr ⟨h1, h2, fun j hj h6 h7 => ?_⟩⟩
    obtain ⟨k, hk⟩ := h5 (j - pos) (by omega)
    rw [mk_get] at hk
    have e : pos + (j - pos) = j := by omega
    simp only [e] at hk
    omega
theorem it_stop {P : Program} {wr : World} {g : Nat} {l : Tx} {pos : Nat} (hI : It wr g ⟨l.toArray⟩ pos) (hp : ¬ pos < l.length) (ty : TypeId) :
    (Instr.next (.pointer (some ⟨g, 0, none⟩)) true ty).run P wr = .ok (.tuple #[.bool false]) wr := it_end hI ty (by rw [mk_size]; exact hp)
theorem idx_none (c : Int) (w : World) : Calls Tryz.prog 73 #[.string ByteArray.empty, .int .u8 c] w fun e w' => e = .returned (.int .i64 (-1)) ∧ w' = w := Tryz.idxByte [] c w
section
variable (w : World)
set_option maxRecDepth 100000 in
set_option maxHeartbeats 2000000 in
/-- a rune beyond ASCII in a text of at most two ASCII letters -/
theorem idx_hi (l : Tx) (hl : l.length ≤ 2) (ha : ∀ c ∈ l, c.toNat < 128) (r : Nat) (h0 : 128 ≤ r) (h1 : r ≤ 1114111) : Calls Tryz.prog 151 #[.string ⟨l.toArray⟩, .int .i32 (r : Int)] w fun e w' => e = .returned (.int .i64 (-1)) ∧ Below w.heap.size w w' := by
  have n1 : ¬ (r : Int) < 128 := by omega
  by_cases he : r = 65533
  · subst he
    go_enter Tryz.func151, Tryz.ntmps151
    go_upto_region 38 with fail
    go_loopw [4] (fun u wr => ∃ pos : Nat, u = .int .i64 0 ∧ pos ≤ l.length ∧ It wr w.heap.size ⟨l.toArray⟩ pos ∧ Below w.heap.size w wr) (fun _ wr => l.length - itPos wr w.heap.size)
    case atStart => exact ⟨0, rfl, by omega, heap_alloc_last _ _, bel1 _ _⟩
    case round =>
    obtain ⟨pos, rfl, hp, hI, hB⟩ := hrel
    by_cases hlt : pos < l.length
    · obtain ⟨c, q, nx, hq, hql, hc⟩ := it_step (P := Tryz.prog) hI hlt
      have hc2 : (c : Int) < 128 := by
        rcases hc with ⟨h, _⟩ | ⟨_, _, h⟩
        · omega
        · have h2 := h pos hlt (Nat.le_refl _) hq
          have h3 := ha _ (List.getElem_mem hlt)
          omega
      have HI := hide (it_to hI q)
      have HB := hide (it_below (s := ⟨l.toArray⟩) hB (Nat.le_refl _) q)
      have HP := hide (it_pos hI)
      clear hc hI hB
      go_wp2
      refine ⟨⟨q, rfl, hql, HI.out, HB.out⟩, ?_⟩
      rw [it_pos HI.out, HP.out]
      omega
    · have nx := it_stop (P := Tryz.prog) hI hlt
      have HB := hide hB
      clear hI hB
      go_wp2
      go_ret
      exact ⟨rfl, HB.out⟩
  · have ne : ¬ (r : Int) = 65533 := by omega
    by_cases hv : r < 55296 ∨ 57343 < r
    · have HE := hide (enc_hi h0 h1 hv)
      have hvd : decide (0 ≤ (r : Int) ∧ (r : Int) < 55296 ∨ 57343 < (r : Int) ∧ (r : Int) ≤ 1114111) = true := by simp; omega
      have hV := Tryz.validR (r : Int) w
      rw [hvd] at hV
      have HV := hide hV
      have H1 := hide h1
      have HL := hide hl
      have HA := hide ha
      clear hvd hv h0 h1 he hV ha hl
      go_enter Tryz.func151, Tryz.ntmps151
      go_wp2_with fail
      refine HV.out.mono ?_
      rintro e w1 ⟨rfl, rfl⟩
      clear HV
      obtain ⟨rs, ers, hr2, hr4, hr1⟩ := HE.out
      have HR1 := hide hr1
      clear hr1 HE
      go_upto_region 1 with fail
      go_step3
      go_upto_region 5 with fail
      go_loopw [9] (fun u wr => u = .int .i64 ((rs.length : Int) - 1) ∧ wr = w1) (fun _ _ => 0)
      case atStart => exact ⟨rfl, rfl⟩
      case round =>
      obtain ⟨rfl, rfl⟩ := hrel
      by_cases hlt : (rs.length : Int) - 1 < (l.length : Int)
      · have hl := HL.out
        have e2 : rs.length = 2 := by omega
        have el : l.length = 2 := by omega
        match l, el with
        | [x, y], _ =>
        match rs, e2 with
        | [x', y'], _ =>
        have hy : ¬ y = y' := fun e => by
          have h3 := HR1.out (by simp) rfl
          have h4 := HA.out y (by simp)
          simp at h3
          rw [← e] at h3
          omega
        clear hr2 hr4 ers HL HR1 HA hl hlt e2 el
        have hx1 : ∀ h, (⟨#[x, y]⟩ : ByteArray)[1]'h = y := fun _ => rfl
        have hx2 : ∀ h, (⟨#[x', y']⟩ : ByteArray)[1]'h = y' := fun _ => rfl
        have hy2 : ¬ y.toNat = y'.toNat := fun e => hy (UInt8.toNat_inj.1 e)
        have hy3 : ((y.toNat : Int) != (y'.toNat : Int)) = true := by simp only [bne_iff_ne, ne_eq]; omega
        clear hy hy2
        go_upto_region 6 with fail
        go_step3
        go_upto_region 6 with fail
        go_region
        go_upto_region 7 with fail
        have HD : Hid (Below wr.heap.size wr wr.drew) := hide ⟨rfl, rfl, rfl, Nat.le_refl _, fun _ _ => rfl⟩
        generalize wr.drew = w9 at *
        go_quiet (first | (go_at_call 73; refine Calls.quiet_of_same (idx_none _ _)))
        go_wp2
        rw [Exit.noGoto_ret]
        go_wp2
        rw [Exit.noGoto_ret]
        go_wp2
        go_ret
        exact ⟨rfl, HD.out.trans ⟨rfl, rfl, rfl, Nat.le_refl _, fun _ _ => rfl⟩⟩
      · go_wp2
        go_ret
        exact ⟨rfl, Below.refl _ _⟩
    · have hvd : decide (0 ≤ (r : Int) ∧ (r : Int) < 55296 ∨ 57343 < (r : Int) ∧ (r : Int) ≤ 1114111) = false := by simp; omega
      have hV := Tryz.validR (r : Int) w
      rw [hvd] at hV
      have HV := hide hV
      have H1 := hide h1
      have HL := hide hl
      have HA := hide ha
      clear hvd hv h0 h1 he hV ha hl
      go_enter Tryz.func151, Tryz.ntmps151
      go_wp2_with fail
      refine HV.out.mono ?_
      rintro e w1 ⟨rfl, rfl⟩
      clear HV
      go_wp2
      go_ret
      exact ⟨rfl, Below.refl _ _⟩
theorem idx_ascii (l : Tx) (c : Nat) : decide (0 ≤ Lib.indexByte l ((c : Nat) : Int).toNat.toUInt8) = l.contains (UInt8.ofNat c) := by
  have e : ((c : Nat) : Int).toNat.toUInt8 = UInt8.ofNat c := by simp [Nat.toUInt8]
  rw [e]
  have key : ∀ l : Tx, (l.contains (UInt8.ofNat c) = true → 0 ≤ Lib.indexByte l (UInt8.ofNat c)) ∧ (l.contains (UInt8.ofNat c) = false → Lib.indexByte l (UInt8.ofNat c) = -1) := by
    intro l
    induction l with
    | nil => simp [Lib.indexByte]
    | cons x r ih =>
      simp only [Lib.indexByte]
      by_cases hx : x = UInt8.ofNat c
      · subst hx; simp
      · have h1 : (x == UInt8.ofNat c) = false := by simpa using hx
        have h2 : (UInt8.ofNat c == x) = false := by simpa using fun e => hx e.symm
        simp only [h1, Bool.false_eq_true, if_false, List.contains_cons, h2, Bool.false_or]
        refine ⟨fun h => ?_, fun h => ?_⟩
        · have := ih.1 h
          split
          · next e => simp at e; omega
          · omega
        · rw [ih.2 h]; rfl
  cases h : l.contains (UInt8.ofNat c) with
  | true => simpa using (key l).1 h
  | false => rw [(key l).2 h]; rfl
theorem cont_any (l : Tx) (hl : l.length ≤ 2) (ha : ∀ c ∈ l, c.toNat < 128) (c : Nat) (h1 : c ≤ 1114111) : Calls Tryz.prog 128 #[.string ⟨l.toArray⟩, .int .i32 (c : Int)] w fun e w' => e = .returned (.bool (decide (c < 128) && l.contains (UInt8.ofNat c))) ∧ Below w.heap.size w w' := by
  by_cases hc : c < 128
  · refine (Tryz.contAscii l (c : Int) w (by omega) (by omega)).mono ?_
    rintro e w1 ⟨rfl, rfl⟩
    exact ⟨by rw [idx_ascii l c]; simp [hc], Below.refl _ _⟩
  · have HI := hide (idx_hi w l hl ha c (by omega) h1)
    have HC : Hid ((decide (c < 128) && l.contains (UInt8.ofNat c)) = false) := hide (by simp [hc])
    clear h1 hl ha hc
    go_enter Tryz.func128, Tryz.ntmps128
    go_wp2_with fail
    refine HI.out.mono ?_
    rintro e w1 ⟨rfl, hb⟩
    go_wp2
    go_ret
    exact ⟨by rw [HC.out]; rfl, hb⟩
end
end Go.Proofs.YtiafodeabdhcoaaGreatDoor

namespace Go.Proofs.YtiafodeabdhcoaaGreatDoor
open Go.RowKit
/-- a text as a value -/
abbrev St' (l : Tx) : Value := .string ⟨l.toArray⟩
theorem ext_mk (l : Tx) (a b : Nat) : (⟨l.toArray⟩ : ByteArray).extract a b = ⟨((l.take b).drop a).toArray⟩ := by
  apply ByteArray.ext
  simp [ByteArray.data_extract, List.drop_take]
section
variable (w : World)
set_option maxRecDepth 100000 in
set_option maxHeartbeats 1000000 in
theorem cutAt_any (ms l : Tx) (hm : ms.length ≤ 2) (ha : ∀ c ∈ ms, c.toNat < 128) (hl : l.length ≤ 16384) : Calls Tryz.prog 101 #[.string ⟨l.toArray⟩, .string ⟨ms.toArray⟩] w fun e w' => e = .returned (.tuple #[.string ⟨((cutT ms l).getD (l, [])).1.toArray⟩, .string ⟨((cutT ms l).getD (l, [])).2.toArray⟩, .bool (cutT ms l).isSome]) ∧ Below w.heap.size w w' := by
  go_enter Tryz.func101, Tryz.ntmps101
  go_upto_region 2 with fail
  go_loopw [4, 5, 6] (fun u v x wr => ∃ pos : Nat, u = .string ⟨#[]⟩ ∧ v = .string ⟨#[]⟩ ∧ x = .bool false ∧ pos ≤ l.length ∧ (∀ j (hj : j < l.length), j < pos → ms.contains l[j] = false) ∧ It wr w.heap.size ⟨l.toArray⟩ pos ∧ Below w.heap.size w wr) (fun _ _ _ wr => l.length - itPos wr w.heap.size)
  case atStart => exact ⟨0, rfl, rfl, rfl, by omega, fun j _ h => by omega, heap_alloc_last _ _, bel1 _ _⟩
  case round =>
  obtain ⟨pos, rfl, rfl, rfl, hp, hno, hI, hB⟩ := hrel
  by_cases hlt : pos < l.length
  · obtain ⟨c, q, nx, hq, hql, hc⟩ := it_step (P := Tryz.prog) hI hlt
    have HI := hide (it_to hI q)
    have HB := hide (it_below (s := ⟨l.toArray⟩) hB (Nat.le_refl _) q)
    have HP := hide (it_pos hI)
    have hc1 : c ≤ 1114111 := by rcases hc with ⟨h, _⟩ | ⟨_, h, _⟩ <;> omega
    have HC := hide hc
    have HN := hide hno
    clear hc hI hB hno
    go_wp2_with fail
    refine (cont_any _ ms hm ha c hc1).mono ?_
    rintro e w1 ⟨rfl, hb⟩
    have HI1 := hide (it_kept HI.out hb)
    have HB1 := hide (HB.out.trans (hb.mono (by have := HB.out.size; exact this)))
    clear hb HI HB
    cases hx : (decide (c < 128) && ms.contains (UInt8.ofNat c)) with
    | true =>
      simp only [Bool.and_eq_true, decide_eq_true_eq] at hx
      obtain ⟨hx1, hx2⟩ := hx
      have HE : Hid (cutT ms l = some (l.take pos, l.drop (pos + 1))) := hide (by
        rcases HC.out with ⟨_, e, _⟩ | ⟨h, _⟩
        · refine cut_at ms l pos hlt (fun j hj => HN.out j (by omega) hj) ?_
          rw [e] at hx2
          simpa using hx2
        · omega)
      have e1 := ext_mk l 0 pos
      have e2 := ext_mk l (pos + 1) l.length
      rw [List.drop_zero] at e1
      rw [List.take_length] at e2
      clear HC HN hx1 hx2 nx
      go_upto_region 5 with fail
      go_region
      go_wp2
      go_ret3
      exact ⟨by rw [HE.out]; rfl, HB1.out.trans ⟨rfl, rfl, rfl, Nat.le_refl _, fun _ _ => rfl⟩⟩
    | false =>
      go_wp2
      refine ⟨⟨q, rfl, rfl, rfl, hql, fun j hj hjq => ?_, HI1.out, HB1.out⟩, ?_⟩
      · by_cases hjp : j < pos
        · exact HN.out j hj hjp
        · rcases HC.out with ⟨h1, h2, h3⟩ | ⟨_, _, h⟩
          · obtain rfl : j = pos := by omega
            simp only [Bool.and_eq_false_iff, decide_eq_false_iff_not] at hx
            rcases hx with hx | hx
            · omega
            · rw [h2] at hx
              simpa using hx
          · have h3 := h j hj (by omega) hjq
            cases hm2 : ms.contains l[j] with
            | false => rfl
            | true =>
              have := ha l[j] (by simpa using hm2)
              omega
      · rw [it_pos HI1.out, HP.out]
        omega
  · have nx := it_stop (P := Tryz.prog) hI hlt
    have HN : Hid (cutT ms l = none) := hide (cut_none ms l fun j hj => hno j hj (by omega))
    have HB := hide hB
    clear hI hB hno
    go_wp2
    go_ret3
    exact ⟨by rw [HN.out]; rfl, HB.out⟩
end
end Go.Proofs.YtiafodeabdhcoaaGreatDoor

namespace Go.Proofs.YtiafodeabdhcoaaGreatDoor
open Go.RowKit
def letN (c : Nat) : Bool := (decide (97 ≤ c) && decide (c ≤ 122)) || (decide (65 ≤ c) && decide (c ≤ 90)) || decide (c = 95)
def digN (c : Nat) : Bool := decide (48 ≤ c) && decide (c ≤ 57)
theorem let_hi {c : Nat} (h : 128 ≤ c) : letN c = false := by simp [letN]; omega
theorem dig_hi {c : Nat} (h : 128 ≤ c) : digN c = false := by simp [digN]; omega
section
variable (w : World)
theorem letter_any (c : Nat) : Calls Tryz.prog 138 #[.int .i32 (c : Int)] w fun e w' => e = .returned (.bool (letN c)) ∧ w' = w := by
  by_cases h1 : 97 ≤ c
  · by_cases h2 : c ≤ 122
    · have a1 : (97 : Int) ≤ c := by omega
      have a2 : (c : Int) ≤ 122 := by omega
      have HV : Hid (letN c = true) := hide (by simp [letN]; omega)
      go_enter Tryz.func138, Tryz.ntmps138
      go_wp2
      go_ret
      exact ⟨by rw [HV.out]; rfl, rfl⟩
    · have a1 : (97 : Int) ≤ c := by omega
      have a2 : ¬ (c : Int) ≤ 122 := by omega
      have a3 : (65 : Int) ≤ c := by omega
      have a4 : ¬ (c : Int) ≤ 90 := by omega
      have a5 : ((c : Int) == 95) = false := by simp; omega
      have HV : Hid (letN c = false) := hide (by simp [letN]; omega)
      go_enter Tryz.func138, Tryz.ntmps138
      go_wp2
      go_ret
      exact ⟨by rw [HV.out]; rfl, rfl⟩
  · have a1 : ¬ (97 : Int) ≤ c := by omega
    by_cases h2 : 65 ≤ c
    · have a3 : (65 : Int) ≤ c := by omega
      by_cases h3 : c ≤ 90
      · have a4 : (c : Int) ≤ 90 := by omega
        have HV : Hid (letN c = true) := hide (by simp [letN]; omega)
        go_enter Tryz.func138, Tryz.ntmps138
        go_wp2
        go_ret
        exact ⟨by rw [HV.out]; rfl, rfl⟩
      · have a4 : ¬ (c : Int) ≤ 90 := by omega
        by_cases h4 : c = 95
        · subst h4
          go_enter Tryz.func138, Tryz.ntmps138
          go_wp2
          go_ret
          exact ⟨rfl, rfl⟩
        · have a5 : ((c : Int) == 95) = false := by simp; omega
          have HV : Hid (letN c = false) := hide (by simp [letN]; omega)
          go_enter Tryz.func138, Tryz.ntmps138
          go_wp2
          go_ret
          exact ⟨by rw [HV.out]; rfl, rfl⟩
    · have a3 : ¬ (65 : Int) ≤ c := by omega
      have a5 : ((c : Int) == 95) = false := by simp; omega
      have HV : Hid (letN c = false) := hide (by simp [letN]; omega)
      go_enter Tryz.func138, Tryz.ntmps138
      go_wp2
      go_ret
      exact ⟨by rw [HV.out]; rfl, rfl⟩
theorem digit1_any (c : Nat) : Calls Tryz.prog 139 #[.int .i32 (c : Int)] w fun e w' => e = .returned (.bool (digN c)) ∧ w' = w := by
  by_cases h1 : 48 ≤ c
  · have a1 : (48 : Int) ≤ c := by omega
    by_cases h2 : c ≤ 57
    · have a2 : (c : Int) ≤ 57 := by omega
      have HV : Hid (digN c = true) := hide (by simp [digN]; omega)
      go_enter Tryz.func139, Tryz.ntmps139
      go_wp2
      go_ret
      exact ⟨by rw [HV.out]; rfl, rfl⟩
    · have a2 : ¬ (c : Int) ≤ 57 := by omega
      have HV : Hid (digN c = false) := hide (by simp [digN]; omega)
      go_enter Tryz.func139, Tryz.ntmps139
      go_wp2
      go_ret
      exact ⟨by rw [HV.out]; rfl, rfl⟩
  · have a1 : ¬ (48 : Int) ≤ c := by omega
    have HV : Hid (digN c = false) := hide (by simp [digN]; omega)
    go_enter Tryz.func139, Tryz.ntmps139
    go_wp2
    go_ret
    exact ⟨by rw [HV.out]; rfl, rfl⟩
def dvN (c : Nat) : Nat := if digN c then c - 48 else if 97 ≤ c ∧ c ≤ 102 then c - 87 else 16
theorem dv_hi {c : Nat} (h : 128 ≤ c) : dvN c = 16 := by unfold dvN; rw [dig_hi h]; simp; omega
theorem digit_any (c : Nat) (hc : c ≤ 1114111) : Calls Tryz.prog 175 #[.int .i32 (c : Int)] w fun e w' => e = .returned (.int .i64 (dvN c : Nat)) ∧ w' = w := by
  have HC := hide hc
  have hD := digit1_any w c
  cases hd : digN c with
  | true =>
    have HV : Hid (dvN c = c - 48) := hide (by simp [dvN, hd])
    have h1 : 48 ≤ c ∧ c ≤ 57 := by simpa [digN] using hd
    have e1 : (c : Int) - 48 = ((c - 48 : Nat) : Int) := by omega
    rw [hd] at hD
    have HD := hide hD
    clear hD hd hc
    go_enter Tryz.func175, Tryz.ntmps175
    go_wp2_with fail
    refine HD.out.mono ?_
    rintro e w1 ⟨rfl, rfl⟩
    go_wp2
    go_ret
    exact ⟨by rw [HV.out]; rfl, rfl⟩
  | false =>
    rw [hd] at hD
    have HD := hide hD
    clear hD
    by_cases h1 : 97 ≤ c ∧ c ≤ 102
    · have HV : Hid (dvN c = c - 87) := hide (by simp [dvN, hd, h1])
      have a1 : (97 : Int) ≤ c := by omega
      have a2 : (c : Int) ≤ 102 := by omega
      have HE : Hid ((c : Int) - 97 + 10 = ((c - 87 : Nat) : Int)) := hide (by omega)
      clear hd hc h1
      go_enter Tryz.func175, Tryz.ntmps175
      go_wp2_with fail
      refine HD.out.mono ?_
      rintro e w1 ⟨rfl, rfl⟩
      go_wp2
      go_ret
      exact ⟨by rw [HV.out, ← HE.out]; rfl, rfl⟩
    · have HV : Hid (dvN c = 16) := hide (by simp [dvN, hd, h1])
      by_cases h2 : 97 ≤ c
      · have a1 : (97 : Int) ≤ c := by omega
        have a2 : ¬ (c : Int) ≤ 102 := by omega
        clear hd hc h1 h2
        go_enter Tryz.func175, Tryz.ntmps175
        go_wp2_with fail
        refine HD.out.mono ?_
        rintro e w1 ⟨rfl, rfl⟩
        go_wp2
        go_ret
        exact ⟨by rw [HV.out]; rfl, rfl⟩
      · have a1 : ¬ (97 : Int) ≤ c := by omega
        clear hd hc h1 h2
        go_enter Tryz.func175, Tryz.ntmps175
        go_wp2_with fail
        refine HD.out.mono ?_
        rintro e w1 ⟨rfl, rfl⟩
        go_wp2
        go_ret
        exact ⟨by rw [HV.out]; rfl, rfl⟩
end
end Go.Proofs.YtiafodeabdhcoaaGreatDoor

namespace Go.Proofs.YtiafodeabdhcoaaGreatDoor
open Go.RowKit
theorem let_byte (b : UInt8) : isLet b = letN b.toNat := rfl
theorem dig_byte (b : UInt8) : isDig b = digN b.toNat := rfl
theorem dv_byte (b : UInt8) : digV b = dvN b.toNat := rfl
/-- what stands at place j is allowed in a label -/
def okAt (j c : Nat) : Bool := letN c || (decide (j ≠ 0) && digN c)
theorem lbl_true {s : Tx} (h0 : s ≠ []) (h : ∀ j (hj : j < s.length), okAt j s[j].toNat = true) : isLbl s = true := by
  rw [lbl_iff]
  refine ⟨h0, fun j hj => ?_⟩
  have := h j hj
  unfold okAt at this
  simp only [Bool.or_eq_true, Bool.and_eq_true, decide_eq_true_eq] at this
  exact this
theorem lbl_false {s : Tx} {j : Nat} (hj : j < s.length) (h : okAt j s[j].toNat = false) : isLbl s = false := by
  cases e : isLbl s with
  | false => rfl
  | true =>
    have h2 := (lbl_iff s).1 e |>.2 j hj
    unfold okAt at h
    simp only [Bool.or_eq_false_iff, Bool.and_eq_false_iff, decide_eq_false_iff_not] at h
    rcases h2 with h2 | h2
    · rw [let_byte, h.1] at h2; simp at h2
    · rcases h.2 with h3 | h3
      · exact absurd h2.1 h3
      · rw [dig_byte, h3] at h2; simp at h2
section
variable (w : World)
set_option maxRecDepth 100000 in
set_option maxHeartbeats 1000000 in
theorem isLabel_any (l : Tx) (hl : l.length ≤ 16384) : Calls Tryz.prog 104 #[.string ⟨l.toArray⟩] w fun e w' => e = .returned (.bool (isLbl l)) ∧ Below w.heap.size w w' := by
  go_enter Tryz.func104, Tryz.ntmps104
  go_upto_region 2 with fail
  go_loopw [2] (fun u wr => ∃ pos : Nat, u = .bool false ∧ pos ≤ l.length ∧ (∀ j (hj : j < l.length), j < pos → okAt j l[j].toNat = true) ∧ It wr w.heap.size ⟨l.toArray⟩ pos ∧ Below w.heap.size w wr) (fun _ wr => l.length - itPos wr w.heap.size)
  case atStart => exact ⟨0, rfl, by omega, fun j _ h => by omega, heap_alloc_last _ _, bel1 _ _⟩
  case round =>
  obtain ⟨pos, rfl, hp, hno, hI, hB⟩ := hrel
  by_cases hlt : pos < l.length
  · obtain ⟨c, q, nx, hq, hql, hc⟩ := it_step (P := Tryz.prog) hI hlt
    have HI := hide (it_to hI q)
    have HB := hide (it_below (s := ⟨l.toArray⟩) hB (Nat.le_refl _) q)
    have HP := hide (it_pos hI)
    have HN := hide hno
    have HT : Hid (okAt pos c = true → q = pos + 1 ∧ c = l[pos].toNat) := hide (by
      intro h
      rcases hc with ⟨_, h1, h2⟩ | ⟨h1, _⟩
      · exact ⟨h2, h1⟩
      · unfold okAt at h; rw [let_hi h1, dig_hi h1] at h; simp at h)
    have HF : Hid (okAt pos c = false → isLbl l = false) := hide (by
      intro h
      rcases hc with ⟨_, h1, h2⟩ | ⟨h1, _, h3⟩
      · rw [h1] at h; exact lbl_false hlt h
      · have h4 := h3 pos hlt (Nat.le_refl _) hq
        refine lbl_false hlt ?_
        unfold okAt; rw [let_hi h4, dig_hi h4]; simp)
    have HL := hide (letter_any (World.itTo wr w.heap.size ⟨l.toArray⟩ q) c)
    have HG := hide (digit1_any (World.itTo wr w.heap.size ⟨l.toArray⟩ q) c)
    clear hc hI hB hno
    cases hx : letN c with
    | true =>
      rw [hx] at HL
      have HO : Hid (okAt pos c = true) := hide (by simp [okAt, hx])
      clear hx
      go_wp2_with fail
      refine HL.out.mono ?_
      rintro e w1 ⟨rfl, rfl⟩
      go_wp2
      obtain ⟨e1, e2⟩ := HT.out HO.out
      refine ⟨⟨q, rfl, hql, fun j hj hjq => ?_, HI.out, HB.out⟩, ?_⟩
      · by_cases hjp : j < pos
        · exact HN.out j hj hjp
        · obtain rfl : j = pos := by omega
          rw [← e2]; exact HO.out
      · rw [it_pos HI.out, HP.out]
        omega
    | false =>
      rw [hx] at HL
      by_cases h0 : pos = 0
      · have HO : Hid (okAt pos c = false) := hide (by simp [okAt, hx, h0])
        clear hx
        subst h0
        go_wp2_with fail
        refine HL.out.mono ?_
        rintro e w1 ⟨rfl, rfl⟩
        go_wp2
        go_ret
        exact ⟨by rw [HF.out HO.out]; rfl, HB.out⟩
      · have h0' : ((pos : Int) == 0) = false := by simp; omega
        cases hy : digN c with
        | true =>
          have HO : Hid (okAt pos c = true) := hide (by simp [okAt, hx, hy, h0])
          rw [hy] at HG
          clear hx hy h0
          go_wp2_with fail
          refine HL.out.mono ?_
          rintro e w1 ⟨rfl, rfl⟩
          go_wp2_with fail
          refine HG.out.mono ?_
          rintro e w1 ⟨rfl, rfl⟩
          go_wp2
          obtain ⟨e1, e2⟩ := HT.out HO.out
          refine ⟨⟨q, rfl, hql, fun j hj hjq => ?_, HI.out, HB.out⟩, ?_⟩
          · by_cases hjp : j < pos
            · exact HN.out j hj hjp
            · obtain rfl : j = pos := by omega
              rw [← e2]; exact HO.out
          · rw [it_pos HI.out, HP.out]
            omega
        | false =>
          have HO : Hid (okAt pos c = false) := hide (by simp [okAt, hx, hy])
          rw [hy] at HG
          clear hx hy h0
          go_wp2_with fail
          refine HL.out.mono ?_
          rintro e w1 ⟨rfl, rfl⟩
          go_wp2_with fail
          refine HG.out.mono ?_
          rintro e w1 ⟨rfl, rfl⟩
          go_wp2
          go_ret
          exact ⟨by rw [HF.out HO.out]; rfl, HB.out⟩
  · have nx := it_stop (P := Tryz.prog) hI hlt
    have HB := hide hB
    by_cases h0 : l = []
    · subst h0
      clear hI hB hno
      go_wp2
      go_ret
      exact ⟨rfl, HB.out⟩
    · have HV : Hid (isLbl l = true) := hide (lbl_true h0 fun j hj => hno j hj (by omega))
      have hne : List.isEmpty l = false := by simpa using h0
      clear hI hB hno h0
      go_wp2
      go_ret
      exact ⟨by rw [HV.out]; rfl, HB.out⟩
theorem register_any' (l : Tx) : Calls Tryz.prog 171 #[.string ⟨l.toArray⟩] w fun e w' => e = .returned (.tuple #[.int .i64 ((regT l).getD 0 : Nat), .bool (regT l).isSome]) ∧ w' = w := by
  match l with
  | [] =>
    go_enter Tryz.func171, Tryz.ntmps171
    go_wp2
    go_ret2
    exact ⟨rfl, rfl⟩
  | [a] =>
    go_enter Tryz.func171, Tryz.ntmps171
    go_wp2
    go_ret2
    exact ⟨rfl, rfl⟩
  | a :: b :: c :: r =>
    have hlen : ¬ ((r.length + 1 + 1 + 1 : Nat) : Int) = 2 := by omega
    go_enter Tryz.func171, Tryz.ntmps171
    go_wp2
    go_ret2
    exact ⟨rfl, rfl⟩
  | [a, b] =>
    have hx0 : ∀ h, (⟨#[a, b]⟩ : ByteArray)[0]'h = a := fun _ => rfl
    have hx1 : ∀ h, (⟨#[a, b]⟩ : ByteArray)[1]'h = b := fun _ => rfl
    by_cases h1 : a.toNat = 114
    · by_cases h2 : 48 ≤ b.toNat
      · by_cases h3 : b.toNat < 56
        · have a0 : ((a.toNat : Int) != 114) = false := by simp; omega
          have a1 : ¬ (b.toNat : Int) < 48 := by omega
          have a2 : ¬ (56 : Int) ≤ (b.toNat : Int) := by omega
          have a3 : (48 : Int) ≤ (b.toNat : Int) := by omega
          have a4 : (b.toNat : Int) < 56 := by omega
          have HE : Hid (((b.toNat - 48 : Nat) : Int) = (b.toNat : Int) - 48) := hide (by omega)
          have HV : Hid (regT [a, b] = some (b.toNat - 48)) := hide (by simp [regT]; omega)
          go_enter Tryz.func171, Tryz.ntmps171
          go_wp2
          go_ret2
          exact ⟨by rw [HV.out]; simp only [Option.getD_some]; rw [HE.out]; rfl, rfl⟩
        · have a0 : ((a.toNat : Int) != 114) = false := by simp; omega
          have a1 : ¬ (b.toNat : Int) < 48 := by omega
          have a2 : (56 : Int) ≤ (b.toNat : Int) := by omega
          have HV : Hid (regT [a, b] = none) := hide (by simp [regT]; omega)
          go_enter Tryz.func171, Tryz.ntmps171
          go_wp2
          go_ret2
          exact ⟨by rw [HV.out]; rfl, rfl⟩
      · have a0 : ((a.toNat : Int) != 114) = false := by simp; omega
        have a1 : (b.toNat : Int) < 48 := by omega
        have HV : Hid (regT [a, b] = none) := hide (by simp [regT]; omega)
        go_enter Tryz.func171, Tryz.ntmps171
        go_wp2
        go_ret2
        exact ⟨by rw [HV.out]; rfl, rfl⟩
    · have a0 : ((a.toNat : Int) != 114) = true := by simp; omega
      have HV : Hid (regT [a, b] = none) := hide (by simp [regT]; omega)
      go_enter Tryz.func171, Tryz.ntmps171
      go_wp2
      go_ret2
      exact ⟨by rw [HV.out]; rfl, rfl⟩
theorem dv_le (c : Nat) : dvN c ≤ 16 := by
  unfold dvN digN
  split
  · next h => simp at h; omega
  · split <;> omega
set_option maxRecDepth 100000 in
set_option maxHeartbeats 1000000 in
theorem number_any' (l : Tx) (hl : l.length ≤ 16384) : Calls Tryz.prog 169 #[.string ⟨l.toArray⟩] w fun e w' => e = .returned (.tuple #[.int .i64 ((numT l).getD 0), .bool (numT l).isSome]) ∧ Below w.heap.size w w' := by
  have h1 := Tryz.cutPre l [45] w
  have h2 := Tryz.cutPre (absT l) [48, 120] w
  have HV : Hid (numT l = if (digT (absT l)).length = 0 ∨ mosT (absT l) < (digT (absT l)).length then none else (numF (basT (absT l)) 0 (digT (absT l))).map fun n => if minT l then -(n : Int) else (n : Int)) := hide rfl
  have HD : Hid (hexT (absT l) = false → digT (absT l) = absT l) := hide (by
    intro h
    unfold digT Lib.trimPrefix
    unfold hexT at h
    rw [h]; rfl)
  change Calls _ _ _ _ fun e w' => e = .returned (.tuple #[.string ⟨(absT l).toArray⟩, .bool (minT l)]) ∧ w' = w at h1
  change Calls _ _ _ _ fun e w' => e = .returned (.tuple #[.string ⟨(digT (absT l)).toArray⟩, .bool (hexT (absT l))]) ∧ w' = w at h2
  have hab : (absT l).length ≤ 16384 := by
    unfold absT Lib.trimPrefix
    split
    · simp; omega
    · exact hl
  generalize absT l = A at *
  generalize minT l = mi at *
  unfold mosT basT at HV
  have hdl : (digT A).length ≤ 16384 := by
    unfold digT Lib.trimPrefix
    split
    · simp; omega
    · exact hab
  generalize digT A = D at *
  cases hx : hexT A with
  | true =>
    rw [hx] at HV h2
    simp only [if_true] at HV
    have H1 := hide h1
    have H2 := hide h2
    clear h1 h2 HD hx
    by_cases h0 : D = []
    · have HN : Hid (numT l = none) := hide (by rw [HV.out, h0]; rfl)
      subst h0
      clear HV
      go_enter Tryz.func169, Tryz.ntmps169
      go_wp2_with fail
      refine H1.out.mono ?_
      rintro e w1 ⟨rfl, rfl⟩
      go_wp2_with fail
      refine H2.out.mono ?_
      rintro e w2 ⟨rfl, rfl⟩
      go_wp2
      go_ret2
      exact ⟨by rw [HN.out]; rfl, Below.refl _ _⟩
    have he : List.isEmpty D = false := by simpa using h0
    have hdp : 0 < D.length := List.length_pos_iff.2 h0
    by_cases hm : 8 < D.length
    · have HN : Hid (numT l = none) := hide (by rw [HV.out, if_pos (.inr hm)])
      have hm2 : (8 : Int) < (D.length : Int) := by omega
      clear HV h0 hm
      go_enter Tryz.func169, Tryz.ntmps169
      go_wp2_with fail
      refine H1.out.mono ?_
      rintro e w1 ⟨rfl, rfl⟩
      go_wp2_with fail
      refine H2.out.mono ?_
      rintro e w2 ⟨rfl, rfl⟩
      go_wp2
      go_ret2
      exact ⟨by rw [HN.out]; rfl, Below.refl _ _⟩
    have hm2 : ¬ (8 : Int) < (D.length : Int) := by omega
    have HW : Hid (numT l = (numF 16 0 D).map fun n => if mi then -(n : Int) else (n : Int)) := hide (by rw [HV.out, if_neg (by omega)])
    have hbd : ∀ (k m : Nat), numF 16 0 (D.take k) = some m → m < 10000000000 := fun k m h => by
      have h3 := numF_lt 16 (by decide) (D.take k) 0 m 0 (by decide) h
      have h4 : (0 + (D.take k).length) ≤ 8 := by simp; omega
      have h5 : 16 ^ (0 + (D.take k).length) ≤ 16 ^ 8 := Nat.pow_le_pow_right (by decide) h4
      have h6 : 16 ^ 8 ≤ 10000000000 := by decide
      omega
    have HBD := hide hbd
    clear HV h0 hm hbd
    go_enter Tryz.func169, Tryz.ntmps169
    go_wp2_with fail
    refine H1.out.mono ?_
    rintro e w1 ⟨rfl, rfl⟩
    go_wp2_with fail
    refine H2.out.mono ?_
    rintro e w2 ⟨rfl, rfl⟩
    clear H1 H2
    go_upto_region 10 with fail
    go_loopw [2, 3, 10] (fun r x u wr => ∃ pos m : Nat, r = .int .i64 0 ∧ x = .bool false ∧ u = .int .i64 (m : Int) ∧ pos ≤ D.length ∧ numF 16 0 (D.take pos) = some m ∧ It wr w2.heap.size ⟨D.toArray⟩ pos ∧ Below w2.heap.size w2 wr) (fun _ _ _ wr => D.length - itPos wr w2.heap.size)
    case atStart => exact ⟨0, 0, rfl, rfl, rfl, by omega, rfl, heap_alloc_last _ _, bel1 _ _⟩
    case round =>
    obtain ⟨pos, m, rfl, rfl, rfl, hp, hnf, hI, hB⟩ := hrel
    have hmb := HBD.out _ _ hnf
    by_cases hlt : pos < D.length
    · obtain ⟨c, q, nx, hq, hql, hc⟩ := it_step (P := Tryz.prog) hI hlt
      have HI := hide (it_to hI q)
      have HB := hide (it_below (s := ⟨D.toArray⟩) hB (Nat.le_refl _) q)
      have HP := hide (it_pos hI)
      have HNF := hide hnf
      have hc1 : c ≤ 1114111 := by rcases hc with ⟨h, _⟩ | ⟨_, h, _⟩ <;> omega
      have HT : Hid (dvN c < 16 → q = pos + 1 ∧ dvN c = digV D[pos]) := hide (by
        intro h
        rcases hc with ⟨_, h1, h2⟩ | ⟨h1, _⟩
        · exact ⟨h2, by rw [dv_byte, h1]⟩
        · rw [dv_hi h1] at h; omega)
      have HF : Hid (¬ dvN c < 16 → ¬ digV D[pos] < 16) := hide (by
        intro h
        rcases hc with ⟨_, h1, h2⟩ | ⟨h1, _, h3⟩
        · rw [dv_byte, ← h1]; exact h
        · have h4 := h3 pos hlt (Nat.le_refl _) hq
          rw [dv_byte, dv_hi h4]; omega)
      have HG := hide (digit_any (World.itTo wr w2.heap.size ⟨D.toArray⟩ q) c hc1)
      have hdv := dv_le c
      clear hc hI hB hnf hc1
      generalize dvN c = dv at *
      by_cases hd : dv < 16
      · have hd2 : ¬ (16 : Int) ≤ (dv : Int) := by omega
        obtain ⟨e1, e2⟩ := HT.out hd
        have HS : Hid (numF 16 0 (D.take q) = some (m * 16 + dv)) := hide (by rw [e1, e2]; exact numF_step hlt HNF.out (by rw [← e2]; exact hd))
        clear HT HF e1 e2
        go_wp2_with fail
        refine HG.out.mono ?_
        rintro e w3 ⟨rfl, rfl⟩
        go_wp2
        refine ⟨⟨q, m * 16 + dv, rfl, rfl, by simp, hql, HS.out, HI.out, HB.out⟩, ?_⟩
        rw [it_pos HI.out, HP.out]
        omega
      · have hd2 : (16 : Int) ≤ (dv : Int) := by omega
        have HN : Hid (numT l = none) := hide (by rw [HW.out, numF_none hlt HNF.out (HF.out hd)]; rfl)
        clear HT HF
        go_wp2_with fail
        refine HG.out.mono ?_
        rintro e w3 ⟨rfl, rfl⟩
        go_wp2
        go_ret2
        exact ⟨by rw [HN.out]; rfl, HB.out⟩
    · have nx := it_stop (P := Tryz.prog) hI hlt
      have HB := hide hB
      obtain rfl : pos = D.length := by omega
      rw [List.take_length] at hnf
      clear hI hB
      cases mi with
      | false =>
        have HN : Hid (numT l = some (m : Int)) := hide (by rw [HW.out, hnf]; rfl)
        clear hnf HW
        go_wp2
        go_ret2
        exact ⟨by rw [HN.out]; rfl, HB.out⟩
      | true =>
        have HN : Hid (numT l = some (-(m : Int))) := hide (by rw [HW.out, hnf]; rfl)
        clear hnf HW
        go_wp2
        go_ret2
        exact ⟨by rw [HN.out]; rfl, HB.out⟩
  | false =>
    rw [hx] at HV h2
    simp only [if_false, Bool.false_eq_true] at HV
    have H1 := hide h1
    have H2 := hide h2
    obtain rfl := HD.out hx
    clear h1 h2 HD hx
    by_cases h0 : D = []
    · have HN : Hid (numT l = none) := hide (by rw [HV.out, h0]; rfl)
      subst h0
      clear HV
      go_enter Tryz.func169, Tryz.ntmps169
      go_wp2_with fail
      refine H1.out.mono ?_
      rintro e w1 ⟨rfl, rfl⟩
      go_wp2_with fail
      refine H2.out.mono ?_
      rintro e w2 ⟨rfl, rfl⟩
      go_wp2
      go_ret2
      exact ⟨by rw [HN.out]; rfl, Below.refl _ _⟩
    have he : List.isEmpty D = false := by simpa using h0
    have hdp : 0 < D.length := List.length_pos_iff.2 h0
    by_cases hm : 10 < D.length
    · have HN : Hid (numT l = none) := hide (by rw [HV.out, if_pos (.inr hm)])
      have hm2 : (10 : Int) < (D.length : Int) := by omega
      clear HV h0 hm
      go_enter Tryz.func169, Tryz.ntmps169
      go_wp2_with fail
      refine H1.out.mono ?_
      rintro e w1 ⟨rfl, rfl⟩
      go_wp2_with fail
      refine H2.out.mono ?_
      rintro e w2 ⟨rfl, rfl⟩
      go_wp2
      go_ret2
      exact ⟨by rw [HN.out]; rfl, Below.refl _ _⟩
    have hm2 : ¬ (10 : Int) < (D.length : Int) := by omega
    have HW : Hid (numT l = (numF 10 0 D).map fun n => if mi then -(n : Int) else (n : Int)) := hide (by rw [HV.out, if_neg (by omega)])
    have hbd : ∀ (k m : Nat), numF 10 0 (D.take k) = some m → m < 10000000000 := fun k m h => by
      have h3 := numF_lt 10 (by decide) (D.take k) 0 m 0 (by decide) h
      have h4 : (0 + (D.take k).length) ≤ 10 := by simp; omega
      have h5 : 10 ^ (0 + (D.take k).length) ≤ 10 ^ 10 := Nat.pow_le_pow_right (by decide) h4
      have h6 : 10 ^ 10 ≤ 10000000000 := by decide
      omega
    have HBD := hide hbd
    clear HV h0 hm hbd
    go_enter Tryz.func169, Tryz.ntmps169
    go_wp2_with fail
    refine H1.out.mono ?_
    rintro e w1 ⟨rfl, rfl⟩
    go_wp2_with fail
    refine H2.out.mono ?_
    rintro e w2 ⟨rfl, rfl⟩
    clear H1 H2
    go_upto_region 10 with fail
    go_loopw [2, 3, 10] (fun r x u wr => ∃ pos m : Nat, r = .int .i64 0 ∧ x = .bool false ∧ u = .int .i64 (m : Int) ∧ pos ≤ D.length ∧ numF 10 0 (D.take pos) = some m ∧ It wr w2.heap.size ⟨D.toArray⟩ pos ∧ Below w2.heap.size w2 wr) (fun _ _ _ wr => D.length - itPos wr w2.heap.size)
    case atStart => exact ⟨0, 0, rfl, rfl, rfl, by omega, rfl, heap_alloc_last _ _, bel1 _ _⟩
    case round =>
    obtain ⟨pos, m, rfl, rfl, rfl, hp, hnf, hI, hB⟩ := hrel
    have hmb := HBD.out _ _ hnf
    by_cases hlt : pos < D.length
    · obtain ⟨c, q, nx, hq, hql, hc⟩ := it_step (P := Tryz.prog) hI hlt
      have HI := hide (it_to hI q)
      have HB := hide (it_below (s := ⟨D.toArray⟩) hB (Nat.le_refl _) q)
      have HP := hide (it_pos hI)
      have HNF := hide hnf
      have hc1 : c ≤ 1114111 := by rcases hc with ⟨h, _⟩ | ⟨_, h, _⟩ <;> omega
      have HT : Hid (dvN c < 10 → q = pos + 1 ∧ dvN c = digV D[pos]) := hide (by
        intro h
        rcases hc with ⟨_, h1, h2⟩ | ⟨h1, _⟩
        · exact ⟨h2, by rw [dv_byte, h1]⟩
        · rw [dv_hi h1] at h; omega)
      have HF : Hid (¬ dvN c < 10 → ¬ digV D[pos] < 10) := hide (by
        intro h
        rcases hc with ⟨_, h1, h2⟩ | ⟨h1, _, h3⟩
        · rw [dv_byte, ← h1]; exact h
        · have h4 := h3 pos hlt (Nat.le_refl _) hq
          rw [dv_byte, dv_hi h4]; omega)
      have HG := hide (digit_any (World.itTo wr w2.heap.size ⟨D.toArray⟩ q) c hc1)
      have hdv := dv_le c
      clear hc hI hB hnf hc1
      generalize dvN c = dv at *
      by_cases hd : dv < 10
      · have hd2 : ¬ (10 : Int) ≤ (dv : Int) := by omega
        obtain ⟨e1, e2⟩ := HT.out hd
        have HS : Hid (numF 10 0 (D.take q) = some (m * 10 + dv)) := hide (by rw [e1, e2]; exact numF_step hlt HNF.out (by rw [← e2]; exact hd))
        clear HT HF e1 e2
        go_wp2_with fail
        refine HG.out.mono ?_
        rintro e w3 ⟨rfl, rfl⟩
        go_wp2
        refine ⟨⟨q, m * 10 + dv, rfl, rfl, by simp, hql, HS.out, HI.out, HB.out⟩, ?_⟩
        rw [it_pos HI.out, HP.out]
        omega
      · have hd2 : (10 : Int) ≤ (dv : Int) := by omega
        have HN : Hid (numT l = none) := hide (by rw [HW.out, numF_none hlt HNF.out (HF.out hd)]; rfl)
        clear HT HF
        go_wp2_with fail
        refine HG.out.mono ?_
        rintro e w3 ⟨rfl, rfl⟩
        go_wp2
        go_ret2
        exact ⟨by rw [HN.out]; rfl, HB.out⟩
    · have nx := it_stop (P := Tryz.prog) hI hlt
      have HB := hide hB
      obtain rfl : pos = D.length := by omega
      rw [List.take_length] at hnf
      clear hI hB
      cases mi with
      | false =>
        have HN : Hid (numT l = some (m : Int)) := hide (by rw [HW.out, hnf]; rfl)
        clear hnf HW
        go_wp2
        go_ret2
        exact ⟨by rw [HN.out]; rfl, HB.out⟩
      | true =>
        have HN : Hid (numT l = some (-(m : Int))) := hide (by rw [HW.out, hnf]; rfl)
        clear hnf HW
        go_wp2
        go_ret2
        exact ⟨by rw [HN.out]; rfl, HB.out⟩
end
end Go.Proofs.YtiafodeabdhcoaaGreatDoor

namespace Go.Proofs.YtiafodeabdhcoaaGreatDoor
open Go.RowKit
/-- a digit's sign, of base sixteen -/
def hd (k : Nat) : UInt8 := if k < 10 then UInt8.ofNat (48 + k) else UInt8.ofNat (87 + k)
/-- eight digits -/
def hx8 (n : Nat) : List UInt8 := [hd (n / 268435456 % 16), hd (n / 16777216 % 16), hd (n / 1048576 % 16), hd (n / 65536 % 16), hd (n / 4096 % 16), hd (n / 256 % 16), hd (n / 16 % 16), hd (n % 16)]
/-- the digits without zeros ahead, behind them what is there -/
def hxA : Nat → Nat → List UInt8 → List UInt8
  | 0, u, acc => hd u :: acc
  | f + 1, u, acc => if u < 16 then hd u :: acc else hxA f (u / 16) (hd (u % 16) :: acc)
theorem hxA_len : ∀ (f u : Nat) (acc : List UInt8), acc.length < (hxA f u acc).length ∧ (hxA f u acc).length ≤ acc.length + f + 1
  | 0, u, acc => by simp [hxA]
  | f + 1, u, acc => by
    unfold hxA
    split
    · simp
    · have := hxA_len f (u / 16) (hd (u % 16) :: acc)
      simp at this
      omega
theorem hx_pad (n : Nat) (h : n < 4294967296) : List.replicate (8 - (hxA 7 n []).length) 48 ++ hxA 7 n [] = hx8 n := by
  have z : hd 0 = 48 := rfl
  by_cases h1 : n < 16
  · have e : hxA 7 n [] = [hd n] := by simp [hxA, h1]
    rw [e]
    simp [hx8, List.replicate, show n / 268435456 % 16 = 0 by omega, show n / 16777216 % 16 = 0 by omega, show n / 1048576 % 16 = 0 by omega, show n / 65536 % 16 = 0 by omega, show n / 4096 % 16 = 0 by omega, show n / 256 % 16 = 0 by omega, show n / 16 % 16 = 0 by omega, show n % 16 = n by omega, z]
  by_cases h2 : n / 16 < 16
  · have e : hxA 7 n [] = [hd (n / 16), hd (n % 16)] := by simp [hxA, h1, h2]
    rw [e]
    simp [hx8, List.replicate, show n / 268435456 % 16 = 0 by omega, show n / 16777216 % 16 = 0 by omega, show n / 1048576 % 16 = 0 by omega, show n / 65536 % 16 = 0 by omega, show n / 4096 % 16 = 0 by omega, show n / 256 % 16 = 0 by omega, show n / 16 % 16 = n / 16 by omega, z]
  by_cases h3 : n / 16 / 16 < 16
  · have e : hxA 7 n [] = [hd (n / 16 / 16), hd (n / 16 % 16), hd (n % 16)] := by simp [hxA, h1, h2, h3]
    rw [e]
    simp [hx8, List.replicate, show n / 268435456 % 16 = 0 by omega, show n / 16777216 % 16 = 0 by omega, show n / 1048576 % 16 = 0 by omega, show n / 65536 % 16 = 0 by omega, show n / 4096 % 16 = 0 by omega, show n / 256 % 16 = n / 16 / 16 by omega, z]
  by_cases h4 : n / 16 / 16 / 16 < 16
  · have e : hxA 7 n [] = [hd (n / 16 / 16 / 16), hd (n / 16 / 16 % 16), hd (n / 16 % 16), hd (n % 16)] := by simp [hxA, h1, h2, h3, h4]
    rw [e]
    simp [hx8, List.replicate, show n / 268435456 % 16 = 0 by omega, show n / 16777216 % 16 = 0 by omega, show n / 1048576 % 16 = 0 by omega, show n / 65536 % 16 = 0 by omega, show n / 4096 % 16 = n / 16 / 16 / 16 by omega, show n / 256 % 16 = n / 16 / 16 % 16 by omega, z]
  by_cases h5 : n / 16 / 16 / 16 / 16 < 16
  · have e : hxA 7 n [] = [hd (n / 16 / 16 / 16 / 16), hd (n / 16 / 16 / 16 % 16), hd (n / 16 / 16 % 16), hd (n / 16 % 16), hd (n % 16)] := by simp [hxA, h1, h2, h3, h4, h5]
    rw [e]
    simp [hx8, List.replicate, show n / 268435456 % 16 = 0 by omega, show n / 16777216 % 16 = 0 by omega, show n / 1048576 % 16 = 0 by omega, show n / 65536 % 16 = n / 16 / 16 / 16 / 16 by omega, show n / 4096 % 16 = n / 16 / 16 / 16 % 16 by omega, show n / 256 % 16 = n / 16 / 16 % 16 by omega, z]
  by_cases h6 : n / 16 / 16 / 16 / 16 / 16 < 16
  · have e : hxA 7 n [] = [hd (n / 16 / 16 / 16 / 16 / 16), hd (n / 16 / 16 / 16 / 16 % 16), hd (n / 16 / 16 / 16 % 16), hd (n / 16 / 16 % 16), hd (n / 16 % 16), hd (n % 16)] := by simp [hxA, h1, h2, h3, h4, h5, h6]
    rw [e]
    simp [hx8, List.replicate, show n / 268435456 % 16 = 0 by omega, show n / 16777216 % 16 = 0 by omega, show n / 1048576 % 16 = n / 16 / 16 / 16 / 16 / 16 by omega, show n / 65536 % 16 = n / 16 / 16 / 16 / 16 % 16 by omega, show n / 4096 % 16 = n / 16 / 16 / 16 % 16 by omega, show n / 256 % 16 = n / 16 / 16 % 16 by omega, z]
  by_cases h7 : n / 16 / 16 / 16 / 16 / 16 / 16 < 16
  · have e : hxA 7 n [] = [hd (n / 16 / 16 / 16 / 16 / 16 / 16), hd (n / 16 / 16 / 16 / 16 / 16 % 16), hd (n / 16 / 16 / 16 / 16 % 16), hd (n / 16 / 16 / 16 % 16), hd (n / 16 / 16 % 16), hd (n / 16 % 16), hd (n % 16)] := by simp [hxA, h1, h2, h3, h4, h5, h6, h7]
    rw [e]
    simp [hx8, show n / 268435456 % 16 = 0 by omega, show n / 16777216 % 16 = n / 16 / 16 / 16 / 16 / 16 / 16 by omega, show n / 1048576 % 16 = n / 16 / 16 / 16 / 16 / 16 % 16 by omega, show n / 65536 % 16 = n / 16 / 16 / 16 / 16 % 16 by omega, show n / 4096 % 16 = n / 16 / 16 / 16 % 16 by omega, show n / 256 % 16 = n / 16 / 16 % 16 by omega, z]
  · have e : hxA 7 n [] = [hd (n / 16 / 16 / 16 / 16 / 16 / 16 / 16), hd (n / 16 / 16 / 16 / 16 / 16 / 16 % 16), hd (n / 16 / 16 / 16 / 16 / 16 % 16), hd (n / 16 / 16 / 16 / 16 % 16), hd (n / 16 / 16 / 16 % 16), hd (n / 16 / 16 % 16), hd (n / 16 % 16), hd (n % 16)] := by simp [hxA, h1, h2, h3, h4, h5, h6, h7]
    rw [e]
    simp [hx8, show n / 268435456 % 16 = n / 16 / 16 / 16 / 16 / 16 / 16 / 16 by omega, show n / 16777216 % 16 = n / 16 / 16 / 16 / 16 / 16 / 16 % 16 by omega, show n / 1048576 % 16 = n / 16 / 16 / 16 / 16 / 16 % 16 by omega, show n / 65536 % 16 = n / 16 / 16 / 16 / 16 % 16 by omega, show n / 4096 % 16 = n / 16 / 16 / 16 % 16 by omega, show n / 256 % 16 = n / 16 / 16 % 16 by omega]
theorem hd_toNat (k : Nat) (h : k < 16) : (hd k).toNat = if k < 10 then 48 + k else 87 + k := by
  unfold hd; split <;> (simp; omega)
theorem hxA_stop {f u : Nat} {acc : List UInt8} (h : u < 16) : hxA f u acc = hd u :: acc := by
  cases f with
  | zero => rfl
  | succ f => simp [hxA, h]
theorem hxA_go {f u : Nat} {acc : List UInt8} (h : ¬ u < 16) : hxA (f + 1) u acc = hxA f (u / 16) (hd (u % 16) :: acc) := by simp [hxA, h]
/-- the fields of an instruction, as texts -/
def flds (i : I) : List (List UInt8) := (if uA i.op.toNat then [114 :: Lib.itoa i.a] else []) ++ (if uB i.op.toNat then [114 :: Lib.itoa i.b] else []) ++ (if kd i.op.toNat = 0 then [] else [Lib.itoa i.imm])
/-- texts, one behind the other, a mark ahead of each -/
def jn : List UInt8 → List (List UInt8) → List UInt8
  | _, [] => []
  | sep, f :: r => sep ++ (f ++ jn [44, 32] r)
/-- the line of a word -/
def tl (n : Nat) : List UInt8 := if isI (parts n) then nm (parts n).op.toNat ++ jn [32] (flds (parts n)) else [46, 119, 111, 114, 100, 32, 48, 120] ++ hx8 n
/-- the text of words -/
def tls : List Nat → List UInt8
  | [] => []
  | n :: r => tl n ++ 10 :: tls r
theorem tls_append (a b : List Nat) : tls (a ++ b) = tls a ++ tls b := by
  induction a with
  | nil => rfl
  | cons x r ih => simp [tls, ih]
theorem tls_one (a : List Nat) (n : Nat) : tls (a ++ [n]) = tls a ++ tl n ++ [10] := by rw [tls_append]; simp [tls]
end Go.Proofs.YtiafodeabdhcoaaGreatDoor
