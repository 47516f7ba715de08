import PyProof.Rows.All
import Wide.All
import OpenK.AllK
import Wide.FinOn
import KE.DatumOrd
import HandS.ForMost
import HandS.Wide
import HandS.WideBits
import HandS.IsInst
import HandS.Evl
import HandS.EndBits
import HandS.Walk
import KE.KEqSeq
import KE.Datum
import HandS.Style
import HandS.Iter
import KE.KNest
import PyProof.GenCompD
import HandS.AnyAll
import HandS.EndTab
import HandS.JoinGen
import HandS.EndOwn
import HandS.Text
import HandS.TupLe
import HandS.Exc
import HandS.ExcOwn
import HandS.WordsExc
import HandS.ExcIs
import PySem.Challenge.RW_manytimes_k06_refused
set_option autoImplicit false
namespace KM
/-! Numbers: the worth of a pair. -/
theorem fl {n d w : Int} (hd : 0 < d) (h1 : w * d ≤ n) (h2 : n < (w + 1) * d) : n / d = w := by
  have a := (Int.le_ediv_iff_mul_le hd).mpr h1
  have b := (Int.ediv_lt_iff_lt_mul hd).mpr h2
  omega
theorem nosq : ∀ (n : Nat) (L r q : Int), r.toNat ≤ n → 0 < r → 0 < L → 1 ≤ q → L * L = r * (q * L + r) → False
  | 0, L, r, q, hn, hr, hL, hq, h => by omega
  | n + 1, L, r, q, hn, hr, hL, hq, h => by
    have hqr : 0 < q * r := Int.mul_pos (by omega) hr
    have e1 : L * (L - q * r) = r * r := by grind
    have hrr : 0 < r * r := Int.mul_pos hr hr
    have hs : 0 < L - q * r := by
      rcases Int.lt_or_le 0 (L - q * r) with c | c
      · exact c
      · have := Int.mul_le_mul_of_nonneg_left c (Int.le_of_lt hL)
        grind
    have hge : r ≤ q * r := by
      have := Int.mul_le_mul_of_nonneg_right hq (Int.le_of_lt hr)
      omega
    have hlt : L - q * r < r := by
      rcases Int.lt_or_le (L - q * r) r with c | c
      · exact c
      · have := Int.mul_lt_mul_of_pos_left (show r < L by omega) (show (0:Int) < L - q * r by omega)
        have := Int.mul_le_mul_of_nonneg_right c (Int.le_of_lt hr)
        grind
    exact nosq n r (L - q * r) q (by omega) hs hr hq (by grind)
def worthLH (L H : Int) : Int := if (H % L) * H < L * L then H / L - 1 else H / L
def mnF (a b : Int) : Int := if a ≤ b then a else b
def mxF (a b : Int) : Int := if a ≤ b then b else a
def mostF (a b : Int) : Int := (mxF a b - 1) / mnF a b
def worthF (a b : Int) : Int := worthLH (mnF a b) (mxF a b)
def behA (a b t : Int) : Int := if b < a then a - t * b else a
def behB (a b t : Int) : Int := if b < a then b else b - t * a
theorem dm (H L : Int) : H = L * (H / L) + H % L := (Int.mul_ediv_add_emod H L).symm
theorem form {L H : Int} (hL : 0 < L) (hLH : L ≤ H) : (H * H - L * L) / (H * L) = worthLH L H := by
  have hH : 0 < H := by omega
  have hHL : 0 < H * L := Int.mul_pos hH hL
  have e := dm H L
  have r0 := Int.emod_nonneg H (show L ≠ 0 by omega)
  have r1 := Int.emod_lt_of_pos H hL
  unfold worthLH
  generalize H / L = q at *
  generalize H % L = r at *
  have hll : L * L ≤ H * L := Int.mul_le_mul_of_nonneg_right hLH (by omega)
  have hrh : 0 ≤ r * H := Int.mul_nonneg r0 (by omega)
  have hrl : r * H < L * H := Int.mul_lt_mul_of_pos_right r1 hH
  have hL2 : 0 < L * L := Int.mul_pos hL hL
  have ec : L * H = H * L := Int.mul_comm _ _
  have eq2 : H * H - L * L = q * (H * L) + (r * H - L * L) := by grind
  have e3 : (q - 1) * (H * L) = q * (H * L) - H * L := by grind
  have e4 : (q - 1 + 1) * (H * L) = q * (H * L) := by grind
  have e5 : (q + 1) * (H * L) = q * (H * L) + H * L := by grind
  split
  · exact fl hHL (by omega) (by omega)
  · exact fl hHL (by omega) (by omega)
theorem worth0 {L H : Int} (hL : 0 < L) (hLH : L ≤ H) : 0 ≤ worthLH L H := by
  rw [← form hL hLH]
  refine Int.ediv_nonneg ?_ (Int.le_of_lt (Int.mul_pos (by omega) hL))
  have := Int.mul_le_mul hLH hLH (by omega) (by omega)
  omega
theorem ne1 {L H t : Int} (hL : 0 < L) (ht : 1 ≤ t) (_ : L ≤ H - t * L) : worthLH L (H - t * L) < worthLH L H := by
  have e1 : (H - t * L) % L = H % L := by
    rw [Int.sub_emod, Int.mul_emod_left]; simp
  have e2 : (H - t * L) / L = H / L - t := by
    rw [Int.sub_mul_ediv_right _ _ (show L ≠ 0 by omega)]
  have htl : 0 < t * L := Int.mul_pos (by omega) hL
  have r0 := Int.emod_nonneg H (show L ≠ 0 by omega)
  have hm : H % L * (H - t * L) ≤ H % L * H := Int.mul_le_mul_of_nonneg_left (by omega) r0
  unfold worthLH
  rw [e1, e2]
  split <;> split <;> omega
theorem ne2 {L H : Int} (hL : 0 < L) (hLH : L ≤ H) (h0 : 0 < H % L) : worthLH (H % L) L ≠ worthLH L H := by
  have r1 := Int.emod_lt_of_pos H hL
  have e := dm H L
  have q1 : 1 ≤ H / L := (Int.le_ediv_iff_mul_le hL).mpr (by omega)
  rw [← form h0 (by omega)]
  have hrl : 0 < L * (H % L) := Int.mul_pos hL h0
  show (L * L - H % L * (H % L)) / (L * (H % L)) ≠ if (H % L) * H < L * L then H / L - 1 else H / L
  generalize H / L = q at *
  generalize H % L = r at *
  have e2 : r * H = q * (L * r) + r * r := by grind
  split
  · intro c
    have := (Int.ediv_lt_iff_lt_mul (a := L * L - r * r) (b := q) hrl).mp (by omega)
    omega
  · intro c
    have := (Int.le_ediv_iff_mul_le (a := q) (b := L * L - r * r) hrl).mp (by omega)
    have e3 : r * (q * L + r) = q * (L * r) + r * r := by grind
    exact nosq r.toNat L r q (Nat.le_refl _) h0 hL q1 (by omega)
theorem mn_pos {a b : Int} (ha : 0 < a) (hb : 0 < b) : 0 < mnF a b := by unfold mnF; split <;> assumption
theorem mn_mx (a b : Int) : mnF a b ≤ mxF a b := by unfold mnF mxF; split <;> omega
theorem mn_comm (a b : Int) : mnF b a = mnF a b := by unfold mnF; split <;> split <;> omega
theorem mx_comm (a b : Int) : mxF b a = mxF a b := by unfold mxF; split <;> split <;> omega
theorem most_comm (a b : Int) : mostF b a = mostF a b := by unfold mostF; rw [mn_comm, mx_comm]
theorem worth_comm (a b : Int) : worthF b a = worthF a b := by unfold worthF; rw [mn_comm, mx_comm]
theorem worthF0 {a b : Int} (ha : 0 < a) (hb : 0 < b) : 0 ≤ worthF a b := worth0 (mn_pos ha hb) (mn_mx a b)
theorem most0 {a b : Int} (ha : 0 < a) (hb : 0 < b) : 0 ≤ mostF a b := by
  have h1 := mn_pos ha hb
  have h2 := mn_mx a b
  exact Int.ediv_nonneg (by omega) (Int.le_of_lt h1)
/-- t times the lesser is below the greater -/
theorem most_lt {a b t : Int} (ha : 0 < a) (hb : 0 < b) (h : t ≤ mostF a b) : t * mnF a b < mxF a b := by
  have := (Int.le_ediv_iff_mul_le (mn_pos ha hb)).mp h
  omega
theorem behA_pos {a b t : Int} (ha : 0 < a) (hb : 0 < b) (h : t ≤ mostF a b) : 0 < behA a b t := by
  have h1 := most_lt ha hb h
  unfold mnF mxF at h1
  unfold behA
  split
  · rw [if_neg (by omega), if_neg (by omega)] at h1
    omega
  · exact ha
theorem behB_pos {a b t : Int} (ha : 0 < a) (hb : 0 < b) (h : t ≤ mostF a b) : 0 < behB a b t := by
  have h1 := most_lt ha hb h
  unfold mnF mxF at h1
  unfold behB
  split
  · exact hb
  · rw [if_pos (by omega), if_pos (by omega)] at h1
    omega
theorem worth_lohi {x L : Int} (c : L ≤ x) : worthLH (mnF x L) (mxF x L) = worthLH L x := by
  unfold mnF mxF
  split
  · have : x = L := by omega
    subst this; rfl
  · rfl
theorem neLH {L H t : Int} (hL : 0 < L) (hLH : L ≤ H) (ht : 1 ≤ t) (h : t * L < H) : worthF (H - t * L) L ≠ worthLH L H := by
  rcases Int.lt_or_le (H - t * L) L with c | c
  · have er : H % L = H - t * L := by
      have e1 : (H - t * L) % L = H % L := by rw [Int.sub_emod, Int.mul_emod_left]; simp
      rw [← e1]
      exact Int.emod_eq_of_lt (by omega) c
    have e : worthF (H - t * L) L = worthLH (H % L) L := by
      unfold worthF mnF mxF
      rw [if_pos (by omega), if_pos (by omega), er]
    rw [e]
    exact ne2 hL hLH (by omega)
  · have e : worthF (H - t * L) L = worthLH L (H - t * L) := by
      unfold worthF
      rw [worth_lohi c]
    rw [e]
    exact Int.ne_of_lt (ne1 hL ht c)
/-- no taking leaves the worth as it is -/
theorem beh_ne {a b t : Int} (ha : 0 < a) (hb : 0 < b) (ht : 1 ≤ t) (h : t ≤ mostF a b) : worthF (behA a b t) (behB a b t) ≠ worthF a b := by
  have h1 := most_lt ha hb h
  unfold mnF mxF at h1
  rcases Int.lt_or_le b a with c | c
  · rw [if_neg (by omega), if_neg (by omega)] at h1
    unfold behA behB
    rw [if_pos c, if_pos c, ← worth_comm a b]
    have e : worthF b a = worthLH b a := by
      unfold worthF mnF mxF
      rw [if_pos (by omega), if_pos (by omega)]
    rw [e]
    exact neLH hb (by omega) ht h1
  · rw [if_pos (by omega), if_pos (by omega)] at h1
    unfold behA behB
    rw [if_neg (by omega), if_neg (by omega), worth_comm (b - t * a) a]
    have e : worthF a b = worthLH a b := by
      unfold worthF mnF mxF
      rw [if_pos c, if_pos c]
    rw [e]
    exact neLH ha c ht h1
/-- any lesser worth stands behind a taking -/
theorem hitLH {L H w : Int} (hL : 0 < L) (hLH : L ≤ H) (h0 : 0 ≤ w) (hw : w < worthLH L H) : ∃ t, 1 ≤ t ∧ t * L < H ∧ worthF (H - t * L) L = w ∧ (t = H / L - (w + 1) ∨ t = H / L - w ∨ t = (H - 1) / L) := by
  have e := dm H L
  have r0 := Int.emod_nonneg H (show L ≠ 0 by omega)
  have r1 := Int.emod_lt_of_pos H hL
  have q1 : 1 ≤ H / L := (Int.le_ediv_iff_mul_le hL).mpr (by omega)
  -- a pair with k times the lesser and the rest
  have at_k : ∀ k : Int, 1 ≤ k → k < H / L → worthF (H - (H / L - k) * L) L = if (H % L) * (k * L + H % L) < L * L then k - 1 else k := by
    intro k k1 k2
    have ex : H - (H / L - k) * L = H % L + L * k := by
      have : (H / L - k) * L = L * (H / L) - L * k := by grind
      omega
    have hk : L ≤ L * k := by
      have := Int.mul_le_mul_of_nonneg_left k1 (Int.le_of_lt hL)
      omega
    rw [ex]
    have c : L ≤ H % L + L * k := by omega
    unfold worthF
    rw [worth_lohi c]
    unfold worthLH
    have em : (H % L + L * k) % L = H % L := by
      rw [Int.add_mul_emod_self_left]
      exact Int.emod_eq_of_lt r0 r1
    have ed : (H % L + L * k) / L = k := by
      rw [Int.add_mul_ediv_left _ _ (show L ≠ 0 by omega), Int.ediv_eq_zero_of_lt r0 r1]
      omega
    have ec : H % L + L * k = k * L + H % L := by
      have : L * k = k * L := Int.mul_comm _ _
      omega
    rw [em, ed, ec]
  have tk : ∀ k : Int, 1 ≤ k → k < H / L → 1 ≤ H / L - k ∧ (H / L - k) * L < H := by
    intro k k1 k2
    refine ⟨by omega, ?_⟩
    have h1 : (H / L - k) * L = L * (H / L) - L * k := by grind
    have hk : L ≤ L * k := by
      have := Int.mul_le_mul_of_nonneg_left k1 (Int.le_of_lt hL)
      omega
    omega
  unfold worthLH at hw
  by_cases cA : (H % L) * ((w + 1) * L + H % L) < L * L
  · -- one more than w times the lesser
    have hk : w + 1 < H / L := by
      rcases Int.lt_or_le (w + 1) (H / L) with z | z
      · exact z
      · exfalso
        have z2 : H / L = w + 1 := by
          by_cases z3 : H % L * H < L * L
          · rw [if_pos z3] at hw; omega
          · rw [if_neg z3] at hw; omega
        have z4 : (w + 1) * L + H % L = H := by
          rw [← z2]
          have : H / L * L = L * (H / L) := Int.mul_comm _ _
          omega
        rw [z4] at cA
        rw [if_pos cA] at hw
        omega
    have a := at_k (w + 1) (by omega) hk
    have b := tk (w + 1) (by omega) hk
    rw [if_pos cA] at a
    exact ⟨_, b.1, b.2, by omega, .inl rfl⟩
  · have hwq : w < H / L := by
      by_cases z3 : H % L * H < L * L
      · rw [if_pos z3] at hw; omega
      · rw [if_neg z3] at hw; omega
    by_cases cB : (H % L) * (w * L + H % L) < L * L
    · -- the rest itself
      have hr : 0 < H % L := by
        rcases Int.lt_or_le 0 (H % L) with z | z
        · exact z
        · exfalso
          have z2 : H % L = 0 := by omega
          rw [z2] at cA
          have : 0 < L * L := Int.mul_pos hL hL
          omega
      have hs : H / L * L = L * (H / L) := Int.mul_comm _ _
      refine ⟨H / L, q1, by omega, ?_, .inr (.inr ?_)⟩
      rotate_left
      · exact (fl hL (by omega) (by have : (H / L + 1) * L = L * (H / L) + L := by grind
                                    omega)).symm
      have ex : H - H / L * L = H % L := by omega
      rw [ex]
      have ew : worthF (H % L) L = worthLH (H % L) L := by
        unfold worthF mnF mxF
        rw [if_pos (by omega), if_pos (by omega)]
      rw [ew, ← form hr (by omega)]
      have hrl : 0 < L * (H % L) := Int.mul_pos hL hr
      generalize H % L = r at *
      have e1 : r * ((w + 1) * L + r) = (w + 1) * (L * r) + r * r := by grind
      have e2 : r * (w * L + r) = w * (L * r) + r * r := by grind
      have ne : L * L ≠ r * ((w + 1) * L + r) := fun c => nosq r.toNat L r (w + 1) (Nat.le_refl _) hr hL (by omega) c
      exact fl hrl (by omega) (by omega)
    · -- w times the lesser
      have hk : 1 ≤ w := by
        rcases Int.lt_or_le 0 w with z | z
        · exact z
        · exfalso
          have z2 : w = 0 := by omega
          subst z2
          have : H % L * (0 * L + H % L) < L * L := by
            have e0 : H % L * (0 * L + H % L) = H % L * (H % L) := by grind
            rw [e0]
            rcases Int.lt_or_le 0 (H % L) with y | y
            · have h1 := Int.mul_lt_mul_of_pos_right r1 y
              have h2 := Int.mul_lt_mul_of_pos_left r1 hL
              omega
            · have y2 : H % L = 0 := by omega
              rw [y2]
              have : 0 < L * L := Int.mul_pos hL hL
              omega
          exact cB this
      have a := at_k w hk hwq
      have b := tk w hk hwq
      rw [if_neg cB] at a
      exact ⟨_, b.1, b.2, a, .inr (.inl rfl)⟩
theorem hit3 {a b w : Int} (ha : 0 < a) (hb : 0 < b) (h0 : 0 ≤ w) (hw : w < worthF a b) : ∃ t, 1 ≤ t ∧ t ≤ mostF a b ∧ worthF (behA a b t) (behB a b t) = w ∧ (t = mxF a b / mnF a b - w - 1 ∨ t = mxF a b / mnF a b - w ∨ t = mostF a b) := by
  obtain ⟨t, t1, t2, t3, t4⟩ := hitLH (mn_pos ha hb) (mn_mx a b) h0 hw
  refine ⟨t, t1, (Int.le_ediv_iff_mul_le (mn_pos ha hb)).mpr (by omega), ?_, ?_⟩
  · unfold mnF mxF at t3
    unfold behA behB
    rcases Int.lt_or_le b a with c | c
    · rw [if_neg (by omega), if_neg (by omega)] at t3
      rw [if_pos c, if_pos c]
      exact t3
    · rw [if_pos (by omega), if_pos (by omega)] at t3
      rw [if_neg (by omega), if_neg (by omega), worth_comm (b - t * a) a]
      exact t3
  · rcases t4 with t4 | t4 | t4
    · exact .inl (by omega)
    · exact .inr (.inl t4)
    · exact .inr (.inr t4)
theorem hit {a b w : Int} (ha : 0 < a) (hb : 0 < b) (h0 : 0 ≤ w) (hw : w < worthF a b) : ∃ t, 1 ≤ t ∧ t ≤ mostF a b ∧ worthF (behA a b t) (behB a b t) = w := by
  obtain ⟨t, t1, t2, t3, _⟩ := hitLH (mn_pos ha hb) (mn_mx a b) h0 hw
  refine ⟨t, t1, (Int.le_ediv_iff_mul_le (mn_pos ha hb)).mpr (by omega), ?_⟩
  unfold mnF mxF at t3
  unfold behA behB
  rcases Int.lt_or_le b a with c | c
  · rw [if_neg (by omega), if_neg (by omega)] at t3
    rw [if_pos c, if_pos c]
    exact t3
  · rw [if_pos (by omega), if_pos (by omega)] at t3
    rw [if_neg (by omega), if_neg (by omega), worth_comm (b - t * a) a]
    exact t3
end KM

set_option autoImplicit false
namespace KN
/-! Worths together, bit by bit. -/
def xs (ws : List Nat) : Nat := ws.foldr (· ^^^ ·) 0
theorem xs_cons (w : Nat) (ws : List Nat) : xs (w :: ws) = w ^^^ xs ws := rfl
theorem foldl_xs : ∀ (ws : List Nat) (a : Nat), ws.foldl (· ^^^ ·) a = a ^^^ xs ws
  | [], a => by simp [xs]
  | w :: ws, a => by
    rw [List.foldl_cons, foldl_xs ws, xs_cons, Nat.xor_assoc]
theorem xs_append (us ws : List Nat) : xs (us ++ ws) = xs us ^^^ xs ws := by
  induction us with
  | nil => simp [xs]
  | cons u us ih => rw [List.cons_append, xs_cons, xs_cons, ih, Nat.xor_assoc]
theorem xs_set : ∀ (ws : List Nat) (i v w : Nat), ws[i]? = some w → xs (ws.set i v) = xs ws ^^^ (w ^^^ v)
  | [], i, v, w, h => by simp at h
  | u :: ws, 0, v, w, h => by
    have e : u = w := Option.some.inj h
    subst e
    show v ^^^ xs ws = u ^^^ xs ws ^^^ (u ^^^ v)
    rw [Nat.xor_comm u (xs ws), Nat.xor_assoc (xs ws), ← Nat.xor_assoc u u v, Nat.xor_self, Nat.zero_xor, Nat.xor_comm]
  | u :: ws, i + 1, v, w, h => by
    have ih := xs_set ws i v w h
    show u ^^^ xs (ws.set i v) = u ^^^ xs ws ^^^ (w ^^^ v)
    rw [ih, Nat.xor_assoc]
theorem tb (n i : Nat) : n.testBit i = decide (n / 2 ^ i % 2 = 1) := Nat.testBit_eq_decide_div_mod_eq
/-- below: the highest bit of X is set in x -/
theorem xor_lt {x X : Nat} (h0 : X ≠ 0) (hx : x.testBit X.log2 = true) : x ^^^ X < x := by
  have hX := Nat.testBit_log2 h0
  have top : X < 2 ^ (X.log2 + 1) := Nat.lt_log2_self
  generalize X.log2 = h at *
  have e1 : (x ^^^ X) / 2 ^ (h + 1) = x / 2 ^ (h + 1) := by
    refine Nat.eq_of_testBit_eq fun i => ?_
    rw [Nat.testBit_div_two_pow, Nat.testBit_div_two_pow, Nat.testBit_xor]
    have : X.testBit (i + (h + 1)) = false := Nat.testBit_lt_two_pow (Nat.lt_of_lt_of_le top (Nat.pow_le_pow_right (by decide) (by omega)))
    rw [this, Bool.xor_false]
  have b1 : (x ^^^ X).testBit h = false := by rw [Nat.testBit_xor, hx, hX]; rfl
  rw [tb] at hx b1
  have p1 := of_decide_eq_true hx
  have p2 := of_decide_eq_false b1
  rw [Nat.pow_succ, ← Nat.div_div_eq_div_mul, ← Nat.div_div_eq_div_mul] at e1
  have lt : (x ^^^ X) / 2 ^ h < x / 2 ^ h := by omega
  exact Nat.lt_of_div_lt_div lt
theorem has_bit : ∀ (ws : List Nat) (h : Nat), (xs ws).testBit h = true → ∃ (i : Nat) (w : Nat), ws[i]? = some w ∧ w.testBit h = true
  | [], h, e => by simp [xs] at e
  | u :: ws, h, e => by
    rw [xs_cons, Nat.testBit_xor] at e
    cases hu : u.testBit h with
    | true => exact ⟨0, u, rfl, hu⟩
    | false =>
      rw [hu, Bool.false_xor] at e
      obtain ⟨i, w, hi, hw⟩ := has_bit ws h e
      exact ⟨i + 1, w, hi, hw⟩
/-- where not all are 0 together, one of them can be made less so that they are -/
theorem can {ws : List Nat} (h : xs ws ≠ 0) : ∃ (i : Nat) (w : Nat), ws[i]? = some w ∧ w ^^^ xs ws < w := by
  obtain ⟨i, w, hi, hw⟩ := has_bit ws _ (Nat.testBit_log2 h)
  exact ⟨i, w, hi, xor_lt h hw⟩
theorem made {ws : List Nat} {i w : Nat} (hi : ws[i]? = some w) : xs (ws.set i (w ^^^ xs ws)) = 0 := by
  rw [xs_set ws i _ w hi, ← Nat.xor_assoc w w, Nat.xor_self, Nat.zero_xor, Nat.xor_self]
theorem cancel {a b : Nat} (h : a ^^^ b = 0) : a = b := by
  have : a ^^^ b ^^^ b = b := by rw [h, Nat.zero_xor]
  rwa [Nat.xor_assoc, Nat.xor_self, Nat.xor_zero] at this
/-- behind any change of one the sum changes -/
theorem changed {ws : List Nat} {i w v : Nat} (hi : ws[i]? = some w) (hv : v ≠ w) : xs (ws.set i v) ≠ xs ws := by
  rw [xs_set ws i v w hi]
  intro e
  have : w ^^^ v = 0 := by
    have e2 : xs ws ^^^ (xs ws ^^^ (w ^^^ v)) = xs ws ^^^ xs ws := by rw [e]
    rwa [← Nat.xor_assoc, Nat.xor_self, Nat.zero_xor] at e2
  exact hv (cancel this).symm
/-- the change that makes the sum 0 is one alone -/
theorem only {ws : List Nat} {i w v : Nat} (hi : ws[i]? = some w) : xs (ws.set i v) = 0 ↔ v = w ^^^ xs ws := by
  constructor
  · intro h
    rw [xs_set ws i v w hi] at h
    have := cancel h
    rw [this, ← Nat.xor_assoc, Nat.xor_self, Nat.zero_xor]
  · intro h
    rw [h]
    exact made hi
end KN

set_option autoImplicit false
set_option linter.unusedVariables false
namespace KR
open KM
/-! Rows of quotients, what goes into both, the pair back; the fewest and the most takings. -/
def row : Nat → Int → Int → List Int
  | 0, _, _ => []
  | n + 1, h, l => if l ≤ 0 then [] else h / l :: row n l (h % l)
def com : Nat → Int → Int → Int
  | 0, h, _ => h
  | n + 1, h, l => if l ≤ 0 then h else com n l (h % l)
theorem row_fuel : ∀ (n m : Nat) (h l : Int), l.toNat < n → l.toNat < m → row n h l = row m h l
  | 0, _, _, _, hn, _ => by omega
  | _ + 1, 0, _, _, _, hm => by omega
  | n + 1, m + 1, h, l, hn, hm => by
    unfold row
    by_cases c : l ≤ 0
    · rw [if_pos c, if_pos c]
    · have r0 := Int.emod_nonneg h (show l ≠ 0 by omega)
      have r1 := Int.emod_lt_of_pos h (show 0 < l by omega)
      rw [if_neg c, if_neg c, row_fuel n m l (h % l) (by omega) (by omega)]
theorem com_fuel : ∀ (n m : Nat) (h l : Int), l.toNat < n → l.toNat < m → com n h l = com m h l
  | 0, _, _, _, hn, _ => by omega
  | _ + 1, 0, _, _, _, hm => by omega
  | n + 1, m + 1, h, l, hn, hm => by
    unfold com
    by_cases c : l ≤ 0
    · rw [if_pos c, if_pos c]
    · have r0 := Int.emod_nonneg h (show l ≠ 0 by omega)
      have r1 := Int.emod_lt_of_pos h (show 0 < l by omega)
      rw [if_neg c, if_neg c, com_fuel n m l (h % l) (by omega) (by omega)]
/-- the row of a high and a low number, what is left at last -/
def rowP (h l : Int) : List Int := row (l.toNat + 1) h l
def comP (h l : Int) : Int := com (l.toNat + 1) h l
theorem rowP_zero (h : Int) : rowP h 0 = [] := rfl
theorem comP_zero (h : Int) : comP h 0 = h := rfl
theorem rowP_pos {h l : Int} (hl : 0 < l) : rowP h l = h / l :: rowP l (h % l) := by
  have r0 := Int.emod_nonneg h (show l ≠ 0 by omega)
  have r1 := Int.emod_lt_of_pos h hl
  show (if l ≤ 0 then [] else h / l :: row l.toNat l (h % l)) = _
  rw [if_neg (by omega)]
  exact congrArg _ (row_fuel _ _ _ _ (by omega) (by omega))
theorem comP_pos {h l : Int} (hl : 0 < l) : comP h l = comP l (h % l) := by
  have r0 := Int.emod_nonneg h (show l ≠ 0 by omega)
  have r1 := Int.emod_lt_of_pos h hl
  show (if l ≤ 0 then h else com l.toNat l (h % l)) = _
  rw [if_neg (by omega)]
  exact com_fuel _ _ _ _ (by omega) (by omega)
/-- an induction down a row -/
theorem down {M : Int → Int → Prop} (h0 : ∀ h, 0 < h → M h 0) (hs : ∀ h l, 0 < l → 0 < h → M l (h % l) → M h l) : ∀ (n : Nat) (h l : Int), l.toNat < n → 0 < h → 0 ≤ l → M h l
  | 0, _, _, hn, _, _ => by omega
  | n + 1, h, l, hn, hh, hl => by
    by_cases c : l = 0
    · subst c; exact h0 h hh
    · have r0 := Int.emod_nonneg h c
      have r1 := Int.emod_lt_of_pos h (show 0 < l by omega)
      exact hs h l (by omega) hh (down h0 hs n l (h % l) (by omega) (by omega) r0)
theorem down1 {M : Int → Int → Prop} (h0 : ∀ h, 0 < h → M h 0) (hs : ∀ h l, 0 < l → 0 < h → M l (h % l) → M h l) {h l : Int} (hh : 0 < h) (hl : 0 ≤ l) : M h l := down h0 hs (l.toNat + 1) h l (by omega) hh hl
theorem comP_posit {h l : Int} (hh : 0 < h) (hl : 0 ≤ l) : 0 < comP h l := by
  refine down1 (M := fun h l => 0 < comP h l) (fun h hh => hh) (fun h l hl hh ih => ?_) hh hl
  rw [comP_pos hl]
  exact ih
/-- the pair of a row, from its end on -/
def back (rw : List Int) (c : Int) : Int × Int := rw.foldr (fun q p => (p.1 * q + p.2, p.1)) (c, 0)
theorem back_cons (q : Int) (r : List Int) (c : Int) : back (q :: r) c = ((back r c).1 * q + (back r c).2, (back r c).1) := rfl
theorem back_row {h l : Int} (hh : 0 < h) (hl : 0 ≤ l) : back (rowP h l) (comP h l) = (h, l) := by
  refine down1 (M := fun h l => back (rowP h l) (comP h l) = (h, l)) (fun h hh => rfl) (fun h l hl hh ih => ?_) hh hl
  rw [rowP_pos hl, comP_pos hl, back_cons, ih]
  exact Prod.ext (by show l * (h / l) + h % l = h; exact Int.mul_ediv_add_emod h l) rfl
/-- a row as it may be asked with: above 0 all, the last more than 1 if it isn't alone -/
def GoodRow : List Int → Prop
  | [] => False
  | [q] => 1 ≤ q
  | [p, q] => 1 ≤ p ∧ 2 ≤ q
  | p :: q :: r :: s => 1 ≤ p ∧ GoodRow (q :: r :: s)
theorem back_pos {c : Int} (hc : 0 < c) : ∀ {r : List Int}, GoodRow r → 0 < (back r c).2 ∧ (back r c).2 ≤ (back r c).1 ∧ (r.length ≠ 1 → (back r c).2 < (back r c).1)
  | [q], h => by
    have hq : 1 ≤ q := h
    show 0 < c ∧ c ≤ c * q + 0 ∧ _
    have := Int.mul_le_mul_of_nonneg_left hq (Int.le_of_lt hc)
    exact ⟨hc, by omega, fun z => absurd rfl z⟩
  | [p, q], h => by
    obtain ⟨hp, hq⟩ := (show 1 ≤ p ∧ 2 ≤ q from h)
    show 0 < c * q + 0 ∧ c * q + 0 ≤ (c * q + 0) * p + c ∧ (_ → c * q + 0 < (c * q + 0) * p + c)
    have h1 : 0 < c * q := Int.mul_pos hc (by omega)
    have h2 := Int.mul_le_mul_of_nonneg_left hp (Int.le_of_lt h1)
    have e : (c * q + 0) * p = c * q * p := by grind
    exact ⟨by omega, by omega, fun _ => by omega⟩
  | p :: q :: r :: s, h => by
    obtain ⟨hp, hg⟩ := (show 1 ≤ p ∧ GoodRow (q :: r :: s) from h)
    obtain ⟨i1, i2, i3⟩ := back_pos hc hg
    rw [back_cons]
    have h2 := Int.mul_le_mul_of_nonneg_left hp (show 0 ≤ (back (q :: r :: s) c).1 by omega)
    exact ⟨by show 0 < (back (q :: r :: s) c).1; omega, by show (back (q :: r :: s) c).1 ≤ (back (q :: r :: s) c).1 * p + (back (q :: r :: s) c).2; omega, fun _ => by show (back (q :: r :: s) c).1 < (back (q :: r :: s) c).1 * p + (back (q :: r :: s) c).2; omega⟩
theorem step_back {a b p : Int} (ha : 0 < a) (hb : 0 ≤ b) (hba : b < a) : (a * p + b) / a = p ∧ (a * p + b) % a = b := by
  refine ⟨?_, ?_⟩
  · rw [Int.add_comm, Int.add_mul_ediv_left _ _ (show a ≠ 0 by omega), Int.ediv_eq_zero_of_lt hb hba]
    omega
  · rw [Int.add_comm, Int.add_mul_emod_self_left]
    exact Int.emod_eq_of_lt hb hba
theorem row_back {c : Int} (hc : 0 < c) : ∀ {r : List Int}, GoodRow r → rowP (back r c).1 (back r c).2 = r ∧ comP (back r c).1 (back r c).2 = c
  | [q], h => by
    show rowP (c * q + 0) c = [q] ∧ comP (c * q + 0) c = c
    obtain ⟨e1, e2⟩ := step_back (p := q) hc (Int.le_refl 0) hc
    rw [rowP_pos hc, comP_pos hc, e1, e2]
    exact ⟨rfl, rfl⟩
  | [p, q], h => by
    obtain ⟨hp, hq⟩ := (show 1 ≤ p ∧ 2 ≤ q from h)
    have hq1 : GoodRow [q] := (show 1 ≤ q by omega)
    obtain ⟨i1, i2⟩ := row_back hc hq1
    rw [back_cons]
    have hlt : (back [q] c).2 < (back [q] c).1 := by
      show c < c * q + 0
      have := Int.mul_le_mul_of_nonneg_left hq (Int.le_of_lt hc)
      omega
    obtain ⟨j1, j2, _⟩ := back_pos hc hq1
    have ha : 0 < (back [q] c).1 := by omega
    obtain ⟨e1, e2⟩ := step_back (p := p) ha (Int.le_of_lt j1) hlt
    show rowP ((back [q] c).1 * p + (back [q] c).2) (back [q] c).1 = [p, q] ∧ comP ((back [q] c).1 * p + (back [q] c).2) (back [q] c).1 = c
    rw [rowP_pos ha, comP_pos ha, e1, e2, i1, i2]
    exact ⟨rfl, rfl⟩
  | p :: q :: r :: s, h => by
    obtain ⟨hp, hg⟩ := (show 1 ≤ p ∧ GoodRow (q :: r :: s) from h)
    obtain ⟨i1, i2⟩ := row_back hc hg
    obtain ⟨j1, j2, j3⟩ := back_pos hc hg
    have hlt := j3 (by simp)
    rw [back_cons]
    have ha : 0 < (back (q :: r :: s) c).1 := by omega
    obtain ⟨e1, e2⟩ := step_back (p := p) ha (Int.le_of_lt j1) hlt
    show rowP ((back (q :: r :: s) c).1 * p + (back (q :: r :: s) c).2) (back (q :: r :: s) c).1 = _ ∧ comP ((back (q :: r :: s) c).1 * p + (back (q :: r :: s) c).2) (back (q :: r :: s) c).1 = c
    rw [rowP_pos ha, comP_pos ha, e1, e2, i1, i2]
    exact ⟨rfl, rfl⟩
/-! ### the fewest and the most takings -/
def longLH (l h : Int) : Int := (rowP h l).sum - 1
def fewLH (l h : Int) : Int := if l = h then 0 else ((rowP h l).length : Int)
def longF (a b : Int) : Int := longLH (mnF a b) (mxF a b)
def fewF (a b : Int) : Int := fewLH (mnF a b) (mxF a b)
theorem long_comm (a b : Int) : longF b a = longF a b := by unfold longF; rw [mn_comm, mx_comm]
theorem few_comm (a b : Int) : fewF b a = fewF a b := by unfold fewF; rw [mn_comm, mx_comm]
theorem sum_pos {h l : Int} (hl : 0 < l) : (rowP h l).sum = h / l + (rowP l (h % l)).sum := by rw [rowP_pos hl, List.sum_cons]
theorem len_pos {h l : Int} (hl : 0 < l) : (rowP h l).length = 1 + (rowP l (h % l)).length := by rw [rowP_pos hl, List.length_cons]; omega
theorem at_lohi {x l : Int} (c : l ≤ x) : longF x l = longLH l x ∧ fewF x l = fewLH l x := by
  unfold longF fewF mnF mxF
  split
  · have e : x = l := by omega
    subst e
    exact ⟨rfl, rfl⟩
  · exact ⟨rfl, rfl⟩
/-- behind a taking from a high and a low number -/
theorem takeLH {l h t : Int} (hl : 0 < l) (hlh : l < h) (ht : 1 ≤ t) (hth : t * l < h) : longF (h - t * l) l = longLH l h - t ∧ fewLH l h - 1 ≤ fewF (h - t * l) l := by
  have r0 := Int.emod_nonneg h (show l ≠ 0 by omega)
  have r1 := Int.emod_lt_of_pos h hl
  have e := dm h l
  have em : (h - t * l) % l = h % l := by rw [Int.sub_emod, Int.mul_emod_left]; simp
  have ed : (h - t * l) / l = h / l - t := by rw [Int.sub_mul_ediv_right _ _ (show l ≠ 0 by omega)]
  have ef : fewLH l h = ((rowP h l).length : Int) := if_neg (by omega)
  rcases Int.lt_or_le (h - t * l) l with c | c
  · have er : h % l = h - t * l := by rw [← em]; exact Int.emod_eq_of_lt (by omega) c
    have eq : h / l = t := by
      rw [er] at e
      have e2 : l * (h / l) = l * t := by rw [Int.mul_comm l t]; omega
      exact Int.eq_of_mul_eq_mul_left (show l ≠ 0 by omega) e2
    have h1 : longF (h - t * l) l = longLH (h % l) l ∧ fewF (h - t * l) l = fewLH (h % l) l := by
      rw [← er, long_comm l, few_comm l]
      exact at_lohi (by omega)
    rw [h1.1, h1.2, ef]
    refine ⟨?_, ?_⟩
    · unfold longLH
      rw [sum_pos hl, eq]
      omega
    · unfold fewLH
      rw [if_neg (by omega), len_pos hl]
      omega
  · obtain ⟨h1, h2⟩ := at_lohi c
    rw [h1, h2, ef]
    refine ⟨?_, ?_⟩
    · unfold longLH
      rw [sum_pos hl, sum_pos hl, em, ed]
      omega
    · unfold fewLH
      split
      · have e0 : h % l = 0 := by
          rw [← em, ← (show l = h - t * l by assumption)]
          exact Int.emod_self
        rw [len_pos hl, e0, rowP_zero]
        show (((1 + 0 : Nat) : Int)) - 1 ≤ 0
        omega
      · rw [len_pos hl, len_pos hl, em]
        omega
/-- some taking leaves one less -/
theorem fewLH_at {l h : Int} (hl : 0 < l) (hlh : l < h) : ∃ t, 1 ≤ t ∧ t * l < h ∧ fewF (h - t * l) l = fewLH l h - 1 := by
  have r0 := Int.emod_nonneg h (show l ≠ 0 by omega)
  have r1 := Int.emod_lt_of_pos h hl
  have e := dm h l
  have q1 : 1 ≤ h / l := (Int.le_ediv_iff_mul_le hl).mpr (by omega)
  have ef : fewLH l h = ((rowP h l).length : Int) := if_neg (by omega)
  have ec : h / l * l = l * (h / l) := Int.mul_comm _ _
  by_cases c : h % l = 0
  · have q2 : 2 ≤ h / l := by
      rcases Int.lt_or_le (h / l) 2 with z | z
      · exfalso
        have : h / l = 1 := by omega
        rw [this] at e
        omega
      · exact z
    have e1 : (h / l - 1) * l = h / l * l - l := by grind
    refine ⟨h / l - 1, by omega, by omega, ?_⟩
    rw [show h - (h / l - 1) * l = l by omega, ef, len_pos hl, c, rowP_zero, (at_lohi (Int.le_refl l)).2]
    unfold fewLH
    rw [if_pos rfl]
    rfl
  · refine ⟨h / l, q1, by omega, ?_⟩
    rw [show h - h / l * l = h % l by omega, few_comm l, (at_lohi (show h % l ≤ l by omega)).2, ef]
    unfold fewLH
    rw [if_neg (by omega), len_pos hl]
    omega
theorem take_eq {a b t : Int} (f : Int → Int → Int) (hf : ∀ a b, f b a = f a b) : f (behA a b t) (behB a b t) = f (mxF a b - t * mnF a b) (mnF a b) := by
  unfold behA behB mxF mnF
  rcases Int.lt_or_le b a with c | c
  · rw [if_pos c, if_pos c, if_neg (by omega), if_neg (by omega)]
  · rw [if_neg (by omega), if_neg (by omega), if_pos c, if_pos c, hf]
theorem mnmx_lt {a b t : Int} (ha : 0 < a) (hb : 0 < b) (ht : 1 ≤ t) (hm : t ≤ mostF a b) : mnF a b < mxF a b ∧ t * mnF a b < mxF a b := by
  have h1 := most_lt ha hb hm
  have h2 := mn_pos ha hb
  have h3 := Int.mul_le_mul_of_nonneg_right ht (Int.le_of_lt h2)
  exact ⟨by omega, h1⟩
theorem long_take {a b t : Int} (ha : 0 < a) (hb : 0 < b) (ht : 1 ≤ t) (hm : t ≤ mostF a b) : longF (behA a b t) (behB a b t) = longF a b - t := by
  obtain ⟨h1, h2⟩ := mnmx_lt ha hb ht hm
  rw [take_eq longF long_comm]
  exact (takeLH (mn_pos ha hb) h1 ht h2).1
theorem few_take {a b t : Int} (ha : 0 < a) (hb : 0 < b) (ht : 1 ≤ t) (hm : t ≤ mostF a b) : fewF a b - 1 ≤ fewF (behA a b t) (behB a b t) := by
  obtain ⟨h1, h2⟩ := mnmx_lt ha hb ht hm
  rw [take_eq fewF few_comm]
  exact (takeLH (mn_pos ha hb) h1 ht h2).2
theorem few_at {a b : Int} (ha : 0 < a) (hb : 0 < b) (hm : 1 ≤ mostF a b) : ∃ t, 1 ≤ t ∧ t ≤ mostF a b ∧ fewF (behA a b t) (behB a b t) = fewF a b - 1 := by
  obtain ⟨h1, h2⟩ := mnmx_lt ha hb (Int.le_refl 1) hm
  obtain ⟨t, t1, t2, t3⟩ := fewLH_at (mn_pos ha hb) h1
  refine ⟨t, t1, (Int.le_ediv_iff_mul_le (mn_pos ha hb)).mpr (by omega), ?_⟩
  rw [take_eq fewF few_comm]
  exact t3
theorem alike {a b : Int} (ha : 0 < a) (hb : 0 < b) (hm : mostF a b ≤ 0) : fewF a b = 0 ∧ longF a b = 0 := by
  have h1 := mn_pos ha hb
  have h2 := mn_mx a b
  have e : mnF a b = mxF a b := by
    rcases Int.lt_or_le (mnF a b) (mxF a b) with c | c
    · exfalso
      have : 1 ≤ mostF a b := (Int.le_ediv_iff_mul_le h1).mpr (by omega)
      omega
    · omega
  unfold fewF longF fewLH longLH
  rw [if_pos e, ← e, rowP_pos h1, Int.ediv_self (show mnF a b ≠ 0 by omega), Int.emod_self, rowP_zero]
  exact ⟨rfl, rfl⟩
end KR

set_option autoImplicit false
namespace KG
open KM
/-! Some pairs: who wins, by worths. -/
abbrev Prs := List (Int × Int)
def wn (p : Int × Int) : Nat := (worthF p.1 p.2).toNat
def sumF (ps : Prs) : Nat := KN.xs (ps.map wn)
def wonF (ps : Prs) : Bool := decide (sumF ps ≠ 0)
def Pos (ps : Prs) : Prop := ∀ p ∈ ps, 0 < p.1 ∧ 0 < p.2
def beh (p : Int × Int) (t : Int) : Int × Int := (behA p.1 p.2 t, behB p.1 p.2 t)
theorem map_set {ps : Prs} {i : Nat} {q : Int × Int} : (ps.set i q).map wn = (ps.map wn).set i (wn q) := List.map_set
theorem wn_at {ps : Prs} {i : Nat} {p : Int × Int} (h : ps[i]? = some p) : (ps.map wn)[i]? = some (wn p) := by
  rw [List.getElem?_map, h]
  rfl
/-- a taking that leaves 0 together, where they aren't 0 -/
theorem can {ps : Prs} (hp : Pos ps) (h : sumF ps ≠ 0) : ∃ (i : Nat) (p : Int × Int) (t : Int), ps[i]? = some p ∧ 1 ≤ t ∧ t ≤ mostF p.1 p.2 ∧ sumF (ps.set i (beh p t)) = 0 := by
  obtain ⟨i, w, hi, hw⟩ := KN.can h
  rw [List.getElem?_map] at hi
  cases e : ps[i]? with
  | none => rw [e] at hi; cases hi
  | some p =>
    rw [e] at hi
    have ew : wn p = w := Option.some.inj hi
    subst ew
    obtain ⟨p1, p2⟩ := hp p (List.mem_of_getElem? e)
    obtain ⟨t, t1, t2, t3⟩ := hit p1 p2 (w := ((wn p ^^^ sumF ps : Nat) : Int)) (by omega) (by
      have h0 := worthF0 p1 p2
      have h1 : wn p ^^^ sumF ps < wn p := hw
      have h2 : wn p = (worthF p.1 p.2).toNat := rfl
      omega)
    refine ⟨i, p, t, e, t1, t2, ?_⟩
    unfold sumF
    rw [map_set]
    have ev : wn (beh p t) = wn p ^^^ KN.xs (ps.map wn) := by
      show (worthF (behA p.1 p.2 t) (behB p.1 p.2 t)).toNat = _
      rw [t3]
      exact Int.toNat_natCast _
    rw [ev]
    exact KN.made (wn_at e)
/-- behind any taking from 0 together they aren't 0 -/
theorem cannot {ps : Prs} (hp : Pos ps) (h : sumF ps = 0) {i : Nat} {p : Int × Int} {t : Int} (hi : ps[i]? = some p) (t1 : 1 ≤ t) (t2 : t ≤ mostF p.1 p.2) : sumF (ps.set i (beh p t)) ≠ 0 := by
  obtain ⟨p1, p2⟩ := hp p (List.mem_of_getElem? hi)
  have hne : wn (beh p t) ≠ wn p := by
    intro e
    have h1 := worthF0 (behA_pos p1 p2 t2) (behB_pos p1 p2 t2)
    have h2 := worthF0 p1 p2
    refine beh_ne p1 p2 t1 t2 ?_
    show worthF (behA p.1 p.2 t) (behB p.1 p.2 t) = worthF p.1 p.2
    have e' : (worthF (behA p.1 p.2 t) (behB p.1 p.2 t)).toNat = (worthF p.1 p.2).toNat := e
    omega
  have := KN.changed (wn_at hi) hne
  unfold sumF at *
  rw [map_set, ← h]
  exact this
theorem won_iff {ps : Prs} (hp : Pos ps) : wonF ps = true ↔ ∃ (i : Nat) (p : Int × Int) (t : Int), ps[i]? = some p ∧ 1 ≤ t ∧ t ≤ mostF p.1 p.2 ∧ wonF (ps.set i (beh p t)) = false := by
  constructor
  · intro h
    obtain ⟨i, p, t, h1, h2, h3, h4⟩ := can hp (of_decide_eq_true h)
    exact ⟨i, p, t, h1, h2, h3, decide_eq_false (by rw [h4]; exact fun z => z rfl)⟩
  · rintro ⟨i, p, t, h1, h2, h3, h4⟩
    refine decide_eq_true fun z => ?_
    exact cannot hp z h1 h2 h3 (Decidable.not_not.mp (of_decide_eq_false h4))
/-! ### the order of the pairs, and of a pair's numbers -/
theorem xs_perm {us ws : List Nat} (h : us.Perm ws) : KN.xs us = KN.xs ws := by
  induction h with
  | nil => rfl
  | cons x _ ih => rw [KN.xs_cons, KN.xs_cons, ih]
  | swap x y l => rw [KN.xs_cons, KN.xs_cons, KN.xs_cons, KN.xs_cons, ← Nat.xor_assoc, ← Nat.xor_assoc, Nat.xor_comm x y]
  | trans _ _ h1 h2 => exact h1.trans h2
def srt (p : Int × Int) : Int × Int := (mnF p.1 p.2, mxF p.1 p.2)
theorem mn_mn (a b : Int) : mnF (mnF a b) (mxF a b) = mnF a b := by
  have h := mn_mx a b
  show (if mnF a b ≤ mxF a b then mnF a b else mxF a b) = mnF a b
  rw [if_pos h]
theorem mx_mx (a b : Int) : mxF (mnF a b) (mxF a b) = mxF a b := by
  have h := mn_mx a b
  show (if mnF a b ≤ mxF a b then mxF a b else mnF a b) = mxF a b
  rw [if_pos h]
theorem wn_srt (p : Int × Int) : wn (srt p) = wn p := by
  show (worthLH (mnF (mnF p.1 p.2) (mxF p.1 p.2)) (mxF (mnF p.1 p.2) (mxF p.1 p.2))).toNat = (worthLH (mnF p.1 p.2) (mxF p.1 p.2)).toNat
  rw [mn_mn, mx_mx]
theorem sum_perm {ps qs : Prs} (h : qs.Perm (ps.map srt)) : sumF qs = sumF ps := by
  unfold sumF
  rw [xs_perm (h.map wn), List.map_map]
  exact congrArg KN.xs (List.map_congr_left fun p _ => wn_srt p)
theorem won_perm {ps qs : Prs} (h : qs.Perm (ps.map srt)) : wonF qs = wonF ps := by unfold wonF; rw [sum_perm h]
theorem pos_perm {ps qs : Prs} (h : qs.Perm (ps.map srt)) (hp : Pos ps) : Pos qs := by
  intro q hq
  obtain ⟨p, pm, rfl⟩ := List.mem_map.mp (h.mem_iff.mp hq)
  obtain ⟨a, b⟩ := hp p pm
  have h1 := mn_pos a b
  have h2 := mn_mx p.1 p.2
  exact ⟨h1, by show 0 < mxF p.1 p.2; omega⟩
theorem pos_set {ps : Prs} {i : Nat} {p : Int × Int} {t : Int} (hp : Pos ps) (hi : ps[i]? = some p) (t2 : t ≤ mostF p.1 p.2) : Pos (ps.set i (beh p t)) := by
  intro q hq
  obtain ⟨p1, p2⟩ := hp p (List.mem_of_getElem? hi)
  rcases List.mem_or_eq_of_mem_set hq with h | h
  · exact hp q h
  · rw [h]
    exact ⟨behA_pos p1 p2 t2, behB_pos p1 p2 t2⟩
/-! ### how long it can go on: the sum of the greater numbers -/
def size (p : Int × Int) : Nat := (mxF p.1 p.2).toNat
def ms (ps : Prs) : Nat := (ps.map size).sum
theorem size_srt (p : Int × Int) : size (srt p) = size p := by
  show (mxF (mnF p.1 p.2) (mxF p.1 p.2)).toNat = (mxF p.1 p.2).toNat
  rw [mx_mx]
theorem ms_perm {ps qs : Prs} (h : qs.Perm (ps.map srt)) : ms qs = ms ps := by
  unfold ms
  rw [(h.map size).sum_nat, List.map_map]
  exact congrArg List.sum (List.map_congr_left fun p _ => size_srt p)
theorem size_lt {a b t : Int} (ha : 0 < a) (hb : 0 < b) (ht : 1 ≤ t) (hm : t ≤ mostF a b) : (mxF (behA a b t) (behB a b t)).toNat < (mxF a b).toNat := by
  have h1 := most_lt ha hb hm
  have h2 := mn_pos ha hb
  have h3 := Int.mul_le_mul_of_nonneg_right ht (Int.le_of_lt h2)
  have h4 := behA_pos ha hb hm
  have h5 := behB_pos ha hb hm
  have key : mxF (behA a b t) (behB a b t) < mxF a b := by
    unfold behA behB
    unfold mnF mxF at *
    rcases Int.lt_or_le b a with c | c
    · rw [if_neg (show ¬ a ≤ b by omega)] at *
      rw [if_pos c, if_pos c]
      rw [if_neg (show ¬ a ≤ b by omega)] at h1
      split <;> omega
    · rw [if_pos c] at *
      rw [if_neg (show ¬ b < a by omega), if_neg (show ¬ b < a by omega)]
      rw [if_pos c] at h1
      split <;> omega
  omega
theorem sum_set_lt : ∀ {l : List Nat} {i n m : Nat}, l[i]? = some n → m < n → (l.set i m).sum < l.sum
  | [], i, n, m, h, _ => by simp at h
  | x :: l, 0, n, m, h, hm => by
    have e : x = n := Option.some.inj h
    subst e
    show (m :: l).sum < (x :: l).sum
    rw [List.sum_cons, List.sum_cons]
    omega
  | x :: l, i + 1, n, m, h, hm => by
    have ih := sum_set_lt (l := l) (i := i) h hm
    show (x :: l.set i m).sum < (x :: l).sum
    rw [List.sum_cons, List.sum_cons]
    omega
theorem ms_lt {ps : Prs} {i : Nat} {p : Int × Int} {t : Int} (hp : Pos ps) (hi : ps[i]? = some p) (t1 : 1 ≤ t) (t2 : t ≤ mostF p.1 p.2) : ms (ps.set i (beh p t)) < ms ps := by
  obtain ⟨p1, p2⟩ := hp p (List.mem_of_getElem? hi)
  unfold ms
  rw [List.map_set]
  refine sum_set_lt (n := size p) ?_ (size_lt p1 p2 t1 t2)
  rw [List.getElem?_map, hi]
  rfl
end KG

set_option Elab.async false
set_option linter.all false
set_option maxRecDepth 100000
set_option maxHeartbeats 4000000
namespace Mt
open PySem PySem.Spec PyProof.Rows L2
/-! ### max, min of a pair -/
def rMaxT (K : PySem.W.Frag) : List V → Hp → VK → Prop := fun vs H Q => ∃ (p : Addr) (i j : Int), vs = [.ref p] ∧ SqT K H p [.int i, .int j] ∧ Q (.int (if i < j then j else i)) H
def rMinT (K : PySem.W.Frag) : List V → Hp → VK → Prop := fun vs H Q => ∃ (p : Addr) (i j : Int), vs = [.ref p] ∧ SqT K H p [.int i, .int j] ∧ Q (.int (if j < i then j else i)) H
theorem holds_int_of {h : Heap} {v : Value} {i : Int} (H : PySem.W.Holds h v i) : ∃ t, v = .int i t := by
  obtain ⟨as, r⟩ := H
  cases r
  exact ⟨_, rfl⟩
theorem holds_mk {h : Heap} {i : Int} {t : Tok} : PySem.W.Holds h (.int i t) i := ⟨_, .int _ _⟩
section
variable {X : Cx}
theorem cr_maxT (hc : X.calm = true) (hu : X.A.units + 64 < cLine) : CallR X (.builtin "max") (rMaxT X.K) := by
  intro pins s σ H vs us Q I r h
  obtain ⟨p, i, j, rfl, hs, q⟩ := h
  obtain ⟨its, rv, ht, _⟩ := I.tuple hs
  rw [Vals.ref1 r]
  obtain ⟨u, w', rfl, ⟨t, rfl⟩, ⟨t', rfl⟩⟩ := vals2 rv
  refine PySem.W.max_tuple_datum (α := Int) (x := i) (xs := [j]) (I.ok.hd hc) ht (.cons holds_mk (.cons holds_mk .nil)) (by show X.A.units + 1 + 0 < cLine; omega) fun k v h' tk hk hv keep => ?_
  obtain ⟨t2, rfl⟩ := holds_int_of hv
  refine ⟨.int _, H, I.kept keep, ⟨_, rfl⟩, ?_⟩
  have e : PySem.W.maxOf i [j] = if i < j then j else i := by
    show (if decide (i < j) = true then j else i) = _
    simp
  rw [e]
  exact q
theorem cr_minT (hc : X.calm = true) (hu : X.A.units + 64 < cLine) : CallR X (.builtin "min") (rMinT X.K) := by
  intro pins s σ H vs us Q I r h
  obtain ⟨p, i, j, rfl, hs, q⟩ := h
  obtain ⟨its, rv, ht, _⟩ := I.tuple hs
  rw [Vals.ref1 r]
  obtain ⟨u, w', rfl, ⟨t, rfl⟩, ⟨t', rfl⟩⟩ := vals2 rv
  refine PySem.W.min_tuple_datum (α := Int) (x := i) (xs := [j]) (I.ok.hd hc) ht (.cons holds_mk (.cons holds_mk .nil)) (by show X.A.units + 1 + 0 < cLine; omega) fun k v h' tk hk hv keep => ?_
  obtain ⟨t2, rfl⟩ := holds_int_of hv
  refine ⟨.int _, H, I.kept keep, ⟨_, rfl⟩, ?_⟩
  have e : PySem.W.minOf i [j] = if j < i then j else i := by
    show (if decide (j < i) = true then j else i) = _
    simp
  rw [e]
  exact q
end

/-! ### a def of the top as the walk takes it -/
structure DefAt (K : PySem.W.Frag) (mg : Str → Option Value) (x : Str) (st : Stmt) (ps : List Str) where
  f : Addr
  fd : FuncData
  F : Fun K x x st f fd
  b : Binds K fd ps []
  g : mg x = some (.ref f)
/-! ### promises and what evaluates to what -/
open Evl
/-- a new tuple is handed back -/
def RetU (xs : List V) (H : Hp) (Q : VK) : Prop := ∀ p H2, H p = none → Ex H H2 → H2 p = some (.tup xs) → Q (.ref p) H2
theorem RetU.go {xs : List V} {H H' H2 : Hp} {Q : VK} {p : Addr} (k : RetU xs H Q) (e : Ex H H') (hp : H' p = none) (e2 : Ex H' H2) (h : H2 p = some (.tup xs)) : Q (.ref p) H2 := k p H2 (fresh_back e hp) (e.trans e2) h
def SpU (sp : Sp) (vs : List V) (H : Hp) (xs : List V) : Prop := ∀ H1, Ex H H1 → ∀ Q : VK, (∀ p H2, H1 p = none → Ex H1 H2 → H2 p = some (.tup xs) → Q (.ref p) H2) → ∀ E : XK, sp vs H1 Q E
section
variable {K : PySem.W.Frag} {σ : L2.St} {H H' : Hp} {ta tb te tx : TE} {t u : TT} {x y z v : V} {r : R2} {D : Ends} {tu tw tz : TS} {g : TG}
theorem EvU.mono {xs : List V} (e : Ex H H') (h : EvU te σ H xs) : EvU te σ H' xs := fun H1 a Q q => h H1 (e.trans a) Q q
theorem eu_call {sp : Sp} {dvs vs xs : List V} {E : XK} {ta : TA} (h : EvA ta σ H vs) (hs : SpU sp (vs ++ dvs) H xs) : EvU (tCall sp dvs E ta) σ H xs := fun H1 e Q q =>
  h H1 e _ fun H2 e2 => hs H2 (e.trans e2) Q (fun p H3 hp e3 h3 => q p H3 (fresh_back e2 hp) (e2.trans e3) h3) E
/-- an argument that is a new tuple -/
theorem ev_callU {sp : Sp} {xs : List V} {E : XK} (h : EvU ta σ H xs) (hs : ∀ p H1, H1 p = some (.tup xs) → Ex H H1 → SpV sp [.ref p] H1 z) : Ev (tCall sp [] E (tCons ta tNil)) σ H z := fun H1 e Q q =>
  h H1 e _ fun p H2 _ e2 hp => hs p H2 hp (e.trans e2) H2 (Ex.refl H2) Q (fun H3 e3 => q H3 (e2.trans e3)) E
/-- a, b = a pair that is made | that stands -/
theorem s_unU {i j : Nat} (h : EvU te σ H [x, y]) (k : ∀ H1, Ex H H1 → D.nx ((σ.set i (some x)).set j (some y)) H1) : tAsg te (gTup K 2 (gCons (gName i) (gCons (gName j) gNil))) D σ H :=
  h H (Ex.refl H) _ fun p H1 _ e hp => ⟨p, [x, y], rfl, st_of hp, rfl, x, [y], rfl, y, [], rfl, rfl, k H1 e⟩
theorem q_unU {i j : Nat} (h : EvU te σ H [x, y]) (k : ∀ H1, Ex H H1 → tz D ((σ.set i (some x)).set j (some y)) H1) : tSeq (tAsg te (gTup K 2 (gCons (gName i) (gCons (gName j) gNil)))) tz D σ H := s_unU (D := { D with nx := tz D }) h k
theorem s_unT {i j : Nat} {p : Addr} (h : Ev te σ H (.ref p)) (ht : SqT K H p [x, y]) (k : ∀ H1, Ex H H1 → D.nx ((σ.set i (some x)).set j (some y)) H1) : tAsg te (gTup K 2 (gCons (gName i) (gCons (gName j) gNil))) D σ H :=
  h H (Ex.refl H) _ fun H1 e => ⟨p, [x, y], rfl, ex_t e ht, rfl, x, [y], rfl, y, [], rfl, rfl, k H1 e⟩
theorem q_unT {i j : Nat} {p : Addr} (h : Ev te σ H (.ref p)) (ht : SqT K H p [x, y]) (k : ∀ H1, Ex H H1 → tz D ((σ.set i (some x)).set j (some y)) H1) : tSeq (tAsg te (gTup K 2 (gCons (gName i) (gCons (gName j) gNil)))) tz D σ H := s_unT (D := { D with nx := tz D }) h ht k
/-- a, b = x, y -/
theorem q_par {i j : Nat} {ta : TA} (h : EvA ta σ H [x, y]) (k : ∀ H1, Ex H H1 → tz D ((σ.set i (some x)).set j (some y)) H1) : tSeq (tPar i j ta) tz D σ H :=
  h H (Ex.refl H) _ fun H1 e => ⟨x, y, rfl, k H1 e⟩
theorem s_par {i j : Nat} {ta : TA} (h : EvA ta σ H [x, y]) (k : ∀ H1, Ex H H1 → D.nx ((σ.set i (some x)).set j (some y)) H1) : tPar i j ta D σ H :=
  h H (Ex.refl H) _ fun H1 e => ⟨x, y, rfl, k H1 e⟩
/-- isinstance -/
theorem ty_tup {p : Addr} {xs : List V} (h : SqT K H p xs) : TyX K H (.ref p) (.type "tuple") := by
  rcases h with (h | ⟨o, h⟩) | ⟨o, its, n, h1, h2, _⟩
  · exact .base (.tup h)
  · exact .fTuple h
  · exact .kTuple h1 h2
theorem rc_isi_int {i : Int} {T : String} {b : Bool} (h : kitB "int" T = some b) : RC (rIsi K) [.int i, .ty T] H (.bl b) := fun H1 _ _ q =>
  ⟨_, _, _, _, b, rfl, .ty T, .base (.int i), kit_ty h, q H1 (Ex.refl H1)⟩
theorem rc_isi_bl {i : Bool} {T : String} {b : Bool} (h : kitB "bool" T = some b) : RC (rIsi K) [.bl i, .ty T] H (.bl b) := fun H1 _ _ q =>
  ⟨_, _, _, _, b, rfl, .ty T, .base (.bl i), kit_ty h, q H1 (Ex.refl H1)⟩
theorem rc_isi_tup {p : Addr} {xs : List V} {T : String} {b : Bool} (hp : SqT K H p xs) (h : kitB "tuple" T = some b) : RC (rIsi K) [.ref p, .ty T] H (.bl b) := fun H1 e _ q =>
  ⟨_, _, _, _, b, rfl, .ty T, ty_tup (ex_t e hp), kit_ty h, q H1 (Ex.refl H1)⟩
/-- len -/
theorem rc_lenT {p : Addr} {xs : List V} (hp : SqT K H p xs) : RC (fun xs H Q => ∃ p ys, xs = [.ref p] ∧ (SqL K H p ys ∨ SqT K H p ys) ∧ Q (.int ys.length) H) [.ref p] H (.int xs.length) := fun H1 e _ q =>
  ⟨p, xs, rfl, .inr (ex_t e hp), q H1 (Ex.refl H1)⟩
theorem rc_lenL {p : Addr} {xs : List V} (hp : SqL K H p xs) : RC (fun xs H Q => ∃ p ys, xs = [.ref p] ∧ (SqL K H p ys ∨ SqT K H p ys) ∧ Q (.int ys.length) H) [.ref p] H (.int xs.length) := fun H1 e _ q =>
  ⟨p, xs, rfl, .inl (ex_l e hp), q H1 (Ex.refl H1)⟩
theorem rc_maxT {p : Addr} {i j : Int} (hp : SqT K H p [.int i, .int j]) : RC (rMaxT K) [.ref p] H (.int (if i < j then j else i)) := fun H1 e _ q => ⟨p, i, j, rfl, ex_t e hp, q H1 (Ex.refl H1)⟩
theorem rc_minT {p : Addr} {i j : Int} (hp : SqT K H p [.int i, .int j]) : RC (rMinT K) [.ref p] H (.int (if j < i then j else i)) := fun H1 e _ q => ⟨p, i, j, rfl, ex_t e hp, q H1 (Ex.refl H1)⟩
theorem rc_sum {p : Addr} {ns : List Int} (hp : SqL K H p (ns.map V.int)) : RC (rSum K) [.ref p] H (.int ns.sum) := fun H1 e _ q => ⟨p, ns, rfl, ex_l e hp, q H1 (Ex.refl H1)⟩
/-- one test that is known, in an or, an and -/
theorem et_or_ff {t u : TT} (h1 : EvT t σ H false) (h2 : EvT u σ H false) : EvT (tOr t u) σ H false := et_or h1 fun _ => h2
/-- == of data at any depth -/
theorem rv_eqD {d e : PyData} (hd : ∀ H1, Ex H H1 → Dp K H1 x d) (he : ∀ H1, Ex H H1 → Dp K H1 y e) (sd : SeqAt.shaped d = true) (se : SeqAt.shaped e = true) : RV (rEqD K) x y H (.bl (PyData.eqv d e)) := fun H1 a _ q =>
  ⟨d, e, hd H1 a, he H1 a, sd, se, q H1 (Ex.refl H1)⟩
theorem rv_neD {d e : PyData} (hd : ∀ H1, Ex H H1 → Dp K H1 x d) (he : ∀ H1, Ex H H1 → Dp K H1 y e) (sd : SeqAt.shaped d = true) (se : SeqAt.shaped e = true) : RV (rNeD K) x y H (.bl (!PyData.eqv d e)) := fun H1 a _ q =>
  ⟨d, e, hd H1 a, he H1 a, sd, se, q H1 (Ex.refl H1)⟩
theorem dp_pair {p : Addr} {a b : Int} (h : SqT K H p [.int a, .int b]) : ∀ H1, Ex H H1 → Dp K H1 (.ref p) (.tuple [.int a, .int b]) := fun _ e => .tup (ex_t e h) (.cons (.int _) (.cons (.int _) .nil))
theorem sh_pair (a b : Int) : SeqAt.shaped (.tuple [.int a, .int b]) = true := rfl
theorem eqv_pair (a b c d : Int) : PyData.eqv (.tuple [.int a, .int b]) (.tuple [.int c, .int d]) = (decide (a = c) && decide (b = d)) := by
  simp only [PyData.eqv, PyData.eqvAll, Bool.and_true]
  rfl
end
/-! ### numbers of a size -/
structure Big (x : Int) : Prop where
  pos : 0 < x
  lt : x.natAbs < 2 ^ 4000
theorem Big.mul {x y : Int} (hx : x.natAbs < 2 ^ 4000) (hy : y.natAbs < 2 ^ 4000) : CMulX x y := mulx_ok hx hy (by decide)
theorem Big.div {i x : Int} (h : Big x) : CDivW i x := wide_div h.pos h.lt (by decide) (by decide)
theorem Big.divp {i x : Int} (h : Big x) : CDivP i x := ⟨h.pos, PyProof.noPylong_of_log2 (h.div (i := i)).2⟩
theorem Big.le {x y : Int} (h : Big x) (h0 : 0 < y) (hy : y ≤ x) : Big y := ⟨h0, wide_le (Int.le_of_lt h0) hy h.lt⟩
theorem Big.nle {x y : Int} (h : Big x) (h0 : 0 ≤ y) (hy : y ≤ x) : y.natAbs < 2 ^ 4000 := wide_le h0 hy h.lt
open KM
set_option exponentiation.threshold 300
theorem big_mn {a b : Int} (ha : Big a) (hb : Big b) : Big (mnF a b) := by unfold mnF; split <;> assumption
theorem big_mx {a b : Int} (ha : Big a) (hb : Big b) : Big (mxF a b) := by unfold mxF; split <;> assumption
theorem eu_divmod {i j : Int} {σ : L2.St} {H : Hp} {ta tb : TE} (ha : Ev ta σ H (.int i)) (hb : Ev tb σ H (.int j)) (hc : CDivP i j) :
    EvU (tCB (fun xs H Q => ∃ i j, xs = [V.int i, V.int j] ∧ CDivP i j ∧ ∀ p, H p = none → Q (.ref p) (upd H p (.tup [.int (i / j), .int (i % j)]))) (tCons ta (tCons tb tNil))) σ H [.int (i / j), .int (i % j)] := fun H1 e Q q =>
  ha H1 e _ fun H2 e2 => hb H2 (e.trans e2) _ fun H3 e3 => ⟨i, j, rfl, hc, fun p hp => q p _ (fresh_back (e2.trans e3) hp) ((e2.trans e3).trans (Ex.new hp)) upd_same⟩
/-! ### sizes in bits -/
def W (k : Nat) (x : Int) : Prop := x.natAbs < 2 ^ k
theorem W.mono {k j : Nat} {x : Int} (h : W k x) (e : k ≤ j) : W j x := Nat.lt_of_lt_of_le h (Nat.pow_le_pow_right (by decide) e)
theorem W.add {k : Nat} {x y : Int} (hx : W k x) (hy : W k y) : W (k + 1) (x + y) := by
  unfold W at *
  have := Int.natAbs_add_le x y
  rw [Nat.pow_succ]
  omega
theorem W.mul {k j : Nat} {x y : Int} (hx : W k x) (hy : W j y) : W (k + j) (x * y) := wide_lt hx hy
theorem W.cm {k j : Nat} {x y : Int} (hx : W k x) (hy : W j y) (h : k + j ≤ 134217728) : CMulX x y := mulx_ok hx hy h
theorem W.of_bits {x : Int} {k : Nat} (h : Builtin.Int.intBits x ≤ k) : W k x := by
  unfold W
  by_cases h0 : x = 0
  · subst h0
    exact Nat.pow_pos (by decide)
  · unfold Builtin.Int.intBits at h
    rw [if_neg (by simpa using h0)] at h
    exact (Nat.log2_lt (by omega)).mp (by omega)
theorem W.small {x : Int} (h0 : 0 ≤ x) (h : x < 4294967296) : W 32 x := by
  unfold W
  have : (2 : Nat) ^ 32 = 4294967296 := by decide
  omega
theorem cd_small {i j : Int} (h0 : 0 < j) (h : j < 4294967296) : CDivW i j := wide_div (b := 32) h0 (W.small (by omega) h) (by decide) (by decide)
theorem cp_small {i j : Int} (h0 : 0 ≤ j) (h : j ≤ 1000000) (hi : 0 ≤ i) (h2 : i < 4294967296) : CPow i j := ⟨h0, h, (W.small hi h2).mono (by decide)⟩
section
variable {K : PySem.W.Frag} {σ : L2.St} {H H' : Hp} {ta tb te tx : TE} {t u : TT} {x y z v : V} {r : R2} {D : Ends} {tu tw tz : TS} {g : TG}
theorem el_if {b : Bool} {xs : List V} (h : EvT t σ H b) (h1 : b = true → EvL ta σ H xs) (h2 : b = false → EvL tb σ H xs) : EvL (tIf t ta tb) σ H xs := fun H1 e Q q => h H1 e _ fun H2 e2 => by
  cases b with
  | true =>
    show ta σ H2 Q
    exact h1 rfl H2 (e.trans e2) Q fun p H3 hp e3 h3 => q p H3 (fresh_back e2 hp) (e2.trans e3) h3
  | false =>
    show tb σ H2 Q
    exact h2 rfl H2 (e.trans e2) Q fun p H3 hp e3 h3 => q p H3 (fresh_back e2 hp) (e2.trans e3) h3
theorem s_retIf {b : Bool} (h : EvT t σ H b) (h1 : b = true → ∀ H1, Ex H H1 → tRet ta D σ H1) (h2 : b = false → ∀ H1, Ex H H1 → tRet tb D σ H1) : tRet (tIf t ta tb) D σ H := h H (Ex.refl H) _ fun H1 e => by
  cases b with
  | true =>
    show ta σ H1 D.rt
    exact h1 rfl H1 e
  | false =>
    show tb σ H1 D.rt
    exact h2 rfl H1 e
/-- the first operand a new tuple -/
theorem ev_opU1 {xs : List V} (ha : EvU ta σ H xs) (hb : Ev tb σ H y) (hr : ∀ p H1, H1 p = some (.tup xs) → Ex H H1 → RV r (.ref p) y H1 z) : Ev (tOp r ta tb) σ H z := fun H1 e Q q =>
  ha H1 e _ fun p H2 _ e2 hp => hb H2 (e.trans e2) _ fun H3 e3 => hr p H3 (e3 p _ hp) ((e.trans e2).trans e3) H3 (Ex.refl H3) Q fun H4 e4 => q H4 ((e2.trans e3).trans e4)
theorem dpall_ints : ∀ ns : List Int, DpAll K H (ns.map V.int) (ns.map PyData.int)
  | [] => .nil
  | n :: r => .cons (.int n) (dpall_ints r)
theorem dp_ints {a : Addr} {ns : List Int} (h : SqL K H a (ns.map V.int)) : ∀ H1, Ex H H1 → Dp K H1 (.ref a) (.list (ns.map PyData.int)) := fun _ e => .lst (ex_l e h) (dpall_ints ns)
theorem eqv_nil : ∀ ns : List Int, PyData.eqv (.list (ns.map PyData.int)) (.list (([] : List Int).map PyData.int)) = decide (ns = [])
  | [] => by simp only [PyData.eqv, List.map_nil, PyData.eqvAll, decide_true]
  | n :: r => by simp [PyData.eqv, PyData.eqvAll]
/-- xs != [] -/
theorem et_nonempty {a : Addr} {ns : List Int} (ha : Ev ta σ H (.ref a)) (h : SqL K H a (ns.map V.int)) : EvT (tTest (tOp (rNeD K) ta (tLst tNil))) σ H (!decide (ns = [])) := by
  have e := eqv_nil ns
  refine et_test (ev_is (ev_opL ha (el_lst ea_nil (by show 0 ≤ 100000; decide)) fun p H1 hp e => rv_neD (dp_ints (ex_l e h)) (dp_ints (ns := []) (sq_of hp)) (PySem.W.ke_shaped_ints ns) (PySem.W.ke_shaped_ints [])) ?_)
  rw [e]
theorem cut63 {xs : List V} (h : xs.length ≤ 63) : cutV xs none (some 63) = xs := by
  unfold cutV
  rw [HT.sIx_none, show ((63 : Int)) = ((63 : Nat) : Int) from rfl, HT.sIx_nat, List.drop_zero]
  exact List.take_of_length_le (by omega)
/-- script[:63] if script != [] else [d] -/
def cellsF (d : Int) (ns : List Int) : List Int := if ns = [] then [d] else ns
theorem cells_len {d : Int} {ns : List Int} (h : ns.length ≤ 63) : 0 < (cellsF d ns).length ∧ (cellsF d ns).length ≤ 63 := by
  unfold cellsF
  split
  · exact ⟨by show 0 < 1; decide, by show 1 ≤ 63; decide⟩
  · exact ⟨List.length_pos_iff.mpr (by assumption), h⟩
theorem cells_W {d : Int} {ns : List Int} (hd : W 1048576 d) (h : ∀ n ∈ ns, W 1048576 n) : ∀ n ∈ cellsF d ns, W 1048576 n := by
  unfold cellsF
  split
  · intro n hn
    rw [List.mem_singleton.mp hn]
    exact hd
  · exact h
theorem el_cells {a : Addr} {ns : List Int} {d : Int} (ha : Ev ta σ H (.ref a)) (hb : Ev tb σ H (.ref a)) (h : SqL K H a (ns.map V.int)) (hl : ns.length ≤ 63) :
    EvL (tIf (tTest (tOp (rNeD K) ta (tLst tNil))) (tSl (rSlL K) tb tNoPart (tPart (tC (.int 63)))) (tLst (tCons (tC (.int d)) tNil))) σ H ((cellsF d ns).map V.int) := by
  refine el_if (et_nonempty ha h) (fun z => ?_) (fun z => ?_)
  · have z1 : ¬ ns = [] := by simpa using z
    have e := el_sl (K := K) (th := tPart (tC (.int 63))) hb eo_none (eo_some (i := 63) ev_c) h
    rw [cut63 (by rw [List.length_map]; exact hl)] at e
    unfold cellsF
    rw [if_neg z1]
    exact e
  · have z1 : ns = [] := by simpa using z
    unfold cellsF
    rw [if_pos z1]
    exact el_lst (ea_cons ev_c ea_nil) (by show 1 ≤ 100000; decide)
theorem at_cells {cs : List Int} {i : Int} (h0 : 0 ≤ i) (h : i < cs.length) : ∃ c ∈ cs, atI (cs.map V.int) i = some (.int c) := by
  have hj : i.toNat < cs.length := by omega
  refine ⟨cs[i.toNat], List.getElem_mem hj, at_of (j := i.toNat) (by omega) ?_⟩
  rw [List.getElem?_map, List.getElem?_eq_getElem hj]
  rfl
end
theorem W.s128 {x : Int} (h0 : 0 ≤ x) (h : x ≤ 100000000000000000000000000000000000000) : W 128 x := by
  unfold W
  have : (2 : Nat) ^ 128 = 340282366920938463463374607431768211456 := by decide
  omega
theorem Big.s200 {x : Int} (h0 : 0 < x) (h : x ≤ 1000000000000000000000000000000000000000 * 1099511627776) : Big x := by
  refine ⟨h0, Nat.lt_of_lt_of_le (m := 2 ^ 200) ?_ (Nat.pow_le_pow_right (by decide) (by decide))⟩
  have : (2 : Nat) ^ 200 = 1606938044258990275541962092341162602522202993782792835301376 := by decide
  omega
section
variable {K : PySem.W.Frag} {σ : L2.St} {H H' : Hp} {ta tb te tx tl : TE} {t u : TT} {x y z v : V} {r : R2} {D : Ends} {tu tw tz : TS} {g : TG}
theorem et_yes : EvT tYes σ H true := fun H1 _ _ q => q H1 (Ex.refl H1)
/-- [e for x in a tuple], no test -/
theorem el_compT {a : Addr} {xs : List V} {j : Nat} {vs : List Nat} (f : Nat → V) (h : Ev tl σ H (.ref a)) (hx : SqT K H a xs) (hz : xs.length ≤ 40000)
    (hw : ∀ x, wipe ((wipe σ vs).set j (some x)) vs = wipe σ vs) (he : ∀ (i : Nat) (x : V) H1, Ex H H1 → xs[i]? = some x → Ev te ((wipe σ vs).set j (some x)) H1 (f i)) :
    EvL (tLc (iTup K tl) (gName j) tYes te vs) σ H (given xs.length (fun _ => true) f) := by
  intro H0 e Q q
  refine h H0 e _ fun H1 e1 => ⟨a, rfl, ⟨xs, ex_t (e.trans e1) hx⟩, fun Dl hD => ?_⟩
  refine lc_it (walk_tup (xs := xs)) (Cw H1 (fun _ => true) f Dl) ⟨hD, Ex.new hD, upd_same⟩ (fun i H' _ p => ex_t ((e.trans e1).trans p.2.1) hx) (fun i x H' H'' hi p hy => ?_) fun H' p => q Dl H' (fresh_back e1 p.1) (e1.trans p.2.1) p.2.2
  obtain ⟨rfl, hi'⟩ := hy
  exact ⟨hw x, cw_turn p (by omega) et_yes fun _ => he i x H1 (e.trans e1) hi'⟩
/-- [e for x in range(lo, hi)], no test -/
theorem el_compR {ta : TA} {lo n : Int} {j : Nat} {vs : List Nat} (f : Nat → V) (h : EvA ta σ H [.int lo, .int n]) (hz : -100000 ≤ lo ∧ lo ≤ 40000 ∧ -100000 ≤ n ∧ n ≤ 40000 ∧ (n - lo).toNat ≤ 40000)
    (hw : ∀ x, wipe ((wipe σ vs).set j (some x)) vs = wipe σ vs) (he : ∀ (i : Nat) H1, Ex H H1 → lo + (i : Int) < n → Ev te ((wipe σ vs).set j (some (.int (lo + (i : Int))))) H1 (f i)) :
    EvL (tLc (iRng2 ta) (gName j) tYes te vs) σ H (given (n - lo).toNat (fun _ => true) f) := by
  intro H0 e Q q
  refine h H0 e _ fun H1 e1 => ⟨lo, n, rfl, ⟨by omega, by omega, by omega, by omega⟩, fun Dl hD => ?_⟩
  refine lc_it (walk_range (lo := lo) (n := (n - lo).toNat)) (Cw H1 (fun _ => true) f Dl) ⟨hD, Ex.new hD, upd_same⟩ (fun _ _ _ _ => trivial) (fun i x H' H'' hi p hy => ?_) fun H' p => q Dl H' (fresh_back e1 p.1) (e1.trans p.2.1) p.2.2
  obtain ⟨rfl, rfl⟩ := hy
  exact ⟨hw _, cw_turn p (by omega) et_yes fun _ => he i H1 (e.trans e1) (by omega)⟩
/-- all(a new list of truths) -/
theorem ev_allL {bs : List Bool} (h : EvL te σ H (bs.map V.bl)) : Ev (tCB (rAll K) (tCons te tNil)) σ H (.bl (bs.all id)) := fun H1 e Q q =>
  h H1 e _ fun p H2 _ e2 hp => ⟨p, bs, rfl, sq_of hp, q H2 e2⟩
end
theorem mx_eq (a b : Int) : (if a < b then b else a) = mxF a b := by unfold mxF; split <;> split <;> omega
theorem mn_eq (a b : Int) : (if b < a then b else a) = mnF a b := by unfold mnF; split <;> split <;> omega
theorem t_big {a b t : Int} (ha : Big a) (hb : Big b) (ht : 1 ≤ t) (hm : t ≤ mostF a b) : t.natAbs < 2 ^ 4000 := by
  have hlt := most_lt ha.pos hb.pos hm
  have hl0 := mn_pos ha.pos hb.pos
  refine (big_mx ha hb).nle (by omega) ?_
  have := Int.mul_le_mul_of_nonneg_left (show 1 ≤ mnF a b by omega) (show 0 ≤ t by omega)
  omega
theorem big_most {a b : Int} (ha : Big a) (hb : Big b) (h : 0 < mostF a b) : Big (mostF a b) := ⟨h, t_big ha hb (by omega) (Int.le_refl _)⟩
theorem big_beh {a b t : Int} (ha : Big a) (hb : Big b) (ht : 1 ≤ t) (hm : t ≤ mostF a b) : Big (behA a b t) ∧ Big (behB a b t) := by
  have h1 := behA_pos ha.pos hb.pos hm
  have h2 := behB_pos ha.pos hb.pos hm
  have h3 : 0 ≤ t * b := Int.mul_nonneg (by omega) (Int.le_of_lt hb.pos)
  have h4 : 0 ≤ t * a := Int.mul_nonneg (by omega) (Int.le_of_lt ha.pos)
  refine ⟨ha.le h1 ?_, hb.le h2 ?_⟩
  · unfold behA; split <;> omega
  · unfold behB; split <;> omega
section
variable {K : PySem.W.Frag} {σ : L2.St} {H H' : Hp} {ta tb te tx tl : TE} {t u : TT} {x y z v : V} {r : R2} {D : Ends} {tu tw tz : TS} {g : TG}
/-- over a new list, the target a name -/
theorem s_forN {xs : List V} {j : Nat} (h : EvL tl σ H xs) (Pv : Addr → Nat → L2.St → Hp → Prop) (h0 : ∀ p H1, H p = none → Ex H H1 → H1 p = some (.lst xs) → Pv p 0 σ H1) (hl : ∀ p i σ' H', i ≤ xs.length → Pv p i σ' H' → SqL K H' p xs)
    (hs : ∀ p i x σ' H', xs[i]? = some x → Pv p i σ' H' → tu { D with nx := Pv p (i + 1), ct := Pv p (i + 1), bk := D.nx } (σ'.set j (some x)) H') (hd : ∀ p σ' H', Pv p xs.length σ' H' → D.nx σ' H') : tFor (iList K tl) (gName j) tu D σ H :=
  s_forNL h Pv h0 hl hs hd
/-- t != u, both pairs, alike -/
theorem rv_nePair {p q : Addr} {a b : Int} (hp : SqT K H p [.int a, .int b]) (hq : SqT K H q [.int a, .int b]) : RV (rNeD K) (.ref p) (.ref q) H (.bl false) := by
  have e := rv_neD (dp_pair hp) (dp_pair hq) (sh_pair a b) (sh_pair a b)
  rw [eqv_pair] at e
  simpa using e
end
section
variable {K : PySem.W.Frag} {σ : L2.St} {H H' : Hp} {ta tb td ty te tv tx tl : TE} {t u : TT} {x y z v : V} {r : R2} {D : Ends} {tu tw tz : TS} {g : TG}
theorem rc_max2 {i j : Int} : RC (fun xs H Q => ∃ i j, xs = [V.int i, V.int j] ∧ Q (.int (if j > i then j else i)) H) [.int i, .int j] H (.int (if i < j then j else i)) := fun H1 _ _ q => ⟨i, j, rfl, q H1 (Ex.refl H1)⟩
theorem rc_min2 {i j : Int} : RC (fun xs H Q => ∃ i j, xs = [V.int i, V.int j] ∧ Q (.int (if j < i then j else i)) H) [.int i, .int j] H (.int (if j < i then j else i)) := fun H1 _ _ q => ⟨i, j, rfl, q H1 (Ex.refl H1)⟩
/-- d[a new tuple] -/
theorem ev_dgetU {d : Addr} {kvs : List (List Key × V)} {k : List Key} (hd : Ev td σ H (.ref d)) (hy : EvU ty σ H (k.map kV)) (hD : H d = some (.dT kvs)) (hv : valV kvs k = some v) : Ev (tDGet td ty) σ H v := by
  intro H1 e Q q
  refine hd H1 e _ fun H2 e2 => hy H2 (e.trans e2) _ fun p H3 _ e3 hp => ⟨d, v, rfl, ?_, q H3 (e2.trans e3)⟩
  rw [← hv]
  exact DGet.t (e3 d _ (e2 d _ (e d _ hD))) hp
/-- d[t] = v, t a tuple that stands -/
theorem s_dput {d b : Addr} {kvs : List (List Key × V)} {k : List Key} (hv : Ev tv σ H v) (hd : Ev td σ H (.ref d)) (hy : Ev ty σ H (.ref b)) (hD : H d = some (.dT kvs)) (hb : H b = some (.tup (k.map kV))) (hl : kvs.length < 100000)
    (n : ∀ H1, Ex H H1 → D.nx σ (upd H1 d (.dT (putK kvs k v)))) : sDPut td ty tv D σ H := by
  refine hv H (Ex.refl H) _ fun H1 e1 => hd H1 e1 _ fun H2 e2 => hy H2 (e1.trans e2) _ fun H3 e3 => ?_
  have e := (e1.trans e2).trans e3
  exact ⟨d, _, rfl, DPut.t (e d _ hD) (e b _ hb) (sz_lt hl), n H3 e⟩
end
section
variable {K : PySem.W.Frag} {σ : L2.St} {H H' : Hp} {ta tb td ty te tv tx tl : TE} {t u : TT} {x y z v : V} {r : R2} {D : Ends} {tu tw tz : TS} {g : TG}
theorem ev_sumL {ns : List Int} (h : EvL te σ H (ns.map V.int)) : Ev (tCB (rSum K) (tCons te tNil)) σ H (.int ns.sum) := fun H1 e Q q =>
  h H1 e _ fun p H2 _ e2 hp => ⟨p, ns, rfl, sq_of hp, q H2 e2⟩
/-- the first of two arguments a new tuple, a tuple handed back -/
theorem eu_callU2 {sp : Sp} {xs zs : List V} {E : XK} (h : EvU ta σ H xs) (hb : Ev tb σ H y) (hs : ∀ p H1, H1 p = some (.tup xs) → Ex H H1 → SpU sp [.ref p, y] H1 zs) : EvU (tCall sp [] E (tCons ta (tCons tb tNil))) σ H zs := fun H1 e Q q =>
  h H1 e _ fun p H2 _ e2 hp => hb H2 (e.trans e2) _ fun H3 e3 => hs p H3 (e3 p _ hp) ((e.trans e2).trans e3) H3 (Ex.refl H3) Q (fun p' H4 hp' e4 h4 => q p' H4 (fresh_back (e2.trans e3) hp') ((e2.trans e3).trans e4) h4) E
/-- some value of which P holds in the heap then -/
def EvS (te : TE) (σ : L2.St) (H : Hp) (P : V → Hp → Prop) : Prop := ∀ H1, Ex H H1 → ∀ Q : VK, (∀ v H2, Ex H1 H2 → P v H2 → Q v H2) → te σ H1 Q
def SpS (sp : Sp) (vs : List V) (H : Hp) (P : V → Hp → Prop) : Prop := ∀ H1, Ex H H1 → ∀ Q : VK, (∀ v H2, Ex H1 H2 → P v H2 → Q v H2) → ∀ E : XK, sp vs H1 Q E
theorem es_call {sp : Sp} {vs : List V} {E : XK} {ta : TA} {P : V → Hp → Prop} (h : EvA ta σ H vs) (hs : SpS sp (vs ++ []) H P) : EvS (tCall sp [] E ta) σ H P := fun H1 e Q q =>
  h H1 e _ fun H2 e2 => hs H2 (e.trans e2) Q (fun v H3 e3 p => q v H3 (e2.trans e3) p) E
theorem ev_callS2 {sp : Sp} {E : XK} {P : V → Hp → Prop} (h : EvS ta σ H P) (hb : Ev tb σ H y) (hs : ∀ v H1 H2, Ex H H1 → P v H1 → Ex H1 H2 → SpV sp [v, y] H2 z) : Ev (tCall sp [] E (tCons ta (tCons tb tNil))) σ H z := fun H1 e Q q =>
  h H1 e _ fun v H2 e2 p => hb H2 (e.trans e2) _ fun H3 e3 => hs v H2 H3 (e.trans e2) p e3 H3 (Ex.refl H3) Q (fun H4 e4 => q H4 ((e2.trans e3).trans e4)) E
theorem ev_callS1 {sp : Sp} {E : XK} {P : V → Hp → Prop} (h : EvS ta σ H P) (hs : ∀ v H1, Ex H H1 → P v H1 → SpV sp [v] H1 z) : Ev (tCall sp [] E (tCons ta tNil)) σ H z := fun H1 e Q q =>
  h H1 e _ fun v H2 e2 p => hs v H2 (e.trans e2) p H2 (Ex.refl H2) Q (fun H4 e4 => q H4 (e2.trans e4)) E
theorem q_asgS {i : Nat} {P : V → Hp → Prop} (h : EvS te σ H P) (k : ∀ v H1, Ex H H1 → P v H1 → tz D (σ.set i (some v)) H1) : tSeq (tAsg te (gName i)) tz D σ H := h H (Ex.refl H) _ fun v H1 e p => k v H1 e p
/-- d[t] of a dict that a walk has locked, t a tuple that stands -/
theorem ev_dgetF {d b : Addr} {o : Obj} {kvs : List (List Key × V)} {k : List Key} (hd : Ev td σ H (.ref d)) (hy : Ev ty σ H (.ref b)) (hD : H d = some (.frz o (.dT kvs))) (hb : H b = some (.tup (k.map kV))) (hv : valV kvs k = some v) : Ev (tDGet td ty) σ H v := by
  intro H1 e Q q
  refine hd H1 e _ fun H2 e2 => hy H2 (e.trans e2) _ fun H3 e3 => ⟨d, v, rfl, ?_, q H3 (e2.trans e3)⟩
  have x := (e.trans e2).trans e3
  exact .inr ⟨kvs, k, b, .inr ⟨o, x d _ hD⟩, rfl, x b _ hb, hv.symm⟩
/-- [e for k in d], d a dict of tuple keys, locked meanwhile -/
theorem el_compK {d : Addr} {kvs : List (List Key × V)} {j : Nat} {vs : List Nat} (f : Nat → V) (hD : H d = some (.dT kvs)) (hz : kvs.length ≤ 40000) (hd : ∀ HL, Ev td σ HL (.ref d)) (hw : ∀ x, wipe ((wipe σ vs).set j (some x)) vs = wipe σ vs)
    (he : ∀ (i : Nat) (k : List Key) (y : V) (b : Addr) (HL : Hp) (od : Obj), HL d = some (.frz od (.dT kvs)) → kvs[i]? = some (k, y) → HL b = some (.tup (k.map kV)) → Ev te ((wipe σ vs).set j (some (.ref b))) HL (f i)) :
    EvL (tLockE (tLc (iKeys td) (gName j) tYes te vs)) σ H (given kvs.length (fun _ => true) f) := by
  intro H1 e Q q
  refine ⟨d, .dT kvs, e d _ hD, trivial, fun od => ?_⟩
  refine hd _ _ (Ex.refl _) _ fun H2 e2 => ⟨d, od, rfl, .inr ⟨kvs, e2 d _ upd_same, fun Dl hDl => ?_⟩⟩
  refine lc_it walk_keysT (Cw H2 (fun _ => true) f Dl) ⟨hDl, Ex.new hDl, upd_same⟩ (fun i H' _ p => p.2.1 d _ (e2 d _ upd_same)) (fun i x H' H'' hi p hy => ?_) fun H' p => ?_
  · obtain ⟨rfl, k, y, b, hk, rfl, hb⟩ := hy
    obtain ⟨p1, p2, p3⟩ := p
    refine ⟨hw _, ?_⟩
    refine he i k y b H'' od (p2 d _ (e2 d _ upd_same)) hk hb H'' (Ex.refl _) _ fun H4 e4 => ⟨given i (fun _ => true) f, e4 Dl _ p3, sz_lt (by have := given_len i (fun _ => true) f; omega), p1, Ex.mut (p2.trans e4) p1, ?_⟩
    rw [given_yes rfl]
    exact upd_same
  · obtain ⟨p1, p2, p3⟩ := p
    have hfr := p2 d _ (e2 d _ upd_same)
    have n1 : Dl ≠ d := fun z => by
      rw [z] at p1
      rw [e2 d _ upd_same] at p1
      cases p1
    refine ⟨hfr, q Dl _ ?_ (fun b o hb => ?_) ?_⟩
    · have z := fresh_back e2 p1
      rw [upd_ne n1] at z
      exact z
    · by_cases c : b = d
      · subst c
        rw [e b _ hD] at hb
        cases hb
        exact upd_same
      · rw [upd_ne c]
        refine p2 b _ (e2 b _ ?_)
        rw [upd_ne c]
        exact hb
    · rw [upd_ne n1]
      exact p3
end
theorem beh_small {a b t : Int} (ha : 0 < a) (hb : 0 < b) (ht : 1 ≤ t) (hm : t ≤ mostF a b) : 0 < behA a b t ∧ behA a b t ≤ a ∧ 0 < behB a b t ∧ behB a b t ≤ b ∧ behA a b t + behB a b t < a + b := by
  have h1 := behA_pos ha hb hm
  have h2 := behB_pos ha hb hm
  have h3 : 0 < t * b := Int.mul_pos (by omega) hb
  have h4 : 0 < t * a := Int.mul_pos (by omega) ha
  refine ⟨h1, ?_, h2, ?_, ?_⟩
  · unfold behA; split <;> omega
  · unfold behB; split <;> omega
  · unfold behA behB; split <;> omega
theorem Big.small {x : Int} (h0 : 0 < x) (h : x ≤ 1000) : Big x := Big.s200 h0 (by omega)
theorem most_le {a b : Int} (ha : 0 < a) (hb : 0 < b) : mostF a b ≤ a + b := by
  have h1 := mn_pos ha hb
  have h2 : mxF a b ≤ a + b := by unfold mxF; split <;> omega
  unfold mostF
  have h3 := Int.ediv_le_self (mnF a b) (show 0 ≤ mxF a b - 1 by unfold mxF; split <;> omega)
  omega
/-- above 0, below 2 ^ 200 -/
structure Med (x : Int) : Prop where
  big : Big x
  w : W 200 x
theorem Med.s200 {x : Int} (h0 : 0 < x) (h : x ≤ 1000000000000000000000000000000000000000 * 1099511627776) : Med x := by
  refine ⟨Big.s200 h0 h, ?_⟩
  unfold W
  have : (2 : Nat) ^ 200 = 1606938044258990275541962092341162602522202993782792835301376 := by decide
  omega
theorem given_true (n : Nat) : given n (fun _ => true) (fun _ => V.bl true) = (List.replicate n true).map V.bl := by
  unfold given
  rw [List.filter_eq_self.mpr (fun _ _ => rfl)]
  induction n with
  | zero => rfl
  | succ n ih => rw [List.range_succ, List.map_append, ih, List.replicate_succ', List.map_append]; rfl
theorem all_true (n : Nat) : (List.replicate n true).all id = true := by simp
end Mt

set_option Elab.async false
set_option linter.all false
set_option maxRecDepth 100000
set_option maxHeartbeats 4000000
set_option exponentiation.threshold 300
namespace Mt
open PySem PySem.Spec PyProof.Rows L2 Evl KM KR
/-! ### a row and what goes into both: a new tuple of a new list and a number -/
def RetQ (rw : List Int) (c : Int) (H : Hp) (Q : VK) : Prop := ∀ p r H2, H p = none → H r = none → Ex H H2 → H2 r = some (.lst (rw.map V.int)) → H2 p = some (.tup [.ref r, .int c]) → Q (.ref p) H2
theorem RetQ.go {rw : List Int} {c : Int} {H H' H2 : Hp} {Q : VK} {p r : Addr} (k : RetQ rw c H Q) (e : Ex H H') (hp : H' p = none) (hr : H' r = none) (e2 : Ex H' H2) (h1 : H2 r = some (.lst (rw.map V.int))) (h2 : H2 p = some (.tup [.ref r, .int c])) : Q (.ref p) H2 :=
  k p r H2 (fresh_back e hp) (fresh_back e hr) (e.trans e2) h1 h2
def EvQ (te : TE) (σ : L2.St) (H : Hp) (rw : List Int) (c : Int) : Prop := ∀ H1, Ex H H1 → ∀ Q : VK, RetQ rw c H1 Q → te σ H1 Q
def SpQ (sp : Sp) (vs : List V) (H : Hp) (rw : List Int) (c : Int) : Prop := ∀ H1, Ex H H1 → ∀ Q : VK, RetQ rw c H1 Q → ∀ E : XK, sp vs H1 Q E
/-- somewhere such a tuple -/
def EvR (K : PySem.W.Frag) (te : TE) (σ : L2.St) (H : Hp) (rw : List Int) (c : Int) : Prop := ∀ H1, Ex H H1 → ∀ Q : VK, (∀ p r H2, Ex H1 H2 → SqL K H2 r (rw.map V.int) → SqT K H2 p [.ref r, .int c] → Q (.ref p) H2) → te σ H1 Q
section
variable {K : PySem.W.Frag} {σ : L2.St} {H H' : Hp} {ta tb te tx tl : TE} {t u : TT} {x y z v : V} {r : R2} {D : Ends} {tu tw tz : TS} {g : TG} {rw rw' : List Int} {c c' : Int}
theorem eq_call {sp : Sp} {vs : List V} {E : XK} {ta : TA} (h : EvA ta σ H vs) (hs : SpQ sp (vs ++ []) H rw c) : EvQ (tCall sp [] E ta) σ H rw c := fun H1 e Q q =>
  h H1 e _ fun H2 e2 => hs H2 (e.trans e2) Q (fun p r H3 hp hr e3 h1 h2 => RetQ.go q e2 hp hr e3 h1 h2) E
theorem eq_callU {sp : Sp} {xs : List V} {E : XK} (h : EvU ta σ H xs) (hs : ∀ p H1, H1 p = some (.tup xs) → Ex H H1 → SpQ sp [.ref p] H1 rw c) : EvQ (tCall sp [] E (tCons ta tNil)) σ H rw c := fun H1 e Q q =>
  h H1 e _ fun p H2 _ e2 hp => hs p H2 hp (e.trans e2) H2 (Ex.refl H2) Q (fun p' r' H3 hp' hr' e3 h1 h2 => RetQ.go q e2 hp' hr' e3 h1 h2) E
theorem EvQ.toR (h : EvQ te σ H rw c) : EvR K te σ H rw c := fun H1 e Q q => h H1 e Q fun p r H2 _ _ e2 h1 h2 => q p r H2 e2 (sq_of h1) (st_of h2)
/-- (a list that stands, a number) -/
theorem er_tup {l : Addr} (ha : Ev ta σ H (.ref l)) (hb : Ev tb σ H (.int c)) (hl : SqL K H l (rw.map V.int)) : EvR K (tTup (tCons ta (tCons tb tNil))) σ H rw c := fun H1 e Q q =>
  ha H1 e _ fun H2 e2 => hb H2 (e.trans e2) _ fun H3 e3 => ⟨by show 2 ≤ sizeLine; decide, fun p hp => q p l _ ((e2.trans e3).trans (Ex.new hp)) (ex_l (((e.trans e2).trans e3).trans (Ex.new hp)) hl) (st_of upd_same)⟩
/-- (a new list, a number) -/
theorem er_tupL (ha : EvL ta σ H (rw.map V.int)) (hb : Ev tb σ H (.int c)) : EvR K (tTup (tCons ta (tCons tb tNil))) σ H rw c := fun H1 e Q q =>
  ha H1 e _ fun l H2 _ e2 hl => hb H2 (e.trans e2) _ fun H3 e3 => ⟨by show 2 ≤ sizeLine; decide, fun p hp => q p l _ ((e2.trans e3).trans (Ex.new hp)) (ex_l (Ex.new hp) (sq_of (e3 l _ hl))) (st_of upd_same)⟩
theorem er_var {p l : Addr} (h : Ev te σ H (.ref p)) (hl : SqL K H l (rw.map V.int)) (hp : SqT K H p [.ref l, .int c]) : EvR K te σ H rw c := fun H1 e Q q =>
  h H1 e _ fun H2 e2 => q p l H2 e2 (ex_l (e.trans e2) hl) (ex_t (e.trans e2) hp)
theorem dp_row {p l : Addr} (hl : SqL K H l (rw.map V.int)) (hp : SqT K H p [.ref l, .int c]) : Dp K H (.ref p) (.tuple [.list (rw.map PyData.int), .int c]) :=
  .tup hp (.cons (.lst hl (dpall_ints rw)) (.cons (.int c) .nil))
theorem depth_ints (rw : List Int) : PyData.depthAll (rw.map PyData.int) ≤ 0 := PySem.W.depthAll_map (α := Int) rw
theorem sh_row (rw : List Int) (c : Int) : SeqAt.shaped (.tuple [.list (rw.map PyData.int), .int c]) = true := by
  have h1 := SeqAt.canLay_of_shaped (PySem.W.ke_shaped_ints rw)
  have h2 := depth_ints rw
  unfold SeqAt.shaped
  rw [Bool.and_eq_true]
  refine ⟨?_, decide_eq_true ?_⟩
  · simp only [PyData.canLay0, PyData.canLayAll0, Bool.and_true]
    simpa only [PyData.canLay0] using h1
  · simp only [PyData.depth, PyData.depthAll]
    omega
theorem eqv_ints (a b : List Int) : PyData.eqv (.list (a.map PyData.int)) (.list (b.map PyData.int)) = decide (a = b) := by
  simp only [PyData.eqv]
  exact PySem.W.eqvAll_map (α := Int) a b
theorem eqv_row (a b : List Int) (c d : Int) : PyData.eqv (.tuple [.list (a.map PyData.int), .int c]) (.tuple [.list (b.map PyData.int), .int d]) = (decide (a = b) && decide (c = d)) := by
  have h := eqv_ints a b
  simp only [PyData.eqv] at h
  simp only [PyData.eqv, PyData.eqvAll, Bool.and_true, h]
  rfl
theorem ev_eqR (ha : EvR K ta σ H rw c) (hb : EvR K tb σ H rw' c') : Ev (tOp (rEqD K) ta tb) σ H (.bl (decide (rw = rw') && decide (c = c'))) := fun H1 e Q q =>
  ha H1 e _ fun p r H2 e2 h1 h2 => hb H2 (e.trans e2) _ fun p' r' H3 e3 h3 h4 =>
    ⟨_, _, dp_row (ex_l e3 h1) (ex_t e3 h2), dp_row h3 h4, sh_row _ _, sh_row _ _, by rw [eqv_row]; exact q H3 (e2.trans e3)⟩
theorem ev_neR (ha : EvR K ta σ H rw c) (hb : EvR K tb σ H rw' c') : Ev (tOp (rNeD K) ta tb) σ H (.bl (!(decide (rw = rw') && decide (c = c')))) := fun H1 e Q q =>
  ha H1 e _ fun p r H2 e2 h1 h2 => hb H2 (e.trans e2) _ fun p' r' H3 e3 h3 h4 =>
    ⟨_, _, dp_row (ex_l e3 h1) (ex_t e3 h2), dp_row h3 h4, sh_row _ _, sh_row _ _, by rw [eqv_row]; exact q H3 (e2.trans e3)⟩
/-- a, b = such a tuple, made -/
theorem q_unQ {i j : Nat} (h : EvQ te σ H rw c) (k : ∀ l H1, H l = none → Ex H H1 → H1 l = some (.lst (rw.map V.int)) → tz D ((σ.set i (some (.ref l))).set j (some (.int c))) H1) :
    tSeq (tAsg te (gTup K 2 (gCons (gName i) (gCons (gName j) gNil)))) tz D σ H :=
  h H (Ex.refl H) _ fun p l H1 _ hl e h1 h2 => ⟨p, [.ref l, .int c], rfl, st_of h2, rfl, .ref l, [.int c], rfl, .int c, [], rfl, rfl, k l H1 hl e h1⟩
theorem q_asgQ {i : Nat} (h : EvQ te σ H rw c) (k : ∀ p l H1, H p = none → H l = none → Ex H H1 → H1 l = some (.lst (rw.map V.int)) → H1 p = some (.tup [.ref l, .int c]) → tz D (σ.set i (some (.ref p))) H1) : tSeq (tAsg te (gName i)) tz D σ H :=
  h H (Ex.refl H) _ fun p l H1 hp hl e h1 h2 => k p l H1 hp hl e h1 h2
/-- lists of numbers compared -/
theorem rv_neInts {p q : Addr} {a b : List Int} (hp : SqL K H p (a.map V.int)) (hq : SqL K H q (b.map V.int)) : RV (rNeD K) (.ref p) (.ref q) H (.bl (!decide (a = b))) := by
  have e := rv_neD (dp_ints hp) (dp_ints hq) (PySem.W.ke_shaped_ints a) (PySem.W.ke_shaped_ints b)
  rw [eqv_ints] at e
  exact e
theorem rv_eqInts {p q : Addr} {a b : List Int} (hp : SqL K H p (a.map V.int)) (hq : SqL K H q (b.map V.int)) : RV (rEqD K) (.ref p) (.ref q) H (.bl (decide (a = b))) := by
  have e := rv_eqD (dp_ints hp) (dp_ints hq) (PySem.W.ke_shaped_ints a) (PySem.W.ke_shaped_ints b)
  rw [eqv_ints] at e
  exact e
/-- xs + ys -/
theorem el_cat {xs ys : List V} (ha : EvL ta σ H xs) (hb : EvL tb σ H ys) (hz : xs.length + ys.length ≤ 100000) : EvL (tOp rCat ta tb) σ H (xs ++ ys) := fun H1 e Q q =>
  ha H1 e _ fun a H2 _ e2 h2 => hb H2 (e.trans e2) _ fun b H3 _ e3 h3 => ⟨a, b, xs, ys, rfl, rfl, e3 a _ h2, h3, sz_of hz, fun p hp => q p _ (fresh_back (e2.trans e3) hp) ((e2.trans e3).trans (Ex.new hp)) upd_same⟩
theorem el_catV {xs ys : List V} {a : Addr} (ha : Ev ta σ H (.ref a)) (h : H a = some (.lst xs)) (hb : EvL tb σ H ys) (hz : xs.length + ys.length ≤ 100000) : EvL (tOp rCat ta tb) σ H (xs ++ ys) := fun H1 e Q q =>
  ha H1 e _ fun H2 e2 => hb H2 (e.trans e2) _ fun b H3 _ e3 h3 => ⟨a, b, xs, ys, rfl, rfl, e3 a _ (e2 a _ (e a _ h)), h3, sz_of hz, fun p hp => q p _ (fresh_back (e2.trans e3) hp) ((e2.trans e3).trans (Ex.new hp)) upd_same⟩
theorem el_rep {xs : List V} {k : Int} (ha : EvL ta σ H xs) (hb : Ev tb σ H (.int k)) (h0 : 0 ≤ k) (h1 : k ≤ 100000) (hz : xs.length * k.toNat ≤ 100000) : EvL (tOp rRep ta tb) σ H (List.replicate k.toNat xs).flatten := fun H1 e Q q =>
  ha H1 e _ fun a H2 _ e2 h2 => hb H2 (e.trans e2) _ fun H3 e3 => ⟨a, k, xs, rfl, rfl, e3 a _ h2, by omega, by omega, sz_of hz, fun p hp => q p _ (fresh_back (e2.trans e3) hp) ((e2.trans e3).trans (Ex.new hp)) upd_same⟩
theorem el_rev {a : Addr} {xs : List V} (ha : Ev ta σ H (.ref a)) (h : SqL K H a xs) : EvL (tRevL K ta) σ H xs.reverse := fun H1 e Q q =>
  ha H1 e _ fun H2 e2 => ⟨a, xs, rfl, ex_l (e.trans e2) h, fun p hp => q p _ (fresh_back e2 hp) (e2.trans (Ex.new hp)) upd_same⟩
theorem el_slL {xs : List V} {tlo thi : TO} {lo hi : Option Int} (ha : EvL ta σ H xs) (h1 : EvO tlo σ H lo) (h2 : EvO thi σ H hi) : EvL (tSl (rSlL K) ta tlo thi) σ H (cutV xs lo hi) := fun H0 e Q q =>
  ha H0 e _ fun a H2 _ e2 h => h1 H2 (e.trans e2) _ fun H3 e3 => h2 H3 ((e.trans e2).trans e3) _ fun H4 e4 =>
    ⟨a, xs, rfl, ex_l e4 (sq_of (e3 a _ h)), fun p hp => q p _ (fresh_back ((e2.trans e3).trans e4) hp) (((e2.trans e3).trans e4).trans (Ex.new hp)) upd_same⟩
/-- [e for x in a new list] -/
theorem el_compNL {xs : List V} {j : Nat} {vs : List Nat} (f : Nat → V) (h : EvL tl σ H xs) (hz : xs.length ≤ 40000) (hw : ∀ x, wipe ((wipe σ vs).set j (some x)) vs = wipe σ vs)
    (he : ∀ (i : Nat) (x : V) H1, Ex H H1 → xs[i]? = some x → Ev te ((wipe σ vs).set j (some x)) H1 (f i)) : EvL (tLc (iList K tl) (gName j) tYes te vs) σ H (given xs.length (fun _ => true) f) :=
  el_lcNL (fun _ => true) f h hz hw (fun _ _ _ _ _ => et_yes) fun i x H1 e1 hi _ => he i x H1 e1 hi
theorem rc_int_bl {b : Bool} : RC (fun xs H Q => (∃ i, xs = [V.int i] ∧ Q (.int i) H) ∨ ∃ k, xs = [V.bl k] ∧ Q (.int (if k then 1 else 0)) H) [.bl b] H (.int (if b then 1 else 0)) := fun H1 _ _ q => .inr ⟨b, rfl, q H1 (Ex.refl H1)⟩
theorem rc_isi_list {p : Addr} {xs : List V} {T : String} {b : Bool} (hp : H p = some (.lst xs)) (h : kitB "list" T = some b) : RC (rIsi K) [.ref p, .ty T] H (.bl b) := fun H1 e _ q =>
  ⟨_, _, _, _, b, rfl, .ty T, .base (.lst (e p _ hp)), kit_ty h, q H1 (Ex.refl H1)⟩
/-- xs[-1] = e -/
theorem q_setLast {l : Addr} {xs : List V} (hl : H l = some (.lst xs)) (h : Ev te σ H v) (ho : Ev ta σ H (.ref l)) (hi : Ev tb σ H (.int (-1))) (hx : xs ≠ []) (n : ∀ H1, Ex H H1 → tz D σ (upd H1 l (.lst (xs.set (xs.length - 1) v)))) :
    tSeq (tAsg te (gSub ta tb rSetL)) tz D σ H := h H (Ex.refl H) _ fun H1 e1 => ho H1 e1 _ fun H2 e2 => hi H2 (e1.trans e2) _ fun H3 e3 => by
  have h0 := List.length_pos_iff.mpr hx
  refine ⟨l, xs, -1, xs.length - 1, rfl, rfl, ((e1.trans e2).trans e3) l _ hl, ?_, n H3 ((e1.trans e2).trans e3)⟩
  unfold ixN
  rw [if_neg (by omega)]
  simp
  omega
end
/-! ### the length of a row -/
theorem row_len (k : Nat) : ∀ (h l : Int), 0 < h → 0 ≤ l → l.toNat < 2 ^ k → (rowP h l).length ≤ 2 * k := by
  induction k with
  | zero =>
    intro h l hh hl hk
    have e : l = 0 := by
      have : l.toNat < 1 := hk
      omega
    subst e
    exact Nat.le_refl _
  | succ k ih =>
    intro h l hh hl hk
    by_cases c : l = 0
    · subst c; exact Nat.zero_le _
    · have hl0 : 0 < l := by omega
      have r0 := Int.emod_nonneg h c
      have r1 := Int.emod_lt_of_pos h hl0
      rw [rowP_pos hl0, List.length_cons]
      by_cases d : h % l = 0
      · rw [d, rowP_zero]
        show 0 + 1 ≤ 2 * (k + 1)
        omega
      · have hr0 : 0 < h % l := by omega
        have s0 := Int.emod_nonneg l d
        have s1 := Int.emod_lt_of_pos l hr0
        have e := dm l (h % l)
        have q1 : 1 ≤ l / (h % l) := (Int.le_ediv_iff_mul_le hr0).mpr (by omega)
        have hm := Int.mul_le_mul_of_nonneg_left q1 (Int.le_of_lt hr0)
        rw [rowP_pos hr0, List.length_cons]
        rw [Nat.pow_succ] at hk
        have := ih (h % l) (l % (h % l)) hr0 s0 (by omega)
        omega
theorem big_row_len {a b : Int} (ha : Big a) (hb : Big b) : (rowP (mxF a b) (mnF a b)).length ≤ 8000 := by
  have h1 := big_mn ha hb
  have h2 := big_mx ha hb
  have h3 := h1.lt
  have h4 := h1.pos
  refine row_len 4000 _ _ h2.pos (Int.le_of_lt h4) ?_
  have e : (mnF a b).toNat = (mnF a b).natAbs := by omega
  rw [e]
  exact h3
end Mt

set_option Elab.async false
set_option linter.all false
set_option maxRecDepth 100000
set_option maxHeartbeats 4000000
namespace Mt
open PySem PySem.Spec PyProof.Rows L2 Evl KM KR
section
variable {K : PySem.W.Frag} {σ : L2.St} {H H' : Hp} {ta tb tc te tx tl : TE} {t u : TT} {x y z v : V} {r : R2} {D : Ends} {tu tw tz : TS} {g : TG}
/-- i <= x <= j and its kin, by numbers -/
theorem ev_chainI {p q : Int → Int → Bool} {i j k : Int} {a b : Bool} (h1 : Ev ta σ H (.int i)) (h2 : Ev tb σ H (.int j)) (h3 : Ev tc σ H (.int k)) (e1 : p i j = a) (e2 : q j k = b) :
    Ev (tChain (rI0 fun i j => .bl (p i j)) (rI0 fun i j => .bl (q i j)) ta tb tc) σ H (.bl (a && b)) := fun H1 e Q n =>
  h1 H1 e _ fun H2 x2 => h2 H2 (e.trans x2) _ fun H3 x3 => ⟨i, j, rfl, rfl, a, congrArg V.bl e1, by
    cases a with
    | true =>
      show tc σ H3 _
      refine h3 H3 ((e.trans x2).trans x3) _ fun H4 x4 => ⟨j, k, rfl, rfl, ?_⟩
      show Q (.bl (q j k)) H4
      rw [e2]
      exact n H4 ((x2.trans x3).trans x4)
    | false =>
      show Q (.bl false) H3
      exact n H3 (x2.trans x3)⟩
theorem ty_list {p : Addr} {xs : List V} (h : SqL K H p xs) : TyX K H (.ref p) (.type "list") := by
  rcases h with (h | ⟨o, h⟩) | ⟨o, its, n, h1, h2, _⟩
  · exact .base (.lst h)
  · exact .base (.frz h)
  · exact .kList h1 h2
theorem rc_isi_seqL {p : Addr} {xs : List V} {T : String} {b : Bool} (hp : SqL K H p xs) (h : kitB "list" T = some b) : RC (rIsi K) [.ref p, .ty T] H (.bl b) := fun H1 e _ q =>
  ⟨_, _, _, _, b, rfl, .ty T, ty_list (ex_l e hp), kit_ty h, q H1 (Ex.refl H1)⟩
/-- for x in reversed(xs) -/
theorem q_forRev {a : Addr} {xs : List V} {tl : TA} {j : Nat} (h : EvA tl σ H [.ref a]) (hx : SqL K H a xs) (Pv : Nat → L2.St → Hp → Prop) (h0 : ∀ H1, Ex H H1 → Pv 0 σ H1) (hl : ∀ i σ' H', i ≤ xs.length → Pv i σ' H' → SqL K H' a xs)
    (hs : ∀ (i : Nat) x σ' H', i < xs.length → xs[xs.length - 1 - i]? = some x → Pv i σ' H' → tu { D with nx := Pv (i + 1), ct := Pv (i + 1), bk := tz D } (σ'.set j (some x)) H') (hd : ∀ σ' H', Pv xs.length σ' H' → tz D σ' H') :
    tSeq (tFor (iRev K tl) (gName j) tu) tz D σ H := h H (Ex.refl H) _ fun H1 e => by
  refine ⟨a, xs, rfl, ex_l e hx, ?_⟩
  refine for_it (D := { D with nx := tz D }) walk_rev Pv (h0 H1 e) hl (fun i x σ' H' H'' hi hP hy => ?_) hd
  obtain ⟨rfl, hx'⟩ := hy
  exact hs i x σ' H'' hi hx' hP
end
theorem good_len : ∀ {r : List Int}, GoodRow r → 1 ≤ r.length
  | [], h => h.elim
  | _ :: _, _ => by rw [List.length_cons]; omega
theorem good_pos : ∀ {r : List Int}, GoodRow r → ∀ q ∈ r, 1 ≤ q
  | [], h, _, _ => h.elim
  | [q], h, x, hx => by rw [List.mem_singleton.mp hx]; exact h
  | [p, q], h, x, hx => by
    obtain ⟨hp, hq⟩ := (show 1 ≤ p ∧ 2 ≤ q from h)
    rcases List.mem_cons.mp hx with e | hx
    · rw [e]; exact hp
    · rw [List.mem_singleton.mp hx]; omega
  | p :: q :: r :: s, h, x, hx => by
    obtain ⟨hp, hg⟩ := (show 1 ≤ p ∧ GoodRow (q :: r :: s) from h)
    rcases List.mem_cons.mp hx with e | hx
    · rw [e]; exact hp
    · exact good_pos hg x hx
theorem good_last : ∀ {r : List Int}, GoodRow r → ¬ r.length = 1 → ∃ n : Int, r[r.length - 1]? = some n ∧ 2 ≤ n
  | [], h, _ => h.elim
  | [_], _, h1 => absurd rfl h1
  | [p, q], h, _ => ⟨q, rfl, (show 1 ≤ p ∧ 2 ≤ q from h).2⟩
  | p :: q :: r :: s, h, _ => by
    obtain ⟨hp, hg⟩ := (show 1 ≤ p ∧ GoodRow (q :: r :: s) from h)
    obtain ⟨n, hn, h2⟩ := good_last hg (by simp)
    refine ⟨n, ?_, h2⟩
    have e : (p :: q :: r :: s).length - 1 = (q :: r :: s).length - 1 + 1 := by simp
    rw [e]
    exact hn
theorem good_tail {p : Int} : ∀ {r : List Int}, GoodRow (p :: r) → r ≠ [] → GoodRow r
  | [], _, h => absurd rfl h
  | [q], h, _ => by
    have h2 := (show 1 ≤ p ∧ 2 ≤ q from h).2
    show 1 ≤ q
    omega
  | q :: r :: s, h, _ => (show 1 ≤ p ∧ GoodRow (q :: r :: s) from h).2
/-- the pair of a row's end is no greater -/
theorem back_drop {c : Int} (hc : 0 < c) : ∀ {r : List Int} (i : Nat), GoodRow r → 0 < (back (r.drop i) c).1 ∧ (back (r.drop i) c).1 ≤ (back r c).1
  | r, 0, hg => by
    obtain ⟨h1, h2, _⟩ := back_pos hc hg
    rw [List.drop_zero]
    exact ⟨by omega, Int.le_refl _⟩
  | [], _ + 1, h => h.elim
  | p :: r, i + 1, hg => by
    obtain ⟨h1, h2, _⟩ := back_pos hc hg
    rw [List.drop_succ_cons]
    rw [back_cons] at h1 h2 ⊢
    by_cases e : r = []
    · subst e
      rw [List.drop_nil]
      exact ⟨hc, h2⟩
    · obtain ⟨i1, i2⟩ := back_drop hc i (good_tail hg e)
      exact ⟨i1, Int.le_trans i2 h2⟩
theorem back_big {r : List Int} {c : Int} (hc : 0 < c) (hg : GoodRow r) (hb : Big (back r c).1) (i : Nat) : Big (back (r.drop i) c).1 := by
  obtain ⟨h1, h2⟩ := back_drop hc i hg
  exact hb.le h1 h2
end Mt
namespace Mt
open PySem PySem.Spec PyProof.Rows L2 Evl KM KR
/-! ### the row of a pair is a row to ask with -/
def Last2 : List Int → Prop
  | [] => False
  | [q] => 2 ≤ q
  | p :: q :: r => 1 ≤ p ∧ Last2 (q :: r)
theorem good_of2 : ∀ {r : List Int}, Last2 r → GoodRow r
  | [], h => h.elim
  | [q], h => by
    have h' : 2 ≤ q := h
    show 1 ≤ q
    omega
  | [p, q], h => by
    obtain ⟨hp, hq⟩ := (show 1 ≤ p ∧ Last2 [q] from h)
    exact ⟨hp, hq⟩
  | p :: q :: r :: s, h => by
    obtain ⟨hp, hq⟩ := (show 1 ≤ p ∧ Last2 (q :: r :: s) from h)
    exact ⟨hp, good_of2 hq⟩
theorem cons_of2 {p : Int} (hp : 1 ≤ p) : ∀ {r : List Int}, Last2 r → GoodRow (p :: r)
  | [], h => h.elim
  | [q], h => ⟨hp, h⟩
  | q :: r :: s, h => ⟨hp, good_of2 h⟩
theorem row_last2 {h l : Int} (hh : 0 < h) (hl : 0 ≤ l) : l < h → 0 < l → Last2 (rowP h l) := by
  refine down1 (M := fun h l => l < h → 0 < l → Last2 (rowP h l)) (fun h hh _ z => absurd z (by omega)) (fun h l hl hh ih hlt _ => ?_) hh hl
  have r0 := Int.emod_nonneg h (show l ≠ 0 by omega)
  have r1 := Int.emod_lt_of_pos h hl
  have e := dm h l
  have q1 : 1 ≤ h / l := (Int.le_ediv_iff_mul_le hl).mpr (by omega)
  rw [rowP_pos hl]
  by_cases d : h % l = 0
  · rw [d, rowP_zero]
    show 2 ≤ h / l
    rcases Int.lt_or_le (h / l) 2 with z | z
    · exfalso
      have : h / l = 1 := by omega
      rw [this, d] at e
      omega
    · exact z
  · have i := ih r1 (by omega)
    cases er : rowP l (h % l) with
    | nil => rw [er] at i; exact i.elim
    | cons q r =>
      rw [er] at i
      exact ⟨q1, i⟩
theorem row_good {h l : Int} (hl : 0 < l) (hlh : l ≤ h) : GoodRow (rowP h l) := by
  have r0 := Int.emod_nonneg h (show l ≠ 0 by omega)
  have r1 := Int.emod_lt_of_pos h hl
  have q1 : 1 ≤ h / l := (Int.le_ediv_iff_mul_le hl).mpr (by omega)
  rw [rowP_pos hl]
  by_cases d : h % l = 0
  · rw [d, rowP_zero]; exact q1
  · exact cons_of2 q1 (row_last2 hl r0 r1 (by omega))
theorem row_le {h l : Int} (hh : 0 < h) (hl : 0 ≤ l) : l ≤ h → ∀ q ∈ rowP h l, 1 ≤ q ∧ q ≤ h := by
  refine down1 (M := fun h l => l ≤ h → ∀ q ∈ rowP h l, 1 ≤ q ∧ q ≤ h) (fun h hh _ q hq => by rw [rowP_zero] at hq; cases hq) (fun h l hl hh ih hlh q hq => ?_) hh hl
  have r1 := Int.emod_lt_of_pos h hl
  have q1 : 1 ≤ h / l := (Int.le_ediv_iff_mul_le hl).mpr (by omega)
  have q2 := Int.ediv_le_self l (show 0 ≤ h by omega)
  rw [rowP_pos hl] at hq
  rcases List.mem_cons.mp hq with e | hq
  · rw [e]; exact ⟨q1, q2⟩
  · obtain ⟨a, b⟩ := ih (by omega) q hq
    exact ⟨a, by omega⟩
theorem mx_of {a b : Int} (h : b ≤ a) : mxF a b = a ∧ mnF a b = b := by unfold mxF mnF; split <;> exact ⟨by omega, by omega⟩
/-- the size of the pair of a row -/
theorem back_W {c : Int} {k m : Nat} (hc : 0 < c) (hw : W m c) : ∀ {r : List Int}, (∀ q ∈ r, 1 ≤ q ∧ q + 1 ≤ ((2 ^ k : Nat) : Int)) → 0 < (back r c).1 ∧ 0 ≤ (back r c).2 ∧ (back r c).2 ≤ (back r c).1 ∧ W (m + k * r.length) (back r c).1
  | [], _ => by
    show 0 < c ∧ 0 ≤ (0 : Int) ∧ (0 : Int) ≤ c ∧ W (m + k * 0) c
    exact ⟨hc, Int.le_refl _, by omega, hw⟩
  | q :: r, h => by
    obtain ⟨i1, i2, i3, i4⟩ := back_W hc hw (fun x hx => h x (List.mem_cons_of_mem _ hx))
    obtain ⟨hq, hq2⟩ := h q List.mem_cons_self
    rw [back_cons]
    have h1 := Int.mul_pos i1 (show 0 < q by omega)
    have h2 := Int.mul_le_mul_of_nonneg_left hq2 (Int.le_of_lt i1)
    have e : (back r c).1 * (q + 1) = (back r c).1 * q + (back r c).1 := by grind
    have h3 := Int.mul_le_mul_of_nonneg_left hq (Int.le_of_lt i1)
    refine ⟨by show 0 < (back r c).1 * q + (back r c).2; omega, by show 0 ≤ (back r c).1; omega, by show (back r c).1 ≤ (back r c).1 * q + (back r c).2; omega, ?_⟩
    show W (m + k * (q :: r).length) ((back r c).1 * q + (back r c).2)
    have hb : ((back r c).1 * ((2 ^ k : Nat) : Int)).natAbs < 2 ^ (m + k * r.length) * 2 ^ k := by
      rw [Int.natAbs_mul, Int.natAbs_natCast]
      exact Nat.mul_lt_mul_of_pos_right i4 (Nat.pow_pos (by decide))
    rw [← Nat.pow_add] at hb
    unfold W
    have e2 : m + k * (q :: r).length = m + k * r.length + k := by rw [List.length_cons, Nat.mul_add]; omega
    rw [e2]
    refine Nat.lt_of_le_of_lt ?_ hb
    omega
end Mt
namespace Mt
open PySem PySem.Spec PyProof.Rows L2 Evl KM KR
section
variable {K : PySem.W.Frag} {σ : L2.St} {H H' : Hp} {ta tb tc te tx tl : TE} {t u : TT} {x y z v : V} {r : R2} {D : Ends} {tu tw tz : TS} {g : TG}
/-- [e for k, x in enumerate(xs)], no test -/
theorem el_compE {a : Addr} {xs : List V} {j1 j2 : Nat} {vs : List Nat} {tl : TA} (f : Nat → V) (h : EvA tl σ H [.ref a]) (hx : SqL K H a xs) (hz : xs.length ≤ 40000)
    (hw : ∀ x y, wipe (((wipe σ vs).set j1 (some x)).set j2 (some y)) vs = wipe σ vs) (he : ∀ (i : Nat) (x : V) H1, Ex H H1 → xs[i]? = some x → Ev te (((wipe σ vs).set j1 (some (.int (i : Int)))).set j2 (some x)) H1 (f i)) :
    EvL (tLc (iEnum K tl) (gTup K 2 (gCons (gName j1) (gCons (gName j2) gNil))) tYes te vs) σ H (given xs.length (fun _ => true) f) := by
  intro H0 e Q q
  refine h H0 e _ fun H1 e1 => ⟨a, xs, rfl, ex_l (e.trans e1) hx, fun Dl hD => ?_⟩
  refine lc_it (walk_enum (xs := xs)) (Cw H1 (fun _ => true) f Dl) ⟨hD, Ex.new hD, upd_same⟩ (fun i H' _ p => ex_l ((e.trans e1).trans p.2.1) hx) (fun i v H' H'' hi p hy => ?_) fun H' p => q Dl H' (fresh_back e1 p.1) (e1.trans p.2.1) p.2.2
  obtain ⟨T, x, y, rfl, hT, rfl, hx1, hy1⟩ := hy
  have hx2 : V.int (i : Int) = x := Option.some.inj hx1
  subst hx2
  obtain ⟨p1, p2, p3⟩ := p
  have nT : Dl ≠ T := ne_of_none p3 hT
  refine ⟨T, _, rfl, st_of upd_same, rfl, _, _, rfl, _, _, rfl, rfl, hw _ _, ?_⟩
  refine he i y H1 (e.trans e1) hy1 _ (p2.trans (Ex.new hT)) _ fun H4 e4 => ⟨given i (fun _ => true) f, e4 Dl _ (by rw [upd_ne nT]; exact p3), sz_lt (by have := given_len i (fun _ => true) f; omega), p1, Ex.mut ((p2.trans (Ex.new hT)).trans e4) p1, ?_⟩
  rw [given_yes rfl]
  exact upd_same
/-- some list of these numbers -/
def EvI (K : PySem.W.Frag) (te : TE) (σ : L2.St) (H : Hp) (rw : List Int) : Prop := ∀ H1, Ex H H1 → ∀ Q : VK, (∀ a H2, Ex H1 H2 → SqL K H2 a (rw.map V.int) → Q (.ref a) H2) → te σ H1 Q
theorem ei_l {rw : List Int} (h : EvL te σ H (rw.map V.int)) : EvI K te σ H rw := fun H1 e Q q => h H1 e Q fun a H2 _ e2 h2 => q a H2 e2 (sq_of h2)
theorem ei_v {rw : List Int} {a : Addr} (h : Ev te σ H (.ref a)) (hs : SqL K H a (rw.map V.int)) : EvI K te σ H rw := fun H1 e Q q => h H1 e Q fun H2 e2 => q a H2 e2 (ex_l (e.trans e2) hs)
/-- lists of numbers, one behind the other -/
def EvAI (K : PySem.W.Frag) (ta : TA) (σ : L2.St) (H : Hp) (rows : List (List Int)) : Prop := ∀ H1, Ex H H1 → ∀ Q : List V → Hp → Prop, (∀ (as : List Addr) H2, Ex H1 H2 → Paired (fun (rw : List Int) a => SqL K H2 a (rw.map V.int)) rows as → Q (as.map V.ref) H2) → ta σ H1 Q
theorem eai_nil : EvAI K tNil σ H [] := fun H1 _ Q q => q [] H1 (Ex.refl H1) .nil
theorem eai_cons {tr : TA} {rw : List Int} {rows : List (List Int)} (h : EvI K te σ H rw) (hr : EvAI K tr σ H rows) : EvAI K (tCons te tr) σ H (rw :: rows) := fun H1 e Q q =>
  h H1 e _ fun a H2 e2 h2 => hr H2 (e.trans e2) _ fun as H3 e3 h3 => q (a :: as) H3 (e2.trans e3) (.cons (ex_l e3 h2) h3)
theorem paired_at {α β : Type} {F : α → β → Prop} : ∀ {xs : List α} {ys : List β} {i : Nat} {y : β}, Paired F xs ys → ys[i]? = some y → ∃ x, xs[i]? = some x ∧ F x y
  | _, _, i, y, .nil, h => by simp at h
  | _, _, 0, y, .cons r _, h => ⟨_, rfl, by rw [← Option.some.inj h]; exact r⟩
  | _, _, i + 1, y, .cons _ t, h => paired_at (i := i) t h
/-- for some in [xs, ys, ..] -/
theorem q_forI {ta : TA} {rows : List (List Int)} {j : Nat} (h : EvAI K ta σ H rows) (hz : rows.length ≤ 100000) (Pv : L2.St → Hp → Prop) (h0 : ∀ H1, Ex H H1 → Pv σ H1)
    (hs : ∀ (rw : List Int) a H1 σ' H', rw ∈ rows → SqL K H1 a (rw.map V.int) → Ex H H1 → Ex H1 H' → Pv σ' H' → tu { D with nx := fun σ'' H'' => Ex H1 H'' ∧ Pv σ'' H'', ct := fun σ'' H'' => Ex H1 H'' ∧ Pv σ'' H'', bk := tz D } (σ'.set j (some (.ref a))) H')
    (hd : ∀ σ' H', Pv σ' H' → tz D σ' H') : tSeq (tFor (iList K (tLst ta)) (gName j) tu) tz D σ H := h H (Ex.refl H) _ fun as H1 e1 hp => by
  have hlen := Paired.length hp
  refine ⟨by rw [List.length_map, ← hlen]; exact sz_of hz, fun l hl => ⟨l, rfl, ⟨_, sq_of upd_same⟩, ?_⟩⟩
  have eN : Ex H1 (upd H1 l (.lst (as.map V.ref))) := Ex.new hl
  refine for_list (D := { D with nx := tz D }) (xs := as.map V.ref) (fun i σ' H' => Ex (upd H1 l (.lst (as.map V.ref))) H' ∧ Pv σ' H') ⟨Ex.refl _, h0 _ (e1.trans eN)⟩ (fun i σ' H' _ p => ex_l p.1 (sq_of upd_same)) (fun i x σ' H' hi p => ?_) fun σ' H' p => hd σ' H' p.2
  rw [List.getElem?_map] at hi
  cases ha : as[i]? with
  | none => rw [ha] at hi; cases hi
  | some a =>
    rw [ha] at hi
    have ex : x = .ref a := (Option.some.inj hi).symm
    subst ex
    obtain ⟨rw, hr, hq⟩ := paired_at hp ha
    exact hs rw a _ σ' H' (List.mem_of_getElem? hr) (ex_l eN hq) (e1.trans eN) p.1 p.2
end
theorem good_snoc {q : Int} (hq : 2 ≤ q) : ∀ {r : List Int}, (∀ x ∈ r, 1 ≤ x) → Last2 (r ++ [q])
  | [], _ => hq
  | [p], h => ⟨h p List.mem_cons_self, hq⟩
  | p :: x :: r, h => ⟨h p List.mem_cons_self, good_snoc hq (r := x :: r) fun y hy => h y (List.mem_cons_of_mem _ hy)⟩
theorem set_last {n : Int} : ∀ {l : List Int}, l ≠ [] → l.set (l.length - 1) n = l.dropLast ++ [n]
  | [], h => absurd rfl h
  | [_], _ => rfl
  | x :: y :: r, _ => by
    have ih := set_last (n := n) (l := y :: r) (by simp)
    have e : (x :: y :: r).length - 1 = (y :: r).length - 1 + 1 := by simp
    rw [e, List.set_cons_succ, ih]
    rfl
end Mt

set_option Elab.async false
set_option linter.all false
set_option maxRecDepth 100000
set_option maxHeartbeats 4000000
namespace Mt
open PySem PySem.Spec PyProof.Rows L2 Evl
/-! ### a class without an own __init__, made -/
structure MkO (K : PySem.W.Frag) (C : Addr) : Prop where
  makes : PySem.W.makesIn K C = true
  init : PySem.W.findIn K (.ref C) "__init__" = some (some (.builtin "object.__init__"))
  kp : PySem.W.keepIn K (.ref C) = true
def tMakeO (C : Addr) : TE := fun σ H Q => ∀ x dx, H x = none → H dx = none → dx ≠ x → Q (.ref x) (upd (upd H dx (.own x)) x (.ins C dx []))
section
variable {X : Cx} {x : Str} {p pos : Pos} {C : Addr}
theorem run_makeO {pins : List (Addr × Obj)} {σ : L2.St} {H : Hp} {s : Shared} {Q : VK} (M : MkO X.K C) (I : Inv X pins σ H s) (h : ∀ x dx, H x = none → H dx = none → dx ≠ x → Q (.ref x) (upd (upd H dx (.own x)) x (.ins C dx []))) :
    wpAny (model X.prog X.w) X.A (call (.ref C) []) (EP X pins σ Q) X.xe s := by
  have hq := h (s.heap.objs.size + 1) s.heap.objs.size (I.hok.fresh (Nat.le_succ _)) (I.hok.fresh (Nat.le_refl _)) (Nat.ne_of_lt (Nat.lt_succ_self _))
  have I2 := Inv.made (C := C) I
  have Y := PySem.W.makes_of (M := model X.prog X.w) I.kIn M.makes
  refine wpAny_call (make_map0 I.kIn M.makes M.init (fun self => PySem.W.Looks.of_pure (PySem.W.oi_bind self)) ?_)
  have hx : ((s.heap.push PySem.W.emptyDict).push (PySem.W.instObj C s.heap.objs.size)).get? (s.heap.objs.size + 1) = some (PySem.W.instObj C s.heap.objs.size) := by
    have := Heap.get?_push_size (s.heap.push PySem.W.emptyDict) (o := PySem.W.instObj C s.heap.objs.size) rfl
    rwa [Heap.size_push] at this
  have t1 : PySem.W.Looks (model X.prog X.w) ((s.heap.push PySem.W.emptyDict).push (PySem.W.instObj C s.heap.objs.size)) (typeOf (.ref (s.heap.objs.size + 1))) (.ref C) := (PySem.W.Looks.ld hx).andThen .now
  have t2 : PySem.W.Looks (model X.prog X.w) ((s.heap.push PySem.W.emptyDict).push (PySem.W.instObj C s.heap.objs.size)) (isInstance (.ref (s.heap.objs.size + 1)) (.type "object")) true :=
    t1.andThen (Y.top.keeps fun b o e => Heap.get?_push_of_some _ (Heap.get?_push_of_some _ e))
  refine codeAny_call_builtin PySem.W.oi_plain PySem.W.entry_oi (@PySem.W.check_slot (model X.prog X.w) _ _ _ "object.__init__" "object" "__init__" (.ref (s.heap.objs.size + 1)) [] [] _ PySem.W.oi_kind PySem.W.oi_split t2 (PySem.W.oi_args (.ref (s.heap.objs.size + 1))) ?_)
  rw [PySem.W.oi_run]
  exact wpAny_pure (And.intro rfl ⟨V.ref (s.heap.objs.size + 1), _, I2, rfl, hq⟩)
theorem pe_makeO (M : MkO X.K C) (hg : Gl X x) (hm : X.mg x = some (.ref C)) (hdb : (x == ("__debug__" : Str)) = false := by decide) : PE X (.Call (.Name x p) [] [] pos) (tMakeO C) := by
  refine ⟨fun pins s σ H Q I h => ?_⟩
  refine wpAny_Call_Name_kw (ld_glob I hg hm ?_ hdb)
  exact PySem.W.callWith_K0 I.kIn M.kp (run_makeO M I h)
end
/-! ### a method of an object of one of two classes -/
def tMeth2 (C1 C2 : Addr) (m : Str) (sp1 sp2 : Sp) (E : XK) (ta : TE) (t : TA) : TE := fun σ H Q => ta σ H fun x H1 => ∃ a C dx fs, x = .ref a ∧ H1 a = some (.ins C dx fs) ∧ fs.lookup m = none ∧ (C = C1 ∨ C = C2) ∧
  t σ H1 fun vs H2 => (C = C1 → sp1 (x :: vs) H2 Q E) ∧ (C ≠ C1 → sp2 (x :: vs) H2 Q E)
theorem pe_meth2 {X : Cx} {CX : CXT} {k1 k2 : Nat} {C1 C2 f1 f2 : Addr} {fd1 fd2 : FuncData} {ps1 ps2 : List Str} {m : Str} {sp1 sp2 : Sp} {E : XK} {o e : Expr} {es : List Expr} {ta : TE} {t : TA} {apos pos : Pos} {pl : Sem Bool}
    (he : PE X o ta) (c1 : Cls X.K C1) (c2 : Cls X.K C2) (hm1 : Meth X.K C1 m f1) (hm2 : Meth X.K C2 m f2) (F1 : FnOk X.prog X.w X.K X.mg X.base CX k1 f1 fd1 ps1 sp1) (F2 : FnOk X.prog X.w X.K X.mg X.base CX k2 f2 fd2 ps2 sp2)
    (hr1 : Room k1 X.A) (hr2 : Room k2 X.A) (hb1 : Binds X.K fd1 ps1 []) (hb2 : Binds X.K fd2 ps2 []) (hx : Passes CX X E) (ha : PA X (e :: es) t)
    (hst : starEach (e :: es) X.env = (false, eval e X.env) :: starEach es X.env := by rfl) (hpl : (backTo pos (starEach es X.env)).any (·.1) = false := by rfl)
    (ht : eval (.Call (.Attribute o m apos) (e :: es) [] pos) X.env = (do
      let ov ← eval o X.env
      standAt apos.atName
      let (f, first) ← holding [ov] (getMethod ov m pl)
      callWith pos f first (backTo pos (starEach (e :: es) X.env)) (backToKw pos (keywordEach [] X.env))) := by rfl) :
    PE X (.Call (.Attribute o m apos) (e :: es) [] pos) (tMeth2 C1 C2 m sp1 sp2 E ta t) := by
  refine ⟨fun pins s σ H Q I h => ?_⟩
  refine PySem.W.methodCall_KW (pl := pl) (thn (he.run pins s σ H _ I h) fun u s1 ⟨x, H1, I1, rx, a, C, dx, fs, ex, ea, l, hC, q⟩ => ?_) ht
  subst ex
  obtain rfl : u = Value.ref a := rx
  by_cases h1 : C = C1
  · subst h1
    refine getmeth_ok I1 ea c1 hm1 l ?_
    refine PySem.W.callWith_K (first := [.ref a]) (h₀ := X.base) I.ok.mod.kin hm1.kp (thn (ha.run pos pins s1 σ H1 _ I1 q) fun us s2 ⟨vs, H2, I2, r, q2⟩ => ⟨I2.kIn, ?_⟩) hst hpl
    exact run_fn (us := .ref a :: us) (vs := .ref a :: vs) F1 hr1 hb1 .nil hx I2 (.cons rfl r) (by rw [List.append_nil]; exact q2.1 rfl)
  · have h2 : C = C2 := by
      rcases hC with z | z
      · exact absurd z h1
      · exact z
    subst h2
    refine getmeth_ok I1 ea c2 hm2 l ?_
    refine PySem.W.callWith_K (first := [.ref a]) (h₀ := X.base) I.ok.mod.kin hm2.kp (thn (ha.run pos pins s1 σ H1 _ I1 q) fun us s2 ⟨vs, H2, I2, r, q2⟩ => ⟨I2.kIn, ?_⟩) hst hpl
    exact run_fn (us := .ref a :: us) (vs := .ref a :: vs) F2 hr2 hb2 .nil hx I2 (.cons rfl r) (by rw [List.append_nil]; exact q2.2 h1)
/-! ### classes and methods as the top has made them -/
structure ClAt (K : PySem.W.Frag) (mg : Str → Option Value) (x : Str) where
  C : Addr
  cl : Cls K C
  ha : PySem.W.findIn K (.ref C) "__class__" = some (some (.builtin "object.__class__"))
  hn : PySem.W.specialIn K (.builtin "object.__class__") "__get__" = some (some (.builtin "getset_descriptor.__get__"))
  htk : PySem.W.takesIn K (.builtin "object.__class__") = some true
  hm : PySem.W.mroIn K C (.type "object") = some true
  g : mg x = some (.ref C)
structure MethAt (K : PySem.W.Frag) (C : Addr) (m : Str) (q : Str) (st : Stmt) (ps : List Str) where
  f : Addr
  fd : FuncData
  F : Fun K m q st f fd
  b : Binds K fd ps []
  m : Meth K C m f
section
variable {K : PySem.W.Frag} {mg : Str → Option Value} {σ : L2.St} {H H' : Hp} {ta tb te tx : TE} {t u : TT} {x y z v : V} {r : R2} {D : Ends} {tu tw tz : TS} {g : TG}
theorem ty_ins {nm : Str} {a dx : Addr} {fs : List (Str × V)} (c : ClAt K mg nm) (h : H a = some (.ins c.C dx fs)) : TyX K H (.ref a) (.ref c.C) := .base (.ins h c.cl c.ha c.hn c.htk c.hm)
theorem rc_isiO {nm : Str} {a dx C : Addr} {fs : List (Str × V)} {b : Bool} (c : ClAt K mg nm) (h : H a = some (.ins c.C dx fs)) (e : PySem.W.kitOne K (.ref c.C) (.ref C) = some b) : RC (rIsi K) [.ref a, .ref C] H (.bl b) := fun H1 x _ q =>
  ⟨_, _, _, _, b, rfl, .own C, ty_ins c (x a _ h), e, q H1 (Ex.refl H1)⟩
theorem ev_glob {a : Addr} : Ev (tC (.ref a)) σ H (.ref a) := ev_c
theorem ev_fld {a C dx : Addr} {fs : List (Str × V)} {f : Str} (h : Ev ta σ H (.ref a)) (hi : H a = some (.ins C dx fs)) (c : Cls K C) (n : NoAttr K C f) (l : fs.lookup f = some v) : Ev (tFld K ta f) σ H v := fun H1 e Q q =>
  h H1 e _ fun H2 e2 => ⟨a, C, dx, fs, v, rfl, e2 a _ (e a _ hi), c, n, l, q H2 e2⟩
/-- e.m(..), a value back -/
theorem ev_meth {sp : Sp} {E : XK} {t : TA} {C a dx : Addr} {fs : List (Str × V)} {m : Str} {vs : List V} (h : Ev ta σ H (.ref a)) (hi : H a = some (.ins C dx fs)) (l : fs.lookup m = none) (hs : EvA t σ H vs) (hv : SpV sp (.ref a :: vs) H z) : Ev (tMeth C m sp [] E ta t) σ H z := fun H1 e Q q =>
  h H1 e _ fun H2 e2 => ⟨a, dx, fs, rfl, e2 a _ (e a _ hi), l, hs H2 (e.trans e2) _ fun H3 e3 => by
    rw [List.append_nil]
    exact hv H3 ((e.trans e2).trans e3) Q (fun H4 e4 => q H4 ((e2.trans e3).trans e4)) E⟩
theorem ev_meth2 {sp1 sp2 : Sp} {E : XK} {t : TA} {C C1 C2 a dx : Addr} {fs : List (Str × V)} {m : Str} {vs : List V} (h : Ev ta σ H (.ref a)) (hi : H a = some (.ins C dx fs)) (l : fs.lookup m = none) (hC : C = C1 ∨ C = C2) (hs : EvA t σ H vs)
    (h1 : C = C1 → SpV sp1 (.ref a :: vs) H z) (h2 : C ≠ C1 → SpV sp2 (.ref a :: vs) H z) : Ev (tMeth2 C1 C2 m sp1 sp2 E ta t) σ H z := fun H1 e Q q =>
  h H1 e _ fun H2 e2 => ⟨a, C, dx, fs, rfl, e2 a _ (e a _ hi), l, hC, hs H2 (e.trans e2) _ fun H3 e3 =>
    ⟨fun c => h1 c H3 ((e.trans e2).trans e3) Q (fun H4 e4 => q H4 ((e2.trans e3).trans e4)) E, fun c => h2 c H3 ((e.trans e2).trans e3) Q (fun H4 e4 => q H4 ((e2.trans e3).trans e4)) E⟩⟩
/-- C() -/
theorem es_makeO {C : Addr} : EvS (tMakeO C) σ H (fun v H2 => ∃ a dx, v = .ref a ∧ H2 a = some (.ins C dx [])) := fun H1 _ Q q x dx hx hd hne =>
  q _ _ (fun b o e => by rw [upd_ne (ne_of_none e hx), upd_ne (ne_of_none e hd)]; exact e) ⟨x, dx, rfl, upd_same⟩
/-- C(..): what __init__ writes -/
theorem es_make {C : Addr} {sp : Sp} {E : XK} {t : TA} {vs : List V} {fs : List (Str × V)} (h : EvA t σ H vs)
    (hi : ∀ (x dx : Addr) (H1 : Hp), Ex H H1 → H1 x = some (.ins C dx []) → ∀ (Q : VK), (∀ H2, H2 x = some (.ins C dx fs) → (∀ b o, H1 b = some o → b ≠ x → H2 b = some o) → Q .non H2) → sp (.ref x :: vs) H1 Q E) :
    EvS (tMake C sp [] E t) σ H (fun v H2 => ∃ a dx, v = .ref a ∧ H2 a = some (.ins C dx fs)) := fun H1 e Q q =>
  h H1 e _ fun H2 e2 x dx hx hd hne => by
    have e3 : Ex H2 (upd (upd H2 dx (.own x)) x (.ins C dx [])) := fun b o z => by rw [upd_ne (ne_of_none z hx), upd_ne (ne_of_none z hd)]; exact z
    rw [List.append_nil]
    refine hi x dx _ ((e.trans e2).trans e3) upd_same _ fun H3 h3 k => ⟨rfl, q _ _ (fun b o z => k b o (e3 b o (e2 b o z)) (ne_of_none (e2 b o z) hx)) ⟨x, dx, rfl, h3⟩⟩
/-- EvS narrowed, carried -/
theorem EvS.imp {P P' : V → Hp → Prop} (h : EvS te σ H P) (k : ∀ v H1, Ex H H1 → P v H1 → P' v H1) : EvS te σ H P' := fun H1 e Q q => h H1 e Q fun v H2 e2 p => q v H2 e2 (k v H2 (e.trans e2) p)
theorem s_retS {P : V → Hp → Prop} (h : EvS te σ H P) (k : ∀ v H1, Ex H H1 → P v H1 → D.rt v H1) : tRet te D σ H := h H (Ex.refl H) _ k
/-- isinstance(f(..), C) -/
theorem ev_cbS1 {rr : List V → Hp → VK → Prop} {P : V → Hp → Prop} (h : EvS ta σ H P) (hb : ∀ H1, Ex H H1 → Ev tb σ H1 y) (hs : ∀ v H1, Ex H H1 → P v H1 → RC rr [v, y] H1 z) : Ev (tCB rr (tCons ta (tCons tb tNil))) σ H z := fun H1 e Q q =>
  h H1 e _ fun v H2 e2 p => hb H2 (e.trans e2) H2 (Ex.refl H2) _ fun H3 e3 => hs v H2 (e.trans e2) p H3 e3 Q fun H4 e4 => q H4 ((e2.trans e3).trans e4)
end
/-! ### lists of pairs -/
open KM
abbrev Prs := KG.Prs
/-- a row of refs to pairs -/
inductive Tps (K : PySem.W.Frag) (H : Hp) : List V → Prs → Prop where
  | nil : Tps K H [] []
  | cons {q : Addr} {p : Int × Int} {vs : List V} {ps : Prs} (h : SqT K H q [.int p.1, .int p.2]) (r : Tps K H vs ps) : Tps K H (.ref q :: vs) (p :: ps)
theorem Tps.mono {K : PySem.W.Frag} {H H' : Hp} (e : Ex H H') : ∀ {vs : List V} {ps : Prs}, Tps K H vs ps → Tps K H' vs ps
  | _, _, .nil => .nil
  | _, _, .cons h r => .cons (ex_t e h) (r.mono e)
theorem Tps.len {K : PySem.W.Frag} {H : Hp} : ∀ {vs : List V} {ps : Prs}, Tps K H vs ps → vs.length = ps.length
  | _, _, .nil => rfl
  | _, _, .cons _ r => by rw [List.length_cons, List.length_cons, r.len]
theorem Tps.at {K : PySem.W.Frag} {H : Hp} : ∀ {vs : List V} {ps : Prs}, Tps K H vs ps → ∀ {i : Nat} {v : V}, vs[i]? = some v → ∃ q p, v = .ref q ∧ ps[i]? = some p ∧ SqT K H q [.int p.1, .int p.2]
  | _, _, .nil, i, v, hi => by simp at hi
  | _, _, .cons (q := q) (p := p) h r, 0, v, hi => ⟨q, p, (Option.some.inj hi).symm, rfl, h⟩
  | _, _, .cons h r, i + 1, v, hi => r.at (i := i) (by simpa using hi)
theorem Tps.get {K : PySem.W.Frag} {H : Hp} {vs : List V} {ps : Prs} (h : Tps K H vs ps) {i : Nat} {p : Int × Int} (hi : ps[i]? = some p) : ∃ q, vs[i]? = some (.ref q) ∧ SqT K H q [.int p.1, .int p.2] := by
  have hl : i < vs.length := by rw [h.len]; exact (List.getElem?_eq_some_iff.mp hi).1
  obtain ⟨q, p', e1, e2, h3⟩ := h.at (List.getElem?_eq_getElem hl)
  rw [hi] at e2
  cases e2
  exact ⟨q, by rw [List.getElem?_eq_getElem hl, e1], h3⟩
theorem Tps.set {K : PySem.W.Frag} {H : Hp} {q : Addr} {p : Int × Int} (hq : SqT K H q [.int p.1, .int p.2]) : ∀ {vs : List V} {ps : Prs}, Tps K H vs ps → ∀ (i : Nat), Tps K H (vs.set i (.ref q)) (ps.set i p)
  | _, _, .nil, i => .nil
  | _, _, .cons h r, 0 => .cons hq r
  | _, _, .cons h r, i + 1 => .cons h (r.set hq i)
theorem Tps.app {K : PySem.W.Frag} {H : Hp} {us : List V} {qs : Prs} (h2 : Tps K H us qs) : ∀ {vs : List V} {ps : Prs}, Tps K H vs ps → Tps K H (vs ++ us) (ps ++ qs)
  | _, _, .nil => h2
  | _, _, .cons h r => .cons h (Tps.app h2 r)
theorem Tps.take {K : PySem.W.Frag} {H : Hp} : ∀ {vs : List V} {ps : Prs}, Tps K H vs ps → ∀ n, Tps K H (vs.take n) (ps.take n)
  | _, _, .nil, n => by simpa using Tps.nil
  | _, _, .cons h r, 0 => .nil
  | _, _, .cons h r, n + 1 => .cons h (r.take n)
theorem Tps.drop {K : PySem.W.Frag} {H : Hp} : ∀ {vs : List V} {ps : Prs}, Tps K H vs ps → ∀ n, Tps K H (vs.drop n) (ps.drop n)
  | _, _, .nil, n => by simpa using Tps.nil
  | _, _, .cons h r, 0 => .cons h r
  | _, _, .cons h r, n + 1 => r.drop n
theorem Tps.rev {K : PySem.W.Frag} {H : Hp} : ∀ {vs : List V} {ps : Prs}, Tps K H vs ps → Tps K H vs.reverse ps.reverse
  | _, _, .nil => .nil
  | _, _, .cons h r => by
    rw [List.reverse_cons, List.reverse_cons]
    exact Tps.app (.cons h .nil) r.rev
theorem Tps.dp {K : PySem.W.Frag} {H : Hp} : ∀ {vs : List V} {ps : Prs}, Tps K H vs ps → DpAll K H vs (ps.map fun p => PyData.tuple [.int p.1, .int p.2])
  | _, _, .nil => .nil
  | _, _, .cons h r => .cons (.tup h (.cons (.int _) (.cons (.int _) .nil))) r.dp
/-- the list of pairs at a -/
def PL (K : PySem.W.Frag) (H : Hp) (a : Addr) (ps : Prs) : Prop := ∃ vs, SqL K H a vs ∧ Tps K H vs ps
theorem PL.mono {K : PySem.W.Frag} {H H' : Hp} {a : Addr} {ps : Prs} (e : Ex H H') (h : PL K H a ps) : PL K H' a ps := by
  obtain ⟨vs, h1, h2⟩ := h
  exact ⟨vs, ex_l e h1, h2.mono e⟩
/-- the size of what stands in pairs -/
def PB (k : Nat) (ps : Prs) : Prop := ∀ p ∈ ps, 0 < p.1 ∧ 0 < p.2 ∧ W k p.1 ∧ W k p.2
theorem PB.pos {k : Nat} {ps : Prs} (h : PB k ps) : KG.Pos ps := fun p hp => ⟨(h p hp).1, (h p hp).2.1⟩
theorem PB.mono {k j : Nat} {ps : Prs} (h : PB k ps) (e : k ≤ j) : PB j ps := fun p hp => ⟨(h p hp).1, (h p hp).2.1, (h p hp).2.2.1.mono e, (h p hp).2.2.2.mono e⟩
theorem PB.big {ps : Prs} (h : PB 4000 ps) : ∀ p ∈ ps, Big p.1 ∧ Big p.2 := fun p hp => ⟨⟨(h p hp).1, (h p hp).2.2.1⟩, ⟨(h p hp).2.1, (h p hp).2.2.2⟩⟩
theorem PB.app {k : Nat} {ps qs : Prs} (h : PB k ps) (h2 : PB k qs) : PB k (ps ++ qs) := fun p hp => (List.mem_append.mp hp).elim (h p) (h2 p)
theorem PB.sub {k : Nat} {ps qs : Prs} (h : PB k ps) (s : ∀ p ∈ qs, p ∈ ps) : PB k qs := fun p hp => h p (s p hp)
theorem PB.set {k : Nat} {ps : Prs} (h : PB k ps) {q : Int × Int} (hq : 0 < q.1 ∧ 0 < q.2 ∧ W k q.1 ∧ W k q.2) (i : Nat) : PB k (ps.set i q) := fun p hp => by
  rcases List.mem_or_eq_of_mem_set hp with z | z
  · exact h p z
  · rw [z]; exact hq
end Mt

set_option Elab.async false
set_option linter.all false
set_option maxRecDepth 100000
set_option maxHeartbeats 4000000
namespace GG
open PySem PySem.Spec PyProof.Rows L2
/-! ### defs that change nothing: called from within a generator expression -/
structure QB (K : PySem.W.Frag) (mg : Str → Option Value) (h : Heap) : Prop where
  kin : K.In h
  glob : h.Ns mainGlobals mg
  blt : ∃ mb, h.Ns builtinsNs mb ∧ ∀ x : Str, x ≠ "__name__" → mb x = bootBuiltins x
  nolimit : h.NoLimit
section
variable {K : PySem.W.Frag} {mg : Str → Option Value} {h h' base : Heap}
theorem QB.keeps (q : QB K mg h) (k : ∀ b o, h.get? b = some o → h'.get? b = some o) : QB K mg h' :=
  ⟨q.kin.keeps k, q.glob.keeps k, let ⟨mb, a, r⟩ := q.blt; ⟨mb, a.keeps k, r⟩, q.nolimit.keeps k⟩
theorem QB.of (M : L2.Mod K mg base) (k : ∀ b o, base.get? b = some o → h.get? b = some o) : QB K mg h := (QB.mk M.kin M.glob M.blt M.nolimit).keeps k
end
structure QE (env : Env) : Prop where
  kind : env.scope.kind = .function
  glob : env.globals = mainGlobals
  blt : env.builtins = builtinsNs
/-- how isinstance answers of u, whatever is made -/
def IsI (K : PySem.W.Frag) (h : Heap) (u : Value) (T : String) (b : Bool) : Prop :=
  ∃ (t : Value) (P : Heap → Prop), PySem.W.KitX K u t P ∧ (∀ h' : Heap, (∀ b o, h.get? b = some o → h'.get? b = some o) → P h') ∧ u ≠ .builtin "__main__.__loader__#opaque" ∧ PySem.W.kitOne K t (.type T) = some b
theorem IsI.mono {K : PySem.W.Frag} {h h' : Heap} {u : Value} {T : String} {b : Bool} (k : ∀ b o, h.get? b = some o → h'.get? b = some o) : IsI K h u T b → IsI K h' u T b :=
  fun ⟨t, P, a, p, r⟩ => ⟨t, P, a, fun g e => p g fun b o z => e b o (k b o z), r⟩
/-- a def of one parameter that answers a truth and changes nothing -/
structure QFn (P : Program) (w : World) (K : PySem.W.Frag) (mg : Str → Option Value) (D : Nat) (f : Addr) (R : Heap → Value → Bool → Prop) : Prop where
  run : ∀ (A : Around) (s : Shared) (v : Value) (b : Bool), A.handled = none → A.depth + D < recursionLimit → QB K mg s.heap → R s.heap v b →
    codeAny (model P w) A (.call (.ref f) ⟨[v], []⟩) (fun r s' => r = .ok (.ret (.bool b)) ∧ Keeps s s') s
theorem kt {s s1 s2 : Shared} (a : Keeps s s1) (b : Keeps s1 s2) : Keeps s s2 := by
  obtain ⟨h1, k1, rfl, p1⟩ := a
  obtain ⟨h2, k2, rfl, p2⟩ := b
  exact ⟨h2, k2, rfl, fun b o e => p2 b o (p1 b o e)⟩
theorem ktok {s s1 : Shared} (a : Keeps s s1) (k : Nat) : Keeps s { s1 with toks := k } := kt a ⟨s1.heap, k, rfl, fun _ _ e => e⟩
theorem kheap {s s1 : Shared} (a : Keeps s s1) : ∀ b o, s.heap.get? b = some o → s1.heap.get? b = some o := by
  obtain ⟨h1, k1, rfl, p1⟩ := a
  exact p1
section
variable {prog : Program} {w : World} {A : Around} {E : Value → Shared → Prop} {s : Shared} {env : Env} {K : PySem.W.Frag} {mg m : Str → Option Value} {Q : Value → Shared → Prop} {x y : Str} {u v : Value} {p1 p2 p3 p4 pos : Pos}
theorem q_glob (e : QE env) (B : QB K mg s.heap) (hg : env.kindOf x = some .globalImplicit) (hm : mg x = some u) (h : Q u s) (hd : (x == ("__debug__" : Str)) = false := by decide) : wpAny (model prog w) A (eval (.Name x pos) env) Q E s :=
  Calls.Name_function_global e.kind hg (Calls.loadGlobal_global (by rw [e.glob]; exact B.glob) hm h) hd
theorem q_blt (e : QE env) (B : QB K mg s.heap) (hg : env.kindOf x = some .globalImplicit) (hm : mg x = none) (hv : bootBuiltins x = some u) (h : Q u s) (hn : x ≠ "__name__" := by decide) (hd : (x == ("__debug__" : Str)) = false := by decide) :
    wpAny (model prog w) A (eval (.Name x pos) env) Q E s := by
  obtain ⟨mb, h1, h2⟩ := B.blt
  exact Calls.Name_function_global e.kind hg (Calls.loadGlobal_builtin (by rw [e.glob]; exact B.glob) hm (by rw [e.blt]; exact h1) ((h2 x hn).trans hv) h) hd
theorem q_loc (e : QE env) (hl : env.scope.names.lookup x = some .local) (hn : s.heap.Ns env.locals m) (hm : m x = some v) (hd : (x == ("__debug__" : Str)) = false) (h : Q v s) : wpAny (model prog w) A (eval (.Name x pos) env) Q E s :=
  wpAny_Name (wpAny_loadName_local e.kind hl hn hm h) hd
/-- isinstance(x, T) -/
theorem q_isi {T : Str} {Ts : String} {b : Bool} (e : QE env) (B : QB K mg s.heap) (hl : env.scope.names.lookup x = some .local) (hn : s.heap.Ns env.locals m) (hm : m x = some v) (hd : (x == ("__debug__" : Str)) = false)
    (g1 : env.kindOf "isinstance" = some .globalImplicit) (m1 : mg "isinstance" = none) (g2 : env.kindOf T = some .globalImplicit) (m2 : mg T = none) (hT : bootBuiltins T = some (.type Ts)) (hi : bootBuiltins "isinstance" = some (.builtin "isinstance"))
    (hTn : T ≠ "__name__") (hTd : (T == ("__debug__" : Str)) = false) (hI : IsI K s.heap v Ts b) (h : ∀ tk, Q (.bool b) { s with toks := tk }) :
    wpAny (model prog w) A (eval (.Call (.Name "isinstance" p1) [.Name x p2, .Name T p3] [] p4) env) Q E s := by
  refine wpAny_Call_Name_kw (q_blt e B g1 m1 hi ?_)
  refine PyProof.Rows.callWith_builtin1 ?_ (by rfl) (by rfl)
  show wpAny _ _ (spliced ((false, eval (.Name x p2) env) :: backTo p4 (starEach [.Name T p3] env))) _ _ s
  refine Calls.spliced_cons (q_loc e hl hn hm hd ?_)
  show wpAny _ _ (spliced ((false, eval (.Name T p3) env) :: backTo p4 (starEach [] env))) _ _ s
  refine Calls.spliced_cons (q_blt e B g2 m2 hT ?_ hTn hTd)
  refine Calls.spliced_nil ?_
  obtain ⟨t, P, Z, p, hx, k⟩ := hI
  exact PySem.W.kia_one Z B.kin (p _ fun _ _ q => q) k hx h
/-- f(x) -/
theorem q_call {f : Addr} {fn : Str} {D : Nat} {R : Heap → Value → Bool → Prop} {b : Bool} (F : QFn prog w K mg D f R) (hh : A.handled = none) (hD : A.depth + D < recursionLimit) (hk : PySem.W.keepIn K (.ref f) = true)
    (e : QE env) (B : QB K mg s.heap) (hl : env.scope.names.lookup x = some .local) (hn : s.heap.Ns env.locals m) (hm : m x = some v) (hd : (x == ("__debug__" : Str)) = false) (g1 : env.kindOf fn = some .globalImplicit) (m1 : mg fn = some (.ref f)) (hfd : (fn == ("__debug__" : Str)) = false)
    (hR : R s.heap v b) (h : ∀ s', Keeps s s' → Q (.bool b) s') : wpAny (model prog w) A (eval (.Call (.Name fn p1) [.Name x p2] [] p3) env) Q E s := by
  refine wpAny_Call_Name_kw (q_glob e B g1 m1 ?_ hfd)
  refine PySem.W.callWith_K (h₀ := s.heap) B.kin hk ?_ (by rfl) (by rfl)
  show wpAny _ _ (spliced ((false, eval (.Name x p2) env) :: backTo p3 (starEach [] env))) _ _ s
  refine Calls.spliced_cons (q_loc e hl hn hm hd ?_)
  refine Calls.spliced_nil ⟨B.kin, ?_⟩
  refine wpAny_call (codeAny_mono (F.run A s v b hh hD B hR) fun r s' hq => ?_)
  obtain ⟨rfl, kp⟩ := hq
  exact h s' kp
end
/-- by its body -/
theorem qfn_of {P : Program} {w : World} {K : PySem.W.Frag} {mg : Str → Option Value} {x qual : Str} {st : Stmt} {f : Addr} {fd : FuncData} {N : List Str} {p : Str} {D : Nat} {R : Heap → Value → Bool → Prop}
    (F : Fun K x qual st f fd) (S : FnScope N [p] (defScope st)) (hb : Binds K fd [p] []) (hp : (defScope st).names.lookup p = some .local)
    (body : ∀ (env : Env) (A : Around) (s s1 : Shared) (m : Str → Option Value) (v : Value) (b : Bool), env.scope = defScope st → QE env → s.heap.objs.size ≤ env.locals → A.handled = none → A.depth + D < recursionLimit → QB K mg s.heap → s1.heap.Ns env.locals m → m p = some v → Keeps s s1 → R s.heap v b →
      wpAny (model P w) A (execs (defBody st) env) (fun fl s' => fl = .ret (.bool b) ∧ Keeps s s') (fun _ _ => False) s1) : QFn P w K mg (D + 1) f R := by
  obtain ⟨oc, od, kV, doc, pm, an, cdv, ct, osl, rfl, lk, hcd⟩ := F.ex
  refine ⟨fun A s v b hh hd B hR => ?_⟩
  refine Att.call_fn (binds := [(p, v)]) B.kin B.nolimit lk hcd (by omega) (hb s [v] B.kin rfl) ?_ (fun s₁ X => ?_) S.co S.gen S.kind
  · show ((defScope st).names.lookup p == some NameKind.local || (defScope st).names.lookup p == some NameKind.cell) && true = true
    rw [hp]
    rfl
  · obtain ⟨h1, tk, rfl, hk⟩ := X.done
    refine wpAny_mono (body _ (A.deeper _) s _ _ v b rfl ⟨S.kind, rfl, rfl⟩ (Nat.le_refl _) hh (by show A.depth + 1 + D < _; omega) B X.toInCall.ns (bindL_get (P := [p]) (vs := [v]) (i := 0) (by simp) rfl rfl hp) ⟨h1, tk, rfl, hk⟩ hR) (fun fl s' hq => ?_) fun _ _ z => z.elim
    obtain ⟨rfl, kp⟩ := hq
    exact ⟨rfl, kp⟩
end GG

set_option Elab.async false
set_option linter.all false
set_option maxRecDepth 100000
set_option maxHeartbeats 4000000
namespace GG
open PySem PySem.Spec PyProof.Rows L2
/-- whether u is a whole number -/
def RWhole (K : PySem.W.Frag) (h : Heap) (u : Value) (b : Bool) : Prop := ∃ b1 b2, IsI K h u "int" b1 ∧ IsI K h u "bool" b2 ∧ b = (b1 && !b2)
def RAbove (K : PySem.W.Frag) (h : Heap) (u : Value) (b : Bool) : Prop := ∃ bw, RWhole K h u bw ∧ (bw = true → ∃ i t, u = .int i t ∧ b = decide (0 < i)) ∧ (bw = false → b = false)
def RPair (K : PySem.W.Frag) (h : Heap) (u : Value) (b : Bool) : Prop := ∃ bt, IsI K h u "tuple" bt ∧ (bt = false → b = false) ∧
  (bt = true → ∃ q items, u = .ref q ∧ IsTup h q items ∧ items.size < 2 ^ 40 ∧ (items.size ≠ 2 → b = false) ∧ (items.size = 2 → ∃ x y bx by', items = #[x, y] ∧ RAbove K h x bx ∧ RAbove K h y by' ∧ b = (bx && by')))
section
variable {K : PySem.W.Frag} {h h' : Heap} {u : Value} {b : Bool}
theorem RWhole.mono (k : ∀ b o, h.get? b = some o → h'.get? b = some o) : RWhole K h u b → RWhole K h' u b := fun ⟨b1, b2, a, c, e⟩ => ⟨b1, b2, a.mono k, c.mono k, e⟩
theorem RAbove.mono (k : ∀ b o, h.get? b = some o → h'.get? b = some o) : RAbove K h u b → RAbove K h' u b := fun ⟨bw, a, r⟩ => ⟨bw, a.mono k, r⟩
theorem tup_mono {q : Addr} {items : Array Value} (k : ∀ b o, h.get? b = some o → h'.get? b = some o) : IsTup h q items → IsTup h' q items := fun ⟨o, e, r⟩ => ⟨o, k _ _ e, r⟩
theorem RPair.mono (k : ∀ b o, h.get? b = some o → h'.get? b = some o) : RPair K h u b → RPair K h' u b := fun ⟨bt, a, c, d⟩ => ⟨bt, a.mono k, c, fun e => by
  obtain ⟨q, items, e1, e2, ez, e3, e4⟩ := d e
  exact ⟨q, items, e1, tup_mono k e2, ez, e3, fun z => by
    obtain ⟨x, y, bx, by', f1, f2, f3, f4⟩ := e4 z
    exact ⟨x, y, bx, by', f1, f2.mono k, f3.mono k, f4⟩⟩⟩
end
/-- what the defs' names mean in a frame -/
structure QN (env : Env) (mg : Str → Option Value) : Prop where
  g1 : env.kindOf "isinstance" = some .globalImplicit
  m1 : mg "isinstance" = none
section
variable {prog : Program} {w : World} {A : Around} {s s0 : Shared} {env : Env} {K : PySem.W.Frag} {mg m : Str → Option Value} {x : Str} {v : Value} {b : Bool}
theorem boot_isi : bootBuiltins "isinstance" = some (.builtin "isinstance") := by decide +kernel
theorem boot_int' : bootBuiltins "int" = some (.type "int") := by decide +kernel
theorem boot_bool' : bootBuiltins "bool" = some (.type "bool") := by decide +kernel
theorem boot_tuple' : bootBuiltins "tuple" = some (.type "tuple") := by decide +kernel
theorem boot_len' : bootBuiltins "len" = some (.builtin "len") := by decide +kernel
/-- return isinstance(x, int) and not isinstance(x, bool) -/
theorem body_whole {p1 p2 p3 p4 p5 p6 p7 p8 p9 p10 p11 : Pos} (e : QE env) (B0 : QB K mg s0.heap) (hl : env.scope.names.lookup x = some .local) (hn : s.heap.Ns env.locals m) (hm : m x = some v) (hd : (x == ("__debug__" : Str)) = false)
    (g1 : env.kindOf "isinstance" = some .globalImplicit) (m1 : mg "isinstance" = none) (g2 : env.kindOf "int" = some .globalImplicit) (m2 : mg "int" = none) (g3 : env.kindOf "bool" = some .globalImplicit) (m3 : mg "bool" = none)
    (k0 : Keeps s0 s) (hR : RWhole K s0.heap v b) :
    wpAny (model prog w) A (execs [.Return (some (.BoolOp .And [.Call (.Name "isinstance" p1) [.Name x p2, .Name "int" p3] [] p4, .UnaryOp .Not (.Call (.Name "isinstance" p5) [.Name x p6, .Name "bool" p7] [] p8) p9] p10)) p11] env) (fun fl s' => fl = .ret (.bool b) ∧ Keeps s0 s') (fun _ _ => False) s := by
  have B := B0.keeps (kheap k0)
  obtain ⟨b1, b2, i1, i2, rfl⟩ := RWhole.mono (kheap k0) hR
  refine wpAny_execs_cons (wpAny_Return_some (wpAny_And2 (q_isi e B hl hn hm hd g1 m1 g2 m2 boot_int' boot_isi (by decide) (by decide) i1 fun tk => wpAny_truthy_bool ?_)))
  cases b1 with
  | false => exact ⟨rfl, ktok k0 _⟩
  | true =>
    refine wpAny_UnaryOp (q_isi (s := { s with toks := tk }) e B hl hn hm hd g1 m1 g3 m3 boot_bool' boot_isi (by decide) (by decide) i2 fun tk2 => not_value (wpAny_truthy_bool ?_))
    exact ⟨rfl, ktok k0 _⟩
/-- return is_whole(x) and x > 0 -/
theorem body_above {f : Addr} {fn : Str} {D k : Nat} {p1 p2 p3 p4 p5 p6 p7 p8 : Pos} (F : QFn prog w K mg D f (RWhole K)) (hh : A.handled = none) (hD : A.depth + D < recursionLimit) (hk : PySem.W.keepIn K (.ref f) = true)
    (e : QE env) (B0 : QB K mg s0.heap) (hl : env.scope.names.lookup x = some .local) (hn : s.heap.Ns env.locals m) (hm : m x = some v) (hd : (x == ("__debug__" : Str)) = false)
    (g1 : env.kindOf fn = some .globalImplicit) (m1 : mg fn = some (.ref f)) (hfd : (fn == ("__debug__" : Str)) = false) (k0 : Keeps s0 s) (hR : RAbove K s0.heap v b) :
    wpAny (model prog w) A (execs [.Return (some (.BoolOp .And [.Call (.Name fn p1) [.Name x p2] [] p3, .Compare (.Name x p4) [.Gt] [.Constant (.int 0) k p5] p6] p7)) p8] env) (fun fl s' => fl = .ret (.bool b) ∧ Keeps s0 s') (fun _ _ => False) s := by
  have B := B0.keeps (kheap k0)
  obtain ⟨bw, hw, h1, h2⟩ := RAbove.mono (kheap k0) hR
  refine wpAny_execs_cons (wpAny_Return_some (wpAny_And2 (q_call F hh hD hk e B hl hn hm hd g1 m1 hfd hw fun s' kp => wpAny_truthy_bool ?_)))
  cases bw with
  | false =>
    cases h2 rfl
    exact ⟨rfl, kt k0 kp⟩
  | true =>
    obtain ⟨i, t, rfl, rfl⟩ := h1 rfl
    refine wpAny_Compare1 (q_loc e hl (hn.keeps (kheap kp)) hm hd (wpAny_Constant_int (gt_int ?_)))
    exact ⟨rfl, ktok (kt k0 kp) _⟩
/-- is_pair's body -/
theorem body_pair {f : Addr} {fn y z : Str} {D k k2 k3 : Nat} {p1 p2 p3 p4 p5 p6 p7 p8 p9 p10 p11 p12 p13 p14 p15 p16 p17 p18 p19 p20 p21 p22 p23 p24 p25 p26 p27 : Pos} (F : QFn prog w K mg D f (RAbove K)) (hh : A.handled = none) (hD : A.depth + D < recursionLimit) (hk : PySem.W.keepIn K (.ref f) = true)
    (e : QE env) (B0 : QB K mg s0.heap) (hl : env.scope.names.lookup x = some .local) (hly : env.scope.names.lookup y = some .local) (hlz : env.scope.names.lookup z = some .local) (hyz : z ≠ y) (hn : s.heap.Ns env.locals m) (hm : m x = some v) (hd : (x == ("__debug__" : Str)) = false) (hdy : (y == ("__debug__" : Str)) = false) (hdz : (z == ("__debug__" : Str)) = false)
    (g1 : env.kindOf fn = some .globalImplicit) (m1 : mg fn = some (.ref f)) (hfd : (fn == ("__debug__" : Str)) = false) (g2 : env.kindOf "isinstance" = some .globalImplicit) (m2 : mg "isinstance" = none) (g3 : env.kindOf "tuple" = some .globalImplicit) (m3 : mg "tuple" = none)
    (g4 : env.kindOf "len" = some .globalImplicit) (m4 : mg "len" = none) (k0 : Keeps s0 s) (hab : s0.heap.objs.size ≤ env.locals) (hR : RPair K s0.heap v b) :
    wpAny (model prog w) A (execs [.If (.BoolOp .Or [.UnaryOp .Not (.Call (.Name "isinstance" p1) [.Name x p2, .Name "tuple" p3] [] p4) p5, .Compare (.Call (.Name "len" p6) [.Name x p7] [] p8) [.NotEq] [.Constant (.int 2) k p9] p10] p11) [.Return (some (.Constant (.bool false) k2 p12)) p13] [] p14,
      .Assign [.Tuple [.Name y p15, .Name z p16] k3 p17] (.Name x p18) p19,
      .Return (some (.BoolOp .And [.Call (.Name fn p20) [.Name y p21] [] p22, .Call (.Name fn p23) [.Name z p24] [] p25] p26)) p27] env) (fun fl s' => fl = .ret (.bool b) ∧ Keeps s0 s') (fun _ _ => False) s := by
  have B := B0.keeps (kheap k0)
  obtain ⟨bt, ht, h1, h2⟩ := hR
  replace ht := ht.mono (kheap k0)
  refine wpAny_execs_cons (wpAny_If (wpAny_isTrue_BoolOp (wpAny_allTrue_Or_cons (wpAny_isTrue_Not (wpAny_isTrue_value (q_isi e B hl hn hm hd g2 m2 g3 m3 boot_tuple' boot_isi (by decide) (by decide) ht fun tk => wpAny_truthy_bool ?_) (by rfl))))))
  cases bt with
  | false =>
    cases h1 rfl
    refine wpAny_execs_cons (wpAny_Return_some (wpAny_Constant_bool ⟨rfl, ktok k0 _⟩))
  | true =>
    obtain ⟨q, items, rfl, hT0, hz, h3, h4⟩ := h2 rfl
    have hT := tup_mono (kheap k0) hT0
    refine wpAny_allTrue_Or_cons (wpAny_isTrue_Compare1 ?_)
    refine wpAny_Call_Name_kw (q_blt (s := { s with toks := tk }) e B g4 m4 boot_len' ?_)
    refine PyProof.Rows.callWith_builtin1 ?_ (by rfl) (by rfl)
    show wpAny _ _ (spliced ((false, eval (.Name x p7) env) :: backTo p8 (starEach [] env))) _ _ _
    refine Calls.spliced_cons (q_loc e hl hn hm hd ?_)
    refine Calls.spliced_nil (PyProof.Rows.len_tuple hT (by omega) ?_)
    refine wpAny_Constant_int (ne_int (wpAny_truthy_bool ?_))
    by_cases c : items.size = 2
    · obtain ⟨x0, y0, bx, by', rfl, r1, r2, rfl⟩ := h4 c
      refine wpAny_allTrue_Or_nil ?_
      refine wpAny_execs_nil ?_
      refine wpAny_execs_cons (wpAny_Assign_stores (q_loc (m := m) (v := .ref q) e hl hn hm hd ?_) (by rfl) (by rfl))
      show wpAny _ _ (assignAll _ [assign (.Tuple [.Name y p15, .Name z p16] k3 p17) env]) _ _ _
      refine assign_Tuple_tuple (s := { s with toks := _ }) hh hT (by rfl) (by rfl) fun ha hx => ?_
      obtain ⟨hs, tk0, rfl, kp0⟩ := k0
      have kpa : ∀ b o, hs.get? b = some o → ha.get? b = some o := fun b o z => hx b o (Nat.ne_of_lt (Heap.lt_size z)) z
      show wpAny _ _ (assignInOrder [assign (.Name y p15) env, assign (.Name z p16) env] [x0, y0]) _ _ _
      refine assignInOrder_cons (wpAny_assign_Name (wpAny_storeName_local (m := m) (by show env.scope.names.lookup y = _; exact hly) (hn.keeps kpa) (fun hb hnb sb => ?_) (by show (env.scope.kind == .class || (env.scope.kind == .module && _)) = false; rw [e.kind]; rfl)))
      refine assignInOrder_cons (wpAny_assign_Name (wpAny_storeName_local (by show env.scope.names.lookup z = _; exact hlz) hnb (fun hc hnc sc => ?_) (by show (env.scope.kind == .class || (env.scope.kind == .module && _)) = false; rw [e.kind]; rfl)))
      refine wpAny_pure ?_
      have kpc : ∀ b o, s0.heap.get? b = some o → hc.get? b = some o := fun b o z => by
        have n : b ≠ env.locals := Nat.ne_of_lt (Nat.lt_of_lt_of_le (Heap.lt_size z) hab)
        exact sc.extBut b o n (sb.extBut b o n (kpa b o (kp0 b o z)))
      have Bc := B0.keeps kpc
      refine wpAny_execs_cons (wpAny_Return_some (wpAny_And2 (q_call F hh hD hk e Bc hly hnc (by rw [if_neg (Ne.symm hyz), if_pos rfl]) hdy g1 m1 hfd (r1.mono kpc) fun s' kp => wpAny_truthy_bool ?_)))
      cases bx with
      | false => exact ⟨rfl, kt ⟨hc, _, rfl, kpc⟩ kp⟩
      | true => exact q_call F hh hD hk e (Bc.keeps (kheap kp)) hlz (hnc.keeps (kheap kp)) (by rw [if_pos rfl]) hdz g1 m1 hfd (r2.mono fun b o z => kheap kp b o (kpc b o z)) fun s'' kp2 => ⟨rfl, kt (kt ⟨hc, _, rfl, kpc⟩ kp) kp2⟩
    · cases h3 c
      have ec : ((items.size : Int) != 2) = true := by
        simp only [bne_iff_ne, ne_eq]
        omega
      rw [ec]
      exact wpAny_execs_cons (wpAny_Return_some (wpAny_Constant_bool ⟨rfl, ktok k0 _⟩))
end
end GG

set_option Elab.async false
set_option linter.all false
set_option maxRecDepth 100000
set_option maxHeartbeats 4000000
namespace GG
open PySem PySem.Spec PyProof.Rows L2
/-- a code object's table, however long it has grown -/
def tabO (P : Addr) : HO := .ext fun h => ∃ ps : Array Value, h.get? P = some { cls := .none, data := .fields ps } ∧ TriplesOk ps.toList
/-- all but the table -/
abbrev noP (h : Heap) (P : Addr) : Heap := PySem.W.hideAll h [P]
theorem noP_get {h : Heap} {P b : Addr} {o : Obj} (n : b ≠ P) (e : h.get? b = some o) : (noP h P).get? b = some o := PySem.W.hideAll_get _ e (by simp [n])
theorem of_noP {h : Heap} {P b : Addr} {o : Obj} (e : (noP h P).get? b = some o) : h.get? b = some o ∧ b ≠ P := by
  refine ⟨PySem.W.of_hideAll _ e, fun z => ?_⟩
  have := PySem.W.hideAll_none (h := h) [P] (show b ∈ [P] by simp [z])
  rw [this] at e
  cases e
section
variable {X : Cx} {pins : List (Addr × Obj)} {σ : L2.St} {H : Hp} {s : Shared} {P : Addr}
theorem inv_grow {ps' : Array Value} {h' : Heap} {g' : Array GenState} {d' : Drawn} {t' : Nat} (I : Inv X pins σ H s) (hP : H P = some (tabO P)) (k : ∀ b o, b ≠ P → s.heap.get? b = some o → h'.get? b = some o)
    (hm : h'.get? P = some { cls := .none, data := .fields ps' }) (ht : TriplesOk ps'.toList) (hg : AllBare g') : Inv X pins σ H { s with heap := h', gens := g', drawn := d', toks := t' } := by
  have nN : ∀ b, H b = none → b ≠ P := fun b e z => by
    rw [z, hP] at e
    cases e
  refine I.step (g' := g') (d' := d') (ch := []) (fun b hb => absurd hb (by simp)) (fun b o _ _ _ e n => k b o (nN b n) e) (fun b o _ _ _ e n => ⟨o.slots, k b o (nN b n) e⟩)
    (fun b o _ e n => n) (fun b o _ e => ?_) (fun b xs e => e) (fun b o u e => e) (fun b qs e => ⟨#[], by rw [e]; simp⟩) (fun m hn => ?_) (fun b u e => ?_) hg
  · by_cases hb : b = P
    · rw [hb]
      exact ⟨_, hm⟩
    · exact ⟨o, k b o hb e⟩
  · obtain ⟨ob, es, ep, ho, r⟩ := hn
    exact ⟨ob, es, ep, k _ ob (nN _ I.free) ho, r⟩
  · by_cases hb : b = P
    · subst hb
      rw [hP] at e
      cases e
      have x : ObjOk X.prog X.w H s.heap b (tabO b) := I.hok b _ hP
      exact ⟨⟨ps', hm, ht⟩, ⟨_, hm⟩, x.2.2⟩
    · refine (I.hok b u e).stay (fun d v hd q => k d v ?_ q) (fun d q => q) fun d xs q => q
      rcases hd with z | z
      · rw [z]
        exact hb
      · intro z2
        rw [z2, hP] at z
        cases z
theorem k_noP (I : Inv X pins σ H s) (hP : H P = some (tabO P)) {a : Addr} {o : Obj} (e : X.K.lookup a = some o) : (noP s.heap P).get? a = some o := by
  obtain ⟨h1, h2⟩ := I.bs a o (I.ok.mod.kin a o e)
  exact noP_get (fun z => by rw [z, hP] at h2; cases h2) h1
theorem h_noP (hP : H P = some (tabO P)) {a : Addr} {u : HO} {h : Heap} {o : Obj} (e : H a = some u) (n : u ≠ tabO P) (q : h.get? a = some o) : (noP h P).get? a = some o :=
  noP_get (fun z => by rw [z, hP] at e; exact n (Option.some.inj e).symm) q
theorem isI_of {x : V} {u : Value} {T' T : String} {b : Bool} (I : Inv X pins σ H s) (hP : H P = some (tabO P)) (rx : RelV x u) (ty : TyX X.K H x (.type T')) (k : kitB T' T = some b) : IsI X.K (noP s.heap P) u T b := by
  cases ty with
  | base bb =>
    cases bb with
    | non => cases (show u = Value.none from rx); exact ⟨_, _, PySem.W.kitx_none, fun _ _ => True.intro, (fun z => nomatch z), kit_ty k⟩
    | bl y => cases (show u = Value.bool y from rx); exact ⟨_, _, PySem.W.kitx_bool, fun _ _ => True.intro, (fun z => nomatch z), kit_ty k⟩
    | int i => obtain ⟨t, q⟩ := (show ∃ t, u = Value.int i t from rx); cases q; exact ⟨_, _, PySem.W.kitx_int, fun _ _ => True.intro, (fun z => nomatch z), kit_ty k⟩
    | str y => obtain ⟨t, q⟩ := (show ∃ t, u = Value.str y t from rx); cases q; exact ⟨_, _, PySem.W.kitx_str, fun _ _ => True.intro, (fun z => nomatch z), kit_ty k⟩
    | flt y => obtain ⟨t, q⟩ := (show ∃ t, u = Value.float y t from rx); cases q; exact ⟨_, _, PySem.W.kitx_float, fun _ _ => True.intro, (fun z => nomatch z), kit_ty k⟩
    | @lst a xs ea =>
      cases (show u = Value.ref a from rx)
      obtain ⟨_, _, n, _, h1⟩ := (show ObjOk X.prog X.w H s.heap a (.lst xs) from I.hok a _ ea)
      exact ⟨_, _, PySem.W.kitx_list, fun h' q => ⟨_, q _ _ (h_noP hP ea (fun z => by cases z) h1), rfl⟩, (fun z => nomatch z), kit_ty k⟩
    | @frz a ob xs ea =>
      cases (show u = Value.ref a from rx)
      obtain ⟨_, _, _, n, _, h1⟩ := (show ObjOk X.prog X.w H s.heap a (.frz ob (.lst xs)) from I.hok a _ ea)
      exact ⟨_, _, PySem.W.kitx_list, fun h' q => ⟨_, q _ _ (h_noP hP ea (fun z => by cases z) h1), rfl⟩, (fun z => nomatch z), kit_ty k⟩
    | @tup a xs ea =>
      cases (show u = Value.ref a from rx)
      obtain ⟨_, _, _, o, h1, h2, _⟩ := (show ObjOk X.prog X.w H s.heap a (.tup xs) from I.hok a _ ea)
      exact ⟨_, _, PySem.W.kitx_tuple, fun h' q => ⟨o, q _ _ (h_noP hP ea (fun z => by cases z) h1), h2⟩, (fun z => nomatch z), kit_ty k⟩
    | @dK a kvs ea =>
      cases (show u = Value.ref a from rx)
      obtain ⟨_, _, vs, _, o, es, ep, h1, h2, _⟩ := (show ObjOk X.prog X.w H s.heap a (.dK kvs) from I.hok a _ ea)
      exact ⟨_, _, PySem.W.kitx_dict, fun h' q => ⟨o, q _ _ (h_noP hP ea (fun z => by cases z) h1), h2.1⟩, (fun z => nomatch z), kit_ty k⟩
    | @dT a kvs ea =>
      cases (show u = Value.ref a from rx)
      obtain ⟨_, _, xs, _, o, es, ep, h1, h2, _⟩ := (show ObjOk X.prog X.w H s.heap a (.dT kvs) from I.hok a _ ea)
      exact ⟨_, _, PySem.W.kitx_dict, fun h' q => ⟨o, q _ _ (h_noP hP ea (fun z => by cases z) h1), h2.1⟩, (fun z => nomatch z), kit_ty k⟩
  | byt y => obtain ⟨t, q⟩ := (show ∃ t, u = Value.bytes y t from rx); cases q; exact ⟨_, _, PySem.W.kitx_bytes, fun _ _ => True.intro, (fun z => nomatch z), kit_ty k⟩
  | @set a S n ea =>
    cases (show u = Value.ref a from rx)
    obtain ⟨o, _, _, _, e, ex, _⟩ := I.hok a _ ea
    exact ⟨_, _, PySem.W.kitx_set, fun h' q => ⟨o, q _ _ (h_noP hP ea (fun z => by cases z) e), ex.1⟩, (fun z => nomatch z), kit_ty k⟩
  | @kList a o e c =>
    cases (show u = Value.ref a from rx)
    exact ⟨_, _, PySem.W.kitx_list, fun h' q => ⟨o, q _ _ (k_noP I hP e), c⟩, (fun z => nomatch z), kit_ty k⟩
  | @kTuple a o e c =>
    cases (show u = Value.ref a from rx)
    exact ⟨_, _, PySem.W.kitx_tuple, fun h' q => ⟨o, q _ _ (k_noP I hP e), c⟩, (fun z => nomatch z), kit_ty k⟩
  | @kDict a o e c =>
    cases (show u = Value.ref a from rx)
    exact ⟨_, _, PySem.W.kitx_dict, fun h' q => ⟨o, q _ _ (k_noP I hP e), c⟩, (fun z => nomatch z), kit_ty k⟩
  | @fTuple a ob xs ea =>
    cases (show u = Value.ref a from rx)
    obtain ⟨_, _, _, _, o, h1, h2, _⟩ := (show ObjOk X.prog X.w H s.heap a (.frz ob (.tup xs)) from I.hok a _ ea)
    exact ⟨_, _, PySem.W.kitx_tuple, fun h' q => ⟨o, q _ _ (h_noP hP ea (fun z => by cases z) h1), h2⟩, (fun z => nomatch z), kit_ty k⟩
  | @fDict a ob kvs ea =>
    cases (show u = Value.ref a from rx)
    obtain ⟨_, _, _, vs, _, o, es, ep, h1, h2, _⟩ := (show ObjOk X.prog X.w H s.heap a (.frz ob (.dK kvs)) from I.hok a _ ea)
    exact ⟨_, _, PySem.W.kitx_dict, fun h' q => ⟨o, q _ _ (h_noP hP ea (fun z => by cases z) h1), h2.1⟩, (fun z => nomatch z), kit_ty k⟩
/-- whether x is a whole number above 0; a pair -/
def AbV (K : PySem.W.Frag) (H : Hp) (x : V) (b : Bool) : Prop := ∃ T b1 b2, TyX K H x (.type T) ∧ kitB T "int" = some b1 ∧ kitB T "bool" = some b2 ∧ ((b1 && !b2) = true → ∃ i, x = .int i ∧ b = decide (0 < i)) ∧ ((b1 && !b2) = false → b = false)
def PrV (K : PySem.W.Frag) (H : Hp) (x : V) (b : Bool) : Prop := ∃ T bt, TyX K H x (.type T) ∧ kitB T "tuple" = some bt ∧ (bt = false → b = false) ∧
  (bt = true → ∃ p xs, x = .ref p ∧ SqT K H p xs ∧ (xs.length ≠ 2 → b = false) ∧ (xs.length = 2 → ∃ y z by' bz, xs = [y, z] ∧ AbV K H y by' ∧ AbV K H z bz ∧ b = (by' && bz)))
theorem ab_of {x : V} {u : Value} {b : Bool} (I : Inv X pins σ H s) (hP : H P = some (tabO P)) (rx : RelV x u) (h : AbV X.K H x b) : RAbove X.K (noP s.heap P) u b := by
  obtain ⟨T, b1, b2, ty, k1, k2, h1, h2⟩ := h
  refine ⟨_, ⟨b1, b2, isI_of I hP rx ty k1, isI_of I hP rx ty k2, rfl⟩, fun e => ?_, h2⟩
  obtain ⟨i, rfl, rfl⟩ := h1 e
  obtain ⟨t, q⟩ := (show ∃ t, u = Value.int i t from rx)
  exact ⟨i, t, q, rfl⟩
theorem pr_of {x : V} {u : Value} {b : Bool} (I : Inv X pins σ H s) (hP : H P = some (tabO P)) (rx : RelV x u) (h : PrV X.K H x b) : RPair X.K (noP s.heap P) u b := by
  obtain ⟨T, bt, ty, k1, h1, h2⟩ := h
  refine ⟨bt, isI_of I hP rx ty k1, h1, fun e => ?_⟩
  obtain ⟨p, xs, rfl, hS, h3, h4⟩ := h2 e
  obtain rfl : u = Value.ref p := rx
  obtain ⟨its, rv, ht, hz⟩ := I.tuple hS
  have hlen := rv.length
  have np : p ≠ P := fun z => by
    rcases hS with (h | ⟨o, h⟩) | ⟨o, its, n, h1, _⟩
    · rw [z, hP] at h; cases h
    · rw [z, hP] at h; cases h
    · have := (I.bs p o (I.ok.mod.kin p o h1)).2
      rw [z, hP] at this; cases this
  have hz2 : sizeLine < 2 ^ 40 := by decide
  refine ⟨p, its.toArray, rfl, ?_, by rw [List.size_toArray]; omega, fun c => h3 (by rw [List.size_toArray] at c; omega), fun c => ?_⟩
  · obtain ⟨o, e1, r⟩ := ht
    exact ⟨o, noP_get np e1, r⟩
  · obtain ⟨y, z, by', bz, rfl, a1, a2, rfl⟩ := h4 (by rw [List.size_toArray] at c; omega)
    obtain ⟨u1, u2, rfl, r1, r2⟩ := vals2 rv
    exact ⟨u1, u2, by', bz, rfl, ab_of I hP r1 a1, ab_of I hP r2 a2, rfl⟩
end
end GG

set_option Elab.async false
set_option linter.all false
set_option maxRecDepth 100000
set_option maxHeartbeats 4000000
namespace GG
open PySem PySem.Spec PyProof.Rows L2
theorem pair_at {α β : Type} {F : α → β → Prop} : ∀ {xs : List α} {ys : List β} {i : Nat} {x : α}, Paired F xs ys → xs[i]? = some x → ∃ y, ys[i]? = some y ∧ F x y
  | _, _, i, x, .nil, h => by simp at h
  | _, _, 0, x, .cons r _, h => ⟨_, rfl, by rw [← Option.some.inj h]; exact r⟩
  | _, _, i + 1, x, .cons _ t, h => pair_at (i := i) t h
theorem boot_all' : bootBuiltins "all" = some (.builtin "all") := by decide +kernel
/-- the element -/
def EltQ (prog : Program) (w : World) (K : PySem.W.Frag) (mg : Str → Option Value) (scope : Scope) (x : Str) (elt : Expr) (D : Nat) (rel : Heap → Value → Bool → Prop) : Prop :=
  ∀ (cenv : Env) (A' : Around) (E' : Value → Shared → Prop) (v : Value) (b : Bool) (s₂ : Shared) (m₂ : Str → Option Value), cenv.scope = scope → QE cenv → A'.handled = none → A'.depth + D < recursionLimit → QB K mg s₂.heap → s₂.heap.Ns cenv.locals m₂ → m₂ x = some v → rel s₂.heap v b →
    wpAny (model prog w) A' (eval elt cenv) (fun y s₃ => y = .bool b ∧ Keeps s₂ s₃) E' s₂
theorem elt_call {prog : Program} {w : World} {K : PySem.W.Frag} {mg : Str → Option Value} {scope : Scope} {x fn : Str} {D : Nat} {f : Addr} {R : Heap → Value → Bool → Prop} {p1 p2 p3 : Pos} (F : QFn prog w K mg D f R) (hk : PySem.W.keepIn K (.ref f) = true)
    (hl : scope.names.lookup x = some .local) (hd : (x == ("__debug__" : Str)) = false) (g1 : scope.names.lookup fn = some .globalImplicit) (m1 : mg fn = some (.ref f)) (hfd : (fn == ("__debug__" : Str)) = false) :
    EltQ prog w K mg scope x (.Call (.Name fn p1) [.Name x p2] [] p3) D R := by
  intro cenv A' E' v b s₂ m₂ hs e hh hD B hn hm hR
  exact q_call F hh hD hk e B (by rw [hs]; exact hl) hn hm hd (by show cenv.scope.names.lookup fn = _; rw [hs]; exact g1) m1 hfd hR fun s' kp => ⟨rfl, kp⟩
section
variable {X : Cx} {pins : List (Addr × Obj)} {σ : L2.St} {H : Hp} {s : Shared}
/-- the generator g over things that are asked for bs, ready to be walked, in the state s5; H1: what was held before -/
def ReadyV (X : Cx) (pins : List (Addr × Obj)) (σ : L2.St) (H1 : Hp) (bs : List Bool) (g : Addr) (s5 : Shared) : Prop :=
  ∃ (fp wr : List Addr) (G : Array GenState → Array GenState → Prop) (F : Nat → Value → Prop) (St : Nat → Shared → Prop),
    WalksS X.prog X.w X.A.in1 g fp wr G bs.length F St ∧ St 0 s5 ∧ TruthOf X.prog X.w X.A.in1 F (fun j => bs.getD j true) ∧
    ∀ s', Moved wr G s5 s' → Inv X pins σ H1 s'
theorem gen_lstV {c P : Addr} {elt iter : Expr} {x : Str} {px gpos : Pos} {scope : Scope} {D : Nat} {rel : Heap → Value → Bool → Prop} {relV : Hp → V → Bool → Prop} {te : TE} {k : Nat} {Q' : Value → Shared → Prop} {R : List Bool → Hp → Prop}
    (hr : Room k X.A) (hD : D ≤ 3 * k + 4) (TB : GxR.TabB X.base X.mg c P) (hcode : X.env.code = .ref c) (S : GxR.GenS X.env scope x) (hi : PE X iter te) (hel : EltQ X.prog X.w X.K X.mg scope x elt D rel)
    (mono : ∀ (h h' : Heap) v b, (∀ b o, h.get? b = some o → h'.get? b = some o) → rel h v b → rel h' v b)
    (conv : ∀ (s1 : Shared) (H1 : Hp) (y : V) (u : Value) (b : Bool), Inv X pins σ H1 s1 → H1 P = some (tabO P) → RelV y u → relV H1 y b → rel (noP s1.heap P) u b)
    (hs : ∀ v, genFold iter X.env v = pure v) (I : Inv X pins σ H s) (h : te σ H fun v H1 => ∃ (yl : Addr) (xs : List V) (bs : List Bool), v = .ref yl ∧ SqL X.K H1 yl xs ∧ H1 P = some (tabO P) ∧ Paired (relV H1) xs bs ∧ R bs H1)
    (hQ : ∀ bs H1 g s5, R bs H1 → ReadyV X pins σ H1 bs g s5 → Q' (.ref g) s5) :
    wpAny (model X.prog X.w) X.A (eval (.GeneratorExp elt [⟨.Name x px, iter, [], 0⟩] scope gpos) X.env) Q' X.xe s := by
  refine wpAny_GeneratorExp_walksQD hr.hd S.co (closure_ok S.free) S.cell S.dot S.loc S.kind (by have := hr.dp; omega) ?_ hs
  refine thn (hi.run pins s σ H _ I h) fun xv s1 ⟨v, H1, I1, r1, q1⟩ => ?_
  obtain ⟨yl, xs, bs, rfl, hyl, hP, hrel, q1⟩ := q1
  obtain rfl : xv = Value.ref yl := r1
  obtain ⟨ps, hPs, ht⟩ := (show ObjOk X.prog X.w H1 s1.heap P (tabO P) from I1.hok P _ hP).1
  obtain ⟨its, rv, hl, hz⟩ := I1.list hyl
  have hIL := hl.isList
  have hlen : its.length = bs.length := by rw [← rv.length]; exact Paired.length hrel
  have hat : ∀ (i : Nat) (v : Value), its.toArray[i]? = some v → ∃ b : Bool, bs[i]? = some b ∧ rel (noP s1.heap P) v b := fun i v hv => by
    have hv2 : its[i]? = some v := by simpa using hv
    have hi2 : i < its.length := (List.getElem?_eq_some_iff.mp hv2).1
    have hx : i < xs.length := by have := rv.length; omega
    obtain ⟨u, hu, ru⟩ := rv.get (List.getElem?_eq_getElem hx)
    rw [hv2] at hu
    cases hu
    obtain ⟨b, hb, rb⟩ := pair_at hrel (List.getElem?_eq_getElem hx)
    exact ⟨b, hb, conv s1 H1 _ _ _ I1 hP ru rb⟩
  refine wpAny_pyIter_list hIL ?_
  generalize ho : ({ cls := .type "list_iterator", data := .fields #[.ref yl, .int 0 0] } : Obj) = o
  have hitr : (s1.heap.push o).IsListIter s1.heap.objs.size yl 0 := by
    subst ho
    exact ⟨_, Heap.get?_push_size _ rfl, rfl, rfl⟩
  have hylt : yl < s1.heap.objs.size := by
    obtain ⟨_, e, _⟩ := _root_.id hIL
    exact Heap.lt_size e
  have hPlt : P < s1.heap.objs.size := Heap.lt_size hPs
  have hP2 : (s1.heap.push o).get? P = some { cls := .none, data := .fields ps } := Heap.get?_push_of_some _ hPs
  have cd : PySem.W.CodeHd (s1.heap.push o) c P := TB.code.keeps fun b u e => Heap.get?_push_of_some _ (I1.bk b u e)
  have lim2 : (s1.heap.push o).NoLimit := I1.nolimit.push o
  have cont : ∀ (code : Value) (h3 : Heap) (tk : Nat) (ps' : Array Value), Heap.ExtBut P (s1.heap.push o) h3 → (s1.heap.push o).objs.size ≤ h3.objs.size → h3.get? P = some { cls := .none, data := .fields ps' } → TriplesOk ps'.toList →
      wpAny (model X.prog X.w) X.A (builtinsFor X.env.globals X.env.builtins) (fun bi s₄ =>
        ∃ Ia fp wr n₀ Pf St₀ pz F, Value.ref s1.heap.objs.size = .ref Ia ∧ (∀ A' : Around, A'.handled = none → Walks X.prog X.w A' Ia fp wr n₀ Pf St₀) ∧ St₀ 0 s₄.heap ∧ (∀ b ∈ fp, b < s₄.heap.objs.size) ∧ s₄.heap.NoLimit ∧ cStatics ∉ wr ∧
          (∀ href : Heap, (∀ b o, s₄.heap.get? b = some o → href.get? b = some o) →
            QuietGenD X.prog X.w (genEnv scope (cloFrom X.env.cells scope.names []) s₄.heap.objs.size code bi X.env) x [] elt (List.range s₄.heap.objs.size) wr Pf pz F href (X.A.depth + 1) (X.A.units + 8)) ∧
          (∀ a h₅ tk gs, gs.bare = true → s₄.heap.objs.size < a → h₅.objs.size = a + 1 → (∀ b o, s₄.heap.get? b = some o → h₅.get? b = some o) →
            WalksS X.prog X.w X.A.in4 a (a :: s₄.heap.objs.size :: List.range s₄.heap.objs.size) (s₄.heap.objs.size :: wr) (GenOnlyQ s₄.gens.size) (passing pz n₀ 0).length
              (fun j y => ∃ i, (passing pz n₀ 0)[j]? = some i ∧ F i y) (GenAt X.prog X.w X.A.in4 a s₄.gens.size s₄.heap.objs.size (List.range s₄.heap.objs.size) wr pz n₀ F) →
            GenAt X.prog X.w X.A.in4 a s₄.gens.size s₄.heap.objs.size (List.range s₄.heap.objs.size) wr pz n₀ F 0 { s₄ with gens := s₄.gens.push gs, toks := tk, heap := h₅ } →
            Q' (.ref a) { s₄ with gens := s₄.gens.push gs, toks := tk, heap := h₅ })) X.xe { s1 with heap := h3, toks := tk } := by
    intro code h3 tk ps' hx hsz hP3 ht3
    obtain ⟨bm, ob, e1, e2, e3, e4, e5, e6, e7, e8⟩ := TB.bm
    have hcP : cStatics ≠ P := fun e => by
      obtain ⟨_, hns, _⟩ := I1.nolimit
      obtain ⟨o', es, ep, ho, hd, _⟩ := hns
      rw [e, hPs] at ho
      cases ho
      cases hd
    have hcl : cStatics < s1.heap.objs.size := let ⟨_, hns, _⟩ := I1.nolimit; hns.lt
    have sz2 : (s1.heap.push o).objs.size = s1.heap.objs.size + 1 := Heap.size_push ..
    have keep3 : ∀ b u, b ≠ P → s1.heap.get? b = some u → h3.get? b = some u := fun b u hb e => hx b u hb (Heap.get?_push_of_some _ e)
    refine wpAny_builtinsFor (m := X.mg) (by rw [I1.ok.glob]; exact ((I1.mod.glob.keeps I1.bk).push o).extBut hx TB.gP) e1 e2 (keep3 _ _ e4 (I1.bk _ _ e5)) e6 e7 e8 ?_
    have hylP : yl ≠ P := fun z => by
      obtain ⟨_, e, hc1, _, hd1⟩ := _root_.id hIL
      rw [z, hPs] at e
      cases e
      cases hd1
    have hIL3 : h3.IsList yl its.toArray := by
      obtain ⟨ob, e, r⟩ := _root_.id hIL
      exact ⟨ob, keep3 _ _ hylP e, r⟩
    have hItr3 : h3.IsListIter s1.heap.objs.size yl 0 := hitr.at fun u e => hx _ u (Nat.ne_of_gt hPlt) e
    refine ⟨s1.heap.objs.size, [s1.heap.objs.size, yl], [s1.heap.objs.size], its.toArray.size, (fun i v => its.toArray[i]? = some v), (fun i h => h.IsListIter s1.heap.objs.size yl i ∧ h.IsList yl its.toArray), (fun _ => true),
      (fun i y => ∃ b : Bool, bs[i]? = some b ∧ y = .bool b), rfl, (fun A' hA => Walks.list hA _ _ (Nat.ne_of_lt hylt) _), ⟨hItr3, hIL3⟩, ?_, lim2.extBut hx hcP, ?_, ?_, ?_⟩
    · intro b hb
      rcases List.mem_cons.mp hb with z | z
      · rw [z]
        show s1.heap.objs.size < h3.objs.size
        omega
      · rcases List.mem_cons.mp z with z | z
        · rw [z]
          have e9 : s1.heap.objs.size ≤ h3.objs.size := by omega
          exact Nat.lt_of_lt_of_le hylt e9
        · cases z
    · intro z
      rcases List.mem_cons.mp z with z | z
      · exact Nat.ne_of_lt hcl z
      · cases z
    · intro href hhref
      have up : ∀ (s₂ : Shared), (∀ b ∈ List.range h3.objs.size, b ∉ [s1.heap.objs.size] → ∀ o, href.get? b = some o → s₂.heap.get? b = some o) → ∀ b o, (noP s1.heap P).get? b = some o → s₂.heap.get? b = some o := fun s₂ hk b o e => by
        obtain ⟨e1, e2⟩ := of_noP e
        have e3 := keep3 b o e2 e1
        exact hk b (List.mem_range.mpr (Heap.lt_size e3)) (by simpa using Nat.ne_of_lt (Heap.lt_size e1)) o (hhref b o e3)
      refine ⟨fun A' E' i v s₂ m₂ hA hd hu hPv hn hm hk => ?_, fun A' E' i v s₂ m₂ hA hd hu hPv hp hn hm hk => ?_⟩
      · simp only [List.forIn_nil]
        exact wpAny_pure ⟨rfl, GxR.keeps_refl _⟩
      · obtain ⟨b, hb, rb⟩ := hat i v hPv
        have hup := up s₂ hk
        have B : QB X.K X.mg s₂.heap := QB.of I1.mod fun b o e => by
          obtain ⟨g1, g2⟩ := I1.bs b o e
          exact hup b o (noP_get (fun z => by rw [z, hP] at g2; cases g2) g1)
        refine wpAny_mono (hel _ A' E' v b s₂ m₂ rfl ⟨S.kind, I1.ok.glob, rfl⟩ hA (by have := hr.dp; omega) B hn hm (mono _ _ _ _ hup rb)) (fun y s3 r => ?_) fun _ _ e => e
        obtain ⟨rfl, kp⟩ := r
        exact ⟨⟨b, hb, rfl⟩, kp⟩
    · intro g h5 tk5 gs hgb hag hsz5 hk5 W5 hgat
      simp only [GxR.passing_true, List.length_range] at W5
      have hn5 : its.toArray.size = bs.length := by rw [List.size_toArray, hlen]
      rw [hn5] at W5 hgat
      refine hQ bs H1 g _ q1 ⟨_, _, _, _, _, W5.in4_1, hgat, ?_, fun s' hm => ?_⟩
      · intro j y sj Qj Ej hy hQj
        obtain ⟨i, hij, b, hb, rfl⟩ := hy
        obtain ⟨hj, ej⟩ := List.getElem?_eq_some_iff.mp hij
        rw [List.getElem_range] at ej
        subst ej
        refine wpAny_truthy_bool ?_
        have e9 : bs.getD j true = b := by rw [List.getD_eq_getElem?_getD, hb]; rfl
        have hQ2 : Qj (bs.getD j true) sj := hQj
        rw [e9] at hQ2
        exact hQ2
      · have nwr : ∀ b u, s1.heap.get? b = some u → b ∉ h3.objs.size :: [s1.heap.objs.size] := fun b u e hb => by
          have hl := Heap.lt_size e
          rcases List.mem_cons.mp hb with z | z
          · rw [z] at hl
            have h9 : (h3.objs.size : Nat) < s1.heap.objs.size := hl
            omega
          · rcases List.mem_cons.mp z with z | z
            · rw [z] at hl
              exact Nat.lt_irrefl _ hl
            · cases z
        have J := inv_grow (h' := s'.heap) (g' := s'.gens) (d' := s'.drawn) (t' := s'.toks) I1 hP (fun b u hb e => hm.heap b u (nwr b u e) (hk5 b u (keep3 b u hb e)))
          (hm.heap P _ (nwr P _ hPs) (hk5 P _ hP3)) ht3 (AllBare.movedS (I1.bare.push hgb) hm)
        rw [GxR.sh_eta s1 s' hm.os] at J
        exact J
  refine ⟨lim2, ?_⟩
  cases hf : codeAmong gpos ps.toList with
  | none =>
    refine wpAny_genexprCodeX hcode (cd.code hP2 ht) (cd.tab hP2) hf fun c' h' tk hx hge hlt hco' _ htab' _ => ?_
    obtain ⟨o1, vs, f1, tf, fl, tg, inF, tx, tt, op, _, _, _, _, _, _, _, _, _, htr, _⟩ := hco'
    exact cont _ h' tk _ hx (Nat.le_trans hge (Nat.le_of_lt hlt)) htab'.2 htr
  | some cv =>
    refine wpAny_genexprCode_hit hcode (cd.code hP2 ht) hf ?_
    exact cont cv (s1.heap.push o) s1.toks ps (Heap.ExtBut.refl _ _) (Nat.le_refl _) hP2 ht
theorem all_getD : ∀ bs : List Bool, (List.range bs.length).all (fun j => bs.getD j true) = bs.all id := fun bs => by
  rw [Bool.eq_iff_iff, List.all_eq_true, List.all_eq_true]
  constructor
  · intro h b hb
    obtain ⟨j, hj, e⟩ := List.getElem_of_mem hb
    have q := h j (List.mem_range.mpr hj)
    rw [List.getD_eq_getElem?_getD, List.getElem?_eq_getElem hj] at q
    rw [← e]
    exact q
  · intro h j hj
    have hj' := List.mem_range.mp hj
    rw [List.getD_eq_getElem?_getD, List.getElem?_eq_getElem hj']
    exact h _ (List.getElem_mem hj')
/-- all(f(x) for x in xs) -/
def tAllG (K : PySem.W.Frag) (P : Addr) (relV : Hp → V → Bool → Prop) (te : TE) : TE := fun σ H Q => te σ H fun v H1 => ∃ (yl : Addr) (xs : List V) (bs : List Bool), v = .ref yl ∧ SqL K H1 yl xs ∧ H1 P = some (tabO P) ∧ Paired (relV H1) xs bs ∧ Q (.bl (bs.all id)) H1
theorem pe_allG {c P : Addr} {elt iter : Expr} {x : Str} {px p pos gpos : Pos} {scope : Scope} {D : Nat} {rel : Heap → Value → Bool → Prop} {relV : Hp → V → Bool → Prop} {te : TE} {k : Nat}
    (hr : Room k X.A) (hg : Gl X "all") (hm : X.mg "all" = none) (hD : D ≤ 3 * k + 4) (TB : GxR.TabB X.base X.mg c P) (hcode : X.env.code = .ref c) (S : GxR.GenS X.env scope x) (hi : PE X iter te) (hel : EltQ X.prog X.w X.K X.mg scope x elt D rel)
    (mono : ∀ (h h' : Heap) v b, (∀ b o, h.get? b = some o → h'.get? b = some o) → rel h v b → rel h' v b)
    (conv : ∀ (pins : List (Addr × Obj)) (σ : L2.St) (s1 : Shared) (H1 : Hp) (y : V) (u : Value) (b : Bool), Inv X pins σ H1 s1 → H1 P = some (tabO P) → RelV y u → relV H1 y b → rel (noP s1.heap P) u b)
    (hs : ∀ v, genFold iter X.env v = pure v)
    (he : starEach [.GeneratorExp elt [⟨.Name x px, iter, [], 0⟩] scope gpos] X.env = (false, eval (.GeneratorExp elt [⟨.Name x px, iter, [], 0⟩] scope gpos) X.env) :: starEach [] X.env := by rfl) :
    PE X (.Call (.Name "all" p) [.GeneratorExp elt [⟨.Name x px, iter, [], 0⟩] scope gpos] [] pos) (tAllG X.K P relV te) := by
  refine ⟨fun pins s σ H Q I h => ?_⟩
  refine wpAny_Call_Name_kw (ld_blt I hg hm boot_all' ?_)
  refine PyProof.Rows.callWith_builtin1 ?_ he (by rfl)
  rw [he]
  show wpAny _ _ (spliced ((false, eval (.GeneratorExp elt [⟨.Name x px, iter, [], 0⟩] scope gpos) X.env) :: backTo pos (starEach [] X.env))) _ _ s
  refine Calls.spliced_cons (gen_lstV (R := fun bs H1 => Q (.bl (bs.all id)) H1) hr hD TB hcode S hi hel mono (conv pins σ) hs I h fun bs H1 g s5 hR hG => ?_)
  obtain ⟨fp, wr, G, F, St, W, hst, htr, hI⟩ := hG
  refine Calls.spliced_nil ?_
  refine call_all_walkS (W.self 0 _ _ _ hst ⟨g, fp, wr, G, _, F, St, _, rfl, W, hst, htr, fun s' hmv => ?_⟩)
  refine ⟨.bl _, H1, hI s' hmv, rfl, ?_⟩
  rw [all_getD bs]
  exact hR
end
end GG

set_option Elab.async false
set_option linter.all false
set_option maxRecDepth 100000
set_option maxHeartbeats 4000000
namespace GG
open PySem PySem.Spec PyProof.Rows L2
/-! ### the end, with tables that may grow -/
theorem law_callG {P : Program} {w : World} {K : PySem.W.Frag} {mg mb : Str → Option Value} {CX : CXT} {k : Nat} {fa a : Addr} {cs : List (Addr × Addr)} {fd : FuncData} {x : Str} {sp : Sp} {s₁ : Shared} {vs : List Value} {ns : List Int}
    (KX : K.In s₁.heap) (hns : s₁.heap.Ns mainGlobals mg) (hb : s₁.heap.Ns builtinsNs mb) (hbb : ∀ x : Str, x ≠ "__name__" → mb x = bootBuiltins x) (hlim : s₁.heap.NoLimit) (hg : s₁.gens = #[])
    (hT : ∀ p ∈ cs, s₁.heap.get? p.2 = some { cls := .none, data := .fields #[] }) (nT : ∀ p ∈ cs, K.lookup p.2 = none) (C : ∀ p ∈ cs, PySem.W.CodeHd s₁.heap p.1 p.2)
    (hbm : ∃ (bm : Addr) (ob : Obj), mg "__builtins__" = some (.ref bm) ∧ bm ≠ builtinsNs ∧ s₁.heap.get? bm = some ob ∧ ob.cls = .type "module" ∧ ob.dict = some builtinsNs ∧ ob.data = .plain)
    (ha : s₁.heap.get? a = some { cls := .type "list", data := .seq vs.toArray }) (hi : IntsAre vs ns) (hl : ns.length ≤ sizeLine) (hr : Room k callerA)
    (F : ∀ base : Heap, K.In base → base.Ns mainGlobals mg → (∀ p ∈ cs, GxR.TabB base mg p.1 p.2) → FnOk P w K mg base CX k fa fd [x] sp) (hbind : ∀ (s : Shared) (u : Value), BindsTo s fd ⟨[u], []⟩ [(x, u)])
    (hsp : ∀ H : Hp, (∀ p ∈ cs, H p.2 = some (tabO p.2)) → SqL K H a (ns.map V.int) → sp [.ref a] H (fun v H' => v = .bl true ∧ ∀ p ∈ cs, H' p.2 = some (tabO p.2)) fun _ _ _ => False)
    (hCX : ∀ H e s', CX [] H s₁ (fun _ _ _ => False) e s' → False) :
    codeAny (model P w) callerA (.call (.ref fa) ⟨[.ref a], []⟩) (fun r s' => r = .ok (.ret (.bool true)) ∧ OldK s₁.heap s'.heap ∧ s'.os = s₁.os ∧ AllBare s'.gens) s₁ := by
  have rv := vals_ints hi
  have lenV := hi.length
  have isT : ∀ b : Addr, b ∈ cs.map (·.2) → s₁.heap.get? b = some { cls := .none, data := .fields #[] } := fun b hb => by
    obtain ⟨p, hp, e⟩ := List.mem_map.mp hb
    rw [← e]
    exact hT p hp
  have aT : a ∉ cs.map (·.2) := fun z => by
    have q := isT a z
    rw [ha] at q
    have z' : Data.seq vs.toArray _ = Data.fields #[] := congrArg Obj.data (Option.some.inj q)
    cases z'
  have memT : ∀ p ∈ cs, p.2 ∈ cs.map (·.2) := fun p hp => List.mem_map.mpr ⟨p, hp, rfl⟩
  have tabOk : ∀ (H : Hp) (b : Addr), b ∈ cs.map (·.2) → ObjOk P w H s₁.heap b (tabO b) := fun H b hb => ⟨⟨#[], isT b hb, trivial⟩, ⟨_, isT b hb⟩, fun h1 h2 ⟨ps, e, t⟩ q => ⟨ps, q _ e, t⟩⟩
  have core : ∀ H : Hp, (∀ p ∈ cs, H p.2 = some (tabO p.2)) → (∀ b, H b = none ∨ b ∈ cs.map (·.2) ∨ ∃ o xs, H b = some (.frz o (.lst xs))) → SqL K H a (ns.map V.int) → HOk P w H s₁.heap → (∀ b, H b ≠ none → b = a ∨ b ∈ cs.map (·.2)) → (H a ≠ none → K.lookup a = none) →
      codeAny (model P w) callerA (.call (.ref fa) ⟨[.ref a], []⟩) (fun r s' => r = .ok (.ret (.bool true)) ∧ OldK s₁.heap s'.heap ∧ s'.os = s₁.os ∧ AllBare s'.gens) s₁ := by
    intro H hH hO hS hok hA hK
    have base_of : ∀ {b : Addr} {o : Obj}, s₁.heap.get? b = some o → H b = none → (hidT s₁.heap H).get? b = some o := fun e n => hidT_get e n
    have noD : ∀ {b : Addr} {o : Obj}, s₁.heap.get? b = some o → (∀ vs n, o.data ≠ .seq vs n) → o.data ≠ .fields #[] → H b = none := fun {b o} e h1 h2 => by
      cases q : H b with
      | none => rfl
      | some u =>
        rcases hA b (by rw [q]; simp) with e' | e'
        · rw [e', ha] at e
          cases e
          exact (h1 _ _ rfl).elim
        · rw [isT b e'] at e
          cases e
          exact (h2 rfl).elim
    have noA : ∀ {b : Addr} {o : Obj} {es : Array DictEntry} {ep : Nat}, s₁.heap.get? b = some o → o.data = .dict es ep → H b = none := fun {b o es ep} e d => by
      refine noD e (fun vs n z => ?_) fun z => ?_
      · rw [d] at z
        cases z
      · rw [d] at z
        cases z
    have nsK : ∀ {b : Addr} {m : Str → Option Value}, s₁.heap.Ns b m → (hidT s₁.heap H).Ns b m := fun {b m} ⟨o, es, ep, e, d, r⟩ => ⟨o, es, ep, base_of e (noA e d), d, r⟩
    have hKb : K.In (hidT s₁.heap H) := fun b o e => base_of (KX b o e) (by
      cases q : H b with
      | none => rfl
      | some u =>
        rcases hA b (by rw [q]; simp) with e' | e'
        · rw [e'] at e q
          rw [hK (by rw [q]; simp)] at e
          cases e
        · obtain ⟨p, hp, ep⟩ := List.mem_map.mp e'
          rw [← ep, nT p hp] at e
          cases e)
    have hM : L2.Mod K mg (hidT s₁.heap H) := ⟨hKb, nsK hns, ⟨mb, nsK hb, hbb⟩, let ⟨mc, h1, h2⟩ := hlim; ⟨mc, nsK h1, h2⟩⟩
    have TB : ∀ p ∈ cs, GxR.TabB (hidT s₁.heap H) mg p.1 p.2 := fun p hp => by
      have hTp := hT p hp
      refine ⟨?_, ?_, fun z => ?_⟩
      · obtain ⟨o, us, file, tf, flags, tg, inF, text, tt, e1, r1, r2, r3, r4, r5, r6, r7, r8, hne⟩ := C p hp
        refine ⟨o, us, file, tf, flags, tg, inF, text, tt, base_of e1 (noD e1 (fun vs n z => ?_) fun z => ?_), r1, r2, r3, r4, r5, r6, r7, r8, hne⟩
        · rw [r2] at z
          cases z
        · rw [r2] at z
          cases z
          simp at r3
      · obtain ⟨bm, ob, b1, b2, b3, b4, b5, b6⟩ := hbm
        have nG : bm ≠ mainGlobals := fun q => by
          obtain ⟨o, es, ep, e, hd, _⟩ := hns
          rw [q, e] at b3
          cases b3
          rw [hd] at b6
          cases b6
        have nP : bm ≠ p.2 := fun q => by
          rw [q, hTp] at b3
          cases b3
          cases b6
        refine ⟨bm, ob, b1, b2, nG, nP, base_of b3 (noD b3 (fun vs n z => ?_) fun z => ?_), b4, b5, b6⟩
        · rw [b6] at z
          cases z
        · rw [b6] at z
          cases z
      · obtain ⟨o, es, ep, e, hd, _⟩ := hns
        rw [z, hTp] at e
        cases e
        cases hd
    have e0 : Env0 P w K mg (hidT s₁.heap H) callerA [] s₁ H := ⟨rfl, hM, fun b o e => of_hidT e, Nat.le_of_eq (hidT_size _ _), trivial, fun b hb => absurd (show b ∈ ([] : List Addr) from hb) (by simp), hok, .of_eq hg⟩
    refine codeAny_mono ((F _ hKb (nsK hns) TB).run callerA [] s₁ H ⟨[.ref a], []⟩ [.ref a] [.ref a] _ _ hr e0 (hbind s₁ (.ref a)) (.cons rfl .nil) (hsp H hH hS)) fun r s' h => ?_
    cases r with
    | error e => exact (hCX H e s' h).elim
    | ok fl =>
      cases fl with
      | next => exact False.elim h
      | brk => exact False.elim h
      | cont => exact False.elim h
      | ret u =>
        obtain ⟨v, H', os, bare, un, hok', r', q⟩ := h
        obtain ⟨q', qT⟩ := q
        subst q'
        obtain rfl : u = Value.bool true := r'
        have key : ∀ b o, b ∉ cs.map (·.2) → s₁.heap.get? b = some o → s'.heap.get? b = some o := fun b o nb e => by
          cases q : H b with
          | none => exact un.keep b o e q (by intro z; exact absurd (show b ∈ ([] : List Addr) from z) (by simp)) (by simp)
          | some u =>
            rcases hO b with z | z | ⟨ob, xs, z⟩
            · rw [q] at z; cases z
            · exact absurd z nb
            · have z2 := un.frzs b ob _ z
              obtain ⟨e1, _⟩ := hok b _ z
              obtain ⟨e2, _⟩ := hok' b _ z2
              rw [e] at e1; cases e1
              exact e2
        have grown : ∀ p ∈ cs, ∃ more : Array Value, s'.heap.get? p.2 = some { cls := .none, data := .fields more } := fun p hp => by
          obtain ⟨ps, e, _⟩ := (show ObjOk P w H' s'.heap p.2 (tabO p.2) from hok' p.2 _ (qT p hp)).1
          exact ⟨ps, e⟩
        refine ⟨rfl, ⟨fun b o e => ?_, fun b o e => ?_⟩, os, bare⟩
        · by_cases hb : b ∈ cs.map (·.2)
          · obtain ⟨p, hp, ep⟩ := List.mem_map.mp hb
            obtain ⟨more, hm⟩ := grown p hp
            rw [← ep] at e ⊢
            rw [hT p hp] at e
            cases e
            exact .inr (.inl ⟨((C p hp).tab (hT p hp)).isCodeTable, rfl, #[], more, rfl, by rw [Array.empty_append]; exact hm⟩)
          · exact .inl (key b o hb e)
        · by_cases hb : b ∈ cs.map (·.2)
          · obtain ⟨p, hp, ep⟩ := List.mem_map.mp hb
            obtain ⟨more, hm⟩ := grown p hp
            rw [← ep]
            exact ⟨_, hm⟩
          · exact ⟨o, key b o hb e⟩
  cases hk : K.lookup a with
  | some o =>
    have e := KX a o hk
    rw [ha] at e
    cases e
    refine core (fun b => if b ∈ cs.map (·.2) then some (tabO b) else none) (fun p hp => if_pos (memT p hp)) (fun b => ?_) (.inr ⟨_, vs.toArray, _, hk, rfl, rfl, rfl, by rw [List.size_toArray, lenV]; exact hl, by simpa using rv⟩) (fun b u z => ?_) (fun b z => ?_) fun z => absurd (show (if a ∈ cs.map (·.2) then some (tabO a) else none) = none from if_neg aT) z
    · by_cases hb : b ∈ cs.map (·.2)
      · exact .inr (.inl hb)
      · exact .inl (if_neg hb)
    · by_cases hb : b ∈ cs.map (·.2)
      · have z' := (if_pos hb).symm.trans z
        cases z'
        exact tabOk _ b hb
      · have z' := (if_neg hb).symm.trans z
        cases z'
    · by_cases hb : b ∈ cs.map (·.2)
      · exact .inr hb
      · exact absurd (if_neg hb) z
  | none =>
    refine core (fun b => if b = a then some (.frz { cls := .type "list", data := .seq vs.toArray } (.lst (ns.map V.int))) else if b ∈ cs.map (·.2) then some (tabO b) else none) (fun p hp => (if_neg (show ¬ p.2 = a from fun z => aT (by rw [← z]; exact memT p hp))).trans (if_pos (memT p hp))) (fun b => ?_)
      (.inl (.inr ⟨{ cls := .type "list", data := .seq vs.toArray }, if_pos rfl⟩)) (fun b u z => ?_) (fun b z => ?_) fun _ => hk
    · by_cases hb : b = a
      · exact .inr (.inr ⟨_, _, if_pos hb⟩)
      · by_cases hb2 : b ∈ cs.map (·.2)
        · exact .inr (.inl hb2)
        · exact .inl ((if_neg hb).trans (if_neg hb2))
    · by_cases hb : b = a
      · have z' := (if_pos hb).symm.trans z
        cases z'
        rw [hb]
        exact ⟨ha, by rw [List.length_map]; exact hl, vs, _, rv, ha⟩
      · have z1 := (if_neg hb).symm.trans z
        by_cases hb2 : b ∈ cs.map (·.2)
        · have z' := (if_pos hb2).symm.trans z1
          cases z'
          exact tabOk _ b hb2
        · have z' := (if_neg hb2).symm.trans z1
          cases z'
    · by_cases hb : b = a
      · exact .inl hb
      · by_cases hb2 : b ∈ cs.map (·.2)
        · exact .inr hb2
        · exact absurd ((if_neg hb).trans (if_neg hb2)) z
/-- where the code object and the table of the def called x stand -/
def TabOf (K : PySem.W.Frag) (mg : Str → Option Value) (h : Heap) (x : Str) (c P : Addr) : Prop :=
  (∀ (f : Addr) (o : Obj) (fd : FuncData), mg x = some (.ref f) → K.lookup f = some o → o.data = .func fd → fd.code = .ref c) ∧ PySem.W.CodeHd h c P ∧ h.get? P = some { cls := .none, data := .fields #[] } ∧ K.lookup P = none
theorem walk_ofG {l : PySem.W.OpenLaw} {n k : Nat} {q : Program} {loose : List Str} {XP : (Str → Option Value) → Heap → Prop} {YP : World → Heap → Prop} {d : DefRec} {K : Params → PySem.W.Frag} {CX : World → CXT} {sp : World → List Addr → Sp} {x : Str} {xs : List Str}
    (hn : l.most = some n) (hn2 : n ≤ sizeLine) (hdf : d.params.defaults = []) (hr : Room k callerA) (hrec : (xs.all fun y => (recsOf q).any fun e => e.name == y) = true)
    (hY : ∀ (w : World) (h : Heap), YP w h → (K w.params).In h) (hnt : ∀ w : World, PySem.W.noTabs (K w.params) = true)
    (F : ∀ (w : World) (mg : Str → Option Value) (fa : Addr) (h : Heap) (cs : List (Addr × Addr)), (K w.params).In h → h.Ns mainGlobals mg → mg d.name = some (.ref fa) → Paired (fun y p => TabOf (K w.params) mg h y p.1 p.2) xs cs →
      ∃ fd : FuncData, (∀ (s : Shared) (u : Value), BindsTo s fd ⟨[u], []⟩ [(x, u)]) ∧
        ∀ base : Heap, (K w.params).In base → base.Ns mainGlobals mg → (∀ p ∈ cs, GxR.TabB base mg p.1 p.2) → FnOk l.prog w (K w.params) mg base (CX w) k fa fd [x] (sp w (cs.map (·.2))))
    (hsp : ∀ (w : World) (H : Hp) (a : Addr) (ns : List Int) (ps : List Addr), ns.length ≤ n → (∀ z ∈ ns, Builtin.Int.intBits z ≤ 1048576) → (∀ p ∈ ps, H p = some (tabO p)) → SqL (K w.params) H a (ns.map V.int) → sp w ps [.ref a] H (fun v H' => v = .bl true ∧ ∀ p ∈ ps, H' p = some (tabO p)) fun _ _ _ => False)
    (hCX : ∀ (w : World) (H : Hp) (s : Shared) (e : Value) (s' : Shared), CX w [] H s (fun _ _ _ => False) e s' → False) :
    PySem.W.WalkO q loose XP YP l.row.toRowW d [] (fun f vs => PySem.call f vs) := by
  refine Att.attach_callB hn hdf fun w s₀ s₁ mg mb fa o pm cd doc a vs ns G Y ho hd hcd hmg hobj hints hlen hbits hg => ?_
  have KX := hY w _ Y
  have tabs : ∀ ys : List Str, (∀ y ∈ ys, ((recsOf q).any fun e => e.name == y) = true) → ∃ cs : List (Addr × Addr), Paired (fun y p => TabOf (K w.params) mg s₁.heap y p.1 p.2) ys cs := by
    intro ys
    induction ys with
    | nil => exact fun _ => ⟨[], .nil⟩
    | cons y ys ih =>
      intro hy
      obtain ⟨cs, hc⟩ := ih fun z hz => hy z (List.mem_cons_of_mem _ hz)
      obtain ⟨dL, hm, hn1⟩ := List.any_eq_true.mp (hy y List.mem_cons_self)
      have hn2 : dL.name = y := beq_iff_eq.mp hn1
      obtain ⟨a', o', fd', c', P', h1, h2, h3, h4, h5, h6⟩ := G.T.tab dL hm
      rw [hn2] at h1
      refine ⟨(c', P') :: cs, .cons ⟨fun f o fd e1 e2 e3 => ?_, PySem.W.CodeHd.of h5 h6, h6.2, ?_⟩ hc⟩
      · rw [h1] at e1
        cases e1
        have g1 := KX _ _ e2
        rw [h2] at g1
        cases g1
        rw [h3] at e3
        cases e3
        exact h4
      · cases e : (K w.params).lookup P' with
        | none => rfl
        | some o =>
          have g1 := KX _ _ e
          rw [h6.2] at g1
          cases g1
          have h2 := List.all_eq_true.mp (hnt w) _ (PySem.W.mem_of_lookupK e)
          exact absurd (show false = true from h2) Bool.false_ne_true
  obtain ⟨cs, hcs⟩ := tabs xs (List.all_eq_true.mp hrec)
  have all : ∀ p ∈ cs, PySem.W.CodeHd s₁.heap p.1 p.2 ∧ s₁.heap.get? p.2 = some { cls := .none, data := .fields #[] } ∧ (K w.params).lookup p.2 = none := by
    clear hsp F
    clear hrec
    induction hcs with
    | nil => intro p hp; cases hp
    | cons r t ih =>
      intro p hp
      rcases List.mem_cons.mp hp with e | hp
      · rw [e]; exact r.2
      · exact ih p hp
  obtain ⟨fd, hb, hF⟩ := F w mg fa _ cs KX G.T.g hmg hcs
  exact law_callG (cs := cs) KX G.T.g G.T.b G.T.builtins G.T.nolimit hg (fun p hp => (all p hp).2.1) (fun p hp => (all p hp).2.2) (fun p hp => (all p hp).1) G.T.bmain hobj hints (Nat.le_trans hlen hn2) hr hF hb
    (fun H hH hS => by
      have := hsp w H a ns (cs.map (·.2)) hlen hbits (fun p hp => by
        obtain ⟨q, hq, e⟩ := List.mem_map.mp hp
        rw [← e]
        exact hH q hq) hS
      have e : (fun (v : V) (H' : Hp) => v = .bl true ∧ ∀ p ∈ cs.map (·.2), H' p = some (tabO p)) = (fun v H' => v = .bl true ∧ ∀ p ∈ cs, H' p.2 = some (tabO p.2)) := by
        funext v H'
        refine propext ⟨fun h => ⟨h.1, fun p hp => h.2 p.2 (List.mem_map.mpr ⟨p, hp, rfl⟩)⟩, fun h => ⟨h.1, fun p hp => ?_⟩⟩
        obtain ⟨q, hq, e⟩ := List.mem_map.mp hp
        rw [← e]
        exact h.2 q hq
      rw [e] at this
      exact this) fun H e s' => hCX w H s₁ e s'
end GG
namespace GG
open PySem PySem.Spec PyProof.Rows L2 Evl
/-- a def whose code object's table may grow -/
structure TabAt (mg : Str → Option Value) (base : Heap) (fd : FuncData) where
  c : Addr
  P : Addr
  tb : GxR.TabB base mg c P
  code : fd.code = .ref c
theorem okC {P : Program} {w : World} {K : PySem.W.Frag} {mg : Str → Option Value} {base : Heap} {x qual : Str} {st : Stmt} {f : Addr} {fd : FuncData} {N ps : List Str} {k : Nat} {sp : Sp} (F : Fun K x qual st f fd) (S : FnScope N ps (defScope st)) (len : ∀ vs H Q E, sp vs H Q E → vs.length = ps.length)
    (hbody : ∀ (cdv : Value) (A : Around) (outer : List Env) (s : Shared) (H : Hp) (vs : List V) (Q : VK) (E : XK), fd.code = cdv → Room k (A.deeper (envOfC qual (defScope st) s.heap.objs.size f cdv)) → sp vs H Q E →
      ∃ t, PSs (cxOf CX0 P w K mg base N qual (defScope st) f cdv A outer s H E).nox (defBody st) t ∧ t { nx := fun _ H' => Q .non H', rt := Q } (start N vs) H) : FnOk P w K mg base CX0 (k + 1) f fd ps sp := by
  obtain ⟨oc, od, kV, doc, pm, an, cdv, ct, osl, rfl, lk, hcd⟩ := F.ex
  refine fn_of lk hcd S len fun A outer s H vs Q E hr hsp => ?_
  obtain ⟨t, h, q⟩ := hbody cdv A outer s H vs Q E rfl hr hsp
  exact ⟨t, h.nox, q⟩
theorem ev_allG {K : PySem.W.Frag} {P yl : Addr} {relV : Hp → V → Bool → Prop} {σ : L2.St} {H : Hp} {te : TE} {xs : List V} {bs : List Bool} (ha : Ev te σ H (.ref yl)) (hS : SqL K H yl xs) (hP : H P = some (tabO P)) (hp : ∀ H1, Ex H H1 → Paired (relV H1) xs bs) :
    Ev (tAllG K P relV te) σ H (.bl (bs.all id)) := fun H1 e Q q => ha H1 e _ fun H2 e2 => ⟨yl, xs, bs, rfl, ex_l (e.trans e2) hS, (e.trans e2) P _ hP, hp H2 (e.trans e2), q H2 e2⟩
end GG

set_option Elab.async false
set_option linter.all false
set_option maxRecDepth 100000
set_option maxHeartbeats 4000000
set_option exponentiation.threshold 300
namespace Mt
open PySem PySem.Spec PyProof.Rows L2 Evl KM
/-! ### xor, sums of worths -/
theorem rv_xor {H : Hp} {m n : Nat} : RV (rI0 fun i j => .int (Builtin.bitXor i j)) (.int (m : Int)) (.int (n : Int)) H (.int ((m ^^^ n : Nat) : Int)) := by
  have h := rv_I0 (H := H) (g := fun i j => V.int (Builtin.bitXor i j)) (i := (m : Int)) (j := (n : Int))
  rw [Bits.bitXor_pp (Int.natCast_nonneg _) (Int.natCast_nonneg _), Int.toNat_natCast, Int.toNat_natCast] at h
  exact h
theorem wn_int {p : Int × Int} (ha : 0 < p.1) (hb : 0 < p.2) : worthF p.1 p.2 = (KG.wn p : Int) := (Int.toNat_of_nonneg (worthF0 ha hb)).symm
theorem worth_le {a b : Int} (ha : 0 < a) (hb : 0 < b) : worthF a b ≤ mxF a b := by
  have h := Int.ediv_le_self (mnF a b) (show 0 ≤ mxF a b by unfold mxF; split <;> omega)
  unfold worthF worthLH
  split <;> omega
theorem wn_W {k : Nat} {p : Int × Int} (h : 0 < p.1 ∧ 0 < p.2 ∧ W k p.1 ∧ W k p.2) : KG.wn p < 2 ^ k := by
  obtain ⟨ha, hb, wa, wb⟩ := h
  have h1 := worth_le ha hb
  have h2 : (mxF p.1 p.2).natAbs < 2 ^ k := by unfold mxF; split <;> assumption
  unfold KG.wn
  have h3 := worthF0 ha hb
  omega
theorem xs_W {k : Nat} : ∀ {ws : List Nat}, (∀ w ∈ ws, w < 2 ^ k) → KN.xs ws < 2 ^ k
  | [], _ => Nat.pow_pos (by decide)
  | w :: ws, h => by
    rw [KN.xs_cons]
    exact Nat.xor_lt_two_pow (h w List.mem_cons_self) (xs_W fun x hx => h x (List.mem_cons_of_mem _ hx))
theorem sum_W {k : Nat} {ps : Prs} (h : PB k ps) : KG.sumF ps < 2 ^ k := xs_W fun w hw => by
  obtain ⟨p, hp, rfl⟩ := List.mem_map.mp hw
  exact wn_W (h p hp)
theorem sum_succ {ps : Prs} {i : Nat} {p : Int × Int} (h : ps[i]? = some p) : KG.sumF (ps.take (i + 1)) = KG.sumF (ps.take i) ^^^ KG.wn p := by
  have hl := (List.getElem?_eq_some_iff.mp h).1
  have e : ps.take (i + 1) = ps.take i ++ [p] := by
    rw [List.take_succ, h]
    rfl
  unfold KG.sumF
  rw [e, List.map_append, KN.xs_append]
  show _ ^^^ (KG.wn p ^^^ 0) = _
  rw [Nat.xor_zero]
/-! ### a list changes; the pairs stay -/
theorem sqt_upd {K : PySem.W.Frag} {H : Hp} {l q : Addr} {xs zs : List V} {o : HO} (hl : H l = some (.lst xs)) (h : SqT K H q zs) : SqT K (upd H l o) q zs := by
  rcases h with (h | ⟨u, h⟩) | h
  · exact .inl (.inl (by rw [upd_ne (fun z => by rw [z, hl] at h; cases h)]; exact h))
  · exact .inl (.inr ⟨u, by rw [upd_ne (fun z => by rw [z, hl] at h; cases h)]; exact h⟩)
  · exact .inr h
theorem Tps.upd {K : PySem.W.Frag} {H : Hp} {l : Addr} {xs : List V} {o : HO} (hl : H l = some (.lst xs)) : ∀ {vs : List V} {ps : Prs}, Tps K H vs ps → Tps K (upd H l o) vs ps
  | _, _, .nil => .nil
  | _, _, .cons h r => .cons (sqt_upd hl h) (Tps.upd hl r)
theorem cutV_take (xs : List V) (n : Nat) : cutV xs none (some (n : Int)) = xs.take n := by
  unfold cutV
  rw [HT.sIx_none, HT.sIx_nat, List.drop_zero, Nat.sub_zero]
  by_cases c : n ≤ xs.length
  · rw [Nat.min_eq_left c]
  · rw [Nat.min_eq_right (by omega), List.take_of_length_le (Nat.le_refl _), List.take_of_length_le (by omega)]
theorem cutV_drop (xs : List V) (n : Nat) : cutV xs (some (n : Int)) none = xs.drop n := by
  unfold cutV
  rw [HT.sIx_none, HT.sIx_nat]
  by_cases c : n ≤ xs.length
  · rw [Nat.min_eq_left c, List.take_of_length_le (by rw [List.length_drop]; omega)]
  · rw [Nat.min_eq_right (by omega), List.drop_eq_nil_of_le (by omega), List.drop_eq_nil_of_le (by omega)]
    simp
/-! ### what evaluates to pairs -/
section
variable {K : PySem.W.Frag} {mg : Str → Option Value} {σ : L2.St} {H H' : Hp} {ta tb tc te tx tl : TE} {t u : TT} {x y z v : V} {r : R2} {D : Ends} {tu tw tz : TS} {g : TG}
/-- a new list of these pairs -/
def EvP (K : PySem.W.Frag) (te : TE) (σ : L2.St) (H : Hp) (ps : Prs) : Prop := ∀ H1, Ex H H1 → ∀ Q : VK, (∀ p vs H2, H1 p = none → Ex H1 H2 → H2 p = some (.lst vs) → Tps K H2 vs ps → Q (.ref p) H2) → te σ H1 Q
/-- a new list of some pairs of which P holds -/
def EvPS (K : PySem.W.Frag) (te : TE) (σ : L2.St) (H : Hp) (P : Prs → Prop) : Prop := ∀ H1, Ex H H1 → ∀ Q : VK, (∀ p vs ps H2, P ps → H1 p = none → Ex H1 H2 → H2 p = some (.lst vs) → Tps K H2 vs ps → Q (.ref p) H2) → te σ H1 Q
/-- a new pair of which B holds -/
def EvPr (te : TE) (σ : L2.St) (H : Hp) (B : Int → Int → Prop) : Prop := ∀ H1, Ex H H1 → ∀ Q : VK, (∀ x y p H2, B x y → H1 p = none → Ex H1 H2 → H2 p = some (.tup [.int x, .int y]) → Q (.ref p) H2) → te σ H1 Q
theorem ep_of {vs : List V} {ps : Prs} (h : EvL te σ H vs) (s : Tps K H vs ps) : EvP K te σ H ps := fun H1 e Q q => h H1 e Q fun p H2 hp e2 h2 => q p vs H2 hp e2 h2 (s.mono (e.trans e2))
theorem EvP.mono {ps : Prs} (h : EvP K te σ H ps) (e : Ex H H') : EvP K te σ H' ps := fun H1 a Q q => h H1 (e.trans a) Q q
theorem ep_if {b : Bool} {ps : Prs} (h : EvT t σ H b) (h1 : b = true → EvP K ta σ H ps) (h2 : b = false → EvP K tb σ H ps) : EvP K (tIf t ta tb) σ H ps := fun H1 e Q q => h H1 e _ fun H2 e2 => by
  cases b with
  | true =>
    show ta σ H2 Q
    exact h1 rfl H2 (e.trans e2) Q fun p vs H3 hp e3 h3 s => q p vs H3 (fresh_back e2 hp) (e2.trans e3) h3 s
  | false =>
    show tb σ H2 Q
    exact h2 rfl H2 (e.trans e2) Q fun p vs H3 hp e3 h3 s => q p vs H3 (fresh_back e2 hp) (e2.trans e3) h3 s
theorem ep_take {a : Addr} {ps : Prs} {n : Nat} (h : Ev te σ H (.ref a)) (s : PL K H a ps) : EvP K (tSl (rSlL K) te tNoPart (tPart (tC (.int (n : Int))))) σ H (ps.take n) := by
  obtain ⟨vs, h1, h2⟩ := s
  have e := el_sl (K := K) (th := tPart (tC (.int (n : Int)))) h eo_none (eo_some (i := (n : Int)) ev_c) h1
  rw [cutV_take] at e
  exact ep_of e (h2.take n)
theorem ep_drop {a : Addr} {ps : Prs} {n : Nat} (h : Ev te σ H (.ref a)) (s : PL K H a ps) : EvP K (tSl (rSlL K) te (tPart (tC (.int (n : Int)))) tNoPart) σ H (ps.drop n) := by
  obtain ⟨vs, h1, h2⟩ := s
  have e := el_sl (K := K) (tl := tPart (tC (.int (n : Int)))) h (eo_some (i := (n : Int)) ev_c) eo_none h1
  rw [cutV_drop] at e
  exact ep_of e (h2.drop n)
theorem ep_copy {a : Addr} {ps : Prs} (h : Ev te σ H (.ref a)) (s : PL K H a ps) : EvP K (tCB (rListS K) (tCons te tNil)) σ H ps := by
  obtain ⟨vs, h1, h2⟩ := s
  exact ep_of (el_list h h1) h2
theorem ep_rev {a : Addr} {ps : Prs} (h : Ev te σ H (.ref a)) (s : PL K H a ps) : EvP K (tRevL K te) σ H ps.reverse := by
  obtain ⟨vs, h1, h2⟩ := s
  exact ep_of (el_rev h h1) h2.rev
theorem ep_cat {ps qs : Prs} (ha : EvP K ta σ H ps) (hb : EvP K tb σ H qs) (hz : ps.length + qs.length ≤ 100000) : EvP K (tOp rCat ta tb) σ H (ps ++ qs) := fun H1 e Q q =>
  ha H1 e _ fun a vs H2 _ e2 h2 s2 => hb H2 (e.trans e2) _ fun b us H3 _ e3 h3 s3 => ⟨a, b, vs, us, rfl, rfl, e3 a _ h2, h3, sz_of (by rw [s2.len, s3.len]; exact hz), fun p hp =>
    q p _ _ (fresh_back (e2.trans e3) hp) ((e2.trans e3).trans (Ex.new hp)) upd_same (Tps.mono (Ex.new hp) (Tps.app s3 (s2.mono e3)))⟩
theorem ep_catV {a : Addr} {vs : List V} {ps qs : Prs} (ha : Ev ta σ H (.ref a)) (h : H a = some (.lst vs)) (s : Tps K H vs ps) (hb : EvP K tb σ H qs) (hz : ps.length + qs.length ≤ 100000) : EvP K (tOp rCat ta tb) σ H (ps ++ qs) := fun H1 e Q q =>
  ha H1 e _ fun H2 e2 => hb H2 (e.trans e2) _ fun b us H3 _ e3 h3 s3 => ⟨a, b, vs, us, rfl, rfl, e3 a _ (e2 a _ (e a _ h)), h3, sz_of (by rw [s.len, s3.len]; exact hz), fun p hp =>
    q p _ _ (fresh_back (e2.trans e3) hp) ((e2.trans e3).trans (Ex.new hp)) upd_same (Tps.mono (Ex.new hp) (Tps.app s3 (s.mono ((e.trans e2).trans e3))))⟩
/-- new pairs, one behind the other -/
def EvAP (K : PySem.W.Frag) (ta : TA) (σ : L2.St) (H : Hp) (ps : Prs) : Prop := ∀ H1, Ex H H1 → ∀ Q : List V → Hp → Prop, (∀ vs H2, Ex H1 H2 → Tps K H2 vs ps → Q vs H2) → ta σ H1 Q
theorem eap_nil : EvAP K tNil σ H [] := fun H1 _ Q q => q [] H1 (Ex.refl H1) .nil
theorem eap_cons {tr : TA} {i j : Int} {ps : Prs} (h : EvU te σ H [.int i, .int j]) (hr : EvAP K tr σ H ps) : EvAP K (tCons te tr) σ H ((i, j) :: ps) := fun H1 e Q q =>
  h H1 e _ fun a H2 _ e2 h2 => hr H2 (e.trans e2) _ fun vs H3 e3 s => q (.ref a :: vs) H3 (e2.trans e3) (.cons (st_of (e3 a _ h2)) s)
theorem ep_lst {ta : TA} {ps : Prs} (h : EvAP K ta σ H ps) (hz : ps.length ≤ 100000) : EvP K (tLst ta) σ H ps := fun H1 e Q q =>
  h H1 e _ fun vs H2 e2 s => ⟨sz_of (by rw [s.len]; exact hz), fun p hp => q p vs _ (fresh_back e2 hp) (e2.trans (Ex.new hp)) upd_same (s.mono (Ex.new hp))⟩
theorem q_asgP {i : Nat} {ps : Prs} (h : EvP K te σ H ps) (k : ∀ p vs H1, H p = none → Ex H H1 → H1 p = some (.lst vs) → Tps K H1 vs ps → tz D (σ.set i (some (.ref p))) H1) : tSeq (tAsg te (gName i)) tz D σ H :=
  h H (Ex.refl H) _ fun p vs H1 hp e h1 s => k p vs H1 hp e h1 s
theorem q_asgPS {i : Nat} {P : Prs → Prop} (h : EvPS K te σ H P) (k : ∀ p vs ps H1, P ps → H p = none → Ex H H1 → H1 p = some (.lst vs) → Tps K H1 vs ps → tz D (σ.set i (some (.ref p))) H1) : tSeq (tAsg te (gName i)) tz D σ H :=
  h H (Ex.refl H) _ fun p vs ps H1 hP hp e h1 s => k p vs ps H1 hP hp e h1 s
theorem e1_call {sp : Sp} {vs : List V} {E : XK} {ta : TA} {B : Int → Int → Prop} (h : EvA ta σ H vs) (hs : ∀ H1, Ex H H1 → ∀ Q : VK, (∀ x y, B x y → RetU [.int x, .int y] H1 Q) → ∀ E, sp (vs ++ []) H1 Q E) : EvPr (tCall sp [] E ta) σ H B := fun H1 e Q q =>
  h H1 e _ fun H2 e2 => hs H2 (e.trans e2) Q (fun x y hB p H3 hp e3 h3 => q x y p H3 hB (fresh_back e2 hp) (e2.trans e3) h3) E
/-- [a new pair for i in range(n)] -/
theorem ep_compR1 {ta : TA} {j : Nat} {vs : List Nat} {n : Int} {B : Int → Int → Prop} (h : EvA ta σ H [.int n]) (hn : 0 ≤ n ∧ n ≤ 40000) (hw : ∀ x, wipe ((wipe σ vs).set j (some x)) vs = wipe σ vs)
    (he : ∀ (i : Nat) H1, Ex H H1 → (i : Int) < n → EvPr te ((wipe σ vs).set j (some (.int (i : Int)))) H1 B) : EvPS K (tLc (iRng1 ta) (gName j) tYes te vs) σ H (fun ps => ps.length = n.toNat ∧ ∀ p ∈ ps, B p.1 p.2) := fun H0 e Q q => h H0 e _ fun H1 e1 => ⟨n, rfl, by omega, by omega, fun Dl hD => by
  refine lc_range (lo := 0) (n := n.toNat) (fun i H' => H1 Dl = none ∧ Ex H1 H' ∧ ∃ vs ps, H' Dl = some (.lst vs) ∧ Tps K H' vs ps ∧ ps.length = i ∧ ∀ p ∈ ps, B p.1 p.2) ⟨hD, Ex.new hD, [], [], upd_same, .nil, rfl, fun _ hp => nomatch hp⟩ (fun i H' hi p => ?_) (fun H' p => ?_)
  · obtain ⟨p1, p2, us, ps, p3, p4, p5, p6⟩ := p
    have e0 : (0 : Int) + (i : Int) = (i : Int) := Int.zero_add _
    rw [e0]
    refine ⟨hw _, ?_⟩
    refine he i H1 (e.trans e1) (by omega) _ (p2.trans (Ex.refl _)) _ fun x y p H4 hB hp e4 h4 => ?_
    have h5 := e4 Dl _ p3
    refine ⟨us, h5, sz_lt (by rw [p4.len]; omega), p1, Ex.mut (p2.trans e4) p1, us ++ [.ref p], ps ++ [(x, y)], upd_same, ?_, by rw [List.length_append, p5]; rfl, fun q' hq => ?_⟩
    · exact Tps.app (.cons (sqt_upd h5 (st_of h4)) .nil) (Tps.upd h5 (p4.mono e4))
    · rcases List.mem_append.mp hq with z | z
      · exact p6 q' z
      · rw [List.mem_singleton.mp z]; exact hB
  · obtain ⟨p1, p2, us, ps, p3, p4, p5, p6⟩ := p
    exact q Dl us ps H' ⟨p5, p6⟩ (fresh_back e1 p1) (e1.trans p2) p3 p4⟩
/-- [a new pair told by p for p in a new list of pairs] -/
theorem ep_compN {ps : Prs} {j : Nat} {vs : List Nat} (f : Int × Int → Int × Int) (h : EvP K tl σ H ps) (hz : ps.length ≤ 40000) (hw : ∀ x, wipe ((wipe σ vs).set j (some x)) vs = wipe σ vs)
    (he : ∀ (q : Addr) (p : Int × Int) H1, Ex H H1 → p ∈ ps → SqT K H1 q [.int p.1, .int p.2] → EvU te ((wipe σ vs).set j (some (.ref q))) H1 [.int (f p).1, .int (f p).2]) : EvP K (tLc (iList K tl) (gName j) tYes te vs) σ H (ps.map f) := fun H0 e Q q =>
  h H0 e _ fun a us H1 ha e1 hx s => ⟨a, rfl, ⟨us, sq_of hx⟩, fun Dl hD => by
  refine lc_list (xs := us) (fun i H' => H1 Dl = none ∧ Ex H1 H' ∧ ∃ vs, H' Dl = some (.lst vs) ∧ Tps K H' vs ((ps.take i).map f)) ⟨hD, Ex.new hD, [], upd_same, .nil⟩ (fun i H' _ p => sq_of (p.2.1 a _ hx)) (fun i x H' hi p => ?_) (fun H' p => ?_)
  · obtain ⟨p1, p2, ws, p3, p4⟩ := p
    obtain ⟨b, p, rfl, hp, hb⟩ := s.at hi
    have hil := (List.getElem?_eq_some_iff.mp hp).1
    refine ⟨hw _, ?_⟩
    refine he b p H1 (e.trans e1) (List.mem_of_getElem? hp) hb _ p2 _ fun p' H4 hp' e4 h4 => ?_
    have h5 := e4 Dl _ p3
    refine ⟨ws, h5, sz_lt (by rw [p4.len, List.length_map, List.length_take]; omega), p1, Ex.mut (p2.trans e4) p1, ws ++ [.ref p'], upd_same, ?_⟩
    rw [List.take_succ, hp, List.map_append]
    exact Tps.app (.cons (sqt_upd h5 (st_of h4)) .nil) (Tps.upd h5 (p4.mono e4))
  · obtain ⟨p1, p2, ws, p3, p4⟩ := p
    rw [s.len, List.take_of_length_le (Nat.le_refl _)] at p4
    exact q Dl ws H' (fresh_back e1 p1) (e1.trans p2) p3 p4⟩
/-- [i for i, p in enumerate(ps) if ..] -/
theorem el_lcE {a : Addr} {xs : List V} {j1 j2 : Nat} {vs : List Nat} {tl : TA} (f : Nat → Bool) (w : Nat → V) (h : EvA tl σ H [.ref a]) (hx : SqL K H a xs) (hz : xs.length ≤ 40000)
    (hw : ∀ x y, wipe (((wipe σ vs).set j1 (some x)).set j2 (some y)) vs = wipe σ vs) (ht : ∀ (i : Nat) (x : V) H1, Ex H H1 → xs[i]? = some x → EvT t (((wipe σ vs).set j1 (some (.int (i : Int)))).set j2 (some x)) H1 (f i))
    (he : ∀ (i : Nat) (x : V) H1, Ex H H1 → xs[i]? = some x → f i = true → Ev te (((wipe σ vs).set j1 (some (.int (i : Int)))).set j2 (some x)) H1 (w i)) :
    EvL (tLc (iEnum K tl) (gTup K 2 (gCons (gName j1) (gCons (gName j2) gNil))) t te vs) σ H (given xs.length f w) := by
  intro H0 e Q q
  refine h H0 e _ fun H1 e1 => ⟨a, xs, rfl, ex_l (e.trans e1) hx, fun Dl hD => ?_⟩
  refine lc_it (walk_enum (xs := xs)) (Cw H1 f w Dl) ⟨hD, Ex.new hD, upd_same⟩ (fun i H' _ p => ex_l ((e.trans e1).trans p.2.1) hx) (fun i v H' H'' hi p hy => ?_) fun H' p => q Dl H' (fresh_back e1 p.1) (e1.trans p.2.1) p.2.2
  obtain ⟨T, x, y, rfl, hT, rfl, hx1, hy1⟩ := hy
  have hx2 : V.int (i : Int) = x := Option.some.inj hx1
  subst hx2
  obtain ⟨p1, p2, p3⟩ := p
  have nT : Dl ≠ T := ne_of_none p3 hT
  refine ⟨T, _, rfl, st_of upd_same, rfl, _, _, rfl, _, _, rfl, rfl, hw _ _, ?_⟩
  exact cw_turn ⟨p1, p2.trans (Ex.new hT), by rw [upd_ne nT]; exact p3⟩ (by omega) (ht i y H1 (e.trans e1) hy1) (fun hf => he i y H1 (e.trans e1) hy1 hf)
/-! ### arguments of which something holds -/
def Stable (P : V → Hp → Prop) : Prop := ∀ v H H', Ex H H' → P v H → P v H'
def EvAS (ta : TA) (σ : L2.St) (H : Hp) (P : List V → Hp → Prop) : Prop := ∀ H1, Ex H H1 → ∀ Q : List V → Hp → Prop, (∀ vs H2, Ex H1 H2 → P vs H2 → Q vs H2) → ta σ H1 Q
theorem es_of (h : Ev te σ H v) : EvS te σ H (fun w _ => w = v) := fun H1 e Q q => h H1 e Q fun H2 e2 => q v H2 e2 rfl
theorem stable_eq : Stable (fun w _ => w = v) := fun _ _ _ _ h => h
theorem eas_nil : EvAS tNil σ H (fun vs _ => vs = []) := fun H1 _ Q q => q [] H1 (Ex.refl H1) rfl
theorem eas_cons {tr : TA} {P : V → Hp → Prop} {R : List V → Hp → Prop} (h : EvS te σ H P) (st : Stable P) (hr : EvAS tr σ H R) : EvAS (tCons te tr) σ H (fun vs H' => ∃ v ws, vs = v :: ws ∧ P v H' ∧ R ws H') := fun H1 e Q q =>
  h H1 e _ fun v H2 e2 p => hr H2 (e.trans e2) _ fun ws H3 e3 r => q (v :: ws) H3 (e2.trans e3) ⟨v, ws, rfl, st v H2 H3 e3 p, r⟩
theorem ev_callAS {sp : Sp} {E : XK} {ta : TA} {P : List V → Hp → Prop} (h : EvAS ta σ H P) (hs : ∀ vs H1, Ex H H1 → P vs H1 → SpV sp (vs ++ []) H1 z) : Ev (tCall sp [] E ta) σ H z := fun H1 e Q q =>
  h H1 e _ fun vs H2 e2 p => hs vs H2 (e.trans e2) p H2 (Ex.refl H2) Q (fun H4 e4 => q H4 (e2.trans e4)) E
theorem es_callAS {sp : Sp} {E : XK} {ta : TA} {P : List V → Hp → Prop} {R : V → Hp → Prop} (h : EvAS ta σ H P) (hs : ∀ vs H1, Ex H H1 → P vs H1 → SpS sp (vs ++ []) H1 R) : EvS (tCall sp [] E ta) σ H R := fun H1 e Q q =>
  h H1 e _ fun vs H2 e2 p => hs vs H2 (e.trans e2) p H2 (Ex.refl H2) Q (fun v H4 e4 r => q v H4 (e2.trans e4) r) E
/-- a list of pairs as a value -/
def IsP (K : PySem.W.Frag) (ps : Prs) (v : V) (H : Hp) : Prop := ∃ a, v = .ref a ∧ PL K H a ps
theorem stable_P {ps : Prs} : Stable (IsP K ps) := fun _ _ _ e ⟨a, h, p⟩ => ⟨a, h, p.mono e⟩
theorem es_P {ps : Prs} (h : EvP K te σ H ps) : EvS te σ H (IsP K ps) := fun H1 e Q q => h H1 e Q fun p vs H2 _ e2 h2 s => q _ H2 e2 ⟨p, rfl, vs, sq_of h2, s⟩
theorem es_Pv {a : Addr} {ps : Prs} (h : Ev te σ H (.ref a)) (s : PL K H a ps) : EvS te σ H (IsP K ps) := fun H1 e Q q => h H1 e Q fun H2 e2 => q _ H2 e2 ⟨a, rfl, s.mono (e.trans e2)⟩
/-- lists of pairs, one behind the other; a list of them -/
def AllP (K : PySem.W.Frag) (pss : List Prs) (vs : List V) (H : Hp) : Prop := Paired (fun ps v => IsP K ps v H) pss vs
theorem AllP.mono (e : Ex H H') : ∀ {pss : List Prs} {vs : List V}, AllP K pss vs H → AllP K pss vs H'
  | _, _, .nil => .nil
  | _, _, .cons p r => .cons (stable_P _ _ _ e p) (AllP.mono e r)
def EvPP (K : PySem.W.Frag) (ta : TA) (σ : L2.St) (H : Hp) (pss : List Prs) : Prop := EvAS ta σ H (AllP K pss)
theorem epp_nil : EvPP K tNil σ H [] := fun H1 _ Q q => q [] H1 (Ex.refl H1) .nil
theorem epp_cons {tr : TA} {ps : Prs} {pss : List Prs} (h : EvS te σ H (IsP K ps)) (hr : EvPP K tr σ H pss) : EvPP K (tCons te tr) σ H (ps :: pss) := fun H1 e Q q =>
  h H1 e _ fun v H2 e2 p => hr H2 (e.trans e2) _ fun ws H3 e3 r => q (v :: ws) H3 (e2.trans e3) (.cons (stable_P _ _ _ e3 p) r)
def IsPP (K : PySem.W.Frag) (pss : List Prs) (v : V) (H : Hp) : Prop := ∃ a vs, v = .ref a ∧ SqL K H a vs ∧ AllP K pss vs H
theorem stable_PP {pss : List Prs} : Stable (IsPP K pss) := fun _ _ _ e ⟨a, vs, h, s, p⟩ => ⟨a, vs, h, ex_l e s, AllP.mono e p⟩
theorem es_PP {ta : TA} {pss : List Prs} (h : EvPP K ta σ H pss) (hz : pss.length ≤ 100000) : EvS (tLst ta) σ H (IsPP K pss) := fun H1 e Q q =>
  h H1 e _ fun vs H2 e2 s => ⟨sz_of (by rw [← Paired.length s]; exact hz), fun p hp => q _ _ (e2.trans (Ex.new hp)) ⟨p, vs, rfl, sq_of upd_same, AllP.mono (Ex.new hp) s⟩⟩
theorem all_at {pss : List Prs} {vs : List V} (h : AllP K pss vs H) {i : Nat} {v : V} (hi : vs[i]? = some v) : ∃ ps, ps ∈ pss ∧ IsP K ps v H := by
  obtain ⟨ps, h1, h2⟩ := paired_at h hi
  exact ⟨ps, List.mem_of_getElem? h1, h2⟩
/-- for some in [ps, qs, ..], the invariant without the turn's number -/
theorem q_forPP {pss : List Prs} {j : Nat} (h : EvS tl σ H (IsPP K pss)) (Pv : L2.St → Hp → Prop) (h0 : ∀ H1, Ex H H1 → Pv σ H1)
    (hs : ∀ (ps : Prs) a H1 σ' H', ps ∈ pss → PL K H1 a ps → Ex H H1 → Ex H1 H' → Pv σ' H' → tu { D with nx := fun σ'' H'' => Ex H1 H'' ∧ Pv σ'' H'', ct := fun σ'' H'' => Ex H1 H'' ∧ Pv σ'' H'', bk := tz D } (σ'.set j (some (.ref a))) H')
    (hd : ∀ σ' H', Pv σ' H' → tz D σ' H') : tSeq (tFor (iList K tl) (gName j) tu) tz D σ H := h H (Ex.refl H) _ fun v H1 e1 hp => by
  obtain ⟨l, vs, rfl, hl, hA⟩ := hp
  refine ⟨l, rfl, ⟨_, hl⟩, ?_⟩
  refine for_list (D := { D with nx := tz D }) (xs := vs) (fun i σ' H' => Ex H1 H' ∧ Pv σ' H') ⟨Ex.refl _, h0 _ e1⟩ (fun i σ' H' _ p => ex_l p.1 hl) (fun i x σ' H' hi p => ?_) fun σ' H' p => hd σ' H' p.2
  obtain ⟨ps, hps, a, rfl, ha⟩ := all_at hA hi
  exact hs ps a H1 σ' H' hps ha e1 p.1 p.2
theorem s_forPP {pss : List Prs} {j : Nat} (h : EvS tl σ H (IsPP K pss)) (Pv : L2.St → Hp → Prop) (h0 : ∀ H1, Ex H H1 → Pv σ H1)
    (hs : ∀ (ps : Prs) a H1 σ' H', ps ∈ pss → PL K H1 a ps → Ex H H1 → Ex H1 H' → Pv σ' H' → tu { D with nx := fun σ'' H'' => Ex H1 H'' ∧ Pv σ'' H'', ct := fun σ'' H'' => Ex H1 H'' ∧ Pv σ'' H'', bk := D.nx } (σ'.set j (some (.ref a))) H')
    (hd : ∀ σ' H', Pv σ' H' → D.nx σ' H') : tFor (iList K tl) (gName j) tu D σ H := q_forPP (tz := fun D => D.nx) h Pv h0 hs hd
theorem es_PPv {a : Addr} {pss : List Prs} {vs : List V} (h : Ev te σ H (.ref a)) (s : SqL K H a vs) (hA : AllP K pss vs H) : EvS te σ H (IsPP K pss) := fun H1 e Q q => h H1 e Q fun H2 e2 => q _ H2 e2 ⟨a, vs, rfl, ex_l (e.trans e2) s, AllP.mono (e.trans e2) hA⟩
/-- for p in pairs -/
theorem q_forT2 {a : Addr} {ps : Prs} {j : Nat} (h : Ev tl σ H (.ref a)) (s : PL K H a ps) (Pv : Nat → L2.St → Hp → Prop) (h0 : ∀ H1, Ex H H1 → Pv 0 σ H1)
    (hs : ∀ (i : Nat) (q : Addr) (p : Int × Int) H1 σ' H', ps[i]? = some p → SqT K H1 q [.int p.1, .int p.2] → Ex H H1 → Ex H1 H' → Pv i σ' H' → tu { D with nx := fun σ'' H'' => Ex H1 H'' ∧ Pv (i + 1) σ'' H'', ct := fun σ'' H'' => Ex H1 H'' ∧ Pv (i + 1) σ'' H'', bk := tz D } (σ'.set j (some (.ref q))) H')
    (hd : ∀ σ' H', Pv ps.length σ' H' → tz D σ' H') : tSeq (tFor (iList K tl) (gName j) tu) tz D σ H := h H (Ex.refl H) _ fun H1 e1 => by
  obtain ⟨vs, hl, hT⟩ := s
  refine ⟨a, rfl, ⟨_, ex_l e1 hl⟩, ?_⟩
  refine for_list (D := { D with nx := tz D }) (xs := vs) (fun i σ' H' => Ex H1 H' ∧ Pv i σ' H') ⟨Ex.refl _, h0 _ e1⟩ (fun i σ' H' _ p => ex_l (e1.trans p.1) hl) (fun i x σ' H' hi p => ?_) fun σ' H' p => hd σ' H' (by rw [← hT.len]; exact p.2)
  obtain ⟨q, pr, rfl, hp, hq⟩ := hT.at hi
  exact hs i q pr H1 σ' H' hp (ex_t e1 hq) e1 p.1 p.2
/-- pairs[i] -/
theorem pl_at {a : Addr} {ps : Prs} (h : PL K H a ps) {i : Int} {p : Int × Int} (h0 : 0 ≤ i) (hi : ps[i.toNat]? = some p) : ∃ q, SqT K H q [.int p.1, .int p.2] ∧ ∀ {H1 : Hp}, Ex H H1 → RV (rIxL K) (.ref a) (.int i) H1 (.ref q) := by
  obtain ⟨vs, h1, h2⟩ := h
  obtain ⟨q, hq, hs⟩ := h2.get hi
  exact ⟨q, hs, fun e => rv_ixL (ex_l e h1) (at_of (j := i.toNat) (by omega) hq)⟩
theorem pl_len {a : Addr} {ps : Prs} (h : PL K H a ps) : ∃ xs : List V, xs.length = ps.length ∧ SqL K H a xs := by
  obtain ⟨vs, h1, h2⟩ := h
  exact ⟨vs, h2.len, h1⟩
theorem ev_lenP {a : Addr} {ps : Prs} (h : PL K H a ps) (ha : Ev ta σ H (.ref a)) : Ev (tCB (rLenS K) (tCons ta tNil)) σ H (.int (ps.length : Int)) := by
  obtain ⟨xs, e, hs⟩ := pl_len h
  rw [← e]
  exact ev_len ha hs
/-- xs[i] = a new pair -/
theorem q_setP {l : Addr} {vs : List V} {ps : Prs} {i j k : Int} (hl : H l = some (.lst vs)) (s : Tps K H vs ps) (h : EvU te σ H [.int i, .int j]) (ho : Ev ta σ H (.ref l)) (hi : Ev tb σ H (.int k)) (h0 : 0 ≤ k) (hk : k.toNat < ps.length)
    (n : ∀ vs' H1, (∀ H0, Ex H0 H → H0 l = none → Ex H0 H1) → H1 l = some (.lst vs') → Tps K H1 vs' (ps.set k.toNat (i, j)) → tz D σ H1) : tSeq (tAsg te (gSub ta tb rSetL)) tz D σ H :=
  h H (Ex.refl H) _ fun p H1 _ e1 h1 => ho H1 e1 _ fun H2 e2 => hi H2 (e1.trans e2) _ fun H3 e3 => by
    have e := (e1.trans e2).trans e3
    have hl3 := e l _ hl
    refine ⟨l, vs, k, k.toNat, rfl, rfl, hl3, ?_, ?_⟩
    · unfold ixN
      rw [if_pos h0, if_pos (by rw [s.len]; omega)]
    · exact n _ _ (fun H0 e0 hn => Ex.mut (e0.trans e) hn) upd_same (Tps.upd hl3 (Tps.set (p := (i, j)) (st_of (e3 p _ (e2 p _ h1))) (s.mono e) k.toNat))
/-- lists of pairs compared -/
def tupD (p : Int × Int) : PyData := .tuple [.int p.1, .int p.2]
theorem dpall_pairs : ∀ {vs : List V} {ps : Prs}, Tps K H vs ps → DpAll K H vs (ps.map tupD)
  | _, _, .nil => .nil
  | _, _, .cons h r => .cons (.tup h (.cons (.int _) (.cons (.int _) .nil))) (dpall_pairs r)
theorem dp_pairs {a : Addr} {ps : Prs} (h : PL K H a ps) : ∀ H1, Ex H H1 → Dp K H1 (.ref a) (.list (ps.map tupD)) := fun H1 e => by
  obtain ⟨vs, h1, h2⟩ := h
  exact .lst (ex_l e h1) (dpall_pairs (h2.mono e))
end
theorem eqv_tupD (p q : Int × Int) : PyData.eqv (tupD p) (tupD q) = (decide (p.1 = q.1) && decide (p.2 = q.2)) := eqv_pair p.1 p.2 q.1 q.2
theorem eqvAll_pairs : ∀ ps : Prs, PyData.eqvAll (ps.map tupD) (ps.map tupD) = true
  | [] => by simp only [List.map_nil, PyData.eqvAll]
  | p :: ps => by
    rw [List.map_cons]
    simp only [PyData.eqvAll, eqvAll_pairs ps, eqv_tupD, decide_true, Bool.and_self]
theorem eqv_pairs (ps : Prs) : PyData.eqv (.list (ps.map tupD)) (.list (ps.map tupD)) = true := by
  simp only [PyData.eqv]
  exact eqvAll_pairs ps
theorem depth_pairs : ∀ ps : Prs, PyData.depthAll (ps.map tupD) ≤ 1
  | [] => by simp [PyData.depthAll]
  | p :: ps => by
    have h := depth_pairs ps
    rw [List.map_cons]
    simp only [PyData.depthAll, tupD, PyData.depth]
    have h2 : ∀ n : Nat, n ≤ 1 → max 1 n ≤ 1 := fun n hn => by omega
    simpa using h2 _ h
theorem lay_pairs : ∀ ps : Prs, PyData.canLayAll0 (ps.map tupD) = true
  | [] => by simp [PyData.canLayAll0]
  | p :: ps => by
    rw [List.map_cons]
    simp only [PyData.canLayAll0, lay_pairs ps, tupD, PyData.canLay0, Bool.and_self]
theorem sh_pairs (ps : Prs) : SeqAt.shaped (.list (ps.map tupD)) = true := by
  have h2 := depth_pairs ps
  unfold SeqAt.shaped
  rw [Bool.and_eq_true]
  refine ⟨?_, decide_eq_true ?_⟩
  · simp only [PyData.canLay0]
    exact lay_pairs ps
  · simp only [PyData.depth]
    omega
theorem rv_nePairs {K : PySem.W.Frag} {H : Hp} {a b : Addr} {ps : Prs} (ha : PL K H a ps) (hb : PL K H b ps) : RV (rNeD K) (.ref a) (.ref b) H (.bl false) := by
  have e := rv_neD (dp_pairs ha) (dp_pairs hb) (sh_pairs ps) (sh_pairs ps)
  rw [eqv_pairs] at e
  exact e
end Mt
/-! ### answers -/
namespace Mt
open PySem PySem.Spec PyProof.Rows L2 Evl KM
inductive Ans where
  | lost
  | won (i t : Int)
def Ans.isLost : Ans → Bool
  | .lost => true
  | .won _ _ => false
def Ans.isWon : Ans → Bool
  | .lost => false
  | .won _ _ => true
def pAt (ps : Prs) (i : Int) : Int × Int := ps.getD i.toNat (1, 1)
theorem pAt_some {ps : Prs} {i : Int} (h0 : 0 ≤ i) (h : i < ps.length) : ps[i.toNat]? = some (pAt ps i) := by
  have hl : i.toNat < ps.length := by omega
  unfold pAt
  rw [List.getD_eq_getElem?_getD, List.getElem?_eq_getElem hl]
  rfl
/-- whether an answer is as it is due -/
def dueF (ps : Prs) : Ans → Bool
  | .lost => decide (KG.sumF ps = 0)
  | .won i t => decide (0 ≤ i) && decide (i < ps.length) && (decide (1 ≤ t) && decide (t ≤ mostF (pAt ps i).1 (pAt ps i).2)) && decide (KG.sumF (ps.set i.toNat (KG.beh (pAt ps i) t)) = 0)
theorem due_won {ps : Prs} {i t : Int} (h : dueF ps (.won i t) = true) : 0 ≤ i ∧ i < ps.length ∧ 1 ≤ t ∧ t ≤ mostF (pAt ps i).1 (pAt ps i).2 ∧ KG.sumF (ps.set i.toNat (KG.beh (pAt ps i) t)) = 0 := by
  simp only [dueF, Bool.and_eq_true, decide_eq_true_eq] at h
  obtain ⟨⟨⟨a, b⟩, c, d⟩, e⟩ := h
  exact ⟨a, b, c, d, e⟩
/-- what the told answer is -/
def ToldF (ps : Prs) (A : Ans) : Prop := dueF ps A = true ∧ (A.isLost = decide (KG.sumF ps = 0))
theorem PB.beh {ps : Prs} {i t : Int} (h : PB 4000 ps) (h0 : 0 ≤ i) (hi : i < ps.length) (ht : 1 ≤ t) (hm : t ≤ mostF (pAt ps i).1 (pAt ps i).2) : PB 4000 (ps.set i.toNat (KG.beh (pAt ps i) t)) := by
  have hp := h _ (List.mem_of_getElem? (pAt_some h0 hi))
  obtain ⟨b1, b2⟩ := big_beh (a := (pAt ps i).1) (b := (pAt ps i).2) ⟨hp.1, hp.2.2.1⟩ ⟨hp.2.1, hp.2.2.2⟩ ht hm
  exact h.set (q := KG.beh (pAt ps i) t) ⟨b1.pos, b2.pos, b1.lt, b2.lt⟩ _
theorem PB.at {ps : Prs} {i : Int} (h : PB 4000 ps) (h0 : 0 ≤ i) (hi : i < ps.length) : Big (pAt ps i).1 ∧ Big (pAt ps i).2 := by
  have hp := h _ (List.mem_of_getElem? (pAt_some h0 hi))
  exact ⟨⟨hp.1, hp.2.2.1⟩, ⟨hp.2.1, hp.2.2.2⟩⟩
def wonFs (i t : Int) : List (Str × V) := putF "times" (.int t) (putF "at" (.int i) [])
theorem at_times : ¬ ("at" : Str) = "times" := by decide +kernel
theorem shows_times : ¬ ("shows" : Str) = "times" := by decide +kernel
theorem shows_at : ¬ ("shows" : Str) = "at" := by decide +kernel
theorem won_times (i t : Int) : (wonFs i t).lookup ("times" : Str) = some (.int t) := by
  unfold wonFs
  rw [lookup_putF, if_pos rfl]
theorem won_at (i t : Int) : (wonFs i t).lookup ("at" : Str) = some (.int i) := by
  unfold wonFs
  rw [lookup_putF, if_neg at_times, lookup_putF, if_pos rfl]
theorem won_shows (i t : Int) : (wonFs i t).lookup ("shows" : Str) = none := by
  unfold wonFs
  rw [lookup_putF, if_neg shows_times, lookup_putF, if_neg shows_at]
  rfl
/-- the answer's object at a -/
def AnsAt (CL CW : Addr) (H : Hp) (a : Addr) : Ans → Prop
  | .lost => ∃ dx, H a = some (.ins CL dx [])
  | .won i t => ∃ dx, H a = some (.ins CW dx (wonFs i t))
theorem AnsAt.mono {CL CW a : Addr} {H H' : Hp} (e : Ex H H') : ∀ {A : Ans}, AnsAt CL CW H a A → AnsAt CL CW H' a A
  | .lost, ⟨dx, h⟩ => ⟨dx, e a _ h⟩
  | .won _ _, ⟨dx, h⟩ => ⟨dx, e a _ h⟩
/-- what told gives -/
def IsTold (CL CW : Addr) (ps : Prs) (v : V) (H : Hp) : Prop := ∃ a A, v = .ref a ∧ AnsAt CL CW H a A ∧ ToldF ps A
def sp_told (K : PySem.W.Frag) (CL CW : Addr) (P : Addr) : Sp := fun vs H Q _ => ∃ (l : Addr) (ps : Prs), vs = [.ref l] ∧ PL K H l ps ∧ PB 4000 ps ∧ ps.length ≤ 100 ∧ H P = some (GG.tabO P) ∧ ∀ v H2, Ex H H2 → IsTold CL CW ps v H2 → Q v H2
theorem sps_told {K : PySem.W.Frag} {CL CW P l : Addr} {ps : Prs} {H : Hp} (h : PL K H l ps) (hb : PB 4000 ps) (hl : ps.length ≤ 100) (hP : H P = some (GG.tabO P)) : SpS (sp_told K CL CW P) [.ref l] H (IsTold CL CW ps) := fun H1 e Q q E => ⟨l, ps, rfl, h.mono e, hb, hl, e _ _ hP, q⟩
/-- a method that says whether an answer is as it is due -/
def sp_Lost_shows (K : PySem.W.Frag) (CL : Addr) : Sp := fun vs H Q _ => ∃ (a dx l : Addr) (ps : Prs), vs = [.ref a, .ref l] ∧ H a = some (.ins CL dx []) ∧ PL K H l ps ∧ PB 4000 ps ∧ ps.length ≤ 100 ∧ RetV (.bl (dueF ps .lost)) H Q
def sp_Won_shows (K : PySem.W.Frag) (CW : Addr) : Sp := fun vs H Q _ => ∃ (a dx l : Addr) (i t : Int) (ps : Prs), vs = [.ref a, .ref l] ∧ H a = some (.ins CW dx (wonFs i t)) ∧ PL K H l ps ∧ PB 4000 ps ∧ ps.length ≤ 100 ∧ RetV (.bl (dueF ps (.won i t))) H Q
def sp_Won_init (CW : Addr) : Sp := fun vs H Q _ => ∃ (x dx : Addr) (i t : Int), vs = [.ref x, .int i, .int t] ∧ H x = some (.ins CW dx []) ∧ ∀ H2, H2 x = some (.ins CW dx (wonFs i t)) → (∀ b o, H b = some o → b ≠ x → H2 b = some o) → Q .non H2
theorem es_won {K : PySem.W.Frag} {CL CW : Addr} {E : XK} {σ : L2.St} {H : Hp} {t : TA} {i j : Int} (h : EvA t σ H [.int i, .int j]) : EvS (tMake CW (sp_Won_init CW) [] E t) σ H (fun v H2 => ∃ a, v = .ref a ∧ AnsAt CL CW H2 a (.won i j)) :=
  (es_make (fs := wonFs i j) h fun x dx H1 e hx Q q => ⟨x, dx, i, j, rfl, hx, q⟩).imp fun v H1 _ ⟨a, dx, e, h⟩ => ⟨a, e, dx, h⟩
theorem es_lost {CL CW : Addr} {σ : L2.St} {H : Hp} : EvS (tMakeO CL) σ H (fun v H2 => ∃ a, v = .ref a ∧ AnsAt CL CW H2 a .lost) :=
  es_makeO.imp fun v H1 _ ⟨a, dx, e, h⟩ => ⟨a, e, dx, h⟩
/-- shows, of either class -/
theorem ev_shows {K : PySem.W.Frag} {CL CW : Addr} {E : XK} {σ : L2.St} {H : Hp} {ta tb : TE} {a l : Addr} {A : Ans} {ps : Prs} (hne : CW ≠ CL) (h : Ev ta σ H (.ref a)) (hA : AnsAt CL CW H a A) (hl : Ev tb σ H (.ref l)) (hP : PL K H l ps) (hb : PB 4000 ps) (h100 : ps.length ≤ 100) :
    Ev (tMeth2 CL CW "shows" (sp_Lost_shows K CL) (sp_Won_shows K CW) E ta (tCons tb tNil)) σ H (.bl (dueF ps A)) := by
  cases A with
  | lost =>
    obtain ⟨dx, hi⟩ := hA
    exact ev_meth2 h hi rfl (.inl rfl) (ea_cons hl ea_nil) (fun _ H1 e Q q E => ⟨a, dx, l, ps, rfl, e a _ hi, hP.mono e, hb, h100, q⟩) (fun z => absurd rfl z)
  | won i t =>
    obtain ⟨dx, hi⟩ := hA
    exact ev_meth2 h hi (won_shows i t) (.inr rfl) (ea_cons hl ea_nil) (fun z => absurd z hne) (fun _ H1 e Q q E => ⟨a, dx, l, i, t, ps, rfl, e a _ hi, hP.mono e, hb, h100, q⟩)
theorem ev_showsS {K : PySem.W.Frag} {CL CW : Addr} {E : XK} {σ : L2.St} {H : Hp} {ta tb : TE} {A : Ans} {ps : Prs} (hne : CW ≠ CL) (h : EvS ta σ H (fun v H' => ∃ a, v = .ref a ∧ AnsAt CL CW H' a A)) (hl : EvS tb σ H (IsP K ps)) (hb : PB 4000 ps) (h100 : ps.length ≤ 100) :
    Ev (tMeth2 CL CW "shows" (sp_Lost_shows K CL) (sp_Won_shows K CW) E ta (tCons tb tNil)) σ H (.bl (dueF ps A)) := fun H1 e Q q => h H1 e _ fun v H2 e2 hv => by
  obtain ⟨a, rfl, hA⟩ := hv
  cases A with
  | lost =>
    obtain ⟨dx, hi⟩ := hA
    refine ⟨a, CL, dx, [], rfl, hi, rfl, .inl rfl, hl H2 (e.trans e2) _ fun v2 H3 e3 hv2 => ?_⟩
    obtain ⟨l, rfl, hP⟩ := hv2
    exact ⟨fun _ => ⟨a, dx, l, ps, rfl, e3 a _ hi, hP, hb, h100, fun H4 e4 => q H4 ((e2.trans e3).trans e4)⟩, fun z => absurd rfl z⟩
  | won i t =>
    obtain ⟨dx, hi⟩ := hA
    refine ⟨a, CW, dx, wonFs i t, rfl, hi, won_shows i t, .inr rfl, hl H2 (e.trans e2) _ fun v2 H3 e3 hv2 => ?_⟩
    obtain ⟨l, rfl, hP⟩ := hv2
    exact ⟨fun z => absurd z hne, fun _ => ⟨a, dx, l, i, t, ps, rfl, e3 a _ hi, hP, hb, h100, fun H4 e4 => q H4 ((e2.trans e3).trans e4)⟩⟩
section
variable {K : PySem.W.Frag} {σ : L2.St} {H H' : Hp} {ta tb tc te tx tl : TE} {t u : TT} {x y z v : V} {r : R2} {D : Ends} {tu tw tz : TS} {g : TG}
/-- for k, x in enumerate(xs) -/
theorem s_forE {a : Addr} {xs : List V} {j1 j2 : Nat} {tl : TA} (h : EvA tl σ H [.ref a]) (hx : SqL K H a xs) (Pv : Nat → L2.St → Hp → Prop) (h0 : ∀ H1, Ex H H1 → Pv 0 σ H1) (hl : ∀ i σ' H', i ≤ xs.length → Pv i σ' H' → SqL K H' a xs)
    (hs : ∀ (i : Nat) x σ' H' H'', xs[i]? = some x → Ex H' H'' → Pv i σ' H' → tu { D with nx := Pv (i + 1), ct := Pv (i + 1), bk := D.nx } ((σ'.set j1 (some (.int (i : Int)))).set j2 (some x)) H'') (hd : ∀ σ' H', Pv xs.length σ' H' → D.nx σ' H') :
    tFor (iEnum K tl) (gTup K 2 (gCons (gName j1) (gCons (gName j2) gNil))) tu D σ H := h H (Ex.refl H) _ fun H1 e => by
  refine ⟨a, xs, rfl, ex_l e hx, ?_⟩
  refine for_it walk_enum Pv (h0 H1 e) hl (fun i x σ' H' H'' hi hP hy => ?_) hd
  obtain ⟨T, x, y, rfl, hT, rfl, hx1, hy1⟩ := hy
  have hx2 : V.int (i : Int) = x := Option.some.inj hx1
  subst hx2
  exact ⟨T, _, rfl, st_of upd_same, rfl, _, _, rfl, _, _, rfl, rfl, hs i y σ' H' _ hy1 (Ex.new hT) hP⟩
/-- script[:k] if script != [] else [d] -/
def cellsK (k : Nat) (d : Int) (ns : List Int) : List Int := if ns = [] then [d] else ns.take k
theorem cellsK_len {k : Nat} {d : Int} {ns : List Int} (hk : 0 < k) : 0 < (cellsK k d ns).length ∧ (cellsK k d ns).length ≤ k := by
  unfold cellsK
  split
  · exact ⟨by show 0 < 1; decide, hk⟩
  · rw [List.length_take]
    have := List.length_pos_iff.mpr (by assumption)
    omega
theorem cellsK_W {k : Nat} {d : Int} {ns : List Int} (hd : W 1048576 d) (h : ∀ n ∈ ns, W 1048576 n) : ∀ n ∈ cellsK k d ns, W 1048576 n := by
  unfold cellsK
  split
  · intro n hn
    rw [List.mem_singleton.mp hn]
    exact hd
  · exact fun n hn => h n (List.mem_of_mem_take hn)
theorem el_cellsK {a : Addr} {ns : List Int} {k : Nat} {d : Int} (ha : Ev ta σ H (.ref a)) (hb : Ev tb σ H (.ref a)) (h : SqL K H a (ns.map V.int)) :
    EvL (tIf (tTest (tOp (rNeD K) ta (tLst tNil))) (tSl (rSlL K) tb tNoPart (tPart (tC (.int (k : Int))))) (tLst (tCons (tC (.int d)) tNil))) σ H ((cellsK k d ns).map V.int) := by
  refine el_if (et_nonempty ha h) (fun z => ?_) (fun z => ?_)
  · have z1 : ¬ ns = [] := by simpa using z
    have e := el_sl (K := K) (th := tPart (tC (.int (k : Int)))) hb eo_none (eo_some (i := (k : Int)) ev_c) h
    rw [cutV_take] at e
    unfold cellsK
    rw [if_neg z1, List.map_take]
    exact e
  · have z1 : ns = [] := by simpa using z
    unfold cellsK
    rw [if_pos z1]
    exact el_lst (ea_cons ev_c ea_nil) (by show 1 ≤ 100000; decide)
theorem dpall_bls : ∀ bs : List Bool, DpAll K H (bs.map V.bl) (bs.map PyData.bool)
  | [] => .nil
  | b :: r => .cons (.bl b) (dpall_bls r)
theorem ru_neg {i : Int} : RU (rU fun i => .int (-i)) (.int i) H (.int (-i)) := fun H1 _ _ q => ⟨i, rfl, q H1 (Ex.refl H1)⟩
end
end Mt

set_option Elab.async false
set_option linter.all false
set_option maxRecDepth 100000
set_option maxHeartbeats 4000000
namespace Mt
open PySem PySem.Spec PyProof.Rows L2 Evl KM
/-! ### a list or a tuple, walked -/
def iBoth (K : PySem.W.Frag) (tl : TE) : TI := fun σ H R => tl σ H fun x H1 => ∃ a, x = .ref a ∧ ((∃ xs, SqL K H1 a xs ∧ R (Itl K a) H1) ∨ (∃ xs, SqT K H1 a xs ∧ R (Itt K a) H1))
theorem pi_both {X : Cx} {tg l : Expr} {tl : TE} (hl : PE X l tl) : PI X tg l (iBoth X.K tl) := by
  refine ⟨fun pins s σ H R I h => ?_⟩
  refine thn (hl.run pins s σ H _ I h) fun v s1 ⟨x, H1, I1, r1, q1⟩ => ?_
  obtain ⟨a, e, hq⟩ := q1
  subst e
  cases r1
  rcases hq with ⟨xs, hq, q⟩ | ⟨xs, hq, q⟩
  · obtain ⟨its, rv, p, hz⟩ := I1.list hq
    refine wpAny_pyIter_list p.isList ?_
    refine ⟨s1.heap.objs.size, [s1.heap.objs.size], _, _, H1, rfl, I1.kept (t' := s1.toks) fun b o e => Heap.get?_push_of_some _ e, turn_list a _, ⟨_, Heap.get?_push_size _ rfl, rfl, rfl⟩, fun b hb => ?_, q⟩
    have e : b = s1.heap.objs.size := by simpa using hb
    subst e
    exact I1.fpOk (Nat.le_refl _) (I1.hok.fresh (Nat.le_refl _))
  · obtain ⟨its, rv, p, hz⟩ := I1.tuple hq
    refine wpAny_pyIter_tuple (show s1.heap.IsTuple a its.toArray from p) ?_
    refine ⟨s1.heap.objs.size, [s1.heap.objs.size], _, _, H1, rfl, I1.kept (t' := s1.toks) fun b o e => Heap.get?_push_of_some _ e, turn_tuple a _, ⟨_, Heap.get?_push_size _ rfl, rfl, rfl⟩, fun b hb => ?_, q⟩
    have e : b = s1.heap.objs.size := by simpa using hb
    subst e
    exact I1.fpOk (Nat.le_refl _) (I1.hok.fresh (Nat.le_refl _))
section
variable {K : PySem.W.Frag} {σ : L2.St} {H H' : Hp} {ta tb tc te tx tl : TE} {t u : TT} {x y z v : V} {r : R2} {D : Ends} {tu tw tz : TS} {g : TG}
theorem el_compB {a : Addr} {xs : List V} {j : Nat} {vs : List Nat} (f : Nat → V) (h : Ev tl σ H (.ref a)) (hx : SqL K H a xs ∨ SqT K H a xs) (hz : xs.length ≤ 40000)
    (hw : ∀ x, wipe ((wipe σ vs).set j (some x)) vs = wipe σ vs) (he : ∀ (i : Nat) (x : V) H1, Ex H H1 → xs[i]? = some x → Ev te ((wipe σ vs).set j (some x)) H1 (f i)) :
    EvL (tLc (iBoth K tl) (gName j) tYes te vs) σ H (given xs.length (fun _ => true) f) := by
  intro H0 e Q q
  refine h H0 e _ fun H1 e1 => ?_
  rcases hx with hx | hx
  · refine ⟨a, rfl, .inl ⟨xs, ex_l (e.trans e1) hx, fun Dl hD => ?_⟩⟩
    refine lc_it (walk_list (xs := xs)) (Cw H1 (fun _ => true) f Dl) ⟨hD, Ex.new hD, upd_same⟩ (fun i H' _ p => ex_l ((e.trans e1).trans p.2.1) hx) (fun i x H' H'' hi p hy => ?_) fun H' p => q Dl H' (fresh_back e1 p.1) (e1.trans p.2.1) p.2.2
    obtain ⟨rfl, hi'⟩ := hy
    exact ⟨hw x, cw_turn p (by omega) et_yes fun _ => he i x H1 (e.trans e1) hi'⟩
  · refine ⟨a, rfl, .inr ⟨xs, ex_t (e.trans e1) hx, fun Dl hD => ?_⟩⟩
    refine lc_it (walk_tup (xs := xs)) (Cw H1 (fun _ => true) f Dl) ⟨hD, Ex.new hD, upd_same⟩ (fun i H' _ p => ex_t ((e.trans e1).trans p.2.1) hx) (fun i x H' H'' hi p hy => ?_) fun H' p => q Dl H' (fresh_back e1 p.1) (e1.trans p.2.1) p.2.2
    obtain ⟨rfl, hi'⟩ := hy
    exact ⟨hw x, cw_turn p (by omega) et_yes fun _ => he i x H1 (e.trans e1) hi'⟩
theorem rc_isi_L {p : Addr} {xs : List V} {T : String} {b : Bool} (hp : SqL K H p xs) (h : kitB "list" T = some b) : RC (rIsi K) [.ref p, .ty T] H (.bl b) := rc_isi_seqL hp h
theorem rv_isN {x : V} : RV (fun x y H Q => y = .non ∧ Q (.bl (decide (x = .non))) H) x .non H (.bl (decide (x = .non))) := fun H1 _ _ q => ⟨rfl, q H1 (Ex.refl H1)⟩
end
/-- whole numbers, and lists and tuples of such, n deep -/
def PV (K : PySem.W.Frag) : Nat → V → Hp → Prop
  | 0, v, _ => ∃ i, v = .int i
  | n + 1, v, H => (∃ i, v = .int i) ∨ ∃ a xs, v = .ref a ∧ (SqL K H a xs ∨ SqT K H a xs) ∧ xs.length ≤ 40000 ∧ ∀ x ∈ xs, PV K n x H
theorem PV.ex {K : PySem.W.Frag} {H H' : Hp} (e : Ex H H') : ∀ {n : Nat} {v : V}, PV K n v H → PV K n v H'
  | 0, _, h => h
  | n + 1, _, .inl h => .inl h
  | n + 1, _, .inr ⟨a, xs, h1, h2, h3, h4⟩ => .inr ⟨a, xs, h1, h2.elim (fun z => .inl (ex_l e z)) (fun z => .inr (ex_t e z)), h3, fun x hx => (h4 x hx).ex e⟩
theorem PV.int {K : PySem.W.Frag} {H : Hp} (i : Int) : ∀ n, PV K n (.int i) H
  | 0 => ⟨i, rfl⟩
  | n + 1 => .inl ⟨i, rfl⟩
theorem PV.pair {K : PySem.W.Frag} {H : Hp} {p : Addr} {i j : Int} (h : SqT K H p [.int i, .int j]) (n : Nat) : PV K (n + 1) (.ref p) H := .inr ⟨p, _, rfl, .inr h, by show 2 ≤ 40000; decide, fun x hx => by
  rcases List.mem_cons.mp hx with rfl | hx
  · exact PV.int i n
  · rw [List.mem_singleton.mp hx]; exact PV.int j n⟩
section
variable {K : PySem.W.Frag} {σ : L2.St} {H H' : Hp} {ta tb tc td te tx tl : TE} {t u : TT} {x y z v : V} {r : R2} {D : Ends} {tu tw tz : TS} {g : TG}
theorem eu_is {xs ys : List V} (h : EvU te σ H xs) (e : xs = ys) : EvU te σ H ys := by rw [← e]; exact h
/-- [a number told by p for p in a new list of pairs] -/
theorem el_compPi {ps : Prs} {j : Nat} {vs : List Nat} (f : Int × Int → Int) (h : EvP K tl σ H ps) (hz : ps.length ≤ 40000) (hw : ∀ x, wipe ((wipe σ vs).set j (some x)) vs = wipe σ vs)
    (he : ∀ (q : Addr) (p : Int × Int) H1, Ex H H1 → p ∈ ps → SqT K H1 q [.int p.1, .int p.2] → Ev te ((wipe σ vs).set j (some (.ref q))) H1 (.int (f p))) : EvL (tLc (iList K tl) (gName j) tYes te vs) σ H ((ps.map f).map V.int) := fun H0 e Q q =>
  h H0 e _ fun a us H1 ha e1 hx s => ⟨a, rfl, ⟨us, sq_of hx⟩, fun Dl hD => by
  refine lc_list (xs := us) (fun i H' => H1 Dl = none ∧ Ex H1 H' ∧ H' Dl = some (.lst (((ps.take i).map f).map V.int))) ⟨hD, Ex.new hD, upd_same⟩ (fun i H' _ p => sq_of (p.2.1 a _ hx)) (fun i x H' hi p => ?_) (fun H' p => ?_)
  · obtain ⟨p1, p2, p3⟩ := p
    obtain ⟨b, p, rfl, hp, hb⟩ := s.at hi
    have hil := (List.getElem?_eq_some_iff.mp hp).1
    refine ⟨hw _, ?_⟩
    refine he b p H1 (e.trans e1) (List.mem_of_getElem? hp) hb _ p2 _ fun H4 e4 => ?_
    refine ⟨((ps.take i).map f).map V.int, e4 Dl _ p3, sz_lt (by rw [List.length_map, List.length_map, List.length_take]; omega), p1, Ex.mut (p2.trans e4) p1, ?_⟩
    rw [List.take_succ, hp, List.map_append, List.map_append]
    exact upd_same
  · obtain ⟨p1, p2, p3⟩ := p
    rw [s.len, List.take_of_length_le (Nat.le_refl _)] at p3
    exact q Dl H' (fresh_back e1 p1) (e1.trans p2) p3⟩
theorem ev_neInts {a b : List Int} (ha : EvL ta σ H (a.map V.int)) (hb : EvL tb σ H (b.map V.int)) (e : a = b) : Ev (tOp (rNeD K) ta tb) σ H (.bl false) :=
  ev_is (ev_opLL ha hb fun p q H1 hp hq _ => rv_neInts (sq_of hp) (sq_of hq)) (by rw [e]; simp)
theorem ev_nePairs {a : Addr} {ps : Prs} (ha : Ev ta σ H (.ref a)) (hp : PL K H a ps) (hb : EvP K tb σ H ps) : Ev (tOp (rNeD K) ta tb) σ H (.bl false) := fun H1 e Q q =>
  ha H1 e _ fun H2 e2 => hb H2 (e.trans e2) _ fun b vs H3 _ e3 h3 s3 => rv_nePairs (hp.mono ((e.trans e2).trans e3)) ⟨vs, sq_of h3, s3⟩ H3 (Ex.refl H3) Q fun H4 e4 => q H4 ((e2.trans e3).trans e4)
/-! ### rows of (at, times, pairs, due) -/
abbrev Quad := Int × Int × Prs × Bool
def IsQ (K : PySem.W.Frag) (q : Quad) (v : V) (H : Hp) : Prop := ∃ a l, v = .ref a ∧ SqT K H a [.int q.1, .int q.2.1, .ref l, .bl q.2.2.2] ∧ PL K H l q.2.2.1
theorem stable_Q {q : Quad} : Stable (IsQ K q) := fun _ _ _ e ⟨a, l, h, s, p⟩ => ⟨a, l, h, ex_t e s, p.mono e⟩
theorem es_quad {i j : Int} {ps : Prs} {b : Bool} (h1 : Ev ta σ H (.int i)) (h2 : Ev tb σ H (.int j)) (h3 : EvP K tc σ H ps) (h4 : Ev td σ H (.bl b)) : EvS (tTup (tCons ta (tCons tb (tCons tc (tCons td tNil))))) σ H (IsQ K (i, j, ps, b)) := fun H1 e Q q =>
  h1 H1 e _ fun H2 e2 => h2 H2 (e.trans e2) _ fun H3 e3 => h3 H3 ((e.trans e2).trans e3) _ fun l vs H4 _ e4 h4' s4 => h4 H4 (((e.trans e2).trans e3).trans e4) _ fun H5 e5 =>
    ⟨by show 4 ≤ sizeLine; decide, fun p hp => q _ _ ((((e2.trans e3).trans e4).trans e5).trans (Ex.new hp)) ⟨p, l, rfl, st_of upd_same, vs, ex_l (e5.trans (Ex.new hp)) (sq_of h4'), s4.mono (e5.trans (Ex.new hp))⟩⟩
def AllQ (K : PySem.W.Frag) (qs : List Quad) (vs : List V) (H : Hp) : Prop := Paired (fun q v => IsQ K q v H) qs vs
theorem AllQ.mono (e : Ex H H') : ∀ {qs : List Quad} {vs : List V}, AllQ K qs vs H → AllQ K qs vs H'
  | _, _, .nil => .nil
  | _, _, .cons p r => .cons (stable_Q _ _ _ e p) (AllQ.mono e r)
theorem AllQ.app {rs : List Quad} {us : List V} (h2 : AllQ K rs us H) : ∀ {qs : List Quad} {vs : List V}, AllQ K qs vs H → AllQ K (qs ++ rs) (vs ++ us) H
  | _, _, .nil => h2
  | _, _, .cons p r => .cons p (AllQ.app h2 r)
theorem eaq_nil : EvAS tNil σ H (AllQ K []) := fun H1 _ Q q => q [] H1 (Ex.refl H1) .nil
theorem eaq_cons {tr : TA} {w : Quad} {qs : List Quad} (h : EvS te σ H (IsQ K w)) (hr : EvAS tr σ H (AllQ K qs)) : EvAS (tCons te tr) σ H (AllQ K (w :: qs)) := fun H1 e Q q =>
  h H1 e _ fun v H2 e2 p => hr H2 (e.trans e2) _ fun ws H3 e3 r => q (v :: ws) H3 (e2.trans e3) (.cons (stable_Q _ _ _ e3 p) r)
def IsQL (K : PySem.W.Frag) (qs : List Quad) (v : V) (H : Hp) : Prop := ∃ a vs, v = .ref a ∧ H a = some (.lst vs) ∧ AllQ K qs vs H
theorem es_lstQ {ta : TA} {qs : List Quad} (h : EvAS ta σ H (AllQ K qs)) (hz : qs.length ≤ 1000) : EvS (tLst ta) σ H (IsQL K qs) := fun H1 e Q q =>
  h H1 e _ fun vs H2 e2 s => ⟨sz_of (by rw [← Paired.length s]; omega), fun p hp => q _ _ (e2.trans (Ex.new hp)) ⟨p, vs, rfl, upd_same, AllQ.mono (Ex.new hp) s⟩⟩
theorem es_catQ {a : Addr} {vs : List V} {qs rs : List Quad} (ha : Ev ta σ H (.ref a)) (h : H a = some (.lst vs)) (s : AllQ K qs vs H) (hb : EvS tb σ H (IsQL K rs)) (hz : qs.length + rs.length ≤ 1000) : EvS (tOp rCat ta tb) σ H (IsQL K (qs ++ rs)) := fun H1 e Q q =>
  ha H1 e _ fun H2 e2 => hb H2 (e.trans e2) _ fun v H3 e3 ⟨b, us, hv, hu, su⟩ => by
    subst hv
    refine ⟨a, b, vs, us, rfl, rfl, ((e.trans e2).trans e3) a _ h, hu, sz_of (by rw [← Paired.length s, ← Paired.length su]; omega), fun p hp => ?_⟩
    exact q _ _ ((e2.trans e3).trans (Ex.new hp)) ⟨p, _, rfl, upd_same, AllQ.mono (Ex.new hp) (AllQ.app su (AllQ.mono ((e.trans e2).trans e3) s))⟩
theorem q_forQ {a : Addr} {vs : List V} {qs : List Quad} {j1 j2 j3 j4 : Nat} (h : Ev tl σ H (.ref a)) (hl : H a = some (.lst vs)) (s : AllQ K qs vs H) (Pv : L2.St → Hp → Prop) (h0 : ∀ H1, Ex H H1 → Pv σ H1)
    (hs : ∀ (w : Quad) l H1 σ' H', w ∈ qs → PL K H1 l w.2.2.1 → Ex H H1 → Ex H1 H' → Pv σ' H' → tu { D with nx := fun σ'' H'' => Ex H1 H'' ∧ Pv σ'' H'', ct := fun σ'' H'' => Ex H1 H'' ∧ Pv σ'' H'', bk := tz D } ((((σ'.set j1 (some (.int w.1))).set j2 (some (.int w.2.1))).set j3 (some (.ref l))).set j4 (some (.bl w.2.2.2))) H')
    (hd : ∀ σ' H', Pv σ' H' → tz D σ' H') : tSeq (tFor (iList K tl) (gTup K 4 (gCons (gName j1) (gCons (gName j2) (gCons (gName j3) (gCons (gName j4) gNil))))) tu) tz D σ H := h H (Ex.refl H) _ fun H1 e1 => by
  refine ⟨a, rfl, ⟨_, sq_of (e1 a _ hl)⟩, ?_⟩
  refine for_list (D := { D with nx := tz D }) (xs := vs) (fun i σ' H' => Ex H1 H' ∧ Pv σ' H') ⟨Ex.refl _, h0 _ e1⟩ (fun i σ' H' _ p => sq_of (p.1 a _ (e1 a _ hl))) (fun i x σ' H' hi p => ?_) fun σ' H' p => hd σ' H' p.2
  obtain ⟨w, hw, b, l, rfl, hb, hp⟩ := paired_at s hi
  exact ⟨b, _, rfl, ex_t (e1.trans p.1) hb, rfl, _, _, rfl, _, _, rfl, _, _, rfl, _, _, rfl, rfl, hs w l H1 σ' H' (List.mem_of_getElem? hw) (hp.mono e1) e1 p.1 p.2⟩
end
section
variable {K : PySem.W.Frag} {σ : L2.St} {H H' : Hp} {ta tb tc td te tx tl : TE} {t u : TT} {x y z v : V} {r : R2} {D : Ends} {tu tw tz : TS} {g : TG}
theorem rc_abs {i : Int} : RC (fun xs H Q => ∃ i, xs = [V.int i] ∧ Q (.int (if i < 0 then -i else i)) H) [.int i] H (.int (if i < 0 then -i else i)) := fun H1 _ _ q => ⟨i, rfl, q H1 (Ex.refl H1)⟩
/-- a heap in which l is not known -/
def hide (l : Addr) (H : Hp) : Hp := fun a => if a = l then none else H a
theorem hide_none {l : Addr} : hide l H l = none := if_pos rfl
theorem hide_ex {l : Addr} {Hs : Hp} (n : Hs l = none) (e : Ex Hs H) : Ex Hs (hide l H) := fun a o h => by
  unfold hide
  rw [if_neg (ne_of_none h n)]
  exact e a o h
theorem hide_upd {l : Addr} {o : HO} : Ex (hide l H) (upd H l o) := fun a u h => by
  unfold hide at h
  split at h
  · cases h
  · rename_i c
    rw [upd_ne c]
    exact h
/-- a list that is only this def's, what stands in it whole numbers and such -/
def Fnd (K : PySem.W.Frag) (H : Hp) (l : Addr) (xs : List V) : Prop := H l = some (.lst xs) ∧ ∃ Hs, Hs l = none ∧ Ex Hs H ∧ ∀ x ∈ xs, PV K 2 x Hs
theorem Fnd.ex {l : Addr} {xs : List V} (h : Fnd K H l xs) (e : Ex H H') : Fnd K H' l xs := ⟨e l _ h.1, let ⟨Hs, h1, h2, h3⟩ := h.2; ⟨Hs, h1, h2.trans e, h3⟩⟩
theorem Fnd.app {l : Addr} {xs : List V} (h : Fnd K H l xs) (e : Ex H H') {v : V} (hv : PV K 2 v (hide l H')) : Fnd K (upd H' l (.lst (xs ++ [v]))) l (xs ++ [v]) := by
  obtain ⟨h0, Hs, h1, h2, h3⟩ := h
  refine ⟨upd_same, hide l H', hide_none, hide_upd, fun x hx => ?_⟩
  rcases List.mem_append.mp hx with z | z
  · exact (h3 x z).ex (hide_ex h1 (h2.trans e))
  · rw [List.mem_singleton.mp z]; exact hv
/-- arguments that are whole numbers and such -/
def EvPV (K : PySem.W.Frag) (ta : TA) (σ : L2.St) (H : Hp) (m : Nat) : Prop := EvAS ta σ H (fun vs H' => vs.length = m ∧ ∀ x ∈ vs, PV K 2 x H')
theorem epv_nil : EvPV K tNil σ H 0 := fun H1 _ Q q => q [] H1 (Ex.refl H1) ⟨rfl, fun _ h => (nomatch h)⟩
theorem epv_cons {tr : TA} {m : Nat} (h : EvS te σ H (PV K 2)) (hr : EvPV K tr σ H m) : EvPV K (tCons te tr) σ H (m + 1) := fun H1 e Q q =>
  h H1 e _ fun v H2 e2 p => hr H2 (e.trans e2) _ fun ws H3 e3 r => q (v :: ws) H3 (e2.trans e3) ⟨by rw [List.length_cons, r.1], fun x hx => by
    rcases List.mem_cons.mp hx with rfl | hx
    · exact p.ex e3
    · exact r.2 x hx⟩
theorem es_int {i : Int} (h : Ev te σ H (.int i)) : EvS te σ H (PV K 2) := fun H1 e Q q => h H1 e Q fun H2 e2 => q _ H2 e2 (PV.int i 2)
theorem es_Q {rw : List Int} {c : Int} (h : EvQ te σ H rw c) (hl : rw.length ≤ 40000) : EvS te σ H (PV K 2) := fun H1 e Q q => h H1 e Q fun p r H2 _ _ e2 h1 h2 => q _ H2 e2 (.inr ⟨p, _, rfl, .inr (st_of h2), by show 2 ≤ 40000; decide, fun x hx => by
  rcases List.mem_cons.mp hx with rfl | hx
  · refine .inr ⟨r, _, rfl, .inl (sq_of h1), by rw [List.length_map]; exact hl, fun y hy => ?_⟩
    obtain ⟨n, _, rfl⟩ := List.mem_map.mp hy
    exact ⟨n, rfl⟩
  · rw [List.mem_singleton.mp hx]; exact PV.int c 1⟩)
/-- found = found + [..] -/
theorem catF {ta : TA} {fl : Addr} {xs : List V} {m : Nat} {Q : VK} (hv : Ev tb σ H (.ref fl)) (h : Fnd K H fl xs) (hb : EvPV K ta σ H m) (hz : xs.length ≤ 1000) (hm : m ≤ 1000)
    (k : ∀ p ys H1, H p = none → Ex H H1 → Fnd K H1 p ys → ys.length = xs.length + m → Q (.ref p) H1) : tOp rCat tb (tLst ta) σ H Q :=
  hv H (Ex.refl H) _ fun H1 e1 => hb H1 e1 _ fun vs H2 e2 hP => ⟨sz_of (by omega), fun b hb2 => by
    have eb : Ex H2 (upd H2 b (.lst vs)) := Ex.new hb2
    have e := (e1.trans e2).trans eb
    refine ⟨fl, b, xs, vs, rfl, rfl, e fl _ h.1, upd_same, sz_of (by omega), fun p hp => ?_⟩
    refine k p (xs ++ vs) _ (fresh_back e hp) (e.trans (Ex.new hp)) ⟨upd_same, _, hp, Ex.new hp, fun x hx => ?_⟩ (by rw [List.length_append, hP.1])
    rcases List.mem_append.mp hx with z | z
    · obtain ⟨_, Hs, h1, h2, h3⟩ := h
      exact (h3 x z).ex (h2.trans e)
    · exact (hP.2 x z).ex eb⟩
theorem q_catF {ta : TA} {i : Nat} {fl : Addr} {xs : List V} {m : Nat} (hv : Ev tb σ H (.ref fl)) (h : Fnd K H fl xs) (hb : EvPV K ta σ H m) (hz : xs.length ≤ 1000) (hm : m ≤ 1000)
    (k : ∀ p ys H1, H p = none → Ex H H1 → Fnd K H1 p ys → ys.length = xs.length + m → tz D (σ.set i (some (.ref p))) H1) : tSeq (tAsg (tOp rCat tb (tLst ta)) (gName i)) tz D σ H := catF hv h hb hz hm k
theorem s_catF {ta : TA} {i : Nat} {fl : Addr} {xs : List V} {m : Nat} (hv : Ev tb σ H (.ref fl)) (h : Fnd K H fl xs) (hb : EvPV K ta σ H m) (hz : xs.length ≤ 1000) (hm : m ≤ 1000)
    (k : ∀ p ys H1, H p = none → Ex H H1 → Fnd K H1 p ys → ys.length = xs.length + m → D.nx (σ.set i (some (.ref p))) H1) : tAsg (tOp rCat tb (tLst ta)) (gName i) D σ H := catF hv h hb hz hm k
/-- for p in some list of pairs -/
theorem q_forS {ps : Prs} {j : Nat} (h : EvS tl σ H (IsP K ps)) (Pv : Nat → L2.St → Hp → Prop) (h0 : ∀ H1, Ex H H1 → Pv 0 σ H1)
    (hs : ∀ (i : Nat) (q : Addr) (p : Int × Int) H1 σ' H', ps[i]? = some p → SqT K H1 q [.int p.1, .int p.2] → Ex H H1 → Ex H1 H' → Pv i σ' H' → tu { D with nx := fun σ'' H'' => Ex H1 H'' ∧ Pv (i + 1) σ'' H'', ct := fun σ'' H'' => Ex H1 H'' ∧ Pv (i + 1) σ'' H'', bk := tz D } (σ'.set j (some (.ref q))) H')
    (hd : ∀ σ' H', Pv ps.length σ' H' → tz D σ' H') : tSeq (tFor (iList K tl) (gName j) tu) tz D σ H := h H (Ex.refl H) _ fun v H1 e1 hv => by
  obtain ⟨a, rfl, vs, hl, hT⟩ := hv
  refine ⟨a, rfl, ⟨_, hl⟩, ?_⟩
  refine for_list (D := { D with nx := tz D }) (xs := vs) (fun i σ' H' => Ex H1 H' ∧ Pv i σ' H') ⟨Ex.refl _, h0 _ e1⟩ (fun i σ' H' _ p => ex_l p.1 hl) (fun i x σ' H' hi p => ?_) fun σ' H' p => hd σ' H' (by rw [← hT.len]; exact p.2)
  obtain ⟨q, pr, rfl, hp, hq⟩ := hT.at hi
  exact hs i q pr H1 σ' H' hp hq e1 p.1 p.2
/-- x, y = two new lists -/
theorem q_parLL {i j : Nat} {xs ys : List V} (ha : EvL ta σ H xs) (hb : ∀ H1, Ex H H1 → EvL tb σ H1 ys) (k : ∀ p q H1, H p = none → H q = none → p ≠ q → Ex H H1 → H1 p = some (.lst xs) → H1 q = some (.lst ys) → tz D ((σ.set i (some (.ref p))).set j (some (.ref q))) H1) : tSeq (tPar i j (tCons ta (tCons tb tNil))) tz D σ H :=
  ha H (Ex.refl H) _ fun p H1 hp e1 h1 => hb H1 e1 H1 (Ex.refl H1) _ fun q H2 hq e2 h2 => ⟨_, _, rfl, k p q H2 hp (fresh_back e1 hq) (fun z => by rw [← z, h1] at hq; cases hq) (e1.trans e2) (e2 p _ h1) h2⟩
/-- answers, one behind the other -/
def AllA (CL CW : Addr) (As : List Ans) (vs : List V) (H : Hp) : Prop := Paired (fun A v => ∃ a, v = .ref a ∧ AnsAt CL CW H a A) As vs
theorem AllA.mono {CL CW : Addr} (e : Ex H H') : ∀ {As : List Ans} {vs : List V}, AllA CL CW As vs H → AllA CL CW As vs H'
  | _, _, .nil => .nil
  | _, _, .cons ⟨a, h1, h2⟩ r => .cons ⟨a, h1, h2.mono e⟩ (AllA.mono e r)
theorem eaa_nil {CL CW : Addr} : EvAS tNil σ H (AllA CL CW []) := fun H1 _ Q q => q [] H1 (Ex.refl H1) .nil
theorem eaa_cons {CL CW : Addr} {tr : TA} {A : Ans} {As : List Ans} (h : EvS te σ H (fun v H1 => ∃ a, v = .ref a ∧ AnsAt CL CW H1 a A)) (hr : EvAS tr σ H (AllA CL CW As)) : EvAS (tCons te tr) σ H (AllA CL CW (A :: As)) := fun H1 e Q q =>
  h H1 e _ fun v H2 e2 p => hr H2 (e.trans e2) _ fun ws H3 e3 r => q (v :: ws) H3 (e2.trans e3) (.cons (let ⟨a, h1, h2⟩ := p; ⟨a, h1, h2.mono e3⟩) r)
theorem el_compA {CL CW : Addr} {ta : TA} {As : List Ans} {j : Nat} {vs : List Nat} (f : Ans → Bool) (h : EvAS ta σ H (AllA CL CW As)) (hz : As.length ≤ 1000) (hw : ∀ x, wipe ((wipe σ vs).set j (some x)) vs = wipe σ vs)
    (he : ∀ (a : Addr) (A : Ans) H1, Ex H H1 → AnsAt CL CW H1 a A → Ev te ((wipe σ vs).set j (some (.ref a))) H1 (.bl (f A))) : EvL (tLc (iList K (tLst ta)) (gName j) tYes te vs) σ H ((As.map f).map V.bl) := fun H0 e Q q =>
  h H0 e _ fun us H1 e1 s => ⟨sz_of (by rw [← Paired.length s]; omega), fun a ha => ⟨a, rfl, ⟨us, sq_of upd_same⟩, fun Dl hD => by
  have eN : Ex H1 (upd H1 a (.lst us)) := Ex.new ha
  have s' := AllA.mono eN s
  have hx : (upd H1 a (.lst us)) a = some (.lst us) := upd_same
  have hus : us.length = As.length := (Paired.length s).symm
  generalize upd H1 a (.lst us) = G at *
  refine lc_list (xs := us) (fun i H' => G Dl = none ∧ Ex G H' ∧ H' Dl = some (.lst (((As.take i).map f).map V.bl))) ⟨hD, Ex.new hD, upd_same⟩ (fun i H' _ p => sq_of (p.2.1 a _ hx)) (fun i x H' hi p => ?_) (fun H' p => ?_)
  · obtain ⟨p1, p2, p3⟩ := p
    obtain ⟨A, hA, b, rfl, hb⟩ := paired_at s' hi
    have hil := (List.getElem?_eq_some_iff.mp hA).1
    refine ⟨hw _, ?_⟩
    refine he b A G ((e.trans e1).trans eN) hb _ p2 _ fun H4 e4 => ?_
    refine ⟨((As.take i).map f).map V.bl, e4 Dl _ p3, sz_lt (by rw [List.length_map, List.length_map, List.length_take]; omega), p1, Ex.mut (p2.trans e4) p1, ?_⟩
    rw [List.take_succ, hA, List.map_append, List.map_append]
    exact upd_same
  · obtain ⟨p1, p2, p3⟩ := p
    rw [hus, List.take_of_length_le (Nat.le_refl _)] at p3
    exact q Dl H' (fresh_back (e1.trans eN) p1) ((e1.trans eN).trans p2) p3⟩⟩
end
theorem q_forE {K : PySem.W.Frag} {σ : L2.St} {H : Hp} {D : Ends} {tu tz : TS} {a : Addr} {xs : List V} {j1 j2 : Nat} {tl : TA} (h : EvA tl σ H [.ref a]) (hx : SqL K H a xs) (Pv : Nat → L2.St → Hp → Prop) (h0 : ∀ H1, Ex H H1 → Pv 0 σ H1) (hl : ∀ i σ' H', i ≤ xs.length → Pv i σ' H' → SqL K H' a xs)
    (hs : ∀ (i : Nat) x σ' H' H'', xs[i]? = some x → Ex H' H'' → Pv i σ' H' → tu { D with nx := Pv (i + 1), ct := Pv (i + 1), bk := tz D } ((σ'.set j1 (some (.int (i : Int)))).set j2 (some x)) H'') (hd : ∀ σ' H', Pv xs.length σ' H' → tz D σ' H') :
    tSeq (tFor (iEnum K tl) (gTup K 2 (gCons (gName j1) (gCons (gName j2) gNil))) tu) tz D σ H := s_forE (D := { D with nx := tz D }) h hx Pv h0 hl hs hd
end Mt

set_option Elab.async false
set_option linter.all false
set_option maxRecDepth 100000
set_option maxHeartbeats 4000000
namespace Mt
open PySem PySem.Spec PyProof.Rows L2 Evl KM
/-! ### what is no pair, no row, no number above 0, later too -/
theorem tyx_ex {K : PySem.W.Frag} {H H' : Hp} {x : V} {t : Value} (e : Ex H H') (h : TyX K H x t) : TyX K H' x t := by
  cases h with
  | base b =>
    cases b with
    | non => exact .base .non
    | bl y => exact .base (.bl y)
    | int i => exact .base (.int i)
    | str y => exact .base (.str y)
    | flt y => exact .base (.flt y)
    | lst a => exact .base (.lst (e _ _ a))
    | frz a => exact .base (.frz (e _ _ a))
    | tup a => exact .base (.tup (e _ _ a))
    | dK a => exact .base (.dK (e _ _ a))
    | dT a => exact .base (.dT (e _ _ a))
    | ins a cl ha hn htk hm => exact .base (.ins (e _ _ a) cl ha hn htk hm)
  | byt y => exact .byt y
  | set a => exact .set (e _ _ a)
  | kList a c => exact .kList a c
  | kTuple a c => exact .kTuple a c
  | kDict a c => exact .kDict a c
  | fTuple a => exact .fTuple (e _ _ a)
  | fDict a => exact .fDict (e _ _ a)
theorem ab_ex {K : PySem.W.Frag} {H H' : Hp} {x : V} {b : Bool} (e : Ex H H') : GG.AbV K H x b → GG.AbV K H' x b := fun ⟨T, b1, b2, ty, r⟩ => ⟨T, b1, b2, tyx_ex e ty, r⟩
theorem pr_ex {K : PySem.W.Frag} {H H' : Hp} {x : V} {b : Bool} (e : Ex H H') : GG.PrV K H x b → GG.PrV K H' x b := fun ⟨T, bt, ty, k, h1, h2⟩ => ⟨T, bt, tyx_ex e ty, k, h1, fun z => by
  obtain ⟨p, xs, e1, e2, e3, e4⟩ := h2 z
  exact ⟨p, xs, e1, ex_t e e2, e3, fun c => by
    obtain ⟨y, z, by', bz, f1, f2, f3, f4⟩ := e4 c
    exact ⟨y, z, by', bz, f1, ab_ex e f2, ab_ex e f3, f4⟩⟩⟩
theorem paired_imp {α β : Type} {F G : α → β → Prop} (h : ∀ a b, F a b → G a b) : ∀ {xs : List α} {ys : List β}, Paired F xs ys → Paired G xs ys
  | _, _, .nil => .nil
  | _, _, .cons r t => .cons (h _ _ r) (paired_imp h t)
section
variable {K : PySem.W.Frag} {H H' : Hp} {x y : V}
/-- numbers -/
theorem ab_int (i : Int) : GG.AbV K H (.int i) (decide (0 < i)) := ⟨"int", true, false, .base (.int i), by decide +kernel, by decide +kernel, fun _ => ⟨i, rfl, rfl⟩, fun z => nomatch z⟩
theorem ab_neg {i : Int} (h : i ≤ 0) : GG.AbV K H (.int i) false := by
  have e := ab_int (K := K) (H := H) i
  rw [decide_eq_false (by omega)] at e
  exact e
theorem ab_pos {i : Int} (h : 0 < i) : GG.AbV K H (.int i) true := by
  have e := ab_int (K := K) (H := H) i
  rw [decide_eq_true h] at e
  exact e
theorem ab_ty {T : String} {b1 b2 : Bool} (t : TyX K H x (.type T)) (h1 : kitB T "int" = some b1) (h2 : kitB T "bool" = some b2) (h : (b1 && !b2) = false) : GG.AbV K H x false := ⟨T, b1, b2, t, h1, h2, (fun z => by rw [h] at z; cases z), fun _ => rfl⟩
theorem ab_non : GG.AbV K H .non false := ab_ty (b1 := false) (b2 := false) (.base .non) (by decide +kernel) (by decide +kernel) rfl
theorem ab_bl (b : Bool) : GG.AbV K H (.bl b) false := ab_ty (b1 := true) (b2 := true) (.base (.bl b)) (by decide +kernel) (by decide +kernel) rfl
theorem ab_str (s : Str) : GG.AbV K H (.str s) false := ab_ty (b1 := false) (b2 := false) (.base (.str s)) (by decide +kernel) (by decide +kernel) rfl
theorem ab_lst {p : Addr} {xs : List V} (h : SqL K H p xs) : GG.AbV K H (.ref p) false := ab_ty (b1 := false) (b2 := false) (ty_list h) (by decide +kernel) (by decide +kernel) rfl
theorem ab_tup {p : Addr} {xs : List V} (h : SqT K H p xs) : GG.AbV K H (.ref p) false := ab_ty (b1 := false) (b2 := false) (ty_tup h) (by decide +kernel) (by decide +kernel) rfl
theorem ab_dT {p : Addr} {kvs : List (List Key × V)} (h : H p = some (.dT kvs)) : GG.AbV K H (.ref p) false := ab_ty (b1 := false) (b2 := false) (.base (.dT h)) (by decide +kernel) (by decide +kernel) rfl
/-- no pair -/
theorem pr_ty {T : String} (t : TyX K H x (.type T)) (h : kitB T "tuple" = some false) : GG.PrV K H x false := ⟨T, false, t, h, fun _ => rfl, fun z => nomatch z⟩
theorem pr_non : GG.PrV K H .non false := pr_ty (.base .non) (by decide +kernel)
theorem pr_str (s : Str) : GG.PrV K H (.str s) false := pr_ty (.base (.str s)) (by decide +kernel)
theorem pr_int (i : Int) : GG.PrV K H (.int i) false := pr_ty (.base (.int i)) (by decide +kernel)
theorem pr_lst {p : Addr} {xs : List V} (h : SqL K H p xs) : GG.PrV K H (.ref p) false := pr_ty (ty_list h) (by decide +kernel)
theorem pr_dT {p : Addr} {kvs : List (List Key × V)} (h : H p = some (.dT kvs)) : GG.PrV K H (.ref p) false := pr_ty (.base (.dT h)) (by decide +kernel)
theorem pr_len {p : Addr} {xs : List V} (h : SqT K H p xs) (hl : xs.length ≠ 2) : GG.PrV K H (.ref p) false := ⟨"tuple", true, ty_tup h, by decide +kernel, fun _ => rfl, fun _ => ⟨p, xs, rfl, h, fun _ => rfl, fun z => absurd z hl⟩⟩
theorem pr_two {p : Addr} {b1 b2 : Bool} (h : SqT K H p [x, y]) (h1 : GG.AbV K H x b1) (h2 : GG.AbV K H y b2) : GG.PrV K H (.ref p) (b1 && b2) := ⟨"tuple", true, ty_tup h, by decide +kernel, (fun z => nomatch z), fun _ => ⟨p, [x, y], rfl, h, fun c => absurd rfl c, fun _ => ⟨x, y, b1, b2, rfl, h1, h2, rfl⟩⟩⟩
end
/-- what is no row -/
def RwV (K : PySem.W.Frag) (H : Hp) (x : V) : Prop :=
  (∃ T, TyX K H x (.type T) ∧ kitB T "list" = some false) ∨ ∃ a xs, x = .ref a ∧ SqL K H a xs ∧
    (xs.length = 0 ∨ 1000 < xs.length ∨ (1 ≤ xs.length ∧ xs.length ≤ 1000 ∧ ∃ bs, Paired (GG.AbV K H) xs bs ∧ bs.all id = false) ∨
      (2 ≤ xs.length ∧ xs.length ≤ 1000 ∧ ∃ bs, Paired (GG.AbV K H) xs bs ∧ bs.all id = true ∧ atI xs (-1) = some (.int 1)))
theorem rw_ex {K : PySem.W.Frag} {H H' : Hp} {x : V} (e : Ex H H') : RwV K H x → RwV K H' x
  | .inl ⟨T, t, k⟩ => .inl ⟨T, tyx_ex e t, k⟩
  | .inr ⟨a, xs, h, s, r⟩ => .inr ⟨a, xs, h, ex_l e s, by
    rcases r with r | r | ⟨r0, r1, bs, r2, r3⟩ | ⟨r0, r1, bs, r2, r3, r4⟩
    · exact .inl r
    · exact .inr (.inl r)
    · exact .inr (.inr (.inl ⟨r0, r1, bs, paired_imp (fun _ _ => ab_ex e) r2, r3⟩))
    · exact .inr (.inr (.inr ⟨r0, r1, bs, paired_imp (fun _ _ => ab_ex e) r2, r3, r4⟩))⟩
/-- what is no list of pairs -/
def LsV (K : PySem.W.Frag) (H : Hp) (x : V) : Prop :=
  (∃ T, TyX K H x (.type T) ∧ kitB T "list" = some false) ∨ ∃ a xs, x = .ref a ∧ SqL K H a xs ∧
    (100 < xs.length ∨ (xs.length ≤ 100 ∧ ∃ bs, Paired (GG.PrV K H) xs bs ∧ bs.all id = false))
theorem ls_ex {K : PySem.W.Frag} {H H' : Hp} {x : V} (e : Ex H H') : LsV K H x → LsV K H' x
  | .inl ⟨T, t, k⟩ => .inl ⟨T, tyx_ex e t, k⟩
  | .inr ⟨a, xs, h, s, r⟩ => .inr ⟨a, xs, h, ex_l e s, by
    rcases r with r | ⟨r1, bs, r2, r3⟩
    · exact .inl r
    · exact .inr ⟨r1, bs, paired_imp (fun _ _ => pr_ex e) r2, r3⟩⟩
/-! ### lists of things of which something holds -/
section
variable {K : PySem.W.Frag} {σ : L2.St} {H H' : Hp} {ta tb tc te tx tl : TE} {t u : TT} {x y z v : V} {r : R2} {D : Ends} {tu tw tz : TS} {g : TG} {B : V → Hp → Prop}
def EvB (B : V → Hp → Prop) (ta : TA) (σ : L2.St) (H : Hp) (n : Nat) : Prop := EvAS ta σ H (fun vs H' => vs.length = n ∧ ∀ x ∈ vs, B x H')
theorem evb_nil : EvB B tNil σ H 0 := fun H1 _ Q q => q [] H1 (Ex.refl H1) ⟨rfl, fun _ h => nomatch h⟩
theorem evb_cons {tr : TA} {n : Nat} (st : Stable B) (h : EvS te σ H B) (hr : EvB B tr σ H n) : EvB B (tCons te tr) σ H (n + 1) := fun H1 e Q q =>
  h H1 e _ fun v H2 e2 p => hr H2 (e.trans e2) _ fun ws H3 e3 r => q (v :: ws) H3 (e2.trans e3) ⟨by rw [List.length_cons, r.1], fun x hx => by
    rcases List.mem_cons.mp hx with rfl | hx
    · exact st _ _ _ e3 p
    · exact r.2 x hx⟩
def IsB (B : V → Hp → Prop) (n : Nat) (v : V) (H : Hp) : Prop := ∃ a xs, v = .ref a ∧ H a = some (.lst xs) ∧ xs.length = n ∧ ∀ x ∈ xs, B x H
theorem stable_B {n : Nat} (st : Stable B) : Stable (IsB B n) := fun _ _ _ e ⟨a, xs, h, l, n, k⟩ => ⟨a, xs, h, e _ _ l, n, fun x hx => st _ _ _ e (k x hx)⟩
theorem es_lstB {ta : TA} {n : Nat} (st : Stable B) (h : EvB B ta σ H n) (hz : n ≤ 1000) : EvS (tLst ta) σ H (IsB B n) := fun H1 e Q q =>
  h H1 e _ fun vs H2 e2 s => ⟨sz_of (by rw [s.1]; omega), fun p hp => q _ _ (e2.trans (Ex.new hp)) ⟨p, vs, rfl, upd_same, s.1, fun x hx => st _ _ _ (Ex.new hp) (s.2 x hx)⟩⟩
theorem es_catB {n m : Nat} (st : Stable B) (ha : EvS ta σ H (IsB B n)) (hb : EvS tb σ H (IsB B m)) (hz : n + m ≤ 1000) : EvS (tOp rCat ta tb) σ H (IsB B (n + m)) := fun H1 e Q q =>
  ha H1 e _ fun v H2 e2 hv => hb H2 (e.trans e2) _ fun w H3 e3 hw => by
    obtain ⟨a, xs, rfl, h1, h2, h3⟩ := stable_B st _ _ _ e3 hv
    obtain ⟨b, ys, rfl, g1, g2, g3⟩ := hw
    refine ⟨a, b, xs, ys, rfl, rfl, h1, g1, sz_of (by omega), fun p hp => q _ _ ((e2.trans e3).trans (Ex.new hp)) ⟨p, _, rfl, upd_same, by rw [List.length_append]; omega, fun x hx => st _ _ _ (Ex.new hp) ?_⟩⟩
    exact (List.mem_append.mp hx).elim (h3 x) (g3 x)
theorem es_ixB {n : Nat} {i : Int} (st : Stable B) (ha : EvS ta σ H (IsB B n)) (hb : ∀ H1, Ex H H1 → Ev tb σ H1 (.int i)) (h0 : 0 ≤ i) (hi : i < n) : EvS (tOp (rIxL K) ta tb) σ H B := fun H1 e Q q =>
  ha H1 e _ fun v H2 e2 hv => hb H2 (e.trans e2) H2 (Ex.refl H2) _ fun H3 e3 => by
    obtain ⟨a, xs, rfl, h1, h2, h3⟩ := stable_B st _ _ _ e3 hv
    have hl : i.toNat < xs.length := by omega
    exact rv_ixL (K := K) (sq_of h1) (at_of (j := i.toNat) (by omega) (List.getElem?_eq_getElem hl)) H3 (Ex.refl H3) Q fun H4 e4 => q _ H4 ((e2.trans e3).trans e4) (st _ _ _ e4 (h3 _ (List.getElem_mem hl)))
theorem es_imp {P' : V → Hp → Prop} (h : EvS te σ H B) (k : ∀ v H1, Ex H H1 → B v H1 → P' v H1) : EvS te σ H P' := EvS.imp h k
theorem es_v (h : Ev te σ H v) (k : ∀ H1, Ex H H1 → B v H1) : EvS te σ H B := fun H1 e Q q => h H1 e Q fun H2 e2 => q v H2 e2 (k H2 (e.trans e2))
theorem es_u {xs : List V} (h : EvU te σ H xs) (k : ∀ p H1, Ex H H1 → H1 p = some (.tup xs) → B (.ref p) H1) : EvS te σ H B := fun H1 e Q q => h H1 e Q fun p H2 _ e2 hp => q _ H2 e2 (k p H2 (e.trans e2) hp)
theorem es_l {xs : List V} (h : EvL te σ H xs) (k : ∀ p H1, Ex H H1 → H1 p = some (.lst xs) → B (.ref p) H1) : EvS te σ H B := fun H1 e Q q => h H1 e Q fun p H2 _ e2 hp => q _ H2 e2 (k p H2 (e.trans e2) hp)
/-- a new tuple of things of which something holds -/
theorem es_tupA {ta : TA} {R : List V → Hp → Prop} (sR : ∀ vs H H', Ex H H' → R vs H → R vs H') (h : EvAS ta σ H R) (hz : ∀ vs H, R vs H → vs.length ≤ 100) (k : ∀ p vs H1, Ex H H1 → H1 p = some (.tup vs) → R vs H1 → B (.ref p) H1) : EvS (tTup ta) σ H B := fun H1 e Q q =>
  h H1 e _ fun vs H2 e2 s => ⟨sz_of (by have := hz _ _ s; omega), fun p hp => q _ _ (e2.trans (Ex.new hp)) (k p vs _ ((e.trans e2).trans (Ex.new hp)) upd_same (sR _ _ _ (Ex.new hp) s))⟩
theorem es_lstA {ta : TA} {R : List V → Hp → Prop} (sR : ∀ vs H H', Ex H H' → R vs H → R vs H') (h : EvAS ta σ H R) (hz : ∀ vs H, R vs H → vs.length ≤ 100) (k : ∀ p vs H1, Ex H H1 → H1 p = some (.lst vs) → R vs H1 → B (.ref p) H1) : EvS (tLst ta) σ H B := fun H1 e Q q =>
  h H1 e _ fun vs H2 e2 s => ⟨sz_of (by have := hz _ _ s; omega), fun p hp => q _ _ (e2.trans (Ex.new hp)) (k p vs _ ((e.trans e2).trans (Ex.new hp)) upd_same (sR _ _ _ (Ex.new hp) s))⟩
/-- {} -/
theorem es_dT (k : ∀ p H1, Ex H H1 → H1 p = some (.dT []) → B (.ref p) H1) : EvS (fun σ H Q => ∀ p, H p = none → Q (.ref p) (upd H p (.dT []))) σ H B := fun H1 e Q q p hp => q _ _ (Ex.new hp) (k p _ (e.trans (Ex.new hp)) upd_same)
end
/-! ### errors of own classes -/
structure ExcAt (K : PySem.W.Frag) (mg : Str → Option Value) (x : Str) where
  C : Addr
  g : mg x = some (.ref C)
  x : PySem.W.excIn K C [.type "ValueError", .type "Exception", .type "BaseException", .type "object"] "ValueError.__new__" = true
  k : PySem.W.keepIn K (.ref C) = true
  t : PySem.W.typeIn K (.ref C) = some (.type "type")
  c : ExcC K C
theorem call_isEA {X : Cx} {a : Addr} {cls : Value} {d : Option Addr} {oe : Obj} {pn : List (Addr × Obj)} (hz : Zc cls d oe) (hf : ∃ vs, oe.data = .fields vs) :
    CallR (X.suite a ((a, oe) :: pn)) (.builtin "isinstance") (fun xs H Q => ∃ D, cls = .ref D ∧ d = none ∧ ExcC X.K D ∧ rIsE X.K D a xs H Q) := by
  intro pins s σ H xs us Q I r h
  obtain ⟨D, rfl, rfl, C, q⟩ := h
  exact call_isE C hz hf pins s σ H xs us Q I r q
theorem rc_isE {K : PySem.W.Frag} {a D c : Addr} {cls : Value} {d : Option Addr} {b : Bool} {H : Hp} (e1 : cls = .ref D) (e2 : d = none) (C : ExcC K D) (k : PySem.W.kitOne K (.ref D) (.ref c) = some b) :
    RC (fun xs H Q => ∃ D, cls = .ref D ∧ d = none ∧ ExcC K D ∧ rIsE K D a xs H Q) [.ref a, .ref c] H (.bl b) := fun H1 _ _ q => ⟨D, e1, e2, C, .ref c, .ref c, b, rfl, fun u r => r, k, q H1 (Ex.refl H1)⟩
theorem rc_isET {K : PySem.W.Frag} {a D : Addr} {T : String} {cls : Value} {d : Option Addr} {b : Bool} {H : Hp} (e1 : cls = .ref D) (e2 : d = none) (C : ExcC K D) (k : PySem.W.kitOne K (.ref D) (.type T) = some b) :
    RC (fun xs H Q => ∃ D, cls = .ref D ∧ d = none ∧ ExcC K D ∧ rIsE K D a xs H Q) [.ref a, .ty T] H (.bl b) := fun H1 _ _ q => ⟨D, e1, e2, C, .ty T, .type T, b, rfl, fun u r => r, k, q H1 (Ex.refl H1)⟩
end Mt

set_option Elab.async false
set_option linter.all false
set_option maxRecDepth 100000
set_option maxHeartbeats 4000000
set_option exponentiation.threshold 300
namespace Mt
open PySem PySem.Spec PyProof.Rows L2 Evl KM KR
def topS (i : Nat) : Stmt := PySem.Challenge.pw_manytimes_k06_refused.main.body.getD i (.Pass ⟨0, 0, 0, 0⟩)
abbrev s_is_whole : Stmt := topS 7
theorem sc_is_whole : FnScope ["value"] ["value"] (defScope s_is_whole) := ⟨rfl, rfl, rfl, by decide +kernel, rfl, by decide +kernel, by decide +kernel⟩
-- is_whole: 0 value
abbrev s_is_above_zero : Stmt := topS 8
theorem sc_is_above_zero : FnScope ["value"] ["value"] (defScope s_is_above_zero) := ⟨rfl, rfl, rfl, by decide +kernel, rfl, by decide +kernel, by decide +kernel⟩
-- is_above_zero: 0 value
abbrev s_is_pair : Stmt := topS 9
theorem sc_is_pair : FnScope ["value", "first", "second"] ["value"] (defScope s_is_pair) := ⟨rfl, rfl, rfl, by decide +kernel, rfl, by decide +kernel, by decide +kernel⟩
-- is_pair: 0 value 1 first 2 second
abbrev s_lesser_and_greater : Stmt := topS 10
theorem sc_lesser_and_greater : FnScope ["pair", "first", "second"] ["pair"] (defScope s_lesser_and_greater) := ⟨rfl, rfl, rfl, by decide +kernel, rfl, by decide +kernel, by decide +kernel⟩
-- lesser_and_greater: 0 pair 1 first 2 second
abbrev s_most : Stmt := topS 11
theorem sc_most : FnScope ["pair", "lesser", "greater"] ["pair"] (defScope s_most) := ⟨rfl, rfl, rfl, by decide +kernel, rfl, by decide +kernel, by decide +kernel⟩
-- most: 0 pair 1 lesser 2 greater
abbrev s_is_taking : Stmt := topS 12
theorem sc_is_taking : FnScope ["pair", "times", "highest"] ["pair", "times"] (defScope s_is_taking) := ⟨rfl, rfl, rfl, by decide +kernel, rfl, by decide +kernel, by decide +kernel⟩
-- is_taking: 0 pair 1 times 2 highest
abbrev s_taken : Stmt := topS 13
theorem sc_taken : FnScope ["pair", "times", "first", "second"] ["pair", "times"] (defScope s_taken) := ⟨rfl, rfl, rfl, by decide +kernel, rfl, by decide +kernel, by decide +kernel⟩
-- taken: 0 pair 1 times 2 first 3 second
abbrev s_worth : Stmt := topS 14
theorem sc_worth : FnScope ["pair", "lesser", "greater", "times", "left"] ["pair"] (defScope s_worth) := ⟨rfl, rfl, rfl, by decide +kernel, rfl, by decide +kernel, by decide +kernel⟩
-- worth: 0 pair 1 lesser 2 greater 3 times 4 left
abbrev s_quotients : Stmt := topS 29
theorem sc_quotients : FnScope ["pair", "lesser", "greater", "row", "times", "left"] ["pair"] (defScope s_quotients) := ⟨rfl, rfl, rfl, by decide +kernel, rfl, by decide +kernel, by decide +kernel⟩
-- quotients: 0 pair 1 lesser 2 greater 3 row 4 times 5 left
abbrev s_is_row : Stmt := topS 28
theorem sc_is_row : FnScope ["value"] ["value"] (defScope s_is_row) := ⟨rfl, rfl, rfl, by decide +kernel, rfl, by decide +kernel, by decide +kernel⟩
-- is_row: 0 value
abbrev s_pair_of : Stmt := topS 30
theorem sc_pair_of : FnScope ["row", "common", "lesser", "greater", "times"] ["row", "common"] (defScope s_pair_of) := ⟨rfl, rfl, rfl, by decide +kernel, rfl, by decide +kernel, by decide +kernel⟩
-- pair_of: 0 row 1 common 2 lesser 3 greater 4 times
abbrev s_shortest : Stmt := topS 31
theorem sc_shortest : FnScope ["pair", "row", "_"] ["pair"] (defScope s_shortest) := ⟨rfl, rfl, rfl, by decide +kernel, rfl, by decide +kernel, by decide +kernel⟩
-- shortest: 0 pair 1 row 2 _
abbrev s_longest : Stmt := topS 32
theorem sc_longest : FnScope ["pair", "row", "_"] ["pair"] (defScope s_longest) := ⟨rfl, rfl, rfl, by decide +kernel, rfl, by decide +kernel, by decide +kernel⟩
-- longest: 0 pair 1 row 2 _
abbrev s_taking_to_worth : Stmt := topS 15
theorem sc_taking_to_worth : FnScope ["pair", "wanted", "lesser", "greater", "whole", "times"] ["pair", "wanted"] (defScope s_taking_to_worth) := ⟨rfl, rfl, rfl, by decide +kernel, rfl, by decide +kernel, by decide +kernel⟩
-- taking_to_worth: 0 pair 1 wanted 2 lesser 3 greater 4 whole 5 times
abbrev s_all_together : Stmt := topS 16
theorem sc_all_together : FnScope ["worths", "together", "own"] ["worths"] (defScope s_all_together) := ⟨rfl, rfl, rfl, by decide +kernel, rfl, by decide +kernel, by decide +kernel⟩
-- all_together: 0 worths 1 together 2 own
abbrev s_is_lost : Stmt := topS 18
theorem sc_is_lost : FnScope ["pairs", "pair"] ["pairs"] (defScope s_is_lost) := ⟨rfl, rfl, rfl, by decide +kernel, rfl, by decide +kernel, by decide +kernel⟩
-- is_lost: 0 pairs 1 pair
abbrev s_Lost_shows : Stmt := inClass (topS 20) 0
theorem sc_Lost_shows : FnScope ["self", "pairs"] ["self", "pairs"] (defScope s_Lost_shows) := ⟨rfl, rfl, rfl, by decide +kernel, rfl, by decide +kernel, by decide +kernel⟩
-- Lost_shows: 0 self 1 pairs
abbrev s_Won_init : Stmt := inClass (topS 21) 0
theorem sc_Won_init : FnScope ["self", "at", "times"] ["self", "at", "times"] (defScope s_Won_init) := ⟨rfl, rfl, rfl, by decide +kernel, rfl, by decide +kernel, by decide +kernel⟩
-- Won_init: 0 self 1 at 2 times
abbrev s_Won_shows : Stmt := inClass (topS 21) 1
theorem sc_Won_shows : FnScope ["self", "pairs", "at", "times", "behind"] ["self", "pairs"] (defScope s_Won_shows) := ⟨rfl, rfl, rfl, by decide +kernel, rfl, by decide +kernel, by decide +kernel⟩
-- Won_shows: 0 self 1 pairs 2 at 3 times 4 behind
abbrev s_is_list_of_pairs : Stmt := topS 24
theorem sc_is_list_of_pairs : FnScope ["value"] ["value"] (defScope s_is_list_of_pairs) := ⟨rfl, rfl, rfl, by decide +kernel, rfl, by decide +kernel, by decide +kernel⟩
-- is_list_of_pairs: 0 value
abbrev s_told : Stmt := topS 25
theorem sc_told : FnScope ["pairs", "worths", "together", "at", "own", "wanted", "pair"] ["pairs"] (defScope s_told) := ⟨rfl, rfl, rfl, by decide +kernel, rfl, by decide +kernel, by decide +kernel⟩
-- told: 0 pairs 1 worths 2 together 3 at 4 own 5 wanted 6 pair
abbrev s_l_bad_pair : Stmt := topS 34
theorem sc_l_bad_pair : FnScope ["_law_which", "_law_more", "_law_bad"] ["_law_which", "_law_more"] (defScope s_l_bad_pair) := ⟨rfl, rfl, rfl, by decide +kernel, rfl, by decide +kernel, by decide +kernel⟩
-- l_bad_pair: 0 _law_which 1 _law_more 2 _law_bad
abbrev s_l_with_pair : Stmt := topS 35
theorem sc_l_with_pair : FnScope ["_law_door", "_law_pair"] ["_law_door", "_law_pair"] (defScope s_l_with_pair) := ⟨rfl, rfl, rfl, by decide +kernel, rfl, by decide +kernel, by decide +kernel⟩
-- l_with_pair: 0 _law_door 1 _law_pair
abbrev s_l_bad_row : Stmt := topS 36
theorem sc_l_bad_row : FnScope ["_law_which", "_law_more", "_law_bad"] ["_law_which", "_law_more"] (defScope s_l_bad_row) := ⟨rfl, rfl, rfl, by decide +kernel, rfl, by decide +kernel, by decide +kernel⟩
-- l_bad_row: 0 _law_which 1 _law_more 2 _law_bad
abbrev s_l_told : Stmt := topS 37
theorem sc_l_told : FnScope ["_law_kind", "_law_which", "_law_more", "_law_strange", "_law_pair", "_law_beyond", "_law_pairs", "error", "_law_found", "_law_at"] ["_law_kind", "_law_which", "_law_more"] (defScope s_l_told) := ⟨rfl, rfl, rfl, by decide +kernel, rfl, by decide +kernel, by decide +kernel⟩
-- l_told: 0 _law_kind 1 _law_which 2 _law_more 3 _law_strange 4 _law_pair 5 _law_beyond 6 _law_pairs 7 error 8 _law_found 9 _law_at
abbrev s_law : Stmt := topS 38
theorem sc_law : FnScope ["_law_script", "_law_cell", "_law_kind", "_law_due", "_law_at"] ["_law_script"] (defScope s_law) := ⟨rfl, rfl, rfl, by decide +kernel, rfl, by decide +kernel, by decide +kernel⟩
-- law: 0 _law_script 1 _law_cell 2 _law_kind 3 _law_due 4 _law_at
structure Txt (K : PySem.W.Frag) (mg : Str → Option Value) (base : Heap) where
  is_whole : DefAt K mg "is_whole" s_is_whole ["value"]
  is_above_zero : DefAt K mg "is_above_zero" s_is_above_zero ["value"]
  is_pair : DefAt K mg "is_pair" s_is_pair ["value"]
  lesser_and_greater : DefAt K mg "lesser_and_greater" s_lesser_and_greater ["pair"]
  most : DefAt K mg "most" s_most ["pair"]
  is_taking : DefAt K mg "is_taking" s_is_taking ["pair", "times"]
  taken : DefAt K mg "taken" s_taken ["pair", "times"]
  worth : DefAt K mg "worth" s_worth ["pair"]
  quotients : DefAt K mg "quotients" s_quotients ["pair"]
  is_row : DefAt K mg "is_row" s_is_row ["value"]
  pair_of : DefAt K mg "pair_of" s_pair_of ["row", "common"]
  shortest : DefAt K mg "shortest" s_shortest ["pair"]
  longest : DefAt K mg "longest" s_longest ["pair"]
  taking_to_worth : DefAt K mg "taking_to_worth" s_taking_to_worth ["pair", "wanted"]
  all_together : DefAt K mg "all_together" s_all_together ["worths"]
  is_lost : DefAt K mg "is_lost" s_is_lost ["pairs"]
  Lost : ClAt K mg "Lost"
  mk_Lost : MkO K Lost.C
  Won : ClAt K mg "Won"
  n_Won_at : NoAttr K Won.C "at"
  n_Won_times : NoAttr K Won.C "times"
  Lost_shows : MethAt K Lost.C "shows" "Lost.shows" s_Lost_shows ["self", "pairs"]
  Won_init : MethAt K Won.C "__init__" "Won.__init__" s_Won_init ["self", "at", "times"]
  mk_Won : Mk K Won.C Won_init.f
  Won_shows : MethAt K Won.C "shows" "Won.shows" s_Won_shows ["self", "pairs"]
  is_list_of_pairs : DefAt K mg "is_list_of_pairs" s_is_list_of_pairs ["value"]
  told : DefAt K mg "told" s_told ["pairs"]
  TimesError : ExcAt K mg "TimesError"
  BadPair : ExcAt K mg "BadPair"
  BadTaking : ExcAt K mg "BadTaking"
  BadRow : ExcAt K mg "BadRow"
  BadPairs : ExcAt K mg "BadPairs"
  l_bad_pair : DefAt K mg "_law_bad_pair" s_l_bad_pair ["_law_which", "_law_more"]
  l_with_pair : DefAt K mg "_law_with_pair" s_l_with_pair ["_law_door", "_law_pair"]
  l_bad_row : DefAt K mg "_law_bad_row" s_l_bad_row ["_law_which", "_law_more"]
  l_told : DefAt K mg "_law_told" s_l_told ["_law_kind", "_law_which", "_law_more"]
  sx_BadPair : PySem.W.subIn K (.ref BadPair.C) (.ref TimesError.C) = some true
  kv_BadPair : PySem.W.kitOne K (.ref BadPair.C) (.type "ValueError") = some true
  kx_BadPair_BadPair : PySem.W.kitOne K (.ref BadPair.C) (.ref BadPair.C) = some true
  kx_BadPair_BadTaking : PySem.W.kitOne K (.ref BadPair.C) (.ref BadTaking.C) = some false
  kx_BadPair_BadRow : PySem.W.kitOne K (.ref BadPair.C) (.ref BadRow.C) = some false
  kx_BadPair_BadPairs : PySem.W.kitOne K (.ref BadPair.C) (.ref BadPairs.C) = some false
  sx_BadTaking : PySem.W.subIn K (.ref BadTaking.C) (.ref TimesError.C) = some true
  kv_BadTaking : PySem.W.kitOne K (.ref BadTaking.C) (.type "ValueError") = some true
  kx_BadTaking_BadPair : PySem.W.kitOne K (.ref BadTaking.C) (.ref BadPair.C) = some false
  kx_BadTaking_BadTaking : PySem.W.kitOne K (.ref BadTaking.C) (.ref BadTaking.C) = some true
  kx_BadTaking_BadRow : PySem.W.kitOne K (.ref BadTaking.C) (.ref BadRow.C) = some false
  kx_BadTaking_BadPairs : PySem.W.kitOne K (.ref BadTaking.C) (.ref BadPairs.C) = some false
  sx_BadRow : PySem.W.subIn K (.ref BadRow.C) (.ref TimesError.C) = some true
  kv_BadRow : PySem.W.kitOne K (.ref BadRow.C) (.type "ValueError") = some true
  kx_BadRow_BadPair : PySem.W.kitOne K (.ref BadRow.C) (.ref BadPair.C) = some false
  kx_BadRow_BadTaking : PySem.W.kitOne K (.ref BadRow.C) (.ref BadTaking.C) = some false
  kx_BadRow_BadRow : PySem.W.kitOne K (.ref BadRow.C) (.ref BadRow.C) = some true
  kx_BadRow_BadPairs : PySem.W.kitOne K (.ref BadRow.C) (.ref BadPairs.C) = some false
  sx_BadPairs : PySem.W.subIn K (.ref BadPairs.C) (.ref TimesError.C) = some true
  kv_BadPairs : PySem.W.kitOne K (.ref BadPairs.C) (.type "ValueError") = some true
  kx_BadPairs_BadPair : PySem.W.kitOne K (.ref BadPairs.C) (.ref BadPair.C) = some false
  kx_BadPairs_BadTaking : PySem.W.kitOne K (.ref BadPairs.C) (.ref BadTaking.C) = some false
  kx_BadPairs_BadRow : PySem.W.kitOne K (.ref BadPairs.C) (.ref BadRow.C) = some false
  kx_BadPairs_BadPairs : PySem.W.kitOne K (.ref BadPairs.C) (.ref BadPairs.C) = some true
  k_Lost_Lost : PySem.W.kitOne K (.ref Lost.C) (.ref Lost.C) = some true
  k_Lost_Won : PySem.W.kitOne K (.ref Lost.C) (.ref Won.C) = some false
  k_Won_Lost : PySem.W.kitOne K (.ref Won.C) (.ref Lost.C) = some false
  k_Won_Won : PySem.W.kitOne K (.ref Won.C) (.ref Won.C) = some true
  n_ValueError : mg "ValueError" = none
  n_all : mg "all" = none
  n_bool : mg "bool" = none
  n_divmod : mg "divmod" = none
  n_enumerate : mg "enumerate" = none
  n_int : mg "int" = none
  n_isinstance : mg "isinstance" = none
  n_len : mg "len" = none
  n_list : mg "list" = none
  n_range : mg "range" = none
  n_reversed : mg "reversed" = none
  n_sum : mg "sum" = none
  n_tuple : mg "tuple" = none
  t_LONGEST_ROW : Tok
  c_LONGEST_ROW : mg "LONGEST_ROW" = some (.int 1000 t_LONGEST_ROW)
  t_MOST_PAIRS : Tok
  c_MOST_PAIRS : mg "MOST_PAIRS" = some (.int 100 t_MOST_PAIRS)
  z_is_row : GG.TabAt mg base is_row.fd
  z_is_list_of_pairs : GG.TabAt mg base is_list_of_pairs.fd
/-! ### the promises -/
def sp_is_whole : Sp := fun vs H Q _ => ∃ i : Int, vs = [.int i] ∧ RetV (.bl true) H Q
def sp_is_above_zero : Sp := fun vs H Q _ => ∃ i : Int, vs = [.int i] ∧ RetV (.bl (decide (0 < i))) H Q
def sp_is_pair (K : PySem.W.Frag) : Sp := fun vs H Q _ => ∃ (p : Addr) (a b : Int), vs = [.ref p] ∧ SqT K H p [.int a, .int b] ∧ RetV (.bl (decide (0 < a) && decide (0 < b))) H Q
def sp_lesser_and_greater (K : PySem.W.Frag) : Sp := fun vs H Q _ => ∃ (p : Addr) (a b : Int), vs = [.ref p] ∧ SqT K H p [.int a, .int b] ∧ 0 < a ∧ 0 < b ∧ RetU [.int (mnF a b), .int (mxF a b)] H Q
section
variable {P : Program} {w : World} {K : PySem.W.Frag} {mg : Str → Option Value} {base : Heap}
theorem ok_is_whole (T : Txt K mg base) : FnOk P w K mg base CX0 1 T.is_whole.f T.is_whole.fd ["value"] sp_is_whole := by
  refine T.is_whole.F.ok sc_is_whole (fun vs H Q E h => ?_) (fun cdv A outer s H vs Q E hr h => ?_)
  · obtain ⟨i, rfl, _⟩ := h; rfl
  · obtain ⟨i, rfl, q⟩ := h
    refine ⟨_, (pss_one (ps_ret (pe_and (pe_callB call_isi (by rfl) T.n_isinstance (by decide +kernel) (pa_cons (pv 0) (pa_cons (pe_bltn (v := .ty "int") (by rfl) T.n_int (by decide +kernel) rfl) pa_nil))) (pe_one (pe_not (pe_callB call_isi (by rfl) T.n_isinstance (by decide +kernel) (pa_cons (pv 0) (pa_cons (pe_bltn (v := .ty "bool") (by rfl) T.n_bool (by decide +kernel) rfl) pa_nil)))))))), ?_⟩
    exact s_ret (ev_andV (ev_cb (ea_cons (ev_var rfl) (ea_cons ev_c ea_nil)) (rc_isi_int (b := true) (by decide +kernel))) fun _ => ev_notV (ev_cb (ea_cons (ev_var rfl) (ea_cons ev_c ea_nil)) (rc_isi_int (b := false) (by decide +kernel)))) q
theorem ok_is_above_zero (T : Txt K mg base) : FnOk P w K mg base CX0 2 T.is_above_zero.f T.is_above_zero.fd ["value"] sp_is_above_zero := by
  refine T.is_above_zero.F.ok sc_is_above_zero (fun vs H Q E h => ?_) (fun cdv A outer s H vs Q E hr h => ?_)
  · obtain ⟨i, rfl, _⟩ := h; rfl
  · obtain ⟨i, rfl, q⟩ := h
    refine ⟨_, (pss_one (ps_ret (pe_and (pe_call (ok_is_whole T) (hr.mono (by omega)) (by rfl) T.is_whole.g T.is_whole.F.kp T.is_whole.b .nil pass0 (pa_cons (pv 0) pa_nil)) (pe_one (pe_cmpR op_gt (pv 0) pe_int (nomark _)))))), ?_⟩
    exact s_ret (ev_andV (a := true) (ev_call (ea_cons (ev_var rfl) ea_nil) fun H1 e Q q E => ⟨i, rfl, q⟩) fun _ => ev_op (ev_var rfl) ev_c rv_I0) q
theorem spv_above {i : Int} {H : Hp} : SpV sp_is_above_zero [.int i] H (.bl (decide (0 < i))) := fun H1 e Q q E => ⟨i, rfl, q⟩
theorem ok_is_pair (T : Txt K mg base) : FnOk P w K mg base CX0 3 T.is_pair.f T.is_pair.fd ["value"] (sp_is_pair K) := by
  refine T.is_pair.F.ok sc_is_pair (fun vs H Q E h => ?_) (fun cdv A outer s H vs Q E hr h => ?_)
  · obtain ⟨p, a, b, rfl, _⟩ := h; rfl
  · obtain ⟨p, a, b, rfl, hp, q⟩ := h
    refine ⟨_, (pss_cons (ps_if (PW.pt (pw_or (pt_not (pt_val (pe_callB call_isi (by rfl) T.n_isinstance (by decide +kernel) (pa_cons (pv 0) (pa_cons (pe_bltn (v := .ty "tuple") (by rfl) T.n_tuple (by decide +kernel) rfl) pa_nil))))) (pw_or1 (pt_cmpR op_ne (pe_callB call_len_seq (by rfl) T.n_len (by decide +kernel) (pa_cons (pv 0) pa_nil)) pe_int (nomark _))))) (pss_one (ps_ret pe_bl)) pss_nil)
      (pss_cons (ps_asg (pv 0) (pg_tup rfl (pgs_cons (pg_name (i := 1) sc_is_pair.nd rfl (by first | exact .inl rfl | exact .inr rfl)) (pgs_cons (pg_name (i := 2) sc_is_pair.nd rfl (by first | exact .inl rfl | exact .inr rfl)) pgs_nil))))
      (pss_one (ps_ret (pe_and (pe_call (ok_is_above_zero T) (hr.mono (by omega)) (by rfl) T.is_above_zero.g T.is_above_zero.F.kp T.is_above_zero.b .nil pass0 (pa_cons (pv 1) pa_nil)) (pe_one (pe_call (ok_is_above_zero T) (hr.mono (by omega)) (by rfl) T.is_above_zero.g T.is_above_zero.F.kp T.is_above_zero.b .nil pass0 (pa_cons (pv 2) pa_nil)))))))), ?_⟩
    refine q_when (b := false) (et_or_ff (et_not (a := true) (et_B (ev_cb (ea_cons (ev_var rfl) (ea_cons ev_c ea_nil)) (rc_isi_tup hp (by decide +kernel))))) (et_test (ev_op (ev_cb (ea_cons (ev_var rfl) ea_nil) (rc_lenT hp)) ev_c (rv_ne rfl)))) (fun z => nomatch z) fun _ H1 e1 => ?_
    refine q_unT (ev_var rfl) (ex_t e1 hp) fun H2 e2 => ?_
    exact s_ret (ev_andV (ev_call (ea_cons (ev_var rfl) ea_nil) spv_above) fun _ => ev_call (ea_cons (ev_var rfl) ea_nil) spv_above) fun H3 e3 => q H3 ((e1.trans e2).trans e3)
theorem spv_pair {p : Addr} {a b : Int} {H : Hp} (hp : SqT K H p [.int a, .int b]) : SpV (sp_is_pair K) [.ref p] H (.bl (decide (0 < a) && decide (0 < b))) := fun H1 e Q q E => ⟨p, a, b, rfl, ex_t e hp, q⟩
theorem ok_lesser_and_greater (T : Txt K mg base) : FnOk P w K mg base CX0 4 T.lesser_and_greater.f T.lesser_and_greater.fd ["pair"] (sp_lesser_and_greater K) := by
  refine T.lesser_and_greater.F.ok sc_lesser_and_greater (fun vs H Q E h => ?_) (fun cdv A outer s H vs Q E hr h => ?_)
  · obtain ⟨p, a, b, rfl, _⟩ := h; rfl
  · obtain ⟨p, a, b, rfl, hp, ha, hb, q⟩ := h
    refine ⟨_, (pss_cons (ps_if (pt_not (pt_val (pe_call (ok_is_pair T) (hr.mono (by omega)) (by rfl) T.is_pair.g T.is_pair.F.kp T.is_pair.b .nil pass0 (pa_cons (pv 0) pa_nil)))) (pss_one ps_never) pss_nil)
      (pss_cons (ps_asg (pv 0) (pg_tup rfl (pgs_cons (pg_name (i := 1) sc_lesser_and_greater.nd rfl (by first | exact .inl rfl | exact .inr rfl)) (pgs_cons (pg_name (i := 2) sc_lesser_and_greater.nd rfl (by first | exact .inl rfl | exact .inr rfl)) pgs_nil))))
      (pss_cons (ps_if (pt_cmpR op_le (pv 1) (pv 2) (nomark _)) (pss_one (ps_ret (pe_tup (pa_cons (pv 1) (pa_cons (pv 2) pa_nil))))) pss_nil)
      (pss_one (ps_ret (pe_tup (pa_cons (pv 2) (pa_cons (pv 1) pa_nil)))))))), ?_⟩
    refine q_when (b := false) (et_is (et_not (et_B (ev_call (ea_cons (ev_var rfl) ea_nil) (spv_pair hp)))) (by simp [ha, hb])) (fun z => nomatch z) fun _ H1 e1 => ?_
    refine q_unT (ev_var rfl) (ex_t e1 hp) fun H2 e2 => ?_
    refine q_when (et_test (ev_op (ev_var rfl) (ev_var rfl) rv_I0)) (fun z H3 e3 => ?_) (fun z H3 e3 => ?_)
    · have z1 : a ≤ b := of_decide_eq_true z
      unfold mnF mxF at q
      rw [if_pos z1, if_pos z1] at q
      exact s_retU (eu_tup (ea_cons (ev_var rfl) (ea_cons (ev_var rfl) ea_nil)) (by show 2 ≤ 100000; decide)) fun p H4 hp' e4 h4 => RetU.go q ((e1.trans e2).trans e3) hp' e4 h4
    · have z1 : ¬ a ≤ b := of_decide_eq_false z
      unfold mnF mxF at q
      rw [if_neg z1, if_neg z1] at q
      exact s_retU (eu_tup (ea_cons (ev_var rfl) (ea_cons (ev_var rfl) ea_nil)) (by show 2 ≤ 100000; decide)) fun p H4 hp' e4 h4 => RetU.go q ((e1.trans e2).trans e3) hp' e4 h4
theorem spu_lg {p : Addr} {a b : Int} {H : Hp} (hp : SqT K H p [.int a, .int b]) (ha : 0 < a) (hb : 0 < b) : SpU (sp_lesser_and_greater K) [.ref p] H [.int (mnF a b), .int (mxF a b)] := fun H1 e Q q E => ⟨p, a, b, rfl, ex_t e hp, ha, hb, q⟩
end
def sp_most (K : PySem.W.Frag) : Sp := fun vs H Q _ => ∃ (p : Addr) (a b : Int), vs = [.ref p] ∧ SqT K H p [.int a, .int b] ∧ Big a ∧ Big b ∧ RetV (.int (mostF a b)) H Q
def sp_is_taking (K : PySem.W.Frag) : Sp := fun vs H Q _ => ∃ (p : Addr) (a b t : Int), vs = [.ref p, .int t] ∧ SqT K H p [.int a, .int b] ∧ Big a ∧ Big b ∧ RetV (.bl (decide (0 < t) && decide (t ≤ mostF a b))) H Q
def sp_taken (K : PySem.W.Frag) : Sp := fun vs H Q _ => ∃ (p : Addr) (a b t : Int), vs = [.ref p, .int t] ∧ SqT K H p [.int a, .int b] ∧ Big a ∧ Big b ∧ 1 ≤ t ∧ t ≤ mostF a b ∧ RetU [.int (behA a b t), .int (behB a b t)] H Q
def sp_worth (K : PySem.W.Frag) : Sp := fun vs H Q _ => ∃ (p : Addr) (a b : Int), vs = [.ref p] ∧ SqT K H p [.int a, .int b] ∧ Big a ∧ Big b ∧ RetV (.int (worthF a b)) H Q
section
variable {P : Program} {w : World} {K : PySem.W.Frag} {mg : Str → Option Value} {base : Heap}
theorem ok_most (T : Txt K mg base) : FnOk P w K mg base CX0 5 T.most.f T.most.fd ["pair"] (sp_most K) := by
  refine T.most.F.ok sc_most (fun vs H Q E h => ?_) (fun cdv A outer s H vs Q E hr h => ?_)
  · obtain ⟨p, a, b, rfl, _⟩ := h; rfl
  · obtain ⟨p, a, b, rfl, hp, ha, hb, q⟩ := h
    refine ⟨_, (pss_cons (ps_asg (pe_call (ok_lesser_and_greater T) (hr.mono (by omega)) (by rfl) T.lesser_and_greater.g T.lesser_and_greater.F.kp T.lesser_and_greater.b .nil pass0 (pa_cons (pv 0) pa_nil)) (pg_tup rfl (pgs_cons (pg_name (i := 1) sc_most.nd rfl (by first | exact .inl rfl | exact .inr rfl)) (pgs_cons (pg_name (i := 2) sc_most.nd rfl (by first | exact .inl rfl | exact .inr rfl)) pgs_nil))))
      (pss_one (ps_ret (pe_op op_fdivW (pe_op op_sub (pv 2) pe_int) (pv 1))))), ?_⟩
    refine q_unU (eu_call (ea_cons (ev_var rfl) ea_nil) (spu_lg hp ha.pos hb.pos)) fun H1 e1 => ?_
    exact s_ret (ev_op (ev_op (ev_var rfl) ev_c rv_I0) (ev_var rfl) (rv_I (big_mn ha hb).div)) fun H2 e2 => q H2 (e1.trans e2)
theorem spv_most {p : Addr} {a b : Int} {H : Hp} (hp : SqT K H p [.int a, .int b]) (ha : Big a) (hb : Big b) : SpV (sp_most K) [.ref p] H (.int (mostF a b)) := fun H1 e Q q E => ⟨p, a, b, rfl, ex_t e hp, ha, hb, q⟩
theorem ok_is_taking (T : Txt K mg base) : FnOk P w K mg base CX0 6 T.is_taking.f T.is_taking.fd ["pair", "times"] (sp_is_taking K) := by
  refine T.is_taking.F.ok sc_is_taking (fun vs H Q E h => ?_) (fun cdv A outer s H vs Q E hr h => ?_)
  · obtain ⟨p, a, b, t, rfl, _⟩ := h; rfl
  · obtain ⟨p, a, b, t, rfl, hp, ha, hb, q⟩ := h
    refine ⟨_, (pss_cons (ps_set (i := 2) sc_is_taking.nd rfl (by first | exact .inl rfl | exact .inr rfl) (pe_call (ok_most T) (hr.mono (by omega)) (by rfl) T.most.g T.most.F.kp T.most.b .nil pass0 (pa_cons (pv 0) pa_nil)))
      (pss_one (ps_ret (pe_and (pe_call (ok_is_above_zero T) (hr.mono (by omega)) (by rfl) T.is_above_zero.g T.is_above_zero.F.kp T.is_above_zero.b .nil pass0 (pa_cons (pv 1) pa_nil)) (pe_one (pe_cmpR op_le (pv 1) (pv 2) (nomark _))))))), ?_⟩
    refine q_asg (ev_call (ea_cons (ev_var rfl) ea_nil) (spv_most hp ha hb)) fun H1 e1 => ?_
    exact s_ret (ev_andV (ev_call (ea_cons (ev_var rfl) ea_nil) spv_above) fun _ => ev_op (ev_var rfl) (ev_var rfl) rv_I0) fun H2 e2 => q H2 (e1.trans e2)
theorem spv_taking {p : Addr} {a b t : Int} {H : Hp} (hp : SqT K H p [.int a, .int b]) (ha : Big a) (hb : Big b) : SpV (sp_is_taking K) [.ref p, .int t] H (.bl (decide (0 < t) && decide (t ≤ mostF a b))) := fun H1 e Q q E => ⟨p, a, b, t, rfl, ex_t e hp, ha, hb, q⟩
theorem ok_taken (T : Txt K mg base) : FnOk P w K mg base CX0 7 T.taken.f T.taken.fd ["pair", "times"] (sp_taken K) := by
  refine T.taken.F.ok sc_taken (fun vs H Q E h => ?_) (fun cdv A outer s H vs Q E hr h => ?_)
  · obtain ⟨p, a, b, t, rfl, _⟩ := h; rfl
  · obtain ⟨p, a, b, t, rfl, hp, ha, hb, ht, hm, q⟩ := h
    refine ⟨_, (pss_cons (ps_if (pt_not (pt_val (pe_call (ok_is_taking T) (hr.mono (by omega)) (by rfl) T.is_taking.g T.is_taking.F.kp T.is_taking.b .nil pass0 (pa_cons (pv 0) (pa_cons (pv 1) pa_nil))))) (pss_one ps_never) pss_nil)
      (pss_cons (ps_asg (pv 0) (pg_tup rfl (pgs_cons (pg_name (i := 2) sc_taken.nd rfl (by first | exact .inl rfl | exact .inr rfl)) (pgs_cons (pg_name (i := 3) sc_taken.nd rfl (by first | exact .inl rfl | exact .inr rfl)) pgs_nil))))
      (pss_cons (ps_if (pt_cmpR op_gt (pv 2) (pv 3) (nomark _)) (pss_one (ps_ret (pe_tup (pa_cons (pe_op op_sub (pv 2) (pe_op op_mulX (pv 1) (pv 3))) (pa_cons (pv 3) pa_nil))))) pss_nil)
      (pss_one (ps_ret (pe_tup (pa_cons (pv 2) (pa_cons (pe_op op_sub (pv 3) (pe_op op_mulX (pv 1) (pv 2))) pa_nil)))))))), ?_⟩
    have hlt := most_lt ha.pos hb.pos hm
    have hl0 := mn_pos ha.pos hb.pos
    have htb : t.natAbs < 2 ^ 4000 := by
      refine (big_mx ha hb).nle (by omega) ?_
      have := Int.mul_le_mul_of_nonneg_left (show 1 ≤ mnF a b by omega) (show 0 ≤ t by omega)
      omega
    refine q_when (b := false) (et_is (et_not (et_B (ev_call (ea_cons (ev_var rfl) (ea_cons (ev_var rfl) ea_nil)) (spv_taking hp ha hb)))) (by simp; omega)) (fun z => nomatch z) fun _ H2 e2 => ?_
    refine q_unT (ev_var rfl) (ex_t e2 hp) fun H3 e3 => ?_
    refine q_when (et_test (ev_op (ev_var rfl) (ev_var rfl) rv_I0)) (fun z H4 e4 => ?_) (fun z H4 e4 => ?_)
    · have z1 : b < a := of_decide_eq_true z
      unfold behA behB at q
      rw [if_pos z1, if_pos z1] at q
      exact s_retU (eu_tup (ea_cons (ev_op (ev_var rfl) (ev_op (ev_var rfl) (ev_var rfl) (rv_I (Big.mul htb hb.lt))) rv_I0) (ea_cons (ev_var rfl) ea_nil)) (by show 2 ≤ 100000; decide)) fun p H5 hp' e5 h5 => RetU.go q ((e2.trans e3).trans e4) hp' e5 h5
    · have z1 : ¬ b < a := of_decide_eq_false z
      unfold behA behB at q
      rw [if_neg z1, if_neg z1] at q
      exact s_retU (eu_tup (ea_cons (ev_var rfl) (ea_cons (ev_op (ev_var rfl) (ev_op (ev_var rfl) (ev_var rfl) (rv_I (Big.mul htb ha.lt))) rv_I0) ea_nil)) (by show 2 ≤ 100000; decide)) fun p H5 hp' e5 h5 => RetU.go q ((e2.trans e3).trans e4) hp' e5 h5
theorem spu_taken {p : Addr} {a b t : Int} {H : Hp} (hp : SqT K H p [.int a, .int b]) (ha : Big a) (hb : Big b) (h1 : 1 ≤ t) (h2 : t ≤ mostF a b) : SpU (sp_taken K) [.ref p, .int t] H [.int (behA a b t), .int (behB a b t)] :=
  fun H1 e Q q E => ⟨p, a, b, t, rfl, ex_t e hp, ha, hb, h1, h2, q⟩
theorem ok_worth (T : Txt K mg base) : FnOk P w K mg base CX0 5 T.worth.f T.worth.fd ["pair"] (sp_worth K) := by
  refine T.worth.F.ok sc_worth (fun vs H Q E h => ?_) (fun cdv A outer s H vs Q E hr h => ?_)
  · obtain ⟨p, a, b, rfl, _⟩ := h; rfl
  · obtain ⟨p, a, b, rfl, hp, ha, hb, q⟩ := h
    refine ⟨_, (pss_cons (ps_asg (pe_call (ok_lesser_and_greater T) (hr.mono (by omega)) (by rfl) T.lesser_and_greater.g T.lesser_and_greater.F.kp T.lesser_and_greater.b .nil pass0 (pa_cons (pv 0) pa_nil)) (pg_tup rfl (pgs_cons (pg_name (i := 1) sc_worth.nd rfl (by first | exact .inl rfl | exact .inr rfl)) (pgs_cons (pg_name (i := 2) sc_worth.nd rfl (by first | exact .inl rfl | exact .inr rfl)) pgs_nil))))
      (pss_cons (ps_asg (pe_callB call_divmodW (by rfl) T.n_divmod (by decide +kernel) (pa_cons (pv 2) (pa_cons (pv 1) pa_nil))) (pg_tup rfl (pgs_cons (pg_name (i := 3) sc_worth.nd rfl (by first | exact .inl rfl | exact .inr rfl)) (pgs_cons (pg_name (i := 4) sc_worth.nd rfl (by first | exact .inl rfl | exact .inr rfl)) pgs_nil))))
      (pss_cons (ps_if (pt_cmpR op_lt (pe_op op_mulX (pv 4) (pv 2)) (pe_op op_mulX (pv 1) (pv 1)) (nomark _)) (pss_one (ps_ret (pe_op op_sub (pv 3) pe_int))) pss_nil)
      (pss_one (ps_ret (pv 3)))))), ?_⟩
    have hL := big_mn ha hb
    have hH := big_mx ha hb
    have r0 := Int.emod_nonneg (mxF a b) (show mnF a b ≠ 0 by have := hL.pos; omega)
    have r1 := Int.emod_lt_of_pos (mxF a b) hL.pos
    have hr' : (mxF a b % mnF a b).natAbs < 2 ^ 4000 := hL.nle r0 (Int.le_of_lt r1)
    refine q_unU (eu_call (ea_cons (ev_var rfl) ea_nil) (spu_lg hp ha.pos hb.pos)) fun H1 e1 => ?_
    refine q_unU (eu_divmod (ev_var rfl) (ev_var rfl) hL.divp) fun H2 e2 => ?_
    refine q_when (et_test (ev_op (ev_op (ev_var rfl) (ev_var rfl) (rv_I (Big.mul hr' hH.lt))) (ev_op (ev_var rfl) (ev_var rfl) (rv_I (Big.mul hL.lt hL.lt))) rv_I0)) (fun z H3 e3 => ?_) (fun z H3 e3 => ?_)
    · have e : worthF a b = mxF a b / mnF a b - 1 := if_pos (of_decide_eq_true z)
      rw [e] at q
      exact s_ret (ev_op (ev_var rfl) ev_c rv_I0) fun H4 e4 => q H4 (((e1.trans e2).trans e3).trans e4)
    · have e : worthF a b = mxF a b / mnF a b := if_neg (of_decide_eq_false z)
      rw [e] at q
      exact s_ret (ev_var rfl) fun H4 e4 => q H4 (((e1.trans e2).trans e3).trans e4)
theorem spv_worth {p : Addr} {a b : Int} {H : Hp} (hp : SqT K H p [.int a, .int b]) (ha : Big a) (hb : Big b) : SpV (sp_worth K) [.ref p] H (.int (worthF a b)) := fun H1 e Q q E => ⟨p, a, b, rfl, ex_t e hp, ha, hb, q⟩
end
/-! ### the defs that a generator expression calls -/
section
variable {P : Program} {w : World} {K : PySem.W.Frag} {mg : Str → Option Value} {base : Heap}
theorem qf_is_whole (T : Txt K mg base) : GG.QFn P w K mg 1 T.is_whole.f (GG.RWhole K) :=
  GG.qfn_of (D := 0) T.is_whole.F sc_is_whole T.is_whole.b (by rfl) fun env A s s1 m v b hs e hab hh hD B hn hm k0 hR =>
    GG.body_whole e B (by rw [hs]; rfl) hn hm (by decide) (by show env.scope.names.lookup _ = _; rw [hs]; rfl) T.n_isinstance (by show env.scope.names.lookup _ = _; rw [hs]; rfl) T.n_int (by show env.scope.names.lookup _ = _; rw [hs]; rfl) T.n_bool k0 hR
theorem qf_is_above_zero (T : Txt K mg base) : GG.QFn P w K mg 2 T.is_above_zero.f (GG.RAbove K) :=
  GG.qfn_of (D := 1) T.is_above_zero.F sc_is_above_zero T.is_above_zero.b (by rfl) fun env A s s1 m v b hs e hab hh hD B hn hm k0 hR =>
    GG.body_above (qf_is_whole T) hh hD T.is_whole.F.kp e B (by rw [hs]; rfl) hn hm (by decide) (by show env.scope.names.lookup _ = _; rw [hs]; rfl) T.is_whole.g (by decide) k0 hR
theorem qf_is_pair (T : Txt K mg base) : GG.QFn P w K mg 3 T.is_pair.f (GG.RPair K) :=
  GG.qfn_of (D := 2) T.is_pair.F sc_is_pair T.is_pair.b (by rfl) fun env A s s1 m v b hs e hab hh hD B hn hm k0 hR =>
    GG.body_pair (qf_is_above_zero T) hh hD T.is_above_zero.F.kp e B (by rw [hs]; rfl) (by rw [hs]; rfl) (by rw [hs]; rfl) (by decide) hn hm (by decide) (by decide) (by decide) (by show env.scope.names.lookup _ = _; rw [hs]; rfl) T.is_above_zero.g (by decide)
      (by show env.scope.names.lookup _ = _; rw [hs]; rfl) T.n_isinstance (by show env.scope.names.lookup _ = _; rw [hs]; rfl) T.n_tuple (by show env.scope.names.lookup _ = _; rw [hs]; rfl) T.n_len k0 hab hR
end
/-! ### rows: the program's defs -/
def sp_quotients (K : PySem.W.Frag) : Sp := fun vs H Q _ => ∃ (p : Addr) (a b : Int), vs = [.ref p] ∧ SqT K H p [.int a, .int b] ∧ Big a ∧ Big b ∧ RetQ (rowP (mxF a b) (mnF a b)) (comP (mxF a b) (mnF a b)) H Q
def sp_is_row (K : PySem.W.Frag) (P : Addr) : Sp := fun vs H Q _ => ∃ (a : Addr) (rw : List Int), vs = [.ref a] ∧ SqL K H a (rw.map V.int) ∧ GoodRow rw ∧ rw.length ≤ 1000 ∧ H P = some (GG.tabO P) ∧ RetV (.bl true) H Q
def sp_pair_of (K : PySem.W.Frag) (P : Addr) : Sp := fun vs H Q _ => ∃ (a : Addr) (rw : List Int) (c : Int), vs = [.ref a, .int c] ∧ SqL K H a (rw.map V.int) ∧ GoodRow rw ∧ rw.length ≤ 1000 ∧ 0 < c ∧ Big (back rw c).1 ∧ (∀ q ∈ rw, Big q) ∧ H P = some (GG.tabO P) ∧ RetU [.int (back rw c).1, .int (back rw c).2] H Q
def sp_shortest (K : PySem.W.Frag) : Sp := fun vs H Q _ => ∃ (p : Addr) (a b : Int), vs = [.ref p] ∧ SqT K H p [.int a, .int b] ∧ Big a ∧ Big b ∧ RetV (.int (fewF a b)) H Q
def sp_longest (K : PySem.W.Frag) : Sp := fun vs H Q _ => ∃ (p : Addr) (a b : Int), vs = [.ref p] ∧ SqT K H p [.int a, .int b] ∧ Big a ∧ Big b ∧ RetV (.int (longF a b)) H Q
section
variable {P : Program} {w : World} {K : PySem.W.Frag} {mg : Str → Option Value} {base : Heap}
theorem spq_quot {p : Addr} {a b : Int} {H : Hp} (hp : SqT K H p [.int a, .int b]) (ha : Big a) (hb : Big b) : SpQ (sp_quotients K) [.ref p] H (rowP (mxF a b) (mnF a b)) (comP (mxF a b) (mnF a b)) := fun H1 e Q q E => ⟨p, a, b, rfl, ex_t e hp, ha, hb, q⟩
theorem spv_short {p : Addr} {a b : Int} {H : Hp} (hp : SqT K H p [.int a, .int b]) (ha : Big a) (hb : Big b) : SpV (sp_shortest K) [.ref p] H (.int (fewF a b)) := fun H1 e Q q E => ⟨p, a, b, rfl, ex_t e hp, ha, hb, q⟩
theorem spv_long {p : Addr} {a b : Int} {H : Hp} (hp : SqT K H p [.int a, .int b]) (ha : Big a) (hb : Big b) : SpV (sp_longest K) [.ref p] H (.int (longF a b)) := fun H1 e Q q E => ⟨p, a, b, rfl, ex_t e hp, ha, hb, q⟩
theorem spu_pair_of {a : Addr} {rw : List Int} {c : Int} {H : Hp} (h : SqL K H a (rw.map V.int)) (hg : GoodRow rw) (hl : rw.length ≤ 1000) (hc : 0 < c) {P : Addr} (hb : Big (back rw c).1) (hq : ∀ q ∈ rw, Big q) (hP : H P = some (GG.tabO P)) : SpU (sp_pair_of K P) [.ref a, .int c] H [.int (back rw c).1, .int (back rw c).2] :=
  fun H1 e Q q E => ⟨a, rw, c, rfl, ex_l e h, hg, hl, hc, hb, hq, e _ _ hP, q⟩
theorem ok_quotients (T : Txt K mg base) : FnOk P w K mg base CX0 5 T.quotients.f T.quotients.fd ["pair"] (sp_quotients K) := by
  refine T.quotients.F.ok sc_quotients (fun vs H Q E h => ?_) (fun cdv A outer s H vs Q E hr h => ?_)
  · obtain ⟨p, a, b, rfl, _⟩ := h; rfl
  · obtain ⟨p, a, b, rfl, hp, ha, hb, q⟩ := h
    refine ⟨_, (pss_cons (ps_asg (pe_call (ok_lesser_and_greater T) (hr.mono (by omega)) (by rfl) T.lesser_and_greater.g T.lesser_and_greater.F.kp T.lesser_and_greater.b .nil pass0 (pa_cons (pv 0) pa_nil)) (pg_tup rfl (pgs_cons (pg_name (i := 1) sc_quotients.nd rfl (by first | exact .inl rfl | exact .inr rfl)) (pgs_cons (pg_name (i := 2) sc_quotients.nd rfl (by first | exact .inl rfl | exact .inr rfl)) pgs_nil))))
      (pss_cons (ps_set (i := 3) sc_quotients.nd rfl (by first | exact .inl rfl | exact .inr rfl) (pe_lst pa_nil))
      (pss_cons (ps_while PassesOwn.never (pt_cmpR op_gt (pv 1) pe_int (nomark _)) (pss_cons (ps_asg (pe_callB call_divmodW (by rfl) T.n_divmod (by decide +kernel) (pa_cons (pv 2) (pa_cons (pv 1) pa_nil))) (pg_tup rfl (pgs_cons (pg_name (i := 4) sc_quotients.nd rfl (by first | exact .inl rfl | exact .inr rfl)) (pgs_cons (pg_name (i := 5) sc_quotients.nd rfl (by first | exact .inl rfl | exact .inr rfl)) pgs_nil))))
      (pss_cons (ps_expr (pe_bm PySem.F.plainAttrs_list PySem.F.slot_list_append PySem.F.type_list_append mt_append (pv 3) (pa_cons (pv 4) pa_nil)))
      (pss_one (ps_par (i := 1) (j := 2) rfl sc_quotients.nd rfl rfl (by decide) rfl rfl (pa_cons (pv 5) (pa_cons (pv 1) pa_nil)) rfl)))))
      (pss_one (ps_ret (pe_tup (pa_cons (pv 3) (pa_cons (pv 2) pa_nil)))))))), ?_⟩
    have hL := big_mn ha hb
    have hH := big_mx ha hb
    have hlen := big_row_len ha hb
    refine q_unU (eu_call (ea_cons (ev_var rfl) ea_nil) (spu_lg hp ha.pos hb.pos)) fun H1 e1 => ?_
    refine q_asgL (el_lst ea_nil (by show 0 ≤ 100000; decide)) fun r H2 hr0 e2 h2 => ?_
    have hrN : H r = none := fresh_back e1 hr0
    refine q_while (fun m σ' H' => ∃ (acc : List Int) (g l : Int), ∃ z1 z2, σ' = [some (.ref p), some (.int l), some (.int g), some (.ref r), z1, z2] ∧ Ex H H' ∧ H' r = some (.lst (acc.map V.int)) ∧
      acc ++ rowP g l = rowP (mxF a b) (mnF a b) ∧ comP g l = comP (mxF a b) (mnF a b) ∧ 0 < g ∧ 0 ≤ l ∧ l ≤ mnF a b ∧ m = l.toNat) (mnF a b).toNat
      ⟨[], mxF a b, mnF a b, none, none, rfl, e1.trans e2, h2, rfl, rfl, hH.pos, Int.le_of_lt hL.pos, Int.le_refl _, rfl⟩ fun m σ' H' hW => ?_
    obtain ⟨acc, g, l, z1, z2, rfl, ex, hR, er, ec, hg, hl0, hl1, rfl⟩ := hW
    refine ⟨decide (0 < l), et_test (ev_op (ev_var rfl) ev_c rv_I0), fun hc H3 e3 => ?_, fun hc H3 e3 => ?_⟩
    · have hl : 0 < l := of_decide_eq_true hc
      have bl : Big l := hL.le hl hl1
      have r0 := Int.emod_nonneg g (show l ≠ 0 by omega)
      have r1 := Int.emod_lt_of_pos g hl
      rw [rowP_pos hl] at er
      rw [comP_pos hl] at ec
      have hal : acc.length ≤ 16000 := by
        have := congrArg List.length er
        rw [List.length_append] at this
        omega
      refine ⟨fun σ2 H2' => σ2 = [some (.ref p), some (.int (g % l)), some (.int l), some (.ref r), some (.int (g / l)), some (.int (g % l))] ∧ Ex H H2' ∧ H2' r = some (.lst ((acc ++ [g / l]).map V.int)), fun σ2 H2' hn => ?_, ?_⟩
      · exact ⟨(g % l).toNat, by omega, acc ++ [g / l], l, g % l, _, _, hn.1, hn.2.1, hn.2.2, by rw [List.append_assoc]; exact er, ec, hl, r0, by omega, rfl⟩
      · refine q_unU (eu_divmod (ev_var rfl) (ev_var rfl) bl.divp) fun H3' e3' => ?_
        refine q_app (e3' r _ (e3 r _ hR)) (ev_var rfl) (ev_var rfl) (by rw [List.length_map]; omega) fun H4 e4 => ?_
        refine s_par (ea_cons (ev_var rfl) (ea_cons (ev_var rfl) ea_nil)) fun H5 e5 => ⟨rfl, (Ex.mut (((ex.trans e3).trans e3').trans e4) hrN).trans e5, e5 r _ ?_⟩
        rw [List.map_append]
        exact upd_same
    · have hl : l = 0 := by
        have := of_decide_eq_false hc
        omega
      subst hl
      rw [rowP_zero, List.append_nil] at er
      have ec' : g = comP (mxF a b) (mnF a b) := ec
      subst er ec'
      have e03 := ex.trans e3
      exact s_retU (eu_tup (ea_cons (ev_var rfl) (ea_cons (ev_var rfl) ea_nil)) (by show 2 ≤ 100000; decide)) fun t H4 ht e4 h4 => q t r H4 (fresh_back e03 ht) hrN (e03.trans e4) (e4 r _ (e3 r _ hR)) h4
theorem row_one {a b : Int} (ha : 0 < a) (hb : 0 < b) : rowP (mxF a b) (mnF a b) = [1] ↔ mnF a b = mxF a b := by
  have h1 := mn_pos ha hb
  have h2 := mn_mx a b
  constructor
  · intro h
    rw [rowP_pos h1] at h
    injection h with h3 h4
    have r0 := Int.emod_nonneg (mxF a b) (show mnF a b ≠ 0 by omega)
    have e := dm (mxF a b) (mnF a b)
    by_cases d : mxF a b % mnF a b = 0
    · rw [h3, d] at e
      omega
    · rw [rowP_pos (by omega)] at h4
      cases h4
  · intro h
    rw [← h, rowP_pos h1, Int.ediv_self (by omega), Int.emod_self, rowP_zero]
theorem few_row {a b : Int} (ha : 0 < a) (hb : 0 < b) : fewF a b = ((rowP (mxF a b) (mnF a b)).length : Int) - (if rowP (mxF a b) (mnF a b) = [1] then 1 else 0) := by
  unfold fewF fewLH
  by_cases c : mnF a b = mxF a b
  · rw [if_pos c, if_pos ((row_one ha hb).mpr c), (row_one ha hb).mpr c]
    rfl
  · rw [if_neg c, if_neg (fun z => c ((row_one ha hb).mp z))]
    omega
theorem ok_shortest (T : Txt K mg base) : FnOk P w K mg base CX0 6 T.shortest.f T.shortest.fd ["pair"] (sp_shortest K) := by
  refine T.shortest.F.ok sc_shortest (fun vs H Q E h => ?_) (fun cdv A outer s H vs Q E hr h => ?_)
  · obtain ⟨p, a, b, rfl, _⟩ := h; rfl
  · obtain ⟨p, a, b, rfl, hp, ha, hb, q⟩ := h
    refine ⟨_, (pss_cons (ps_asg (pe_call (ok_quotients T) (hr.mono (by omega)) (by rfl) T.quotients.g T.quotients.F.kp T.quotients.b .nil pass0 (pa_cons (pv 0) pa_nil)) (pg_tup rfl (pgs_cons (pg_name (i := 1) sc_shortest.nd rfl (by first | exact .inl rfl | exact .inr rfl)) (pgs_cons (pg_name (i := 2) sc_shortest.nd rfl (by first | exact .inl rfl | exact .inr rfl)) pgs_nil))))
      (pss_cons (ps_if (pt_cmpR (op_eqD hr.units) (pv 1) (pe_lst (pa_cons pe_int pa_nil)) (nomark _)) (pss_one (ps_ret pe_int)) pss_nil)
      (pss_one (ps_ret (pe_callB call_len_seq (by rfl) T.n_len (by decide +kernel) (pa_cons (pv 1) pa_nil)))))), ?_⟩
    have hf := few_row ha.pos hb.pos
    refine q_unQ (eq_call (ea_cons (ev_var rfl) ea_nil) (spq_quot hp ha hb)) fun r H1 _ e1 h1 => ?_
    have hR : SqL K H1 r ((rowP (mxF a b) (mnF a b)).map V.int) := sq_of h1
    refine q_when (et_test (ev_opL (ev_var rfl) (el_lst (ea_cons ev_c ea_nil) (by show 1 ≤ 100000; decide)) fun l H2 hl e2 => rv_eqInts (b := [1]) (ex_l e2 hR) (sq_of hl))) (fun z H2 e2 => ?_) (fun z H2 e2 => ?_)
    · have z' : rowP (mxF a b) (mnF a b) = [1] := of_decide_eq_true z
      have e : fewF a b = 0 := by rw [hf, if_pos z', z']; rfl
      rw [e] at q
      exact s_ret ev_c fun H3 e3 => q H3 ((e1.trans e2).trans e3)
    · have z' : ¬ rowP (mxF a b) (mnF a b) = [1] := of_decide_eq_false z
      have e : fewF a b = ((rowP (mxF a b) (mnF a b)).length : Int) := by rw [hf, if_neg z']; omega
      rw [e] at q
      refine s_ret (ev_is (ev_cb (ea_cons (ev_var rfl) ea_nil) (rc_lenL (ex_l e2 hR))) ?_) fun H3 e3 => q H3 ((e1.trans e2).trans e3)
      rw [List.length_map]
theorem ok_longest (T : Txt K mg base) : FnOk P w K mg base CX0 6 T.longest.f T.longest.fd ["pair"] (sp_longest K) := by
  refine T.longest.F.ok sc_longest (fun vs H Q E h => ?_) (fun cdv A outer s H vs Q E hr h => ?_)
  · obtain ⟨p, a, b, rfl, _⟩ := h; rfl
  · obtain ⟨p, a, b, rfl, hp, ha, hb, q⟩ := h
    refine ⟨_, (pss_cons (ps_asg (pe_call (ok_quotients T) (hr.mono (by omega)) (by rfl) T.quotients.g T.quotients.F.kp T.quotients.b .nil pass0 (pa_cons (pv 0) pa_nil)) (pg_tup rfl (pgs_cons (pg_name (i := 1) sc_longest.nd rfl (by first | exact .inl rfl | exact .inr rfl)) (pgs_cons (pg_name (i := 2) sc_longest.nd rfl (by first | exact .inl rfl | exact .inr rfl)) pgs_nil))))
      (pss_one (ps_ret (pe_op op_sub (pe_callB (cr_sum rfl) (by rfl) T.n_sum (by decide +kernel) (pa_cons (pv 1) pa_nil)) pe_int)))), ?_⟩
    refine q_unQ (eq_call (ea_cons (ev_var rfl) ea_nil) (spq_quot hp ha hb)) fun r H1 _ e1 h1 => ?_
    exact s_ret (ev_op (ev_cb (ea_cons (ev_var rfl) ea_nil) (rc_sum (sq_of h1))) ev_c rv_I0) fun H2 e2 => q H2 (e1.trans e2)
end
section
variable {P : Program} {w : World} {K : PySem.W.Frag} {mg : Str → Option Value} {base : Heap}
theorem ab_ints {K : PySem.W.Frag} {H : Hp} : ∀ rw : List Int, (∀ q ∈ rw, 1 ≤ q) → Paired (GG.AbV K H) (rw.map V.int) (List.replicate rw.length true)
  | [], _ => .nil
  | q :: r, h => .cons ⟨"int", true, false, .base (.int q), by decide +kernel, by decide +kernel, fun _ => ⟨q, rfl, (decide_eq_true (by have := h q List.mem_cons_self; omega)).symm⟩, fun z => by cases z⟩ (ab_ints r fun x hx => h x (List.mem_cons_of_mem _ hx))
theorem ok_is_row (T : Txt K mg base) : FnOk P w K mg base CX0 3 T.is_row.f T.is_row.fd ["value"] (sp_is_row K T.z_is_row.P) := by
  refine GG.okC T.is_row.F sc_is_row (fun vs H Q E h => ?_) (fun cdv A outer s H vs Q E hc0 hr h => ?_)
  · obtain ⟨a, rw, rfl, _⟩ := h; rfl
  · obtain ⟨a, rw, rfl, hS, hg, hl, hP, q⟩ := h
    have hcd : cdv = .ref T.z_is_row.c := hc0.symm.trans T.z_is_row.code
    refine ⟨_, (pss_cons (ps_if (PW.pt (pw_or (pt_not (pt_val (pe_callB call_isi (by rfl) T.n_isinstance (by decide +kernel) (pa_cons (pv 0) (pa_cons (pe_bltn (v := .ty "list") (by rfl) T.n_list (by decide +kernel) rfl) pa_nil))))) (pw_or1 (pt_not (pt_chain op_le op_le pe_int (pe_callB call_len_seq (by rfl) T.n_len (by decide +kernel) (pa_cons (pv 0) pa_nil)) (pe_glob (v := .int 1000) (by rfl) T.c_LONGEST_ROW ⟨_, rfl⟩)))))) (pss_one (ps_ret pe_bl)) pss_nil)
      (pss_cons (ps_if (pt_not (pt_val (GG.pe_allG (D := 2) (rel := GG.RAbove K) (relV := GG.AbV K) hr (by rfl) T.n_all (by omega) T.z_is_row.tb hcd ⟨rfl, rfl, by decide +kernel, rfl, rfl, fun y hy e => absurd e ((by decide +kernel : ∀ y ∈ _, (y : Str × NameKind).2 ≠ .free) y hy)⟩ (pv 0) (GG.elt_call (qf_is_above_zero T) T.is_above_zero.F.kp (by rfl) (by decide) (by rfl) T.is_above_zero.g (by decide)) (fun _ _ _ _ k r => GG.RAbove.mono k r) (fun _ _ _ _ _ _ _ I hP rx hv => GG.ab_of I hP rx hv) (fun _ => rfl)))) (pss_one (ps_ret pe_bl)) pss_nil)
      (pss_one (ps_ret (pe_or (pe_cmpR op_eq (pe_callB call_len_seq (by rfl) T.n_len (by decide +kernel) (pa_cons (pv 0) pa_nil)) pe_int (nomark _)) (pe_one (pe_cmpR op_gt (pe_ix ix_list (pv 0) (pe_un un_neg pe_int) (fun _ _ => rfl)) pe_int (nomark _)))))))), ?_⟩
    have hpos := good_len hg
    have hlen : ((rw.map V.int).length : Int) = rw.length := by rw [List.length_map]
    have elen : ∀ {σ : L2.St} {H1 : Hp}, σ[0]? = some (some (.ref a)) → Ex H H1 → Ev (tCB (fun xs H Q => ∃ p ys, xs = [V.ref p] ∧ (SqL K H p ys ∨ SqT K H p ys) ∧ Q (.int ys.length) H) (tCons (tVar 0) tNil)) σ H1 (.int rw.length) :=
      fun h e => ev_is (ev_cb (ea_cons (ev_var h) ea_nil) (rc_lenL (ex_l e hS))) (by rw [hlen])
    refine q_when (b := false) (et_or_ff (et_not (a := true) (et_B (ev_cb (ea_cons (ev_var rfl) (ea_cons ev_c ea_nil)) (rc_isi_seqL hS (by decide +kernel))))) (et_not (a := true) (et_test (ev_chainI (a := true) (b := true) ev_c (elen rfl (Ex.refl H)) ev_c (decide_eq_true (by omega)) (decide_eq_true (by omega)))))) (fun z => nomatch z) fun _ H1 e1 => ?_
    refine q_when (b := false) (et_not (a := true) (et_B (ev_is (GG.ev_allG (ev_var rfl) (ex_l e1 hS) (e1 _ _ hP) (fun H2 e2 => ab_ints rw (good_pos hg))) (by simp)))) (fun z => nomatch z) fun _ H2 e2 => ?_
    have ex := e1.trans e2
    refine s_ret (v := .bl true) (ev_is (ev_orV (a := decide (V.int (rw.length : Int) = V.int 1)) (b := true) (ev_op (elen rfl ex) ev_c (rv_eq rfl)) fun z => ?_) (by simp)) fun H2 e2 => q H2 (ex.trans e2)
    have hne : ¬ rw.length = 1 := fun c => by
      have := of_decide_eq_false z
      exact this (by rw [c]; rfl)
    obtain ⟨n, hn, h2⟩ := good_last hg hne
    have hat : atI (rw.map V.int) (-1) = some (.int n) := by
      unfold atI ixN
      rw [if_neg (by decide), if_pos (by rw [List.length_map]; omega)]
      show (rw.map V.int)[_]? = _
      rw [List.length_map, List.getElem?_map, show (-1 + (rw.length : Int)).toNat = rw.length - 1 by omega, hn]
      rfl
    exact ev_is (ev_op (ev_op (ev_var rfl) (ev_un ev_c ru_neg) (rv_ixL (ex_l ex hS) hat)) ev_c rv_I0) (by rw [decide_eq_true (show 1 < n by omega)])
theorem spv_is_row {P : Addr} {a : Addr} {rw : List Int} {H : Hp} (h : SqL K H a (rw.map V.int)) (hg : GoodRow rw) (hl : rw.length ≤ 1000) (hP : H P = some (GG.tabO P)) : SpV (sp_is_row K P) [.ref a] H (.bl true) := fun H1 e Q q E => ⟨a, rw, rfl, ex_l e h, hg, hl, e _ _ hP, q⟩
theorem ok_pair_of (T : Txt K mg base) : FnOk P w K mg base CX0 4 T.pair_of.f T.pair_of.fd ["row", "common"] (sp_pair_of K T.z_is_row.P) := by
  refine T.pair_of.F.ok sc_pair_of (fun vs H Q E h => ?_) (fun cdv A outer s H vs Q E hr h => ?_)
  · obtain ⟨a, rw, c, rfl, _⟩ := h; rfl
  · obtain ⟨a, rw, c, rfl, hS, hg, hl, hc, hb, hq, hP, q⟩ := h
    refine ⟨_, (pss_cons (ps_if (pt_not (pt_val (pe_call (ok_is_row T) (hr.mono (by omega)) (by rfl) T.is_row.g T.is_row.F.kp T.is_row.b .nil pass0 (pa_cons (pv 0) pa_nil)))) (pss_one ps_never) pss_nil)
      (pss_cons (ps_if (pt_not (pt_val (pe_call (ok_is_above_zero T) (hr.mono (by omega)) (by rfl) T.is_above_zero.g T.is_above_zero.F.kp T.is_above_zero.b .nil pass0 (pa_cons (pv 1) pa_nil)))) (pss_one ps_never) pss_nil)
      (pss_cons (ps_par (i := 2) (j := 3) rfl sc_pair_of.nd rfl rfl (by decide) rfl rfl (pa_cons pe_int (pa_cons (pv 1) pa_nil)) rfl)
      (pss_cons (ps_for PassesOwn.never rfl (pi_reversed (by rfl) T.n_reversed (pa_cons (pv 0) pa_nil)) (pg_name (i := 4) sc_pair_of.nd rfl (by first | exact .inl rfl | exact .inr rfl)) (pss_one (ps_par (i := 2) (j := 3) rfl sc_pair_of.nd rfl rfl (by decide) rfl rfl (pa_cons (pv 3) (pa_cons (pe_op op_add (pe_op op_mulX (pv 4) (pv 3)) (pv 2)) pa_nil)) rfl)))
      (pss_one (ps_ret (pe_tup (pa_cons (pv 3) (pa_cons (pv 2) pa_nil))))))))), ?_⟩
    refine q_when (b := false) (et_not (a := true) (et_B (ev_call (ea_cons (ev_var rfl) ea_nil) (spv_is_row hS hg hl hP)))) (fun z => nomatch z) fun _ H0 e0 => ?_
    refine q_when (b := false) (et_is (et_not (et_B (ev_call (ea_cons (ev_var rfl) ea_nil) spv_above))) (by simp; omega)) (fun z => nomatch z) fun _ H1 e1 => ?_
    refine q_par (ea_cons ev_c (ea_cons (ev_var rfl) ea_nil)) fun H2 e2 => ?_
    have e12 := (e0.trans e1).trans e2
    refine q_forRev (ea_cons (ev_var rfl) ea_nil) (ex_l e12 hS) (fun i σ' H' => ∃ y, σ' = [some (.ref a), some (.int c), some (.int (back (rw.drop (rw.length - i)) c).2), some (.int (back (rw.drop (rw.length - i)) c).1), y] ∧ Ex H H')
      (fun H3 e3 => ⟨none, by rw [Nat.sub_zero, List.drop_length]; rfl, e12.trans e3⟩) (fun i σ' H' _ ⟨_, _, e⟩ => ex_l e hS) (fun i x σ' H' hi hx hP => ?_) (fun σ' H' hP => ?_)
    · obtain ⟨y, rfl, ex⟩ := hP
      rw [List.length_map] at hi hx
      have hj : rw.length - 1 - i < rw.length := by omega
      rw [List.getElem?_map, List.getElem?_eq_getElem hj] at hx
      have ex' : x = .int rw[rw.length - 1 - i] := (Option.some.inj hx).symm
      subst ex'
      have ed : rw.drop (rw.length - (i + 1)) = rw[rw.length - 1 - i] :: rw.drop (rw.length - i) := by
        rw [show rw.length - (i + 1) = rw.length - 1 - i by omega, List.drop_eq_getElem_cons hj, show rw.length - 1 - i + 1 = rw.length - i by omega]
      have hqj := hq _ (List.getElem_mem hj)
      have hbig := back_big hc hg hb (rw.length - i)
      have hcm : CMulX rw[rw.length - 1 - i] (back (rw.drop (rw.length - i)) c).1 := Big.mul hqj.lt hbig.lt
      refine s_par (ea_cons (ev_var rfl) (ea_cons (ev_op (ev_op (ev_var rfl) (ev_var rfl) (rv_I hcm)) (ev_var rfl) rv_I0) ea_nil)) fun H3 e3 => ⟨some (.int rw[rw.length - 1 - i]), ?_, ex.trans e3⟩
      rw [ed, Int.mul_comm]
      rfl
    · obtain ⟨y, rfl, ex⟩ := hP
      rw [List.length_map, Nat.sub_self, List.drop_zero]
      exact s_retU (eu_tup (ea_cons (ev_var rfl) (ea_cons (ev_var rfl) ea_nil)) (by show 2 ≤ 100000; decide)) fun t H4 ht e4 h4 => RetU.go q ex ht e4 h4
end
/-! ### the program's answers -/
def sp_all_together (K : PySem.W.Frag) : Sp := fun vs H Q _ => ∃ (l : Addr) (ws : List Nat), vs = [.ref l] ∧ SqL K H l (ws.map fun n : Nat => V.int (n : Int)) ∧ RetV (.int (KN.xs ws : Int)) H Q
def sp_is_lost (K : PySem.W.Frag) : Sp := fun vs H Q _ => ∃ (l : Addr) (ps : Prs), vs = [.ref l] ∧ PL K H l ps ∧ PB 4000 ps ∧ ps.length ≤ 40000 ∧ RetV (.bl (decide (KG.sumF ps = 0))) H Q
theorem xs_take {ws : List Nat} {i w : Nat} (h : ws[i]? = some w) : KN.xs (ws.take (i + 1)) = KN.xs (ws.take i) ^^^ w := by
  have e : ws.take (i + 1) = ws.take i ++ [w] := by
    rw [List.take_succ, h]
    rfl
  rw [e, KN.xs_append]
  show _ ^^^ (w ^^^ 0) = _
  rw [Nat.xor_zero]
theorem given_wn (ps : Prs) : given ps.length (fun _ => true) (fun i => V.int (KG.wn (ps.getD i (1, 1)) : Int)) = (ps.map KG.wn).map fun n : Nat => V.int (n : Int) := by
  unfold given
  rw [List.filter_eq_self.mpr (fun _ _ => rfl)]
  refine List.ext_getElem? fun i => ?_
  rw [List.getElem?_map, List.getElem?_map, List.getElem?_map]
  by_cases h : i < ps.length
  · have e : ps.getD i (1, 1) = ps[i] := by rw [List.getD_eq_getElem?_getD, List.getElem?_eq_getElem h]; rfl
    rw [List.getElem?_range h, List.getElem?_eq_getElem h]
    show some (V.int (KG.wn (ps.getD i (1, 1)) : Int)) = _
    rw [e]
    rfl
  · rw [List.getElem?_eq_none (by simpa using h), List.getElem?_eq_none (by omega)]
    rfl
section
variable {P : Program} {w : World} {K : PySem.W.Frag} {mg : Str → Option Value} {base : Heap}
/-- an argument that is a new list -/
theorem ev_callL1 {sp : Sp} {xs : List V} {E : XK} {σ : L2.St} {H : Hp} {te : TE} {z : V} (h : EvL te σ H xs) (hs : ∀ p H1, H1 p = some (.lst xs) → Ex H H1 → SpV sp [.ref p] H1 z) : Ev (tCall sp [] E (tCons te tNil)) σ H z := fun H1 e Q q =>
  h H1 e _ fun p H2 _ e2 hp => hs p H2 hp (e.trans e2) H2 (Ex.refl H2) Q (fun H3 e3 => q H3 (e2.trans e3)) E
/-- o.f = e -/
theorem s_fld {σ : L2.St} {H : Hp} {ta tv : TE} {D : Ends} {a C dx : Addr} {fs : List (Str × V)} {f : Str} {v : V} (hv : Ev tv σ H v) (ha : Ev ta σ H (.ref a)) (hi : H a = some (.ins C dx fs)) (c : Cls K C) (n : NoAttr K C f) (hl : fs.length < 1000)
    (k : ∀ H1, Ex H H1 → D.nx σ (upd H1 a (.ins C dx (putF f v fs)))) : sFld K ta tv f D σ H := hv H (Ex.refl H) _ fun H1 e1 => ha H1 e1 _ fun H2 e2 => ⟨a, C, dx, fs, rfl, (e1.trans e2) a _ hi, c, n, hl, k H2 (e1.trans e2)⟩
theorem q_fld {σ : L2.St} {H : Hp} {ta tv : TE} {tz : TS} {D : Ends} {a C dx : Addr} {fs : List (Str × V)} {f : Str} {v : V} (hv : Ev tv σ H v) (ha : Ev ta σ H (.ref a)) (hi : H a = some (.ins C dx fs)) (c : Cls K C) (n : NoAttr K C f) (hl : fs.length < 1000)
    (k : ∀ H1, Ex H H1 → tz D σ (upd H1 a (.ins C dx (putF f v fs)))) : tSeq (sFld K ta tv f) tz D σ H := s_fld (D := { D with nx := tz D }) hv ha hi c n hl k
theorem spv_is_whole {i : Int} {H : Hp} : SpV sp_is_whole [.int i] H (.bl true) := fun H1 e Q q E => ⟨i, rfl, q⟩
theorem ok_all_together (T : Txt K mg base) : FnOk P w K mg base CX0 1 T.all_together.f T.all_together.fd ["worths"] (sp_all_together K) := by
  refine T.all_together.F.ok sc_all_together (fun vs H Q E h => ?_) (fun cdv A outer s H vs Q E hr h => ?_)
  · obtain ⟨l, ws, rfl, _⟩ := h; rfl
  · obtain ⟨l, ws, rfl, hS, q⟩ := h
    refine ⟨_, (pss_cons (ps_set (i := 1) sc_all_together.nd rfl (by first | exact .inl rfl | exact .inr rfl) pe_int)
      (pss_cons (ps_for PassesOwn.never rfl (pi_list (pv 0)) (pg_name (i := 2) sc_all_together.nd rfl (by first | exact .inl rfl | exact .inr rfl)) (pss_one (ps_set (i := 1) sc_all_together.nd rfl (by first | exact .inl rfl | exact .inr rfl) (pe_op op_xor (pv 1) (pv 2)))))
      (pss_one (ps_ret (pv 1))))), ?_⟩
    refine q_asg ev_c fun H1 e1 => ?_
    refine q_forLn (ev_var rfl) (ex_l e1 hS) (fun i σ' H' => ∃ y, σ' = [some (.ref l), some (.int (KN.xs (ws.take i) : Int)), y] ∧ Ex H H') (fun H2 e2 => ⟨none, rfl, e1.trans e2⟩) (fun i σ' H' _ ⟨_, _, e⟩ => ex_l e hS) (fun i x σ' H' hi hI => ?_) fun σ' H' hI => ?_
    · obtain ⟨y, rfl, ex⟩ := hI
      rw [List.getElem?_map] at hi
      cases hx : ws[i]? with
      | none => rw [hx] at hi; cases hi
      | some n =>
        rw [hx] at hi
        have ex' : x = .int (n : Int) := (Option.some.inj hi).symm
        subst ex'
        refine s_asg (ev_op (ev_var rfl) (ev_var rfl) rv_xor) fun H4 e4 => ?_
        rw [← xs_take hx]
        exact ⟨_, rfl, ex.trans e4⟩
    · obtain ⟨y, rfl, ex⟩ := hI
      refine s_ret (ev_var rfl) fun H4 e4 => ?_
      rw [List.length_map, List.take_of_length_le (Nat.le_refl _)]
      exact q H4 (ex.trans e4)
theorem spv_together {l : Addr} {ws : List Nat} {H : Hp} (h : SqL K H l (ws.map fun n : Nat => V.int (n : Int))) : SpV (sp_all_together K) [.ref l] H (.int (KN.xs ws : Int)) := fun H1 e Q q E => ⟨l, ws, rfl, ex_l e h, q⟩
/-- [worth(p) for p in pairs] -/
theorem el_worths {σ : L2.St} {H : Hp} {E : XK} {tl : TE} {l : Addr} {ps : Prs} {j : Nat} {vs : List Nat} (ha : Ev tl σ H (.ref l)) (hP : PL K H l ps) (hb : PB 4000 ps) (hz : ps.length ≤ 40000) (hw : ∀ x, wipe ((wipe σ vs).set j (some x)) vs = wipe σ vs)
    (hj : ∀ x : V, ((wipe σ vs).set j (some x))[j]? = some (some x)) : EvL (tLc (iList K tl) (gName j) tYes (tCall (sp_worth K) [] E (tCons (tVar j) tNil)) vs) σ H ((ps.map KG.wn).map fun n : Nat => V.int (n : Int)) := by
  obtain ⟨us, hl, hT⟩ := hP
  rw [← given_wn, ← hT.len]
  refine el_lcL (fun _ => true) _ ha hl (by rw [hT.len]; exact hz) hw (fun _ _ _ _ _ => et_yes) fun i x H1 e1 hi _ => ?_
  obtain ⟨q, p, rfl, hp, hq⟩ := hT.at hi
  obtain ⟨ha', hb', wa, wb⟩ := hb p (List.mem_of_getElem? hp)
  have ep : ps.getD i (1, 1) = p := by rw [List.getD_eq_getElem?_getD, hp]; rfl
  rw [ep]
  exact ev_is (ev_call (ea_cons (ev_var (hj _)) ea_nil) (spv_worth (ex_t e1 hq) ⟨ha', wa⟩ ⟨hb', wb⟩)) (congrArg V.int (wn_int ha' hb'))
theorem ok_is_lost (T : Txt K mg base) : FnOk P w K mg base CX0 6 T.is_lost.f T.is_lost.fd ["pairs"] (sp_is_lost K) := by
  refine T.is_lost.F.ok sc_is_lost (fun vs H Q E h => ?_) (fun cdv A outer s H vs Q E hr h => ?_)
  · obtain ⟨l, ps, rfl, _⟩ := h; rfl
  · obtain ⟨l, ps, rfl, hP, hb, hz, q⟩ := h
    refine ⟨_, (pss_one (ps_ret (pe_cmpR op_eq (pe_call (ok_all_together T) (hr.mono (by omega)) (by rfl) T.all_together.g T.all_together.F.kp T.all_together.b .nil pass0 (pa_cons (pe_lc (own := [("pair", 1)]) (g := gName 1) (tt := tYes) rfl sc_is_lost.nd (pi_list (pv 0)) (blkOk_by (own := [("pair", 1)]) (N := ["pairs", "pair"]) (sc := defScope s_is_lost) (by decide +kernel)) (fun _ _ _ _ _ => pg_name (i := 1) sc_is_lost.nd rfl (Or.inl rfl)) (fun _ _ _ _ _ => pts_nil) (fun _ _ _ _ _ => (pe_call (ok_worth T) (hr.mono (by omega)) (by rfl) T.worth.g T.worth.F.kp T.worth.b .nil pass0 (pa_cons (pv 1) pa_nil)))) pa_nil)) pe_int (nomark _)))), ?_⟩
    refine s_ret (v := .bl (decide (KG.sumF ps = 0))) (ev_is (ev_op (ev_callL1 (el_worths (ev_var rfl) hP hb hz (fun x => rfl) (fun x => rfl)) fun p H1 h1 e1 => spv_together (sq_of h1)) ev_c (rv_eq rfl)) ?_) q
    refine congrArg V.bl (decide_eq_decide.mpr ⟨fun z => ?_, fun z => ?_⟩)
    · have h0 : ((KG.sumF ps : Nat) : Int) = 0 := V.int.inj z
      omega
    · show V.int ((KG.sumF ps : Nat) : Int) = V.int 0
      rw [z]; rfl
theorem spv_is_lost {l : Addr} {ps : Prs} {H : Hp} (h : PL K H l ps) (hb : PB 4000 ps) (hz : ps.length ≤ 40000) : SpV (sp_is_lost K) [.ref l] H (.bl (decide (KG.sumF ps = 0))) := fun H1 e Q q E => ⟨l, ps, rfl, h.mono e, hb, hz, q⟩
theorem ok_Lost_shows (T : Txt K mg base) : FnOk P w K mg base CX0 7 T.Lost_shows.f T.Lost_shows.fd ["self", "pairs"] (sp_Lost_shows K T.Lost.C) := by
  refine T.Lost_shows.F.ok sc_Lost_shows (fun vs H Q E h => ?_) (fun cdv A outer s H vs Q E hr h => ?_)
  · obtain ⟨a, dx, l, ps, rfl, _⟩ := h; rfl
  · obtain ⟨a, dx, l, ps, rfl, hi, hP, hb, h100, q⟩ := h
    refine ⟨_, (pss_one (ps_ret (pe_call (ok_is_lost T) (hr.mono (by omega)) (by rfl) T.is_lost.g T.is_lost.F.kp T.is_lost.b .nil pass0 (pa_cons (pv 1) pa_nil)))), ?_⟩
    exact s_ret (ev_call (ea_cons (ev_var rfl) ea_nil) (spv_is_lost hP hb (by omega))) q
theorem ok_Won_init (T : Txt K mg base) : FnOk P w K mg base CX0 1 T.Won_init.f T.Won_init.fd ["self", "at", "times"] (sp_Won_init T.Won.C) := by
  refine T.Won_init.F.ok sc_Won_init (fun vs H Q E h => ?_) (fun cdv A outer s H vs Q E hr h => ?_)
  · obtain ⟨x, dx, i, t, rfl, _⟩ := h; rfl
  · obtain ⟨x, dx, i, t, rfl, hi, q⟩ := h
    refine ⟨_, (pss_cons (ps_fld (pv 0) (pv 1) rfl)
      (pss_one (ps_fld (pv 0) (pv 2) rfl))), ?_⟩
    refine q_fld (ev_var rfl) (ev_var rfl) hi T.Won.cl T.n_Won_at (by decide) fun H1 e1 => ?_
    refine s_fld (ev_var rfl) (ev_var rfl) upd_same T.Won.cl T.n_Won_times (by show 1 < 1000; decide) fun H2 e2 => ?_
    refine q _ upd_same fun b o hb hne => ?_
    rw [upd_ne hne]
    refine e2 b o ?_
    rw [upd_ne hne]
    exact e1 b o hb
theorem ok_Won_shows (T : Txt K mg base) : FnOk P w K mg base CX0 8 T.Won_shows.f T.Won_shows.fd ["self", "pairs"] (sp_Won_shows K T.Won.C) := by
  refine T.Won_shows.F.ok sc_Won_shows (fun vs H Q E h => ?_) (fun cdv A outer s H vs Q E hr h => ?_)
  · obtain ⟨a, dx, l, i, t, ps, rfl, _⟩ := h; rfl
  · obtain ⟨a, dx, l, i, t, ps, rfl, hi, hP, hb, h100, q⟩ := h
    refine ⟨_, (pss_cons (ps_par (i := 2) (j := 3) rfl sc_Won_shows.nd rfl rfl (by decide) rfl rfl (pa_cons (pe_fld (pv 0) rfl) (pa_cons (pe_fld (pv 0) rfl) pa_nil)) rfl)
      (pss_cons (ps_if (PW.pt (pw_or (pt_not (pt_val (pe_call (ok_is_whole T) (hr.mono (by omega)) (by rfl) T.is_whole.g T.is_whole.F.kp T.is_whole.b .nil pass0 (pa_cons (pv 2) pa_nil)))) (pw_or1 (pt_not (pt_chain op_le op_lt pe_int (pv 2) (pe_callB call_len_seq (by rfl) T.n_len (by decide +kernel) (pa_cons (pv 1) pa_nil))))))) (pss_one (ps_ret pe_bl)) pss_nil)
      (pss_cons (ps_if (pt_not (pt_val (pe_call (ok_is_taking T) (hr.mono (by omega)) (by rfl) T.is_taking.g T.is_taking.F.kp T.is_taking.b .nil pass0 (pa_cons (pe_ix ix_list (pv 1) (pv 2) (fun _ _ => rfl)) (pa_cons (pv 3) pa_nil))))) (pss_one (ps_ret pe_bl)) pss_nil)
      (pss_cons (ps_set (i := 4) sc_Won_shows.nd rfl (by first | exact .inl rfl | exact .inr rfl) (pe_callTy call_list_of (by rfl) T.n_list (by decide +kernel) (pa_cons (pv 1) pa_nil)))
      (pss_cons (ps_asg (pe_call (ok_taken T) (hr.mono (by omega)) (by rfl) T.taken.g T.taken.F.kp T.taken.b .nil pass0 (pa_cons (pe_ix ix_list (pv 1) (pv 2) (fun _ _ => rfl)) (pa_cons (pv 3) pa_nil))) (pg_sub (pv 4) (pv 2) set_list))
      (pss_one (ps_ret (pe_call (ok_is_lost T) (hr.mono (by omega)) (by rfl) T.is_lost.g T.is_lost.F.kp T.is_lost.b .nil pass0 (pa_cons (pv 4) pa_nil))))))))), ?_⟩
    refine q_par (ea_cons (ev_fld (ev_var rfl) hi T.Won.cl T.n_Won_at (won_at i t)) (ea_cons (ev_fld (ev_var rfl) hi T.Won.cl T.n_Won_times (won_times i t)) ea_nil)) fun H1 e1 => ?_
    have hP1 := hP.mono e1
    refine q_when (et_or (a := false) (b := !(decide (0 ≤ i) && decide (i < ps.length))) (et_not (a := true) (et_B (ev_call (ea_cons (ev_var rfl) ea_nil) spv_is_whole)))
      (fun _ => et_not (et_test (ev_chainI ev_c (ev_var rfl) (ev_lenP hP1 (ev_var rfl)) rfl rfl)))) (fun z2 H2 e2 => ?_) (fun z2 H2 e2 => ?_)
    · have hd : dueF ps (.won i t) = false := by
        simp only [dueF]
        revert z2
        cases (decide (0 ≤ i) && decide (i < ps.length)) <;> intro z2 <;> first | rfl | cases z2
      rw [hd] at q
      exact s_ret ev_c fun H3 e3 => q H3 ((e1.trans e2).trans e3)
    · have c1 : (decide (0 ≤ i) && decide (i < ps.length)) = true := by
        revert z2
        cases (decide (0 ≤ i) && decide (i < ps.length)) <;> intro z2 <;> first | rfl | cases z2
      obtain ⟨i0, i1⟩ : 0 ≤ i ∧ i < ps.length := by simpa using c1
      obtain ⟨b1, b2⟩ := hb.at i0 i1
      have e12 := e1.trans e2
      obtain ⟨p, hp, hix⟩ := pl_at (hP.mono e12) i0 (pAt_some i0 i1)
      refine q_when (et_not (et_B (ev_call (ea_cons (ev_op (ev_var rfl) (ev_var rfl) (hix (Ex.refl _))) (ea_cons (ev_var rfl) ea_nil)) (spv_taking hp b1 b2)))) (fun z3 H3 e3 => ?_) (fun z3 H3 e3 => ?_)
      · have hd : dueF ps (.won i t) = false := by
          have z4 : (decide (1 ≤ t) && decide (t ≤ mostF (pAt ps i).1 (pAt ps i).2)) = false := by
            have z5 : (decide (0 < t) && decide (t ≤ mostF (pAt ps i).1 (pAt ps i).2)) = false := by
              revert z3
              cases (decide (0 < t) && decide (t ≤ mostF (pAt ps i).1 (pAt ps i).2)) <;> intro z3 <;> first | rfl | cases z3
            exact z5
          simp only [dueF, c1, z4, Bool.and_false, Bool.false_and]
        rw [hd] at q
        exact s_ret ev_c fun H4 e4 => q H4 ((e12.trans e3).trans e4)
      · have z4 : (decide (0 < t) && decide (t ≤ mostF (pAt ps i).1 (pAt ps i).2)) = true := by
          revert z3
          cases (decide (0 < t) && decide (t ≤ mostF (pAt ps i).1 (pAt ps i).2)) <;> intro z3 <;> first | rfl | cases z3
        obtain ⟨t0, t1⟩ : 1 ≤ t ∧ t ≤ mostF (pAt ps i).1 (pAt ps i).2 := by
          have : 0 < t ∧ t ≤ mostF (pAt ps i).1 (pAt ps i).2 := by simpa using z4
          exact ⟨by omega, this.2⟩
        have hd : dueF ps (.won i t) = decide (KG.sumF (ps.set i.toNat (KG.beh (pAt ps i) t)) = 0) := by
          simp only [dueF, c1, decide_eq_true t0, decide_eq_true t1, Bool.true_and]
        rw [hd] at q
        have e13 := e12.trans e3
        refine q_asgP (ep_copy (ev_var rfl) (hP.mono e13)) fun n vs H4 hn e4 h4 s4 => ?_
        have e14 := e13.trans e4
        have hp4 := ex_t (e3.trans e4) hp
        refine q_setP h4 s4 (eu_call (ea_cons (ev_op (ev_var rfl) (ev_var rfl) (hix (e3.trans e4))) (ea_cons (ev_var rfl) ea_nil)) (spu_taken hp4 b1 b2 t0 t1)) (ev_var rfl) (ev_var rfl) i0 (by omega) fun vs' H5 e5 h5 s5 => ?_
        have e05 : Ex H H5 := e5 H e14 (fresh_back e13 hn)
        exact s_ret (ev_call (ea_cons (ev_var rfl) ea_nil) (spv_is_lost ⟨vs', sq_of h5, s5⟩ (hb.beh i0 i1 t0 t1) (by rw [List.length_set]; omega))) fun H6 e6 => q H6 (e05.trans e6)
end
/-! ### told -/
def okT (a b wd t : Int) : Bool := (decide (0 < t) && decide (t ≤ mostF a b)) && decide (worthF (behA a b t) (behB a b t) = wd)
def ttwF (a b wd : Int) : Int := if okT a b wd (mxF a b / mnF a b - wd) = true then mxF a b / mnF a b - wd else if okT a b wd (mxF a b / mnF a b - wd - 1) = true then mxF a b / mnF a b - wd - 1 else mostF a b
theorem okT_of {a b wd t : Int} (h : okT a b wd t = true) : 1 ≤ t ∧ t ≤ mostF a b ∧ worthF (behA a b t) (behB a b t) = wd := by
  simp only [okT, Bool.and_eq_true, decide_eq_true_eq] at h
  exact ⟨by omega, h.1.2, h.2⟩
theorem okT_mk {a b wd t : Int} (h : 1 ≤ t ∧ t ≤ mostF a b ∧ worthF (behA a b t) (behB a b t) = wd) : okT a b wd t = true := by
  simp only [okT, Bool.and_eq_true, decide_eq_true_eq]
  exact ⟨⟨by omega, h.2.1⟩, h.2.2⟩
theorem ttw_ok {a b wd : Int} (ha : 0 < a) (hb : 0 < b) (h0 : 0 ≤ wd) (hw : wd < worthF a b) : 1 ≤ ttwF a b wd ∧ ttwF a b wd ≤ mostF a b ∧ worthF (behA a b (ttwF a b wd)) (behB a b (ttwF a b wd)) = wd := by
  obtain ⟨t, t1, t2, t3, t4⟩ := hit3 ha hb h0 hw
  have hk := okT_mk ⟨t1, t2, t3⟩
  unfold ttwF
  by_cases c1 : okT a b wd (mxF a b / mnF a b - wd) = true
  · rw [if_pos c1]
    exact okT_of c1
  · rw [if_neg c1]
    by_cases c2 : okT a b wd (mxF a b / mnF a b - wd - 1) = true
    · rw [if_pos c2]
      exact okT_of c2
    · rw [if_neg c2]
      rcases t4 with e | e | e
      · rw [e] at hk; exact absurd hk c2
      · rw [e] at hk; exact absurd hk c1
      · subst e; exact ⟨t1, t2, t3⟩
def sp_taking_to_worth (K : PySem.W.Frag) : Sp := fun vs H Q _ => ∃ (p : Addr) (a b wd : Int), vs = [.ref p, .int wd] ∧ SqT K H p [.int a, .int b] ∧ Big a ∧ Big b ∧ RetV (.int (ttwF a b wd)) H Q
def sp_is_list_of_pairs (K : PySem.W.Frag) (P : Addr) : Sp := fun vs H Q _ => ∃ (l : Addr) (ps : Prs), vs = [.ref l] ∧ PL K H l ps ∧ KG.Pos ps ∧ ps.length ≤ 100 ∧ H P = some (GG.tabO P) ∧ RetV (.bl true) H Q
section
variable {P : Program} {w : World} {K : PySem.W.Frag} {mg : Str → Option Value} {base : Heap}
/-- over a new tuple, the target a name -/
theorem q_forNUn {xs : List V} {j : Nat} {σ : L2.St} {H : Hp} {tl : TE} {tu tz : TS} {D : Ends} (h : EvU tl σ H xs) (Pv : Addr → Nat → L2.St → Hp → Prop) (h0 : ∀ p H1, H p = none → Ex H H1 → H1 p = some (.tup xs) → Pv p 0 σ H1) (hl : ∀ p i σ' H', i ≤ xs.length → Pv p i σ' H' → SqT K H' p xs)
    (hs : ∀ p i x σ' H', xs[i]? = some x → Pv p i σ' H' → tu { D with nx := Pv p (i + 1), ct := Pv p (i + 1), bk := tz D } (σ'.set j (some x)) H') (hd : ∀ p σ' H', Pv p xs.length σ' H' → tz D σ' H') : tSeq (tFor (iTup K tl) (gName j) tu) tz D σ H :=
  h H (Ex.refl H) _ fun p H1 hp e h1 => ⟨p, rfl, ⟨xs, st_of h1⟩, for_tup (D := { D with nx := tz D }) (Pv p) (h0 p H1 hp e h1) (hl p) (hs p) (hd p)⟩
/-- for k, x in enumerate(xs), rows behind it -/
theorem q_forEE {a : Addr} {xs : List V} {j1 j2 : Nat} {σ : L2.St} {H : Hp} {tl : TA} {tu tz : TS} {D : Ends} (h : EvA tl σ H [.ref a]) (hx : SqL K H a xs) (Pv : Nat → L2.St → Hp → Prop) (h0 : ∀ H1, Ex H H1 → Pv 0 σ H1) (hl : ∀ i σ' H', i ≤ xs.length → Pv i σ' H' → SqL K H' a xs)
    (hs : ∀ (i : Nat) x σ' H' H'', xs[i]? = some x → Ex H' H'' → Pv i σ' H' → tu { D with nx := Pv (i + 1), ct := Pv (i + 1), bk := tz D } ((σ'.set j1 (some (.int (i : Int)))).set j2 (some x)) H'') (hd : ∀ σ' H', Pv xs.length σ' H' → tz D σ' H') :
    tSeq (tFor (iEnum K tl) (gTup K 2 (gCons (gName j1) (gCons (gName j2) gNil))) tu) tz D σ H := s_forE (D := { D with nx := tz D }) h hx Pv h0 hl hs hd
theorem ok_taking_to_worth (T : Txt K mg base) : FnOk P w K mg base CX0 8 T.taking_to_worth.f T.taking_to_worth.fd ["pair", "wanted"] (sp_taking_to_worth K) := by
  refine T.taking_to_worth.F.ok sc_taking_to_worth (fun vs H Q E h => ?_) (fun cdv A outer s H vs Q E hr h => ?_)
  · obtain ⟨p, a, b, wd, rfl, _⟩ := h; rfl
  · obtain ⟨p, a, b, wd, rfl, hp, ha, hb, q⟩ := h
    refine ⟨_, (pss_cons (ps_asg (pe_call (ok_lesser_and_greater T) (hr.mono (by omega)) (by rfl) T.lesser_and_greater.g T.lesser_and_greater.F.kp T.lesser_and_greater.b .nil pass0 (pa_cons (pv 0) pa_nil)) (pg_tup rfl (pgs_cons (pg_name (i := 2) sc_taking_to_worth.nd rfl (by first | exact .inl rfl | exact .inr rfl)) (pgs_cons (pg_name (i := 3) sc_taking_to_worth.nd rfl (by first | exact .inl rfl | exact .inr rfl)) pgs_nil))))
      (pss_cons (ps_set (i := 4) sc_taking_to_worth.nd rfl (by first | exact .inl rfl | exact .inr rfl) (pe_op op_fdivW (pv 3) (pv 2)))
      (pss_cons (ps_for PassesOwn.never rfl (pi_tup (pe_tup (pa_cons (pe_op op_sub (pv 4) (pv 1)) (pa_cons (pe_op op_sub (pe_op op_sub (pv 4) (pv 1)) pe_int) pa_nil)))) (pg_name (i := 5) sc_taking_to_worth.nd rfl (by first | exact .inl rfl | exact .inr rfl)) (pss_one (ps_if (PW.pt (pw_and (pt_val (pe_call (ok_is_taking T) (hr.mono (by omega)) (by rfl) T.is_taking.g T.is_taking.F.kp T.is_taking.b .nil pass0 (pa_cons (pv 0) (pa_cons (pv 5) pa_nil)))) (pw_and1 (pt_cmpR op_eq (pe_call (ok_worth T) (hr.mono (by omega)) (by rfl) T.worth.g T.worth.F.kp T.worth.b .nil pass0 (pa_cons (pe_call (ok_taken T) (hr.mono (by omega)) (by rfl) T.taken.g T.taken.F.kp T.taken.b .nil pass0 (pa_cons (pv 0) (pa_cons (pv 5) pa_nil))) pa_nil)) (pv 1) (nomark _))))) (pss_one (ps_ret (pv 5))) pss_nil)))
      (pss_one (ps_ret (pe_call (ok_most T) (hr.mono (by omega)) (by rfl) T.most.g T.most.F.kp T.most.b .nil pass0 (pa_cons (pv 0) pa_nil))))))), ?_⟩
    have hL := big_mn ha hb
    refine q_unU (eu_call (ea_cons (ev_var rfl) ea_nil) (spu_lg hp ha.pos hb.pos)) fun H1 e1 => ?_
    refine q_asg (ev_op (ev_var rfl) (ev_var rfl) (rv_I hL.div)) fun H2 e2 => ?_
    have e12 := e1.trans e2
    refine q_forNUn (K := K) (eu_tup (vs := [.int (mxF a b / mnF a b - wd), .int (mxF a b / mnF a b - wd - 1)]) (ea_cons (ev_op (ev_var rfl) (ev_var rfl) rv_I0) (ea_cons (ev_op (ev_op (ev_var rfl) (ev_var rfl) rv_I0) ev_c rv_I0) ea_nil)) (by show 2 ≤ 100000; decide))
      (fun t i σ' H' => ∃ y, σ' = [some (.ref p), some (.int wd), some (.int (mnF a b)), some (.int (mxF a b)), some (.int (mxF a b / mnF a b)), y] ∧ Ex H H' ∧ H' t = some (.tup [.int (mxF a b / mnF a b - wd), .int (mxF a b / mnF a b - wd - 1)]) ∧
        (1 ≤ i → ¬ okT a b wd (mxF a b / mnF a b - wd) = true) ∧ (2 ≤ i → ¬ okT a b wd (mxF a b / mnF a b - wd - 1) = true))
      (fun t H3 _ e3 h3 => ⟨none, rfl, e12.trans e3, h3, fun z => absurd z (by decide), fun z => absurd z (by decide)⟩) (fun t i σ' H' _ ⟨_, _, _, h, _⟩ => st_of h) (fun t i x σ' H' hi hI => ?_) fun t σ' H' hI => ?_
    · obtain ⟨y, rfl, ex, ht, n1, n2⟩ := hI
      have hx : ∃ d : Int, x = .int d ∧ ((i = 0 ∧ d = mxF a b / mnF a b - wd) ∨ (i = 1 ∧ d = mxF a b / mnF a b - wd - 1)) := by
        match i, hi with
        | 0, hi => exact ⟨_, (Option.some.inj hi).symm, .inl ⟨rfl, rfl⟩⟩
        | 1, hi => exact ⟨_, (Option.some.inj hi).symm, .inr ⟨rfl, rfl⟩⟩
      obtain ⟨d, rfl, hd⟩ := hx
      have hpx := ex_t ex hp
      refine s_when (b := okT a b wd d) (et_and (et_B (ev_call (ea_cons (ev_var rfl) (ea_cons (ev_var rfl) ea_nil)) (spv_taking hpx ha hb))) fun z => ?_) (fun z H3 e3 => ?_) (fun z H3 e3 => ?_)
      · obtain ⟨d1, d2⟩ : 1 ≤ d ∧ d ≤ mostF a b := by
          have : 0 < d ∧ d ≤ mostF a b := by simpa using z
          exact ⟨by omega, this.2⟩
        obtain ⟨g1, g2⟩ := big_beh ha hb d1 d2
        refine et_is (et_test (ev_op (ev_callU (eu_call (ea_cons (ev_var rfl) (ea_cons (ev_var rfl) ea_nil)) (spu_taken hpx ha hb d1 d2)) fun t H3 h3 _ => spv_worth (st_of h3) g1 g2) (ev_var rfl) (rv_eq rfl))) ?_
        exact decide_eq_decide.mpr ⟨fun z => V.int.inj z, fun z => congrArg V.int z⟩
      · refine s_ret (v := .int (ttwF a b wd)) (ev_is (ev_var rfl) ?_) fun H4 e4 => q H4 ((ex.trans e3).trans e4)
        unfold ttwF
        rcases hd with ⟨_, rfl⟩ | ⟨rfl, rfl⟩
        · rw [if_pos z]
        · rw [if_neg (n1 (by decide)), if_pos z]
      · have z' : ¬ okT a b wd d = true := by rw [z]; decide
        refine ⟨_, rfl, ex.trans e3, e3 _ _ ht, fun hh => ?_, fun hh => ?_⟩
        · rcases hd with ⟨_, rfl⟩ | ⟨rfl, _⟩
          · exact z'
          · exact n1 (by decide)
        · rcases hd with ⟨rfl, _⟩ | ⟨_, rfl⟩
          · exact absurd hh (by decide)
          · exact z'
    · obtain ⟨y, rfl, ex, ht, n1, n2⟩ := hI
      refine s_ret (v := .int (ttwF a b wd)) (ev_is (ev_call (ea_cons (ev_var rfl) ea_nil) (spv_most (ex_t ex hp) ha hb)) ?_) fun H4 e4 => q H4 (ex.trans e4)
      unfold ttwF
      rw [if_neg (n1 (by show 1 ≤ 2; decide)), if_neg (n2 (by show 2 ≤ 2; decide))]
theorem spv_ttw {p : Addr} {a b wd : Int} {H : Hp} (hp : SqT K H p [.int a, .int b]) (ha : Big a) (hb : Big b) : SpV (sp_taking_to_worth K) [.ref p, .int wd] H (.int (ttwF a b wd)) := fun H1 e Q q E => ⟨p, a, b, wd, rfl, ex_t e hp, ha, hb, q⟩
theorem pr_pair {H : Hp} {q : Addr} {x y : Int} (h : SqT K H q [.int x, .int y]) (hx : 0 < x) (hy : 0 < y) : GG.PrV K H (.ref q) true :=
  ⟨"tuple", true, ty_tup h, by decide +kernel, (fun z => nomatch z), fun _ => ⟨q, _, rfl, h, fun c => absurd rfl c, fun _ => ⟨_, _, true, true, rfl,
    ⟨"int", true, false, .base (.int x), by decide +kernel, by decide +kernel, fun _ => ⟨x, rfl, (decide_eq_true hx).symm⟩, fun z => by cases z⟩,
    ⟨"int", true, false, .base (.int y), by decide +kernel, by decide +kernel, fun _ => ⟨y, rfl, (decide_eq_true hy).symm⟩, fun z => by cases z⟩, rfl⟩⟩⟩
theorem pr_pairs {H : Hp} : ∀ {vs : List V} {ps : Prs}, Tps K H vs ps → KG.Pos ps → Paired (GG.PrV K H) vs (List.replicate vs.length true)
  | _, _, .nil, _ => .nil
  | _, _, .cons h r, hp => .cons (pr_pair h (hp _ List.mem_cons_self).1 (hp _ List.mem_cons_self).2) (pr_pairs r fun p hq => hp p (List.mem_cons_of_mem _ hq))
theorem ok_is_list_of_pairs (T : Txt K mg base) : FnOk P w K mg base CX0 4 T.is_list_of_pairs.f T.is_list_of_pairs.fd ["value"] (sp_is_list_of_pairs K T.z_is_list_of_pairs.P) := by
  refine GG.okC T.is_list_of_pairs.F sc_is_list_of_pairs (fun vs H Q E h => ?_) (fun cdv A outer s H vs Q E hc0 hr h => ?_)
  · obtain ⟨l, ps, rfl, _⟩ := h; rfl
  · obtain ⟨l, ps, rfl, hP, hpos, h100, hT, q⟩ := h
    have hcd : cdv = .ref T.z_is_list_of_pairs.c := hc0.symm.trans T.z_is_list_of_pairs.code
    refine ⟨_, (pss_cons (ps_if (PW.pt (pw_or (pt_not (pt_val (pe_callB call_isi (by rfl) T.n_isinstance (by decide +kernel) (pa_cons (pv 0) (pa_cons (pe_bltn (v := .ty "list") (by rfl) T.n_list (by decide +kernel) rfl) pa_nil))))) (pw_or1 (pt_cmpR op_gt (pe_callB call_len_seq (by rfl) T.n_len (by decide +kernel) (pa_cons (pv 0) pa_nil)) (pe_glob (v := .int 100) (by rfl) T.c_MOST_PAIRS ⟨_, rfl⟩) (nomark _))))) (pss_one (ps_ret pe_bl)) pss_nil)
      (pss_one (ps_ret (GG.pe_allG (D := 3) (rel := GG.RPair K) (relV := GG.PrV K) hr (by rfl) T.n_all (by omega) T.z_is_list_of_pairs.tb hcd ⟨rfl, rfl, by decide +kernel, rfl, rfl, fun y hy e => absurd e ((by decide +kernel : ∀ y ∈ _, (y : Str × NameKind).2 ≠ .free) y hy)⟩ (pv 0) (GG.elt_call (qf_is_pair T) T.is_pair.F.kp (by rfl) (by decide) (by rfl) T.is_pair.g (by decide)) (fun _ _ _ _ k r => GG.RPair.mono k r) (fun _ _ _ _ _ _ _ I hP rx hv => GG.pr_of I hP rx hv) (fun _ => rfl))))), ?_⟩
    obtain ⟨us, hl, hT2⟩ := hP
    have hlen := hT2.len
    refine q_when (b := false) (et_or_ff (et_not (a := true) (et_B (ev_cb (ea_cons (ev_var rfl) (ea_cons ev_c ea_nil)) (rc_isi_seqL hl (by decide +kernel))))) (et_is (et_test (ev_op (ev_cb (ea_cons (ev_var rfl) ea_nil) (rc_lenL hl)) ev_c rv_I0)) (decide_eq_false (by omega)))) (fun z => nomatch z) fun _ H1 e1 => ?_
    exact s_ret (v := .bl true) (ev_is (GG.ev_allG (ev_var rfl) (ex_l e1 hl) (e1 _ _ hT) (fun H2 e2 => pr_pairs (hT2.mono (e1.trans e2)) hpos)) (by simp)) fun H2 e2 => q H2 (e1.trans e2)
theorem spv_is_list {P l : Addr} {ps : Prs} {H : Hp} (h : PL K H l ps) (hp : KG.Pos ps) (hl : ps.length ≤ 100) (hT : H P = some (GG.tabO P)) : SpV (sp_is_list_of_pairs K P) [.ref l] H (.bl true) := fun H1 e Q q E => ⟨l, ps, rfl, h.mono e, hp, hl, e _ _ hT, q⟩
theorem ok_told (T : Txt K mg base) : FnOk P w K mg base CX0 9 T.told.f T.told.fd ["pairs"] (sp_told K T.Lost.C T.Won.C T.z_is_list_of_pairs.P) := by
  refine T.told.F.ok sc_told (fun vs H Q E h => ?_) (fun cdv A outer s H vs Q E hr h => ?_)
  · obtain ⟨l, ps, rfl, _⟩ := h; rfl
  · obtain ⟨l, ps, rfl, hP, hb, h100, hT, q⟩ := h
    refine ⟨_, (pss_cons (ps_if (pt_not (pt_val (pe_call (ok_is_list_of_pairs T) (hr.mono (by omega)) (by rfl) T.is_list_of_pairs.g T.is_list_of_pairs.F.kp T.is_list_of_pairs.b .nil pass0 (pa_cons (pv 0) pa_nil)))) (pss_one ps_never) pss_nil)
      (pss_cons (ps_setLc (i := 1) (own := [("pair", 6)]) (g := gName 6) (tt := tYes) rfl sc_told.nd rfl rfl (sw_true rfl rfl rfl (by decide +kernel)) (pi_list (pv 0)) (blkOk_by (own := [("pair", 6)]) (N := ["pairs", "worths", "together", "at", "own", "wanted", "pair"]) (sc := defScope s_told) (by decide +kernel)) (fun _ _ _ _ _ => pg_name (i := 6) sc_told.nd rfl (Or.inl rfl)) (fun _ _ _ _ _ => pts_nil) (fun _ _ _ _ _ => (pe_call (ok_worth T) (hr.mono (by omega)) (by rfl) T.worth.g T.worth.F.kp T.worth.b .nil pass0 (pa_cons (pv 6) pa_nil))))
      (pss_cons (ps_set (i := 2) sc_told.nd rfl (by first | exact .inl rfl | exact .inr rfl) (pe_call (ok_all_together T) (hr.mono (by omega)) (by rfl) T.all_together.g T.all_together.F.kp T.all_together.b .nil pass0 (pa_cons (pv 1) pa_nil)))
      (pss_cons (ps_for PassesOwn.never rfl (pi_enum (by rfl) T.n_enumerate (pa_cons (pv 1) pa_nil)) (pg_tup rfl (pgs_cons (pg_name (i := 3) sc_told.nd rfl (by first | exact .inl rfl | exact .inr rfl)) (pgs_cons (pg_name (i := 4) sc_told.nd rfl (by first | exact .inl rfl | exact .inr rfl)) pgs_nil))) (pss_cons (ps_set (i := 5) sc_told.nd rfl (by first | exact .inl rfl | exact .inr rfl) (pe_op op_xor (pv 4) (pv 2)))
      (pss_one (ps_if (pt_cmpR op_lt (pv 5) (pv 4) (nomark _)) (pss_one (ps_ret (pe_make T.mk_Won (ok_Won_init T) (hr.mono (by omega)) (by rfl) T.Won.g T.Won_init.b .nil pass0 (pa_cons (pv 3) (pa_cons (pe_call (ok_taking_to_worth T) (hr.mono (by omega)) (by rfl) T.taking_to_worth.g T.taking_to_worth.F.kp T.taking_to_worth.b .nil pass0 (pa_cons (pe_ix ix_list (pv 0) (pv 3) (fun _ _ => rfl)) (pa_cons (pv 5) pa_nil))) pa_nil))))) pss_nil))))
      (pss_one (ps_ret (pe_makeO T.mk_Lost (by rfl) T.Lost.g))))))), ?_⟩
    refine q_when (b := false) (et_not (a := true) (et_B (ev_call (ea_cons (ev_var rfl) ea_nil) (spv_is_list hP hb.pos h100 hT)))) (fun z => nomatch z) fun _ H1 e1 => ?_
    have hP1 := hP.mono e1
    refine q_asgL (el_worths (ev_var rfl) hP1 hb (by omega) (fun x => rfl) (fun x => rfl)) fun r H2 _ e2 h2 => ?_
    refine q_asg (ev_call (ea_cons (ev_var rfl) ea_nil) (spv_together (ws := ps.map KG.wn) (sq_of h2))) fun H3 e3 => ?_
    have e13 := (e1.trans e2).trans e3
    have h3 := e3 _ _ h2
    refine q_forEE (ea_cons (ev_var rfl) ea_nil) (sq_of h3) (fun i σ' H' => ∃ y1 y2 y3, σ' = [some (.ref l), some (.ref r), some (.int (KG.sumF ps : Int)), y1, y2, y3, none] ∧ Ex H3 H' ∧ ∀ j w, j < i → (ps.map KG.wn)[j]? = some w → ¬ (w ^^^ KG.sumF ps < w))
      (fun H4 e4 => ⟨none, none, none, rfl, e4, fun j w hj => absurd hj (by omega)⟩) (fun i σ' H' _ ⟨_, _, _, _, e, _⟩ => ex_l e (sq_of h3)) (fun i x σ' H' H'' hi e4 hI => ?_) fun σ' H' hI => ?_
    · obtain ⟨y1, y2, y3, rfl, ex, hno⟩ := hI
      rw [List.getElem?_map] at hi
      cases hx : (ps.map KG.wn)[i]? with
      | none => rw [hx] at hi; cases hi
      | some n =>
        rw [hx] at hi
        have ex' : x = .int (n : Int) := (Option.some.inj hi).symm
        subst ex'
        have e34 := ex.trans e4
        refine q_asg (ev_op (ev_var rfl) (ev_var rfl) rv_xor) fun H4 e5 => ?_
        refine s_when (et_test (ev_op (ev_var rfl) (ev_var rfl) rv_I0)) (fun z H5 e6 => ?_) (fun z H5 e6 => ?_)
        · have zn : n ^^^ KG.sumF ps < n := by
            have : ((n ^^^ KG.sumF ps : Nat) : Int) < (n : Int) := of_decide_eq_true z
            omega
          have hil : i < ps.length := by
            have := (List.getElem?_eq_some_iff.mp hx).1
            rwa [List.length_map] at this
          have hpi : ps[i]? = some (pAt ps (i : Int)) := by
            have := pAt_some (ps := ps) (i := (i : Int)) (by omega) (by omega)
            rwa [Int.toNat_natCast] at this
          have hn : n = KG.wn (pAt ps (i : Int)) := by
            have := KG.wn_at hpi
            rw [hx] at this
            exact Option.some.inj this
          obtain ⟨b1, b2⟩ := hb.at (i := (i : Int)) (by omega) (by omega)
          have e05 := ((e13.trans e34).trans e5).trans e6
          obtain ⟨q', hq', hix⟩ := pl_at (hP.mono e05) (i := (i : Int)) (by omega) (by rw [Int.toNat_natCast]; exact hpi)
          have hwi := wn_int (p := pAt ps (i : Int)) b1.pos b2.pos
          obtain ⟨t0, t1, t2⟩ := ttw_ok (wd := ((n ^^^ KG.sumF ps : Nat) : Int)) b1.pos b2.pos (Int.natCast_nonneg _) (by rw [hwi, ← hn]; omega)
          refine s_retS (es_won (K := K) (CL := T.Lost.C) (CW := T.Won.C) (ea_cons (ev_var rfl) (ea_cons (ev_call (ea_cons (ev_op (ev_var rfl) (ev_var rfl) (hix (Ex.refl _))) (ea_cons (ev_var rfl) ea_nil)) (spv_ttw hq' b1 b2)) ea_nil))) fun v H6 e7 hv => ?_
          obtain ⟨a, rfl, hA⟩ := hv
          have hne : KG.sumF ps ≠ 0 := fun z0 => by
            rw [z0, Nat.xor_zero] at zn
            exact Nat.lt_irrefl _ zn
          refine q _ H6 (e05.trans e7) ⟨a, _, rfl, hA, ?_, ?_⟩
          · have hsum : KG.sumF (ps.set i (KG.beh (pAt ps (i : Int)) (ttwF (pAt ps (i : Int)).1 (pAt ps (i : Int)).2 ((n ^^^ KG.sumF ps : Nat) : Int)))) = 0 := by
              unfold KG.sumF
              rw [KG.map_set]
              have hb' : KG.wn (KG.beh (pAt ps (i : Int)) (ttwF (pAt ps (i : Int)).1 (pAt ps (i : Int)).2 ((n ^^^ KG.sumF ps : Nat) : Int))) = n ^^^ KN.xs (ps.map KG.wn) := by
                show (worthF _ _).toNat = _
                rw [show worthF (KG.beh (pAt ps (i : Int)) (ttwF (pAt ps (i : Int)).1 (pAt ps (i : Int)).2 ((n ^^^ KG.sumF ps : Nat) : Int))).1 (KG.beh (pAt ps (i : Int)) (ttwF (pAt ps (i : Int)).1 (pAt ps (i : Int)).2 ((n ^^^ KG.sumF ps : Nat) : Int))).2 = ((n ^^^ KG.sumF ps : Nat) : Int) from t2]
                exact Int.toNat_natCast _
              have hm := KN.made hx
              rw [← hb'] at hm
              exact hm
            simp only [dueF, Int.toNat_natCast, hsum]
            have l1 : (0 : Int) ≤ (i : Int) := by omega
            have l2 : (i : Int) < (ps.length : Int) := by omega
            simp [l1, l2, t0, t1, hil]
          · show false = decide (KG.sumF ps = 0)
            rw [decide_eq_false hne]
        · refine ⟨_, _, _, rfl, (e34.trans e5).trans e6, fun j w hj hw => ?_⟩
          by_cases c : j < i
          · exact hno j w c hw
          · have hji : j = i := by omega
            subst hji
            rw [hx] at hw
            cases hw
            intro c2
            have : ¬ ((n ^^^ KG.sumF ps : Nat) : Int) < (n : Int) := of_decide_eq_false z
            omega
    · obtain ⟨y1, y2, y3, rfl, ex, hno⟩ := hI
      rw [List.length_map, List.length_map] at hno
      have hz : KG.sumF ps = 0 := by
        by_cases c : KG.sumF ps = 0
        · exact c
        · obtain ⟨i, w, hi, hlt⟩ := KN.can (ws := ps.map KG.wn) c
          have hil := (List.getElem?_eq_some_iff.mp hi).1
          rw [List.length_map] at hil
          exact absurd hlt (hno i w hil hi)
      refine s_retS (es_lost (CW := T.Won.C)) fun v H6 e7 hv => ?_
      obtain ⟨a, rfl, hA⟩ := hv
      exact q _ H6 ((e13.trans ex).trans e7) ⟨a, .lost, rfl, hA, by simp only [dueF, hz, decide_true], by rw [hz]; rfl⟩
end
/-! ### the answers' classes -/
section
variable {K : PySem.W.Frag} {mg : Str → Option Value} {base : Heap} {H : Hp}
theorem won_ne_lost (T : Txt K mg base) : T.Won.C ≠ T.Lost.C := fun z => by
  have h1 := T.k_Won_Lost
  have h2 := T.k_Lost_Lost
  rw [z, h2] at h1
  cases h1
theorem isi_lost (T : Txt K mg base) {a : Addr} {A : Ans} (h : AnsAt T.Lost.C T.Won.C H a A) : RC (rIsi K) [.ref a, .ref T.Lost.C] H (.bl A.isLost) := by
  cases A with
  | lost => obtain ⟨dx, h⟩ := h; exact rc_isiO T.Lost h T.k_Lost_Lost
  | won i t => obtain ⟨dx, h⟩ := h; exact rc_isiO T.Won h T.k_Won_Lost
theorem isi_won (T : Txt K mg base) {a : Addr} {A : Ans} (h : AnsAt T.Lost.C T.Won.C H a A) : RC (rIsi K) [.ref a, .ref T.Won.C] H (.bl A.isWon) := by
  cases A with
  | lost => obtain ⟨dx, h⟩ := h; exact rc_isiO T.Lost h T.k_Lost_Won
  | won i t => obtain ⟨dx, h⟩ := h; exact rc_isiO T.Won h T.k_Won_Won
/-- the fields -/
theorem ev_at (T : Txt K mg base) {σ : L2.St} {ta : TE} {a : Addr} {i t : Int} (h : Ev ta σ H (.ref a)) (hA : AnsAt T.Lost.C T.Won.C H a (.won i t)) : Ev (tFld K ta "at") σ H (.int i) := by
  obtain ⟨dx, hi⟩ := hA
  exact ev_fld h hi T.Won.cl T.n_Won_at (won_at i t)
theorem ev_times (T : Txt K mg base) {σ : L2.St} {ta : TE} {a : Addr} {i t : Int} (h : Ev ta σ H (.ref a)) (hA : AnsAt T.Lost.C T.Won.C H a (.won i t)) : Ev (tFld K ta "times") σ H (.int t) := by
  obtain ⟨dx, hi⟩ := hA
  exact ev_fld h hi T.Won.cl T.n_Won_times (won_times i t)
end
end Mt

set_option Elab.async false
set_option linter.all false
set_option maxRecDepth 100000
set_option maxHeartbeats 4000000
set_option exponentiation.threshold 300
namespace Mt
open PySem PySem.Spec PyProof.Rows L2 Evl KM KR
/-! ### what the program's defs answer about anything -/
section
variable {K : PySem.W.Frag} {H : Hp}
theorem rc_isi_ty {x : V} {T T2 : String} {b : Bool} (t : TyX K H x (.type T)) (h : kitB T T2 = some b) : RC (rIsi K) [x, .ty T2] H (.bl b) := fun H1 e _ q =>
  ⟨_, _, _, _, b, rfl, .ty T2, tyx_ex e t, kit_ty h, q H1 (Ex.refl H1)⟩
end
def sp_whole_v (K : PySem.W.Frag) : Sp := fun vs H Q _ => ∃ (x : V) (T : String) (b1 b2 : Bool), vs = [x] ∧ TyX K H x (.type T) ∧ kitB T "int" = some b1 ∧ kitB T "bool" = some b2 ∧ RetV (.bl (b1 && !b2)) H Q
def sp_above_v (K : PySem.W.Frag) : Sp := fun vs H Q _ => ∃ (x : V) (b : Bool), vs = [x] ∧ GG.AbV K H x b ∧ RetV (.bl b) H Q
def sp_pair_v (K : PySem.W.Frag) : Sp := fun vs H Q _ => ∃ (x : V) (b : Bool), vs = [x] ∧ GG.PrV K H x b ∧ RetV (.bl b) H Q
def sp_row_b (K : PySem.W.Frag) (P : Addr) : Sp := fun vs H Q _ => ∃ x : V, vs = [x] ∧ RwV K H x ∧ H P = some (GG.tabO P) ∧ RetV (.bl false) H Q
def sp_list_b (K : PySem.W.Frag) (P : Addr) : Sp := fun vs H Q _ => ∃ x : V, vs = [x] ∧ LsV K H x ∧ H P = some (GG.tabO P) ∧ RetV (.bl false) H Q
/-- what is no taking of a pair -/
def TkV (K : PySem.W.Frag) (a b : Int) (t : V) (H : Hp) : Prop := GG.AbV K H t false ∨ ∃ i, t = .int i ∧ mostF a b < i
theorem tk_st {K : PySem.W.Frag} {a b : Int} : Stable (TkV K a b) := fun _ _ _ e h => h.elim (fun h => .inl (ab_ex e h)) .inr
def sp_taking_b (K : PySem.W.Frag) : Sp := fun vs H Q _ => ∃ (p : Addr) (a b : Int) (t : V), vs = [.ref p, t] ∧ SqT K H p [.int a, .int b] ∧ Big a ∧ Big b ∧ TkV K a b t H ∧ RetV (.bl false) H Q
section
variable {P : Program} {w : World} {K : PySem.W.Frag} {mg : Str → Option Value} {base : Heap}
theorem ok_is_wholeV (T : Txt K mg base) : FnOk P w K mg base CX0 1 T.is_whole.f T.is_whole.fd ["value"] (sp_whole_v K) := by
  refine T.is_whole.F.ok sc_is_whole (fun vs H Q E h => ?_) (fun cdv A outer s H vs Q E hr h => ?_)
  · obtain ⟨x, t, b1, b2, rfl, _⟩ := h; rfl
  · obtain ⟨x, t, b1, b2, rfl, ty, k1, k2, q⟩ := h
    refine ⟨_, (pss_one (ps_ret (pe_and (pe_callB call_isi (by rfl) T.n_isinstance (by decide +kernel) (pa_cons (pv 0) (pa_cons (pe_bltn (v := .ty "int") (by rfl) T.n_int (by decide +kernel) rfl) pa_nil))) (pe_one (pe_not (pe_callB call_isi (by rfl) T.n_isinstance (by decide +kernel) (pa_cons (pv 0) (pa_cons (pe_bltn (v := .ty "bool") (by rfl) T.n_bool (by decide +kernel) rfl) pa_nil)))))))), ?_⟩
    exact s_ret (ev_andV (ev_cb (ea_cons (ev_var rfl) (ea_cons ev_c ea_nil)) (rc_isi_ty ty k1)) fun _ => ev_notV (ev_cb (ea_cons (ev_var rfl) (ea_cons ev_c ea_nil)) (rc_isi_ty ty k2))) q
theorem ok_is_aboveV (T : Txt K mg base) : FnOk P w K mg base CX0 2 T.is_above_zero.f T.is_above_zero.fd ["value"] (sp_above_v K) := by
  refine T.is_above_zero.F.ok sc_is_above_zero (fun vs H Q E h => ?_) (fun cdv A outer s H vs Q E hr h => ?_)
  · obtain ⟨x, b, rfl, _⟩ := h; rfl
  · obtain ⟨x, b, rfl, ⟨t, b1, b2, ty, k1, k2, h1, h2⟩, q⟩ := h
    refine ⟨_, (pss_one (ps_ret (pe_and (pe_call (ok_is_wholeV T) (hr.mono (by omega)) (by rfl) T.is_whole.g T.is_whole.F.kp T.is_whole.b .nil pass0 (pa_cons (pv 0) pa_nil)) (pe_one (pe_cmpR op_gt (pv 0) pe_int (nomark _)))))), ?_⟩
    have hw : SpV (sp_whole_v K) [x] H (.bl (b1 && !b2)) := fun H1 e Q q E => ⟨x, t, b1, b2, rfl, tyx_ex e ty, k1, k2, q⟩
    cases z : (b1 && !b2) with
    | true =>
      rw [z] at hw
      obtain ⟨i, rfl, rfl⟩ := h1 z
      exact s_ret (ev_andV (a := true) (ev_call (ea_cons (ev_var rfl) ea_nil) hw) fun _ => ev_op (ev_var rfl) ev_c rv_I0) q
    | false =>
      rw [z] at hw
      have z2 := h2 z
      subst z2
      exact s_ret (v := .bl false) (ev_andV (a := false) (b := false) (ev_call (ea_cons (ev_var rfl) ea_nil) hw) fun c => nomatch c) q
theorem spv_aboveV {x : V} {b : Bool} {H : Hp} (h : GG.AbV K H x b) : SpV (sp_above_v K) [x] H (.bl b) := fun H1 e Q q E => ⟨x, b, rfl, ab_ex e h, q⟩
theorem ok_is_pairV (T : Txt K mg base) : FnOk P w K mg base CX0 3 T.is_pair.f T.is_pair.fd ["value"] (sp_pair_v K) := by
  refine T.is_pair.F.ok sc_is_pair (fun vs H Q E h => ?_) (fun cdv A outer s H vs Q E hr h => ?_)
  · obtain ⟨x, b, rfl, _⟩ := h; rfl
  · obtain ⟨x, b, rfl, ⟨t, bt, ty, k, h1, h2⟩, q⟩ := h
    refine ⟨_, (pss_cons (ps_if (PW.pt (pw_or (pt_not (pt_val (pe_callB call_isi (by rfl) T.n_isinstance (by decide +kernel) (pa_cons (pv 0) (pa_cons (pe_bltn (v := .ty "tuple") (by rfl) T.n_tuple (by decide +kernel) rfl) pa_nil))))) (pw_or1 (pt_cmpR op_ne (pe_callB call_len_seq (by rfl) T.n_len (by decide +kernel) (pa_cons (pv 0) pa_nil)) pe_int (nomark _))))) (pss_one (ps_ret pe_bl)) pss_nil)
      (pss_cons (ps_asg (pv 0) (pg_tup rfl (pgs_cons (pg_name (i := 1) sc_is_pair.nd rfl (by first | exact .inl rfl | exact .inr rfl)) (pgs_cons (pg_name (i := 2) sc_is_pair.nd rfl (by first | exact .inl rfl | exact .inr rfl)) pgs_nil))))
      (pss_one (ps_ret (pe_and (pe_call (ok_is_aboveV T) (hr.mono (by omega)) (by rfl) T.is_above_zero.g T.is_above_zero.F.kp T.is_above_zero.b .nil pass0 (pa_cons (pv 1) pa_nil)) (pe_one (pe_call (ok_is_aboveV T) (hr.mono (by omega)) (by rfl) T.is_above_zero.g T.is_above_zero.F.kp T.is_above_zero.b .nil pass0 (pa_cons (pv 2) pa_nil)))))))), ?_⟩
    cases bt with
    | false =>
      have z := h1 rfl
      subst z
      exact q_when (b := true) (et_or (a := true) (b := true) (et_not (a := false) (et_B (ev_cb (ea_cons (ev_var rfl) (ea_cons ev_c ea_nil)) (rc_isi_ty ty k)))) fun c => nomatch c) (fun _ H1 e1 => s_ret ev_c fun H2 e2 => q H2 (e1.trans e2)) fun c => nomatch c
    | true =>
      obtain ⟨p, xs, rfl, hp, n2, y2⟩ := h2 rfl
      have hi : ∀ {σ : L2.St} {H1 : Hp}, σ[0]? = some (some (.ref p)) → Ex H H1 → Ev (tCB (fun xs H Q => ∃ p ys, xs = [V.ref p] ∧ (SqL K H p ys ∨ SqT K H p ys) ∧ Q (.int ys.length) H) (tCons (tVar 0) tNil)) σ H1 (.int xs.length) :=
        fun h e => ev_cb (ea_cons (ev_var h) ea_nil) (rc_lenT (ex_t e hp))
      by_cases c : xs.length = 2
      · obtain ⟨y, z, by', bz, rfl, a1, a2, rfl⟩ := y2 c
        refine q_when (b := false) (et_or_ff (et_not (a := true) (et_B (ev_cb (ea_cons (ev_var rfl) (ea_cons ev_c ea_nil)) (rc_isi_ty ty k)))) (et_test (ev_op (hi rfl (Ex.refl H)) ev_c (rv_ne rfl)))) (fun z => nomatch z) fun _ H1 e1 => ?_
        refine q_unT (ev_var rfl) (ex_t e1 hp) fun H2 e2 => ?_
        exact s_ret (ev_andV (ev_call (ea_cons (ev_var rfl) ea_nil) (spv_aboveV (ab_ex (e1.trans e2) a1))) fun _ => ev_call (ea_cons (ev_var rfl) ea_nil) (spv_aboveV (ab_ex (e1.trans e2) a2))) fun H3 e3 => q H3 ((e1.trans e2).trans e3)
      · have z := n2 c
        subst z
        refine q_when (b := true) (et_or (a := false) (b := true) (et_not (a := true) (et_B (ev_cb (ea_cons (ev_var rfl) (ea_cons ev_c ea_nil)) (rc_isi_ty ty k)))) fun _ => et_is (et_test (ev_op (hi rfl (Ex.refl H)) ev_c (rv_ne rfl))) ?_) (fun _ H1 e1 => s_ret ev_c fun H2 e2 => q H2 (e1.trans e2)) fun c => nomatch c
        have : ¬ ((xs.length : Int) = 2) := by omega
        simp [this]
theorem spv_pairV {x : V} {b : Bool} {H : Hp} (h : GG.PrV K H x b) : SpV (sp_pair_v K) [x] H (.bl b) := fun H1 e Q q E => ⟨x, b, rfl, pr_ex e h, q⟩
theorem ok_is_rowB (T : Txt K mg base) : FnOk P w K mg base CX0 3 T.is_row.f T.is_row.fd ["value"] (sp_row_b K T.z_is_row.P) := by
  refine GG.okC T.is_row.F sc_is_row (fun vs H Q E h => ?_) (fun cdv A outer s H vs Q E hc0 hr h => ?_)
  · obtain ⟨x, rfl, _⟩ := h; rfl
  · obtain ⟨x, rfl, hR, hP, q⟩ := h
    have hcd : cdv = .ref T.z_is_row.c := hc0.symm.trans T.z_is_row.code
    refine ⟨_, (pss_cons (ps_if (PW.pt (pw_or (pt_not (pt_val (pe_callB call_isi (by rfl) T.n_isinstance (by decide +kernel) (pa_cons (pv 0) (pa_cons (pe_bltn (v := .ty "list") (by rfl) T.n_list (by decide +kernel) rfl) pa_nil))))) (pw_or1 (pt_not (pt_chain op_le op_le pe_int (pe_callB call_len_seq (by rfl) T.n_len (by decide +kernel) (pa_cons (pv 0) pa_nil)) (pe_glob (v := .int 1000) (by rfl) T.c_LONGEST_ROW ⟨_, rfl⟩)))))) (pss_one (ps_ret pe_bl)) pss_nil)
      (pss_cons (ps_if (pt_not (pt_val (GG.pe_allG (D := 2) (rel := GG.RAbove K) (relV := GG.AbV K) hr (by rfl) T.n_all (by omega) T.z_is_row.tb hcd ⟨rfl, rfl, by decide +kernel, rfl, rfl, fun y hy e => absurd e ((by decide +kernel : ∀ y ∈ _, (y : Str × NameKind).2 ≠ .free) y hy)⟩ (pv 0) (GG.elt_call (qf_is_above_zero T) T.is_above_zero.F.kp (by rfl) (by decide) (by rfl) T.is_above_zero.g (by decide)) (fun _ _ _ _ k r => GG.RAbove.mono k r) (fun _ _ _ _ _ _ _ I hP rx hv => GG.ab_of I hP rx hv) (fun _ => rfl)))) (pss_one (ps_ret pe_bl)) pss_nil)
      (pss_one (ps_ret (pe_or (pe_cmpR op_eq (pe_callB call_len_seq (by rfl) T.n_len (by decide +kernel) (pa_cons (pv 0) pa_nil)) pe_int (nomark _)) (pe_one (pe_cmpR op_gt (pe_ix ix_list (pv 0) (pe_un un_neg pe_int) (fun _ _ => rfl)) pe_int (nomark _)))))))), ?_⟩
    rcases hR with ⟨t, ty, k⟩ | ⟨a, xs, rfl, hS, r⟩
    · exact q_when (b := true) (et_or (a := true) (b := true) (et_not (a := false) (et_B (ev_cb (ea_cons (ev_var rfl) (ea_cons ev_c ea_nil)) (rc_isi_ty ty k)))) fun c => nomatch c) (fun _ H1 e1 => s_ret ev_c fun H2 e2 => q H2 (e1.trans e2)) fun c => nomatch c
    have hl : ∀ {σ : L2.St} {H1 : Hp}, σ[0]? = some (some (.ref a)) → Ex H H1 → Ev (tCB (fun xs H Q => ∃ p ys, xs = [V.ref p] ∧ (SqL K H p ys ∨ SqT K H p ys) ∧ Q (.int ys.length) H) (tCons (tVar 0) tNil)) σ H1 (.int xs.length) :=
      fun h e => ev_cb (ea_cons (ev_var h) ea_nil) (rc_lenL (ex_l e hS))
    by_cases c : 1 ≤ xs.length ∧ xs.length ≤ 1000
    · refine q_when (b := false) (et_or_ff (et_not (a := true) (et_B (ev_cb (ea_cons (ev_var rfl) (ea_cons ev_c ea_nil)) (rc_isi_seqL hS (by decide +kernel))))) (et_not (a := true) (et_test (ev_chainI (a := true) (b := true) ev_c (hl rfl (Ex.refl H)) ev_c (decide_eq_true (by omega)) (decide_eq_true (by omega)))))) (fun z => nomatch z) fun _ H1 e1 => ?_
      rcases r with r | r | ⟨r0, r1, bs, r2, r3⟩ | ⟨r0, r1, bs, r2, r3, r4⟩
      · omega
      · omega
      · exact q_when (b := true) (et_not (a := false) (et_B (ev_is (GG.ev_allG (ev_var rfl) (ex_l e1 hS) (e1 _ _ hP) (fun H2 e2 => paired_imp (fun _ _ => ab_ex (e1.trans e2)) r2)) (by rw [r3])))) (fun _ H2 e2 => s_ret ev_c fun H3 e3 => q H3 ((e1.trans e2).trans e3)) fun z => nomatch z
      · refine q_when (b := false) (et_not (a := true) (et_B (ev_is (GG.ev_allG (ev_var rfl) (ex_l e1 hS) (e1 _ _ hP) (fun H2 e2 => paired_imp (fun _ _ => ab_ex (e1.trans e2)) r2)) (by rw [r3])))) (fun z => nomatch z) fun _ H2 e2 => ?_
        have ex := e1.trans e2
        refine s_ret (v := .bl false) (ev_is (ev_orV (a := decide (V.int (xs.length : Int) = V.int 1)) (b := false) (ev_op (hl rfl ex) ev_c (rv_eq rfl)) fun z => ?_) ?_) fun H3 e3 => q H3 (ex.trans e3)
        · exact ev_op (ev_op (ev_var rfl) (ev_un ev_c ru_neg) (rv_ixL (ex_l ex hS) r4)) ev_c rv_I0
        · have : ¬ V.int (xs.length : Int) = V.int 1 := fun z => by
            have := V.int.inj z
            omega
          rw [decide_eq_false this]
          rfl
    · have : (decide ((1 : Int) ≤ xs.length) && decide ((xs.length : Int) ≤ 1000)) = false := by
        rw [Bool.and_eq_false_iff]
        by_cases c1 : 1 ≤ xs.length
        · exact .inr (decide_eq_false (by omega))
        · exact .inl (decide_eq_false (by omega))
      exact q_when (b := true) (et_or (a := false) (b := true) (et_not (a := true) (et_B (ev_cb (ea_cons (ev_var rfl) (ea_cons ev_c ea_nil)) (rc_isi_seqL hS (by decide +kernel))))) fun _ => et_is (et_not (et_test (ev_chainI ev_c (hl rfl (Ex.refl H)) ev_c rfl rfl))) (by rw [this]; rfl)) (fun _ H1 e1 => s_ret ev_c fun H2 e2 => q H2 (e1.trans e2)) fun c => nomatch c
theorem spv_rowB {P : Addr} {x : V} {H : Hp} (h : RwV K H x) (hP : H P = some (GG.tabO P)) : SpV (sp_row_b K P) [x] H (.bl false) := fun H1 e Q q E => ⟨x, rfl, rw_ex e h, e _ _ hP, q⟩
theorem ok_is_listB (T : Txt K mg base) : FnOk P w K mg base CX0 4 T.is_list_of_pairs.f T.is_list_of_pairs.fd ["value"] (sp_list_b K T.z_is_list_of_pairs.P) := by
  refine GG.okC T.is_list_of_pairs.F sc_is_list_of_pairs (fun vs H Q E h => ?_) (fun cdv A outer s H vs Q E hc0 hr h => ?_)
  · obtain ⟨x, rfl, _⟩ := h; rfl
  · obtain ⟨x, rfl, hR, hP, q⟩ := h
    have hcd : cdv = .ref T.z_is_list_of_pairs.c := hc0.symm.trans T.z_is_list_of_pairs.code
    refine ⟨_, (pss_cons (ps_if (PW.pt (pw_or (pt_not (pt_val (pe_callB call_isi (by rfl) T.n_isinstance (by decide +kernel) (pa_cons (pv 0) (pa_cons (pe_bltn (v := .ty "list") (by rfl) T.n_list (by decide +kernel) rfl) pa_nil))))) (pw_or1 (pt_cmpR op_gt (pe_callB call_len_seq (by rfl) T.n_len (by decide +kernel) (pa_cons (pv 0) pa_nil)) (pe_glob (v := .int 100) (by rfl) T.c_MOST_PAIRS ⟨_, rfl⟩) (nomark _))))) (pss_one (ps_ret pe_bl)) pss_nil)
      (pss_one (ps_ret (GG.pe_allG (D := 3) (rel := GG.RPair K) (relV := GG.PrV K) hr (by rfl) T.n_all (by omega) T.z_is_list_of_pairs.tb hcd ⟨rfl, rfl, by decide +kernel, rfl, rfl, fun y hy e => absurd e ((by decide +kernel : ∀ y ∈ _, (y : Str × NameKind).2 ≠ .free) y hy)⟩ (pv 0) (GG.elt_call (qf_is_pair T) T.is_pair.F.kp (by rfl) (by decide) (by rfl) T.is_pair.g (by decide)) (fun _ _ _ _ k r => GG.RPair.mono k r) (fun _ _ _ _ _ _ _ I hP rx hv => GG.pr_of I hP rx hv) (fun _ => rfl))))), ?_⟩
    rcases hR with ⟨t, ty, k⟩ | ⟨a, xs, rfl, hS, r⟩
    · exact q_when (b := true) (et_or (a := true) (b := true) (et_not (a := false) (et_B (ev_cb (ea_cons (ev_var rfl) (ea_cons ev_c ea_nil)) (rc_isi_ty ty k)))) fun c => nomatch c) (fun _ H1 e1 => s_ret ev_c fun H2 e2 => q H2 (e1.trans e2)) fun c => nomatch c
    rcases r with r | ⟨r1, bs, r2, r3⟩
    · exact q_when (b := true) (et_or (a := false) (b := true) (et_not (a := true) (et_B (ev_cb (ea_cons (ev_var rfl) (ea_cons ev_c ea_nil)) (rc_isi_seqL hS (by decide +kernel))))) fun _ => et_is (et_test (ev_op (ev_cb (ea_cons (ev_var rfl) ea_nil) (rc_lenL hS)) ev_c rv_I0)) (decide_eq_true (by omega))) (fun _ H1 e1 => s_ret ev_c fun H2 e2 => q H2 (e1.trans e2)) fun c => nomatch c
    · refine q_when (b := false) (et_or_ff (et_not (a := true) (et_B (ev_cb (ea_cons (ev_var rfl) (ea_cons ev_c ea_nil)) (rc_isi_seqL hS (by decide +kernel))))) (et_is (et_test (ev_op (ev_cb (ea_cons (ev_var rfl) ea_nil) (rc_lenL hS)) ev_c rv_I0)) (decide_eq_false (by omega)))) (fun z => nomatch z) fun _ H1 e1 => ?_
      exact s_ret (v := .bl false) (ev_is (GG.ev_allG (ev_var rfl) (ex_l e1 hS) (e1 _ _ hP) (fun H2 e2 => paired_imp (fun _ _ => pr_ex (e1.trans e2)) r2)) (by rw [r3])) fun H2 e2 => q H2 (e1.trans e2)
theorem spv_listB {P : Addr} {x : V} {H : Hp} (h : LsV K H x) (hP : H P = some (GG.tabO P)) : SpV (sp_list_b K P) [x] H (.bl false) := fun H1 e Q q E => ⟨x, rfl, ls_ex e h, e _ _ hP, q⟩
theorem ok_is_takingB (T : Txt K mg base) : FnOk P w K mg base CX0 6 T.is_taking.f T.is_taking.fd ["pair", "times"] (sp_taking_b K) := by
  refine T.is_taking.F.ok sc_is_taking (fun vs H Q E h => ?_) (fun cdv A outer s H vs Q E hr h => ?_)
  · obtain ⟨p, a, b, t, rfl, _⟩ := h; rfl
  · obtain ⟨p, a, b, t, rfl, hp, ha, hb, ht, q⟩ := h
    refine ⟨_, (pss_cons (ps_set (i := 2) sc_is_taking.nd rfl (by first | exact .inl rfl | exact .inr rfl) (pe_call (ok_most T) (hr.mono (by omega)) (by rfl) T.most.g T.most.F.kp T.most.b .nil pass0 (pa_cons (pv 0) pa_nil)))
      (pss_one (ps_ret (pe_and (pe_call (ok_is_aboveV T) (hr.mono (by omega)) (by rfl) T.is_above_zero.g T.is_above_zero.F.kp T.is_above_zero.b .nil pass0 (pa_cons (pv 1) pa_nil)) (pe_one (pe_cmpR op_le (pv 1) (pv 2) (nomark _))))))), ?_⟩
    refine q_asg (ev_call (ea_cons (ev_var rfl) ea_nil) (spv_most hp ha hb)) fun H1 e1 => ?_
    rcases ht with ht | ⟨i, rfl, hi⟩
    · exact s_ret (v := .bl false) (ev_andV (a := false) (b := false) (ev_call (ea_cons (ev_var rfl) ea_nil) (spv_aboveV (ab_ex e1 ht))) fun c => nomatch c) fun H2 e2 => q H2 (e1.trans e2)
    · exact s_ret (v := .bl false) (ev_is (ev_andV (ev_call (ea_cons (ev_var rfl) ea_nil) (spv_aboveV (ab_int i))) fun _ => ev_op (ev_var rfl) (ev_var rfl) rv_I0) (by rw [decide_eq_false (show ¬ i ≤ mostF a b by omega), Bool.and_false])) fun H2 e2 => q H2 (e1.trans e2)
theorem spv_takingB {p : Addr} {a b : Int} {t : V} {H : Hp} (hp : SqT K H p [.int a, .int b]) (ha : Big a) (hb : Big b) (ht : TkV K a b t H) : SpV (sp_taking_b K) [.ref p, t] H (.bl false) := fun H1 e Q q E => ⟨p, a, b, t, rfl, ex_t e hp, ha, hb, tk_st _ _ _ e ht, q⟩
end
end Mt

set_option Elab.async false
set_option linter.all false
set_option maxRecDepth 100000
set_option maxHeartbeats 4000000
set_option exponentiation.threshold 300
namespace Mt
open PySem PySem.Spec PyProof.Rows L2 Evl KM KR
/-! ### what the program's defs refuse -/
section
variable {H : Hp} {σ : L2.St} {sp : Sp} {E : L2.St → XK} {ta : TA} {vs : List V} {Q : VK} {D : Ends} {tu tw tz : TS} {g : TG}
theorem x_call (h : EvA ta σ H vs) (k : ∀ H1, Ex H H1 → sp vs H1 Q (E σ)) : tCallS sp E ta σ H Q := h H (Ex.refl H) _ fun H1 e => k H1 e
theorem qx_asg (h : EvA ta σ H vs) (k : ∀ H1, Ex H H1 → ∀ Q, sp vs H1 Q (E σ)) : tSeq (tAsg (tCallS sp E ta) g) tz D σ H := h H (Ex.refl H) _ fun H1 e => k H1 e _
theorem qx_not (h : EvA ta σ H vs) (k : ∀ H1, Ex H H1 → ∀ Q, sp vs H1 Q (E σ)) : tSeq (tIfS (tNot (tB (tCallS sp E ta))) tu tw) tz D σ H := h H (Ex.refl H) _ fun H1 e => k H1 e _
theorem sx_ret (h : EvA ta σ H vs) (k : ∀ H1, Ex H H1 → ∀ Q, sp vs H1 Q (E σ)) : tRet (tCallS sp E ta) D σ H := h H (Ex.refl H) _ fun H1 e => k H1 e _
theorem sx_drop (h : EvA ta σ H vs) (k : ∀ H1, Ex H H1 → ∀ Q, sp vs H1 Q (E σ)) : tDrop (tCallS sp E ta) D σ H := h H (Ex.refl H) _ fun H1 e => k H1 e _
end
/-- the wish about an error of the class at C -/
def Out (C : Addr) (H : Hp) (E : XK) : Prop := ∀ H2, Ex H H2 → E (.ref C) none H2
theorem Out.mono {C : Addr} {H H1 : Hp} {E : XK} (q : Out C H E) (e : Ex H H1) : Out C H1 E := fun H2 e2 => q H2 (e.trans e2)
def sx_one (K : PySem.W.Frag) (C : Addr) : Sp := fun vs H _ E => ∃ x : V, vs = [x] ∧ GG.PrV K H x false ∧ Out C H E
def sx_two (K : PySem.W.Frag) (C : Addr) : Sp := fun vs H _ E => ∃ x t : V, vs = [x, t] ∧ GG.PrV K H x false ∧ Out C H E
def sx_taken (K : PySem.W.Frag) (C C2 : Addr) : Sp := fun vs H _ E => (∃ x t : V, vs = [x, t] ∧ GG.PrV K H x false ∧ Out C H E) ∨
  ∃ (p : Addr) (a b : Int) (t : V), vs = [.ref p, t] ∧ SqT K H p [.int a, .int b] ∧ Big a ∧ Big b ∧ TkV K a b t H ∧ Out C2 H E
def sx_pair_of (K : PySem.W.Frag) (P C : Addr) : Sp := fun vs H _ E => ∃ x c : V, vs = [x, c] ∧ H P = some (GG.tabO P) ∧ Out C H E ∧
  (RwV K H x ∨ ∃ (a : Addr) (rw : List Int), x = .ref a ∧ SqL K H a (rw.map V.int) ∧ GoodRow rw ∧ rw.length ≤ 1000 ∧ GG.AbV K H c false)
def sx_told (K : PySem.W.Frag) (P C : Addr) : Sp := fun vs H _ E => ∃ x : V, vs = [x] ∧ LsV K H x ∧ H P = some (GG.tabO P) ∧ Out C H E
section
variable {P : Program} {w : World} {K : PySem.W.Frag} {mg : Str → Option Value} {base : Heap}
theorem okX_lg (T : Txt K mg base) : FnOk P w K mg base (L2.CX P w) 4 T.lesser_and_greater.f T.lesser_and_greater.fd ["pair"] (sx_one K T.BadPair.C) := by
  refine T.lesser_and_greater.F.okX sc_lesser_and_greater (fun vs H Q E h => ?_) (fun cdv A outer s H vs Q E hr h => ?_)
  · obtain ⟨x, rfl, _⟩ := h; rfl
  · obtain ⟨x, rfl, hp, q⟩ := h
    refine ⟨_, (pss_cons (ps_if (pt_not (pt_val (pe_call (ok_is_pairV T) (hr.mono (by omega)) (by rfl) T.is_pair.g T.is_pair.F.kp T.is_pair.b .nil pass0 (pa_cons (pv 0) pa_nil)))) (pss_one (ps_raise rfl (takes_of rfl rfl rfl rfl) (pmk_own PySem.F.excBase_ValueError T.BadPair.x T.BadPair.g T.BadPair.k (raises_own T.BadPair.c.hs T.BadPair.t) (by rfl)))) pss_nil)
      (pss_cons (ps_asg (pv 0) (pg_tup rfl (pgs_cons (pg_name (i := 1) sc_lesser_and_greater.nd rfl (by first | exact .inl rfl | exact .inr rfl)) (pgs_cons (pg_name (i := 2) sc_lesser_and_greater.nd rfl (by first | exact .inl rfl | exact .inr rfl)) pgs_nil))))
      (pss_cons (ps_if (pt_cmpR op_le (pv 1) (pv 2) (nomark _)) (pss_one (ps_ret (pe_tup (pa_cons (pv 1) (pa_cons (pv 2) pa_nil))))) pss_nil)
      (pss_one (ps_ret (pe_tup (pa_cons (pv 2) (pa_cons (pv 1) pa_nil)))))))), ?_⟩
    exact q_when (b := true) (et_not (a := false) (et_B (ev_call (ea_cons (ev_var rfl) ea_nil) (spv_pairV hp)))) (fun _ H1 e1 => q H1 e1) fun z => nomatch z
theorem sx_mk {C : Addr} {x : V} {H : Hp} {E : XK} (hp : GG.PrV K H x false) (q : Out C H E) : ∀ H1, Ex H H1 → ∀ Q, sx_one K C [x] H1 Q E := fun H1 e Q => ⟨x, rfl, pr_ex e hp, q.mono e⟩
theorem okX_most (T : Txt K mg base) : FnOk P w K mg base (L2.CX P w) 5 T.most.f T.most.fd ["pair"] (sx_one K T.BadPair.C) := by
  refine T.most.F.okX sc_most (fun vs H Q E h => ?_) (fun cdv A outer s H vs Q E hr h => ?_)
  · obtain ⟨x, rfl, _⟩ := h; rfl
  · obtain ⟨x, rfl, hp, q⟩ := h
    refine ⟨_, (pss_cons (ps_asg (pe_callS (okX_lg T) (hr.mono (by omega)) (by rfl) T.lesser_and_greater.g T.lesser_and_greater.F.kp T.lesser_and_greater.b (fun σ => passAt (takes_of rfl rfl rfl rfl) σ) (pa_cons (pv 0) pa_nil)) (pg_tup rfl (pgs_cons (pg_name (i := 1) sc_most.nd rfl (by first | exact .inl rfl | exact .inr rfl)) (pgs_cons (pg_name (i := 2) sc_most.nd rfl (by first | exact .inl rfl | exact .inr rfl)) pgs_nil))))
      (pss_one (ps_ret (pe_op op_fdivW (pe_op op_sub (pv 2) pe_int) (pv 1))))), ?_⟩
    exact qx_asg (ea_cons (ev_var rfl) ea_nil) (sx_mk hp q)
theorem okX_worth (T : Txt K mg base) : FnOk P w K mg base (L2.CX P w) 5 T.worth.f T.worth.fd ["pair"] (sx_one K T.BadPair.C) := by
  refine T.worth.F.okX sc_worth (fun vs H Q E h => ?_) (fun cdv A outer s H vs Q E hr h => ?_)
  · obtain ⟨x, rfl, _⟩ := h; rfl
  · obtain ⟨x, rfl, hp, q⟩ := h
    refine ⟨_, (pss_cons (ps_asg (pe_callS (okX_lg T) (hr.mono (by omega)) (by rfl) T.lesser_and_greater.g T.lesser_and_greater.F.kp T.lesser_and_greater.b (fun σ => passAt (takes_of rfl rfl rfl rfl) σ) (pa_cons (pv 0) pa_nil)) (pg_tup rfl (pgs_cons (pg_name (i := 1) sc_worth.nd rfl (by first | exact .inl rfl | exact .inr rfl)) (pgs_cons (pg_name (i := 2) sc_worth.nd rfl (by first | exact .inl rfl | exact .inr rfl)) pgs_nil))))
      (pss_cons (ps_asg (pe_callB call_divmodW (by rfl) T.n_divmod (by decide +kernel) (pa_cons (pv 2) (pa_cons (pv 1) pa_nil))) (pg_tup rfl (pgs_cons (pg_name (i := 3) sc_worth.nd rfl (by first | exact .inl rfl | exact .inr rfl)) (pgs_cons (pg_name (i := 4) sc_worth.nd rfl (by first | exact .inl rfl | exact .inr rfl)) pgs_nil))))
      (pss_cons (ps_if (pt_cmpR op_lt (pe_op op_mulX (pv 4) (pv 2)) (pe_op op_mulX (pv 1) (pv 1)) (nomark _)) (pss_one (ps_ret (pe_op op_sub (pv 3) pe_int))) pss_nil)
      (pss_one (ps_ret (pv 3)))))), ?_⟩
    exact qx_asg (ea_cons (ev_var rfl) ea_nil) (sx_mk hp q)
theorem okX_quotients (T : Txt K mg base) : FnOk P w K mg base (L2.CX P w) 5 T.quotients.f T.quotients.fd ["pair"] (sx_one K T.BadPair.C) := by
  refine T.quotients.F.okX sc_quotients (fun vs H Q E h => ?_) (fun cdv A outer s H vs Q E hr h => ?_)
  · obtain ⟨x, rfl, _⟩ := h; rfl
  · obtain ⟨x, rfl, hp, q⟩ := h
    refine ⟨_, (pss_cons (ps_asg (pe_callS (okX_lg T) (hr.mono (by omega)) (by rfl) T.lesser_and_greater.g T.lesser_and_greater.F.kp T.lesser_and_greater.b (fun σ => passAt (takes_of rfl rfl rfl rfl) σ) (pa_cons (pv 0) pa_nil)) (pg_tup rfl (pgs_cons (pg_name (i := 1) sc_quotients.nd rfl (by first | exact .inl rfl | exact .inr rfl)) (pgs_cons (pg_name (i := 2) sc_quotients.nd rfl (by first | exact .inl rfl | exact .inr rfl)) pgs_nil))))
      (pss_cons (ps_set (i := 3) sc_quotients.nd rfl (by first | exact .inl rfl | exact .inr rfl) (pe_lst pa_nil))
      (pss_cons (ps_while (passes_of rfl) (pt_cmpR op_gt (pv 1) pe_int (nomark _)) (pss_cons (ps_asg (pe_callB call_divmodW (by rfl) T.n_divmod (by decide +kernel) (pa_cons (pv 2) (pa_cons (pv 1) pa_nil))) (pg_tup rfl (pgs_cons (pg_name (i := 4) sc_quotients.nd rfl (by first | exact .inl rfl | exact .inr rfl)) (pgs_cons (pg_name (i := 5) sc_quotients.nd rfl (by first | exact .inl rfl | exact .inr rfl)) pgs_nil))))
      (pss_cons (ps_expr (pe_bm PySem.F.plainAttrs_list PySem.F.slot_list_append PySem.F.type_list_append mt_append (pv 3) (pa_cons (pv 4) pa_nil)))
      (pss_one (ps_par (i := 1) (j := 2) rfl sc_quotients.nd rfl rfl (by decide) rfl rfl (pa_cons (pv 5) (pa_cons (pv 1) pa_nil)) rfl)))))
      (pss_one (ps_ret (pe_tup (pa_cons (pv 3) (pa_cons (pv 2) pa_nil)))))))), ?_⟩
    exact qx_asg (ea_cons (ev_var rfl) ea_nil) (sx_mk hp q)
theorem okX_shortest (T : Txt K mg base) : FnOk P w K mg base (L2.CX P w) 6 T.shortest.f T.shortest.fd ["pair"] (sx_one K T.BadPair.C) := by
  refine T.shortest.F.okX sc_shortest (fun vs H Q E h => ?_) (fun cdv A outer s H vs Q E hr h => ?_)
  · obtain ⟨x, rfl, _⟩ := h; rfl
  · obtain ⟨x, rfl, hp, q⟩ := h
    refine ⟨_, (pss_cons (ps_asg (pe_callS (okX_quotients T) (hr.mono (by omega)) (by rfl) T.quotients.g T.quotients.F.kp T.quotients.b (fun σ => passAt (takes_of rfl rfl rfl rfl) σ) (pa_cons (pv 0) pa_nil)) (pg_tup rfl (pgs_cons (pg_name (i := 1) sc_shortest.nd rfl (by first | exact .inl rfl | exact .inr rfl)) (pgs_cons (pg_name (i := 2) sc_shortest.nd rfl (by first | exact .inl rfl | exact .inr rfl)) pgs_nil))))
      (pss_cons (ps_if (pt_cmpR (op_eqD hr.units) (pv 1) (pe_lst (pa_cons pe_int pa_nil)) (nomark _)) (pss_one (ps_ret pe_int)) pss_nil)
      (pss_one (ps_ret (pe_callB call_len_seq (by rfl) T.n_len (by decide +kernel) (pa_cons (pv 1) pa_nil)))))), ?_⟩
    exact qx_asg (ea_cons (ev_var rfl) ea_nil) (sx_mk hp q)
theorem okX_longest (T : Txt K mg base) : FnOk P w K mg base (L2.CX P w) 6 T.longest.f T.longest.fd ["pair"] (sx_one K T.BadPair.C) := by
  refine T.longest.F.okX sc_longest (fun vs H Q E h => ?_) (fun cdv A outer s H vs Q E hr h => ?_)
  · obtain ⟨x, rfl, _⟩ := h; rfl
  · obtain ⟨x, rfl, hp, q⟩ := h
    refine ⟨_, (pss_cons (ps_asg (pe_callS (okX_quotients T) (hr.mono (by omega)) (by rfl) T.quotients.g T.quotients.F.kp T.quotients.b (fun σ => passAt (takes_of rfl rfl rfl rfl) σ) (pa_cons (pv 0) pa_nil)) (pg_tup rfl (pgs_cons (pg_name (i := 1) sc_longest.nd rfl (by first | exact .inl rfl | exact .inr rfl)) (pgs_cons (pg_name (i := 2) sc_longest.nd rfl (by first | exact .inl rfl | exact .inr rfl)) pgs_nil))))
      (pss_one (ps_ret (pe_op op_sub (pe_callB (cr_sum rfl) (by rfl) T.n_sum (by decide +kernel) (pa_cons (pv 1) pa_nil)) pe_int)))), ?_⟩
    exact qx_asg (ea_cons (ev_var rfl) ea_nil) (sx_mk hp q)
theorem okX_is_taking (T : Txt K mg base) : FnOk P w K mg base (L2.CX P w) 6 T.is_taking.f T.is_taking.fd ["pair", "times"] (sx_two K T.BadPair.C) := by
  refine T.is_taking.F.okX sc_is_taking (fun vs H Q E h => ?_) (fun cdv A outer s H vs Q E hr h => ?_)
  · obtain ⟨x, t, rfl, _⟩ := h; rfl
  · obtain ⟨x, t, rfl, hp, q⟩ := h
    refine ⟨_, (pss_cons (ps_set (i := 2) sc_is_taking.nd rfl (by first | exact .inl rfl | exact .inr rfl) (pe_callS (okX_most T) (hr.mono (by omega)) (by rfl) T.most.g T.most.F.kp T.most.b (fun σ => passAt (takes_of rfl rfl rfl rfl) σ) (pa_cons (pv 0) pa_nil)))
      (pss_one (ps_ret (pe_and (pe_call (ok_is_above_zero T) (hr.mono (by omega)) (by rfl) T.is_above_zero.g T.is_above_zero.F.kp T.is_above_zero.b .nil pass0 (pa_cons (pv 1) pa_nil)) (pe_one (pe_cmpR op_le (pv 1) (pv 2) (nomark _))))))), ?_⟩
    exact qx_asg (ea_cons (ev_var rfl) ea_nil) (sx_mk hp q)
theorem okX_taken (T : Txt K mg base) : FnOk P w K mg base (L2.CX P w) 7 T.taken.f T.taken.fd ["pair", "times"] (sx_taken K T.BadPair.C T.BadTaking.C) := by
  refine T.taken.F.okX sc_taken (fun vs H Q E h => ?_) (fun cdv A outer s H vs Q E hr h => ?_)
  · rcases h with ⟨x, t, rfl, _⟩ | ⟨p, a, b, t, rfl, _⟩ <;> rfl
  · rcases h with ⟨x, t, rfl, hp, q⟩ | ⟨p, a, b, t, rfl, hp, ha, hb, ht, q⟩
    · refine ⟨_, (pss_cons (ps_if (pt_not (pt_val (pe_callS (okX_is_taking T) (hr.mono (by omega)) (by rfl) T.is_taking.g T.is_taking.F.kp T.is_taking.b (fun σ => passAt (takes_of rfl rfl rfl rfl) σ) (pa_cons (pv 0) (pa_cons (pv 1) pa_nil))))) (pss_one (ps_raise rfl (takes_of rfl rfl rfl rfl) (pmk_own PySem.F.excBase_ValueError T.BadTaking.x T.BadTaking.g T.BadTaking.k (raises_own T.BadTaking.c.hs T.BadTaking.t) (by rfl)))) pss_nil)
      (pss_cons (ps_asg (pv 0) (pg_tup rfl (pgs_cons (pg_name (i := 2) sc_taken.nd rfl (by first | exact .inl rfl | exact .inr rfl)) (pgs_cons (pg_name (i := 3) sc_taken.nd rfl (by first | exact .inl rfl | exact .inr rfl)) pgs_nil))))
      (pss_cons (ps_if (pt_cmpR op_gt (pv 2) (pv 3) (nomark _)) (pss_one (ps_ret (pe_tup (pa_cons (pe_op op_sub (pv 2) (pe_op op_mulX (pv 1) (pv 3))) (pa_cons (pv 3) pa_nil))))) pss_nil)
      (pss_one (ps_ret (pe_tup (pa_cons (pv 2) (pa_cons (pe_op op_sub (pv 3) (pe_op op_mulX (pv 1) (pv 2))) pa_nil)))))))), ?_⟩
      exact qx_not (ea_cons (ev_var rfl) (ea_cons (ev_var rfl) ea_nil)) fun H1 e Q => ⟨x, t, rfl, pr_ex e hp, q.mono e⟩
    · refine ⟨_, (pss_cons (ps_if (pt_not (pt_val (pe_call (ok_is_takingB T) (hr.mono (by omega)) (by rfl) T.is_taking.g T.is_taking.F.kp T.is_taking.b .nil pass0 (pa_cons (pv 0) (pa_cons (pv 1) pa_nil))))) (pss_one (ps_raise rfl (takes_of rfl rfl rfl rfl) (pmk_own PySem.F.excBase_ValueError T.BadTaking.x T.BadTaking.g T.BadTaking.k (raises_own T.BadTaking.c.hs T.BadTaking.t) (by rfl)))) pss_nil)
      (pss_cons (ps_asg (pv 0) (pg_tup rfl (pgs_cons (pg_name (i := 2) sc_taken.nd rfl (by first | exact .inl rfl | exact .inr rfl)) (pgs_cons (pg_name (i := 3) sc_taken.nd rfl (by first | exact .inl rfl | exact .inr rfl)) pgs_nil))))
      (pss_cons (ps_if (pt_cmpR op_gt (pv 2) (pv 3) (nomark _)) (pss_one (ps_ret (pe_tup (pa_cons (pe_op op_sub (pv 2) (pe_op op_mulX (pv 1) (pv 3))) (pa_cons (pv 3) pa_nil))))) pss_nil)
      (pss_one (ps_ret (pe_tup (pa_cons (pv 2) (pa_cons (pe_op op_sub (pv 3) (pe_op op_mulX (pv 1) (pv 2))) pa_nil)))))))), ?_⟩
      exact q_when (b := true) (et_not (a := false) (et_B (ev_call (ea_cons (ev_var rfl) (ea_cons (ev_var rfl) ea_nil)) (spv_takingB hp ha hb ht)))) (fun _ H1 e1 => q H1 e1) fun z => nomatch z
theorem okX_pair_of (T : Txt K mg base) : FnOk P w K mg base (L2.CX P w) 4 T.pair_of.f T.pair_of.fd ["row", "common"] (sx_pair_of K T.z_is_row.P T.BadRow.C) := by
  refine T.pair_of.F.okX sc_pair_of (fun vs H Q E h => ?_) (fun cdv A outer s H vs Q E hr h => ?_)
  · obtain ⟨x, c, rfl, _⟩ := h; rfl
  · obtain ⟨x, c, rfl, hP, q, hx | ⟨a, rw, rfl, hS, hg, hl, hc⟩⟩ := h
    · refine ⟨_, (pss_cons (ps_if (pt_not (pt_val (pe_call (ok_is_rowB T) (hr.mono (by omega)) (by rfl) T.is_row.g T.is_row.F.kp T.is_row.b .nil pass0 (pa_cons (pv 0) pa_nil)))) (pss_one (ps_raise rfl (takes_of rfl rfl rfl rfl) (pmk_own PySem.F.excBase_ValueError T.BadRow.x T.BadRow.g T.BadRow.k (raises_own T.BadRow.c.hs T.BadRow.t) (by rfl)))) pss_nil)
      (pss_cons (ps_if (pt_not (pt_val (pe_call (ok_is_above_zero T) (hr.mono (by omega)) (by rfl) T.is_above_zero.g T.is_above_zero.F.kp T.is_above_zero.b .nil pass0 (pa_cons (pv 1) pa_nil)))) (pss_one (ps_raise rfl (takes_of rfl rfl rfl rfl) (pmk_own PySem.F.excBase_ValueError T.BadRow.x T.BadRow.g T.BadRow.k (raises_own T.BadRow.c.hs T.BadRow.t) (by rfl)))) pss_nil)
      (pss_cons (ps_par (i := 2) (j := 3) rfl sc_pair_of.nd rfl rfl (by decide) rfl rfl (pa_cons pe_int (pa_cons (pv 1) pa_nil)) rfl)
      (pss_cons (ps_for (passes_of rfl) rfl (pi_reversed (by rfl) T.n_reversed (pa_cons (pv 0) pa_nil)) (pg_name (i := 4) sc_pair_of.nd rfl (by first | exact .inl rfl | exact .inr rfl)) (pss_one (ps_par (i := 2) (j := 3) rfl sc_pair_of.nd rfl rfl (by decide) rfl rfl (pa_cons (pv 3) (pa_cons (pe_op op_add (pe_op op_mulX (pv 4) (pv 3)) (pv 2)) pa_nil)) rfl)))
      (pss_one (ps_ret (pe_tup (pa_cons (pv 3) (pa_cons (pv 2) pa_nil))))))))), ?_⟩
      exact q_when (b := true) (et_not (a := false) (et_B (ev_call (ea_cons (ev_var rfl) ea_nil) (spv_rowB hx hP)))) (fun _ H1 e1 => q H1 e1) fun z => nomatch z
    · refine ⟨_, (pss_cons (ps_if (pt_not (pt_val (pe_call (ok_is_row T) (hr.mono (by omega)) (by rfl) T.is_row.g T.is_row.F.kp T.is_row.b .nil pass0 (pa_cons (pv 0) pa_nil)))) (pss_one (ps_raise rfl (takes_of rfl rfl rfl rfl) (pmk_own PySem.F.excBase_ValueError T.BadRow.x T.BadRow.g T.BadRow.k (raises_own T.BadRow.c.hs T.BadRow.t) (by rfl)))) pss_nil)
      (pss_cons (ps_if (pt_not (pt_val (pe_call (ok_is_aboveV T) (hr.mono (by omega)) (by rfl) T.is_above_zero.g T.is_above_zero.F.kp T.is_above_zero.b .nil pass0 (pa_cons (pv 1) pa_nil)))) (pss_one (ps_raise rfl (takes_of rfl rfl rfl rfl) (pmk_own PySem.F.excBase_ValueError T.BadRow.x T.BadRow.g T.BadRow.k (raises_own T.BadRow.c.hs T.BadRow.t) (by rfl)))) pss_nil)
      (pss_cons (ps_par (i := 2) (j := 3) rfl sc_pair_of.nd rfl rfl (by decide) rfl rfl (pa_cons pe_int (pa_cons (pv 1) pa_nil)) rfl)
      (pss_cons (ps_for (passes_of rfl) rfl (pi_reversed (by rfl) T.n_reversed (pa_cons (pv 0) pa_nil)) (pg_name (i := 4) sc_pair_of.nd rfl (by first | exact .inl rfl | exact .inr rfl)) (pss_one (ps_par (i := 2) (j := 3) rfl sc_pair_of.nd rfl rfl (by decide) rfl rfl (pa_cons (pv 3) (pa_cons (pe_op op_add (pe_op op_mulX (pv 4) (pv 3)) (pv 2)) pa_nil)) rfl)))
      (pss_one (ps_ret (pe_tup (pa_cons (pv 3) (pa_cons (pv 2) pa_nil))))))))), ?_⟩
      refine q_when (b := false) (et_not (a := true) (et_B (ev_call (ea_cons (ev_var rfl) ea_nil) (spv_is_row hS hg hl hP)))) (fun z => nomatch z) fun _ H0 e0 => ?_
      exact q_when (b := true) (et_not (a := false) (et_B (ev_call (ea_cons (ev_var rfl) ea_nil) (spv_aboveV (ab_ex e0 hc))))) (fun _ H1 e1 => q H1 (e0.trans e1)) fun z => nomatch z
theorem okX_told (T : Txt K mg base) : FnOk P w K mg base (L2.CX P w) 9 T.told.f T.told.fd ["pairs"] (sx_told K T.z_is_list_of_pairs.P T.BadPairs.C) := by
  refine T.told.F.okX sc_told (fun vs H Q E h => ?_) (fun cdv A outer s H vs Q E hr h => ?_)
  · obtain ⟨x, rfl, _⟩ := h; rfl
  · obtain ⟨x, rfl, hx, hP, q⟩ := h
    refine ⟨_, (pss_cons (ps_if (pt_not (pt_val (pe_call (ok_is_listB T) (hr.mono (by omega)) (by rfl) T.is_list_of_pairs.g T.is_list_of_pairs.F.kp T.is_list_of_pairs.b .nil pass0 (pa_cons (pv 0) pa_nil)))) (pss_one (ps_raise rfl (takes_of rfl rfl rfl rfl) (pmk_own PySem.F.excBase_ValueError T.BadPairs.x T.BadPairs.g T.BadPairs.k (raises_own T.BadPairs.c.hs T.BadPairs.t) (by rfl)))) pss_nil)
      (pss_cons (ps_setLc (i := 1) (own := [("pair", 6)]) (g := gName 6) (tt := tYes) rfl sc_told.nd rfl rfl (sw_true rfl rfl rfl (by decide +kernel)) (pi_list (pv 0)) (blkOk_by (own := [("pair", 6)]) (N := ["pairs", "worths", "together", "at", "own", "wanted", "pair"]) (sc := defScope s_told) (by decide +kernel)) (fun _ _ _ _ _ => pg_name (i := 6) sc_told.nd rfl (Or.inl rfl)) (fun _ _ _ _ _ => pts_nil) (fun _ _ _ _ _ => (pe_call (ok_worth T) (hr.mono (by omega)) (by rfl) T.worth.g T.worth.F.kp T.worth.b .nil pass0 (pa_cons (pv 6) pa_nil))))
      (pss_cons (ps_set (i := 2) sc_told.nd rfl (by first | exact .inl rfl | exact .inr rfl) (pe_call (ok_all_together T) (hr.mono (by omega)) (by rfl) T.all_together.g T.all_together.F.kp T.all_together.b .nil pass0 (pa_cons (pv 1) pa_nil)))
      (pss_cons (ps_for (passes_of rfl) rfl (pi_enum (by rfl) T.n_enumerate (pa_cons (pv 1) pa_nil)) (pg_tup rfl (pgs_cons (pg_name (i := 3) sc_told.nd rfl (by first | exact .inl rfl | exact .inr rfl)) (pgs_cons (pg_name (i := 4) sc_told.nd rfl (by first | exact .inl rfl | exact .inr rfl)) pgs_nil))) (pss_cons (ps_set (i := 5) sc_told.nd rfl (by first | exact .inl rfl | exact .inr rfl) (pe_op op_xor (pv 4) (pv 2)))
      (pss_one (ps_if (pt_cmpR op_lt (pv 5) (pv 4) (nomark _)) (pss_one (ps_ret (pe_make T.mk_Won (ok_Won_init T) (hr.mono (by omega)) (by rfl) T.Won.g T.Won_init.b .nil pass0 (pa_cons (pv 3) (pa_cons (pe_call (ok_taking_to_worth T) (hr.mono (by omega)) (by rfl) T.taking_to_worth.g T.taking_to_worth.F.kp T.taking_to_worth.b .nil pass0 (pa_cons (pe_ix ix_list (pv 0) (pv 3) (fun _ _ => rfl)) (pa_cons (pv 5) pa_nil))) pa_nil))))) pss_nil))))
      (pss_one (ps_ret (pe_makeO T.mk_Lost (by rfl) T.Lost.g))))))), ?_⟩
    exact q_when (b := true) (et_not (a := false) (et_B (ev_call (ea_cons (ev_var rfl) ea_nil) (spv_listB hx hP)))) (fun _ H1 e1 => q H1 e1) fun z => nomatch z
end
end Mt

set_option Elab.async false
set_option linter.all false
set_option maxRecDepth 100000
set_option maxHeartbeats 4000000
set_option exponentiation.threshold 300
namespace Mt
open PySem PySem.Spec PyProof.Rows L2 Evl KM KR
/-! ### what is handed in wrongly -/
abbrev BP (K : PySem.W.Frag) : V → Hp → Prop := fun v H => GG.PrV K H v false
abbrev BA (K : PySem.W.Frag) : V → Hp → Prop := fun v H => GG.AbV K H v false
abbrev BR (K : PySem.W.Frag) : V → Hp → Prop := fun v H => RwV K H v
abbrev BL (K : PySem.W.Frag) : V → Hp → Prop := fun v H => LsV K H v
theorem st_BP {K : PySem.W.Frag} : Stable (BP K) := fun _ _ _ e h => pr_ex e h
theorem st_BA {K : PySem.W.Frag} : Stable (BA K) := fun _ _ _ e h => ab_ex e h
theorem st_BR {K : PySem.W.Frag} : Stable (BR K) := fun _ _ _ e h => rw_ex e h
theorem st_BL {K : PySem.W.Frag} : Stable (BL K) := fun _ _ _ e h => ls_ex e h
section
variable {K : PySem.W.Frag} {σ : L2.St} {H H' : Hp} {ta tb te : TE} {x y z v : V} {B B2 : V → Hp → Prop}
theorem pr2l {p : Addr} {b2 : Bool} (h : SqT K H p [x, y]) (h1 : GG.AbV K H x false) (h2 : GG.AbV K H y b2) : BP K (.ref p) H := pr_two h h1 h2
theorem pr2r {p : Addr} {b1 : Bool} (h : SqT K H p [x, y]) (h1 : GG.AbV K H x b1) (h2 : GG.AbV K H y false) : BP K (.ref p) H := by
  have := pr_two h h1 h2
  rwa [Bool.and_false] at this
theorem es_prl {b2 : Bool} (h : EvS ta σ H (BA K)) (hb : Ev tb σ H y) (hy : ∀ H1, Ex H H1 → GG.AbV K H1 y b2) : EvS (tTup (tCons ta (tCons tb tNil))) σ H (BP K) := fun H1 e Q q =>
  h H1 e _ fun v H2 e2 hv => hb H2 (e.trans e2) _ fun H3 e3 => ⟨sz_of (Nat.le_of_ble_eq_true rfl), fun p hp => q _ _ ((e2.trans e3).trans (Ex.new hp)) (pr2l (st_of upd_same) (ab_ex (e3.trans (Ex.new hp)) hv) (hy _ (((e.trans e2).trans e3).trans (Ex.new hp))))⟩
theorem es_prr {b1 : Bool} (ha : Ev ta σ H x) (hx : ∀ H1, Ex H H1 → GG.AbV K H1 x b1) (h : EvS tb σ H (BA K)) : EvS (tTup (tCons ta (tCons tb tNil))) σ H (BP K) := fun H1 e Q q =>
  ha H1 e _ fun H2 e2 => h H2 (e.trans e2) _ fun v H3 e3 hv => ⟨sz_of (Nat.le_of_ble_eq_true rfl), fun p hp => q _ _ ((e2.trans e3).trans (Ex.new hp)) (pr2r (st_of upd_same) (hx _ (((e.trans e2).trans e3).trans (Ex.new hp))) (ab_ex (Ex.new hp) hv))⟩
/-- a list of one, of two; a tuple of one; one again and again -/
theorem es_lst1 (st : Stable B) (h : EvS te σ H B) : EvS (tLst (tCons te tNil)) σ H (fun v H' => ∃ a x, v = .ref a ∧ H' a = some (.lst [x]) ∧ B x H') := fun H1 e Q q =>
  h H1 e _ fun v H2 e2 hv => ⟨sz_of (Nat.le_of_ble_eq_true rfl), fun p hp => q _ _ (e2.trans (Ex.new hp)) ⟨p, v, rfl, upd_same, st _ _ _ (Ex.new hp) hv⟩⟩
theorem es_lst2 (st : Stable B) (st2 : Stable B2) (h : EvS ta σ H B) (h2 : EvS tb σ H B2) : EvS (tLst (tCons ta (tCons tb tNil))) σ H (fun v H' => ∃ a x y, v = .ref a ∧ H' a = some (.lst [x, y]) ∧ B x H' ∧ B2 y H') := fun H1 e Q q =>
  h H1 e _ fun v H2 e2 hv => h2 H2 (e.trans e2) _ fun u H3 e3 hu => ⟨sz_of (Nat.le_of_ble_eq_true rfl), fun p hp => q _ _ ((e2.trans e3).trans (Ex.new hp)) ⟨p, v, u, rfl, upd_same, st _ _ _ (e3.trans (Ex.new hp)) hv, st2 _ _ _ (Ex.new hp) hu⟩⟩
theorem es_tup1 (h : EvS te σ H B) : EvS (tTup (tCons te tNil)) σ H (fun v H' => ∃ a xs, v = .ref a ∧ H' a = some (.tup xs)) := fun H1 e Q q =>
  h H1 e _ fun v H2 e2 hv => ⟨sz_of (Nat.le_of_ble_eq_true rfl), fun p hp => q _ _ (e2.trans (Ex.new hp)) ⟨p, [v], rfl, upd_same⟩⟩
theorem flat1 (k : Nat) (x : V) : (List.replicate k [x]).flatten = List.replicate k x := by
  induction k with
  | zero => rfl
  | succ k ih => rw [List.replicate_succ, List.flatten_cons, ih, List.replicate_succ]; rfl
theorem es_rep1 {k : Int} (st : Stable B) (h : EvS te σ H B) (hb : Ev tb σ H (.int k)) (h0 : 0 ≤ k) (h1 : k ≤ 1000) : EvS (tOp rRep (tLst (tCons te tNil)) tb) σ H (fun v H' => ∃ a x, v = .ref a ∧ H' a = some (.lst (List.replicate k.toNat x)) ∧ B x H') := fun H1 e Q q =>
  es_lst1 st h H1 e _ fun v H2 e2 hv => hb H2 (e.trans e2) _ fun H3 e3 => by
    obtain ⟨a, x, rfl, ha, hx⟩ := hv
    refine ⟨a, k, [x], rfl, rfl, e3 a _ ha, by omega, by omega, sz_of (by show 1 * k.toNat ≤ _; omega), fun p hp => q _ _ ((e2.trans e3).trans (Ex.new hp)) ⟨p, x, rfl, ?_, st _ _ _ (e3.trans (Ex.new hp)) hx⟩⟩
    rw [upd_same, flat1]
/-- rows -/
theorem rw_list {a : Addr} {xs : List V} {bs : List Bool} (h : SqL K H a xs) (h0 : 1 ≤ xs.length) (h1 : xs.length ≤ 1000) (hp : Paired (GG.AbV K H) xs bs) (hb : bs.all id = false) : BR K (.ref a) H := .inr ⟨a, xs, rfl, h, .inr (.inr (.inl ⟨h0, h1, bs, hp, hb⟩))⟩
theorem rw_last {a : Addr} {xs : List V} {bs : List Bool} (h : SqL K H a xs) (h0 : 2 ≤ xs.length) (h1 : xs.length ≤ 1000) (hp : Paired (GG.AbV K H) xs bs) (hb : bs.all id = true) (hl : atI xs (-1) = some (.int 1)) : BR K (.ref a) H := .inr ⟨a, xs, rfl, h, .inr (.inr (.inr ⟨h0, h1, bs, hp, hb, hl⟩))⟩
theorem rw_ty {T : String} (t : TyX K H x (.type T)) (k : kitB T "list" = some false) : BR K x H := .inl ⟨T, t, k⟩
theorem ls_ty {T : String} (t : TyX K H x (.type T)) (k : kitB T "list" = some false) : BL K x H := .inl ⟨T, t, k⟩
theorem ls_list {a : Addr} {xs : List V} {bs : List Bool} (h : SqL K H a xs) (h1 : xs.length ≤ 100) (hp : Paired (GG.PrV K H) xs bs) (hb : bs.all id = false) : BL K (.ref a) H := .inr ⟨a, xs, rfl, h, .inr ⟨h1, bs, hp, hb⟩⟩
end
def sp_l_bad_pair (K : PySem.W.Frag) : Sp := fun vs H Q _ => ∃ w m : Int, vs = [.int w, .int m] ∧ 0 ≤ m ∧ ∀ v H2, Ex H H2 → BP K v H2 → Q v H2
def sp_l_bad_row (K : PySem.W.Frag) : Sp := fun vs H Q _ => ∃ w m : Int, vs = [.int w, .int m] ∧ 0 ≤ m ∧ ∀ v H2, Ex H H2 → BR K v H2 → Q v H2
def sx_with (K : PySem.W.Frag) (C : Addr) : Sp := fun vs H _ E => ∃ (d : Int) (x : V), vs = [.int d, x] ∧ GG.PrV K H x false ∧ Out C H E
section
variable {P : Program} {w : World} {K : PySem.W.Frag} {mg : Str → Option Value} {base : Heap}
theorem ok_l_bad_pair (T : Txt K mg base) : FnOk P w K mg base CX0 1 T.l_bad_pair.f T.l_bad_pair.fd ["_law_which", "_law_more"] (sp_l_bad_pair K) := by
  refine T.l_bad_pair.F.ok sc_l_bad_pair (fun vs H Q E h => ?_) (fun cdv A outer s H vs Q E hr h => ?_)
  · obtain ⟨x, m, rfl, _⟩ := h; rfl
  · obtain ⟨x, m, rfl, hm, q⟩ := h
    refine ⟨_, (pss_cons (ps_set (i := 2) sc_l_bad_pair.nd rfl (by first | exact .inl rfl | exact .inr rfl) (pe_lst (pa_cons pe_non (pa_cons (pe_tup pa_nil) (pa_cons (pe_tup (pa_cons pe_int pa_nil)) (pa_cons (pe_tup (pa_cons pe_int (pa_cons pe_int (pa_cons pe_int pa_nil)))) (pa_cons (pe_lst (pa_cons pe_int (pa_cons pe_int pa_nil))) (pa_cons pe_str (pa_cons pe_int (pa_cons pe_dnewT (pa_cons (pe_tup (pa_cons pe_int (pa_cons pe_int pa_nil))) (pa_cons (pe_tup (pa_cons pe_int (pa_cons pe_int pa_nil))) (pa_cons (pe_tup (pa_cons (pe_op op_sub (pe_un un_neg pe_int) (pv 1)) (pa_cons pe_int pa_nil))) (pa_cons (pe_tup (pa_cons pe_int (pa_cons (pe_op op_sub (pe_un un_neg pe_int) (pv 1)) pa_nil))) pa_nil))))))))))))))
      (pss_cons (ps_set (i := 2) sc_l_bad_pair.nd rfl (by first | exact .inl rfl | exact .inr rfl) (pe_op op_cat (pv 2) (pe_lst (pa_cons (pe_tup (pa_cons pe_non (pa_cons pe_int pa_nil))) (pa_cons (pe_tup (pa_cons pe_int (pa_cons pe_str pa_nil))) (pa_cons (pe_tup (pa_cons pe_bl (pa_cons pe_int pa_nil))) (pa_cons (pe_tup (pa_cons pe_int (pa_cons pe_bl pa_nil))) (pa_cons (pe_tup (pa_cons pe_bl (pa_cons pe_int pa_nil))) (pa_cons (pe_tup (pa_cons (pe_lst (pa_cons pe_int pa_nil)) (pa_cons pe_int pa_nil))) (pa_cons (pe_tup (pa_cons pe_int (pa_cons (pe_tup (pa_cons pe_int pa_nil)) pa_nil))) (pa_cons (pe_tup (pa_cons (pv 1) (pa_cons pe_int pa_nil))) pa_nil)))))))))))
      (pss_one (ps_ret (pe_ix ix_list (pv 2) (pe_op op_mod (pv 0) pe_int) (fun _ _ => rfl)))))), ?_⟩
    refine q_asgS (es_lstB (n := 12) (st_BP (K := K))
      (evb_cons (st_BP (K := K)) (es_v ev_c fun _ _ => pr_non)
      (evb_cons (st_BP (K := K)) (es_u (eu_tup ea_nil (Nat.le_of_ble_eq_true rfl)) fun p H1 e h => pr_len (st_of h) (by simp))
      (evb_cons (st_BP (K := K)) (es_u (eu_tup (ea_cons ev_c ea_nil) (Nat.le_of_ble_eq_true rfl)) fun p H1 e h => pr_len (st_of h) (by simp))
      (evb_cons (st_BP (K := K)) (es_u (eu_tup (ea_cons ev_c (ea_cons ev_c (ea_cons ev_c ea_nil))) (Nat.le_of_ble_eq_true rfl)) fun p H1 e h => pr_len (st_of h) (by simp))
      (evb_cons (st_BP (K := K)) (es_l (el_lst (ea_cons ev_c (ea_cons ev_c ea_nil)) (Nat.le_of_ble_eq_true rfl)) fun p H1 e h => pr_lst (sq_of h))
      (evb_cons (st_BP (K := K)) (es_v ev_c fun _ _ => pr_str _)
      (evb_cons (st_BP (K := K)) (es_v ev_c fun _ _ => pr_int _)
      (evb_cons (st_BP (K := K)) (es_dT fun p H1 e h => pr_dT h)
      (evb_cons (st_BP (K := K)) (es_u (eu_tup (ea_cons ev_c (ea_cons ev_c ea_nil)) (Nat.le_of_ble_eq_true rfl)) fun p H1 e h => pr2l (st_of h) (ab_neg (by decide)) (ab_int _))
      (evb_cons (st_BP (K := K)) (es_u (eu_tup (ea_cons ev_c (ea_cons ev_c ea_nil)) (Nat.le_of_ble_eq_true rfl)) fun p H1 e h => pr2r (st_of h) (ab_int _) (ab_neg (by decide)))
      (evb_cons (st_BP (K := K)) (es_u (eu_tup (ea_cons (ev_op (ev_un ev_c ru_neg) (ev_var rfl) rv_I0) (ea_cons ev_c ea_nil)) (Nat.le_of_ble_eq_true rfl)) fun p H1 e h => pr2l (st_of h) (ab_neg (by omega)) (ab_int _))
      (evb_cons (st_BP (K := K)) (es_u (eu_tup (ea_cons ev_c (ea_cons (ev_op (ev_un ev_c ru_neg) (ev_var rfl) rv_I0) ea_nil)) (Nat.le_of_ble_eq_true rfl)) fun p H1 e h => pr2r (st_of h) (ab_int _) (ab_neg (by omega)))
      evb_nil)))))))))))) (by decide)) fun v H1 e1 h1 => ?_
    refine q_asgS (es_catB (n := 12) (m := 8) (st_BP (K := K)) (es_v (ev_var rfl) fun H2 e2 => stable_B (st_BP (K := K)) _ _ _ e2 h1) (es_lstB (n := 8) (st_BP (K := K))
      (evb_cons (st_BP (K := K)) (es_u (eu_tup (ea_cons ev_c (ea_cons ev_c ea_nil)) (Nat.le_of_ble_eq_true rfl)) fun p H1 e h => pr2l (st_of h) ab_non (ab_int _))
      (evb_cons (st_BP (K := K)) (es_u (eu_tup (ea_cons ev_c (ea_cons ev_c ea_nil)) (Nat.le_of_ble_eq_true rfl)) fun p H1 e h => pr2r (st_of h) (ab_int _) (ab_str _))
      (evb_cons (st_BP (K := K)) (es_u (eu_tup (ea_cons ev_c (ea_cons ev_c ea_nil)) (Nat.le_of_ble_eq_true rfl)) fun p H1 e h => pr2l (st_of h) (ab_bl _) (ab_int _))
      (evb_cons (st_BP (K := K)) (es_u (eu_tup (ea_cons ev_c (ea_cons ev_c ea_nil)) (Nat.le_of_ble_eq_true rfl)) fun p H1 e h => pr2r (st_of h) (ab_int _) (ab_bl _))
      (evb_cons (st_BP (K := K)) (es_u (eu_tup (ea_cons ev_c (ea_cons ev_c ea_nil)) (Nat.le_of_ble_eq_true rfl)) fun p H1 e h => pr2l (st_of h) (ab_bl _) (ab_int _))
      (evb_cons (st_BP (K := K)) (es_prl (es_l (el_lst (ea_cons ev_c ea_nil) (Nat.le_of_ble_eq_true rfl)) fun p H1 e h => ab_lst (sq_of h)) ev_c fun _ _ => ab_int _)
      (evb_cons (st_BP (K := K)) (es_prr ev_c (fun _ _ => ab_int _) (es_u (eu_tup (ea_cons ev_c ea_nil) (Nat.le_of_ble_eq_true rfl)) fun p H1 e h => ab_tup (st_of h)))
      (evb_cons (st_BP (K := K)) (es_u (eu_tup (ea_cons (ev_var rfl) (ea_cons ev_c ea_nil)) (Nat.le_of_ble_eq_true rfl)) fun p H1 e h => pr2r (st_of h) (ab_int _) (ab_neg (by decide)))
      evb_nil)))))))) (by decide)) (by decide)) fun v2 H2 e2 h2 => ?_
    have i0 := Int.emod_nonneg x (show (20 : Int) ≠ 0 by decide)
    have i1 := Int.emod_lt_of_pos x (show (0 : Int) < 20 by decide)
    exact s_retS (es_ixB (n := 20) (i := x % 20) (st_BP (K := K)) (es_v (ev_var rfl) fun H3 e3 => stable_B (st_BP (K := K)) _ _ _ e3 h2) (fun H3 e3 => ev_op (ev_var rfl) ev_c (rv_I (by decide))) i0 (by omega)) fun v H3 e3 h3 => q v H3 ((e1.trans e2).trans e3) h3
theorem sps_bad_pair {x m : Int} {H : Hp} (hm : 0 ≤ m) : SpS (sp_l_bad_pair K) [.int x, .int m] H (BP K) := fun H1 e Q q E => ⟨x, m, rfl, hm, q⟩
theorem ok_l_bad_row (T : Txt K mg base) : FnOk P w K mg base CX0 1 T.l_bad_row.f T.l_bad_row.fd ["_law_which", "_law_more"] (sp_l_bad_row K) := by
  refine T.l_bad_row.F.ok sc_l_bad_row (fun vs H Q E h => ?_) (fun cdv A outer s H vs Q E hr h => ?_)
  · obtain ⟨x, m, rfl, _⟩ := h; rfl
  · obtain ⟨x, m, rfl, hm, q⟩ := h
    refine ⟨_, (pss_cons (ps_set (i := 2) sc_l_bad_row.nd rfl (by first | exact .inl rfl | exact .inr rfl) (pe_lst (pa_cons pe_non (pa_cons (pe_tup (pa_cons pe_int (pa_cons pe_int pa_nil))) (pa_cons pe_str (pa_cons pe_dnewT (pa_cons pe_int (pa_cons (pe_lst pa_nil) (pa_cons (pe_lst (pa_cons pe_int (pa_cons pe_int pa_nil))) (pa_cons (pe_lst (pa_cons pe_int (pa_cons pe_int pa_nil))) (pa_cons (pe_lst (pa_cons pe_int pa_nil)) (pa_cons (pe_lst (pa_cons pe_int (pa_cons pe_int (pa_cons pe_int pa_nil)))) (pa_cons (pe_lst (pa_cons pe_int (pa_cons (pe_op op_sub (pe_un un_neg pe_int) (pv 1)) (pa_cons pe_int pa_nil)))) (pa_cons (pe_op op_cat (pe_op op_rep (pe_lst (pa_cons pe_int pa_nil)) pe_int) (pe_lst (pa_cons pe_int pa_nil))) pa_nil))))))))))))))
      (pss_one (ps_ret (pe_ix ix_list (pe_op op_cat (pv 2) (pe_lst (pa_cons (pe_lst (pa_cons pe_non pa_nil)) (pa_cons (pe_lst (pa_cons pe_str pa_nil)) (pa_cons (pe_lst (pa_cons pe_bl pa_nil)) (pa_cons (pe_lst (pa_cons pe_int (pa_cons pe_bl (pa_cons pe_int pa_nil)))) (pa_cons (pe_lst (pa_cons (pe_lst (pa_cons pe_int pa_nil)) pa_nil)) pa_nil))))))) (pe_op op_mod (pv 0) pe_int) (fun _ _ => rfl))))), ?_⟩
    refine q_asgS (es_lstB (n := 12) (st_BR (K := K))
      (evb_cons (st_BR (K := K)) (es_v ev_c fun _ _ => rw_ty (.base .non) (by decide +kernel))
      (evb_cons (st_BR (K := K)) (es_u (eu_tup (ea_cons ev_c (ea_cons ev_c ea_nil)) (Nat.le_of_ble_eq_true rfl)) fun p H1 e h => rw_ty (ty_tup (st_of h)) (by decide +kernel))
      (evb_cons (st_BR (K := K)) (es_v ev_c fun _ _ => rw_ty (.base (.str _)) (by decide +kernel))
      (evb_cons (st_BR (K := K)) (es_dT fun p H1 e h => rw_ty (.base (.dT h)) (by decide +kernel))
      (evb_cons (st_BR (K := K)) (es_v ev_c fun _ _ => rw_ty (.base (.int _)) (by decide +kernel))
      (evb_cons (st_BR (K := K)) (es_l (el_lst ea_nil (Nat.le_of_ble_eq_true rfl)) fun p H1 e h => .inr ⟨p, _, rfl, sq_of h, .inl rfl⟩)
      (evb_cons (st_BR (K := K)) (es_l (el_lst (ea_cons ev_c (ea_cons ev_c ea_nil)) (Nat.le_of_ble_eq_true rfl)) fun p H1 e h => rw_last (sq_of h) (Nat.le_of_ble_eq_true rfl) (Nat.le_of_ble_eq_true rfl) (.cons (ab_int _) (.cons (ab_int _) .nil)) rfl rfl)
      (evb_cons (st_BR (K := K)) (es_l (el_lst (ea_cons ev_c (ea_cons ev_c ea_nil)) (Nat.le_of_ble_eq_true rfl)) fun p H1 e h => rw_last (sq_of h) (Nat.le_of_ble_eq_true rfl) (Nat.le_of_ble_eq_true rfl) (.cons (ab_int _) (.cons (ab_int _) .nil)) rfl rfl)
      (evb_cons (st_BR (K := K)) (es_l (el_lst (ea_cons ev_c ea_nil) (Nat.le_of_ble_eq_true rfl)) fun p H1 e h => rw_list (sq_of h) (Nat.le_of_ble_eq_true rfl) (Nat.le_of_ble_eq_true rfl) (.cons (ab_int _) .nil) rfl)
      (evb_cons (st_BR (K := K)) (es_l (el_lst (ea_cons ev_c (ea_cons ev_c (ea_cons ev_c ea_nil))) (Nat.le_of_ble_eq_true rfl)) fun p H1 e h => rw_list (sq_of h) (Nat.le_of_ble_eq_true rfl) (Nat.le_of_ble_eq_true rfl) (.cons (ab_int _) (.cons (ab_int _) (.cons (ab_int _) .nil))) rfl)
      (evb_cons (st_BR (K := K)) (es_l (el_lst (ea_cons ev_c (ea_cons (ev_op (ev_un ev_c ru_neg) (ev_var rfl) rv_I0) (ea_cons ev_c ea_nil))) (Nat.le_of_ble_eq_true rfl)) fun p H1 e h => rw_list (sq_of h) (Nat.le_of_ble_eq_true rfl) (Nat.le_of_ble_eq_true rfl) (.cons (ab_int _) (.cons (ab_neg (by omega)) (.cons (ab_int _) .nil))) rfl)
      (evb_cons (st_BR (K := K)) (es_l (el_cat (el_rep (k := 1000) (el_lst (ea_cons ev_c ea_nil) (Nat.le_of_ble_eq_true rfl)) ev_c (by decide) (by decide) (by show 1 * 1000 ≤ 100000; decide)) (el_lst (ea_cons ev_c ea_nil) (Nat.le_of_ble_eq_true rfl)) (by rw [flat1, List.length_replicate]; show 1000 + 1 ≤ 100000; decide))
        fun p H1 e h => .inr ⟨p, _, rfl, sq_of h, .inr (.inl (by rw [List.length_append, flat1, List.length_replicate]; show 1000 < 1000 + 1; decide))⟩)
      evb_nil)))))))))))) (by decide)) fun v H1 e1 h1 => ?_
    have i0 := Int.emod_nonneg x (show (17 : Int) ≠ 0 by decide)
    have i1 := Int.emod_lt_of_pos x (show (0 : Int) < 17 by decide)
    exact s_retS (es_ixB (n := 17) (i := x % 17) (st_BR (K := K)) (es_catB (n := 12) (m := 5) (st_BR (K := K)) (es_v (ev_var rfl) fun H2 e2 => stable_B (st_BR (K := K)) _ _ _ e2 h1) (es_lstB (n := 5) (st_BR (K := K))
      (evb_cons (st_BR (K := K)) (es_l (el_lst (ea_cons ev_c ea_nil) (Nat.le_of_ble_eq_true rfl)) fun p H1 e h => rw_list (sq_of h) (Nat.le_of_ble_eq_true rfl) (Nat.le_of_ble_eq_true rfl) (.cons ab_non .nil) rfl)
      (evb_cons (st_BR (K := K)) (es_l (el_lst (ea_cons ev_c ea_nil) (Nat.le_of_ble_eq_true rfl)) fun p H1 e h => rw_list (sq_of h) (Nat.le_of_ble_eq_true rfl) (Nat.le_of_ble_eq_true rfl) (.cons (ab_str _) .nil) rfl)
      (evb_cons (st_BR (K := K)) (es_l (el_lst (ea_cons ev_c ea_nil) (Nat.le_of_ble_eq_true rfl)) fun p H1 e h => rw_list (sq_of h) (Nat.le_of_ble_eq_true rfl) (Nat.le_of_ble_eq_true rfl) (.cons (ab_bl _) .nil) rfl)
      (evb_cons (st_BR (K := K)) (es_l (el_lst (ea_cons ev_c (ea_cons ev_c (ea_cons ev_c ea_nil))) (Nat.le_of_ble_eq_true rfl)) fun p H1 e h => rw_list (sq_of h) (Nat.le_of_ble_eq_true rfl) (Nat.le_of_ble_eq_true rfl) (.cons (ab_int _) (.cons (ab_bl _) (.cons (ab_int _) .nil))) rfl)
      (evb_cons (st_BR (K := K)) (es_imp (es_lst1 (st_BA (K := K)) (es_l (el_lst (ea_cons ev_c ea_nil) (Nat.le_of_ble_eq_true rfl)) fun p H1 e h => ab_lst (sq_of h))) fun v H1 e ⟨a, y, e1, h, hy⟩ => by rw [e1]; exact rw_list (sq_of h) (Nat.le_of_ble_eq_true rfl) (Nat.le_of_ble_eq_true rfl) (.cons hy .nil) rfl)
      evb_nil))))) (by decide)) (by decide)) (fun H3 e3 => ev_op (ev_var rfl) ev_c (rv_I (by decide))) i0 (by omega)) fun v H3 e3 h3 => q v H3 (e1.trans e3) h3
theorem sps_bad_row {x m : Int} {H : Hp} (hm : 0 ≤ m) : SpS (sp_l_bad_row K) [.int x, .int m] H (BR K) := fun H1 e Q q E => ⟨x, m, rfl, hm, q⟩
theorem okX_with (T : Txt K mg base) : FnOk P w K mg base (L2.CX P w) 8 T.l_with_pair.f T.l_with_pair.fd ["_law_door", "_law_pair"] (sx_with K T.BadPair.C) := by
  refine T.l_with_pair.F.okX sc_l_with_pair (fun vs H Q E h => ?_) (fun cdv A outer s H vs Q E hr h => ?_)
  · obtain ⟨d, x, rfl, _⟩ := h; rfl
  · obtain ⟨d, x, rfl, hp, q⟩ := h
    refine ⟨_, (pss_cons (ps_if (pt_cmpR op_lt (pv 0) pe_int (nomark _)) (pss_one (ps_ret (pe_ifExp (pt_cmpR op_eq (pv 0) pe_int (nomark _)) (pe_callS (okX_most T) (hr.mono (by omega)) (by rfl) T.most.g T.most.F.kp T.most.b (fun σ => passAt (takes_of rfl rfl rfl rfl) σ) (pa_cons (pv 1) pa_nil)) (pe_ifExp (pt_cmpR op_eq (pv 0) pe_int (nomark _)) (pe_callS (okX_worth T) (hr.mono (by omega)) (by rfl) T.worth.g T.worth.F.kp T.worth.b (fun σ => passAt (takes_of rfl rfl rfl rfl) σ) (pa_cons (pv 1) pa_nil)) (pe_callS (okX_taken T) (hr.mono (by omega)) (by rfl) T.taken.g T.taken.F.kp T.taken.b (fun σ => passAt (takes_of rfl rfl rfl rfl) σ) (pa_cons (pv 1) (pa_cons pe_int pa_nil))))))) pss_nil)
      (pss_one (ps_ret (pe_ifExp (pt_cmpR op_eq (pv 0) pe_int (nomark _)) (pe_callS (okX_quotients T) (hr.mono (by omega)) (by rfl) T.quotients.g T.quotients.F.kp T.quotients.b (fun σ => passAt (takes_of rfl rfl rfl rfl) σ) (pa_cons (pv 1) pa_nil)) (pe_ifExp (pt_cmpR op_eq (pv 0) pe_int (nomark _)) (pe_callS (okX_shortest T) (hr.mono (by omega)) (by rfl) T.shortest.g T.shortest.F.kp T.shortest.b (fun σ => passAt (takes_of rfl rfl rfl rfl) σ) (pa_cons (pv 1) pa_nil)) (pe_callS (okX_longest T) (hr.mono (by omega)) (by rfl) T.longest.g T.longest.F.kp T.longest.b (fun σ => passAt (takes_of rfl rfl rfl rfl) σ) (pa_cons (pv 1) pa_nil))))))), ?_⟩
    refine q_when (et_test (ev_op (ev_var rfl) ev_c rv_I0)) (fun _ H1 e1 => ?_) fun _ H1 e1 => ?_
    · refine s_retIf (et_test (ev_op (ev_var rfl) ev_c (rv_eq rfl))) (fun _ H2 e2 => sx_ret (ea_cons (ev_var rfl) ea_nil) (sx_mk (pr_ex (e1.trans e2) hp) (q.mono (e1.trans e2)))) fun _ H2 e2 => ?_
      refine s_retIf (et_test (ev_op (ev_var rfl) ev_c (rv_eq rfl))) (fun _ H3 e3 => sx_ret (ea_cons (ev_var rfl) ea_nil) (sx_mk (pr_ex ((e1.trans e2).trans e3) hp) (q.mono ((e1.trans e2).trans e3)))) fun _ H3 e3 => ?_
      exact sx_ret (ea_cons (ev_var rfl) (ea_cons ev_c ea_nil)) fun H4 e4 Q => .inl ⟨x, _, rfl, pr_ex (((e1.trans e2).trans e3).trans e4) hp, q.mono (((e1.trans e2).trans e3).trans e4)⟩
    · refine s_retIf (et_test (ev_op (ev_var rfl) ev_c (rv_eq rfl))) (fun _ H2 e2 => sx_ret (ea_cons (ev_var rfl) ea_nil) (sx_mk (pr_ex (e1.trans e2) hp) (q.mono (e1.trans e2)))) fun _ H2 e2 => ?_
      exact s_retIf (et_test (ev_op (ev_var rfl) ev_c (rv_eq rfl))) (fun _ H3 e3 => sx_ret (ea_cons (ev_var rfl) ea_nil) (sx_mk (pr_ex ((e1.trans e2).trans e3) hp) (q.mono ((e1.trans e2).trans e3)))) fun _ H3 e3 =>
        sx_ret (ea_cons (ev_var rfl) ea_nil) (sx_mk (pr_ex ((e1.trans e2).trans e3) hp) (q.mono ((e1.trans e2).trans e3)))
end
end Mt

set_option Elab.async false
set_option linter.all false
set_option maxRecDepth 100000
set_option maxHeartbeats 4000000
set_option exponentiation.threshold 300
namespace Mt
open PySem PySem.Spec PyProof.Rows L2 Evl KM KR
/-! ### the law's def that asks wrongly and tells what was refused -/
section
variable {K : PySem.W.Frag} {H : Hp} {σ : L2.St} {ta tb te : TE} {D : Ends} {tz : TS} {x : V} {l : Addr} {vs ys : List V}
theorem tyx_upd {t : Value} (hl : H l = some (.lst vs)) (h : TyX K H x t) : TyX K (upd H l (.lst ys)) x t := by
  have ne : ∀ {a : Addr} {o : HO}, H a = some o → (∀ zs, o ≠ .lst zs) → upd H l (.lst ys) a = some o := fun {a o} h n => by
    rw [upd_ne (fun z => by rw [z, hl] at h; exact n vs (Option.some.inj h).symm)]
    exact h
  cases h with
  | base b =>
    cases b with
    | non => exact .base .non
    | bl y => exact .base (.bl y)
    | int i => exact .base (.int i)
    | str y => exact .base (.str y)
    | flt y => exact .base (.flt y)
    | lst a =>
      rename_i a' xs'
      by_cases c : a' = l
      · subst c
        exact .base (.lst upd_same)
      · exact .base (.lst (by rw [upd_ne c]; exact a))
    | frz a => exact .base (.frz (ne a fun _ z => nomatch z))
    | tup a => exact .base (.tup (ne a fun _ z => nomatch z))
    | dK a => exact .base (.dK (ne a fun _ z => nomatch z))
    | dT a => exact .base (.dT (ne a fun _ z => nomatch z))
    | ins a cl ha hn htk hm => exact .base (.ins (ne a fun _ z => nomatch z) cl ha hn htk hm)
  | byt y => exact .byt y
  | set a => exact .set (ne a fun _ z => nomatch z)
  | kList a c => exact .kList a c
  | kTuple a c => exact .kTuple a c
  | kDict a c => exact .kDict a c
  | fTuple a => exact .fTuple (ne a fun _ z => nomatch z)
  | fDict a => exact .fDict (ne a fun _ z => nomatch z)
theorem ab_upd {b : Bool} (hl : H l = some (.lst vs)) : GG.AbV K H x b → GG.AbV K (upd H l (.lst ys)) x b := fun ⟨T, b1, b2, ty, r⟩ => ⟨T, b1, b2, tyx_upd hl ty, r⟩
theorem pr_upd {b : Bool} (hl : H l = some (.lst vs)) : GG.PrV K H x b → GG.PrV K (upd H l (.lst ys)) x b := fun ⟨T, bt, ty, k, h1, h2⟩ => ⟨T, bt, tyx_upd hl ty, k, h1, fun z => by
  obtain ⟨p, xs, e1, e2, e3, e4⟩ := h2 z
  exact ⟨p, xs, e1, sqt_upd hl e2, e3, fun c => by
    obtain ⟨y, z, by', bz, f1, f2, f3, f4⟩ := e4 c
    exact ⟨y, z, by', bz, f1, ab_upd hl f2, ab_upd hl f3, f4⟩⟩⟩
theorem paired_set {α β : Type} {F : α → β → Prop} {x : α} {y : β} (h : F x y) : ∀ {xs : List α} {ys : List β} (k : Nat), Paired F xs ys → Paired F (xs.set k x) (ys.set k y)
  | _, _, _, .nil => .nil
  | _, _, 0, .cons _ t => .cons h t
  | _, _, k + 1, .cons r t => .cons r (paired_set h k t)
theorem all_set : ∀ (n k : Nat), k < n → ((List.replicate n true).set k false).all id = false
  | n + 1, 0, _ => rfl
  | n + 1, k + 1, h => by
    show (true && ((List.replicate n true).set k false).all id) = false
    rw [all_set n k (by omega)]; rfl
theorem q_try {f : TS} {σ : L2.St} {H : Hp} (h : f { D with nx := tz D } σ H) : tSeq f tz D σ H := h
theorem q_setB {B : V → Hp → Prop} {k : Int} (st : Stable B) (hl : H l = some (.lst vs)) (h : EvS te σ H B) (ho : Ev ta σ H (.ref l)) (hi : Ev tb σ H (.int k)) (h0 : 0 ≤ k) (hk : k.toNat < vs.length)
    (n : ∀ v H1, Ex H H1 → B v H1 → tz D σ (upd H1 l (.lst (vs.set k.toNat v)))) : tSeq (tAsg te (gSub ta tb rSetL)) tz D σ H :=
  h H (Ex.refl H) _ fun v H1 e1 hv => ho H1 e1 _ fun H2 e2 => hi H2 (e1.trans e2) _ fun H3 e3 => by
    refine ⟨l, vs, k, k.toNat, rfl, rfl, ((e1.trans e2).trans e3) l _ hl, ?_, n v H3 ((e1.trans e2).trans e3) (st _ _ _ (e2.trans e3) hv)⟩
    unfold ixN
    rw [if_pos h0, if_pos (by omega)]
theorem sx_dropS {sp : Sp} {E : L2.St → XK} {ta : TA} {R : List V → Hp → Prop} (h : EvAS ta σ H R) (k : ∀ vs H1, Ex H H1 → R vs H1 → ∀ Q, sp vs H1 Q (E σ)) : tDrop (tCallS sp E ta) D σ H := h H (Ex.refl H) _ fun vs H1 e r => k vs H1 e r _
theorem isb_imp {B B2 : V → Hp → Prop} {n : Nat} {v : V} (k : ∀ x, B x H → B2 x H) : IsB B n v H → IsB B2 n v H := fun ⟨a, xs, h, hl, hn, hx⟩ => ⟨a, xs, h, hl, hn, fun x hx' => k x (hx x hx')⟩
theorem es_ixP {ps : Prs} {p : Int × Int} {i : Int} (h : EvP K ta σ H ps) (hb : Ev tb σ H (.int i)) (h0 : 0 ≤ i) (hi : ps[i.toNat]? = some p) : EvS (tOp (rIxL K) ta tb) σ H (fun v H' => ∃ q, v = .ref q ∧ SqT K H' q [.int p.1, .int p.2]) := fun H1 e Q q =>
  h H1 e _ fun a vs H2 hn e2 h2 s2 => hb H2 (e.trans e2) _ fun H3 e3 => by
    obtain ⟨b, hq, hr⟩ := pl_at (K := K) ⟨vs, sq_of (e3 _ _ h2), s2.mono e3⟩ h0 hi
    exact hr (Ex.refl H3) H3 (Ex.refl H3) _ fun H4 e4 => q _ H4 ((e2.trans e3).trans e4) ⟨b, rfl, ex_t e4 hq⟩
theorem e1_u {i j : Int} {B : Int → Int → Prop} (h : EvU te σ H [.int i, .int j]) (hB : B i j) : EvPr te σ H B := fun H1 e Q q => h H1 e Q fun p H2 hp e2 h2 => q i j p H2 hB hp e2 h2
end
/-- isinstance(e, C), e what was caught -/
abbrev rE (K : PySem.W.Frag) (cls : Value) (d : Option Addr) (a : Addr) : List V → Hp → VK → Prop := fun xs H Q => ∃ D, cls = .ref D ∧ d = none ∧ ExcC K D ∧ rIsE K D a xs H Q
def tSuite (K : PySem.W.Frag) (c0 c1 c2 c3 : Addr) (a : Addr) (cls : Value) (d : Option Addr) : TS :=
  tSeq (tAsg (tLst (tCons (tCB (rE K cls d a) (tCons (tVar 7) (tCons (tC (.ref c0)) tNil))) (tCons (tCB (rE K cls d a) (tCons (tVar 7) (tCons (tC (.ref c1)) tNil))) (tCons (tCB (rE K cls d a) (tCons (tVar 7) (tCons (tC (.ref c2)) tNil))) tNil)))) (gName 8))
    (tRet (tOp rCat (tVar 8) (tLst (tCons (tCB (rE K cls d a) (tCons (tVar 7) (tCons (tC (.ref c3)) tNil))) (tCons (tCB (rE K cls d a) (tCons (tVar 7) (tCons (tC (.ty "ValueError")) tNil))) tNil)))))
theorem suite_ok {K : PySem.W.Frag} {a C c0 c1 c2 c3 : Addr} {b0 b1 b2 b3 : Bool} {x0 x1 x2 x3 y4 y5 y6 y8 y9 : Option V} {H : Hp} {D : Ends} (c : ExcC K C) (k0 : PySem.W.kitOne K (.ref C) (.ref c0) = some b0) (k1 : PySem.W.kitOne K (.ref C) (.ref c1) = some b1)
    (k2 : PySem.W.kitOne K (.ref C) (.ref c2) = some b2) (k3 : PySem.W.kitOne K (.ref C) (.ref c3) = some b3) (kv : PySem.W.kitOne K (.ref C) (.type "ValueError") = some true)
    (q : ∀ p H2, Ex H H2 → H2 p = some (.lst ([b0, b1, b2, b3, true].map V.bl)) → D.rt (.ref p) H2) : tSuite K c0 c1 c2 c3 a (.ref C) none D [x0, x1, x2, x3, y4, y5, y6, some (.ref a), y8, y9] H := by
  unfold tSuite
  refine q_asgL (xs := [.bl b0, .bl b1, .bl b2]) (el_lst (ea_cons (ev_cb (ea_cons (ev_var rfl) (ea_cons ev_c ea_nil)) (rc_isE rfl rfl c k0)) (ea_cons (ev_cb (ea_cons (ev_var rfl) (ea_cons ev_c ea_nil)) (rc_isE rfl rfl c k1)) (ea_cons (ev_cb (ea_cons (ev_var rfl) (ea_cons ev_c ea_nil)) (rc_isE rfl rfl c k2)) ea_nil))) (Nat.le_of_ble_eq_true rfl)) fun p H1 _ e1 h1 => ?_
  exact s_retL (el_catV (ys := [.bl b3, .bl true]) (ev_var rfl) h1 (el_lst (ea_cons (ev_cb (ea_cons (ev_var rfl) (ea_cons ev_c ea_nil)) (rc_isE rfl rfl c k3)) (ea_cons (ev_cb (ea_cons (ev_var rfl) (ea_cons ev_c ea_nil)) (rc_isET rfl rfl c kv)) ea_nil)) (Nat.le_of_ble_eq_true rfl)) (Nat.le_of_ble_eq_true rfl)) fun p H2 _ e2 h2 => q p H2 (e1.trans e2) h2
def sp_l_told (K : PySem.W.Frag) (P1 P2 : Addr) : Sp := fun vs H Q _ => ∃ k w m : Int, vs = [.int k, .int w, .int m] ∧ 0 ≤ k ∧ k < 4 ∧ 0 ≤ w ∧ 0 ≤ m ∧ m < 1000 ∧ H P1 = some (GG.tabO P1) ∧ H P2 = some (GG.tabO P2) ∧
  ∀ p H2, Ex H H2 → H2 p = some (.lst ([decide (k = 0), decide (k = 1), decide (k = 2), decide (k = 3), true].map V.bl)) → Q (.ref p) H2
section
variable {P : Program} {w : World} {K : PySem.W.Frag} {mg : Str → Option Value} {base : Heap}
theorem out_ok (T : Txt K mg base) {x : Str} (A : ExcAt K mg x) {b0 b1 b2 b3 : Bool} {x0 x1 x2 x3 y4 y5 y6 y7 y8 y9 : Option V} {H : Hp} {D : Ends} (sx : PySem.W.subIn K (.ref A.C) (.ref T.TimesError.C) = some true) (kv : PySem.W.kitOne K (.ref A.C) (.type "ValueError") = some true)
    (k0 : PySem.W.kitOne K (.ref A.C) (.ref T.BadPair.C) = some b0) (k1 : PySem.W.kitOne K (.ref A.C) (.ref T.BadTaking.C) = some b1) (k2 : PySem.W.kitOne K (.ref A.C) (.ref T.BadRow.C) = some b2) (k3 : PySem.W.kitOne K (.ref A.C) (.ref T.BadPairs.C) = some b3)
    (q : ∀ p H2, Ex H H2 → H2 p = some (.lst ([b0, b1, b2, b3, true].map V.bl)) → D.rt (.ref p) H2) :
    Out A.C H (WE (wAs K (.ref T.TimesError.C) 7 (fun a cls d => tSuite K T.BadPair.C T.BadTaking.C T.BadRow.C T.BadPairs.C a cls d) (fun _ _ _ _ => False) D) [x0, x1, x2, x3, y4, y5, y6, y7, y8, y9]) := fun H2 e2 =>
  ⟨true, PySem.W.exm_ref T.TimesError.c.hs T.TimesError.c.hd T.TimesError.t sx, fun _ a ha => suite_ok A.c k0 k1 k2 k3 kv fun p H3 e3 h3 => q p H3 (e2.trans e3) h3, fun z => nomatch z⟩
theorem ok_l_told (T : Txt K mg base) : FnOk P w K mg base CX0 10 T.l_told.f T.l_told.fd ["_law_kind", "_law_which", "_law_more"] (sp_l_told K T.z_is_row.P T.z_is_list_of_pairs.P) := by
  refine T.l_told.F.ok sc_l_told (fun vs H Q E h => ?_) (fun cdv A outer s H vs Q E hr h => ?_)
  · obtain ⟨k, x, m, rfl, _⟩ := h; rfl
  · obtain ⟨k, x, m, rfl, k0, k4, x0, m0, m1, hP1, hP2, q⟩ := h
    refine ⟨_, (pss_cons (ps_set (i := 3) sc_l_told.nd rfl (by first | exact .inl rfl | exact .inr rfl) (pe_lst (pa_cons pe_non (pa_cons pe_str (pa_cons pe_bl (pa_cons pe_bl (pa_cons (pe_lst (pa_cons pe_int pa_nil)) (pa_cons (pe_tup (pa_cons pe_int pa_nil)) (pa_cons pe_dnewT (pa_cons pe_int (pa_cons (pe_op op_sub (pe_un un_neg pe_int) (pv 2)) pa_nil)))))))))))
      (pss_cons (ps_try_as (i := 7) rfl rfl sc_l_told.nd rfl rfl ⟨rfl, by decide, .inl T.TimesError.g⟩ takes0 (fun W pn xe tk _ => (pss_one (ps_if (pt_cmpR op_eq (pv 0) pe_int (nomark _)) (pss_one (ps_expr (pe_callS (okX_with T) (hr.mono (by omega)) (by rfl) T.l_with_pair.g T.l_with_pair.F.kp T.l_with_pair.b (fun σ => passAt tk σ) (pa_cons (pe_op op_mod (pe_op op_fdivW (pv 1) pe_int) pe_int) (pa_cons (pe_call (ok_l_bad_pair T) (hr.mono (by omega)) (by rfl) T.l_bad_pair.g T.l_bad_pair.F.kp T.l_bad_pair.b .nil pass0 (pa_cons (pv 1) (pa_cons (pv 2) pa_nil))) pa_nil))))) (pss_one (ps_if (pt_cmpR op_eq (pv 0) pe_int (nomark _)) (pss_cons (ps_set (i := 4) sc_l_told.nd rfl (by first | exact .inl rfl | exact .inr rfl) (pe_ix (show IxR _ (rIxL K) from ix_list) (pe_lst (pa_cons (pe_tup (pa_cons pe_int (pa_cons pe_int pa_nil))) (pa_cons (pe_tup (pa_cons pe_int (pa_cons pe_int pa_nil))) (pa_cons (pe_tup (pa_cons pe_int (pa_cons pe_int pa_nil))) (pa_cons (pe_tup (pa_cons pe_int (pa_cons (pe_op op_add pe_int (pv 2)) pa_nil))) (pa_cons (pe_tup (pa_cons pe_int (pa_cons pe_int pa_nil))) pa_nil)))))) (pe_op op_mod (pe_op op_fdivW (pv 1) pe_int) pe_int) (fun _ _ => rfl)))
      (pss_cons (ps_set (i := 5) sc_l_told.nd rfl (by first | exact .inl rfl | exact .inr rfl) (pe_op op_add (pe_op op_add (pe_ix (show IxR _ (rIxT K) from ix_tup) (pe_tup (pa_cons pe_int (pa_cons pe_int (pa_cons pe_int (pa_cons (pe_op op_add pe_int (pv 2)) (pa_cons pe_int pa_nil)))))) (pe_op op_mod (pe_op op_fdivW (pv 1) pe_int) pe_int) (fun _ _ => rfl)) pe_int) (pe_op op_mulX (pe_op op_mod (pe_op op_fdivW (pv 1) pe_int) pe_int) (pv 2))))
      (pss_one (ps_expr (pe_callS (okX_taken T) (hr.mono (by omega)) (by rfl) T.taken.g T.taken.F.kp T.taken.b (fun σ => passAt tk σ) (pa_cons (pv 4) (pa_cons (pe_ix (show IxR _ (rIxL K) from ix_list) (pe_op op_cat (pv 3) (pe_lst (pa_cons (pv 5) pa_nil))) (pe_op op_mod (pv 1) pe_int) (fun _ _ => rfl)) pa_nil))))))) (pss_one (ps_if (PW.pt (pw_and (pt_cmpR op_eq (pv 0) pe_int (nomark _)) (pw_and1 (pt_cmpR op_gt (pe_op op_mod (pv 1) pe_int) pe_int (nomark _))))) (pss_one (ps_expr (pe_callS (okX_pair_of T) (hr.mono (by omega)) (by rfl) T.pair_of.g T.pair_of.F.kp T.pair_of.b (fun σ => passAt tk σ) (pa_cons (pe_call (ok_l_bad_row T) (hr.mono (by omega)) (by rfl) T.l_bad_row.g T.l_bad_row.F.kp T.l_bad_row.b .nil pass0 (pa_cons (pe_op op_fdivW (pv 1) pe_int) (pa_cons (pv 2) pa_nil))) (pa_cons (pe_op op_add pe_int (pv 2)) pa_nil))))) (pss_one (ps_if (pt_cmpR op_eq (pv 0) pe_int (nomark _)) (pss_one (ps_expr (pe_callS (okX_pair_of T) (hr.mono (by omega)) (by rfl) T.pair_of.g T.pair_of.F.kp T.pair_of.b (fun σ => passAt tk σ) (pa_cons (pe_lst (pa_cons (pe_op op_add pe_int (pv 2)) (pa_cons pe_int pa_nil))) (pa_cons (pe_ix (show IxR _ (rIxL K) from ix_list) (pv 3) (pe_op op_mod (pe_op op_fdivW (pv 1) pe_int) pe_int) (fun _ _ => rfl)) pa_nil))))) (pss_one (ps_if (pt_cmpR op_eq (pe_op op_mod (pv 1) pe_int) pe_int (nomark _)) (pss_one (ps_expr (pe_callS (okX_told T) (hr.mono (by omega)) (by rfl) T.told.g T.told.F.kp T.told.b (fun σ => passAt tk σ) (pa_cons (pe_ix (show IxR _ (rIxL K) from ix_list) (pe_lst (pa_cons pe_non (pa_cons (pe_tup (pa_cons (pe_tup (pa_cons pe_int (pa_cons pe_int pa_nil))) pa_nil)) (pa_cons pe_str (pa_cons pe_dnewT (pa_cons pe_int (pa_cons (pe_tup (pa_cons pe_int (pa_cons pe_int pa_nil))) (pa_cons (pe_lst (pa_cons pe_int (pa_cons pe_int pa_nil))) (pa_cons (pe_op op_rep (pe_lst (pa_cons (pe_tup (pa_cons pe_int (pa_cons pe_int pa_nil))) pa_nil)) pe_int) (pa_cons (pe_lst (pa_cons (pe_tup (pa_cons pe_int (pa_cons pe_int pa_nil))) (pa_cons (pe_lst (pa_cons pe_int (pa_cons pe_int pa_nil))) pa_nil))) pa_nil)))))))))) (pe_op op_mod (pe_op op_fdivW (pv 1) pe_int) pe_int) (fun _ _ => rfl)) pa_nil)))) (pss_cons (ps_setLc (i := 6) (own := [("_law_at", 9)]) (g := gName 9) (tt := tYes) rfl sc_l_told.nd rfl rfl (sw_true rfl rfl rfl (by decide +kernel)) (pi_range1 (by rfl) T.n_range (pa_cons (pe_op op_add pe_int (pe_op op_mod (pv 2) pe_int)) pa_nil)) (blkOk_by (own := [("_law_at", 9)]) (N := ["_law_kind", "_law_which", "_law_more", "_law_strange", "_law_pair", "_law_beyond", "_law_pairs", "error", "_law_found", "_law_at"]) (sc := defScope s_l_told) (by decide +kernel)) (fun _ _ _ _ _ => pg_name (i := 9) sc_l_told.nd rfl (Or.inl rfl)) (fun _ _ _ _ _ => pts_nil) (fun _ _ _ _ _ => (pe_tup (pa_cons (pe_op op_add pe_int (pv 9)) (pa_cons (pe_op op_add pe_int (pv 2)) pa_nil)))))
      (pss_cons (ps_asg (pe_call (ok_l_bad_pair T) (hr.mono (by omega)) (by rfl) T.l_bad_pair.g T.l_bad_pair.F.kp T.l_bad_pair.b .nil pass0 (pa_cons (pe_op op_fdivW (pv 1) pe_int) (pa_cons (pv 2) pa_nil))) (pg_sub (pv 6) (pe_op op_mod (pe_op op_fdivW (pv 1) pe_int) (pe_callB (show CallR _ (.builtin "len") (rLenS K) from call_len_seq) (by rfl) T.n_len (by decide +kernel) (pa_cons (pv 6) pa_nil))) set_list))
      (pss_one (ps_expr (pe_callS (okX_told T) (hr.mono (by omega)) (by rfl) T.told.g T.told.F.kp T.told.b (fun σ => passAt tk σ) (pa_cons (pv 6) pa_nil))))))))))))))))) (fun a oe cls d pn hz hf => (pss_cons (ps_set (i := 8) sc_l_told.nd rfl (by first | exact .inl rfl | exact .inr rfl) (pe_lst (pa_cons (pe_callB (call_isEA hz hf) (by rfl) T.n_isinstance (by decide +kernel) (pa_cons (pv 7) (pa_cons (pe_glob (v := .ref T.BadPair.C) (by rfl) T.BadPair.g rfl) pa_nil))) (pa_cons (pe_callB (call_isEA hz hf) (by rfl) T.n_isinstance (by decide +kernel) (pa_cons (pv 7) (pa_cons (pe_glob (v := .ref T.BadTaking.C) (by rfl) T.BadTaking.g rfl) pa_nil))) (pa_cons (pe_callB (call_isEA hz hf) (by rfl) T.n_isinstance (by decide +kernel) (pa_cons (pv 7) (pa_cons (pe_glob (v := .ref T.BadRow.C) (by rfl) T.BadRow.g rfl) pa_nil))) pa_nil)))))
      (pss_one (ps_ret (pe_op op_cat (pv 8) (pe_lst (pa_cons (pe_callB (call_isEA hz hf) (by rfl) T.n_isinstance (by decide +kernel) (pa_cons (pv 7) (pa_cons (pe_glob (v := .ref T.BadPairs.C) (by rfl) T.BadPairs.g rfl) pa_nil))) (pa_cons (pe_callB (call_isEA hz hf) (by rfl) T.n_isinstance (by decide +kernel) (pa_cons (pv 7) (pa_cons (pe_bltn (v := .ty "ValueError") (by rfl) T.n_ValueError (by decide +kernel) rfl) pa_nil))) pa_nil)))))))))
      (pss_one (ps_ret (pe_lst pa_nil))))), ?_⟩
    have sA := st_BA (K := K)
    have sP := st_BP (K := K)
    have sR := st_BR (K := K)
    have sL := st_BL (K := K)
    refine q_asgS (es_lstB (n := 9) sA
      (evb_cons sA (es_v ev_c fun _ _ => ab_non)
      (evb_cons sA (es_v ev_c fun _ _ => ab_str _)
      (evb_cons sA (es_v ev_c fun _ _ => ab_bl _)
      (evb_cons sA (es_v ev_c fun _ _ => ab_bl _)
      (evb_cons sA (es_l (el_lst (ea_cons ev_c ea_nil) (Nat.le_of_ble_eq_true rfl)) fun p H1 e h => ab_lst (sq_of h))
      (evb_cons sA (es_u (eu_tup (ea_cons ev_c ea_nil) (Nat.le_of_ble_eq_true rfl)) fun p H1 e h => ab_tup (st_of h))
      (evb_cons sA (es_dT fun p H1 e h => ab_dT h)
      (evb_cons sA (es_v ev_c fun _ _ => ab_neg (by decide))
      (evb_cons sA (es_v (ev_op (ev_un ev_c ru_neg) (ev_var rfl) rv_I0) fun _ _ => ab_neg (by omega))
      evb_nil))))))))) (by decide)) fun sv H1 e1 h1 => ?_
    refine q_try ?_
    show tIfS _ _ _ _ _ _
    have o20 := Int.emod_nonneg (x / 20) (show (6 : Int) ≠ 0 by decide)
    refine s_if (et_test (ev_op (ev_var rfl) ev_c (rv_eq rfl))) (fun z0 H2 e2 => ?_) (fun z0 H2 e2 => ?_)
    · -- no pair, at one of six doors
      have hk : k = 0 := V.int.inj (of_decide_eq_true z0)
      subst hk
      refine sx_dropS (eas_cons (es_of (ev_op (ev_op (ev_var rfl) ev_c (rv_I (cd_small (by decide) (by decide)))) ev_c (rv_I (by decide)))) stable_eq (eas_cons (es_call (ea_cons (ev_var rfl) (ea_cons (ev_var rfl) ea_nil)) (sps_bad_pair m0)) sP eas_nil)) fun vs H3 e3 r Q' => ?_
      obtain ⟨_, _, rfl, rfl, y, _, rfl, hy, rfl⟩ := r
      exact ⟨_, y, rfl, hy, out_ok T T.BadPair T.sx_BadPair T.kv_BadPair T.kx_BadPair_BadPair T.kx_BadPair_BadTaking T.kx_BadPair_BadRow T.kx_BadPair_BadPairs fun p H4 e4 h4 => q p H4 (((e1.trans e2).trans e3).trans e4) h4⟩
    have n0 : k ≠ 0 := fun z => of_decide_eq_false z0 (congrArg V.int z)
    refine s_if (et_test (ev_op (ev_var rfl) ev_c (rv_eq rfl))) (fun z1 H3 e3 => ?_) (fun z1 H3 e3 => ?_)
    · -- no taking
      have hk : k = 1 := V.int.inj (of_decide_eq_true z1)
      subst hk
      have j0 := Int.emod_nonneg (x / 10) (show (5 : Int) ≠ 0 by decide)
      have j1 := Int.emod_lt_of_pos (x / 10) (show (0 : Int) < 5 by decide)
      have g0 := Int.emod_nonneg (x / 50) (show (2 : Int) ≠ 0 by decide)
      have g1 := Int.emod_lt_of_pos (x / 50) (show (0 : Int) < 2 by decide)
      obtain ⟨p, hp, hat, pa, pA, pb, pB⟩ : ∃ p : Int × Int, ([(5, 18), (18, 5), (7, 7), (1, 4 + m), (15, 5)] : Prs)[(x / 10 % 5).toNat]? = some p ∧ atI ([3, 3, 0, 3 + m, 2].map V.int) (x / 10 % 5) = some (.int (mostF p.1 p.2)) ∧ 0 < p.1 ∧ p.1 ≤ 2000 ∧ 0 < p.2 ∧ p.2 ≤ 2000 := by
        have : x / 10 % 5 = 0 ∨ x / 10 % 5 = 1 ∨ x / 10 % 5 = 2 ∨ x / 10 % 5 = 3 ∨ x / 10 % 5 = 4 := by omega
        rcases this with z | z | z | z | z <;> rw [z]
        · exact ⟨(5, 18), rfl, rfl, by decide, by decide, by decide, by decide⟩
        · exact ⟨(18, 5), rfl, rfl, by decide, by decide, by decide, by decide⟩
        · exact ⟨(7, 7), rfl, rfl, by decide, by decide, by decide, by decide⟩
        · refine ⟨(1, 4 + m), rfl, ?_, by show (0 : Int) < 1; decide, by show (1 : Int) ≤ 2000; decide, by show 0 < 4 + m; omega, by show 4 + m ≤ 2000; omega⟩
          have : mostF 1 (4 + m) = 3 + m := by
            have c : (1 : Int) ≤ 4 + m := by omega
            unfold mostF mnF mxF
            rw [if_pos c, if_pos c, Int.ediv_one]
            omega
          show _ = some (V.int (mostF 1 (4 + m)))
          rw [this]; rfl
        · exact ⟨(15, 5), rfl, rfl, by decide, by decide, by decide, by decide⟩
      refine q_asgS (es_ixP (p := p) (ep_lst (eap_cons (eu_tup (ea_cons ev_c (ea_cons ev_c ea_nil)) (Nat.le_of_ble_eq_true rfl)) (eap_cons (eu_tup (ea_cons ev_c (ea_cons ev_c ea_nil)) (Nat.le_of_ble_eq_true rfl)) (eap_cons (eu_tup (ea_cons ev_c (ea_cons ev_c ea_nil)) (Nat.le_of_ble_eq_true rfl)) (eap_cons (eu_tup (ea_cons ev_c (ea_cons (ev_op ev_c (ev_var rfl) rv_I0) ea_nil)) (Nat.le_of_ble_eq_true rfl)) (eap_cons (eu_tup (ea_cons ev_c (ea_cons ev_c ea_nil)) (Nat.le_of_ble_eq_true rfl)) eap_nil))))) (Nat.le_of_ble_eq_true rfl))
        (ev_op (ev_op (ev_var rfl) ev_c (rv_I (cd_small (by decide) (by decide)))) ev_c (rv_I (by decide))) j0 hp) fun v H4 e4 hv => ?_
      obtain ⟨b, rfl, hb⟩ := hv
      refine q_asg (v := .int (mostF p.1 p.2 + 1 + x / 50 % 2 * m)) (ev_op (ev_op (ev_opU1 (xs := [3, 3, 0, 3 + m, 2].map V.int) (eu_tup (ea_cons ev_c (ea_cons ev_c (ea_cons ev_c (ea_cons (ev_op ev_c (ev_var rfl) rv_I0) (ea_cons ev_c ea_nil))))) (Nat.le_of_ble_eq_true rfl)) (ev_op (ev_op (ev_var rfl) ev_c (rv_I (cd_small (by decide) (by decide)))) ev_c (rv_I (by decide))) fun p H1 hp _ => rv_ixT (st_of hp) hat) ev_c rv_I0)
        (ev_op (ev_op (ev_op (ev_var rfl) ev_c (rv_I (cd_small (by decide) (by decide)))) ev_c (rv_I (by decide))) (ev_var rfl) (rv_I ((W.small (x := x / 50 % 2) (by omega) (by omega)).cm (W.small (x := m) (by omega) (by omega)) (by decide)))) rv_I0) fun H5 e5 => ?_
      have i0 := Int.emod_nonneg x (show (10 : Int) ≠ 0 by decide)
      have i1 := Int.emod_lt_of_pos x (show (0 : Int) < 10 by decide)
      have gm : 0 ≤ x / 50 % 2 * m := Int.mul_nonneg g0 m0
      have e15 := ((e2.trans e3).trans e4).trans e5
      refine sx_dropS (eas_cons (es_of (ev_var rfl)) stable_eq (eas_cons (es_ixB (n := 10) (i := x % 10) (tk_st (K := K) (a := p.1) (b := p.2)) (es_catB (n := 9) (m := 1) (tk_st (K := K) (a := p.1) (b := p.2)) (es_v (ev_var rfl) fun H6 e6 => isb_imp (fun _ h => .inl h) (stable_B sA _ _ _ (e15.trans e6) h1))
        (es_lstB (n := 1) tk_st (evb_cons tk_st (es_v (ev_var rfl) fun _ _ => .inr ⟨_, rfl, by omega⟩) evb_nil) (by decide)) (by decide)) (fun H6 e6 => ev_op (ev_var rfl) ev_c (rv_I (by decide))) i0 (by omega)) tk_st eas_nil)) fun vs H6 e6 r Q' => ?_
      obtain ⟨_, _, rfl, rfl, t, _, rfl, ht, rfl⟩ := r
      exact .inr ⟨b, p.1, p.2, t, rfl, ex_t (e5.trans e6) hb, Big.s200 pa (by omega), Big.s200 pb (by omega), ht, out_ok T T.BadTaking T.sx_BadTaking T.kv_BadTaking T.kx_BadTaking_BadPair T.kx_BadTaking_BadTaking T.kx_BadTaking_BadRow T.kx_BadTaking_BadPairs fun p H7 e7 h7 => q p H7 (((e1.trans e15).trans e6).trans e7) h7⟩
    have n1 : k ≠ 1 := fun z => of_decide_eq_false z1 (congrArg V.int z)
    have e13 := (e1.trans e2).trans e3
    refine s_if (et_and (et_test (ev_op (ev_var rfl) ev_c (rv_eq rfl))) fun _ => et_test (ev_op (ev_op (ev_var rfl) ev_c (rv_I (by decide))) ev_c rv_I0)) (fun z2 H4 e4 => ?_) (fun z2 H4 e4 => ?_)
    · -- no row
      have hk : k = 2 := V.int.inj (of_decide_eq_true (by simp only [Bool.and_eq_true] at z2; exact z2.1))
      subst hk
      refine sx_dropS (eas_cons (es_call (ea_cons (ev_op (ev_var rfl) ev_c (rv_I (cd_small (by decide) (by decide)))) (ea_cons (ev_var rfl) ea_nil)) (sps_bad_row m0)) sR (eas_cons (es_of (ev_op ev_c (ev_var rfl) rv_I0)) stable_eq eas_nil)) fun vs H5 e5 r Q' => ?_
      obtain ⟨y, _, rfl, hy, _, _, rfl, rfl, rfl⟩ := r
      exact ⟨y, _, rfl, ((e13.trans e4).trans e5) _ _ hP1, out_ok T T.BadRow T.sx_BadRow T.kv_BadRow T.kx_BadRow_BadPair T.kx_BadRow_BadTaking T.kx_BadRow_BadRow T.kx_BadRow_BadPairs fun p H7 e7 h7 => q p H7 (((e13.trans e4).trans e5).trans e7) h7, .inl hy⟩
    refine s_if (et_test (ev_op (ev_var rfl) ev_c (rv_eq rfl))) (fun z3 H5 e5 => ?_) (fun z3 H5 e5 => ?_)
    · -- no number beside the row
      have hk : k = 2 := V.int.inj (of_decide_eq_true z3)
      subst hk
      have i0 := Int.emod_nonneg (x / 3) (show (9 : Int) ≠ 0 by decide)
      have i1 := Int.emod_lt_of_pos (x / 3) (show (0 : Int) < 9 by decide)
      have e15 := (e2.trans e3).trans (e4.trans e5)
      refine sx_dropS (eas_cons (P := fun v H' => ∃ a, v = .ref a ∧ SqL K H' a ([1 + m, 2].map V.int)) (es_l (el_lst (vs := [1 + m, 2].map V.int) (ea_cons (ev_op ev_c (ev_var rfl) rv_I0) (ea_cons ev_c ea_nil)) (Nat.le_of_ble_eq_true rfl)) fun p H1 e h => ⟨p, rfl, sq_of h⟩) (fun _ _ _ e ⟨a, h, s⟩ => ⟨a, h, ex_l e s⟩)
        (eas_cons (es_ixB (n := 9) (i := x / 3 % 9) sA (es_v (ev_var rfl) fun H6 e6 => stable_B sA _ _ _ (e15.trans e6) h1) (fun H6 e6 => ev_op (ev_op (ev_var rfl) ev_c (rv_I (cd_small (by decide) (by decide)))) ev_c (rv_I (by decide))) i0 (by omega)) sA eas_nil)) fun vs H6 e6 r Q' => ?_
      obtain ⟨_, _, rfl, ⟨a, rfl, hS⟩, t, _, rfl, ht, rfl⟩ := r
      exact ⟨_, t, rfl, ((e1.trans e15).trans e6) _ _ hP1, out_ok T T.BadRow T.sx_BadRow T.kv_BadRow T.kx_BadRow_BadPair T.kx_BadRow_BadTaking T.kx_BadRow_BadRow T.kx_BadRow_BadPairs fun p H7 e7 h7 => q p H7 (((e1.trans e15).trans e6).trans e7) h7,
        .inr ⟨a, [1 + m, 2], rfl, hS, ⟨by omega, by omega⟩, (Nat.le_of_ble_eq_true rfl), ht⟩⟩
    have hk : k = 3 := by
      have : k ≠ 2 := fun z => of_decide_eq_false z3 (congrArg V.int z)
      omega
    subst hk
    have e15 := (e13.trans e4).trans e5
    refine s_if (et_test (ev_op (ev_op (ev_var rfl) ev_c (rv_I (by decide))) ev_c (rv_eq rfl))) (fun z4 H6 e6 => ?_) (fun z4 H6 e6 => ?_)
    · -- no list of pairs
      have i0 := Int.emod_nonneg (x / 2) (show (9 : Int) ≠ 0 by decide)
      have i1 := Int.emod_lt_of_pos (x / 2) (show (0 : Int) < 9 by decide)
      have s1 : Stable (fun v H => GG.PrV K H v true) := fun _ _ _ e h => pr_ex e h
      have s0 : Stable (fun (_ : V) (_ : Hp) => True) := fun _ _ _ _ h => h
      refine sx_dropS (eas_cons (es_ixB (n := 9) (i := x / 2 % 9) sL (es_lstB (n := 9) sL
        (evb_cons sL (es_v ev_c fun _ _ => ls_ty (.base .non) (by decide +kernel))
        (evb_cons sL (es_imp (es_tup1 (B := fun _ _ => True) (es_u (eu_tup (ea_cons ev_c (ea_cons ev_c ea_nil)) (Nat.le_of_ble_eq_true rfl)) fun p H1 e h => trivial)) fun v H1 e ⟨a, xs, ev, h⟩ => by rw [ev]; exact ls_ty (ty_tup (st_of h)) (by decide +kernel))
        (evb_cons sL (es_v ev_c fun _ _ => ls_ty (.base (.str _)) (by decide +kernel))
        (evb_cons sL (es_dT fun p H1 e h => ls_ty (.base (.dT h)) (by decide +kernel))
        (evb_cons sL (es_v ev_c fun _ _ => ls_ty (.base (.int _)) (by decide +kernel))
        (evb_cons sL (es_u (eu_tup (ea_cons ev_c (ea_cons ev_c ea_nil)) (Nat.le_of_ble_eq_true rfl)) fun p H1 e h => ls_ty (ty_tup (st_of h)) (by decide +kernel))
        (evb_cons sL (es_l (el_lst (ea_cons ev_c (ea_cons ev_c ea_nil)) (Nat.le_of_ble_eq_true rfl)) fun p H1 e h => ls_list (sq_of h) (Nat.le_of_ble_eq_true rfl) (.cons (pr_int _) (.cons (pr_int _) .nil)) rfl)
        (evb_cons sL (es_imp (es_rep1 (k := 101) s0 (es_u (eu_tup (ea_cons ev_c (ea_cons ev_c ea_nil)) (Nat.le_of_ble_eq_true rfl)) fun p H1 e h => trivial) ev_c (by decide) (by decide)) fun v H1 e ⟨a, y, ev, h, _⟩ => by rw [ev]; exact .inr ⟨a, _, rfl, sq_of h, .inl (by rw [List.length_replicate]; decide)⟩)
        (evb_cons sL (es_imp (es_lst2 s1 sP (es_u (eu_tup (ea_cons ev_c (ea_cons ev_c ea_nil)) (Nat.le_of_ble_eq_true rfl)) fun p H1 e h => pr_pair (st_of h) (by decide) (by decide)) (es_l (el_lst (ea_cons ev_c (ea_cons ev_c ea_nil)) (Nat.le_of_ble_eq_true rfl)) fun p H1 e h => pr_lst (sq_of h))) fun v H1 e ⟨a, y, z, ev, h, hy, hz⟩ => by rw [ev]; exact ls_list (sq_of h) (Nat.le_of_ble_eq_true rfl) (.cons hy (.cons hz .nil)) rfl)
        evb_nil))))))))) (by decide)) (fun H7 e7 => ev_op (ev_op (ev_var rfl) ev_c (rv_I (cd_small (by decide) (by decide)))) ev_c (rv_I (by decide))) i0 (by omega)) sL eas_nil) fun vs H7 e7 r Q' => ?_
      obtain ⟨y, _, rfl, hy, rfl⟩ := r
      exact ⟨y, rfl, hy, ((e15.trans e6).trans e7) _ _ hP2, out_ok T T.BadPairs T.sx_BadPairs T.kv_BadPairs T.kx_BadPairs_BadPair T.kx_BadPairs_BadTaking T.kx_BadPairs_BadRow T.kx_BadPairs_BadPairs fun p H8 e8 h8 => q p H8 (((e15.trans e6).trans e7).trans e8) h8⟩
    · -- a list with one that is no pair
      have r0 := Int.emod_nonneg m (show (90 : Int) ≠ 0 by decide)
      have r1 := Int.emod_lt_of_pos m (show (0 : Int) < 90 by decide)
      have e16 := e15.trans e6
      refine q_asgPS (K := K) (ep_compR1 (B := fun x y => 0 < x ∧ 0 < y) (ea_cons (ev_op ev_c (ev_op (ev_var rfl) ev_c (rv_I (by decide))) rv_I0) ea_nil) ⟨by omega, by omega⟩ (fun x => rfl) fun i H7 e7 hi => e1_u (eu_tup (ea_cons (ev_op ev_c (ev_var rfl) rv_I0) (ea_cons (ev_op ev_c (ev_var rfl) rv_I0) ea_nil)) (Nat.le_of_ble_eq_true rfl)) ⟨by omega, by omega⟩) fun l vs ps H7 hps hnl e7 h7 s7 => ?_
      have hlen : vs.length = (1 + m % 90).toNat := by rw [s7.len, hps.1]
      have hlp : (0 : Int) < (vs.length : Int) := by omega
      have w0 := Int.emod_nonneg (x / 40) (show (vs.length : Int) ≠ 0 by omega)
      have w1 := Int.emod_lt_of_pos (x / 40) hlp
      refine q_setB (B := BP K) (k := x / 40 % (vs.length : Int)) sP h7 (es_call (ea_cons (ev_op (ev_var rfl) ev_c (rv_I (cd_small (by decide) (by decide)))) (ea_cons (ev_var rfl) ea_nil)) (sps_bad_pair m0)) (ev_var rfl)
        (ev_op (ev_op (ev_var rfl) ev_c (rv_I (cd_small (by decide) (by decide)))) (ev_cb (ea_cons (ev_var rfl) ea_nil) (rc_lenL (sq_of h7))) (rv_I hlp)) w0 (by omega) fun v H8 e8 hv => ?_
      have h8 := e8 _ _ h7
      have hp8 : Paired (GG.PrV K H8) vs (List.replicate vs.length true) := pr_pairs (s7.mono e8) hps.2
      have hp9 := paired_imp (fun _ _ => pr_upd (ys := vs.set (x / 40 % (vs.length : Int)).toNat v) h8) (paired_set (F := GG.PrV K H8) (y := false) hv (x / 40 % (vs.length : Int)).toNat hp8)
      have e9 : Ex H (upd H8 l (.lst (vs.set (x / 40 % (vs.length : Int)).toNat v))) := Ex.mut ((e16.trans e7).trans e8) (fresh_back e16 hnl)
      refine sx_dropS (eas_cons (es_of (ev_var rfl)) stable_eq eas_nil) fun vs2 H9 e10 r Q' => ?_
      obtain ⟨_, _, rfl, rfl, rfl⟩ := r
      refine ⟨_, rfl, ls_ex e10 (ls_list (sq_of upd_same) (by rw [List.length_set]; omega) hp9 (all_set _ _ (by omega))), e10 _ _ (e9 _ _ hP2), out_ok T T.BadPairs T.sx_BadPairs T.kv_BadPairs T.kx_BadPairs_BadPair T.kx_BadPairs_BadTaking T.kx_BadPairs_BadRow T.kx_BadPairs_BadPairs fun p H11 e11 h11 => q p H11 ((e9.trans e10).trans e11) h11⟩
end
end Mt

set_option Elab.async false
set_option linter.all false
set_option maxRecDepth 100000
set_option maxHeartbeats 4000000
set_option exponentiation.threshold 300
namespace Mt
open PySem PySem.Spec PyProof.Rows L2 Evl KM KR
/-! ### the law -/
def sp_law (K : PySem.W.Frag) (tp : List Addr) : Sp := fun vs H Q _ => ∃ (a : Addr) (ns : List Int), vs = [.ref a] ∧ SqL K H a (ns.map V.int) ∧ ns.length ≤ 63 ∧ (∀ n ∈ ns, W 1048576 n) ∧ (∀ p ∈ tp, H p = some (GG.tabO p)) ∧ ∀ H', (∀ p ∈ tp, H' p = some (GG.tabO p)) → Q (.bl true) H'
theorem sh5 (b0 b1 b2 b3 : Bool) : SeqAt.shaped (.list ([b0, b1, b2, b3, true].map PyData.bool)) = true := by
  cases b0 <;> cases b1 <;> cases b2 <;> cases b3 <;> decide +kernel
theorem eqv5 (b0 b1 b2 b3 : Bool) : PyData.eqv (.list ([b0, b1, b2, b3, true].map PyData.bool)) (.list ([b0, b1, b2, b3, true].map PyData.bool)) = true := by
  cases b0 <;> cases b1 <;> cases b2 <;> cases b3 <;> decide +kernel
theorem rv_ne5 {K : PySem.W.Frag} {H : Hp} {p q : Addr} {b0 b1 b2 b3 : Bool} (hp : SqL K H p ([b0, b1, b2, b3, true].map V.bl)) (hq : SqL K H q ([b0, b1, b2, b3, true].map V.bl)) : RV (rNeD K) (.ref p) (.ref q) H (.bl false) := by
  have h := rv_neD (K := K) (H := H) (x := .ref p) (y := .ref q) (fun H1 a => .lst (ex_l a hp) (dpall_bls _)) (fun H1 a => .lst (ex_l a hq) (dpall_bls _)) (sh5 b0 b1 b2 b3) (sh5 b0 b1 b2 b3)
  rw [eqv5] at h
  exact h
section
variable {K : PySem.W.Frag} {σ : L2.St} {H : Hp} {ta tb te tl : TE} {r : R2} {x y z : V}
theorem ev_opSv {P : V → Hp → Prop} (h : EvS ta σ H P) (hb : Ev tb σ H y) (hr : ∀ v H1, Ex H H1 → P v H1 → RV r v y H1 z) : Ev (tOp r ta tb) σ H z := fun H1 e Q q =>
  h H1 e _ fun v H2 e2 hv => hb H2 (e.trans e2) _ fun H3 e3 => hr v H2 (e.trans e2) hv H3 e3 Q fun H4 e4 => q H4 ((e2.trans e3).trans e4)
theorem eu_callL2 {sp : Sp} {xs zs : List V} {E : XK} (h : EvL ta σ H xs) (hb : Ev tb σ H y) (hs : ∀ p H1, H1 p = some (.lst xs) → Ex H H1 → SpU sp [.ref p, y] H1 zs) : EvU (tCall sp [] E (tCons ta (tCons tb tNil))) σ H zs := fun H1 e Q q =>
  h H1 e _ fun p H2 _ e2 hp => hb H2 (e.trans e2) _ fun H3 e3 => hs p H3 (e3 p _ hp) ((e.trans e2).trans e3) H3 (Ex.refl H3) Q (fun p' H4 hp' e4 h4 => q p' H4 (fresh_back (e2.trans e3) hp') ((e2.trans e3).trans e4) h4) E
theorem el_compR1 {ta : TA} {n : Int} {j : Nat} {vs : List Nat} (f : Nat → V) (h : EvA ta σ H [.int n]) (hn : 0 ≤ n ∧ n ≤ 40000)
    (hw : ∀ x, wipe ((wipe σ vs).set j (some x)) vs = wipe σ vs) (he : ∀ (i : Nat) H1, Ex H H1 → (i : Int) < n → Ev te ((wipe σ vs).set j (some (.int (i : Int)))) H1 (f i)) :
    EvL (tLc (iRng1 ta) (gName j) tYes te vs) σ H (given n.toNat (fun _ => true) f) := by
  intro H0 e Q q
  refine h H0 e _ fun H1 e1 => ⟨n, rfl, by omega, by omega, fun Dl hD => ?_⟩
  refine lc_it (walk_range (lo := 0) (n := n.toNat)) (Cw H1 (fun _ => true) f Dl) ⟨hD, Ex.new hD, upd_same⟩ (fun _ _ _ _ => trivial) (fun i x H' H'' hi p hy => ?_) fun H' p => q Dl H' (fresh_back e1 p.1) (e1.trans p.2.1) p.2.2
  obtain ⟨rfl, rfl⟩ := hy
  show gName j (.int (0 + (i : Int))) _ _ _
  rw [Int.zero_add]
  exact ⟨hw _, cw_turn p (by omega) et_yes fun _ => he i H1 (e.trans e1) (by omega)⟩
theorem el_is {xs ys : List V} (h : EvL te σ H xs) (e : xs = ys) : EvL te σ H ys := by rw [← e]; exact h
theorem tps_rep {H : Hp} {q : Addr} {i j : Int} (h : SqT K H q [.int i, .int j]) : ∀ n, Tps K H (List.replicate n (.ref q)) (List.replicate n (i, j))
  | 0 => .nil
  | n + 1 => .cons h (tps_rep h n)
end
/-- the long row -/
def rowB : List Int := List.replicate 999 1 ++ [2]
theorem rowB_big : 0 < (back rowB 1).1 ∧ (back rowB 1).1.natAbs < 2 ^ 4000 ∧ (1 : Int) * 2 ^ (600 : Int).toNat < (back rowB 1).2 := by decide +kernel
theorem rowB_mem {x : Int} (h : x ∈ rowB) : x = 1 ∨ x = 2 := by
  unfold rowB at h
  rcases List.mem_append.mp h with z | z
  · exact .inl (List.mem_replicate.mp z).2
  · exact .inr (List.mem_singleton.mp z)
theorem rowB_len : rowB.length = 1000 := by unfold rowB; rw [List.length_append, List.length_replicate]; rfl
theorem rowB_good : GoodRow rowB := good_of2 (good_snoc (by decide) fun x hx => by rw [(List.mem_replicate.mp hx).2]; decide)
theorem rowB_map : (List.replicate (999 : Int).toNat [V.int 1]).flatten ++ [V.int 2] = rowB.map V.int := by
  unfold rowB
  rw [flat1, List.map_append, List.map_replicate]
  rfl
theorem sum_ones : KG.sumF (List.replicate 100 ((1, 1) : Int × Int)) = 0 := by decide +kernel
theorem sum_none : KG.sumF [] = 0 := rfl
theorem pb_ones : PB 4000 (List.replicate 100 ((1, 1) : Int × Int)) := fun p hp => by
  rw [(List.mem_replicate.mp hp).2]
  exact ⟨by decide, by decide, (W.small (x := 1) (by decide) (by decide)).mono (by decide), (W.small (x := 1) (by decide) (by decide)).mono (by decide)⟩
section
variable {P : Program} {w : World} {K : PySem.W.Frag} {mg : Str → Option Value} {base : Heap}
theorem ok_law {f : Addr} {fd : FuncData} (F : Fun K "law" "law" s_law f fd) (T : Txt K mg base) : FnOk P w K mg base CX0 11 f fd ["_law_script"] (sp_law K [T.z_is_row.P, T.z_is_list_of_pairs.P]) := by
  refine F.ok sc_law (fun vs H Q E h => ?_) (fun cdv A outer s H vs Q E hr h => ?_)
  · obtain ⟨a, ns, rfl, _⟩ := h; rfl
  · obtain ⟨a, ns, rfl, hS, hl, hW, hTP, q⟩ := h
    have hT0 : H T.z_is_row.P = some (GG.tabO T.z_is_row.P) := hTP _ (by simp)
    have hT1 : H T.z_is_list_of_pairs.P = some (GG.tabO T.z_is_list_of_pairs.P) := hTP _ (by simp)
    refine ⟨_, (pss_cons (ps_for PassesOwn.never rfl (pi_list (pv 0)) (pg_name (i := 1) sc_law.nd rfl (by first | exact .inl rfl | exact .inr rfl)) (pss_cons (ps_set (i := 2) sc_law.nd rfl (by first | exact .inl rfl | exact .inr rfl) (pe_op op_mod (pv 1) pe_int))
      (pss_cons (ps_set (i := 3) sc_law.nd rfl (by first | exact .inl rfl | exact .inr rfl) (pe_op op_cat (pe_lc (own := [("_law_at", 4)]) (g := gName 4) (tt := tYes) rfl sc_law.nd (pi_range1 (by rfl) T.n_range (pa_cons pe_int pa_nil)) (blkOk_by (own := [("_law_at", 4)]) (N := ["_law_script", "_law_cell", "_law_kind", "_law_due", "_law_at"]) (sc := defScope s_law) (by decide +kernel)) (fun _ _ _ _ _ => pg_name (i := 4) sc_law.nd rfl (Or.inl rfl)) (fun _ _ _ _ _ => pts_nil) (fun _ _ _ _ _ => (pe_cmpR op_eq (pv 2) (pv 4) (nomark _)))) (pe_lst (pa_cons pe_bl pa_nil))))
      (pss_one (ps_if (pt_cmpR (op_neD hr.units) (pe_call (ok_l_told T) (hr.mono (by omega)) (by rfl) T.l_told.g T.l_told.F.kp T.l_told.b .nil pass0 (pa_cons (pv 2) (pa_cons (pe_op op_mod (pe_op op_fdivW (pv 1) pe_int) pe_int) (pa_cons (pe_op op_mod (pe_op op_fdivW (pv 1) pe_int) pe_int) pa_nil)))) (pv 3) (nomark _)) (pss_one (ps_ret pe_bl)) pss_nil)))))
      (pss_one (ps_ret (pe_and (pe_cmpR op_eq (pe_call (ok_most T) (hr.mono (by omega)) (by rfl) T.most.g T.most.F.kp T.most.b .nil pass0 (pa_cons (pe_tup (pa_cons pe_int (pa_cons pe_int pa_nil))) pa_nil)) pe_int (nomark _)) (pe_and (pe_cmpR op_gt (pe_ix ix_tup (pe_call (ok_pair_of T) (hr.mono (by omega)) (by rfl) T.pair_of.g T.pair_of.F.kp T.pair_of.b .nil pass0 (pa_cons (pe_op op_cat (pe_op op_rep (pe_lst (pa_cons pe_int pa_nil)) pe_int) (pe_lst (pa_cons pe_int pa_nil))) (pa_cons pe_int pa_nil))) pe_int (fun _ _ => rfl)) (pe_op op_shlW pe_int pe_int) (nomark _)) (pe_one (pe_cmpR op_is_bl (pe_meth2 (pe_call (ok_told T) (hr.mono (by omega)) (by rfl) T.told.g T.told.F.kp T.told.b .nil pass0 (pa_cons (pe_op op_rep (pe_lst (pa_cons (pe_tup (pa_cons pe_int (pa_cons pe_int pa_nil))) pa_nil)) pe_int) pa_nil)) T.Lost.cl T.Won.cl T.Lost_shows.m T.Won_shows.m (ok_Lost_shows T) (ok_Won_shows T) (hr.mono (by omega)) (hr.mono (by omega)) T.Lost_shows.b T.Won_shows.b pass0 (pa_cons (pe_lst pa_nil) pa_nil)) pe_bl (nomark _)))))))), ?_⟩
    refine q_forLn (ev_var rfl) hS (fun i σ' H' => ∃ y1 y2 y3, σ' = [some (.ref a), y1, y2, y3, none] ∧ Ex H H') (fun H1 e1 => ⟨none, none, none, rfl, e1⟩) (fun i σ' H' _ ⟨_, _, _, _, e⟩ => ex_l e hS) (fun i x σ' H' hi hI => ?_) fun σ' H' hI => ?_
    · obtain ⟨y1, y2, y3, rfl, ex⟩ := hI
      obtain ⟨c, rfl⟩ : ∃ c : Int, x = .int c := by
        rw [List.getElem?_map] at hi
        cases hx : ns[i]? with
        | none => rw [hx] at hi; cases hi
        | some n => rw [hx] at hi; exact ⟨n, (Option.some.inj hi).symm⟩
      have k0 := Int.emod_nonneg c (show (4 : Int) ≠ 0 by decide)
      have k1 := Int.emod_lt_of_pos c (show (0 : Int) < 4 by decide)
      have w0 := Int.emod_nonneg (c / 4) (show (100000 : Int) ≠ 0 by decide)
      have m0 := Int.emod_nonneg (c / 400000) (show (1000 : Int) ≠ 0 by decide)
      have m1 := Int.emod_lt_of_pos (c / 400000) (show (0 : Int) < 1000 by decide)
      refine q_asg (ev_op (ev_var rfl) ev_c (rv_I (by decide))) fun H1 e1 => ?_
      refine q_asgL (xs := [decide (c % 4 = 0), decide (c % 4 = 1), decide (c % 4 = 2), decide (c % 4 = 3), true].map V.bl)
        (el_cat (xs := [decide (c % 4 = 0), decide (c % 4 = 1), decide (c % 4 = 2), decide (c % 4 = 3)].map V.bl) (el_compR1 (fun i => .bl (decide (c % 4 = (i : Int)))) (ea_cons ev_c ea_nil) ⟨by decide, by decide⟩ (fun x => rfl) fun i H2 e2 hi => ev_is (ev_op (ev_var rfl) (ev_var rfl) (rv_eq rfl)) ?_) (el_lst (ea_cons ev_c ea_nil) (Nat.le_of_ble_eq_true rfl)) (Nat.le_of_ble_eq_true rfl)) fun d H2 _ e2 h2 => ?_
      · exact congrArg V.bl (decide_eq_decide.mpr ⟨fun z => V.int.inj z, fun z => congrArg V.int z⟩)
      · have e12 := (ex.trans e1).trans e2
        refine s_when (b := false) (et_test (ev_opSv (P := fun v H' => ∃ p, v = .ref p ∧ H' p = some (.lst ([decide (c % 4 = 0), decide (c % 4 = 1), decide (c % 4 = 2), decide (c % 4 = 3), true].map V.bl)))
          (es_call (ea_cons (ev_var rfl) (ea_cons (ev_op (ev_op (ev_var rfl) ev_c (rv_I (cd_small (by decide) (by decide)))) ev_c (rv_I (by decide))) (ea_cons (ev_op (ev_op (ev_var rfl) ev_c (rv_I (cd_small (by decide) (by decide)))) ev_c (rv_I (by decide))) ea_nil)))
            fun H3 e3 Q' q' E' => ⟨_, _, _, rfl, k0, k1, w0, m0, m1, (e12.trans e3) _ _ hT0, (e12.trans e3) _ _ hT1, fun p H4 e4 h4 => q' _ H4 e4 ⟨p, rfl, h4⟩⟩)
          (ev_var rfl) fun v H3 e3 ⟨p, ev, h3⟩ => by rw [ev]; exact rv_ne5 (sq_of h3) (sq_of (e3 _ _ h2)))) (fun z => nomatch z) fun _ H3 e3 => ⟨_, _, _, rfl, e12.trans e3⟩
    · obtain ⟨y1, y2, y3, rfl, ex⟩ := hI
      obtain ⟨g1, g2, g3⟩ := rowB_big
      have hne := won_ne_lost T
      have gT0 := ex _ _ hT0
      have gT1 := ex _ _ hT1
      have s2 : Stable (fun v H' => ∃ q, v = V.ref q ∧ SqT K H' q [.int 1, .int 1]) := fun _ _ _ e ⟨b, h, s⟩ => ⟨b, h, ex_t e s⟩
      refine s_ret (v := .bl true) (ev_andV (a := true) (b := true) (ev_is (ev_op (ev_callU (eu_tup (ea_cons ev_c (ea_cons ev_c ea_nil)) (Nat.le_of_ble_eq_true rfl)) fun p H1 h1 _ => spv_most (st_of h1) (Big.small (x := 1) (by decide) (by decide)) (Big.small (x := 1) (by decide) (by decide))) ev_c (rv_eq rfl)) (by decide +kernel))
        fun _ => ev_andV (a := true) (b := true) (ev_is (ev_op (ev_opU1 (eu_callL2 (xs := rowB.map V.int) ?row ev_c fun p H1 h1 e1 => spu_pair_of (sq_of h1) rowB_good (by rw [rowB_len]; decide) (c := 1) (by decide) ⟨g1, g2⟩ (fun x hx => (rowB_mem hx).elim (fun z => by rw [z]; exact Big.small (by decide) (by decide)) fun z => by rw [z]; exact Big.small (by decide) (by decide)) (e1 _ _ gT0)) ev_c fun p H1 h1 _ => rv_ixT (v := .int (back rowB 1).2) (st_of h1) rfl) (ev_op ev_c ev_c (rv_I (shl_ok (i := 1) (j := 600) (n := 1) (by decide) (by decide)))) rv_I0) (congrArg V.bl (decide_eq_true g3)))
        fun _ => ev_is (ev_op (ev_showsS (K := K) (ps := []) hne (es_imp (es_callAS (R := IsTold T.Lost.C T.Won.C (List.replicate 100 (1, 1))) (P := fun vs H' => ∃ v ws, vs = v :: ws ∧ (∃ l y, v = V.ref l ∧ H' l = some (.lst (List.replicate 100 y)) ∧ ∃ q, y = V.ref q ∧ SqT K H' q [.int 1, .int 1]) ∧ ws = [])
            (eas_cons (es_rep1 (k := 100) s2 (es_u (eu_tup (ea_cons ev_c (ea_cons ev_c ea_nil)) (Nat.le_of_ble_eq_true rfl)) fun p H1 e h => ⟨p, rfl, st_of h⟩) ev_c (by decide) (by decide)) (fun _ _ _ e ⟨l, y, h1, h2, h3⟩ => ⟨l, y, h1, e _ _ h2, s2 _ _ _ e h3⟩) eas_nil)
            fun vs H1 e1 ⟨v, ws, ev, ⟨l, y, el, hl2, b, ey, hb⟩, ew⟩ => by
              rw [ev, el, ew]
              rw [ey] at hl2
              exact sps_told (K := K) (ps := List.replicate 100 (1, 1)) ⟨_, sq_of hl2, tps_rep hb 100⟩ pb_ones (by rw [List.length_replicate]; decide) (e1 _ _ gT1))
          (P' := fun v H' => ∃ aa, v = .ref aa ∧ AnsAt T.Lost.C T.Won.C H' aa .lost) fun v H1 e1 ⟨aa, An, ev, hA, hT⟩ => ⟨aa, ev, by
            cases An with
            | lost => exact hA
            | won i t =>
              have z : false = decide (KG.sumF (List.replicate 100 ((1, 1) : Int × Int)) = 0) := hT.2
              rw [sum_ones] at z
              cases z⟩) (es_P (ep_lst eap_nil (Nat.le_of_ble_eq_true rfl))) (fun p hp => nomatch hp) (Nat.le_of_ble_eq_true rfl)) ev_c (fun H1 _ Q q => ⟨_, _, rfl, rfl, q H1 (Ex.refl H1)⟩)) rfl)
        fun H2 e2 => q H2 fun p hp => by
          simp only [List.mem_cons, List.not_mem_nil, or_false] at hp
          rcases hp with rfl | rfl
          · exact e2 _ _ gT0
          · exact e2 _ _ gT1
      exact el_is (el_cat (el_rep (k := 999) (el_lst (ea_cons ev_c ea_nil) (Nat.le_of_ble_eq_true rfl)) ev_c (by decide) (by decide) (by show 1 * 999 ≤ 100000; decide)) (el_lst (ea_cons ev_c ea_nil) (Nat.le_of_ble_eq_true rfl)) (by rw [flat1, List.length_replicate]; show 999 + 1 ≤ 100000; decide)) rowB_map
end
end Mt

set_option Elab.async false
set_option linter.all false
set_option maxRecDepth 100000
set_option maxHeartbeats 4000000
namespace Mt
open PySem PySem.Spec PyProof.Rows L2
theorem all_mk {l : PySem.W.OpenLaw} {w : World} {K : PySem.W.Frag} {h : Heap} {mg : Str → Option Value} {fa f0 f1 f2 f3 f4 f5 f6 f7 f8 f9 f10 f11 f12 f13 f14 f15 CLost CWon f18 f19 f20 f21 f22 CTimesError CBadPair CBadTaking CBadRow CBadPairs f28 f29 f30 f31 f32 : Addr} (X : K.In h) (G : h.Ns mainGlobals mg) (hfa : mg "law" = some (.ref fa))
    {od0 an0 od1 an1 od2 an2 od3 an3 od4 an4 od5 an5 od6 an6 od7 an7 od8 an8 od9 an9 od10 an10 od11 an11 od12 an12 od13 an13 od14 an14 od15 an15 od18 an18 od19 an19 od20 an20 od21 an21 od22 an22 od28 an28 od29 an29 od30 an30 od31 an31 od32 an32 : Option Addr} {sl0 sl1 sl2 sl3 sl4 sl5 sl6 sl7 sl8 sl9 sl10 sl11 sl12 sl13 sl14 sl15 sl18 sl19 sl20 sl21 sl22 sl28 sl29 sl30 sl31 sl32 : Array (Option Value)} {oc0 kV0 dc0 pm0 cd0 ct0 oc1 kV1 dc1 pm1 cd1 ct1 oc2 kV2 dc2 pm2 cd2 ct2 oc3 kV3 dc3 pm3 cd3 ct3 oc4 kV4 dc4 pm4 cd4 ct4 oc5 kV5 dc5 pm5 cd5 ct5 oc6 kV6 dc6 pm6 cd6 ct6 oc7 kV7 dc7 pm7 cd7 ct7 oc8 kV8 dc8 pm8 cd8 ct8 oc9 kV9 dc9 pm9 cd9 ct9 oc10 kV10 dc10 pm10 cd10 ct10 oc11 kV11 dc11 pm11 cd11 ct11 oc12 kV12 dc12 pm12 cd12 ct12 oc13 kV13 dc13 pm13 cd13 ct13 oc14 kV14 dc14 pm14 cd14 ct14 oc15 kV15 dc15 pm15 cd15 ct15 oc18 kV18 dc18 pm18 cd18 ct18 oc19 kV19 dc19 pm19 cd19 ct19 oc20 kV20 dc20 pm20 cd20 ct20 oc21 kV21 dc21 pm21 cd21 ct21 oc22 kV22 dc22 pm22 cd22 ct22 oc28 kV28 dc28 pm28 cd28 ct28 oc29 kV29 dc29 pm29 cd29 ct29 oc30 kV30 dc30 pm30 cd30 ct30 oc31 kV31 dc31 pm31 cd31 ct31 oc32 kV32 dc32 pm32 cd32 ct32 : Value} {tk_LONGEST_ROW tk_MOST_PAIRS : Tok} {cs : List (Addr × Addr)} (hcs : Paired (fun y p => GG.TabOf K mg h y p.1 p.2) [(PySem.Str.ofString "is_row"), (PySem.Str.ofString "is_list_of_pairs")] cs)
    (a0 : PySem.W.nsIn K mainGlobals "is_whole" = some (some (.ref f0)))
    (l0 : K.lookup f0 = some ⟨oc0, od0, .func (PySem.W.fnOf "is_whole" "is_whole" (defArgs s_is_whole) (defBody s_is_whole) (defScope s_is_whole) .none kV0 dc0 pm0 an0 cd0 ct0), sl0⟩)
    (c0 : PySem.W.codeIn K cd0 "is_whole" = true)
    (k0 : PySem.W.keepIn K (.ref f0) = true)
    (a1 : PySem.W.nsIn K mainGlobals "is_above_zero" = some (some (.ref f1)))
    (l1 : K.lookup f1 = some ⟨oc1, od1, .func (PySem.W.fnOf "is_above_zero" "is_above_zero" (defArgs s_is_above_zero) (defBody s_is_above_zero) (defScope s_is_above_zero) .none kV1 dc1 pm1 an1 cd1 ct1), sl1⟩)
    (c1 : PySem.W.codeIn K cd1 "is_above_zero" = true)
    (k1 : PySem.W.keepIn K (.ref f1) = true)
    (a2 : PySem.W.nsIn K mainGlobals "is_pair" = some (some (.ref f2)))
    (l2 : K.lookup f2 = some ⟨oc2, od2, .func (PySem.W.fnOf "is_pair" "is_pair" (defArgs s_is_pair) (defBody s_is_pair) (defScope s_is_pair) .none kV2 dc2 pm2 an2 cd2 ct2), sl2⟩)
    (c2 : PySem.W.codeIn K cd2 "is_pair" = true)
    (k2 : PySem.W.keepIn K (.ref f2) = true)
    (a3 : PySem.W.nsIn K mainGlobals "lesser_and_greater" = some (some (.ref f3)))
    (l3 : K.lookup f3 = some ⟨oc3, od3, .func (PySem.W.fnOf "lesser_and_greater" "lesser_and_greater" (defArgs s_lesser_and_greater) (defBody s_lesser_and_greater) (defScope s_lesser_and_greater) .none kV3 dc3 pm3 an3 cd3 ct3), sl3⟩)
    (c3 : PySem.W.codeIn K cd3 "lesser_and_greater" = true)
    (k3 : PySem.W.keepIn K (.ref f3) = true)
    (a4 : PySem.W.nsIn K mainGlobals "most" = some (some (.ref f4)))
    (l4 : K.lookup f4 = some ⟨oc4, od4, .func (PySem.W.fnOf "most" "most" (defArgs s_most) (defBody s_most) (defScope s_most) .none kV4 dc4 pm4 an4 cd4 ct4), sl4⟩)
    (c4 : PySem.W.codeIn K cd4 "most" = true)
    (k4 : PySem.W.keepIn K (.ref f4) = true)
    (a5 : PySem.W.nsIn K mainGlobals "is_taking" = some (some (.ref f5)))
    (l5 : K.lookup f5 = some ⟨oc5, od5, .func (PySem.W.fnOf "is_taking" "is_taking" (defArgs s_is_taking) (defBody s_is_taking) (defScope s_is_taking) .none kV5 dc5 pm5 an5 cd5 ct5), sl5⟩)
    (c5 : PySem.W.codeIn K cd5 "is_taking" = true)
    (k5 : PySem.W.keepIn K (.ref f5) = true)
    (a6 : PySem.W.nsIn K mainGlobals "taken" = some (some (.ref f6)))
    (l6 : K.lookup f6 = some ⟨oc6, od6, .func (PySem.W.fnOf "taken" "taken" (defArgs s_taken) (defBody s_taken) (defScope s_taken) .none kV6 dc6 pm6 an6 cd6 ct6), sl6⟩)
    (c6 : PySem.W.codeIn K cd6 "taken" = true)
    (k6 : PySem.W.keepIn K (.ref f6) = true)
    (a7 : PySem.W.nsIn K mainGlobals "worth" = some (some (.ref f7)))
    (l7 : K.lookup f7 = some ⟨oc7, od7, .func (PySem.W.fnOf "worth" "worth" (defArgs s_worth) (defBody s_worth) (defScope s_worth) .none kV7 dc7 pm7 an7 cd7 ct7), sl7⟩)
    (c7 : PySem.W.codeIn K cd7 "worth" = true)
    (k7 : PySem.W.keepIn K (.ref f7) = true)
    (a8 : PySem.W.nsIn K mainGlobals "quotients" = some (some (.ref f8)))
    (l8 : K.lookup f8 = some ⟨oc8, od8, .func (PySem.W.fnOf "quotients" "quotients" (defArgs s_quotients) (defBody s_quotients) (defScope s_quotients) .none kV8 dc8 pm8 an8 cd8 ct8), sl8⟩)
    (c8 : PySem.W.codeIn K cd8 "quotients" = true)
    (k8 : PySem.W.keepIn K (.ref f8) = true)
    (a9 : PySem.W.nsIn K mainGlobals "is_row" = some (some (.ref f9)))
    (l9 : K.lookup f9 = some ⟨oc9, od9, .func (PySem.W.fnOf "is_row" "is_row" (defArgs s_is_row) (defBody s_is_row) (defScope s_is_row) .none kV9 dc9 pm9 an9 cd9 ct9), sl9⟩)
    (c9 : PySem.W.codeIn K cd9 "is_row" = true)
    (k9 : PySem.W.keepIn K (.ref f9) = true)
    (a10 : PySem.W.nsIn K mainGlobals "pair_of" = some (some (.ref f10)))
    (l10 : K.lookup f10 = some ⟨oc10, od10, .func (PySem.W.fnOf "pair_of" "pair_of" (defArgs s_pair_of) (defBody s_pair_of) (defScope s_pair_of) .none kV10 dc10 pm10 an10 cd10 ct10), sl10⟩)
    (c10 : PySem.W.codeIn K cd10 "pair_of" = true)
    (k10 : PySem.W.keepIn K (.ref f10) = true)
    (a11 : PySem.W.nsIn K mainGlobals "shortest" = some (some (.ref f11)))
    (l11 : K.lookup f11 = some ⟨oc11, od11, .func (PySem.W.fnOf "shortest" "shortest" (defArgs s_shortest) (defBody s_shortest) (defScope s_shortest) .none kV11 dc11 pm11 an11 cd11 ct11), sl11⟩)
    (c11 : PySem.W.codeIn K cd11 "shortest" = true)
    (k11 : PySem.W.keepIn K (.ref f11) = true)
    (a12 : PySem.W.nsIn K mainGlobals "longest" = some (some (.ref f12)))
    (l12 : K.lookup f12 = some ⟨oc12, od12, .func (PySem.W.fnOf "longest" "longest" (defArgs s_longest) (defBody s_longest) (defScope s_longest) .none kV12 dc12 pm12 an12 cd12 ct12), sl12⟩)
    (c12 : PySem.W.codeIn K cd12 "longest" = true)
    (k12 : PySem.W.keepIn K (.ref f12) = true)
    (a13 : PySem.W.nsIn K mainGlobals "taking_to_worth" = some (some (.ref f13)))
    (l13 : K.lookup f13 = some ⟨oc13, od13, .func (PySem.W.fnOf "taking_to_worth" "taking_to_worth" (defArgs s_taking_to_worth) (defBody s_taking_to_worth) (defScope s_taking_to_worth) .none kV13 dc13 pm13 an13 cd13 ct13), sl13⟩)
    (c13 : PySem.W.codeIn K cd13 "taking_to_worth" = true)
    (k13 : PySem.W.keepIn K (.ref f13) = true)
    (a14 : PySem.W.nsIn K mainGlobals "all_together" = some (some (.ref f14)))
    (l14 : K.lookup f14 = some ⟨oc14, od14, .func (PySem.W.fnOf "all_together" "all_together" (defArgs s_all_together) (defBody s_all_together) (defScope s_all_together) .none kV14 dc14 pm14 an14 cd14 ct14), sl14⟩)
    (c14 : PySem.W.codeIn K cd14 "all_together" = true)
    (k14 : PySem.W.keepIn K (.ref f14) = true)
    (a15 : PySem.W.nsIn K mainGlobals "is_lost" = some (some (.ref f15)))
    (l15 : K.lookup f15 = some ⟨oc15, od15, .func (PySem.W.fnOf "is_lost" "is_lost" (defArgs s_is_lost) (defBody s_is_lost) (defScope s_is_lost) .none kV15 dc15 pm15 an15 cd15 ct15), sl15⟩)
    (c15 : PySem.W.codeIn K cd15 "is_lost" = true)
    (k15 : PySem.W.keepIn K (.ref f15) = true)
    (g_Lost : PySem.W.nsIn K mainGlobals "Lost" = some (some (.ref CLost)))
    (pg_Lost : PySem.W.plainGet K CLost Str.empty = true)
    (hd_Lost : PySem.W.hasDictIn K CLost = true)
    (po_Lost : PySem.W.plainOver K CLost = true)
    (sa_Lost : PySem.W.findIn K (.ref CLost) "__setattr__" = some (some (.builtin "object.__setattr__")))
    (ha_Lost : PySem.W.findIn K (.ref CLost) "__class__" = some (some (.builtin "object.__class__")))
    (hn_Lost : PySem.W.specialIn K (.builtin "object.__class__") "__get__" = some (some (.builtin "getset_descriptor.__get__")))
    (ht_Lost : PySem.W.takesIn K (.builtin "object.__class__") = some true)
    (hm_Lost : PySem.W.mroIn K CLost (.type "object") = some true)
    (mm_Lost : PySem.W.makesIn K CLost = true)
    (kk_Lost : PySem.W.keepIn K (.ref CLost) = true)
    (mi_Lost : PySem.W.findIn K (.ref CLost) "__init__" = some (some (.builtin "object.__init__")))
    (g_Won : PySem.W.nsIn K mainGlobals "Won" = some (some (.ref CWon)))
    (pg_Won : PySem.W.plainGet K CWon Str.empty = true)
    (hd_Won : PySem.W.hasDictIn K CWon = true)
    (po_Won : PySem.W.plainOver K CWon = true)
    (sa_Won : PySem.W.findIn K (.ref CWon) "__setattr__" = some (some (.builtin "object.__setattr__")))
    (ha_Won : PySem.W.findIn K (.ref CWon) "__class__" = some (some (.builtin "object.__class__")))
    (hn_Won : PySem.W.specialIn K (.builtin "object.__class__") "__get__" = some (some (.builtin "getset_descriptor.__get__")))
    (ht_Won : PySem.W.takesIn K (.builtin "object.__class__") = some true)
    (hm_Won : PySem.W.mroIn K CWon (.type "object") = some true)
    (mm_Won : PySem.W.makesIn K CWon = true)
    (kk_Won : PySem.W.keepIn K (.ref CWon) = true)
    (nn_Won_at : PySem.W.findIn K (.ref CWon) "at" = some none)
    (nn_Won_times : PySem.W.findIn K (.ref CWon) "times" = some none)
    (a18 : PySem.W.findIn K (.ref CLost) "shows" = some (some (.ref f18)))
    (i18 : PySem.W.isFn K (.ref f18) = true)
    (l18 : K.lookup f18 = some ⟨oc18, od18, .func (PySem.W.fnOf "shows" "Lost.shows" (defArgs s_Lost_shows) (defBody s_Lost_shows) (defScope s_Lost_shows) .none kV18 dc18 pm18 an18 cd18 ct18), sl18⟩)
    (c18 : PySem.W.codeIn K cd18 "Lost.shows" = true)
    (k18 : PySem.W.keepIn K (.ref f18) = true)
    (a19 : PySem.W.findIn K (.ref CWon) "__init__" = some (some (.ref f19)))
    (i19 : PySem.W.isFn K (.ref f19) = true)
    (l19 : K.lookup f19 = some ⟨oc19, od19, .func (PySem.W.fnOf "__init__" "Won.__init__" (defArgs s_Won_init) (defBody s_Won_init) (defScope s_Won_init) .none kV19 dc19 pm19 an19 cd19 ct19), sl19⟩)
    (c19 : PySem.W.codeIn K cd19 "Won.__init__" = true)
    (k19 : PySem.W.keepIn K (.ref f19) = true)
    (a20 : PySem.W.findIn K (.ref CWon) "shows" = some (some (.ref f20)))
    (i20 : PySem.W.isFn K (.ref f20) = true)
    (l20 : K.lookup f20 = some ⟨oc20, od20, .func (PySem.W.fnOf "shows" "Won.shows" (defArgs s_Won_shows) (defBody s_Won_shows) (defScope s_Won_shows) .none kV20 dc20 pm20 an20 cd20 ct20), sl20⟩)
    (c20 : PySem.W.codeIn K cd20 "Won.shows" = true)
    (k20 : PySem.W.keepIn K (.ref f20) = true)
    (a21 : PySem.W.nsIn K mainGlobals "is_list_of_pairs" = some (some (.ref f21)))
    (l21 : K.lookup f21 = some ⟨oc21, od21, .func (PySem.W.fnOf "is_list_of_pairs" "is_list_of_pairs" (defArgs s_is_list_of_pairs) (defBody s_is_list_of_pairs) (defScope s_is_list_of_pairs) .none kV21 dc21 pm21 an21 cd21 ct21), sl21⟩)
    (c21 : PySem.W.codeIn K cd21 "is_list_of_pairs" = true)
    (k21 : PySem.W.keepIn K (.ref f21) = true)
    (a22 : PySem.W.nsIn K mainGlobals "told" = some (some (.ref f22)))
    (l22 : K.lookup f22 = some ⟨oc22, od22, .func (PySem.W.fnOf "told" "told" (defArgs s_told) (defBody s_told) (defScope s_told) .none kV22 dc22 pm22 an22 cd22 ct22), sl22⟩)
    (c22 : PySem.W.codeIn K cd22 "told" = true)
    (k22 : PySem.W.keepIn K (.ref f22) = true)
    (g_TimesError : PySem.W.nsIn K mainGlobals "TimesError" = some (some (.ref CTimesError)))
    (exc_TimesError : PySem.W.excIn K CTimesError [.type "ValueError", .type "Exception", .type "BaseException", .type "object"] "ValueError.__new__" = true)
    (kk_TimesError : PySem.W.keepIn K (.ref CTimesError) = true)
    (ty_TimesError : PySem.W.typeIn K (.ref CTimesError) = some (.type "type"))
    (eg_TimesError : PySem.W.findIn K (.ref CTimesError) "__getattribute__" = some (some (.builtin "BaseException.__getattribute__")))
    (ek_TimesError : PySem.W.findIn K (.ref CTimesError) "__getattr__" = some none)
    (es_TimesError : PySem.W.subIn K (.ref CTimesError) (.type "BaseException") = some true)
    (hd_TimesError : PySem.W.hasDictIn K CTimesError = true)
    (ha_TimesError : PySem.W.findIn K (.ref CTimesError) "__class__" = some (some (.builtin "object.__class__")))
    (hn_TimesError : PySem.W.specialIn K (.builtin "object.__class__") "__get__" = some (some (.builtin "getset_descriptor.__get__")))
    (ht_TimesError : PySem.W.takesIn K (.builtin "object.__class__") = some true)
    (hm_TimesError : PySem.W.mroIn K CTimesError (.type "object") = some true)
    (g_BadPair : PySem.W.nsIn K mainGlobals "BadPair" = some (some (.ref CBadPair)))
    (exc_BadPair : PySem.W.excIn K CBadPair [.type "ValueError", .type "Exception", .type "BaseException", .type "object"] "ValueError.__new__" = true)
    (kk_BadPair : PySem.W.keepIn K (.ref CBadPair) = true)
    (ty_BadPair : PySem.W.typeIn K (.ref CBadPair) = some (.type "type"))
    (eg_BadPair : PySem.W.findIn K (.ref CBadPair) "__getattribute__" = some (some (.builtin "BaseException.__getattribute__")))
    (ek_BadPair : PySem.W.findIn K (.ref CBadPair) "__getattr__" = some none)
    (es_BadPair : PySem.W.subIn K (.ref CBadPair) (.type "BaseException") = some true)
    (hd_BadPair : PySem.W.hasDictIn K CBadPair = true)
    (ha_BadPair : PySem.W.findIn K (.ref CBadPair) "__class__" = some (some (.builtin "object.__class__")))
    (hn_BadPair : PySem.W.specialIn K (.builtin "object.__class__") "__get__" = some (some (.builtin "getset_descriptor.__get__")))
    (ht_BadPair : PySem.W.takesIn K (.builtin "object.__class__") = some true)
    (hm_BadPair : PySem.W.mroIn K CBadPair (.type "object") = some true)
    (g_BadTaking : PySem.W.nsIn K mainGlobals "BadTaking" = some (some (.ref CBadTaking)))
    (exc_BadTaking : PySem.W.excIn K CBadTaking [.type "ValueError", .type "Exception", .type "BaseException", .type "object"] "ValueError.__new__" = true)
    (kk_BadTaking : PySem.W.keepIn K (.ref CBadTaking) = true)
    (ty_BadTaking : PySem.W.typeIn K (.ref CBadTaking) = some (.type "type"))
    (eg_BadTaking : PySem.W.findIn K (.ref CBadTaking) "__getattribute__" = some (some (.builtin "BaseException.__getattribute__")))
    (ek_BadTaking : PySem.W.findIn K (.ref CBadTaking) "__getattr__" = some none)
    (es_BadTaking : PySem.W.subIn K (.ref CBadTaking) (.type "BaseException") = some true)
    (hd_BadTaking : PySem.W.hasDictIn K CBadTaking = true)
    (ha_BadTaking : PySem.W.findIn K (.ref CBadTaking) "__class__" = some (some (.builtin "object.__class__")))
    (hn_BadTaking : PySem.W.specialIn K (.builtin "object.__class__") "__get__" = some (some (.builtin "getset_descriptor.__get__")))
    (ht_BadTaking : PySem.W.takesIn K (.builtin "object.__class__") = some true)
    (hm_BadTaking : PySem.W.mroIn K CBadTaking (.type "object") = some true)
    (g_BadRow : PySem.W.nsIn K mainGlobals "BadRow" = some (some (.ref CBadRow)))
    (exc_BadRow : PySem.W.excIn K CBadRow [.type "ValueError", .type "Exception", .type "BaseException", .type "object"] "ValueError.__new__" = true)
    (kk_BadRow : PySem.W.keepIn K (.ref CBadRow) = true)
    (ty_BadRow : PySem.W.typeIn K (.ref CBadRow) = some (.type "type"))
    (eg_BadRow : PySem.W.findIn K (.ref CBadRow) "__getattribute__" = some (some (.builtin "BaseException.__getattribute__")))
    (ek_BadRow : PySem.W.findIn K (.ref CBadRow) "__getattr__" = some none)
    (es_BadRow : PySem.W.subIn K (.ref CBadRow) (.type "BaseException") = some true)
    (hd_BadRow : PySem.W.hasDictIn K CBadRow = true)
    (ha_BadRow : PySem.W.findIn K (.ref CBadRow) "__class__" = some (some (.builtin "object.__class__")))
    (hn_BadRow : PySem.W.specialIn K (.builtin "object.__class__") "__get__" = some (some (.builtin "getset_descriptor.__get__")))
    (ht_BadRow : PySem.W.takesIn K (.builtin "object.__class__") = some true)
    (hm_BadRow : PySem.W.mroIn K CBadRow (.type "object") = some true)
    (g_BadPairs : PySem.W.nsIn K mainGlobals "BadPairs" = some (some (.ref CBadPairs)))
    (exc_BadPairs : PySem.W.excIn K CBadPairs [.type "ValueError", .type "Exception", .type "BaseException", .type "object"] "ValueError.__new__" = true)
    (kk_BadPairs : PySem.W.keepIn K (.ref CBadPairs) = true)
    (ty_BadPairs : PySem.W.typeIn K (.ref CBadPairs) = some (.type "type"))
    (eg_BadPairs : PySem.W.findIn K (.ref CBadPairs) "__getattribute__" = some (some (.builtin "BaseException.__getattribute__")))
    (ek_BadPairs : PySem.W.findIn K (.ref CBadPairs) "__getattr__" = some none)
    (es_BadPairs : PySem.W.subIn K (.ref CBadPairs) (.type "BaseException") = some true)
    (hd_BadPairs : PySem.W.hasDictIn K CBadPairs = true)
    (ha_BadPairs : PySem.W.findIn K (.ref CBadPairs) "__class__" = some (some (.builtin "object.__class__")))
    (hn_BadPairs : PySem.W.specialIn K (.builtin "object.__class__") "__get__" = some (some (.builtin "getset_descriptor.__get__")))
    (ht_BadPairs : PySem.W.takesIn K (.builtin "object.__class__") = some true)
    (hm_BadPairs : PySem.W.mroIn K CBadPairs (.type "object") = some true)
    (a28 : PySem.W.nsIn K mainGlobals "_law_bad_pair" = some (some (.ref f28)))
    (l28 : K.lookup f28 = some ⟨oc28, od28, .func (PySem.W.fnOf "_law_bad_pair" "_law_bad_pair" (defArgs s_l_bad_pair) (defBody s_l_bad_pair) (defScope s_l_bad_pair) .none kV28 dc28 pm28 an28 cd28 ct28), sl28⟩)
    (c28 : PySem.W.codeIn K cd28 "_law_bad_pair" = true)
    (k28 : PySem.W.keepIn K (.ref f28) = true)
    (a29 : PySem.W.nsIn K mainGlobals "_law_with_pair" = some (some (.ref f29)))
    (l29 : K.lookup f29 = some ⟨oc29, od29, .func (PySem.W.fnOf "_law_with_pair" "_law_with_pair" (defArgs s_l_with_pair) (defBody s_l_with_pair) (defScope s_l_with_pair) .none kV29 dc29 pm29 an29 cd29 ct29), sl29⟩)
    (c29 : PySem.W.codeIn K cd29 "_law_with_pair" = true)
    (k29 : PySem.W.keepIn K (.ref f29) = true)
    (a30 : PySem.W.nsIn K mainGlobals "_law_bad_row" = some (some (.ref f30)))
    (l30 : K.lookup f30 = some ⟨oc30, od30, .func (PySem.W.fnOf "_law_bad_row" "_law_bad_row" (defArgs s_l_bad_row) (defBody s_l_bad_row) (defScope s_l_bad_row) .none kV30 dc30 pm30 an30 cd30 ct30), sl30⟩)
    (c30 : PySem.W.codeIn K cd30 "_law_bad_row" = true)
    (k30 : PySem.W.keepIn K (.ref f30) = true)
    (a31 : PySem.W.nsIn K mainGlobals "_law_told" = some (some (.ref f31)))
    (l31 : K.lookup f31 = some ⟨oc31, od31, .func (PySem.W.fnOf "_law_told" "_law_told" (defArgs s_l_told) (defBody s_l_told) (defScope s_l_told) .none kV31 dc31 pm31 an31 cd31 ct31), sl31⟩)
    (c31 : PySem.W.codeIn K cd31 "_law_told" = true)
    (k31 : PySem.W.keepIn K (.ref f31) = true)
    (a32 : PySem.W.nsIn K mainGlobals "law" = some (some (.ref f32)))
    (l32 : K.lookup f32 = some ⟨oc32, od32, .func (PySem.W.fnOf "law" "law" (defArgs s_law) (defBody s_law) (defScope s_law) .none kV32 dc32 pm32 an32 cd32 ct32), sl32⟩)
    (c32 : PySem.W.codeIn K cd32 "law" = true)
    (k32 : PySem.W.keepIn K (.ref f32) = true)
    (sx_BadPair : PySem.W.subIn K (.ref CBadPair) (.ref CTimesError) = some true)
    (kit_v_BadPair : PySem.W.kitOne K (.ref CBadPair) (.type "ValueError") = some true)
    (kit_x_BadPair_BadPair : PySem.W.kitOne K (.ref CBadPair) (.ref CBadPair) = some true)
    (kit_x_BadPair_BadTaking : PySem.W.kitOne K (.ref CBadPair) (.ref CBadTaking) = some false)
    (kit_x_BadPair_BadRow : PySem.W.kitOne K (.ref CBadPair) (.ref CBadRow) = some false)
    (kit_x_BadPair_BadPairs : PySem.W.kitOne K (.ref CBadPair) (.ref CBadPairs) = some false)
    (sx_BadTaking : PySem.W.subIn K (.ref CBadTaking) (.ref CTimesError) = some true)
    (kit_v_BadTaking : PySem.W.kitOne K (.ref CBadTaking) (.type "ValueError") = some true)
    (kit_x_BadTaking_BadPair : PySem.W.kitOne K (.ref CBadTaking) (.ref CBadPair) = some false)
    (kit_x_BadTaking_BadTaking : PySem.W.kitOne K (.ref CBadTaking) (.ref CBadTaking) = some true)
    (kit_x_BadTaking_BadRow : PySem.W.kitOne K (.ref CBadTaking) (.ref CBadRow) = some false)
    (kit_x_BadTaking_BadPairs : PySem.W.kitOne K (.ref CBadTaking) (.ref CBadPairs) = some false)
    (sx_BadRow : PySem.W.subIn K (.ref CBadRow) (.ref CTimesError) = some true)
    (kit_v_BadRow : PySem.W.kitOne K (.ref CBadRow) (.type "ValueError") = some true)
    (kit_x_BadRow_BadPair : PySem.W.kitOne K (.ref CBadRow) (.ref CBadPair) = some false)
    (kit_x_BadRow_BadTaking : PySem.W.kitOne K (.ref CBadRow) (.ref CBadTaking) = some false)
    (kit_x_BadRow_BadRow : PySem.W.kitOne K (.ref CBadRow) (.ref CBadRow) = some true)
    (kit_x_BadRow_BadPairs : PySem.W.kitOne K (.ref CBadRow) (.ref CBadPairs) = some false)
    (sx_BadPairs : PySem.W.subIn K (.ref CBadPairs) (.ref CTimesError) = some true)
    (kit_v_BadPairs : PySem.W.kitOne K (.ref CBadPairs) (.type "ValueError") = some true)
    (kit_x_BadPairs_BadPair : PySem.W.kitOne K (.ref CBadPairs) (.ref CBadPair) = some false)
    (kit_x_BadPairs_BadTaking : PySem.W.kitOne K (.ref CBadPairs) (.ref CBadTaking) = some false)
    (kit_x_BadPairs_BadRow : PySem.W.kitOne K (.ref CBadPairs) (.ref CBadRow) = some false)
    (kit_x_BadPairs_BadPairs : PySem.W.kitOne K (.ref CBadPairs) (.ref CBadPairs) = some true)
    (kit_Lost_Lost : PySem.W.kitOne K (.ref CLost) (.ref CLost) = some true)
    (kit_Lost_Won : PySem.W.kitOne K (.ref CLost) (.ref CWon) = some false)
    (kit_Won_Lost : PySem.W.kitOne K (.ref CWon) (.ref CLost) = some false)
    (kit_Won_Won : PySem.W.kitOne K (.ref CWon) (.ref CWon) = some true)
    (z_ValueError : PySem.W.nsIn K mainGlobals "ValueError" = some none)
    (z_all : PySem.W.nsIn K mainGlobals "all" = some none)
    (z_bool : PySem.W.nsIn K mainGlobals "bool" = some none)
    (z_divmod : PySem.W.nsIn K mainGlobals "divmod" = some none)
    (z_enumerate : PySem.W.nsIn K mainGlobals "enumerate" = some none)
    (z_int : PySem.W.nsIn K mainGlobals "int" = some none)
    (z_isinstance : PySem.W.nsIn K mainGlobals "isinstance" = some none)
    (z_len : PySem.W.nsIn K mainGlobals "len" = some none)
    (z_list : PySem.W.nsIn K mainGlobals "list" = some none)
    (z_range : PySem.W.nsIn K mainGlobals "range" = some none)
    (z_reversed : PySem.W.nsIn K mainGlobals "reversed" = some none)
    (z_sum : PySem.W.nsIn K mainGlobals "sum" = some none)
    (z_tuple : PySem.W.nsIn K mainGlobals "tuple" = some none)
    (z_LONGEST_ROW : PySem.W.nsIn K mainGlobals "LONGEST_ROW" = some (some (.int 1000 tk_LONGEST_ROW)))
    (z_MOST_PAIRS : PySem.W.nsIn K mainGlobals "MOST_PAIRS" = some (some (.int 100 tk_MOST_PAIRS))) :
    ∃ fd : FuncData, (∀ (s : Shared) (v : Value), BindsTo s fd ⟨[v], []⟩ [("_law_script", v)]) ∧ ∀ base : Heap, K.In base → base.Ns mainGlobals mg → (∀ p ∈ cs, GxR.TabB base mg p.1 p.2) → FnOk l.prog w K mg base CX0 11 fa fd ["_law_script"] (sp_law K (cs.map (·.2))) := by
  have e := hfa.symm.trans (PySem.W.mg_of X G a32)
  cases e
  have F0 := fun_mk (st := s_is_whole) l0 c0 k0
  have b0 := F0.binds (ps := ["value"]) fun _ _ _ _ _ _ us hl => match us, hl with | [_], _ => rfl
  have F1 := fun_mk (st := s_is_above_zero) l1 c1 k1
  have b1 := F1.binds (ps := ["value"]) fun _ _ _ _ _ _ us hl => match us, hl with | [_], _ => rfl
  have F2 := fun_mk (st := s_is_pair) l2 c2 k2
  have b2 := F2.binds (ps := ["value"]) fun _ _ _ _ _ _ us hl => match us, hl with | [_], _ => rfl
  have F3 := fun_mk (st := s_lesser_and_greater) l3 c3 k3
  have b3 := F3.binds (ps := ["pair"]) fun _ _ _ _ _ _ us hl => match us, hl with | [_], _ => rfl
  have F4 := fun_mk (st := s_most) l4 c4 k4
  have b4 := F4.binds (ps := ["pair"]) fun _ _ _ _ _ _ us hl => match us, hl with | [_], _ => rfl
  have F5 := fun_mk (st := s_is_taking) l5 c5 k5
  have b5 := F5.binds (ps := ["pair", "times"]) fun _ _ _ _ _ _ us hl => match us, hl with | [_, _], _ => rfl
  have F6 := fun_mk (st := s_taken) l6 c6 k6
  have b6 := F6.binds (ps := ["pair", "times"]) fun _ _ _ _ _ _ us hl => match us, hl with | [_, _], _ => rfl
  have F7 := fun_mk (st := s_worth) l7 c7 k7
  have b7 := F7.binds (ps := ["pair"]) fun _ _ _ _ _ _ us hl => match us, hl with | [_], _ => rfl
  have F8 := fun_mk (st := s_quotients) l8 c8 k8
  have b8 := F8.binds (ps := ["pair"]) fun _ _ _ _ _ _ us hl => match us, hl with | [_], _ => rfl
  have F9 := fun_mk (st := s_is_row) l9 c9 k9
  have b9 := F9.binds (ps := ["value"]) fun _ _ _ _ _ _ us hl => match us, hl with | [_], _ => rfl
  have F10 := fun_mk (st := s_pair_of) l10 c10 k10
  have b10 := F10.binds (ps := ["row", "common"]) fun _ _ _ _ _ _ us hl => match us, hl with | [_, _], _ => rfl
  have F11 := fun_mk (st := s_shortest) l11 c11 k11
  have b11 := F11.binds (ps := ["pair"]) fun _ _ _ _ _ _ us hl => match us, hl with | [_], _ => rfl
  have F12 := fun_mk (st := s_longest) l12 c12 k12
  have b12 := F12.binds (ps := ["pair"]) fun _ _ _ _ _ _ us hl => match us, hl with | [_], _ => rfl
  have F13 := fun_mk (st := s_taking_to_worth) l13 c13 k13
  have b13 := F13.binds (ps := ["pair", "wanted"]) fun _ _ _ _ _ _ us hl => match us, hl with | [_, _], _ => rfl
  have F14 := fun_mk (st := s_all_together) l14 c14 k14
  have b14 := F14.binds (ps := ["worths"]) fun _ _ _ _ _ _ us hl => match us, hl with | [_], _ => rfl
  have F15 := fun_mk (st := s_is_lost) l15 c15 k15
  have b15 := F15.binds (ps := ["pairs"]) fun _ _ _ _ _ _ us hl => match us, hl with | [_], _ => rfl
  have F18 := fun_mk (st := s_Lost_shows) l18 c18 k18
  have b18 := F18.binds (ps := ["self", "pairs"]) fun _ _ _ _ _ _ us hl => match us, hl with | [_, _], _ => rfl
  have F19 := fun_mk (st := s_Won_init) l19 c19 k19
  have b19 := F19.binds (ps := ["self", "at", "times"]) fun _ _ _ _ _ _ us hl => match us, hl with | [_, _, _], _ => rfl
  have F20 := fun_mk (st := s_Won_shows) l20 c20 k20
  have b20 := F20.binds (ps := ["self", "pairs"]) fun _ _ _ _ _ _ us hl => match us, hl with | [_, _], _ => rfl
  have F21 := fun_mk (st := s_is_list_of_pairs) l21 c21 k21
  have b21 := F21.binds (ps := ["value"]) fun _ _ _ _ _ _ us hl => match us, hl with | [_], _ => rfl
  have F22 := fun_mk (st := s_told) l22 c22 k22
  have b22 := F22.binds (ps := ["pairs"]) fun _ _ _ _ _ _ us hl => match us, hl with | [_], _ => rfl
  have F28 := fun_mk (st := s_l_bad_pair) l28 c28 k28
  have b28 := F28.binds (ps := ["_law_which", "_law_more"]) fun _ _ _ _ _ _ us hl => match us, hl with | [_, _], _ => rfl
  have F29 := fun_mk (st := s_l_with_pair) l29 c29 k29
  have b29 := F29.binds (ps := ["_law_door", "_law_pair"]) fun _ _ _ _ _ _ us hl => match us, hl with | [_, _], _ => rfl
  have F30 := fun_mk (st := s_l_bad_row) l30 c30 k30
  have b30 := F30.binds (ps := ["_law_which", "_law_more"]) fun _ _ _ _ _ _ us hl => match us, hl with | [_, _], _ => rfl
  have F31 := fun_mk (st := s_l_told) l31 c31 k31
  have b31 := F31.binds (ps := ["_law_kind", "_law_which", "_law_more"]) fun _ _ _ _ _ _ us hl => match us, hl with | [_, _, _], _ => rfl
  have F32 := fun_mk (st := s_law) l32 c32 k32
  have b32 := F32.binds (ps := ["_law_script"]) fun _ _ _ _ _ _ us hl => match us, hl with | [_], _ => rfl
  match cs, hcs with
  | [q0, q1], .cons r0 (.cons r1 .nil) => exact ⟨PySem.W.fnOf "law" "law" (defArgs s_law) (defBody s_law) (defScope s_law) .none kV32 dc32 pm32 an32 cd32 ct32, fun s v => .of_eq rfl, fun base _ _ tb => ok_law F32 ⟨⟨_, _, F0, b0, PySem.W.mg_of X G a0⟩, ⟨_, _, F1, b1, PySem.W.mg_of X G a1⟩, ⟨_, _, F2, b2, PySem.W.mg_of X G a2⟩, ⟨_, _, F3, b3, PySem.W.mg_of X G a3⟩, ⟨_, _, F4, b4, PySem.W.mg_of X G a4⟩, ⟨_, _, F5, b5, PySem.W.mg_of X G a5⟩, ⟨_, _, F6, b6, PySem.W.mg_of X G a6⟩, ⟨_, _, F7, b7, PySem.W.mg_of X G a7⟩, ⟨_, _, F8, b8, PySem.W.mg_of X G a8⟩, ⟨_, _, F9, b9, PySem.W.mg_of X G a9⟩, ⟨_, _, F10, b10, PySem.W.mg_of X G a10⟩, ⟨_, _, F11, b11, PySem.W.mg_of X G a11⟩, ⟨_, _, F12, b12, PySem.W.mg_of X G a12⟩, ⟨_, _, F13, b13, PySem.W.mg_of X G a13⟩, ⟨_, _, F14, b14, PySem.W.mg_of X G a14⟩, ⟨_, _, F15, b15, PySem.W.mg_of X G a15⟩, ⟨CLost, ⟨pg_Lost, hd_Lost, po_Lost, sa_Lost⟩, ha_Lost, hn_Lost, ht_Lost, hm_Lost, PySem.W.mg_of X G g_Lost⟩, ⟨mm_Lost, mi_Lost, kk_Lost⟩, ⟨CWon, ⟨pg_Won, hd_Won, po_Won, sa_Won⟩, ha_Won, hn_Won, ht_Won, hm_Won, PySem.W.mg_of X G g_Won⟩, nn_Won_at, nn_Won_times, ⟨_, _, F18, b18, ⟨a18, i18, k18⟩⟩, ⟨_, _, F19, b19, ⟨a19, i19, k19⟩⟩, ⟨mm_Won, a19, i19, kk_Won⟩, ⟨_, _, F20, b20, ⟨a20, i20, k20⟩⟩, ⟨_, _, F21, b21, PySem.W.mg_of X G a21⟩, ⟨_, _, F22, b22, PySem.W.mg_of X G a22⟩, ⟨CTimesError, PySem.W.mg_of X G g_TimesError, exc_TimesError, kk_TimesError, ty_TimesError, ⟨eg_TimesError, ek_TimesError, es_TimesError, hd_TimesError, ha_TimesError, hn_TimesError, ht_TimesError, hm_TimesError⟩⟩, ⟨CBadPair, PySem.W.mg_of X G g_BadPair, exc_BadPair, kk_BadPair, ty_BadPair, ⟨eg_BadPair, ek_BadPair, es_BadPair, hd_BadPair, ha_BadPair, hn_BadPair, ht_BadPair, hm_BadPair⟩⟩, ⟨CBadTaking, PySem.W.mg_of X G g_BadTaking, exc_BadTaking, kk_BadTaking, ty_BadTaking, ⟨eg_BadTaking, ek_BadTaking, es_BadTaking, hd_BadTaking, ha_BadTaking, hn_BadTaking, ht_BadTaking, hm_BadTaking⟩⟩, ⟨CBadRow, PySem.W.mg_of X G g_BadRow, exc_BadRow, kk_BadRow, ty_BadRow, ⟨eg_BadRow, ek_BadRow, es_BadRow, hd_BadRow, ha_BadRow, hn_BadRow, ht_BadRow, hm_BadRow⟩⟩, ⟨CBadPairs, PySem.W.mg_of X G g_BadPairs, exc_BadPairs, kk_BadPairs, ty_BadPairs, ⟨eg_BadPairs, ek_BadPairs, es_BadPairs, hd_BadPairs, ha_BadPairs, hn_BadPairs, ht_BadPairs, hm_BadPairs⟩⟩, ⟨_, _, F28, b28, PySem.W.mg_of X G a28⟩, ⟨_, _, F29, b29, PySem.W.mg_of X G a29⟩, ⟨_, _, F30, b30, PySem.W.mg_of X G a30⟩, ⟨_, _, F31, b31, PySem.W.mg_of X G a31⟩, sx_BadPair, kit_v_BadPair, kit_x_BadPair_BadPair, kit_x_BadPair_BadTaking, kit_x_BadPair_BadRow, kit_x_BadPair_BadPairs, sx_BadTaking, kit_v_BadTaking, kit_x_BadTaking_BadPair, kit_x_BadTaking_BadTaking, kit_x_BadTaking_BadRow, kit_x_BadTaking_BadPairs, sx_BadRow, kit_v_BadRow, kit_x_BadRow_BadPair, kit_x_BadRow_BadTaking, kit_x_BadRow_BadRow, kit_x_BadRow_BadPairs, sx_BadPairs, kit_v_BadPairs, kit_x_BadPairs_BadPair, kit_x_BadPairs_BadTaking, kit_x_BadPairs_BadRow, kit_x_BadPairs_BadPairs, kit_Lost_Lost, kit_Lost_Won, kit_Won_Lost, kit_Won_Won, PySem.W.mg_none_of X G z_ValueError, PySem.W.mg_none_of X G z_all, PySem.W.mg_none_of X G z_bool, PySem.W.mg_none_of X G z_divmod, PySem.W.mg_none_of X G z_enumerate, PySem.W.mg_none_of X G z_int, PySem.W.mg_none_of X G z_isinstance, PySem.W.mg_none_of X G z_len, PySem.W.mg_none_of X G z_list, PySem.W.mg_none_of X G z_range, PySem.W.mg_none_of X G z_reversed, PySem.W.mg_none_of X G z_sum, PySem.W.mg_none_of X G z_tuple, tk_LONGEST_ROW, PySem.W.mg_of X G z_LONGEST_ROW, tk_MOST_PAIRS, PySem.W.mg_of X G z_MOST_PAIRS, ⟨q0.1, q0.2, tb q0 (by simp), r0.1 _ _ _ (PySem.W.mg_of X G a9) l9 rfl⟩, ⟨q1.1, q1.2, tb q1 (by simp), r1.1 _ _ _ (PySem.W.mg_of X G a21) l21 rfl⟩⟩⟩
end Mt
open PySem PySem.W PyProof.Rows
set_option maxRecDepth 100000 in
set_option maxHeartbeats 0 in
theorem PySem.Challenge.cw_manytimes_k06_refused_holds : PySem.Challenge.rw_manytimes_k06_refused.Holds := by
  w_on; o_law; k_head; (case hw => w_witness2)
  k_fill
  refine GG.walk_ofG (l := PySem.Challenge.rw_manytimes_k06_refused) (n := 63) (k := 11) (x := "_law_script") (CX := fun _ => L2.CX0) (sp := fun w tp => Mt.sp_law _ tp) (xs := [(PySem.Str.ofString "is_row"), (PySem.Str.ofString "is_list_of_pairs")]) rfl (by decide) rfl ⟨rfl, by decide, by decide⟩ (by decide +kernel) (fun w h Y => PySem.W.kIn_of Y) (fun w => by kernel_rfl) ?F (fun _ _ a ns tp hl hb hP hS => ⟨a, ns, rfl, hS, hl, (fun n hn => Mt.W.of_bits (hb n hn)), hP, fun H' h => ⟨rfl, h⟩⟩) (fun _ _ _ _ _ h => h)
  case F =>
    intro w mg fa h cs KX G hmg hcs
    refine' Mt.all_mk KX G hmg hcs ?a0 ?l0 ?c0 ?k0 ?a1 ?l1 ?c1 ?k1 ?a2 ?l2 ?c2 ?k2 ?a3 ?l3 ?c3 ?k3 ?a4 ?l4 ?c4 ?k4 ?a5 ?l5 ?c5 ?k5 ?a6 ?l6 ?c6 ?k6 ?a7 ?l7 ?c7 ?k7 ?a8 ?l8 ?c8 ?k8 ?a9 ?l9 ?c9 ?k9 ?a10 ?l10 ?c10 ?k10 ?a11 ?l11 ?c11 ?k11 ?a12 ?l12 ?c12 ?k12 ?a13 ?l13 ?c13 ?k13 ?a14 ?l14 ?c14 ?k14 ?a15 ?l15 ?c15 ?k15 ?g_Lost ?pg_Lost ?hd_Lost ?po_Lost ?sa_Lost ?ha_Lost ?hn_Lost ?ht_Lost ?hm_Lost ?mm_Lost ?kk_Lost ?mi_Lost ?g_Won ?pg_Won ?hd_Won ?po_Won ?sa_Won ?ha_Won ?hn_Won ?ht_Won ?hm_Won ?mm_Won ?kk_Won ?nn_Won_at ?nn_Won_times ?a18 ?i18 ?l18 ?c18 ?k18 ?a19 ?i19 ?l19 ?c19 ?k19 ?a20 ?i20 ?l20 ?c20 ?k20 ?a21 ?l21 ?c21 ?k21 ?a22 ?l22 ?c22 ?k22 ?g_TimesError ?exc_TimesError ?kk_TimesError ?ty_TimesError ?eg_TimesError ?ek_TimesError ?es_TimesError ?hd_TimesError ?ha_TimesError ?hn_TimesError ?ht_TimesError ?hm_TimesError ?g_BadPair ?exc_BadPair ?kk_BadPair ?ty_BadPair ?eg_BadPair ?ek_BadPair ?es_BadPair ?hd_BadPair ?ha_BadPair ?hn_BadPair ?ht_BadPair ?hm_BadPair ?g_BadTaking ?exc_BadTaking ?kk_BadTaking ?ty_BadTaking ?eg_BadTaking ?ek_BadTaking ?es_BadTaking ?hd_BadTaking ?ha_BadTaking ?hn_BadTaking ?ht_BadTaking ?hm_BadTaking ?g_BadRow ?exc_BadRow ?kk_BadRow ?ty_BadRow ?eg_BadRow ?ek_BadRow ?es_BadRow ?hd_BadRow ?ha_BadRow ?hn_BadRow ?ht_BadRow ?hm_BadRow ?g_BadPairs ?exc_BadPairs ?kk_BadPairs ?ty_BadPairs ?eg_BadPairs ?ek_BadPairs ?es_BadPairs ?hd_BadPairs ?ha_BadPairs ?hn_BadPairs ?ht_BadPairs ?hm_BadPairs ?a28 ?l28 ?c28 ?k28 ?a29 ?l29 ?c29 ?k29 ?a30 ?l30 ?c30 ?k30 ?a31 ?l31 ?c31 ?k31 ?a32 ?l32 ?c32 ?k32 ?sx_BadPair ?kit_v_BadPair ?kit_x_BadPair_BadPair ?kit_x_BadPair_BadTaking ?kit_x_BadPair_BadRow ?kit_x_BadPair_BadPairs ?sx_BadTaking ?kit_v_BadTaking ?kit_x_BadTaking_BadPair ?kit_x_BadTaking_BadTaking ?kit_x_BadTaking_BadRow ?kit_x_BadTaking_BadPairs ?sx_BadRow ?kit_v_BadRow ?kit_x_BadRow_BadPair ?kit_x_BadRow_BadTaking ?kit_x_BadRow_BadRow ?kit_x_BadRow_BadPairs ?sx_BadPairs ?kit_v_BadPairs ?kit_x_BadPairs_BadPair ?kit_x_BadPairs_BadTaking ?kit_x_BadPairs_BadRow ?kit_x_BadPairs_BadPairs ?kit_Lost_Lost ?kit_Lost_Won ?kit_Won_Lost ?kit_Won_Won ?z_ValueError ?z_all ?z_bool ?z_divmod ?z_enumerate ?z_int ?z_isinstance ?z_len ?z_list ?z_range ?z_reversed ?z_sum ?z_tuple ?z_LONGEST_ROW ?z_MOST_PAIRS
    (case a0 => k_is); (case l0 => k_is); (case c0 => k_is); (case k0 => k_is); (case a1 => k_is); (case l1 => k_is); (case c1 => k_is); (case k1 => k_is); (case a2 => k_is); (case l2 => k_is); (case c2 => k_is); (case k2 => k_is); (case a3 => k_is); (case l3 => k_is); (case c3 => k_is); (case k3 => k_is); (case a4 => k_is); (case l4 => k_is); (case c4 => k_is); (case k4 => k_is); (case a5 => k_is); (case l5 => k_is); (case c5 => k_is); (case k5 => k_is); (case a6 => k_is); (case l6 => k_is); (case c6 => k_is); (case k6 => k_is); (case a7 => k_is); (case l7 => k_is); (case c7 => k_is); (case k7 => k_is); (case a8 => k_is); (case l8 => k_is); (case c8 => k_is); (case k8 => k_is); (case a9 => k_is); (case l9 => k_is); (case c9 => k_is); (case k9 => k_is); (case a10 => k_is); (case l10 => k_is); (case c10 => k_is); (case k10 => k_is); (case a11 => k_is); (case l11 => k_is); (case c11 => k_is); (case k11 => k_is); (case a12 => k_is); (case l12 => k_is); (case c12 => k_is); (case k12 => k_is); (case a13 => k_is); (case l13 => k_is); (case c13 => k_is); (case k13 => k_is); (case a14 => k_is); (case l14 => k_is); (case c14 => k_is); (case k14 => k_is); (case a15 => k_is); (case l15 => k_is); (case c15 => k_is); (case k15 => k_is); (case g_Lost => k_is); (case pg_Lost => k_is); (case hd_Lost => k_is); (case po_Lost => k_is); (case sa_Lost => k_is); (case ha_Lost => k_is); (case hn_Lost => k_is); (case ht_Lost => k_is); (case hm_Lost => k_is); (case mm_Lost => k_is); (case kk_Lost => k_is); (case mi_Lost => k_is); (case g_Won => k_is); (case pg_Won => k_is); (case hd_Won => k_is); (case po_Won => k_is); (case sa_Won => k_is); (case ha_Won => k_is); (case hn_Won => k_is); (case ht_Won => k_is); (case hm_Won => k_is); (case mm_Won => k_is); (case kk_Won => k_is); (case nn_Won_at => k_is); (case nn_Won_times => k_is); (case a18 => k_is); (case i18 => k_is); (case l18 => k_is); (case c18 => k_is); (case k18 => k_is); (case a19 => k_is); (case i19 => k_is); (case l19 => k_is); (case c19 => k_is); (case k19 => k_is); (case a20 => k_is); (case i20 => k_is); (case l20 => k_is); (case c20 => k_is); (case k20 => k_is); (case a21 => k_is); (case l21 => k_is); (case c21 => k_is); (case k21 => k_is); (case a22 => k_is); (case l22 => k_is); (case c22 => k_is); (case k22 => k_is); (case g_TimesError => k_is); (case exc_TimesError => k_exc); (case kk_TimesError => k_is); (case ty_TimesError => k_is); (case eg_TimesError => k_is); (case ek_TimesError => k_is); (case es_TimesError => k_is); (case hd_TimesError => k_is); (case ha_TimesError => k_is); (case hn_TimesError => k_is); (case ht_TimesError => k_is); (case hm_TimesError => k_is); (case g_BadPair => k_is); (case exc_BadPair => k_exc); (case kk_BadPair => k_is); (case ty_BadPair => k_is); (case eg_BadPair => k_is); (case ek_BadPair => k_is); (case es_BadPair => k_is); (case hd_BadPair => k_is); (case ha_BadPair => k_is); (case hn_BadPair => k_is); (case ht_BadPair => k_is); (case hm_BadPair => k_is); (case g_BadTaking => k_is); (case exc_BadTaking => k_exc); (case kk_BadTaking => k_is); (case ty_BadTaking => k_is); (case eg_BadTaking => k_is); (case ek_BadTaking => k_is); (case es_BadTaking => k_is); (case hd_BadTaking => k_is); (case ha_BadTaking => k_is); (case hn_BadTaking => k_is); (case ht_BadTaking => k_is); (case hm_BadTaking => k_is); (case g_BadRow => k_is); (case exc_BadRow => k_exc); (case kk_BadRow => k_is); (case ty_BadRow => k_is); (case eg_BadRow => k_is); (case ek_BadRow => k_is); (case es_BadRow => k_is); (case hd_BadRow => k_is); (case ha_BadRow => k_is); (case hn_BadRow => k_is); (case ht_BadRow => k_is); (case hm_BadRow => k_is); (case g_BadPairs => k_is); (case exc_BadPairs => k_exc); (case kk_BadPairs => k_is); (case ty_BadPairs => k_is); (case eg_BadPairs => k_is); (case ek_BadPairs => k_is); (case es_BadPairs => k_is); (case hd_BadPairs => k_is); (case ha_BadPairs => k_is); (case hn_BadPairs => k_is); (case ht_BadPairs => k_is); (case hm_BadPairs => k_is); (case a28 => k_is); (case l28 => k_is); (case c28 => k_is); (case k28 => k_is); (case a29 => k_is); (case l29 => k_is); (case c29 => k_is); (case k29 => k_is); (case a30 => k_is); (case l30 => k_is); (case c30 => k_is); (case k30 => k_is); (case a31 => k_is); (case l31 => k_is); (case c31 => k_is); (case k31 => k_is); (case a32 => k_is); (case l32 => k_is); (case c32 => k_is); (case k32 => k_is); (case sx_BadPair => k_is); (case kit_v_BadPair => kit_is); (case kit_x_BadPair_BadPair => kit_is); (case kit_x_BadPair_BadTaking => kit_is); (case kit_x_BadPair_BadRow => kit_is); (case kit_x_BadPair_BadPairs => kit_is); (case sx_BadTaking => k_is); (case kit_v_BadTaking => kit_is); (case kit_x_BadTaking_BadPair => kit_is); (case kit_x_BadTaking_BadTaking => kit_is); (case kit_x_BadTaking_BadRow => kit_is); (case kit_x_BadTaking_BadPairs => kit_is); (case sx_BadRow => k_is); (case kit_v_BadRow => kit_is); (case kit_x_BadRow_BadPair => kit_is); (case kit_x_BadRow_BadTaking => kit_is); (case kit_x_BadRow_BadRow => kit_is); (case kit_x_BadRow_BadPairs => kit_is); (case sx_BadPairs => k_is); (case kit_v_BadPairs => kit_is); (case kit_x_BadPairs_BadPair => kit_is); (case kit_x_BadPairs_BadTaking => kit_is); (case kit_x_BadPairs_BadRow => kit_is); (case kit_x_BadPairs_BadPairs => kit_is); (case kit_Lost_Lost => kit_is); (case kit_Lost_Won => kit_is); (case kit_Won_Lost => kit_is); (case kit_Won_Won => kit_is); (case z_ValueError => k_is); (case z_all => k_is); (case z_bool => k_is); (case z_divmod => k_is); (case z_enumerate => k_is); (case z_int => k_is); (case z_isinstance => k_is); (case z_len => k_is); (case z_list => k_is); (case z_range => k_is); (case z_reversed => k_is); (case z_sum => k_is); (case z_tuple => k_is); (case z_LONGEST_ROW => k_is); (case z_MOST_PAIRS => k_is)
