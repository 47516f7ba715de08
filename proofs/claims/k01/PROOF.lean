import PyProof.Rows.All
import Wide.All
import OpenK.AllK
import Wide.FinOn
import KE.DatumOrd
import HandS.ForMost
import HandS.Wide
import HandS.WideBits
import HandS.IsInst
import HandS.Evl
import HandS.EndBits
import HandS.Walk
import KE.KEqSeq
import PySem.Challenge.RW_manytimes_k01_whole_worths
set_option autoImplicit false
namespace KM
/-! Numbers: the worth of a pair. -/
theorem fl {n d w : Int} (hd : 0 < d) (h1 : w * d ≤ n) (h2 : n < (w + 1) * d) : n / d = w := by
  have a := (Int.le_ediv_iff_mul_le hd).mpr h1
  have b := (Int.ediv_lt_iff_lt_mul hd).mpr h2
  omega
theorem nosq : ∀ (n : Nat) (L r q : Int), r.toNat ≤ n → 0 < r → 0 < L → 1 ≤ q → L * L = r * (q * L + r) → False
  | 0, L, r, q, hn, hr, hL, hq, h => by omega
  | n + 1, L, r, q, hn, hr, hL, hq, h => by
    have hqr : 0 < q * r := Int.mul_pos (by omega) hr
    have e1 : L * (L - q * r) = r * r := by grind
    have hrr : 0 < r * r := Int.mul_pos hr hr
    have hs : 0 < L - q * r := by
      rcases Int.lt_or_le 0 (L - q * r) with c | c
      · exact c
      · have := Int.mul_le_mul_of_nonneg_left c (Int.le_of_lt hL)
        grind
    have hge : r ≤ q * r := by
      have := Int.mul_le_mul_of_nonneg_right hq (Int.le_of_lt hr)
      omega
    have hlt : L - q * r < r := by
      rcases Int.lt_or_le (L - q * r) r with c | c
      · exact c
      · have := Int.mul_lt_mul_of_pos_left (show r < L by omega) (show (0:Int) < L - q * r by omega)
        have := Int.mul_le_mul_of_nonneg_right c (Int.le_of_lt hr)
        grind
    exact nosq n r (L - q * r) q (by omega) hs hr hq (by grind)
def worthLH (L H : Int) : Int := if (H % L) * H < L * L then H / L - 1 else H / L
def mnF (a b : Int) : Int := if a ≤ b then a else b
def mxF (a b : Int) : Int := if a ≤ b then b else a
def mostF (a b : Int) : Int := (mxF a b - 1) / mnF a b
def worthF (a b : Int) : Int := worthLH (mnF a b) (mxF a b)
def behA (a b t : Int) : Int := if b < a then a - t * b else a
def behB (a b t : Int) : Int := if b < a then b else b - t * a
theorem dm (H L : Int) : H = L * (H / L) + H % L := (Int.mul_ediv_add_emod H L).symm
theorem form {L H : Int} (hL : 0 < L) (hLH : L ≤ H) : (H * H - L * L) / (H * L) = worthLH L H := by
  have hH : 0 < H := by omega
  have hHL : 0 < H * L := Int.mul_pos hH hL
  have e := dm H L
  have r0 := Int.emod_nonneg H (show L ≠ 0 by omega)
  have r1 := Int.emod_lt_of_pos H hL
  unfold worthLH
  generalize H / L = q at *
  generalize H % L = r at *
  have hll : L * L ≤ H * L := Int.mul_le_mul_of_nonneg_right hLH (by omega)
  have hrh : 0 ≤ r * H := Int.mul_nonneg r0 (by omega)
  have hrl : r * H < L * H := Int.mul_lt_mul_of_pos_right r1 hH
  have hL2 : 0 < L * L := Int.mul_pos hL hL
  have ec : L * H = H * L := Int.mul_comm _ _
  have eq2 : H * H - L * L = q * (H * L) + (r * H - L * L) := by grind
  have e3 : (q - 1) * (H * L) = q * (H * L) - H * L := by grind
  have e4 : (q - 1 + 1) * (H * L) = q * (H * L) := by grind
  have e5 : (q + 1) * (H * L) = q * (H * L) + H * L := by grind
  split
  · exact fl hHL (by omega) (by omega)
  · exact fl hHL (by omega) (by omega)
theorem worth0 {L H : Int} (hL : 0 < L) (hLH : L ≤ H) : 0 ≤ worthLH L H := by
  rw [← form hL hLH]
  refine Int.ediv_nonneg ?_ (Int.le_of_lt (Int.mul_pos (by omega) hL))
  have := Int.mul_le_mul hLH hLH (by omega) (by omega)
  omega
theorem ne1 {L H t : Int} (hL : 0 < L) (ht : 1 ≤ t) (_ : L ≤ H - t * L) : worthLH L (H - t * L) < worthLH L H := by
  have e1 : (H - t * L) % L = H % L := by
    rw [Int.sub_emod, Int.mul_emod_left]; simp
  have e2 : (H - t * L) / L = H / L - t := by
    rw [Int.sub_mul_ediv_right _ _ (show L ≠ 0 by omega)]
  have htl : 0 < t * L := Int.mul_pos (by omega) hL
  have r0 := Int.emod_nonneg H (show L ≠ 0 by omega)
  have hm : H % L * (H - t * L) ≤ H % L * H := Int.mul_le_mul_of_nonneg_left (by omega) r0
  unfold worthLH
  rw [e1, e2]
  split <;> split <;> omega
theorem ne2 {L H : Int} (hL : 0 < L) (hLH : L ≤ H) (h0 : 0 < H % L) : worthLH (H % L) L ≠ worthLH L H := by
  have r1 := Int.emod_lt_of_pos H hL
  have e := dm H L
  have q1 : 1 ≤ H / L := (Int.le_ediv_iff_mul_le hL).mpr (by omega)
  rw [← form h0 (by omega)]
  have hrl : 0 < L * (H % L) := Int.mul_pos hL h0
  show (L * L - H % L * (H % L)) / (L * (H % L)) ≠ if (H % L) * H < L * L then H / L - 1 else H / L
  generalize H / L = q at *
  generalize H % L = r at *
  have e2 : r * H = q * (L * r) + r * r := by grind
  split
  · intro c
    have := (Int.ediv_lt_iff_lt_mul (a := L * L - r * r) (b := q) hrl).mp (by omega)
    omega
  · intro c
    have := (Int.le_ediv_iff_mul_le (a := q) (b := L * L - r * r) hrl).mp (by omega)
    have e3 : r * (q * L + r) = q * (L * r) + r * r := by grind
    exact nosq r.toNat L r q (Nat.le_refl _) h0 hL q1 (by omega)
theorem mn_pos {a b : Int} (ha : 0 < a) (hb : 0 < b) : 0 < mnF a b := by unfold mnF; split <;> assumption
theorem mn_mx (a b : Int) : mnF a b ≤ mxF a b := by unfold mnF mxF; split <;> omega
theorem mn_comm (a b : Int) : mnF b a = mnF a b := by unfold mnF; split <;> split <;> omega
theorem mx_comm (a b : Int) : mxF b a = mxF a b := by unfold mxF; split <;> split <;> omega
theorem most_comm (a b : Int) : mostF b a = mostF a b := by unfold mostF; rw [mn_comm, mx_comm]
theorem worth_comm (a b : Int) : worthF b a = worthF a b := by unfold worthF; rw [mn_comm, mx_comm]
theorem worthF0 {a b : Int} (ha : 0 < a) (hb : 0 < b) : 0 ≤ worthF a b := worth0 (mn_pos ha hb) (mn_mx a b)
theorem most0 {a b : Int} (ha : 0 < a) (hb : 0 < b) : 0 ≤ mostF a b := by
  have h1 := mn_pos ha hb
  have h2 := mn_mx a b
  exact Int.ediv_nonneg (by omega) (Int.le_of_lt h1)
/-- t times the lesser is below the greater -/
theorem most_lt {a b t : Int} (ha : 0 < a) (hb : 0 < b) (h : t ≤ mostF a b) : t * mnF a b < mxF a b := by
  have := (Int.le_ediv_iff_mul_le (mn_pos ha hb)).mp h
  omega
theorem behA_pos {a b t : Int} (ha : 0 < a) (hb : 0 < b) (h : t ≤ mostF a b) : 0 < behA a b t := by
  have h1 := most_lt ha hb h
  unfold mnF mxF at h1
  unfold behA
  split
  · rw [if_neg (by omega), if_neg (by omega)] at h1
    omega
  · exact ha
theorem behB_pos {a b t : Int} (ha : 0 < a) (hb : 0 < b) (h : t ≤ mostF a b) : 0 < behB a b t := by
  have h1 := most_lt ha hb h
  unfold mnF mxF at h1
  unfold behB
  split
  · exact hb
  · rw [if_pos (by omega), if_pos (by omega)] at h1
    omega
theorem worth_lohi {x L : Int} (c : L ≤ x) : worthLH (mnF x L) (mxF x L) = worthLH L x := by
  unfold mnF mxF
  split
  · have : x = L := by omega
    subst this; rfl
  · rfl
theorem neLH {L H t : Int} (hL : 0 < L) (hLH : L ≤ H) (ht : 1 ≤ t) (h : t * L < H) : worthF (H - t * L) L ≠ worthLH L H := by
  rcases Int.lt_or_le (H - t * L) L with c | c
  · have er : H % L = H - t * L := by
      have e1 : (H - t * L) % L = H % L := by rw [Int.sub_emod, Int.mul_emod_left]; simp
      rw [← e1]
      exact Int.emod_eq_of_lt (by omega) c
    have e : worthF (H - t * L) L = worthLH (H % L) L := by
      unfold worthF mnF mxF
      rw [if_pos (by omega), if_pos (by omega), er]
    rw [e]
    exact ne2 hL hLH (by omega)
  · have e : worthF (H - t * L) L = worthLH L (H - t * L) := by
      unfold worthF
      rw [worth_lohi c]
    rw [e]
    exact Int.ne_of_lt (ne1 hL ht c)
/-- no taking leaves the worth as it is -/
theorem beh_ne {a b t : Int} (ha : 0 < a) (hb : 0 < b) (ht : 1 ≤ t) (h : t ≤ mostF a b) : worthF (behA a b t) (behB a b t) ≠ worthF a b := by
  have h1 := most_lt ha hb h
  unfold mnF mxF at h1
  rcases Int.lt_or_le b a with c | c
  · rw [if_neg (by omega), if_neg (by omega)] at h1
    unfold behA behB
    rw [if_pos c, if_pos c, ← worth_comm a b]
    have e : worthF b a = worthLH b a := by
      unfold worthF mnF mxF
      rw [if_pos (by omega), if_pos (by omega)]
    rw [e]
    exact neLH hb (by omega) ht h1
  · rw [if_pos (by omega), if_pos (by omega)] at h1
    unfold behA behB
    rw [if_neg (by omega), if_neg (by omega), worth_comm (b - t * a) a]
    have e : worthF a b = worthLH a b := by
      unfold worthF mnF mxF
      rw [if_pos c, if_pos c]
    rw [e]
    exact neLH ha c ht h1
/-- any lesser worth stands behind a taking -/
theorem hitLH {L H w : Int} (hL : 0 < L) (hLH : L ≤ H) (h0 : 0 ≤ w) (hw : w < worthLH L H) : ∃ t, 1 ≤ t ∧ t * L < H ∧ worthF (H - t * L) L = w := by
  have e := dm H L
  have r0 := Int.emod_nonneg H (show L ≠ 0 by omega)
  have r1 := Int.emod_lt_of_pos H hL
  have q1 : 1 ≤ H / L := (Int.le_ediv_iff_mul_le hL).mpr (by omega)
  -- a pair with k times the lesser and the rest
  have at_k : ∀ k : Int, 1 ≤ k → k < H / L → worthF (H - (H / L - k) * L) L = if (H % L) * (k * L + H % L) < L * L then k - 1 else k := by
    intro k k1 k2
    have ex : H - (H / L - k) * L = H % L + L * k := by
      have : (H / L - k) * L = L * (H / L) - L * k := by grind
      omega
    have hk : L ≤ L * k := by
      have := Int.mul_le_mul_of_nonneg_left k1 (Int.le_of_lt hL)
      omega
    rw [ex]
    have c : L ≤ H % L + L * k := by omega
    unfold worthF
    rw [worth_lohi c]
    unfold worthLH
    have em : (H % L + L * k) % L = H % L := by
      rw [Int.add_mul_emod_self_left]
      exact Int.emod_eq_of_lt r0 r1
    have ed : (H % L + L * k) / L = k := by
      rw [Int.add_mul_ediv_left _ _ (show L ≠ 0 by omega), Int.ediv_eq_zero_of_lt r0 r1]
      omega
    have ec : H % L + L * k = k * L + H % L := by
      have : L * k = k * L := Int.mul_comm _ _
      omega
    rw [em, ed, ec]
  have tk : ∀ k : Int, 1 ≤ k → k < H / L → 1 ≤ H / L - k ∧ (H / L - k) * L < H := by
    intro k k1 k2
    refine ⟨by omega, ?_⟩
    have h1 : (H / L - k) * L = L * (H / L) - L * k := by grind
    have hk : L ≤ L * k := by
      have := Int.mul_le_mul_of_nonneg_left k1 (Int.le_of_lt hL)
      omega
    omega
  unfold worthLH at hw
  by_cases cA : (H % L) * ((w + 1) * L + H % L) < L * L
  · -- one more than w times the lesser
    have hk : w + 1 < H / L := by
      rcases Int.lt_or_le (w + 1) (H / L) with z | z
      · exact z
      · exfalso
        have z2 : H / L = w + 1 := by
          by_cases z3 : H % L * H < L * L
          · rw [if_pos z3] at hw; omega
          · rw [if_neg z3] at hw; omega
        have z4 : (w + 1) * L + H % L = H := by
          rw [← z2]
          have : H / L * L = L * (H / L) := Int.mul_comm _ _
          omega
        rw [z4] at cA
        rw [if_pos cA] at hw
        omega
    have a := at_k (w + 1) (by omega) hk
    have b := tk (w + 1) (by omega) hk
    rw [if_pos cA] at a
    exact ⟨_, b.1, b.2, by omega⟩
  · have hwq : w < H / L := by
      by_cases z3 : H % L * H < L * L
      · rw [if_pos z3] at hw; omega
      · rw [if_neg z3] at hw; omega
    by_cases cB : (H % L) * (w * L + H % L) < L * L
    · -- the rest itself
      have hr : 0 < H % L := by
        rcases Int.lt_or_le 0 (H % L) with z | z
        · exact z
        · exfalso
          have z2 : H % L = 0 := by omega
          rw [z2] at cA
          have : 0 < L * L := Int.mul_pos hL hL
          omega
      have hs : H / L * L = L * (H / L) := Int.mul_comm _ _
      refine ⟨H / L, q1, by omega, ?_⟩
      have ex : H - H / L * L = H % L := by omega
      rw [ex]
      have ew : worthF (H % L) L = worthLH (H % L) L := by
        unfold worthF mnF mxF
        rw [if_pos (by omega), if_pos (by omega)]
      rw [ew, ← form hr (by omega)]
      have hrl : 0 < L * (H % L) := Int.mul_pos hL hr
      generalize H % L = r at *
      have e1 : r * ((w + 1) * L + r) = (w + 1) * (L * r) + r * r := by grind
      have e2 : r * (w * L + r) = w * (L * r) + r * r := by grind
      have ne : L * L ≠ r * ((w + 1) * L + r) := fun c => nosq r.toNat L r (w + 1) (Nat.le_refl _) hr hL (by omega) c
      exact fl hrl (by omega) (by omega)
    · -- w times the lesser
      have hk : 1 ≤ w := by
        rcases Int.lt_or_le 0 w with z | z
        · exact z
        · exfalso
          have z2 : w = 0 := by omega
          subst z2
          have : H % L * (0 * L + H % L) < L * L := by
            have e0 : H % L * (0 * L + H % L) = H % L * (H % L) := by grind
            rw [e0]
            rcases Int.lt_or_le 0 (H % L) with y | y
            · have h1 := Int.mul_lt_mul_of_pos_right r1 y
              have h2 := Int.mul_lt_mul_of_pos_left r1 hL
              omega
            · have y2 : H % L = 0 := by omega
              rw [y2]
              have : 0 < L * L := Int.mul_pos hL hL
              omega
          exact cB this
      have a := at_k w hk hwq
      have b := tk w hk hwq
      rw [if_neg cB] at a
      exact ⟨_, b.1, b.2, a⟩
theorem hit {a b w : Int} (ha : 0 < a) (hb : 0 < b) (h0 : 0 ≤ w) (hw : w < worthF a b) : ∃ t, 1 ≤ t ∧ t ≤ mostF a b ∧ worthF (behA a b t) (behB a b t) = w := by
  obtain ⟨t, t1, t2, t3⟩ := hitLH (mn_pos ha hb) (mn_mx a b) h0 hw
  refine ⟨t, t1, (Int.le_ediv_iff_mul_le (mn_pos ha hb)).mpr (by omega), ?_⟩
  unfold mnF mxF at t3
  unfold behA behB
  rcases Int.lt_or_le b a with c | c
  · rw [if_neg (by omega), if_neg (by omega)] at t3
    rw [if_pos c, if_pos c]
    exact t3
  · rw [if_pos (by omega), if_pos (by omega)] at t3
    rw [if_neg (by omega), if_neg (by omega), worth_comm (b - t * a) a]
    exact t3
end KM

set_option Elab.async false
set_option linter.all false
set_option maxRecDepth 100000
set_option maxHeartbeats 4000000
namespace Mt
open PySem PySem.Spec PyProof.Rows L2
/-! ### max, min of a pair -/
def rMaxT (K : PySem.W.Frag) : List V → Hp → VK → Prop := fun vs H Q => ∃ (p : Addr) (i j : Int), vs = [.ref p] ∧ SqT K H p [.int i, .int j] ∧ Q (.int (if i < j then j else i)) H
def rMinT (K : PySem.W.Frag) : List V → Hp → VK → Prop := fun vs H Q => ∃ (p : Addr) (i j : Int), vs = [.ref p] ∧ SqT K H p [.int i, .int j] ∧ Q (.int (if j < i then j else i)) H
theorem holds_int_of {h : Heap} {v : Value} {i : Int} (H : PySem.W.Holds h v i) : ∃ t, v = .int i t := by
  obtain ⟨as, r⟩ := H
  cases r
  exact ⟨_, rfl⟩
theorem holds_mk {h : Heap} {i : Int} {t : Tok} : PySem.W.Holds h (.int i t) i := ⟨_, .int _ _⟩
section
variable {X : Cx}
theorem cr_maxT (hc : X.calm = true) (hu : X.A.units + 64 < cLine) : CallR X (.builtin "max") (rMaxT X.K) := by
  intro pins s σ H vs us Q I r h
  obtain ⟨p, i, j, rfl, hs, q⟩ := h
  obtain ⟨its, rv, ht, _⟩ := I.tuple hs
  rw [Vals.ref1 r]
  obtain ⟨u, w', rfl, ⟨t, rfl⟩, ⟨t', rfl⟩⟩ := vals2 rv
  refine PySem.W.max_tuple_datum (α := Int) (x := i) (xs := [j]) (I.ok.hd hc) ht (.cons holds_mk (.cons holds_mk .nil)) (by show X.A.units + 1 + 0 < cLine; omega) fun k v h' tk hk hv keep => ?_
  obtain ⟨t2, rfl⟩ := holds_int_of hv
  refine ⟨.int _, H, I.kept keep, ⟨_, rfl⟩, ?_⟩
  have e : PySem.W.maxOf i [j] = if i < j then j else i := by
    show (if decide (i < j) = true then j else i) = _
    simp
  rw [e]
  exact q
theorem cr_minT (hc : X.calm = true) (hu : X.A.units + 64 < cLine) : CallR X (.builtin "min") (rMinT X.K) := by
  intro pins s σ H vs us Q I r h
  obtain ⟨p, i, j, rfl, hs, q⟩ := h
  obtain ⟨its, rv, ht, _⟩ := I.tuple hs
  rw [Vals.ref1 r]
  obtain ⟨u, w', rfl, ⟨t, rfl⟩, ⟨t', rfl⟩⟩ := vals2 rv
  refine PySem.W.min_tuple_datum (α := Int) (x := i) (xs := [j]) (I.ok.hd hc) ht (.cons holds_mk (.cons holds_mk .nil)) (by show X.A.units + 1 + 0 < cLine; omega) fun k v h' tk hk hv keep => ?_
  obtain ⟨t2, rfl⟩ := holds_int_of hv
  refine ⟨.int _, H, I.kept keep, ⟨_, rfl⟩, ?_⟩
  have e : PySem.W.minOf i [j] = if j < i then j else i := by
    show (if decide (j < i) = true then j else i) = _
    simp
  rw [e]
  exact q
end

/-! ### a def of the top as the walk takes it -/
structure DefAt (K : PySem.W.Frag) (mg : Str → Option Value) (x : Str) (st : Stmt) (ps : List Str) where
  f : Addr
  fd : FuncData
  F : Fun K x x st f fd
  b : Binds K fd ps []
  g : mg x = some (.ref f)
/-! ### promises and what evaluates to what -/
open Evl
/-- a new tuple is handed back -/
def RetU (xs : List V) (H : Hp) (Q : VK) : Prop := ∀ p H2, H p = none → Ex H H2 → H2 p = some (.tup xs) → Q (.ref p) H2
theorem RetU.go {xs : List V} {H H' H2 : Hp} {Q : VK} {p : Addr} (k : RetU xs H Q) (e : Ex H H') (hp : H' p = none) (e2 : Ex H' H2) (h : H2 p = some (.tup xs)) : Q (.ref p) H2 := k p H2 (fresh_back e hp) (e.trans e2) h
def SpU (sp : Sp) (vs : List V) (H : Hp) (xs : List V) : Prop := ∀ H1, Ex H H1 → ∀ Q : VK, (∀ p H2, H1 p = none → Ex H1 H2 → H2 p = some (.tup xs) → Q (.ref p) H2) → ∀ E : XK, sp vs H1 Q E
section
variable {K : PySem.W.Frag} {σ : L2.St} {H H' : Hp} {ta tb te tx : TE} {t u : TT} {x y z v : V} {r : R2} {D : Ends} {tu tw tz : TS} {g : TG}
theorem EvU.mono {xs : List V} (e : Ex H H') (h : EvU te σ H xs) : EvU te σ H' xs := fun H1 a Q q => h H1 (e.trans a) Q q
theorem eu_call {sp : Sp} {dvs vs xs : List V} {E : XK} {ta : TA} (h : EvA ta σ H vs) (hs : SpU sp (vs ++ dvs) H xs) : EvU (tCall sp dvs E ta) σ H xs := fun H1 e Q q =>
  h H1 e _ fun H2 e2 => hs H2 (e.trans e2) Q (fun p H3 hp e3 h3 => q p H3 (fresh_back e2 hp) (e2.trans e3) h3) E
/-- an argument that is a new tuple -/
theorem ev_callU {sp : Sp} {xs : List V} {E : XK} (h : EvU ta σ H xs) (hs : ∀ p H1, H1 p = some (.tup xs) → Ex H H1 → SpV sp [.ref p] H1 z) : Ev (tCall sp [] E (tCons ta tNil)) σ H z := fun H1 e Q q =>
  h H1 e _ fun p H2 _ e2 hp => hs p H2 hp (e.trans e2) H2 (Ex.refl H2) Q (fun H3 e3 => q H3 (e2.trans e3)) E
/-- a, b = a pair that is made | that stands -/
theorem s_unU {i j : Nat} (h : EvU te σ H [x, y]) (k : ∀ H1, Ex H H1 → D.nx ((σ.set i (some x)).set j (some y)) H1) : tAsg te (gTup K 2 (gCons (gName i) (gCons (gName j) gNil))) D σ H :=
  h H (Ex.refl H) _ fun p H1 _ e hp => ⟨p, [x, y], rfl, st_of hp, rfl, x, [y], rfl, y, [], rfl, rfl, k H1 e⟩
theorem q_unU {i j : Nat} (h : EvU te σ H [x, y]) (k : ∀ H1, Ex H H1 → tz D ((σ.set i (some x)).set j (some y)) H1) : tSeq (tAsg te (gTup K 2 (gCons (gName i) (gCons (gName j) gNil)))) tz D σ H := s_unU (D := { D with nx := tz D }) h k
theorem s_unT {i j : Nat} {p : Addr} (h : Ev te σ H (.ref p)) (ht : SqT K H p [x, y]) (k : ∀ H1, Ex H H1 → D.nx ((σ.set i (some x)).set j (some y)) H1) : tAsg te (gTup K 2 (gCons (gName i) (gCons (gName j) gNil))) D σ H :=
  h H (Ex.refl H) _ fun H1 e => ⟨p, [x, y], rfl, ex_t e ht, rfl, x, [y], rfl, y, [], rfl, rfl, k H1 e⟩
theorem q_unT {i j : Nat} {p : Addr} (h : Ev te σ H (.ref p)) (ht : SqT K H p [x, y]) (k : ∀ H1, Ex H H1 → tz D ((σ.set i (some x)).set j (some y)) H1) : tSeq (tAsg te (gTup K 2 (gCons (gName i) (gCons (gName j) gNil)))) tz D σ H := s_unT (D := { D with nx := tz D }) h ht k
/-- a, b = x, y -/
theorem q_par {i j : Nat} {ta : TA} (h : EvA ta σ H [x, y]) (k : ∀ H1, Ex H H1 → tz D ((σ.set i (some x)).set j (some y)) H1) : tSeq (tPar i j ta) tz D σ H :=
  h H (Ex.refl H) _ fun H1 e => ⟨x, y, rfl, k H1 e⟩
theorem s_par {i j : Nat} {ta : TA} (h : EvA ta σ H [x, y]) (k : ∀ H1, Ex H H1 → D.nx ((σ.set i (some x)).set j (some y)) H1) : tPar i j ta D σ H :=
  h H (Ex.refl H) _ fun H1 e => ⟨x, y, rfl, k H1 e⟩
/-- isinstance -/
theorem ty_tup {p : Addr} {xs : List V} (h : SqT K H p xs) : TyX K H (.ref p) (.type "tuple") := by
  rcases h with (h | ⟨o, h⟩) | ⟨o, its, n, h1, h2, _⟩
  · exact .base (.tup h)
  · exact .fTuple h
  · exact .kTuple h1 h2
theorem rc_isi_int {i : Int} {T : String} {b : Bool} (h : kitB "int" T = some b) : RC (rIsi K) [.int i, .ty T] H (.bl b) := fun H1 _ _ q =>
  ⟨_, _, _, _, b, rfl, .ty T, .base (.int i), kit_ty h, q H1 (Ex.refl H1)⟩
theorem rc_isi_bl {i : Bool} {T : String} {b : Bool} (h : kitB "bool" T = some b) : RC (rIsi K) [.bl i, .ty T] H (.bl b) := fun H1 _ _ q =>
  ⟨_, _, _, _, b, rfl, .ty T, .base (.bl i), kit_ty h, q H1 (Ex.refl H1)⟩
theorem rc_isi_tup {p : Addr} {xs : List V} {T : String} {b : Bool} (hp : SqT K H p xs) (h : kitB "tuple" T = some b) : RC (rIsi K) [.ref p, .ty T] H (.bl b) := fun H1 e _ q =>
  ⟨_, _, _, _, b, rfl, .ty T, ty_tup (ex_t e hp), kit_ty h, q H1 (Ex.refl H1)⟩
/-- len -/
theorem rc_lenT {p : Addr} {xs : List V} (hp : SqT K H p xs) : RC (fun xs H Q => ∃ p ys, xs = [.ref p] ∧ (SqL K H p ys ∨ SqT K H p ys) ∧ Q (.int ys.length) H) [.ref p] H (.int xs.length) := fun H1 e _ q =>
  ⟨p, xs, rfl, .inr (ex_t e hp), q H1 (Ex.refl H1)⟩
theorem rc_lenL {p : Addr} {xs : List V} (hp : SqL K H p xs) : RC (fun xs H Q => ∃ p ys, xs = [.ref p] ∧ (SqL K H p ys ∨ SqT K H p ys) ∧ Q (.int ys.length) H) [.ref p] H (.int xs.length) := fun H1 e _ q =>
  ⟨p, xs, rfl, .inl (ex_l e hp), q H1 (Ex.refl H1)⟩
theorem rc_maxT {p : Addr} {i j : Int} (hp : SqT K H p [.int i, .int j]) : RC (rMaxT K) [.ref p] H (.int (if i < j then j else i)) := fun H1 e _ q => ⟨p, i, j, rfl, ex_t e hp, q H1 (Ex.refl H1)⟩
theorem rc_minT {p : Addr} {i j : Int} (hp : SqT K H p [.int i, .int j]) : RC (rMinT K) [.ref p] H (.int (if j < i then j else i)) := fun H1 e _ q => ⟨p, i, j, rfl, ex_t e hp, q H1 (Ex.refl H1)⟩
theorem rc_sum {p : Addr} {ns : List Int} (hp : SqL K H p (ns.map V.int)) : RC (rSum K) [.ref p] H (.int ns.sum) := fun H1 e _ q => ⟨p, ns, rfl, ex_l e hp, q H1 (Ex.refl H1)⟩
/-- one test that is known, in an or, an and -/
theorem et_or_ff {t u : TT} (h1 : EvT t σ H false) (h2 : EvT u σ H false) : EvT (tOr t u) σ H false := et_or h1 fun _ => h2
/-- == of data at any depth -/
theorem rv_eqD {d e : PyData} (hd : ∀ H1, Ex H H1 → Dp K H1 x d) (he : ∀ H1, Ex H H1 → Dp K H1 y e) (sd : SeqAt.shaped d = true) (se : SeqAt.shaped e = true) : RV (rEqD K) x y H (.bl (PyData.eqv d e)) := fun H1 a _ q =>
  ⟨d, e, hd H1 a, he H1 a, sd, se, q H1 (Ex.refl H1)⟩
theorem rv_neD {d e : PyData} (hd : ∀ H1, Ex H H1 → Dp K H1 x d) (he : ∀ H1, Ex H H1 → Dp K H1 y e) (sd : SeqAt.shaped d = true) (se : SeqAt.shaped e = true) : RV (rNeD K) x y H (.bl (!PyData.eqv d e)) := fun H1 a _ q =>
  ⟨d, e, hd H1 a, he H1 a, sd, se, q H1 (Ex.refl H1)⟩
theorem dp_pair {p : Addr} {a b : Int} (h : SqT K H p [.int a, .int b]) : ∀ H1, Ex H H1 → Dp K H1 (.ref p) (.tuple [.int a, .int b]) := fun _ e => .tup (ex_t e h) (.cons (.int _) (.cons (.int _) .nil))
theorem sh_pair (a b : Int) : SeqAt.shaped (.tuple [.int a, .int b]) = true := rfl
theorem eqv_pair (a b c d : Int) : PyData.eqv (.tuple [.int a, .int b]) (.tuple [.int c, .int d]) = (decide (a = c) && decide (b = d)) := by
  simp only [PyData.eqv, PyData.eqvAll, Bool.and_true]
  rfl
end
/-! ### numbers of a size -/
structure Big (x : Int) : Prop where
  pos : 0 < x
  lt : x.natAbs < 2 ^ 4000
theorem Big.mul {x y : Int} (hx : x.natAbs < 2 ^ 4000) (hy : y.natAbs < 2 ^ 4000) : CMulX x y := mulx_ok hx hy (by decide)
theorem Big.div {i x : Int} (h : Big x) : CDivW i x := wide_div h.pos h.lt (by decide) (by decide)
theorem Big.divp {i x : Int} (h : Big x) : CDivP i x := ⟨h.pos, PyProof.noPylong_of_log2 (h.div (i := i)).2⟩
theorem Big.le {x y : Int} (h : Big x) (h0 : 0 < y) (hy : y ≤ x) : Big y := ⟨h0, wide_le (Int.le_of_lt h0) hy h.lt⟩
theorem Big.nle {x y : Int} (h : Big x) (h0 : 0 ≤ y) (hy : y ≤ x) : y.natAbs < 2 ^ 4000 := wide_le h0 hy h.lt
open KM
set_option exponentiation.threshold 300
theorem big_mn {a b : Int} (ha : Big a) (hb : Big b) : Big (mnF a b) := by unfold mnF; split <;> assumption
theorem big_mx {a b : Int} (ha : Big a) (hb : Big b) : Big (mxF a b) := by unfold mxF; split <;> assumption
theorem eu_divmod {i j : Int} {σ : L2.St} {H : Hp} {ta tb : TE} (ha : Ev ta σ H (.int i)) (hb : Ev tb σ H (.int j)) (hc : CDivP i j) :
    EvU (tCB (fun xs H Q => ∃ i j, xs = [V.int i, V.int j] ∧ CDivP i j ∧ ∀ p, H p = none → Q (.ref p) (upd H p (.tup [.int (i / j), .int (i % j)]))) (tCons ta (tCons tb tNil))) σ H [.int (i / j), .int (i % j)] := fun H1 e Q q =>
  ha H1 e _ fun H2 e2 => hb H2 (e.trans e2) _ fun H3 e3 => ⟨i, j, rfl, hc, fun p hp => q p _ (fresh_back (e2.trans e3) hp) ((e2.trans e3).trans (Ex.new hp)) upd_same⟩
/-! ### sizes in bits -/
def W (k : Nat) (x : Int) : Prop := x.natAbs < 2 ^ k
theorem W.mono {k j : Nat} {x : Int} (h : W k x) (e : k ≤ j) : W j x := Nat.lt_of_lt_of_le h (Nat.pow_le_pow_right (by decide) e)
theorem W.add {k : Nat} {x y : Int} (hx : W k x) (hy : W k y) : W (k + 1) (x + y) := by
  unfold W at *
  have := Int.natAbs_add_le x y
  rw [Nat.pow_succ]
  omega
theorem W.mul {k j : Nat} {x y : Int} (hx : W k x) (hy : W j y) : W (k + j) (x * y) := wide_lt hx hy
theorem W.cm {k j : Nat} {x y : Int} (hx : W k x) (hy : W j y) (h : k + j ≤ 134217728) : CMulX x y := mulx_ok hx hy h
theorem W.of_bits {x : Int} {k : Nat} (h : Builtin.Int.intBits x ≤ k) : W k x := by
  unfold W
  by_cases h0 : x = 0
  · subst h0
    exact Nat.pow_pos (by decide)
  · unfold Builtin.Int.intBits at h
    rw [if_neg (by simpa using h0)] at h
    exact (Nat.log2_lt (by omega)).mp (by omega)
theorem W.small {x : Int} (h0 : 0 ≤ x) (h : x < 4294967296) : W 32 x := by
  unfold W
  have : (2 : Nat) ^ 32 = 4294967296 := by decide
  omega
theorem cd_small {i j : Int} (h0 : 0 < j) (h : j < 4294967296) : CDivW i j := wide_div (b := 32) h0 (W.small (by omega) h) (by decide) (by decide)
theorem cp_small {i j : Int} (h0 : 0 ≤ j) (h : j ≤ 1000000) (hi : 0 ≤ i) (h2 : i < 4294967296) : CPow i j := ⟨h0, h, (W.small hi h2).mono (by decide)⟩
section
variable {K : PySem.W.Frag} {σ : L2.St} {H H' : Hp} {ta tb te tx : TE} {t u : TT} {x y z v : V} {r : R2} {D : Ends} {tu tw tz : TS} {g : TG}
theorem el_if {b : Bool} {xs : List V} (h : EvT t σ H b) (h1 : b = true → EvL ta σ H xs) (h2 : b = false → EvL tb σ H xs) : EvL (tIf t ta tb) σ H xs := fun H1 e Q q => h H1 e _ fun H2 e2 => by
  cases b with
  | true =>
    show ta σ H2 Q
    exact h1 rfl H2 (e.trans e2) Q fun p H3 hp e3 h3 => q p H3 (fresh_back e2 hp) (e2.trans e3) h3
  | false =>
    show tb σ H2 Q
    exact h2 rfl H2 (e.trans e2) Q fun p H3 hp e3 h3 => q p H3 (fresh_back e2 hp) (e2.trans e3) h3
theorem s_retIf {b : Bool} (h : EvT t σ H b) (h1 : b = true → ∀ H1, Ex H H1 → tRet ta D σ H1) (h2 : b = false → ∀ H1, Ex H H1 → tRet tb D σ H1) : tRet (tIf t ta tb) D σ H := h H (Ex.refl H) _ fun H1 e => by
  cases b with
  | true =>
    show ta σ H1 D.rt
    exact h1 rfl H1 e
  | false =>
    show tb σ H1 D.rt
    exact h2 rfl H1 e
/-- the first operand a new tuple -/
theorem ev_opU1 {xs : List V} (ha : EvU ta σ H xs) (hb : Ev tb σ H y) (hr : ∀ p H1, H1 p = some (.tup xs) → Ex H H1 → RV r (.ref p) y H1 z) : Ev (tOp r ta tb) σ H z := fun H1 e Q q =>
  ha H1 e _ fun p H2 _ e2 hp => hb H2 (e.trans e2) _ fun H3 e3 => hr p H3 (e3 p _ hp) ((e.trans e2).trans e3) H3 (Ex.refl H3) Q fun H4 e4 => q H4 ((e2.trans e3).trans e4)
theorem dpall_ints : ∀ ns : List Int, DpAll K H (ns.map V.int) (ns.map PyData.int)
  | [] => .nil
  | n :: r => .cons (.int n) (dpall_ints r)
theorem dp_ints {a : Addr} {ns : List Int} (h : SqL K H a (ns.map V.int)) : ∀ H1, Ex H H1 → Dp K H1 (.ref a) (.list (ns.map PyData.int)) := fun _ e => .lst (ex_l e h) (dpall_ints ns)
theorem eqv_nil : ∀ ns : List Int, PyData.eqv (.list (ns.map PyData.int)) (.list (([] : List Int).map PyData.int)) = decide (ns = [])
  | [] => by simp only [PyData.eqv, List.map_nil, PyData.eqvAll, decide_true]
  | n :: r => by simp [PyData.eqv, PyData.eqvAll]
/-- xs != [] -/
theorem et_nonempty {a : Addr} {ns : List Int} (ha : Ev ta σ H (.ref a)) (h : SqL K H a (ns.map V.int)) : EvT (tTest (tOp (rNeD K) ta (tLst tNil))) σ H (!decide (ns = [])) := by
  have e := eqv_nil ns
  refine et_test (ev_is (ev_opL ha (el_lst ea_nil (by show 0 ≤ 100000; decide)) fun p H1 hp e => rv_neD (dp_ints (ex_l e h)) (dp_ints (ns := []) (sq_of hp)) (PySem.W.ke_shaped_ints ns) (PySem.W.ke_shaped_ints [])) ?_)
  rw [e]
theorem cut63 {xs : List V} (h : xs.length ≤ 63) : cutV xs none (some 63) = xs := by
  unfold cutV
  rw [HT.sIx_none, show ((63 : Int)) = ((63 : Nat) : Int) from rfl, HT.sIx_nat, List.drop_zero]
  exact List.take_of_length_le (by omega)
/-- script[:63] if script != [] else [d] -/
def cellsF (d : Int) (ns : List Int) : List Int := if ns = [] then [d] else ns
theorem cells_len {d : Int} {ns : List Int} (h : ns.length ≤ 63) : 0 < (cellsF d ns).length ∧ (cellsF d ns).length ≤ 63 := by
  unfold cellsF
  split
  · exact ⟨by show 0 < 1; decide, by show 1 ≤ 63; decide⟩
  · exact ⟨List.length_pos_iff.mpr (by assumption), h⟩
theorem cells_W {d : Int} {ns : List Int} (hd : W 1048576 d) (h : ∀ n ∈ ns, W 1048576 n) : ∀ n ∈ cellsF d ns, W 1048576 n := by
  unfold cellsF
  split
  · intro n hn
    rw [List.mem_singleton.mp hn]
    exact hd
  · exact h
theorem el_cells {a : Addr} {ns : List Int} {d : Int} (ha : Ev ta σ H (.ref a)) (hb : Ev tb σ H (.ref a)) (h : SqL K H a (ns.map V.int)) (hl : ns.length ≤ 63) :
    EvL (tIf (tTest (tOp (rNeD K) ta (tLst tNil))) (tSl (rSlL K) tb tNoPart (tPart (tC (.int 63)))) (tLst (tCons (tC (.int d)) tNil))) σ H ((cellsF d ns).map V.int) := by
  refine el_if (et_nonempty ha h) (fun z => ?_) (fun z => ?_)
  · have z1 : ¬ ns = [] := by simpa using z
    have e := el_sl (K := K) (th := tPart (tC (.int 63))) hb eo_none (eo_some (i := 63) ev_c) h
    rw [cut63 (by rw [List.length_map]; exact hl)] at e
    unfold cellsF
    rw [if_neg z1]
    exact e
  · have z1 : ns = [] := by simpa using z
    unfold cellsF
    rw [if_pos z1]
    exact el_lst (ea_cons ev_c ea_nil) (by show 1 ≤ 100000; decide)
theorem at_cells {cs : List Int} {i : Int} (h0 : 0 ≤ i) (h : i < cs.length) : ∃ c ∈ cs, atI (cs.map V.int) i = some (.int c) := by
  have hj : i.toNat < cs.length := by omega
  refine ⟨cs[i.toNat], List.getElem_mem hj, at_of (j := i.toNat) (by omega) ?_⟩
  rw [List.getElem?_map, List.getElem?_eq_getElem hj]
  rfl
end
theorem W.s128 {x : Int} (h0 : 0 ≤ x) (h : x ≤ 100000000000000000000000000000000000000) : W 128 x := by
  unfold W
  have : (2 : Nat) ^ 128 = 340282366920938463463374607431768211456 := by decide
  omega
theorem Big.s200 {x : Int} (h0 : 0 < x) (h : x ≤ 1000000000000000000000000000000000000000 * 1099511627776) : Big x := by
  refine ⟨h0, Nat.lt_of_lt_of_le (m := 2 ^ 200) ?_ (Nat.pow_le_pow_right (by decide) (by decide))⟩
  have : (2 : Nat) ^ 200 = 1606938044258990275541962092341162602522202993782792835301376 := by decide
  omega
section
variable {K : PySem.W.Frag} {σ : L2.St} {H H' : Hp} {ta tb te tx tl : TE} {t u : TT} {x y z v : V} {r : R2} {D : Ends} {tu tw tz : TS} {g : TG}
theorem et_yes : EvT tYes σ H true := fun H1 _ _ q => q H1 (Ex.refl H1)
/-- [e for x in a tuple], no test -/
theorem el_compT {a : Addr} {xs : List V} {j : Nat} {vs : List Nat} (f : Nat → V) (h : Ev tl σ H (.ref a)) (hx : SqT K H a xs) (hz : xs.length ≤ 40000)
    (hw : ∀ x, wipe ((wipe σ vs).set j (some x)) vs = wipe σ vs) (he : ∀ (i : Nat) (x : V) H1, Ex H H1 → xs[i]? = some x → Ev te ((wipe σ vs).set j (some x)) H1 (f i)) :
    EvL (tLc (iTup K tl) (gName j) tYes te vs) σ H (given xs.length (fun _ => true) f) := by
  intro H0 e Q q
  refine h H0 e _ fun H1 e1 => ⟨a, rfl, ⟨xs, ex_t (e.trans e1) hx⟩, fun Dl hD => ?_⟩
  refine lc_it (walk_tup (xs := xs)) (Cw H1 (fun _ => true) f Dl) ⟨hD, Ex.new hD, upd_same⟩ (fun i H' _ p => ex_t ((e.trans e1).trans p.2.1) hx) (fun i x H' H'' hi p hy => ?_) fun H' p => q Dl H' (fresh_back e1 p.1) (e1.trans p.2.1) p.2.2
  obtain ⟨rfl, hi'⟩ := hy
  exact ⟨hw x, cw_turn p (by omega) et_yes fun _ => he i x H1 (e.trans e1) hi'⟩
/-- [e for x in range(lo, hi)], no test -/
theorem el_compR {ta : TA} {lo n : Int} {j : Nat} {vs : List Nat} (f : Nat → V) (h : EvA ta σ H [.int lo, .int n]) (hz : -100000 ≤ lo ∧ lo ≤ 40000 ∧ -100000 ≤ n ∧ n ≤ 40000 ∧ (n - lo).toNat ≤ 40000)
    (hw : ∀ x, wipe ((wipe σ vs).set j (some x)) vs = wipe σ vs) (he : ∀ (i : Nat) H1, Ex H H1 → lo + (i : Int) < n → Ev te ((wipe σ vs).set j (some (.int (lo + (i : Int))))) H1 (f i)) :
    EvL (tLc (iRng2 ta) (gName j) tYes te vs) σ H (given (n - lo).toNat (fun _ => true) f) := by
  intro H0 e Q q
  refine h H0 e _ fun H1 e1 => ⟨lo, n, rfl, ⟨by omega, by omega, by omega, by omega⟩, fun Dl hD => ?_⟩
  refine lc_it (walk_range (lo := lo) (n := (n - lo).toNat)) (Cw H1 (fun _ => true) f Dl) ⟨hD, Ex.new hD, upd_same⟩ (fun _ _ _ _ => trivial) (fun i x H' H'' hi p hy => ?_) fun H' p => q Dl H' (fresh_back e1 p.1) (e1.trans p.2.1) p.2.2
  obtain ⟨rfl, rfl⟩ := hy
  exact ⟨hw _, cw_turn p (by omega) et_yes fun _ => he i H1 (e.trans e1) (by omega)⟩
/-- all(a new list of truths) -/
theorem ev_allL {bs : List Bool} (h : EvL te σ H (bs.map V.bl)) : Ev (tCB (rAll K) (tCons te tNil)) σ H (.bl (bs.all id)) := fun H1 e Q q =>
  h H1 e _ fun p H2 _ e2 hp => ⟨p, bs, rfl, sq_of hp, q H2 e2⟩
end
theorem mx_eq (a b : Int) : (if a < b then b else a) = mxF a b := by unfold mxF; split <;> split <;> omega
theorem mn_eq (a b : Int) : (if b < a then b else a) = mnF a b := by unfold mnF; split <;> split <;> omega
theorem t_big {a b t : Int} (ha : Big a) (hb : Big b) (ht : 1 ≤ t) (hm : t ≤ mostF a b) : t.natAbs < 2 ^ 4000 := by
  have hlt := most_lt ha.pos hb.pos hm
  have hl0 := mn_pos ha.pos hb.pos
  refine (big_mx ha hb).nle (by omega) ?_
  have := Int.mul_le_mul_of_nonneg_left (show 1 ≤ mnF a b by omega) (show 0 ≤ t by omega)
  omega
theorem big_most {a b : Int} (ha : Big a) (hb : Big b) (h : 0 < mostF a b) : Big (mostF a b) := ⟨h, t_big ha hb (by omega) (Int.le_refl _)⟩
theorem big_beh {a b t : Int} (ha : Big a) (hb : Big b) (ht : 1 ≤ t) (hm : t ≤ mostF a b) : Big (behA a b t) ∧ Big (behB a b t) := by
  have h1 := behA_pos ha.pos hb.pos hm
  have h2 := behB_pos ha.pos hb.pos hm
  have h3 : 0 ≤ t * b := Int.mul_nonneg (by omega) (Int.le_of_lt hb.pos)
  have h4 : 0 ≤ t * a := Int.mul_nonneg (by omega) (Int.le_of_lt ha.pos)
  refine ⟨ha.le h1 ?_, hb.le h2 ?_⟩
  · unfold behA; split <;> omega
  · unfold behB; split <;> omega
section
variable {K : PySem.W.Frag} {σ : L2.St} {H H' : Hp} {ta tb te tx tl : TE} {t u : TT} {x y z v : V} {r : R2} {D : Ends} {tu tw tz : TS} {g : TG}
/-- over a new list, the target a name -/
theorem s_forN {xs : List V} {j : Nat} (h : EvL tl σ H xs) (Pv : Addr → Nat → L2.St → Hp → Prop) (h0 : ∀ p H1, H p = none → Ex H H1 → H1 p = some (.lst xs) → Pv p 0 σ H1) (hl : ∀ p i σ' H', i ≤ xs.length → Pv p i σ' H' → SqL K H' p xs)
    (hs : ∀ p i x σ' H', xs[i]? = some x → Pv p i σ' H' → tu { D with nx := Pv p (i + 1), ct := Pv p (i + 1), bk := D.nx } (σ'.set j (some x)) H') (hd : ∀ p σ' H', Pv p xs.length σ' H' → D.nx σ' H') : tFor (iList K tl) (gName j) tu D σ H :=
  s_forNL h Pv h0 hl hs hd
/-- t != u, both pairs, alike -/
theorem rv_nePair {p q : Addr} {a b : Int} (hp : SqT K H p [.int a, .int b]) (hq : SqT K H q [.int a, .int b]) : RV (rNeD K) (.ref p) (.ref q) H (.bl false) := by
  have e := rv_neD (dp_pair hp) (dp_pair hq) (sh_pair a b) (sh_pair a b)
  rw [eqv_pair] at e
  simpa using e
end
section
variable {K : PySem.W.Frag} {σ : L2.St} {H H' : Hp} {ta tb td ty te tv tx tl : TE} {t u : TT} {x y z v : V} {r : R2} {D : Ends} {tu tw tz : TS} {g : TG}
theorem rc_max2 {i j : Int} : RC (fun xs H Q => ∃ i j, xs = [V.int i, V.int j] ∧ Q (.int (if j > i then j else i)) H) [.int i, .int j] H (.int (if i < j then j else i)) := fun H1 _ _ q => ⟨i, j, rfl, q H1 (Ex.refl H1)⟩
theorem rc_min2 {i j : Int} : RC (fun xs H Q => ∃ i j, xs = [V.int i, V.int j] ∧ Q (.int (if j < i then j else i)) H) [.int i, .int j] H (.int (if j < i then j else i)) := fun H1 _ _ q => ⟨i, j, rfl, q H1 (Ex.refl H1)⟩
/-- d[a new tuple] -/
theorem ev_dgetU {d : Addr} {kvs : List (List Key × V)} {k : List Key} (hd : Ev td σ H (.ref d)) (hy : EvU ty σ H (k.map kV)) (hD : H d = some (.dT kvs)) (hv : valV kvs k = some v) : Ev (tDGet td ty) σ H v := by
  intro H1 e Q q
  refine hd H1 e _ fun H2 e2 => hy H2 (e.trans e2) _ fun p H3 _ e3 hp => ⟨d, v, rfl, ?_, q H3 (e2.trans e3)⟩
  rw [← hv]
  exact DGet.t (e3 d _ (e2 d _ (e d _ hD))) hp
/-- d[t] = v, t a tuple that stands -/
theorem s_dput {d b : Addr} {kvs : List (List Key × V)} {k : List Key} (hv : Ev tv σ H v) (hd : Ev td σ H (.ref d)) (hy : Ev ty σ H (.ref b)) (hD : H d = some (.dT kvs)) (hb : H b = some (.tup (k.map kV))) (hl : kvs.length < 100000)
    (n : ∀ H1, Ex H H1 → D.nx σ (upd H1 d (.dT (putK kvs k v)))) : sDPut td ty tv D σ H := by
  refine hv H (Ex.refl H) _ fun H1 e1 => hd H1 e1 _ fun H2 e2 => hy H2 (e1.trans e2) _ fun H3 e3 => ?_
  have e := (e1.trans e2).trans e3
  exact ⟨d, _, rfl, DPut.t (e d _ hD) (e b _ hb) (sz_lt hl), n H3 e⟩
end
section
variable {K : PySem.W.Frag} {σ : L2.St} {H H' : Hp} {ta tb td ty te tv tx tl : TE} {t u : TT} {x y z v : V} {r : R2} {D : Ends} {tu tw tz : TS} {g : TG}
theorem ev_sumL {ns : List Int} (h : EvL te σ H (ns.map V.int)) : Ev (tCB (rSum K) (tCons te tNil)) σ H (.int ns.sum) := fun H1 e Q q =>
  h H1 e _ fun p H2 _ e2 hp => ⟨p, ns, rfl, sq_of hp, q H2 e2⟩
/-- the first of two arguments a new tuple, a tuple handed back -/
theorem eu_callU2 {sp : Sp} {xs zs : List V} {E : XK} (h : EvU ta σ H xs) (hb : Ev tb σ H y) (hs : ∀ p H1, H1 p = some (.tup xs) → Ex H H1 → SpU sp [.ref p, y] H1 zs) : EvU (tCall sp [] E (tCons ta (tCons tb tNil))) σ H zs := fun H1 e Q q =>
  h H1 e _ fun p H2 _ e2 hp => hb H2 (e.trans e2) _ fun H3 e3 => hs p H3 (e3 p _ hp) ((e.trans e2).trans e3) H3 (Ex.refl H3) Q (fun p' H4 hp' e4 h4 => q p' H4 (fresh_back (e2.trans e3) hp') ((e2.trans e3).trans e4) h4) E
/-- some value of which P holds in the heap then -/
def EvS (te : TE) (σ : L2.St) (H : Hp) (P : V → Hp → Prop) : Prop := ∀ H1, Ex H H1 → ∀ Q : VK, (∀ v H2, Ex H1 H2 → P v H2 → Q v H2) → te σ H1 Q
def SpS (sp : Sp) (vs : List V) (H : Hp) (P : V → Hp → Prop) : Prop := ∀ H1, Ex H H1 → ∀ Q : VK, (∀ v H2, Ex H1 H2 → P v H2 → Q v H2) → ∀ E : XK, sp vs H1 Q E
theorem es_call {sp : Sp} {vs : List V} {E : XK} {ta : TA} {P : V → Hp → Prop} (h : EvA ta σ H vs) (hs : SpS sp (vs ++ []) H P) : EvS (tCall sp [] E ta) σ H P := fun H1 e Q q =>
  h H1 e _ fun H2 e2 => hs H2 (e.trans e2) Q (fun v H3 e3 p => q v H3 (e2.trans e3) p) E
theorem ev_callS2 {sp : Sp} {E : XK} {P : V → Hp → Prop} (h : EvS ta σ H P) (hb : Ev tb σ H y) (hs : ∀ v H1 H2, Ex H H1 → P v H1 → Ex H1 H2 → SpV sp [v, y] H2 z) : Ev (tCall sp [] E (tCons ta (tCons tb tNil))) σ H z := fun H1 e Q q =>
  h H1 e _ fun v H2 e2 p => hb H2 (e.trans e2) _ fun H3 e3 => hs v H2 H3 (e.trans e2) p e3 H3 (Ex.refl H3) Q (fun H4 e4 => q H4 ((e2.trans e3).trans e4)) E
theorem ev_callS1 {sp : Sp} {E : XK} {P : V → Hp → Prop} (h : EvS ta σ H P) (hs : ∀ v H1, Ex H H1 → P v H1 → SpV sp [v] H1 z) : Ev (tCall sp [] E (tCons ta tNil)) σ H z := fun H1 e Q q =>
  h H1 e _ fun v H2 e2 p => hs v H2 (e.trans e2) p H2 (Ex.refl H2) Q (fun H4 e4 => q H4 (e2.trans e4)) E
theorem q_asgS {i : Nat} {P : V → Hp → Prop} (h : EvS te σ H P) (k : ∀ v H1, Ex H H1 → P v H1 → tz D (σ.set i (some v)) H1) : tSeq (tAsg te (gName i)) tz D σ H := h H (Ex.refl H) _ fun v H1 e p => k v H1 e p
/-- d[t] of a dict that a walk has locked, t a tuple that stands -/
theorem ev_dgetF {d b : Addr} {o : Obj} {kvs : List (List Key × V)} {k : List Key} (hd : Ev td σ H (.ref d)) (hy : Ev ty σ H (.ref b)) (hD : H d = some (.frz o (.dT kvs))) (hb : H b = some (.tup (k.map kV))) (hv : valV kvs k = some v) : Ev (tDGet td ty) σ H v := by
  intro H1 e Q q
  refine hd H1 e _ fun H2 e2 => hy H2 (e.trans e2) _ fun H3 e3 => ⟨d, v, rfl, ?_, q H3 (e2.trans e3)⟩
  have x := (e.trans e2).trans e3
  exact .inr ⟨kvs, k, b, .inr ⟨o, x d _ hD⟩, rfl, x b _ hb, hv.symm⟩
/-- [e for k in d], d a dict of tuple keys, locked meanwhile -/
theorem el_compK {d : Addr} {kvs : List (List Key × V)} {j : Nat} {vs : List Nat} (f : Nat → V) (hD : H d = some (.dT kvs)) (hz : kvs.length ≤ 40000) (hd : ∀ HL, Ev td σ HL (.ref d)) (hw : ∀ x, wipe ((wipe σ vs).set j (some x)) vs = wipe σ vs)
    (he : ∀ (i : Nat) (k : List Key) (y : V) (b : Addr) (HL : Hp) (od : Obj), HL d = some (.frz od (.dT kvs)) → kvs[i]? = some (k, y) → HL b = some (.tup (k.map kV)) → Ev te ((wipe σ vs).set j (some (.ref b))) HL (f i)) :
    EvL (tLockE (tLc (iKeys td) (gName j) tYes te vs)) σ H (given kvs.length (fun _ => true) f) := by
  intro H1 e Q q
  refine ⟨d, .dT kvs, e d _ hD, trivial, fun od => ?_⟩
  refine hd _ _ (Ex.refl _) _ fun H2 e2 => ⟨d, od, rfl, .inr ⟨kvs, e2 d _ upd_same, fun Dl hDl => ?_⟩⟩
  refine lc_it walk_keysT (Cw H2 (fun _ => true) f Dl) ⟨hDl, Ex.new hDl, upd_same⟩ (fun i H' _ p => p.2.1 d _ (e2 d _ upd_same)) (fun i x H' H'' hi p hy => ?_) fun H' p => ?_
  · obtain ⟨rfl, k, y, b, hk, rfl, hb⟩ := hy
    obtain ⟨p1, p2, p3⟩ := p
    refine ⟨hw _, ?_⟩
    refine he i k y b H'' od (p2 d _ (e2 d _ upd_same)) hk hb H'' (Ex.refl _) _ fun H4 e4 => ⟨given i (fun _ => true) f, e4 Dl _ p3, sz_lt (by have := given_len i (fun _ => true) f; omega), p1, Ex.mut (p2.trans e4) p1, ?_⟩
    rw [given_yes rfl]
    exact upd_same
  · obtain ⟨p1, p2, p3⟩ := p
    have hfr := p2 d _ (e2 d _ upd_same)
    have n1 : Dl ≠ d := fun z => by
      rw [z] at p1
      rw [e2 d _ upd_same] at p1
      cases p1
    refine ⟨hfr, q Dl _ ?_ (fun b o hb => ?_) ?_⟩
    · have z := fresh_back e2 p1
      rw [upd_ne n1] at z
      exact z
    · by_cases c : b = d
      · subst c
        rw [e b _ hD] at hb
        cases hb
        exact upd_same
      · rw [upd_ne c]
        refine p2 b _ (e2 b _ ?_)
        rw [upd_ne c]
        exact hb
    · rw [upd_ne n1]
      exact p3
end
theorem beh_small {a b t : Int} (ha : 0 < a) (hb : 0 < b) (ht : 1 ≤ t) (hm : t ≤ mostF a b) : 0 < behA a b t ∧ behA a b t ≤ a ∧ 0 < behB a b t ∧ behB a b t ≤ b ∧ behA a b t + behB a b t < a + b := by
  have h1 := behA_pos ha hb hm
  have h2 := behB_pos ha hb hm
  have h3 : 0 < t * b := Int.mul_pos (by omega) hb
  have h4 : 0 < t * a := Int.mul_pos (by omega) ha
  refine ⟨h1, ?_, h2, ?_, ?_⟩
  · unfold behA; split <;> omega
  · unfold behB; split <;> omega
  · unfold behA behB; split <;> omega
theorem Big.small {x : Int} (h0 : 0 < x) (h : x ≤ 1000) : Big x := Big.s200 h0 (by omega)
theorem most_le {a b : Int} (ha : 0 < a) (hb : 0 < b) : mostF a b ≤ a + b := by
  have h1 := mn_pos ha hb
  have h2 : mxF a b ≤ a + b := by unfold mxF; split <;> omega
  unfold mostF
  have h3 := Int.ediv_le_self (mnF a b) (show 0 ≤ mxF a b - 1 by unfold mxF; split <;> omega)
  omega
/-- above 0, below 2 ^ 200 -/
structure Med (x : Int) : Prop where
  big : Big x
  w : W 200 x
theorem Med.s200 {x : Int} (h0 : 0 < x) (h : x ≤ 1000000000000000000000000000000000000000 * 1099511627776) : Med x := by
  refine ⟨Big.s200 h0 h, ?_⟩
  unfold W
  have : (2 : Nat) ^ 200 = 1606938044258990275541962092341162602522202993782792835301376 := by decide
  omega
theorem given_true (n : Nat) : given n (fun _ => true) (fun _ => V.bl true) = (List.replicate n true).map V.bl := by
  unfold given
  rw [List.filter_eq_self.mpr (fun _ _ => rfl)]
  induction n with
  | zero => rfl
  | succ n ih => rw [List.range_succ, List.map_append, ih, List.replicate_succ', List.map_append]; rfl
theorem all_true (n : Nat) : (List.replicate n true).all id = true := by simp
end Mt

set_option Elab.async false
set_option linter.all false
set_option maxRecDepth 100000
set_option maxHeartbeats 4000000
set_option exponentiation.threshold 300
namespace Mt
open PySem PySem.Spec PyProof.Rows L2 Evl KM
def topS (i : Nat) : Stmt := PySem.Challenge.pw_manytimes_k01_whole_worths.main.body.getD i (.Pass ⟨0, 0, 0, 0⟩)
abbrev s_is_whole : Stmt := topS 5
theorem sc_is_whole : FnScope ["value"] ["value"] (defScope s_is_whole) := ⟨rfl, rfl, rfl, by decide +kernel, rfl, by decide +kernel, by decide +kernel⟩
-- is_whole: 0 value
abbrev s_is_above_zero : Stmt := topS 6
theorem sc_is_above_zero : FnScope ["value"] ["value"] (defScope s_is_above_zero) := ⟨rfl, rfl, rfl, by decide +kernel, rfl, by decide +kernel, by decide +kernel⟩
-- is_above_zero: 0 value
abbrev s_is_pair : Stmt := topS 7
theorem sc_is_pair : FnScope ["value", "first", "second"] ["value"] (defScope s_is_pair) := ⟨rfl, rfl, rfl, by decide +kernel, rfl, by decide +kernel, by decide +kernel⟩
-- is_pair: 0 value 1 first 2 second
abbrev s_lesser_and_greater : Stmt := topS 8
theorem sc_lesser_and_greater : FnScope ["pair", "first", "second"] ["pair"] (defScope s_lesser_and_greater) := ⟨rfl, rfl, rfl, by decide +kernel, rfl, by decide +kernel, by decide +kernel⟩
-- lesser_and_greater: 0 pair 1 first 2 second
abbrev s_most : Stmt := topS 9
theorem sc_most : FnScope ["pair", "lesser", "greater"] ["pair"] (defScope s_most) := ⟨rfl, rfl, rfl, by decide +kernel, rfl, by decide +kernel, by decide +kernel⟩
-- most: 0 pair 1 lesser 2 greater
abbrev s_is_taking : Stmt := topS 10
theorem sc_is_taking : FnScope ["pair", "times", "highest"] ["pair", "times"] (defScope s_is_taking) := ⟨rfl, rfl, rfl, by decide +kernel, rfl, by decide +kernel, by decide +kernel⟩
-- is_taking: 0 pair 1 times 2 highest
abbrev s_taken : Stmt := topS 11
theorem sc_taken : FnScope ["pair", "times", "first", "second"] ["pair", "times"] (defScope s_taken) := ⟨rfl, rfl, rfl, by decide +kernel, rfl, by decide +kernel, by decide +kernel⟩
-- taken: 0 pair 1 times 2 first 3 second
abbrev s_worth : Stmt := topS 12
theorem sc_worth : FnScope ["pair", "lesser", "greater", "times", "left"] ["pair"] (defScope s_worth) := ⟨rfl, rfl, rfl, by decide +kernel, rfl, by decide +kernel, by decide +kernel⟩
-- worth: 0 pair 1 lesser 2 greater 3 times 4 left
abbrev s_l_number : Stmt := topS 14
theorem sc_l_number : FnScope ["_law_cell", "_law_at", "_law_whole_here", "_law_mixed", "_law_more"] ["_law_cell", "_law_at", "_law_whole_here"] (defScope s_l_number) := ⟨rfl, rfl, rfl, by decide +kernel, rfl, by decide +kernel, by decide +kernel⟩
-- l_number: 0 _law_cell 1 _law_at 2 _law_whole_here 3 _law_mixed 4 _law_more
abbrev s_l_pair : Stmt := topS 15
theorem sc_l_pair : FnScope ["_law_script", "_law_at", "_law_cells", "_law_whole_here", "_law_number_here", "_law_wide", "_law_one", "_law_other", "_law_kind", "_law_turn"] ["_law_script", "_law_at"] (defScope s_l_pair) := ⟨rfl, rfl, rfl, by decide +kernel, rfl, by decide +kernel, by decide +kernel⟩
-- l_pair: 0 _law_script 1 _law_at 2 _law_cells 3 _law_whole_here 4 _law_number_here 5 _law_wide 6 _law_one 7 _law_other 8 _law_kind 9 _law_turn
abbrev s_l_most : Stmt := topS 16
theorem sc_l_most : FnScope ["_law_pair_here"] ["_law_pair_here"] (defScope s_l_most) := ⟨rfl, rfl, rfl, by decide +kernel, rfl, by decide +kernel, by decide +kernel⟩
-- l_most: 0 _law_pair_here
abbrev s_l_behind : Stmt := topS 17
theorem sc_l_behind : FnScope ["_law_pair_here", "_law_times"] ["_law_pair_here", "_law_times"] (defScope s_l_behind) := ⟨rfl, rfl, rfl, by decide +kernel, rfl, by decide +kernel, by decide +kernel⟩
-- l_behind: 0 _law_pair_here 1 _law_times
abbrev s_l_worth : Stmt := topS 18
theorem sc_l_worth : FnScope ["_law_pair_here", "_law_high", "_law_low"] ["_law_pair_here"] (defScope s_l_worth) := ⟨rfl, rfl, rfl, by decide +kernel, rfl, by decide +kernel, by decide +kernel⟩
-- l_worth: 0 _law_pair_here 1 _law_high 2 _law_low
abbrev s_l_whole : Stmt := topS 19
theorem sc_l_whole : FnScope ["_law_number_here"] ["_law_number_here"] (defScope s_l_whole) := ⟨rfl, rfl, rfl, by decide +kernel, rfl, by decide +kernel, by decide +kernel⟩
-- l_whole: 0 _law_number_here
abbrev s_l_is_pair : Stmt := topS 20
theorem sc_l_is_pair : FnScope ["_law_found", "_law_one"] ["_law_found"] (defScope s_l_is_pair) := ⟨rfl, rfl, rfl, by decide +kernel, rfl, by decide +kernel, by decide +kernel⟩
-- l_is_pair: 0 _law_found 1 _law_one
abbrev s_l_right : Stmt := topS 22
theorem sc_l_right : FnScope ["_law_pair_here", "_law_number_here", "_law_many", "_law_much", "_law_times", "_law_found"] ["_law_pair_here", "_law_number_here"] (defScope s_l_right) := ⟨rfl, rfl, rfl, by decide +kernel, rfl, by decide +kernel, by decide +kernel⟩
-- l_right: 0 _law_pair_here 1 _law_number_here 2 _law_many 3 _law_much 4 _law_times 5 _law_found
abbrev s_l_tried : Stmt := topS 23
theorem sc_l_tried : FnScope ["_law_size", "_law_found", "_law_total", "_law_one", "_law_pair_here", "_law_near", "_law_much", "_law_times"] ["_law_size"] (defScope s_l_tried) := ⟨rfl, rfl, rfl, by decide +kernel, rfl, by decide +kernel, by decide +kernel⟩
-- l_tried: 0 _law_size 1 _law_found 2 _law_total 3 _law_one 4 _law_pair_here 5 _law_near 6 _law_much 7 _law_times
abbrev s_law : Stmt := topS 24
theorem sc_law : FnScope ["_law_script", "_law_whole_here", "_law_cells", "_law_at", "_law_tried_here", "_law_pair_here"] ["_law_script"] (defScope s_law) := ⟨rfl, rfl, rfl, by decide +kernel, rfl, by decide +kernel, by decide +kernel⟩
-- law: 0 _law_script 1 _law_whole_here 2 _law_cells 3 _law_at 4 _law_tried_here 5 _law_pair_here
structure Txt (K : PySem.W.Frag) (mg : Str → Option Value) where
  is_whole : DefAt K mg "is_whole" s_is_whole ["value"]
  is_above_zero : DefAt K mg "is_above_zero" s_is_above_zero ["value"]
  is_pair : DefAt K mg "is_pair" s_is_pair ["value"]
  lesser_and_greater : DefAt K mg "lesser_and_greater" s_lesser_and_greater ["pair"]
  most : DefAt K mg "most" s_most ["pair"]
  is_taking : DefAt K mg "is_taking" s_is_taking ["pair", "times"]
  taken : DefAt K mg "taken" s_taken ["pair", "times"]
  worth : DefAt K mg "worth" s_worth ["pair"]
  l_number : DefAt K mg "_law_number" s_l_number ["_law_cell", "_law_at", "_law_whole_here"]
  l_pair : DefAt K mg "_law_pair" s_l_pair ["_law_script", "_law_at"]
  l_most : DefAt K mg "_law_most" s_l_most ["_law_pair_here"]
  l_behind : DefAt K mg "_law_behind" s_l_behind ["_law_pair_here", "_law_times"]
  l_worth : DefAt K mg "_law_worth" s_l_worth ["_law_pair_here"]
  l_whole : DefAt K mg "_law_whole" s_l_whole ["_law_number_here"]
  l_is_pair : DefAt K mg "_law_is_pair" s_l_is_pair ["_law_found"]
  l_right : DefAt K mg "_law_right" s_l_right ["_law_pair_here", "_law_number_here"]
  l_tried : DefAt K mg "_law_tried" s_l_tried ["_law_size"]
  n_all : mg "all" = none
  n_bool : mg "bool" = none
  n_divmod : mg "divmod" = none
  n_int : mg "int" = none
  n_isinstance : mg "isinstance" = none
  n_len : mg "len" = none
  n_max : mg "max" = none
  n_min : mg "min" = none
  n_range : mg "range" = none
  n_sum : mg "sum" = none
  n_tuple : mg "tuple" = none
/-! ### the promises -/
def sp_is_whole : Sp := fun vs H Q _ => ∃ i : Int, vs = [.int i] ∧ RetV (.bl true) H Q
def sp_is_above_zero : Sp := fun vs H Q _ => ∃ i : Int, vs = [.int i] ∧ RetV (.bl (decide (0 < i))) H Q
def sp_is_pair (K : PySem.W.Frag) : Sp := fun vs H Q _ => ∃ (p : Addr) (a b : Int), vs = [.ref p] ∧ SqT K H p [.int a, .int b] ∧ RetV (.bl (decide (0 < a) && decide (0 < b))) H Q
def sp_lesser_and_greater (K : PySem.W.Frag) : Sp := fun vs H Q _ => ∃ (p : Addr) (a b : Int), vs = [.ref p] ∧ SqT K H p [.int a, .int b] ∧ 0 < a ∧ 0 < b ∧ RetU [.int (mnF a b), .int (mxF a b)] H Q
section
variable {P : Program} {w : World} {K : PySem.W.Frag} {mg : Str → Option Value} {base : Heap}
theorem ok_is_whole (T : Txt K mg) : FnOk P w K mg base CX0 1 T.is_whole.f T.is_whole.fd ["value"] sp_is_whole := by
  refine T.is_whole.F.ok sc_is_whole (fun vs H Q E h => ?_) (fun cdv A outer s H vs Q E hr h => ?_)
  · obtain ⟨i, rfl, _⟩ := h; rfl
  · obtain ⟨i, rfl, q⟩ := h
    refine ⟨_, (pss_one (ps_ret (pe_and (pe_callB call_isi (by rfl) T.n_isinstance (by decide +kernel) (pa_cons (pv 0) (pa_cons (pe_bltn (v := .ty "int") (by rfl) T.n_int (by decide +kernel) rfl) pa_nil))) (pe_one (pe_not (pe_callB call_isi (by rfl) T.n_isinstance (by decide +kernel) (pa_cons (pv 0) (pa_cons (pe_bltn (v := .ty "bool") (by rfl) T.n_bool (by decide +kernel) rfl) pa_nil)))))))), ?_⟩
    exact s_ret (ev_andV (ev_cb (ea_cons (ev_var rfl) (ea_cons ev_c ea_nil)) (rc_isi_int (b := true) (by decide +kernel))) fun _ => ev_notV (ev_cb (ea_cons (ev_var rfl) (ea_cons ev_c ea_nil)) (rc_isi_int (b := false) (by decide +kernel)))) q
theorem ok_is_above_zero (T : Txt K mg) : FnOk P w K mg base CX0 2 T.is_above_zero.f T.is_above_zero.fd ["value"] sp_is_above_zero := by
  refine T.is_above_zero.F.ok sc_is_above_zero (fun vs H Q E h => ?_) (fun cdv A outer s H vs Q E hr h => ?_)
  · obtain ⟨i, rfl, _⟩ := h; rfl
  · obtain ⟨i, rfl, q⟩ := h
    refine ⟨_, (pss_one (ps_ret (pe_and (pe_call (ok_is_whole T) (hr.mono (by omega)) (by rfl) T.is_whole.g T.is_whole.F.kp T.is_whole.b .nil pass0 (pa_cons (pv 0) pa_nil)) (pe_one (pe_cmpR op_gt (pv 0) pe_int (nomark _)))))), ?_⟩
    exact s_ret (ev_andV (a := true) (ev_call (ea_cons (ev_var rfl) ea_nil) fun H1 e Q q E => ⟨i, rfl, q⟩) fun _ => ev_op (ev_var rfl) ev_c rv_I0) q
theorem spv_above {i : Int} {H : Hp} : SpV sp_is_above_zero [.int i] H (.bl (decide (0 < i))) := fun H1 e Q q E => ⟨i, rfl, q⟩
theorem ok_is_pair (T : Txt K mg) : FnOk P w K mg base CX0 3 T.is_pair.f T.is_pair.fd ["value"] (sp_is_pair K) := by
  refine T.is_pair.F.ok sc_is_pair (fun vs H Q E h => ?_) (fun cdv A outer s H vs Q E hr h => ?_)
  · obtain ⟨p, a, b, rfl, _⟩ := h; rfl
  · obtain ⟨p, a, b, rfl, hp, q⟩ := h
    refine ⟨_, (pss_cons (ps_if (PW.pt (pw_or (pt_not (pt_val (pe_callB call_isi (by rfl) T.n_isinstance (by decide +kernel) (pa_cons (pv 0) (pa_cons (pe_bltn (v := .ty "tuple") (by rfl) T.n_tuple (by decide +kernel) rfl) pa_nil))))) (pw_or1 (pt_cmpR op_ne (pe_callB call_len_seq (by rfl) T.n_len (by decide +kernel) (pa_cons (pv 0) pa_nil)) pe_int (nomark _))))) (pss_one (ps_ret pe_bl)) pss_nil)
      (pss_cons (ps_asg (pv 0) (pg_tup rfl (pgs_cons (pg_name (i := 1) sc_is_pair.nd rfl (by first | exact .inl rfl | exact .inr rfl)) (pgs_cons (pg_name (i := 2) sc_is_pair.nd rfl (by first | exact .inl rfl | exact .inr rfl)) pgs_nil))))
      (pss_one (ps_ret (pe_and (pe_call (ok_is_above_zero T) (hr.mono (by omega)) (by rfl) T.is_above_zero.g T.is_above_zero.F.kp T.is_above_zero.b .nil pass0 (pa_cons (pv 1) pa_nil)) (pe_one (pe_call (ok_is_above_zero T) (hr.mono (by omega)) (by rfl) T.is_above_zero.g T.is_above_zero.F.kp T.is_above_zero.b .nil pass0 (pa_cons (pv 2) pa_nil)))))))), ?_⟩
    refine q_when (b := false) (et_or_ff (et_not (a := true) (et_B (ev_cb (ea_cons (ev_var rfl) (ea_cons ev_c ea_nil)) (rc_isi_tup hp (by decide +kernel))))) (et_test (ev_op (ev_cb (ea_cons (ev_var rfl) ea_nil) (rc_lenT hp)) ev_c (rv_ne rfl)))) (fun z => nomatch z) fun _ H1 e1 => ?_
    refine q_unT (ev_var rfl) (ex_t e1 hp) fun H2 e2 => ?_
    exact s_ret (ev_andV (ev_call (ea_cons (ev_var rfl) ea_nil) spv_above) fun _ => ev_call (ea_cons (ev_var rfl) ea_nil) spv_above) fun H3 e3 => q H3 ((e1.trans e2).trans e3)
theorem spv_pair {p : Addr} {a b : Int} {H : Hp} (hp : SqT K H p [.int a, .int b]) : SpV (sp_is_pair K) [.ref p] H (.bl (decide (0 < a) && decide (0 < b))) := fun H1 e Q q E => ⟨p, a, b, rfl, ex_t e hp, q⟩
theorem ok_lesser_and_greater (T : Txt K mg) : FnOk P w K mg base CX0 4 T.lesser_and_greater.f T.lesser_and_greater.fd ["pair"] (sp_lesser_and_greater K) := by
  refine T.lesser_and_greater.F.ok sc_lesser_and_greater (fun vs H Q E h => ?_) (fun cdv A outer s H vs Q E hr h => ?_)
  · obtain ⟨p, a, b, rfl, _⟩ := h; rfl
  · obtain ⟨p, a, b, rfl, hp, ha, hb, q⟩ := h
    refine ⟨_, (pss_cons (ps_if (pt_not (pt_val (pe_call (ok_is_pair T) (hr.mono (by omega)) (by rfl) T.is_pair.g T.is_pair.F.kp T.is_pair.b .nil pass0 (pa_cons (pv 0) pa_nil)))) (pss_one ps_never) pss_nil)
      (pss_cons (ps_asg (pv 0) (pg_tup rfl (pgs_cons (pg_name (i := 1) sc_lesser_and_greater.nd rfl (by first | exact .inl rfl | exact .inr rfl)) (pgs_cons (pg_name (i := 2) sc_lesser_and_greater.nd rfl (by first | exact .inl rfl | exact .inr rfl)) pgs_nil))))
      (pss_cons (ps_if (pt_cmpR op_le (pv 1) (pv 2) (nomark _)) (pss_one (ps_ret (pe_tup (pa_cons (pv 1) (pa_cons (pv 2) pa_nil))))) pss_nil)
      (pss_one (ps_ret (pe_tup (pa_cons (pv 2) (pa_cons (pv 1) pa_nil)))))))), ?_⟩
    refine q_when (b := false) (et_is (et_not (et_B (ev_call (ea_cons (ev_var rfl) ea_nil) (spv_pair hp)))) (by simp [ha, hb])) (fun z => nomatch z) fun _ H1 e1 => ?_
    refine q_unT (ev_var rfl) (ex_t e1 hp) fun H2 e2 => ?_
    refine q_when (et_test (ev_op (ev_var rfl) (ev_var rfl) rv_I0)) (fun z H3 e3 => ?_) (fun z H3 e3 => ?_)
    · have z1 : a ≤ b := of_decide_eq_true z
      unfold mnF mxF at q
      rw [if_pos z1, if_pos z1] at q
      exact s_retU (eu_tup (ea_cons (ev_var rfl) (ea_cons (ev_var rfl) ea_nil)) (by show 2 ≤ 100000; decide)) fun p H4 hp' e4 h4 => RetU.go q ((e1.trans e2).trans e3) hp' e4 h4
    · have z1 : ¬ a ≤ b := of_decide_eq_false z
      unfold mnF mxF at q
      rw [if_neg z1, if_neg z1] at q
      exact s_retU (eu_tup (ea_cons (ev_var rfl) (ea_cons (ev_var rfl) ea_nil)) (by show 2 ≤ 100000; decide)) fun p H4 hp' e4 h4 => RetU.go q ((e1.trans e2).trans e3) hp' e4 h4
theorem spu_lg {p : Addr} {a b : Int} {H : Hp} (hp : SqT K H p [.int a, .int b]) (ha : 0 < a) (hb : 0 < b) : SpU (sp_lesser_and_greater K) [.ref p] H [.int (mnF a b), .int (mxF a b)] := fun H1 e Q q E => ⟨p, a, b, rfl, ex_t e hp, ha, hb, q⟩
end
def sp_most (K : PySem.W.Frag) : Sp := fun vs H Q _ => ∃ (p : Addr) (a b : Int), vs = [.ref p] ∧ SqT K H p [.int a, .int b] ∧ Big a ∧ Big b ∧ RetV (.int (mostF a b)) H Q
def sp_is_taking (K : PySem.W.Frag) : Sp := fun vs H Q _ => ∃ (p : Addr) (a b t : Int), vs = [.ref p, .int t] ∧ SqT K H p [.int a, .int b] ∧ Big a ∧ Big b ∧ RetV (.bl (decide (0 < t) && decide (t ≤ mostF a b))) H Q
def sp_taken (K : PySem.W.Frag) : Sp := fun vs H Q _ => ∃ (p : Addr) (a b t : Int), vs = [.ref p, .int t] ∧ SqT K H p [.int a, .int b] ∧ Big a ∧ Big b ∧ 1 ≤ t ∧ t ≤ mostF a b ∧ RetU [.int (behA a b t), .int (behB a b t)] H Q
def sp_worth (K : PySem.W.Frag) : Sp := fun vs H Q _ => ∃ (p : Addr) (a b : Int), vs = [.ref p] ∧ SqT K H p [.int a, .int b] ∧ Big a ∧ Big b ∧ RetV (.int (worthF a b)) H Q
section
variable {P : Program} {w : World} {K : PySem.W.Frag} {mg : Str → Option Value} {base : Heap}
theorem ok_most (T : Txt K mg) : FnOk P w K mg base CX0 5 T.most.f T.most.fd ["pair"] (sp_most K) := by
  refine T.most.F.ok sc_most (fun vs H Q E h => ?_) (fun cdv A outer s H vs Q E hr h => ?_)
  · obtain ⟨p, a, b, rfl, _⟩ := h; rfl
  · obtain ⟨p, a, b, rfl, hp, ha, hb, q⟩ := h
    refine ⟨_, (pss_cons (ps_asg (pe_call (ok_lesser_and_greater T) (hr.mono (by omega)) (by rfl) T.lesser_and_greater.g T.lesser_and_greater.F.kp T.lesser_and_greater.b .nil pass0 (pa_cons (pv 0) pa_nil)) (pg_tup rfl (pgs_cons (pg_name (i := 1) sc_most.nd rfl (by first | exact .inl rfl | exact .inr rfl)) (pgs_cons (pg_name (i := 2) sc_most.nd rfl (by first | exact .inl rfl | exact .inr rfl)) pgs_nil))))
      (pss_one (ps_ret (pe_op op_fdivW (pe_op op_sub (pv 2) pe_int) (pv 1))))), ?_⟩
    refine q_unU (eu_call (ea_cons (ev_var rfl) ea_nil) (spu_lg hp ha.pos hb.pos)) fun H1 e1 => ?_
    exact s_ret (ev_op (ev_op (ev_var rfl) ev_c rv_I0) (ev_var rfl) (rv_I (big_mn ha hb).div)) fun H2 e2 => q H2 (e1.trans e2)
theorem spv_most {p : Addr} {a b : Int} {H : Hp} (hp : SqT K H p [.int a, .int b]) (ha : Big a) (hb : Big b) : SpV (sp_most K) [.ref p] H (.int (mostF a b)) := fun H1 e Q q E => ⟨p, a, b, rfl, ex_t e hp, ha, hb, q⟩
theorem ok_is_taking (T : Txt K mg) : FnOk P w K mg base CX0 6 T.is_taking.f T.is_taking.fd ["pair", "times"] (sp_is_taking K) := by
  refine T.is_taking.F.ok sc_is_taking (fun vs H Q E h => ?_) (fun cdv A outer s H vs Q E hr h => ?_)
  · obtain ⟨p, a, b, t, rfl, _⟩ := h; rfl
  · obtain ⟨p, a, b, t, rfl, hp, ha, hb, q⟩ := h
    refine ⟨_, (pss_cons (ps_set (i := 2) sc_is_taking.nd rfl (by first | exact .inl rfl | exact .inr rfl) (pe_call (ok_most T) (hr.mono (by omega)) (by rfl) T.most.g T.most.F.kp T.most.b .nil pass0 (pa_cons (pv 0) pa_nil)))
      (pss_one (ps_ret (pe_and (pe_call (ok_is_above_zero T) (hr.mono (by omega)) (by rfl) T.is_above_zero.g T.is_above_zero.F.kp T.is_above_zero.b .nil pass0 (pa_cons (pv 1) pa_nil)) (pe_one (pe_cmpR op_le (pv 1) (pv 2) (nomark _))))))), ?_⟩
    refine q_asg (ev_call (ea_cons (ev_var rfl) ea_nil) (spv_most hp ha hb)) fun H1 e1 => ?_
    exact s_ret (ev_andV (ev_call (ea_cons (ev_var rfl) ea_nil) spv_above) fun _ => ev_op (ev_var rfl) (ev_var rfl) rv_I0) fun H2 e2 => q H2 (e1.trans e2)
theorem spv_taking {p : Addr} {a b t : Int} {H : Hp} (hp : SqT K H p [.int a, .int b]) (ha : Big a) (hb : Big b) : SpV (sp_is_taking K) [.ref p, .int t] H (.bl (decide (0 < t) && decide (t ≤ mostF a b))) := fun H1 e Q q E => ⟨p, a, b, t, rfl, ex_t e hp, ha, hb, q⟩
theorem ok_taken (T : Txt K mg) : FnOk P w K mg base CX0 7 T.taken.f T.taken.fd ["pair", "times"] (sp_taken K) := by
  refine T.taken.F.ok sc_taken (fun vs H Q E h => ?_) (fun cdv A outer s H vs Q E hr h => ?_)
  · obtain ⟨p, a, b, t, rfl, _⟩ := h; rfl
  · obtain ⟨p, a, b, t, rfl, hp, ha, hb, ht, hm, q⟩ := h
    refine ⟨_, (pss_cons (ps_if (pt_not (pt_val (pe_call (ok_is_taking T) (hr.mono (by omega)) (by rfl) T.is_taking.g T.is_taking.F.kp T.is_taking.b .nil pass0 (pa_cons (pv 0) (pa_cons (pv 1) pa_nil))))) (pss_one ps_never) pss_nil)
      (pss_cons (ps_asg (pv 0) (pg_tup rfl (pgs_cons (pg_name (i := 2) sc_taken.nd rfl (by first | exact .inl rfl | exact .inr rfl)) (pgs_cons (pg_name (i := 3) sc_taken.nd rfl (by first | exact .inl rfl | exact .inr rfl)) pgs_nil))))
      (pss_cons (ps_if (pt_cmpR op_gt (pv 2) (pv 3) (nomark _)) (pss_one (ps_ret (pe_tup (pa_cons (pe_op op_sub (pv 2) (pe_op op_mulX (pv 1) (pv 3))) (pa_cons (pv 3) pa_nil))))) pss_nil)
      (pss_one (ps_ret (pe_tup (pa_cons (pv 2) (pa_cons (pe_op op_sub (pv 3) (pe_op op_mulX (pv 1) (pv 2))) pa_nil)))))))), ?_⟩
    have hlt := most_lt ha.pos hb.pos hm
    have hl0 := mn_pos ha.pos hb.pos
    have htb : t.natAbs < 2 ^ 4000 := by
      refine (big_mx ha hb).nle (by omega) ?_
      have := Int.mul_le_mul_of_nonneg_left (show 1 ≤ mnF a b by omega) (show 0 ≤ t by omega)
      omega
    refine q_when (b := false) (et_is (et_not (et_B (ev_call (ea_cons (ev_var rfl) (ea_cons (ev_var rfl) ea_nil)) (spv_taking hp ha hb)))) (by simp; omega)) (fun z => nomatch z) fun _ H2 e2 => ?_
    refine q_unT (ev_var rfl) (ex_t e2 hp) fun H3 e3 => ?_
    refine q_when (et_test (ev_op (ev_var rfl) (ev_var rfl) rv_I0)) (fun z H4 e4 => ?_) (fun z H4 e4 => ?_)
    · have z1 : b < a := of_decide_eq_true z
      unfold behA behB at q
      rw [if_pos z1, if_pos z1] at q
      exact s_retU (eu_tup (ea_cons (ev_op (ev_var rfl) (ev_op (ev_var rfl) (ev_var rfl) (rv_I (Big.mul htb hb.lt))) rv_I0) (ea_cons (ev_var rfl) ea_nil)) (by show 2 ≤ 100000; decide)) fun p H5 hp' e5 h5 => RetU.go q ((e2.trans e3).trans e4) hp' e5 h5
    · have z1 : ¬ b < a := of_decide_eq_false z
      unfold behA behB at q
      rw [if_neg z1, if_neg z1] at q
      exact s_retU (eu_tup (ea_cons (ev_var rfl) (ea_cons (ev_op (ev_var rfl) (ev_op (ev_var rfl) (ev_var rfl) (rv_I (Big.mul htb ha.lt))) rv_I0) ea_nil)) (by show 2 ≤ 100000; decide)) fun p H5 hp' e5 h5 => RetU.go q ((e2.trans e3).trans e4) hp' e5 h5
theorem spu_taken {p : Addr} {a b t : Int} {H : Hp} (hp : SqT K H p [.int a, .int b]) (ha : Big a) (hb : Big b) (h1 : 1 ≤ t) (h2 : t ≤ mostF a b) : SpU (sp_taken K) [.ref p, .int t] H [.int (behA a b t), .int (behB a b t)] :=
  fun H1 e Q q E => ⟨p, a, b, t, rfl, ex_t e hp, ha, hb, h1, h2, q⟩
theorem ok_worth (T : Txt K mg) : FnOk P w K mg base CX0 5 T.worth.f T.worth.fd ["pair"] (sp_worth K) := by
  refine T.worth.F.ok sc_worth (fun vs H Q E h => ?_) (fun cdv A outer s H vs Q E hr h => ?_)
  · obtain ⟨p, a, b, rfl, _⟩ := h; rfl
  · obtain ⟨p, a, b, rfl, hp, ha, hb, q⟩ := h
    refine ⟨_, (pss_cons (ps_asg (pe_call (ok_lesser_and_greater T) (hr.mono (by omega)) (by rfl) T.lesser_and_greater.g T.lesser_and_greater.F.kp T.lesser_and_greater.b .nil pass0 (pa_cons (pv 0) pa_nil)) (pg_tup rfl (pgs_cons (pg_name (i := 1) sc_worth.nd rfl (by first | exact .inl rfl | exact .inr rfl)) (pgs_cons (pg_name (i := 2) sc_worth.nd rfl (by first | exact .inl rfl | exact .inr rfl)) pgs_nil))))
      (pss_cons (ps_asg (pe_callB call_divmodW (by rfl) T.n_divmod (by decide +kernel) (pa_cons (pv 2) (pa_cons (pv 1) pa_nil))) (pg_tup rfl (pgs_cons (pg_name (i := 3) sc_worth.nd rfl (by first | exact .inl rfl | exact .inr rfl)) (pgs_cons (pg_name (i := 4) sc_worth.nd rfl (by first | exact .inl rfl | exact .inr rfl)) pgs_nil))))
      (pss_cons (ps_if (pt_cmpR op_lt (pe_op op_mulX (pv 4) (pv 2)) (pe_op op_mulX (pv 1) (pv 1)) (nomark _)) (pss_one (ps_ret (pe_op op_sub (pv 3) pe_int))) pss_nil)
      (pss_one (ps_ret (pv 3)))))), ?_⟩
    have hL := big_mn ha hb
    have hH := big_mx ha hb
    have r0 := Int.emod_nonneg (mxF a b) (show mnF a b ≠ 0 by have := hL.pos; omega)
    have r1 := Int.emod_lt_of_pos (mxF a b) hL.pos
    have hr' : (mxF a b % mnF a b).natAbs < 2 ^ 4000 := hL.nle r0 (Int.le_of_lt r1)
    refine q_unU (eu_call (ea_cons (ev_var rfl) ea_nil) (spu_lg hp ha.pos hb.pos)) fun H1 e1 => ?_
    refine q_unU (eu_divmod (ev_var rfl) (ev_var rfl) hL.divp) fun H2 e2 => ?_
    refine q_when (et_test (ev_op (ev_op (ev_var rfl) (ev_var rfl) (rv_I (Big.mul hr' hH.lt))) (ev_op (ev_var rfl) (ev_var rfl) (rv_I (Big.mul hL.lt hL.lt))) rv_I0)) (fun z H3 e3 => ?_) (fun z H3 e3 => ?_)
    · have e : worthF a b = mxF a b / mnF a b - 1 := if_pos (of_decide_eq_true z)
      rw [e] at q
      exact s_ret (ev_op (ev_var rfl) ev_c rv_I0) fun H4 e4 => q H4 (((e1.trans e2).trans e3).trans e4)
    · have e : worthF a b = mxF a b / mnF a b := if_neg (of_decide_eq_false z)
      rw [e] at q
      exact s_ret (ev_var rfl) fun H4 e4 => q H4 (((e1.trans e2).trans e3).trans e4)
theorem spv_worth {p : Addr} {a b : Int} {H : Hp} (hp : SqT K H p [.int a, .int b]) (ha : Big a) (hb : Big b) : SpV (sp_worth K) [.ref p] H (.int (worthF a b)) := fun H1 e Q q E => ⟨p, a, b, rfl, ex_t e hp, ha, hb, q⟩
end
/-! ### a number by a cell -/
def mixF (c k w : Int) : Int := ((c + 977 * k) * 48271 + w) % 2147483647
def numF (c k w : Int) : Int := if (10 : Int) ^ (18 : Int).toNat ≤ c then c / (1 + k % 7) else
  mixF c k w * (c + 31 * k + 7) * (mixF c k w + c + 5) * (mixF c k w * mixF c k w + 11) / (1009 + k)
def sp_l_number : Sp := fun vs H Q _ => ∃ c k w : Int, vs = [.int c, .int k, .int w] ∧ W 1048576 c ∧ 0 ≤ k ∧ k ≤ 100 ∧ RetV (.int (numF c k w)) H Q
section
variable {P : Program} {w : World} {K : PySem.W.Frag} {mg : Str → Option Value} {base : Heap}
theorem ok_l_number (T : Txt K mg) : FnOk P w K mg base CX0 1 T.l_number.f T.l_number.fd ["_law_cell", "_law_at", "_law_whole_here"] sp_l_number := by
  refine T.l_number.F.ok sc_l_number (fun vs H Q E h => ?_) (fun cdv A outer s H vs Q E hr h => ?_)
  · obtain ⟨c, k, w, rfl, _⟩ := h; rfl
  · obtain ⟨c, k, wh, rfl, hc, k0, k1, q⟩ := h
    refine ⟨_, (pss_cons (ps_if (pt_cmpR op_ge (pv 0) (pe_op op_pow pe_int pe_int) (nomark _)) (pss_one (ps_ret (pe_op op_fdivW (pv 0) (pe_op op_add pe_int (pe_op op_mod (pv 1) pe_int))))) pss_nil)
      (pss_cons (ps_set (i := 3) sc_l_number.nd rfl (by first | exact .inl rfl | exact .inr rfl) (pe_op op_mod (pe_op op_add (pe_op op_mulX (pe_op op_add (pv 0) (pe_op op_mulX pe_int (pv 1))) pe_int) (pv 2)) pe_int))
      (pss_cons (ps_set (i := 4) sc_l_number.nd rfl (by first | exact .inl rfl | exact .inr rfl) (pe_op op_mulX (pv 3) (pe_op op_add (pe_op op_add (pv 0) (pe_op op_mulX pe_int (pv 1))) pe_int)))
      (pss_one (ps_ret (pe_op op_fdivW (pe_op op_mulX (pe_op op_mulX (pv 4) (pe_op op_add (pe_op op_add (pv 3) (pv 0)) pe_int)) (pe_op op_add (pe_op op_mulX (pv 3) (pv 3)) pe_int)) (pe_op op_add pe_int (pv 1)))))))), ?_⟩
    have a1 : W 32 (977 * k) := W.small (by omega) (by omega)
    have a2 : W 1048577 (c + 977 * k) := hc.add (a1.mono (by decide))
    have m0 := Int.emod_nonneg ((c + 977 * k) * 48271 + wh) (show (2147483647 : Int) ≠ 0 by decide)
    have m1 := Int.emod_lt_of_pos ((c + 977 * k) * 48271 + wh) (show (0 : Int) < 2147483647 by decide)
    have m2 : W 32 (mixF c k wh) := W.small m0 (by unfold mixF; omega)
    have a3 : W 1048577 (c + 31 * k) := hc.add ((W.small (x := 31 * k) (by omega) (by omega)).mono (by decide))
    have a4 : W 1048578 (c + 31 * k + 7) := a3.add ((W.small (x := 7) (by decide) (by decide)).mono (by decide))
    have a5 : W (32 + 1048578) (mixF c k wh * (c + 31 * k + 7)) := m2.mul a4
    have a6 : W 1048577 (mixF c k wh + c) := (m2.mono (by decide)).add hc
    have a7 : W 1048578 (mixF c k wh + c + 5) := a6.add ((W.small (x := 5) (by decide) (by decide)).mono (by decide))
    have a8 : W (32 + 1048578 + 1048578) (mixF c k wh * (c + 31 * k + 7) * (mixF c k wh + c + 5)) := a5.mul a7
    have a9 : W 65 (mixF c k wh * mixF c k wh + 11) := (m2.mul m2).add ((W.small (x := 11) (by decide) (by decide)).mono (by decide))
    refine q_when (et_test (ev_op (ev_var rfl) (ev_op ev_c ev_c (rv_I (cp_small (by decide) (by decide) (by decide) (by decide)))) rv_I0)) (fun z H1 e1 => ?_) (fun z H1 e1 => ?_)
    · have e : numF c k wh = c / (1 + k % 7) := if_pos (of_decide_eq_true z)
      rw [e] at q
      exact s_ret (ev_op (ev_var rfl) (ev_op ev_c (ev_op (ev_var rfl) ev_c (rv_I (by decide))) rv_I0) (rv_I (cd_small (by omega) (by omega)))) fun H2 e2 => q H2 (e1.trans e2)
    · have e : numF c k wh = mixF c k wh * (c + 31 * k + 7) * (mixF c k wh + c + 5) * (mixF c k wh * mixF c k wh + 11) / (1009 + k) := if_neg (of_decide_eq_false z)
      rw [e] at q
      refine q_asg (v := .int (mixF c k wh)) (ev_op (ev_op (ev_op (ev_op (ev_var rfl) (ev_op ev_c (ev_var rfl) (rv_I ((W.small (x := 977) (by decide) (by decide)).cm (W.small k0 (by omega)) (by decide)))) rv_I0) ev_c (rv_I (a2.cm (W.small (x := 48271) (by decide) (by decide)) (by decide)))) (ev_var rfl) rv_I0) ev_c (rv_I (by decide))) fun H2 e2 => ?_
      refine q_asg (v := .int (mixF c k wh * (c + 31 * k + 7))) (ev_op (ev_var rfl) (ev_op (ev_op (ev_var rfl) (ev_op ev_c (ev_var rfl) (rv_I ((W.small (x := 31) (by decide) (by decide)).cm (W.small k0 (by omega)) (by decide)))) rv_I0) ev_c rv_I0) (rv_I (m2.cm a4 (by decide)))) fun H3 e3 => ?_
      exact s_ret (ev_op (ev_op (ev_op (ev_var rfl) (ev_op (ev_op (ev_var rfl) (ev_var rfl) rv_I0) ev_c rv_I0) (rv_I (a5.cm a7 (by decide)))) (ev_op (ev_op (ev_var rfl) (ev_var rfl) (rv_I (m2.cm m2 (by decide)))) ev_c rv_I0) (rv_I (a8.cm a9 (by decide)))) (ev_op ev_c (ev_var rfl) rv_I0) (rv_I (cd_small (by omega) (by omega)))) fun H4 e4 => q H4 (((e1.trans e2).trans e3).trans e4)
theorem spv_number {c k wh : Int} {H : Hp} (hc : W 1048576 c) (k0 : 0 ≤ k) (k1 : k ≤ 100) : SpV sp_l_number [.int c, .int k, .int wh] H (.int (numF c k wh)) := fun H1 e Q q E => ⟨c, k, wh, rfl, hc, k0, k1, q⟩
end
/-! ### a pair by a cell -/
def sp_l_pair (K : PySem.W.Frag) : Sp := fun vs H Q _ => ∃ (a : Addr) (ns : List Int) (k : Int), vs = [.ref a, .int k] ∧ SqL K H a (ns.map V.int) ∧ ns.length ≤ 63 ∧ (∀ n ∈ ns, W 1048576 n) ∧ 0 ≤ k ∧ k ≤ 100 ∧
  ∀ x y : Int, Med x → Med y → RetU [.int x, .int y] H Q
def wideL : List Int := [9, 60, (10 : Int) ^ (6 : Int).toNat, (10 : Int) ^ (30 : Int).toNat]
theorem wide_ok : ∀ j < 4, 9 ≤ wideL.getD j 0 ∧ wideL.getD j 0 ≤ 1000000000000000000000000000000 := by decide
/-- the frame of the pair's def, one and other at x and y, the worths of the bounds -/
def PairSt (a p : Addr) (k wh n wd kd : Int) (B : Int) (H0 : Hp) : L2.St → Hp → Prop := fun σ H' => ∃ (x y : Int) (l : Option V),
  σ = [some (.ref a), some (.int k), some (.ref p), some (.int wh), some (.int n), some (.int wd), some (.int x), some (.int y), some (.int kd), l] ∧ Ex H0 H' ∧ 0 < x ∧ x ≤ 10000000000000000000000000000000 ∧ 0 < y ∧ y ≤ B
def PairEnd (a p : Addr) (k wh n wd kd : Int) (H0 : Hp) : L2.St → Hp → Prop := fun σ H' => ∃ (x y : Int) (l : Option V),
  σ = [some (.ref a), some (.int k), some (.ref p), some (.int wh), some (.int n), some (.int wd), some (.int x), some (.int y), some (.int kd), l] ∧ Ex H0 H' ∧ Med x ∧ Med y
section
variable {P : Program} {w : World} {K : PySem.W.Frag} {mg : Str → Option Value} {base : Heap}
theorem ok_l_pair (T : Txt K mg) : FnOk P w K mg base CX0 2 T.l_pair.f T.l_pair.fd ["_law_script", "_law_at"] (sp_l_pair K) := by
  refine T.l_pair.F.ok sc_l_pair (fun vs H Q E h => ?_) (fun cdv A outer s H vs Q E hr h => ?_)
  · obtain ⟨a, ns, k, rfl, _⟩ := h; rfl
  · obtain ⟨a, ns, k, rfl, hS, hl, hW, k0, k1, q⟩ := h
    refine ⟨_, (pss_cons (ps_set (i := 2) sc_l_pair.nd rfl (by first | exact .inl rfl | exact .inr rfl) (pe_ifExp (pt_cmpR (op_neD hr.units) (pv 0) (pe_lst pa_nil) (nomark _)) (pe_slice sl_list (pv 0) po_none (po_some pe_int)) (pe_lst (pa_cons pe_int pa_nil))))
      (pss_cons (ps_set (i := 3) sc_l_pair.nd rfl (by first | exact .inl rfl | exact .inr rfl) (pe_callB (cr_sum rfl) (by rfl) T.n_sum (by decide +kernel) (pa_cons (pv 2) pa_nil)))
      (pss_cons (ps_set (i := 4) sc_l_pair.nd rfl (by first | exact .inl rfl | exact .inr rfl) (pe_call (ok_l_number T) (hr.mono (by omega)) (by rfl) T.l_number.g T.l_number.F.kp T.l_number.b .nil pass0 (pa_cons (pe_ix ix_list (pv 2) (pe_op op_mod (pv 1) (pe_callB call_len_seq (by rfl) T.n_len (by decide +kernel) (pa_cons (pv 2) pa_nil))) (fun _ _ => rfl)) (pa_cons (pv 1) (pa_cons (pv 3) pa_nil)))))
      (pss_cons (ps_set (i := 5) sc_l_pair.nd rfl (by first | exact .inl rfl | exact .inr rfl) (pe_ix ix_tup (pe_tup (pa_cons pe_int (pa_cons pe_int (pa_cons (pe_op op_pow pe_int pe_int) (pa_cons (pe_op op_pow pe_int pe_int) pa_nil))))) (pe_op op_mod (pe_op op_add (pv 3) (pv 1)) pe_int) (fun _ _ => rfl)))
      (pss_cons (ps_par (i := 6) (j := 7) rfl sc_l_pair.nd rfl rfl (by decide) rfl rfl (pa_cons (pe_op op_add pe_int (pe_op op_mod (pe_op op_fdivW (pv 4) pe_int) (pv 5))) (pa_cons (pe_op op_add pe_int (pe_op op_mod (pe_op op_fdivW (pv 4) pe_int) (pe_op op_add (pv 5) pe_int))) pa_nil)) rfl)
      (pss_cons (ps_set (i := 8) sc_l_pair.nd rfl (by first | exact .inl rfl | exact .inr rfl) (pe_op op_mod (pe_op op_add (pe_op op_fdivW (pv 4) pe_int) (pv 1)) pe_int))
      (Evl.pss_cut (ps_if (pt_cmpR op_eq (pv 8) pe_int (nomark _)) (pss_one (ps_set (i := 7) sc_l_pair.nd rfl (by first | exact .inl rfl | exact .inr rfl) (pe_op op_mulX (pv 6) (pe_op op_add pe_int (pe_op op_mod (pe_op op_fdivW (pv 4) pe_int) pe_int))))) pss_nil)
      (Evl.pss_cut (ps_if (pt_cmpR op_eq (pv 8) pe_int (nomark _)) (pss_one (ps_set (i := 7) sc_l_pair.nd rfl (by first | exact .inl rfl | exact .inr rfl) (pe_op op_add (pv 6) (pe_op op_mod (pv 4) pe_int)))) pss_nil)
      (Evl.pss_cut (ps_if (pt_cmpR op_eq (pv 8) pe_int (nomark _)) (pss_one (ps_set (i := 7) sc_l_pair.nd rfl (by first | exact .inl rfl | exact .inr rfl) (pe_op op_add (pe_op op_mulX (pv 6) (pe_op op_add (pe_op op_mod (pe_op op_fdivW (pv 4) pe_int) (pe_op op_pow pe_int pe_int)) pe_int)) (pe_op op_mod (pv 7) (pv 6))))) pss_nil)
      (Evl.pss_cut (ps_if (pt_cmpR op_eq (pv 8) pe_int (nomark _)) (pss_one (ps_for PassesOwn.never rfl (pi_range1 (by rfl) T.n_range (pa_cons (pe_op op_mod (pe_op op_fdivW (pv 4) pe_int) pe_int) pa_nil)) (pg_name (i := 9) sc_l_pair.nd rfl (by first | exact .inl rfl | exact .inr rfl)) (pss_one (ps_par (i := 6) (j := 7) rfl sc_l_pair.nd rfl rfl (by decide) rfl rfl (pa_cons (pv 7) (pa_cons (pe_op op_add (pv 6) (pv 7)) pa_nil)) rfl)))) pss_nil)
      (pss_one (ps_ret (pe_ifExp (pt_cmpR op_eq (pe_op op_mod (pe_op op_fdivW (pv 4) pe_int) pe_int) pe_int (nomark _)) (pe_tup (pa_cons (pv 6) (pa_cons (pv 7) pa_nil))) (pe_tup (pa_cons (pv 7) (pa_cons (pv 6) pa_nil)))))))))))))))), ?_⟩
    -- the cells, their sum, the number
    refine q_asgL (el_cells (d := 3) (ev_var rfl) (ev_var rfl) hS hl) fun p H1 _ e1 h1 => ?_
    have hP : SqL K H1 p ((cellsF 3 ns).map V.int) := sq_of h1
    have hc := cells_len (d := 3) hl
    have hcW := cells_W ((W.small (x := 3) (by decide) (by decide)).mono (by decide)) hW
    generalize cellsF 3 ns = cs at *
    refine q_asg (ev_cb (ea_cons (ev_var rfl) ea_nil) (rc_sum hP)) fun H2 e2 => ?_
    have hP2 := ex_l e2 hP
    have hlen : ((cs.map V.int).length : Int) = cs.length := by rw [List.length_map]
    have hlp : (0 : Int) < ((cs.map V.int).length : Int) := by omega
    have i0 := Int.emod_nonneg k (show ((cs.map V.int).length : Int) ≠ 0 by omega)
    have i1 := Int.emod_lt_of_pos k hlp
    obtain ⟨c, hcm, hat⟩ := at_cells (cs := cs) i0 (by omega)
    refine q_asg (ev_call (ea_cons (ev_op (ev_var rfl) (ev_op (ev_var rfl) (ev_cb (ea_cons (ev_var rfl) ea_nil) (rc_lenL hP2)) (rv_I hlp)) (rv_ixL hP2 hat)) (ea_cons (ev_var rfl) (ea_cons (ev_var rfl) ea_nil))) (spv_number (hcW c hcm) k0 k1)) fun H3 e3 => ?_
    generalize numF c k cs.sum = n at *
    generalize cs.sum = wh at *
    -- the width
    have j0 := Int.emod_nonneg (wh + k) (show (4 : Int) ≠ 0 by decide)
    have j1 := Int.emod_lt_of_pos (wh + k) (show (0 : Int) < 4 by decide)
    have hw := wide_ok ((wh + k) % 4).toNat (by omega)
    have hwat : atI (wideL.map V.int) ((wh + k) % 4) = some (.int (wideL.getD ((wh + k) % 4).toNat 0)) := by
      refine at_of (j := ((wh + k) % 4).toNat) (by omega) ?_
      have hj : ((wh + k) % 4).toNat < wideL.length := by show _ < 4; omega
      have e : wideL[((wh + k) % 4).toNat]? = some (wideL.getD ((wh + k) % 4).toNat 0) := by
        rw [List.getD_eq_getElem?_getD, List.getElem?_eq_getElem hj]
        rfl
      rw [List.getElem?_map, e]
      rfl
    refine q_asg (v := .int (wideL.getD ((wh + k) % 4).toNat 0)) (ev_opU1 (xs := wideL.map V.int) (eu_tup (ea_cons ev_c (ea_cons ev_c (ea_cons (ev_op ev_c ev_c (rv_I (cp_small (by decide) (by decide) (by decide) (by decide)))) (ea_cons (ev_op ev_c ev_c (rv_I (cp_small (by decide) (by decide) (by decide) (by decide)))) ea_nil)))) (by show 4 ≤ 100000; decide))
      (ev_op (ev_op (ev_var rfl) (ev_var rfl) rv_I0) ev_c (rv_I (by decide))) fun p H1 hp _ => rv_ixT (st_of hp) hwat) fun H4 e4 => ?_
    generalize wideL.getD ((wh + k) % 4).toNat 0 = wd at *
    have o0 := Int.emod_nonneg (n / 7) (show wd ≠ 0 by omega)
    have o1 := Int.emod_lt_of_pos (n / 7) (show 0 < wd by omega)
    have p0 := Int.emod_nonneg (n / 5) (show wd + 3 ≠ 0 by omega)
    have p1 := Int.emod_lt_of_pos (n / 5) (show 0 < wd + 3 by omega)
    -- one, other, the kind
    refine q_par (ea_cons (ev_op ev_c (ev_op (ev_op (ev_var rfl) ev_c (rv_I (cd_small (by decide) (by decide)))) (ev_var rfl) (rv_I (by omega))) rv_I0) (ea_cons (ev_op ev_c (ev_op (ev_op (ev_var rfl) ev_c (rv_I (cd_small (by decide) (by decide)))) (ev_op (ev_var rfl) ev_c rv_I0) (rv_I (by omega))) rv_I0) ea_nil)) fun H5 e5 => ?_
    refine q_asg (ev_op (ev_op (ev_op (ev_var rfl) ev_c (rv_I (cd_small (by decide) (by decide)))) (ev_var rfl) rv_I0) ev_c (rv_I (by decide))) fun H6 e6 => ?_
    have eA : Ex H H6 := ((((e1.trans e2).trans e3).trans e4).trans e5).trans e6
    have x0 : 0 < 1 + n / 7 % wd := by omega
    have x1 : 1 + n / 7 % wd ≤ 10000000000000000000000000000000 := by omega
    have y0 : 0 < 1 + n / 5 % (wd + 3) := by omega
    have y1 : 1 + n / 5 % (wd + 3) ≤ 10000000000000000000000000000000 := by omega
    generalize (n / 3 + k) % 8 = kd at *
    generalize 1 + n / 7 % wd = x at *
    generalize 1 + n / 5 % (wd + 3) = y at *
    show Evl.tCut _ _ _ [some (.ref a), some (.int k), some (.ref p), some (.int wh), some (.int n), some (.int wd), some (.int x), some (.int y), some (.int kd), none] H6
    -- the kinds
    refine q_cut (M := PairSt a p k wh n wd kd 100000000000000000000000000000000 H) ?_ fun σ1 G1 s1 => ?_
    · have ex := eA
      have m0 := Int.emod_nonneg (n / 11) (show (9 : Int) ≠ 0 by decide)
      have m1 := Int.emod_lt_of_pos (n / 11) (show (0 : Int) < 9 by decide)
      refine s_when (et_test (ev_op (ev_var rfl) ev_c (rv_eq rfl))) (fun _ H7 e7 => ?_) fun _ H7 e7 => ⟨x, y, none, rfl, ex.trans e7, x0, x1, y0, by omega⟩
      refine s_asg (ev_op (ev_var rfl) (ev_op ev_c (ev_op (ev_op (ev_var rfl) ev_c (rv_I (cd_small (by decide) (by decide)))) ev_c (rv_I (by decide))) rv_I0) (rv_I ((W.s128 (by omega) (by omega)).cm (W.small (by omega) (by omega)) (by decide)))) fun H8 e8 => ?_
      refine ⟨x, x * (1 + n / 11 % 9), none, rfl, (ex.trans e7).trans e8, x0, x1, Int.mul_pos x0 (by omega), ?_⟩
      have := Int.mul_le_mul_of_nonneg_left (show 1 + n / 11 % 9 ≤ 9 by omega) (Int.le_of_lt x0)
      omega
    refine q_cut (M := PairSt a p k wh n wd kd 1000000000000000000000000000000000 H) ?_ fun σ2 G2 s2 => ?_
    · obtain ⟨x, y, l, rfl, ex, x0, x1, y0, y1⟩ := s1
      have m0 := Int.emod_nonneg n (show (2 : Int) ≠ 0 by decide)
      have m1 := Int.emod_lt_of_pos n (show (0 : Int) < 2 by decide)
      refine s_when (et_test (ev_op (ev_var rfl) ev_c (rv_eq rfl))) (fun _ H7 e7 => ?_) fun _ H7 e7 => ⟨x, y, l, rfl, ex.trans e7, x0, x1, y0, by omega⟩
      refine s_asg (ev_op (ev_var rfl) (ev_op (ev_var rfl) ev_c (rv_I (by decide))) rv_I0) fun H8 e8 => ?_
      exact ⟨x, x + n % 2, l, rfl, (ex.trans e7).trans e8, x0, x1, by omega, by omega⟩
    refine q_cut (M := PairSt a p k wh n wd kd 100000000000000000000000000000000000000 H) ?_ fun σ3 G3 s3 => ?_
    · obtain ⟨x, y, l, rfl, ex, x0, x1, y0, y1⟩ := s2
      have e10 : (10 : Int) ^ (6 : Int).toNat = 1000000 := by decide
      have m0 := Int.emod_nonneg (n / 13) (show (1000000 : Int) ≠ 0 by decide)
      have m1 := Int.emod_lt_of_pos (n / 13) (show (0 : Int) < 1000000 by decide)
      have r0 := Int.emod_nonneg y (show x ≠ 0 by omega)
      have r1 := Int.emod_lt_of_pos y x0
      refine s_when (et_test (ev_op (ev_var rfl) ev_c (rv_eq rfl))) (fun _ H7 e7 => ?_) fun _ H7 e7 => ⟨x, y, l, rfl, ex.trans e7, x0, x1, y0, by omega⟩
      refine s_asg (v := .int (x * (n / 13 % 1000000 + 1) + y % x)) (ev_op (ev_op (ev_var rfl) (ev_op (ev_op (ev_op (ev_var rfl) ev_c (rv_I (cd_small (by decide) (by decide)))) (ev_is (w := .int 1000000) (ev_op ev_c ev_c (rv_I (cp_small (by decide) (by decide) (by decide) (by decide)))) (congrArg V.int e10)) (rv_I (by decide))) ev_c rv_I0) (rv_I ((W.s128 (by omega) (by omega)).cm (W.small (by omega) (by omega)) (by decide)))) (ev_op (ev_var rfl) (ev_var rfl) (rv_I x0)) rv_I0) fun H8 e8 => ?_
      refine ⟨x, _, l, rfl, (ex.trans e7).trans e8, x0, x1, ?_, ?_⟩
      · have := Int.mul_pos x0 (show 0 < n / 13 % 1000000 + 1 by omega)
        omega
      · have := Int.mul_le_mul_of_nonneg_left (show n / 13 % 1000000 + 1 ≤ 1000000 by omega) (Int.le_of_lt x0)
        omega
    refine q_cut (M := PairEnd a p k wh n wd kd H) ?_ fun σ4 G4 s4 => ?_
    · obtain ⟨x, y, l, rfl, ex, x0, x1, y0, y1⟩ := s3
      have m0 := Int.emod_nonneg (n / 9) (show (40 : Int) ≠ 0 by decide)
      have m1 := Int.emod_lt_of_pos (n / 9) (show (0 : Int) < 40 by decide)
      refine s_when (et_test (ev_op (ev_var rfl) ev_c (rv_eq rfl))) (fun _ H7 e7 => ?_) fun _ H7 e7 => ⟨x, y, l, rfl, ex.trans e7, Med.s200 x0 (by omega), Med.s200 y0 (by omega)⟩
      refine s_forR1 (ea_cons (ev_op (ev_op (ev_var rfl) ev_c (rv_I (cd_small (by decide) (by decide)))) ev_c (rv_I (by decide))) ea_nil) (by omega)
        (fun i σ' H' => ∃ (x y : Int) (l : Option V), σ' = [some (.ref a), some (.int k), some (.ref p), some (.int wh), some (.int n), some (.int wd), some (.int x), some (.int y), some (.int kd), l] ∧ Ex H H' ∧ 0 < x ∧ 0 < y ∧ x + y ≤ 1000000000000000000000000000000000000000 * ((2 ^ i : Nat) : Int))
        (fun H8 e8 => ⟨x, y, l, rfl, (ex.trans e7).trans e8, x0, y0, by simp; omega⟩) (fun i σ' H' hi hp => ?_) (fun σ' H' hp => ?_)
      · obtain ⟨x, y, l, rfl, ex', x0, y0, hs⟩ := hp
        refine s_par (ea_cons (ev_var rfl) (ea_cons (ev_op (ev_var rfl) (ev_var rfl) rv_I0) ea_nil)) fun H9 e9 => ?_
        refine ⟨y, x + y, _, rfl, ex'.trans e9, y0, by omega, ?_⟩
        rw [Nat.pow_succ]
        omega
      · obtain ⟨x, y, l, rfl, ex', x0, y0, hs⟩ := hp
        have hpw : (2 : Nat) ^ (n / 9 % 40).toNat ≤ 2 ^ 40 := Nat.pow_le_pow_right (by decide) (by omega)
        have e40 : (2 : Nat) ^ 40 = 1099511627776 := by decide
        exact ⟨x, y, l, rfl, ex', Med.s200 x0 (by omega), Med.s200 y0 (by omega)⟩
    obtain ⟨x, y, l, rfl, ex, bx, by'⟩ := s4
    refine s_retIf (et_test (ev_op (ev_op (ev_op (ev_var rfl) ev_c (rv_I (cd_small (by decide) (by decide)))) ev_c (rv_I (by decide))) ev_c (rv_eq rfl))) (fun _ H7 e7 => ?_) (fun _ H7 e7 => ?_)
    · exact s_retU (eu_tup (ea_cons (ev_var rfl) (ea_cons (ev_var rfl) ea_nil)) (by show 2 ≤ 100000; decide)) fun p H8 hp e8 h8 => RetU.go (q x y bx by') (ex.trans e7) hp e8 h8
    · exact s_retU (eu_tup (ea_cons (ev_var rfl) (ea_cons (ev_var rfl) ea_nil)) (by show 2 ≤ 100000; decide)) fun p H8 hp e8 h8 => RetU.go (q y x by' bx) (ex.trans e7) hp e8 h8
end
/-! ### the promises of the law's own helpers -/
def sp_l_most (K : PySem.W.Frag) : Sp := fun vs H Q _ => ∃ (p : Addr) (a b : Int), vs = [.ref p] ∧ SqT K H p [.int a, .int b] ∧ Big a ∧ Big b ∧ RetV (.int (mostF a b)) H Q
def sp_l_behind (K : PySem.W.Frag) : Sp := fun vs H Q _ => ∃ (p : Addr) (a b t : Int), vs = [.ref p, .int t] ∧ SqT K H p [.int a, .int b] ∧ Big a ∧ Big b ∧ 1 ≤ t ∧ t ≤ mostF a b ∧ RetU [.int (behA a b t), .int (behB a b t)] H Q
def sp_l_worth (K : PySem.W.Frag) : Sp := fun vs H Q _ => ∃ (p : Addr) (a b : Int), vs = [.ref p] ∧ SqT K H p [.int a, .int b] ∧ Big a ∧ Big b ∧ RetV (.int (worthF a b)) H Q
section
variable {P : Program} {w : World} {K : PySem.W.Frag} {mg : Str → Option Value} {base : Heap}
theorem ok_l_most (T : Txt K mg) : FnOk P w K mg base CX0 1 T.l_most.f T.l_most.fd ["_law_pair_here"] (sp_l_most K) := by
  refine T.l_most.F.ok sc_l_most (fun vs H Q E h => ?_) (fun cdv A outer s H vs Q E hr h => ?_)
  · obtain ⟨p, a, b, rfl, _⟩ := h; rfl
  · obtain ⟨p, a, b, rfl, hp, ha, hb, q⟩ := h
    refine ⟨_, (pss_one (ps_ret (pe_op op_fdivW (pe_op op_sub (pe_callB (cr_maxT rfl hr.units) (by rfl) T.n_max (by decide +kernel) (pa_cons (pv 0) pa_nil)) pe_int) (pe_callB (cr_minT rfl hr.units) (by rfl) T.n_min (by decide +kernel) (pa_cons (pv 0) pa_nil))))), ?_⟩
    refine s_ret (v := .int (mostF a b)) ?_ q
    have e1 := rc_maxT (K := K) hp
    have e2 := rc_minT (K := K) hp
    rw [mx_eq] at e1
    rw [mn_eq] at e2
    exact ev_op (ev_op (ev_cb (ea_cons (ev_var rfl) ea_nil) e1) ev_c rv_I0) (ev_cb (ea_cons (ev_var rfl) ea_nil) e2) (rv_I (big_mn ha hb).div)
theorem spv_l_most {p : Addr} {a b : Int} {H : Hp} (hp : SqT K H p [.int a, .int b]) (ha : Big a) (hb : Big b) : SpV (sp_l_most K) [.ref p] H (.int (mostF a b)) := fun H1 e Q q E => ⟨p, a, b, rfl, ex_t e hp, ha, hb, q⟩
theorem ok_l_behind (T : Txt K mg) : FnOk P w K mg base CX0 1 T.l_behind.f T.l_behind.fd ["_law_pair_here", "_law_times"] (sp_l_behind K) := by
  refine T.l_behind.F.ok sc_l_behind (fun vs H Q E h => ?_) (fun cdv A outer s H vs Q E hr h => ?_)
  · obtain ⟨p, a, b, t, rfl, _⟩ := h; rfl
  · obtain ⟨p, a, b, t, rfl, hp, ha, hb, ht, hm, q⟩ := h
    refine ⟨_, (pss_cons (ps_if (pt_cmpR op_gt (pe_ix ix_tup (pv 0) pe_int (fun _ _ => rfl)) (pe_ix ix_tup (pv 0) pe_int (fun _ _ => rfl)) (nomark _)) (pss_one (ps_ret (pe_tup (pa_cons (pe_op op_sub (pe_ix ix_tup (pv 0) pe_int (fun _ _ => rfl)) (pe_op op_mulX (pv 1) (pe_ix ix_tup (pv 0) pe_int (fun _ _ => rfl)))) (pa_cons (pe_ix ix_tup (pv 0) pe_int (fun _ _ => rfl)) pa_nil))))) pss_nil)
      (pss_one (ps_ret (pe_tup (pa_cons (pe_ix ix_tup (pv 0) pe_int (fun _ _ => rfl)) (pa_cons (pe_op op_sub (pe_ix ix_tup (pv 0) pe_int (fun _ _ => rfl)) (pe_op op_mulX (pv 1) (pe_ix ix_tup (pv 0) pe_int (fun _ _ => rfl)))) pa_nil)))))), ?_⟩
    have htb := t_big ha hb ht hm
    have i0 : ∀ {H1 : Hp}, Ex H H1 → RV (rIxT K) (.ref p) (.int 0) H1 (.int a) := fun e => rv_ixT (ex_t e hp) rfl
    have i1 : ∀ {H1 : Hp}, Ex H H1 → RV (rIxT K) (.ref p) (.int 1) H1 (.int b) := fun e => rv_ixT (ex_t e hp) rfl
    refine q_when (et_test (ev_op (ev_op (ev_var rfl) ev_c (i0 (Ex.refl H))) (ev_op (ev_var rfl) ev_c (i1 (Ex.refl H))) rv_I0)) (fun z H1 e1 => ?_) (fun z H1 e1 => ?_)
    · have z1 : b < a := of_decide_eq_true z
      unfold behA behB at q
      rw [if_pos z1, if_pos z1] at q
      exact s_retU (eu_tup (ea_cons (ev_op (ev_op (ev_var rfl) ev_c (i0 e1)) (ev_op (ev_var rfl) (ev_op (ev_var rfl) ev_c (i1 e1)) (rv_I (Big.mul htb hb.lt))) rv_I0) (ea_cons (ev_op (ev_var rfl) ev_c (i1 e1)) ea_nil)) (by show 2 ≤ 100000; decide)) fun p H5 hp' e5 h5 => RetU.go q e1 hp' e5 h5
    · have z1 : ¬ b < a := of_decide_eq_false z
      unfold behA behB at q
      rw [if_neg z1, if_neg z1] at q
      exact s_retU (eu_tup (ea_cons (ev_op (ev_var rfl) ev_c (i0 e1)) (ea_cons (ev_op (ev_op (ev_var rfl) ev_c (i1 e1)) (ev_op (ev_var rfl) (ev_op (ev_var rfl) ev_c (i0 e1)) (rv_I (Big.mul htb ha.lt))) rv_I0) ea_nil)) (by show 2 ≤ 100000; decide)) fun p H5 hp' e5 h5 => RetU.go q e1 hp' e5 h5
theorem spu_l_behind {p : Addr} {a b t : Int} {H : Hp} (hp : SqT K H p [.int a, .int b]) (ha : Big a) (hb : Big b) (h1 : 1 ≤ t) (h2 : t ≤ mostF a b) : SpU (sp_l_behind K) [.ref p, .int t] H [.int (behA a b t), .int (behB a b t)] :=
  fun H1 e Q q E => ⟨p, a, b, t, rfl, ex_t e hp, ha, hb, h1, h2, q⟩
theorem ok_l_worth (T : Txt K mg) : FnOk P w K mg base CX0 1 T.l_worth.f T.l_worth.fd ["_law_pair_here"] (sp_l_worth K) := by
  refine T.l_worth.F.ok sc_l_worth (fun vs H Q E h => ?_) (fun cdv A outer s H vs Q E hr h => ?_)
  · obtain ⟨p, a, b, rfl, _⟩ := h; rfl
  · obtain ⟨p, a, b, rfl, hp, ha, hb, q⟩ := h
    refine ⟨_, (pss_cons (ps_par (i := 1) (j := 2) rfl sc_l_worth.nd rfl rfl (by decide) rfl rfl (pa_cons (pe_callB (cr_maxT rfl hr.units) (by rfl) T.n_max (by decide +kernel) (pa_cons (pv 0) pa_nil)) (pa_cons (pe_callB (cr_minT rfl hr.units) (by rfl) T.n_min (by decide +kernel) (pa_cons (pv 0) pa_nil)) pa_nil)) rfl)
      (pss_one (ps_ret (pe_op op_fdivW (pe_op op_sub (pe_op op_mulX (pv 1) (pv 1)) (pe_op op_mulX (pv 2) (pv 2))) (pe_op op_mulX (pv 1) (pv 2)))))), ?_⟩
    have e1 := rc_maxT (K := K) hp
    have e2 := rc_minT (K := K) hp
    rw [mx_eq] at e1
    rw [mn_eq] at e2
    have hL := big_mn ha hb
    have hH := big_mx ha hb
    have hd : CDivW (mxF a b * mxF a b - mnF a b * mnF a b) (mxF a b * mnF a b) := wide_div (b := 4000 + 4000) (Int.mul_pos hH.pos hL.pos) (wide_lt hH.lt hL.lt) (by decide) (by decide)
    refine q_par (ea_cons (ev_cb (ea_cons (ev_var rfl) ea_nil) e1) (ea_cons (ev_cb (ea_cons (ev_var rfl) ea_nil) e2) ea_nil)) fun H1 x1 => ?_
    refine s_ret (v := .int (worthF a b)) (ev_is (ev_op (ev_op (ev_op (ev_var rfl) (ev_var rfl) (rv_I (Big.mul hH.lt hH.lt))) (ev_op (ev_var rfl) (ev_var rfl) (rv_I (Big.mul hL.lt hL.lt))) rv_I0) (ev_op (ev_var rfl) (ev_var rfl) (rv_I (Big.mul hH.lt hL.lt))) (rv_I hd)) ?_) fun H2 x2 => q H2 (x1.trans x2)
    exact congrArg V.int (form hL.pos (mn_mx a b))
theorem spv_l_worth {p : Addr} {a b : Int} {H : Hp} (hp : SqT K H p [.int a, .int b]) (ha : Big a) (hb : Big b) : SpV (sp_l_worth K) [.ref p] H (.int (worthF a b)) := fun H1 e Q q E => ⟨p, a, b, rfl, ex_t e hp, ha, hb, q⟩
end
def sp_l_whole : Sp := fun vs H Q _ => ∃ i : Int, vs = [.int i] ∧ RetV (.bl true) H Q
section
variable {P : Program} {w : World} {K : PySem.W.Frag} {mg : Str → Option Value} {base : Heap}
theorem ok_l_whole (T : Txt K mg) : FnOk P w K mg base CX0 1 T.l_whole.f T.l_whole.fd ["_law_number_here"] sp_l_whole := by
  refine T.l_whole.F.ok sc_l_whole (fun vs H Q E h => ?_) (fun cdv A outer s H vs Q E hr h => ?_)
  · obtain ⟨i, rfl, _⟩ := h; rfl
  · obtain ⟨i, rfl, q⟩ := h
    refine ⟨_, (pss_one (ps_ret (pe_and (pe_callB call_isi (by rfl) T.n_isinstance (by decide +kernel) (pa_cons (pv 0) (pa_cons (pe_bltn (v := .ty "int") (by rfl) T.n_int (by decide +kernel) rfl) pa_nil))) (pe_one (pe_not (pe_callB call_isi (by rfl) T.n_isinstance (by decide +kernel) (pa_cons (pv 0) (pa_cons (pe_bltn (v := .ty "bool") (by rfl) T.n_bool (by decide +kernel) rfl) pa_nil)))))))), ?_⟩
    exact s_ret (ev_andV (ev_cb (ea_cons (ev_var rfl) (ea_cons ev_c ea_nil)) (rc_isi_int (b := true) (by decide +kernel))) fun _ => ev_notV (ev_cb (ea_cons (ev_var rfl) (ea_cons ev_c ea_nil)) (rc_isi_int (b := false) (by decide +kernel)))) q
theorem spv_whole {i : Int} {H : Hp} : SpV sp_l_whole [.int i] H (.bl true) := fun H1 e Q q E => ⟨i, rfl, q⟩
end
def sp_l_is_pair (K : PySem.W.Frag) : Sp := fun vs H Q _ => ∃ (p : Addr) (a b : Int), vs = [.ref p] ∧ SqT K H p [.int a, .int b] ∧ RetV (.bl true) H Q
section
variable {P : Program} {w : World} {K : PySem.W.Frag} {mg : Str → Option Value} {base : Heap}
theorem ok_l_is_pair (T : Txt K mg) : FnOk P w K mg base CX0 2 T.l_is_pair.f T.l_is_pair.fd ["_law_found"] (sp_l_is_pair K) := by
  refine T.l_is_pair.F.ok sc_l_is_pair (fun vs H Q E h => ?_) (fun cdv A outer s H vs Q E hr h => ?_)
  · obtain ⟨p, a, b, rfl, _⟩ := h; rfl
  · obtain ⟨p, a, b, rfl, hp, q⟩ := h
    refine ⟨_, (pss_one (ps_ret (pe_and (pe_callB call_isi (by rfl) T.n_isinstance (by decide +kernel) (pa_cons (pv 0) (pa_cons (pe_bltn (v := .ty "tuple") (by rfl) T.n_tuple (by decide +kernel) rfl) pa_nil))) (pe_and (pe_cmpR op_eq (pe_callB call_len_seq (by rfl) T.n_len (by decide +kernel) (pa_cons (pv 0) pa_nil)) pe_int (nomark _)) (pe_one (pe_callB (cr_all rfl) (by rfl) T.n_all (by decide +kernel) (pa_cons (pe_lc (own := [("_law_one", 1)]) (g := gName 1) (tt := tYes) rfl sc_l_is_pair.nd (pi_tup (pv 0)) (blkOk_by (own := [("_law_one", 1)]) (N := ["_law_found", "_law_one"]) (sc := defScope s_l_is_pair) (by decide +kernel)) (fun _ _ _ _ _ => pg_name (i := 1) sc_l_is_pair.nd rfl (Or.inl rfl)) (fun _ _ _ _ _ => pts_nil) (fun _ _ _ _ _ => (pe_call (ok_l_whole T) (hr.mono (by omega)) (by rfl) T.l_whole.g T.l_whole.F.kp T.l_whole.b .nil pass0 (pa_cons (pv 1) pa_nil)))) pa_nil))))))), ?_⟩
    refine s_ret (v := .bl true) (ev_andV (a := true) (b := true) (ev_cb (ea_cons (ev_var rfl) (ea_cons ev_c ea_nil)) (rc_isi_tup hp (by decide +kernel))) fun _ => ev_andV (a := true) (b := true) (ev_op (ev_cb (ea_cons (ev_var rfl) ea_nil) (rc_lenT hp)) ev_c (rv_eq rfl)) fun _ => ?_) q
    refine ev_allL (bs := [true, true]) (el_compT (fun _ => .bl true) (ev_var rfl) hp (by show 2 ≤ 40000; decide) (fun x => rfl) fun i x H1 e1 hi => ?_)
    have hx : ∃ n : Int, x = .int n := by
      match i, hi with
      | 0, hi => exact ⟨a, (Option.some.inj hi).symm⟩
      | 1, hi => exact ⟨b, (Option.some.inj hi).symm⟩
    obtain ⟨n, rfl⟩ := hx
    exact ev_call (ea_cons (ev_var rfl) ea_nil) spv_whole
theorem spv_is_pair {p : Addr} {a b : Int} {H : Hp} (hp : SqT K H p [.int a, .int b]) : SpV (sp_l_is_pair K) [.ref p] H (.bl true) := fun H1 e Q q E => ⟨p, a, b, rfl, ex_t e hp, q⟩
end
def sp_l_right (K : PySem.W.Frag) : Sp := fun vs H Q _ => ∃ (p : Addr) (a b n : Int), vs = [.ref p, .int n] ∧ SqT K H p [.int a, .int b] ∧ Big a ∧ Big b ∧ RetV (.bl true) H Q
section
variable {P : Program} {w : World} {K : PySem.W.Frag} {mg : Str → Option Value} {base : Heap}
theorem ok_l_right (T : Txt K mg) : FnOk P w K mg base CX0 8 T.l_right.f T.l_right.fd ["_law_pair_here", "_law_number_here"] (sp_l_right K) := by
  refine T.l_right.F.ok sc_l_right (fun vs H Q E h => ?_) (fun cdv A outer s H vs Q E hr h => ?_)
  · obtain ⟨p, a, b, n, rfl, _⟩ := h; rfl
  · obtain ⟨p, a, b, n, rfl, hp, ha, hb, q⟩ := h
    refine ⟨_, (pss_cons (ps_set (i := 2) sc_l_right.nd rfl (by first | exact .inl rfl | exact .inr rfl) (pe_call (ok_most T) (hr.mono (by omega)) (by rfl) T.most.g T.most.F.kp T.most.b .nil pass0 (pa_cons (pv 0) pa_nil)))
      (pss_cons (ps_if (PW.pt (pw_or (pt_not (pt_val (pe_call (ok_l_whole T) (hr.mono (by omega)) (by rfl) T.l_whole.g T.l_whole.F.kp T.l_whole.b .nil pass0 (pa_cons (pv 2) pa_nil)))) (pw_or (pt_cmpR op_ne (pv 2) (pe_call (ok_l_most T) (hr.mono (by omega)) (by rfl) T.l_most.g T.l_most.F.kp T.l_most.b .nil pass0 (pa_cons (pv 0) pa_nil)) (nomark _)) (pw_or1 (pt_cmpR op_ne (pe_call (ok_most T) (hr.mono (by omega)) (by rfl) T.most.g T.most.F.kp T.most.b .nil pass0 (pa_cons (pe_tup (pa_cons (pe_ix ix_tup (pv 0) pe_int (fun _ _ => rfl)) (pa_cons (pe_ix ix_tup (pv 0) pe_int (fun _ _ => rfl)) pa_nil))) pa_nil)) (pv 2) (nomark _)))))) (pss_one (ps_ret pe_bl)) pss_nil)
      (pss_cons (ps_set (i := 3) sc_l_right.nd rfl (by first | exact .inl rfl | exact .inr rfl) (pe_call (ok_worth T) (hr.mono (by omega)) (by rfl) T.worth.g T.worth.F.kp T.worth.b .nil pass0 (pa_cons (pv 0) pa_nil)))
      (pss_cons (ps_if (PW.pt (pw_or (pt_not (pt_val (pe_call (ok_l_whole T) (hr.mono (by omega)) (by rfl) T.l_whole.g T.l_whole.F.kp T.l_whole.b .nil pass0 (pa_cons (pv 3) pa_nil)))) (pw_or (pt_cmpR op_ne (pv 3) (pe_call (ok_l_worth T) (hr.mono (by omega)) (by rfl) T.l_worth.g T.l_worth.F.kp T.l_worth.b .nil pass0 (pa_cons (pv 0) pa_nil)) (nomark _)) (pw_or1 (pt_cmpR op_ne (pe_call (ok_worth T) (hr.mono (by omega)) (by rfl) T.worth.g T.worth.F.kp T.worth.b .nil pass0 (pa_cons (pe_tup (pa_cons (pe_ix ix_tup (pv 0) pe_int (fun _ _ => rfl)) (pa_cons (pe_ix ix_tup (pv 0) pe_int (fun _ _ => rfl)) pa_nil))) pa_nil)) (pv 3) (nomark _)))))) (pss_one (ps_ret pe_bl)) pss_nil)
      (pss_cons (ps_if (pt_cmpR op_gt (pv 2) pe_int (nomark _)) (pss_one (ps_for PassesOwn.never rfl (pi_list (pe_lst (pa_cons pe_int (pa_cons (pv 2) (pa_cons (pe_op op_add pe_int (pe_op op_mod (pv 1) (pv 2))) (pa_cons (pe_op op_add pe_int (pe_op op_mod (pe_op op_fdivW (pv 1) pe_int) (pv 2))) pa_nil)))))) (pg_name (i := 4) sc_l_right.nd rfl (by first | exact .inl rfl | exact .inr rfl)) (pss_cons (ps_set (i := 5) sc_l_right.nd rfl (by first | exact .inl rfl | exact .inr rfl) (pe_call (ok_taken T) (hr.mono (by omega)) (by rfl) T.taken.g T.taken.F.kp T.taken.b .nil pass0 (pa_cons (pv 0) (pa_cons (pv 4) pa_nil))))
      (pss_one (ps_if (PW.pt (pw_or (pt_not (pt_val (pe_call (ok_l_is_pair T) (hr.mono (by omega)) (by rfl) T.l_is_pair.g T.l_is_pair.F.kp T.l_is_pair.b .nil pass0 (pa_cons (pv 5) pa_nil)))) (pw_or (pt_cmpR (op_neD hr.units) (pv 5) (pe_call (ok_l_behind T) (hr.mono (by omega)) (by rfl) T.l_behind.g T.l_behind.F.kp T.l_behind.b .nil pass0 (pa_cons (pv 0) (pa_cons (pv 4) pa_nil))) (nomark _)) (pw_or1 (pt_cmpR op_eq (pe_call (ok_worth T) (hr.mono (by omega)) (by rfl) T.worth.g T.worth.F.kp T.worth.b .nil pass0 (pa_cons (pv 5) pa_nil)) (pv 3) (nomark _)))))) (pss_one (ps_ret pe_bl)) pss_nil))))) pss_nil)
      (pss_one (ps_ret pe_bl))))))), ?_⟩
    have i0 : ∀ {H1 : Hp}, Ex H H1 → RV (rIxT K) (.ref p) (.int 0) H1 (.int a) := fun e => rv_ixT (ex_t e hp) rfl
    have i1 : ∀ {H1 : Hp}, Ex H H1 → RV (rIxT K) (.ref p) (.int 1) H1 (.int b) := fun e => rv_ixT (ex_t e hp) rfl
    refine q_asg (ev_call (ea_cons (ev_var rfl) ea_nil) (spv_most hp ha hb)) fun H1 e1 => ?_
    refine q_when (b := false) (et_or_ff (et_not (a := true) (et_B (ev_call (ea_cons (ev_var rfl) ea_nil) spv_whole))) (et_or_ff
      (et_is (et_test (ev_op (ev_var rfl) (ev_call (ea_cons (ev_var rfl) ea_nil) (spv_l_most (ex_t e1 hp) ha hb)) (rv_ne rfl))) (by simp))
      (et_is (et_test (ev_op (ev_callU (eu_tup (ea_cons (ev_op (ev_var rfl) ev_c (i1 e1)) (ea_cons (ev_op (ev_var rfl) ev_c (i0 e1)) ea_nil)) (by show 2 ≤ 100000; decide)) fun p' H2 hp' _ => spv_most (st_of hp') hb ha) (ev_var rfl) (rv_ne rfl))) (by simp [most_comm a b])))) (fun z => nomatch z) fun _ H2 e2 => ?_
    have e12 := e1.trans e2
    refine q_asg (ev_call (ea_cons (ev_var rfl) ea_nil) (spv_worth (ex_t e12 hp) ha hb)) fun H3 e3 => ?_
    have e13 := e12.trans e3
    refine q_when (b := false) (et_or_ff (et_not (a := true) (et_B (ev_call (ea_cons (ev_var rfl) ea_nil) spv_whole))) (et_or_ff
      (et_is (et_test (ev_op (ev_var rfl) (ev_call (ea_cons (ev_var rfl) ea_nil) (spv_l_worth (ex_t e13 hp) ha hb)) (rv_ne rfl))) (by simp))
      (et_is (et_test (ev_op (ev_callU (eu_tup (ea_cons (ev_op (ev_var rfl) ev_c (i1 e13)) (ea_cons (ev_op (ev_var rfl) ev_c (i0 e13)) ea_nil)) (by show 2 ≤ 100000; decide)) fun p' H2 hp' _ => spv_worth (st_of hp') hb ha) (ev_var rfl) (rv_ne rfl))) (by simp [worth_comm a b])))) (fun z => nomatch z) fun _ H4 e4 => ?_
    have e14 := e13.trans e4
    refine q_when (et_test (ev_op (ev_var rfl) ev_c rv_I0)) (fun z H5 e5 => ?_) (fun z H5 e5 => s_ret ev_c fun H6 e6 => q H6 ((e14.trans e5).trans e6))
    have hm : 0 < mostF a b := of_decide_eq_true z
    have hM := big_most ha hb hm
    have u0 := Int.emod_nonneg n (show mostF a b ≠ 0 by omega)
    have u1 := Int.emod_lt_of_pos n hm
    have v0 := Int.emod_nonneg (n / 3) (show mostF a b ≠ 0 by omega)
    have v1 := Int.emod_lt_of_pos (n / 3) hm
    have e15 := e14.trans e5
    refine s_forN (xs := [.int 1, .int (mostF a b), .int (1 + n % mostF a b), .int (1 + n / 3 % mostF a b)])
      (el_lst (ea_cons ev_c (ea_cons (ev_var rfl) (ea_cons (ev_op ev_c (ev_op (ev_var rfl) (ev_var rfl) (rv_I hm)) rv_I0) (ea_cons (ev_op ev_c (ev_op (ev_op (ev_var rfl) ev_c (rv_I (cd_small (by decide) (by decide)))) (ev_var rfl) (rv_I hm)) rv_I0) ea_nil)))) (by show 4 ≤ 100000; decide))
      (fun l i σ' H' => ∃ x4 x5, σ' = [some (.ref p), some (.int n), some (.int (mostF a b)), some (.int (worthF a b)), x4, x5] ∧ Ex H H' ∧ H' l = some (.lst [.int 1, .int (mostF a b), .int (1 + n % mostF a b), .int (1 + n / 3 % mostF a b)]))
      (fun l H6 _ e6 h6 => ⟨none, none, rfl, e15.trans e6, h6⟩) (fun l i σ' H' _ ⟨_, _, _, _, h⟩ => sq_of h) (fun l i x σ' H' hi hP => ?_) (fun l σ' H' hP => ?_)
    · obtain ⟨x4, x5, rfl, ex, hl⟩ := hP
      obtain ⟨t, rfl, t1, t2⟩ : ∃ t : Int, x = .int t ∧ 1 ≤ t ∧ t ≤ mostF a b := by
        match i, hi with
        | 0, hi => exact ⟨1, (Option.some.inj hi).symm, by omega, by omega⟩
        | 1, hi => exact ⟨_, (Option.some.inj hi).symm, by omega, by omega⟩
        | 2, hi => exact ⟨_, (Option.some.inj hi).symm, by omega, by omega⟩
        | 3, hi => exact ⟨_, (Option.some.inj hi).symm, by omega, by omega⟩
      obtain ⟨bA, bB⟩ := big_beh ha hb t1 t2
      refine q_asgU (eu_call (ea_cons (ev_var rfl) (ea_cons (ev_var rfl) ea_nil)) (spu_taken (ex_t ex hp) ha hb t1 t2)) fun r H7 _ e7 h7 => ?_
      have ex7 := ex.trans e7
      refine s_when (b := false) (et_or_ff (et_not (a := true) (et_B (ev_call (ea_cons (ev_var rfl) ea_nil) (spv_is_pair (st_of h7))))) (et_or_ff
        (et_test (ev_opV (ev_var rfl) (eu_call (ea_cons (ev_var rfl) (ea_cons (ev_var rfl) ea_nil)) (spu_l_behind (ex_t ex7 hp) ha hb t1 t2)) fun q' H8 h8 e8 => rv_nePair (ex_t e8 (st_of h7)) (st_of h8)))
        (et_is (et_test (ev_op (ev_call (ea_cons (ev_var rfl) ea_nil) (spv_worth (st_of h7) bA bB)) (ev_var rfl) (rv_eq rfl))) ?_))) (fun z => nomatch z) fun _ H8 e8 => ⟨_, _, rfl, ex7.trans e8, e8 _ _ (e7 _ _ hl)⟩
      exact decide_eq_false fun z => beh_ne ha.pos hb.pos t1 t2 (V.int.inj z)
    · obtain ⟨x4, x5, rfl, ex, hl⟩ := hP
      exact q H' ex
theorem spv_right {p : Addr} {a b n : Int} {H : Hp} (hp : SqT K H p [.int a, .int b]) (ha : Big a) (hb : Big b) : SpV (sp_l_right K) [.ref p, .int n] H (.bl true) := fun H1 e Q q E => ⟨p, a, b, n, rfl, ex_t e hp, ha, hb, q⟩
end
/-! ### the dict of worths -/
def kP (a b : Int) : List Key := [Sum.inl a, Sum.inl b]
theorem kP_inj {a b c d : Int} (h : kP a b = kP c d) : a = c ∧ b = d := by
  unfold kP at h
  injection h with h1 h2
  injection h2 with h2 _
  exact ⟨Sum.inl.inj h1, Sum.inl.inj h2⟩
def Good (kvs : List (List Key × V)) : Prop := ∀ k ∈ kvs.map (·.1), ∃ a b : Int, k = kP a b ∧ 1 ≤ a ∧ a ≤ 14 ∧ 1 ≤ b ∧ b ≤ 14 ∧ valV kvs k = some (.int (worthF a b))
def Has (z T o : Int) (kvs : List (List Key × V)) : Prop := ∀ a b : Int, 1 ≤ a → a ≤ z → 1 ≤ b → b ≤ z → (a + b < T ∨ (a + b = T ∧ a < o)) → valV kvs (kP a b) = some (.int (worthF a b))
theorem keys_put {kvs : List (List Key × V)} {k k' : List Key} {v : V} (h : k' ∈ (putK kvs k v).map (·.1)) : k' = k ∨ k' ∈ kvs.map (·.1) := by
  unfold putK at h
  split at h
  · right
    rw [List.map_map] at h
    obtain ⟨p, hp, e⟩ := List.mem_map.mp h
    refine List.mem_map.mpr ⟨p, hp, ?_⟩
    rw [← e]
    show p.1 = (if p.1 = k then (p.1, v) else p).1
    split <;> rfl
  · rw [List.map_append] at h
    rcases List.mem_append.mp h with h | h
    · exact .inr h
    · exact .inl (List.mem_singleton.mp h)
theorem Good.put {kvs : List (List Key × V)} {a b : Int} (h : Good kvs) (a1 : 1 ≤ a) (a2 : a ≤ 14) (b1 : 1 ≤ b) (b2 : b ≤ 14) : Good (putK kvs (kP a b) (.int (worthF a b))) := by
  intro k hk
  by_cases e : k = kP a b
  · exact ⟨a, b, e, a1, a2, b1, b2, by rw [valV_put, if_pos e]⟩
  · rcases keys_put hk with z | z
    · exact absurd z e
    · obtain ⟨c, d, ek, c1, c2, d1, d2, hv⟩ := h k z
      exact ⟨c, d, ek, c1, c2, d1, d2, by rw [valV_put, if_neg e]; exact hv⟩
theorem Has.put {z T o : Int} {kvs : List (List Key × V)} (h : Has z T o kvs) : Has z T (o + 1) (putK kvs (kP o (T - o)) (.int (worthF o (T - o)))) := by
  intro a b a1 a2 b1 b2 hc
  rw [valV_put]
  by_cases e : kP a b = kP o (T - o)
  · rw [if_pos e]
    obtain ⟨rfl, rfl⟩ := kP_inj e
    rfl
  · rw [if_neg e]
    refine h a b a1 a2 b1 b2 ?_
    rcases hc with c | ⟨c1, c2⟩
    · exact .inl c
    · by_cases q : a = o
      · subst q
        exact absurd (by rw [show T - a = b by omega]) e
      · exact .inr ⟨c1, by omega⟩
/-! ### the worths behind, and the least that none of them is -/
def nearF (a b : Int) (i : Nat) : V := .int (worthF (behA a b (1 + (i : Int))) (behB a b (1 + (i : Int))))
def nearL (a b : Int) : List V := given (mostF a b + 1 - 1).toNat (fun _ => true) (nearF a b)
theorem near_eq (a b : Int) : nearL a b = (List.range (mostF a b).toNat).map (nearF a b) := by
  unfold nearL given
  rw [show mostF a b + 1 - 1 = mostF a b by omega, List.filter_eq_self.mpr (fun _ _ => rfl)]
theorem near_flat (a b : Int) : (nearL a b).all flatV = true := by
  rw [near_eq, List.all_map, List.all_eq_true]
  intro i _
  rfl
theorem near_in {a b u : Int} (ha : 0 < a) (hb : 0 < b) (h0 : 0 ≤ u) (h1 : u ≤ worthF a b) : inV (.int u) (nearL a b) = decide (u < worthF a b) := by
  unfold inV
  rw [near_eq, List.any_map]
  by_cases c : u < worthF a b
  · rw [decide_eq_true c, List.any_eq_true]
    obtain ⟨t, t1, t2, t3⟩ := hit ha hb h0 c
    refine ⟨(t - 1).toNat, List.mem_range.mpr (by omega), ?_⟩
    show (worthF (behA a b (1 + ((t - 1).toNat : Int))) (behB a b (1 + ((t - 1).toNat : Int))) == u) = true
    rw [show 1 + ((t - 1).toNat : Int) = t by omega, t3]
    simp
  · rw [decide_eq_false c, List.any_eq_false]
    intro i hi
    have hi' := List.mem_range.mp hi
    show ¬ (worthF (behA a b (1 + (i : Int))) (behB a b (1 + (i : Int))) == u) = true
    have e : u = worthF a b := by omega
    rw [e]
    simpa using beh_ne ha hb (show 1 ≤ 1 + (i : Int) by omega) (show 1 + (i : Int) ≤ mostF a b by omega)
def sp_l_tried : Sp := fun vs H Q _ => ∃ z : Int, vs = [.int z] ∧ 6 ≤ z ∧ z ≤ 14 ∧ ∀ d kvs H', H d = none → Ex H H' → H' d = some (.dT kvs) → Good kvs → kvs.length ≤ 2000 → Q (.ref d) H'
section
variable {P : Program} {w : World} {K : PySem.W.Frag} {mg : Str → Option Value} {base : Heap}
/-- the frame of the def between two pairs -/
def TrSt (d : Addr) (z T o : Int) (m : Nat) (H0 : Hp) : L2.St → Hp → Prop := fun σ H' => ∃ (kvs : List (List Key × V)) (x3 x4 x5 x6 : Option V), σ = [some (.int z), some (.ref d), some (.int T), x3, x4, x5, x6, none] ∧ Ex H0 H' ∧ H' d = some (.dT kvs) ∧ Good kvs ∧ Has z T o kvs ∧ kvs.length ≤ m
theorem ok_l_tried (T : Txt K mg) : FnOk P w K mg base CX0 2 T.l_tried.f T.l_tried.fd ["_law_size"] sp_l_tried := by
  refine T.l_tried.F.ok sc_l_tried (fun vs H Q E h => ?_) (fun cdv A outer s H vs Q E hr h => ?_)
  · obtain ⟨z, rfl, _⟩ := h; rfl
  · obtain ⟨z, rfl, z1, z2, q⟩ := h
    have hu := hu_of hr
    refine ⟨_, (pss_cons (ps_set (i := 1) sc_l_tried.nd rfl (by first | exact .inl rfl | exact .inr rfl) pe_dnewT)
      (pss_cons (ps_for PassesOwn.never rfl (pi_range2 (by rfl) T.n_range (pa_cons pe_int (pa_cons (pe_op op_add (pe_op op_mulX pe_int (pv 0)) pe_int) pa_nil))) (pg_name (i := 2) sc_l_tried.nd rfl (by first | exact .inl rfl | exact .inr rfl)) (pss_one (ps_for PassesOwn.never rfl (pi_range2 (by rfl) T.n_range (pa_cons (pe_callB (call_max2 rfl) (by rfl) T.n_max (by decide +kernel) (pa_cons pe_int (pa_cons (pe_op op_sub (pv 2) (pv 0)) pa_nil))) (pa_cons (pe_op op_add (pe_callB (call_min2 rfl) (by rfl) T.n_min (by decide +kernel) (pa_cons (pv 0) (pa_cons (pe_op op_sub (pv 2) pe_int) pa_nil))) pe_int) pa_nil))) (pg_name (i := 3) sc_l_tried.nd rfl (by first | exact .inl rfl | exact .inr rfl)) (pss_cons (ps_set (i := 4) sc_l_tried.nd rfl (by first | exact .inl rfl | exact .inr rfl) (pe_tup (pa_cons (pv 3) (pa_cons (pe_op op_sub (pv 2) (pv 3)) pa_nil))))
      (pss_cons (ps_setLc (i := 5) (own := [("_law_times", 7)]) (g := gName 7) (tt := tYes) rfl sc_l_tried.nd rfl rfl (sw_true rfl rfl rfl (by decide +kernel)) (pi_range2 (by rfl) T.n_range (pa_cons pe_int (pa_cons (pe_op op_add (pe_call (ok_l_most T) (hr.mono (by omega)) (by rfl) T.l_most.g T.l_most.F.kp T.l_most.b .nil pass0 (pa_cons (pv 4) pa_nil)) pe_int) pa_nil))) (blkOk_by (own := [("_law_times", 7)]) (N := ["_law_size", "_law_found", "_law_total", "_law_one", "_law_pair_here", "_law_near", "_law_much", "_law_times"]) (sc := defScope s_l_tried) (by decide +kernel)) (fun _ _ _ _ _ => pg_name (i := 7) sc_l_tried.nd rfl (Or.inl rfl)) (fun _ _ _ _ _ => pts_nil) (fun _ _ _ _ _ => (pe_dget hu (pv 1) (pe_call (ok_l_behind T) (hr.mono (by omega)) (by rfl) T.l_behind.g T.l_behind.F.kp T.l_behind.b .nil pass0 (pa_cons (pv 4) (pa_cons (pv 7) pa_nil))) (fun _ _ => rfl))))
      (pss_cons (ps_set (i := 6) sc_l_tried.nd rfl (by first | exact .inl rfl | exact .inr rfl) pe_int)
      (pss_cons (ps_while PassesOwn.never (pt_cmpR op_in_seq (pv 6) (pv 5) rfl) (pss_one (ps_set (i := 6) sc_l_tried.nd rfl (by first | exact .inl rfl | exact .inr rfl) (pe_op op_add (pv 6) pe_int))))
      (pss_one (ps_dput hu (pv 1) (pv 4) (pv 6) rfl)))))))))
      (pss_one (ps_ret (pv 1))))), ?_⟩
    -- found = {}
    intro d hd
    -- the totals
    refine q_forR2 (lo := 2) (n := 2 * z + 1) (ea_cons ev_c (ea_cons (ev_op (ev_op ev_c (ev_var rfl) (rv_I ((W.small (x := 2) (by decide) (by decide)).cm (W.small (x := z) (by omega) (by omega)) (by decide)))) ev_c rv_I0) ea_nil)) (by omega)
      (fun i σ' H' => ∃ (kvs : List (List Key × V)) (x2 x3 x4 x5 x6 : Option V), σ' = [some (.int z), some (.ref d), x2, x3, x4, x5, x6, none] ∧ Ex H H' ∧ H' d = some (.dT kvs) ∧ Good kvs ∧ Has z (2 + i) 0 kvs ∧ kvs.length ≤ 40 * i)
      (fun H1 e1 => ⟨[], none, none, none, none, none, rfl, (Ex.new hd).trans e1, e1 d _ upd_same, fun k hk => (nomatch hk), fun a b _ _ _ _ hc => ?_, Nat.zero_le _⟩) (fun i σ' H' hi hP => ?_) (fun σ' H' hP => ?_)
    · exfalso
      omega
    · obtain ⟨kvs, x2, x3, x4, x5, x6, rfl, ex, hD, hG, hH, hk⟩ := hP
      -- the first and the last of the inner range
      have lo1 : ∃ lo, lo = (if (1 : Int) < (2 + (i : Int)) - z then (2 + (i : Int)) - z else 1) := ⟨_, rfl⟩
      obtain ⟨lo, hlo⟩ := lo1
      have hi1 : ∃ h, h = (if (2 + (i : Int)) - 1 < z then (2 + (i : Int)) - 1 else z) + 1 := ⟨_, rfl⟩
      obtain ⟨hh, hhh⟩ := hi1
      have b1 : 1 ≤ lo ∧ (2 + (i : Int)) - z ≤ lo ∧ lo ≤ 30 ∧ (lo = 1 ∨ lo = (2 + (i : Int)) - z) := by rw [hlo]; split <;> omega
      have b2 : hh ≤ z + 1 ∧ hh ≤ 2 + (i : Int) ∧ 1 < hh ∧ (hh = z + 1 ∨ hh = 2 + (i : Int)) := by rw [hhh]; split <;> omega
      refine s_forR2 (lo := lo) (n := hh) (ea_cons (ev_is (ev_cb (ea_cons ev_c (ea_cons (ev_op (ev_var rfl) (ev_var rfl) rv_I0) ea_nil)) rc_max2) (by rw [hlo])) (ea_cons (ev_is (ev_op (ev_cb (ea_cons (ev_var rfl) (ea_cons (ev_op (ev_var rfl) ev_c rv_I0) ea_nil)) rc_min2) ev_c rv_I0) (by rw [hhh])) ea_nil)) (by omega)
        (fun j => TrSt d z (2 + i) (lo + j) (40 * i + j) H) (fun H1 e1 => ?_) (fun j σ' H1 hj hP => ?_) (fun σ' H1 hP => ?_)
      · refine ⟨kvs, x3, x4, x5, x6, rfl, ex.trans e1, e1 d _ hD, hG, fun a b a1 a2 b1' b2' hc => hH a b a1 a2 b1' b2' ?_, by omega⟩
        rcases hc with c | ⟨c1, c2⟩
        · exact .inl c
        · exfalso
          omega
      · obtain ⟨kvs, x3, x4, x5, x6, rfl, ex1, hD1, hG1, hH1, hk1⟩ := hP
        have hT : ∃ Tt : Int, Tt = 2 + (i : Int) := ⟨_, rfl⟩
        obtain ⟨Tt, hTt⟩ := hT
        have ha0 : ∃ a : Int, a = lo + (j : Int) := ⟨_, rfl⟩
        obtain ⟨a, haa⟩ := ha0
        rw [← hTt] at hH1 b1 b2 ⊢
        rw [← haa] at hH1 ⊢
        have hb0 : ∃ b : Int, b = Tt - a := ⟨_, rfl⟩
        obtain ⟨b, hbb⟩ := hb0
        have a1 : 1 ≤ a := by omega
        have a2 : a ≤ z := by omega
        have b3 : 1 ≤ b := by omega
        have b4 : b ≤ z := by omega
        have bA : Big a := Big.small (by omega) (by omega)
        have bB : Big b := Big.small (by omega) (by omega)
        have hml := most_le (show 0 < a by omega) (show 0 < b by omega)
        have hm0 := most0 (show 0 < a by omega) (show 0 < b by omega)
        -- the pair
        refine q_asgU (xs := [.int a, .int b]) (eu_tup (ea_cons (ev_var rfl) (ea_cons (ev_is (ev_op (ev_var rfl) (ev_var rfl) rv_I0) (by rw [hbb])) ea_nil)) (by show 2 ≤ 100000; decide)) fun p H2 hp0 e2 hp => ?_
        have hpT : SqT K H2 p [.int a, .int b] := st_of hp
        have hD2 := e2 d _ hD1
        -- the worths behind
        refine q_asgL (xs := nearL a b) (el_compR (lo := 1) (n := mostF a b + 1) (nearF a b) (ea_cons ev_c (ea_cons (ev_op (ev_call (ea_cons (ev_var rfl) ea_nil) (spv_l_most hpT bA bB)) ev_c rv_I0) ea_nil)) (by omega) (fun x => rfl) fun n H3 e3 hn => ?_) fun l H3 _ e3 hl => ?_
        · obtain ⟨c1, c2, c3, c4, c5⟩ := beh_small (show 0 < a by omega) (show 0 < b by omega) (show 1 ≤ 1 + (n : Int) by omega) (show 1 + (n : Int) ≤ mostF a b by omega)
          exact ev_dgetU (k := kP (behA a b (1 + (n : Int))) (behB a b (1 + (n : Int)))) (ev_var rfl) (eu_call (ea_cons (ev_var rfl) (ea_cons (ev_var rfl) ea_nil)) (spu_l_behind (ex_t e3 hpT) bA bB (by omega) (by omega))) (e3 d _ hD2) (hH1 _ _ (by omega) (by omega) (by omega) (by omega) (.inl (by omega)))
        -- much
        refine q_asg ev_c fun H4 e4 => ?_
        have w0 := worthF0 (show 0 < a by omega) (show 0 < b by omega)
        have e24 := e3.trans e4
        refine q_while (fun m σ' H' => ∃ u : Int, σ' = [some (.int z), some (.ref d), some (.int Tt), some (.int a), some (.ref p), some (.ref l), some (.int u), none] ∧ Ex H4 H' ∧ 0 ≤ u ∧ u ≤ worthF a b ∧ m = (worthF a b - u).toNat) (worthF a b - 0).toNat ⟨0, rfl, Ex.refl _, by omega, by omega, rfl⟩ fun m σ' H' hW => ?_
        obtain ⟨u, rfl, e5, u0, u1, rfl⟩ := hW
        have hl5 : SqL K H' l (nearL a b) := sq_of (e5 l _ (e4 l _ hl))
        refine ⟨decide (u < worthF a b), et_test (ev_is (ev_op (ev_var rfl) (ev_var rfl) (rv_isL hl5 rfl (near_flat a b))) (by rw [near_in (by omega) (by omega) u0 u1])), fun hc H6 e6 => ?_, fun hc H6 e6 => ?_⟩
        · have hc' := of_decide_eq_true hc
          refine ⟨fun σ2 H2' => σ2 = [some (.int z), some (.ref d), some (.int Tt), some (.int a), some (.ref p), some (.ref l), some (.int (u + 1)), none] ∧ Ex H4 H2', fun σ2 H2' hn => ⟨(worthF a b - (u + 1)).toNat, by omega, u + 1, hn.1, hn.2, by omega, by omega, rfl⟩, ?_⟩
          exact s_asg (ev_op (ev_var rfl) ev_c rv_I0) fun H7 e7 => ⟨rfl, (e5.trans e6).trans e7⟩
        · have hu' : u = worthF a b := by
            have := of_decide_eq_false hc
            omega
          subst hu'
          have e46 := e5.trans e6
          refine s_dput (k := kP a b) (kvs := kvs) (ev_var rfl) (ev_var rfl) (ev_var rfl) (e46 d _ (e24 d _ hD2)) (e46 p _ (e24 p _ hp)) (by omega) fun H8 e8 => ?_
          refine ⟨putK kvs (kP a b) (.int (worthF a b)), _, _, _, _, rfl, Ex.mut ((((ex1.trans e2).trans e24).trans e46).trans e8) hd, upd_same, hG1.put (by omega) (by omega) (by omega) (by omega), ?_, Nat.le_trans (length_putK _ _ _) (by omega)⟩
          have hh' := hH1.put
          rw [← hbb] at hh'
          rw [show lo + ((j + 1 : Nat) : Int) = a + 1 by omega]
          exact hh'
      · obtain ⟨kvs, x3, x4, x5, x6, rfl, ex1, hD1, hG1, hH1, hk1⟩ := hP
        refine ⟨kvs, _, x3, x4, x5, x6, rfl, ex1, hD1, hG1, fun a b a1 a2 b1' b2' hc => hH1 a b a1 a2 b1' b2' ?_, by omega⟩
        rcases hc with c | ⟨c1, c2⟩
        · by_cases c' : a + b < 2 + (i : Int)
          · exact .inl c'
          · exact .inr ⟨by omega, by omega⟩
        · exfalso
          omega
    · obtain ⟨kvs, x2, x3, x4, x5, x6, rfl, ex, hD, hG, hH, hk⟩ := hP
      exact s_ret (ev_var rfl) fun H1 e1 => q d kvs H1 hd (ex.trans e1) (e1 d _ hD) hG (by omega)
end
def sp_law (K : PySem.W.Frag) : Sp := fun vs H Q _ => ∃ (a : Addr) (ns : List Int), vs = [.ref a] ∧ SqL K H a (ns.map V.int) ∧ ns.length ≤ 63 ∧ (∀ n ∈ ns, W 1048576 n) ∧ ∀ H', Q (.bl true) H'
theorem kv_pair (a b : Int) : (kP a b).map kV = [V.int a, V.int b] := rfl
section
variable {P : Program} {w : World} {K : PySem.W.Frag} {mg : Str → Option Value} {base : Heap}
theorem ok_law {f : Addr} {fd : FuncData} (F : Fun K "law" "law" s_law f fd) (T : Txt K mg) : FnOk P w K mg base CX0 9 f fd ["_law_script"] (sp_law K) := by
  refine F.ok sc_law (fun vs H Q E h => ?_) (fun cdv A outer s H vs Q E hr h => ?_)
  · obtain ⟨a, ns, rfl, _⟩ := h; rfl
  · obtain ⟨a, ns, rfl, hS, hl, hW, q⟩ := h
    have hu := hu_of hr
    refine ⟨_, (pss_cons (ps_set (i := 1) sc_law.nd rfl (by first | exact .inl rfl | exact .inr rfl) (pe_callB (cr_sum rfl) (by rfl) T.n_sum (by decide +kernel) (pa_cons (pe_slice sl_list (pv 0) po_none (po_some pe_int)) pa_nil)))
      (pss_cons (ps_set (i := 2) sc_law.nd rfl (by first | exact .inl rfl | exact .inr rfl) (pe_ifExp (pt_cmpR (op_neD hr.units) (pv 0) (pe_lst pa_nil) (nomark _)) (pe_slice sl_list (pv 0) po_none (po_some pe_int)) (pe_lst (pa_cons pe_int pa_nil))))
      (pss_cons (ps_for PassesOwn.never rfl (pi_range1 (by rfl) T.n_range (pa_cons (pe_callB (call_min2 rfl) (by rfl) T.n_min (by decide +kernel) (pa_cons pe_int (pa_cons (pe_callB call_len_seq (by rfl) T.n_len (by decide +kernel) (pa_cons (pv 2) pa_nil)) pa_nil))) pa_nil)) (pg_name (i := 3) sc_law.nd rfl (by first | exact .inl rfl | exact .inr rfl)) (pss_one (ps_if (pt_not (pt_val (pe_call (ok_l_right T) (hr.mono (by omega)) (by rfl) T.l_right.g T.l_right.F.kp T.l_right.b .nil pass0 (pa_cons (pe_call (ok_l_pair T) (hr.mono (by omega)) (by rfl) T.l_pair.g T.l_pair.F.kp T.l_pair.b .nil pass0 (pa_cons (pv 0) (pa_cons (pv 3) pa_nil))) (pa_cons (pe_call (ok_l_number T) (hr.mono (by omega)) (by rfl) T.l_number.g T.l_number.F.kp T.l_number.b .nil pass0 (pa_cons (pe_ix ix_list (pv 2) (pv 3) (fun _ _ => rfl)) (pa_cons (pe_op op_add (pv 3) pe_int) (pa_cons (pv 1) pa_nil)))) pa_nil))))) (pss_one (ps_ret pe_bl)) pss_nil)))
      (pss_cons (ps_set (i := 4) sc_law.nd rfl (by first | exact .inl rfl | exact .inr rfl) (pe_call (ok_l_tried T) (hr.mono (by omega)) (by rfl) T.l_tried.g T.l_tried.F.kp T.l_tried.b .nil pass0 (pa_cons (pe_op op_add pe_int (pe_op op_mod (pv 1) pe_int)) pa_nil)))
      (pss_cons (ps_if (pt_not (pt_val (pe_callB (cr_all rfl) (by rfl) T.n_all (by decide +kernel) (pa_cons (pe_lock (pe_lc (own := [("_law_pair_here", 5)]) (g := gName 5) (tt := tYes) rfl sc_law.nd (pi_keys (pv 4)) (blkOk_by (own := [("_law_pair_here", 5)]) (N := ["_law_script", "_law_whole_here", "_law_cells", "_law_at", "_law_tried_here", "_law_pair_here"]) (sc := defScope s_law) (by decide +kernel)) (fun _ _ _ _ _ => pg_name (i := 5) sc_law.nd rfl (Or.inl rfl)) (fun _ _ _ _ _ => pts_nil) (fun _ _ _ _ _ => (pe_cmpR op_eq (pe_call (ok_worth T) (hr.mono (by omega)) (by rfl) T.worth.g T.worth.F.kp T.worth.b .nil pass0 (pa_cons (pv 5) pa_nil)) (pe_dget hu (pv 4) (pv 5) (fun _ _ => rfl)) (nomark _))))) pa_nil)))) (pss_one (ps_ret pe_bl)) pss_nil)
      (pss_cons (ps_if (PW.pt (pw_or (pt_cmpR op_ne (pe_call (ok_most T) (hr.mono (by omega)) (by rfl) T.most.g T.most.F.kp T.most.b .nil pass0 (pa_cons (pe_tup (pa_cons pe_int (pa_cons pe_int pa_nil))) pa_nil)) pe_int (nomark _)) (pw_or1 (pt_cmpR (op_neD hr.units) (pe_call (ok_taken T) (hr.mono (by omega)) (by rfl) T.taken.g T.taken.F.kp T.taken.b .nil pass0 (pa_cons (pe_tup (pa_cons pe_int (pa_cons pe_int pa_nil))) (pa_cons pe_int pa_nil))) (pe_tup (pa_cons pe_int (pa_cons pe_int pa_nil))) (nomark _))))) (pss_one (ps_ret pe_bl)) pss_nil)
      (pss_one (ps_ret (pe_and (pe_cmpR op_eq (pe_call (ok_worth T) (hr.mono (by omega)) (by rfl) T.worth.g T.worth.F.kp T.worth.b .nil pass0 (pa_cons (pe_tup (pa_cons pe_int (pa_cons pe_int pa_nil))) pa_nil)) pe_int (nomark _)) (pe_one (pe_cmpR op_eq (pe_call (ok_worth T) (hr.mono (by omega)) (by rfl) T.worth.g T.worth.F.kp T.worth.b .nil pass0 (pa_cons (pe_tup (pa_cons (pe_op op_pow pe_int pe_int) (pa_cons pe_int pa_nil))) pa_nil)) (pe_op op_sub (pe_op op_pow pe_int pe_int) pe_int) (nomark _)))))))))))), ?_⟩
    -- the sum, the cells
    have sl := el_sl (K := K) (σ := L2.start ["_law_script", "_law_whole_here", "_law_cells", "_law_at", "_law_tried_here", "_law_pair_here"] [.ref a]) (te := tVar 0) (tl := tNoPart) (th := tPart (tC (.int 63))) (ev_var rfl) eo_none (eo_some (i := 63) ev_c) hS
    rw [cut63 (by rw [List.length_map]; exact hl)] at sl
    refine q_asg (ev_sumL sl) fun H1 e1 => ?_
    refine q_asgL (el_cells (d := 7) (ev_var rfl) (ev_var rfl) (ex_l e1 hS) hl) fun c H2 _ e2 hc => ?_
    have e12 := e1.trans e2
    have hC : SqL K H2 c ((cellsF 7 ns).map V.int) := sq_of hc
    have hcl := cells_len (d := 7) hl
    have hcW := cells_W ((W.small (x := 7) (by decide) (by decide)).mono (by decide)) hW
    generalize cellsF 7 ns = cs at *
    generalize ns.sum = wh at *
    have hlen : ((cs.map V.int).length : Int) = cs.length := by rw [List.length_map]
    -- each cell's pair
    refine q_forR1 (n := cs.length) (ea_cons (ev_is (ev_cb (ea_cons ev_c (ea_cons (ev_cb (ea_cons (ev_var rfl) ea_nil) (rc_lenL hC)) ea_nil)) rc_min2) (by rw [hlen]; split <;> congr 1; omega)) ea_nil) (by omega)
      (fun i σ' H' => ∃ x3, σ' = [some (.ref a), some (.int wh), some (.ref c), x3, none, none] ∧ Ex H2 H') (fun H3 e3 => ⟨none, rfl, e3⟩) (fun i σ' H' hi hP => ?_) (fun σ' H' hP => ?_)
    · obtain ⟨x3, rfl, ex⟩ := hP
      obtain ⟨n, hn, hat⟩ := at_cells (cs := cs) (i := (i : Int)) (by omega) (by omega)
      have hCx := ex_l ex hC
      have hSx := ex_l (e12.trans ex) hS
      refine s_when (b := false) (et_not (a := true) (et_B ?_)) (fun z => nomatch z) fun _ H3 e3 => ⟨_, rfl, ex.trans e3⟩
      refine ev_callS2 (P := fun v H' => ∃ (p : Addr) (x y : Int), v = .ref p ∧ Big x ∧ Big y ∧ H' p = some (.tup [.int x, .int y])) (es_call (ea_cons (ev_var rfl) (ea_cons (ev_var rfl) ea_nil)) fun H3 e3 Q' q' E' => ?_)
        (ev_call (ea_cons (ev_op (ev_var rfl) (ev_var rfl) (rv_ixL hCx hat)) (ea_cons (ev_op (ev_var rfl) ev_c rv_I0) (ea_cons (ev_var rfl) ea_nil))) (spv_number (hcW n hn) (by omega) (by omega))) fun v H1' H2' _ hv e5 => ?_
      · exact ⟨a, ns, (i : Int), rfl, ex_l e3 hSx, hl, hW, by omega, by omega, fun x y bx by' p H5 hp e5 h5 => q' _ H5 e5 ⟨p, x, y, rfl, bx.big, by'.big, h5⟩⟩
      · obtain ⟨p, x, y, rfl, bx, by', hp⟩ := hv
        exact spv_right (st_of (e5 p _ hp)) bx by'
    · obtain ⟨x3, rfl, ex⟩ := hP
      -- all small pairs
      have z0 := Int.emod_nonneg wh (show (9 : Int) ≠ 0 by decide)
      have z1 := Int.emod_lt_of_pos wh (show (0 : Int) < 9 by decide)
      refine q_asgS (P := fun v H' => ∃ (d : Addr) (kvs : List (List Key × V)), v = .ref d ∧ H' d = some (.dT kvs) ∧ Good kvs ∧ kvs.length ≤ 2000) (es_call (ea_cons (ev_op ev_c (ev_op (ev_var rfl) ev_c (rv_I (by decide))) rv_I0) ea_nil) fun H3 e3 Q' q' E' =>
        ⟨6 + wh % 9, rfl, by omega, by omega, fun d kvs H4 hd0 e4 hD hG hk => q' _ H4 e4 ⟨d, kvs, rfl, hD, hG, hk⟩⟩) fun v H4 e4 hv => ?_
      obtain ⟨d, kvs, rfl, hD, hG, hk⟩ := hv
      refine q_when (b := false) (et_not (a := true) (et_B ?_)) (fun z => nomatch z) fun _ H5 e5 => ?_
      · refine ev_is (ev_allL (bs := List.replicate kvs.length true) ?_) (by rw [all_true])
        rw [← given_true]
        refine el_compK (fun _ => .bl true) hD (by omega) (fun HL => ev_var rfl) (fun x => rfl) fun i k y b HL od hF hk' hb => ?_
        obtain ⟨m1, m2, rfl, a1, a2, b1, b2, hv⟩ := hG k (List.mem_map.mpr ⟨(k, y), List.mem_of_getElem? hk', rfl⟩)
        have bA : Big m1 := Big.small (by omega) (by omega)
        have bB : Big m2 := Big.small (by omega) (by omega)
        rw [kv_pair] at hb
        exact ev_is (ev_op (ev_call (ea_cons (ev_var rfl) ea_nil) (spv_worth (st_of hb) bA bB)) (ev_dgetF (k := kP m1 m2) (ev_var rfl) (ev_var rfl) hF hb hv) (rv_eq rfl)) (by simp)
      -- by hand
      have B2 : Big 2 := Big.small (by decide) (by decide)
      have B4 : Big 4 := Big.small (by decide) (by decide)
      have B5 : Big 5 := Big.small (by decide) (by decide)
      have B7 : Big 7 := Big.small (by decide) (by decide)
      have B1 : Big 1 := Big.small (by decide) (by decide)
      have BX : Big ((10 : Int) ^ (40 : Int).toNat) := Big.s200 (by decide +kernel) (by decide +kernel)
      refine q_when (b := false) (et_or_ff (et_is (et_test (ev_op (ev_callU (eu_tup (ea_cons ev_c (ea_cons ev_c ea_nil)) (by show 2 ≤ 100000; decide)) fun p H6 hp _ => spv_most (st_of hp) B4 B4) ev_c (rv_ne rfl))) (by decide +kernel))
        (et_test (ev_opUU (ys := [.int 2, .int 1]) (eu_callU2 (eu_tup (ea_cons ev_c (ea_cons ev_c ea_nil)) (by show 2 ≤ 100000; decide)) ev_c fun p H6 hp _ => spu_taken (st_of hp) B2 B7 (by decide) (by decide +kernel)) (eu_tup (ea_cons ev_c (ea_cons ev_c ea_nil)) (by show 2 ≤ 100000; decide)) fun p p' H6 hp hp' _ => ?_))) (fun z => nomatch z) fun _ H6 e6 => ?_
      · have g1 : behA 2 7 3 = 2 := by decide +kernel
        have g2 : behB 2 7 3 = 1 := by decide +kernel
        rw [g1, g2] at hp
        exact rv_nePair (st_of hp) (st_of hp')
      refine s_ret (v := .bl true) (ev_andV (a := true) (b := true) (ev_is (ev_op (ev_callU (eu_tup (ea_cons ev_c (ea_cons ev_c ea_nil)) (by show 2 ≤ 100000; decide)) fun p H6 hp _ => spv_worth (st_of hp) B5 B2) ev_c (rv_eq rfl)) (by decide +kernel))
        fun _ => ev_is (ev_op (ev_callU (eu_tup (ea_cons (ev_op ev_c ev_c (rv_I (cp_small (by decide) (by decide) (by decide) (by decide)))) (ea_cons ev_c ea_nil)) (by show 2 ≤ 100000; decide)) fun p H6 hp _ => spv_worth (st_of hp) BX B1) (ev_op (ev_op ev_c ev_c (rv_I (cp_small (by decide) (by decide) (by decide) (by decide)))) ev_c rv_I0) (rv_eq rfl)) (by decide +kernel)) fun H7 _ => q H7
end
theorem all_mk {l : PySem.W.OpenLaw} {w : World} {K : PySem.W.Frag} {h : Heap} {mg : Str → Option Value} {fa f0 f1 f2 f3 f4 f5 f6 f7 f8 f9 f10 f11 f12 f13 f14 f15 f16 f17 : Addr} (X : K.In h) (G : h.Ns mainGlobals mg) (hfa : mg "law" = some (.ref fa))
    {od0 an0 od1 an1 od2 an2 od3 an3 od4 an4 od5 an5 od6 an6 od7 an7 od8 an8 od9 an9 od10 an10 od11 an11 od12 an12 od13 an13 od14 an14 od15 an15 od16 an16 od17 an17 : Option Addr} {sl0 sl1 sl2 sl3 sl4 sl5 sl6 sl7 sl8 sl9 sl10 sl11 sl12 sl13 sl14 sl15 sl16 sl17 : Array (Option Value)} {oc0 kV0 dc0 pm0 cd0 ct0 oc1 kV1 dc1 pm1 cd1 ct1 oc2 kV2 dc2 pm2 cd2 ct2 oc3 kV3 dc3 pm3 cd3 ct3 oc4 kV4 dc4 pm4 cd4 ct4 oc5 kV5 dc5 pm5 cd5 ct5 oc6 kV6 dc6 pm6 cd6 ct6 oc7 kV7 dc7 pm7 cd7 ct7 oc8 kV8 dc8 pm8 cd8 ct8 oc9 kV9 dc9 pm9 cd9 ct9 oc10 kV10 dc10 pm10 cd10 ct10 oc11 kV11 dc11 pm11 cd11 ct11 oc12 kV12 dc12 pm12 cd12 ct12 oc13 kV13 dc13 pm13 cd13 ct13 oc14 kV14 dc14 pm14 cd14 ct14 oc15 kV15 dc15 pm15 cd15 ct15 oc16 kV16 dc16 pm16 cd16 ct16 oc17 kV17 dc17 pm17 cd17 ct17 : Value}
    (a0 : PySem.W.nsIn K mainGlobals "is_whole" = some (some (.ref f0)))
    (l0 : K.lookup f0 = some ⟨oc0, od0, .func (PySem.W.fnOf "is_whole" "is_whole" (defArgs s_is_whole) (defBody s_is_whole) (defScope s_is_whole) .none kV0 dc0 pm0 an0 cd0 ct0), sl0⟩)
    (c0 : PySem.W.codeIn K cd0 "is_whole" = true)
    (k0 : PySem.W.keepIn K (.ref f0) = true)
    (a1 : PySem.W.nsIn K mainGlobals "is_above_zero" = some (some (.ref f1)))
    (l1 : K.lookup f1 = some ⟨oc1, od1, .func (PySem.W.fnOf "is_above_zero" "is_above_zero" (defArgs s_is_above_zero) (defBody s_is_above_zero) (defScope s_is_above_zero) .none kV1 dc1 pm1 an1 cd1 ct1), sl1⟩)
    (c1 : PySem.W.codeIn K cd1 "is_above_zero" = true)
    (k1 : PySem.W.keepIn K (.ref f1) = true)
    (a2 : PySem.W.nsIn K mainGlobals "is_pair" = some (some (.ref f2)))
    (l2 : K.lookup f2 = some ⟨oc2, od2, .func (PySem.W.fnOf "is_pair" "is_pair" (defArgs s_is_pair) (defBody s_is_pair) (defScope s_is_pair) .none kV2 dc2 pm2 an2 cd2 ct2), sl2⟩)
    (c2 : PySem.W.codeIn K cd2 "is_pair" = true)
    (k2 : PySem.W.keepIn K (.ref f2) = true)
    (a3 : PySem.W.nsIn K mainGlobals "lesser_and_greater" = some (some (.ref f3)))
    (l3 : K.lookup f3 = some ⟨oc3, od3, .func (PySem.W.fnOf "lesser_and_greater" "lesser_and_greater" (defArgs s_lesser_and_greater) (defBody s_lesser_and_greater) (defScope s_lesser_and_greater) .none kV3 dc3 pm3 an3 cd3 ct3), sl3⟩)
    (c3 : PySem.W.codeIn K cd3 "lesser_and_greater" = true)
    (k3 : PySem.W.keepIn K (.ref f3) = true)
    (a4 : PySem.W.nsIn K mainGlobals "most" = some (some (.ref f4)))
    (l4 : K.lookup f4 = some ⟨oc4, od4, .func (PySem.W.fnOf "most" "most" (defArgs s_most) (defBody s_most) (defScope s_most) .none kV4 dc4 pm4 an4 cd4 ct4), sl4⟩)
    (c4 : PySem.W.codeIn K cd4 "most" = true)
    (k4 : PySem.W.keepIn K (.ref f4) = true)
    (a5 : PySem.W.nsIn K mainGlobals "is_taking" = some (some (.ref f5)))
    (l5 : K.lookup f5 = some ⟨oc5, od5, .func (PySem.W.fnOf "is_taking" "is_taking" (defArgs s_is_taking) (defBody s_is_taking) (defScope s_is_taking) .none kV5 dc5 pm5 an5 cd5 ct5), sl5⟩)
    (c5 : PySem.W.codeIn K cd5 "is_taking" = true)
    (k5 : PySem.W.keepIn K (.ref f5) = true)
    (a6 : PySem.W.nsIn K mainGlobals "taken" = some (some (.ref f6)))
    (l6 : K.lookup f6 = some ⟨oc6, od6, .func (PySem.W.fnOf "taken" "taken" (defArgs s_taken) (defBody s_taken) (defScope s_taken) .none kV6 dc6 pm6 an6 cd6 ct6), sl6⟩)
    (c6 : PySem.W.codeIn K cd6 "taken" = true)
    (k6 : PySem.W.keepIn K (.ref f6) = true)
    (a7 : PySem.W.nsIn K mainGlobals "worth" = some (some (.ref f7)))
    (l7 : K.lookup f7 = some ⟨oc7, od7, .func (PySem.W.fnOf "worth" "worth" (defArgs s_worth) (defBody s_worth) (defScope s_worth) .none kV7 dc7 pm7 an7 cd7 ct7), sl7⟩)
    (c7 : PySem.W.codeIn K cd7 "worth" = true)
    (k7 : PySem.W.keepIn K (.ref f7) = true)
    (a8 : PySem.W.nsIn K mainGlobals "_law_number" = some (some (.ref f8)))
    (l8 : K.lookup f8 = some ⟨oc8, od8, .func (PySem.W.fnOf "_law_number" "_law_number" (defArgs s_l_number) (defBody s_l_number) (defScope s_l_number) .none kV8 dc8 pm8 an8 cd8 ct8), sl8⟩)
    (c8 : PySem.W.codeIn K cd8 "_law_number" = true)
    (k8 : PySem.W.keepIn K (.ref f8) = true)
    (a9 : PySem.W.nsIn K mainGlobals "_law_pair" = some (some (.ref f9)))
    (l9 : K.lookup f9 = some ⟨oc9, od9, .func (PySem.W.fnOf "_law_pair" "_law_pair" (defArgs s_l_pair) (defBody s_l_pair) (defScope s_l_pair) .none kV9 dc9 pm9 an9 cd9 ct9), sl9⟩)
    (c9 : PySem.W.codeIn K cd9 "_law_pair" = true)
    (k9 : PySem.W.keepIn K (.ref f9) = true)
    (a10 : PySem.W.nsIn K mainGlobals "_law_most" = some (some (.ref f10)))
    (l10 : K.lookup f10 = some ⟨oc10, od10, .func (PySem.W.fnOf "_law_most" "_law_most" (defArgs s_l_most) (defBody s_l_most) (defScope s_l_most) .none kV10 dc10 pm10 an10 cd10 ct10), sl10⟩)
    (c10 : PySem.W.codeIn K cd10 "_law_most" = true)
    (k10 : PySem.W.keepIn K (.ref f10) = true)
    (a11 : PySem.W.nsIn K mainGlobals "_law_behind" = some (some (.ref f11)))
    (l11 : K.lookup f11 = some ⟨oc11, od11, .func (PySem.W.fnOf "_law_behind" "_law_behind" (defArgs s_l_behind) (defBody s_l_behind) (defScope s_l_behind) .none kV11 dc11 pm11 an11 cd11 ct11), sl11⟩)
    (c11 : PySem.W.codeIn K cd11 "_law_behind" = true)
    (k11 : PySem.W.keepIn K (.ref f11) = true)
    (a12 : PySem.W.nsIn K mainGlobals "_law_worth" = some (some (.ref f12)))
    (l12 : K.lookup f12 = some ⟨oc12, od12, .func (PySem.W.fnOf "_law_worth" "_law_worth" (defArgs s_l_worth) (defBody s_l_worth) (defScope s_l_worth) .none kV12 dc12 pm12 an12 cd12 ct12), sl12⟩)
    (c12 : PySem.W.codeIn K cd12 "_law_worth" = true)
    (k12 : PySem.W.keepIn K (.ref f12) = true)
    (a13 : PySem.W.nsIn K mainGlobals "_law_whole" = some (some (.ref f13)))
    (l13 : K.lookup f13 = some ⟨oc13, od13, .func (PySem.W.fnOf "_law_whole" "_law_whole" (defArgs s_l_whole) (defBody s_l_whole) (defScope s_l_whole) .none kV13 dc13 pm13 an13 cd13 ct13), sl13⟩)
    (c13 : PySem.W.codeIn K cd13 "_law_whole" = true)
    (k13 : PySem.W.keepIn K (.ref f13) = true)
    (a14 : PySem.W.nsIn K mainGlobals "_law_is_pair" = some (some (.ref f14)))
    (l14 : K.lookup f14 = some ⟨oc14, od14, .func (PySem.W.fnOf "_law_is_pair" "_law_is_pair" (defArgs s_l_is_pair) (defBody s_l_is_pair) (defScope s_l_is_pair) .none kV14 dc14 pm14 an14 cd14 ct14), sl14⟩)
    (c14 : PySem.W.codeIn K cd14 "_law_is_pair" = true)
    (k14 : PySem.W.keepIn K (.ref f14) = true)
    (a15 : PySem.W.nsIn K mainGlobals "_law_right" = some (some (.ref f15)))
    (l15 : K.lookup f15 = some ⟨oc15, od15, .func (PySem.W.fnOf "_law_right" "_law_right" (defArgs s_l_right) (defBody s_l_right) (defScope s_l_right) .none kV15 dc15 pm15 an15 cd15 ct15), sl15⟩)
    (c15 : PySem.W.codeIn K cd15 "_law_right" = true)
    (k15 : PySem.W.keepIn K (.ref f15) = true)
    (a16 : PySem.W.nsIn K mainGlobals "_law_tried" = some (some (.ref f16)))
    (l16 : K.lookup f16 = some ⟨oc16, od16, .func (PySem.W.fnOf "_law_tried" "_law_tried" (defArgs s_l_tried) (defBody s_l_tried) (defScope s_l_tried) .none kV16 dc16 pm16 an16 cd16 ct16), sl16⟩)
    (c16 : PySem.W.codeIn K cd16 "_law_tried" = true)
    (k16 : PySem.W.keepIn K (.ref f16) = true)
    (a17 : PySem.W.nsIn K mainGlobals "law" = some (some (.ref f17)))
    (l17 : K.lookup f17 = some ⟨oc17, od17, .func (PySem.W.fnOf "law" "law" (defArgs s_law) (defBody s_law) (defScope s_law) .none kV17 dc17 pm17 an17 cd17 ct17), sl17⟩)
    (c17 : PySem.W.codeIn K cd17 "law" = true)
    (k17 : PySem.W.keepIn K (.ref f17) = true)
    (z_all : PySem.W.nsIn K mainGlobals "all" = some none)
    (z_bool : PySem.W.nsIn K mainGlobals "bool" = some none)
    (z_divmod : PySem.W.nsIn K mainGlobals "divmod" = some none)
    (z_int : PySem.W.nsIn K mainGlobals "int" = some none)
    (z_isinstance : PySem.W.nsIn K mainGlobals "isinstance" = some none)
    (z_len : PySem.W.nsIn K mainGlobals "len" = some none)
    (z_max : PySem.W.nsIn K mainGlobals "max" = some none)
    (z_min : PySem.W.nsIn K mainGlobals "min" = some none)
    (z_range : PySem.W.nsIn K mainGlobals "range" = some none)
    (z_sum : PySem.W.nsIn K mainGlobals "sum" = some none)
    (z_tuple : PySem.W.nsIn K mainGlobals "tuple" = some none) :
    ∃ fd : FuncData, (∀ (s : Shared) (v : Value), BindsTo s fd ⟨[v], []⟩ [("_law_script", v)]) ∧ ∀ base : Heap, K.In base → base.Ns mainGlobals mg → FnOk l.prog w K mg base CX0 9 fa fd ["_law_script"] (sp_law K) := by
  have e := hfa.symm.trans (PySem.W.mg_of X G a17)
  cases e
  have F0 := fun_mk (st := s_is_whole) l0 c0 k0
  have b0 := F0.binds (ps := ["value"]) fun _ _ _ _ _ _ us hl => match us, hl with | [_], _ => rfl
  have F1 := fun_mk (st := s_is_above_zero) l1 c1 k1
  have b1 := F1.binds (ps := ["value"]) fun _ _ _ _ _ _ us hl => match us, hl with | [_], _ => rfl
  have F2 := fun_mk (st := s_is_pair) l2 c2 k2
  have b2 := F2.binds (ps := ["value"]) fun _ _ _ _ _ _ us hl => match us, hl with | [_], _ => rfl
  have F3 := fun_mk (st := s_lesser_and_greater) l3 c3 k3
  have b3 := F3.binds (ps := ["pair"]) fun _ _ _ _ _ _ us hl => match us, hl with | [_], _ => rfl
  have F4 := fun_mk (st := s_most) l4 c4 k4
  have b4 := F4.binds (ps := ["pair"]) fun _ _ _ _ _ _ us hl => match us, hl with | [_], _ => rfl
  have F5 := fun_mk (st := s_is_taking) l5 c5 k5
  have b5 := F5.binds (ps := ["pair", "times"]) fun _ _ _ _ _ _ us hl => match us, hl with | [_, _], _ => rfl
  have F6 := fun_mk (st := s_taken) l6 c6 k6
  have b6 := F6.binds (ps := ["pair", "times"]) fun _ _ _ _ _ _ us hl => match us, hl with | [_, _], _ => rfl
  have F7 := fun_mk (st := s_worth) l7 c7 k7
  have b7 := F7.binds (ps := ["pair"]) fun _ _ _ _ _ _ us hl => match us, hl with | [_], _ => rfl
  have F8 := fun_mk (st := s_l_number) l8 c8 k8
  have b8 := F8.binds (ps := ["_law_cell", "_law_at", "_law_whole_here"]) fun _ _ _ _ _ _ us hl => match us, hl with | [_, _, _], _ => rfl
  have F9 := fun_mk (st := s_l_pair) l9 c9 k9
  have b9 := F9.binds (ps := ["_law_script", "_law_at"]) fun _ _ _ _ _ _ us hl => match us, hl with | [_, _], _ => rfl
  have F10 := fun_mk (st := s_l_most) l10 c10 k10
  have b10 := F10.binds (ps := ["_law_pair_here"]) fun _ _ _ _ _ _ us hl => match us, hl with | [_], _ => rfl
  have F11 := fun_mk (st := s_l_behind) l11 c11 k11
  have b11 := F11.binds (ps := ["_law_pair_here", "_law_times"]) fun _ _ _ _ _ _ us hl => match us, hl with | [_, _], _ => rfl
  have F12 := fun_mk (st := s_l_worth) l12 c12 k12
  have b12 := F12.binds (ps := ["_law_pair_here"]) fun _ _ _ _ _ _ us hl => match us, hl with | [_], _ => rfl
  have F13 := fun_mk (st := s_l_whole) l13 c13 k13
  have b13 := F13.binds (ps := ["_law_number_here"]) fun _ _ _ _ _ _ us hl => match us, hl with | [_], _ => rfl
  have F14 := fun_mk (st := s_l_is_pair) l14 c14 k14
  have b14 := F14.binds (ps := ["_law_found"]) fun _ _ _ _ _ _ us hl => match us, hl with | [_], _ => rfl
  have F15 := fun_mk (st := s_l_right) l15 c15 k15
  have b15 := F15.binds (ps := ["_law_pair_here", "_law_number_here"]) fun _ _ _ _ _ _ us hl => match us, hl with | [_, _], _ => rfl
  have F16 := fun_mk (st := s_l_tried) l16 c16 k16
  have b16 := F16.binds (ps := ["_law_size"]) fun _ _ _ _ _ _ us hl => match us, hl with | [_], _ => rfl
  have F17 := fun_mk (st := s_law) l17 c17 k17
  have b17 := F17.binds (ps := ["_law_script"]) fun _ _ _ _ _ _ us hl => match us, hl with | [_], _ => rfl
  have T : Txt K mg := ⟨⟨_, _, F0, b0, PySem.W.mg_of X G a0⟩, ⟨_, _, F1, b1, PySem.W.mg_of X G a1⟩, ⟨_, _, F2, b2, PySem.W.mg_of X G a2⟩, ⟨_, _, F3, b3, PySem.W.mg_of X G a3⟩, ⟨_, _, F4, b4, PySem.W.mg_of X G a4⟩, ⟨_, _, F5, b5, PySem.W.mg_of X G a5⟩, ⟨_, _, F6, b6, PySem.W.mg_of X G a6⟩, ⟨_, _, F7, b7, PySem.W.mg_of X G a7⟩, ⟨_, _, F8, b8, PySem.W.mg_of X G a8⟩, ⟨_, _, F9, b9, PySem.W.mg_of X G a9⟩, ⟨_, _, F10, b10, PySem.W.mg_of X G a10⟩, ⟨_, _, F11, b11, PySem.W.mg_of X G a11⟩, ⟨_, _, F12, b12, PySem.W.mg_of X G a12⟩, ⟨_, _, F13, b13, PySem.W.mg_of X G a13⟩, ⟨_, _, F14, b14, PySem.W.mg_of X G a14⟩, ⟨_, _, F15, b15, PySem.W.mg_of X G a15⟩, ⟨_, _, F16, b16, PySem.W.mg_of X G a16⟩, PySem.W.mg_none_of X G z_all, PySem.W.mg_none_of X G z_bool, PySem.W.mg_none_of X G z_divmod, PySem.W.mg_none_of X G z_int, PySem.W.mg_none_of X G z_isinstance, PySem.W.mg_none_of X G z_len, PySem.W.mg_none_of X G z_max, PySem.W.mg_none_of X G z_min, PySem.W.mg_none_of X G z_range, PySem.W.mg_none_of X G z_sum, PySem.W.mg_none_of X G z_tuple⟩
  exact ⟨PySem.W.fnOf "law" "law" (defArgs s_law) (defBody s_law) (defScope s_law) .none kV17 dc17 pm17 an17 cd17 ct17, fun s v => .of_eq rfl, fun base _ _ => ok_law F17 T⟩
end Mt
open PySem PySem.W PyProof.Rows
set_option maxRecDepth 100000 in
set_option maxHeartbeats 0 in
theorem PySem.Challenge.cw_manytimes_k01_whole_worths_holds : PySem.Challenge.rw_manytimes_k01_whole_worths.Holds := by
  w_on; o_law; k_head; (case hw => w_witness2)
  k_fill
  refine L2.walk_ofB (l := PySem.Challenge.rw_manytimes_k01_whole_worths) (n := 63) (k := 9) (x := "_law_script") (CX := fun _ => L2.CX0) (sp := fun w => Mt.sp_law _) rfl (by decide) rfl ⟨rfl, by decide, by decide⟩ (fun w h Y => PySem.W.kIn_of Y) ?F (fun _ _ a ns hl hb _ hS => ⟨a, ns, rfl, hS, hl, fun n hn => Mt.W.of_bits (hb n hn), fun _ => rfl⟩) (fun _ _ _ _ _ h => h)
  case F =>
    intro w mg fa h KX G hmg
    refine' Mt.all_mk KX G hmg ?a0 ?l0 ?c0 ?k0 ?a1 ?l1 ?c1 ?k1 ?a2 ?l2 ?c2 ?k2 ?a3 ?l3 ?c3 ?k3 ?a4 ?l4 ?c4 ?k4 ?a5 ?l5 ?c5 ?k5 ?a6 ?l6 ?c6 ?k6 ?a7 ?l7 ?c7 ?k7 ?a8 ?l8 ?c8 ?k8 ?a9 ?l9 ?c9 ?k9 ?a10 ?l10 ?c10 ?k10 ?a11 ?l11 ?c11 ?k11 ?a12 ?l12 ?c12 ?k12 ?a13 ?l13 ?c13 ?k13 ?a14 ?l14 ?c14 ?k14 ?a15 ?l15 ?c15 ?k15 ?a16 ?l16 ?c16 ?k16 ?a17 ?l17 ?c17 ?k17 ?z_all ?z_bool ?z_divmod ?z_int ?z_isinstance ?z_len ?z_max ?z_min ?z_range ?z_sum ?z_tuple
    (case a0 => k_is); (case l0 => k_is); (case c0 => k_is); (case k0 => k_is); (case a1 => k_is); (case l1 => k_is); (case c1 => k_is); (case k1 => k_is); (case a2 => k_is); (case l2 => k_is); (case c2 => k_is); (case k2 => k_is); (case a3 => k_is); (case l3 => k_is); (case c3 => k_is); (case k3 => k_is); (case a4 => k_is); (case l4 => k_is); (case c4 => k_is); (case k4 => k_is); (case a5 => k_is); (case l5 => k_is); (case c5 => k_is); (case k5 => k_is); (case a6 => k_is); (case l6 => k_is); (case c6 => k_is); (case k6 => k_is); (case a7 => k_is); (case l7 => k_is); (case c7 => k_is); (case k7 => k_is); (case a8 => k_is); (case l8 => k_is); (case c8 => k_is); (case k8 => k_is); (case a9 => k_is); (case l9 => k_is); (case c9 => k_is); (case k9 => k_is); (case a10 => k_is); (case l10 => k_is); (case c10 => k_is); (case k10 => k_is); (case a11 => k_is); (case l11 => k_is); (case c11 => k_is); (case k11 => k_is); (case a12 => k_is); (case l12 => k_is); (case c12 => k_is); (case k12 => k_is); (case a13 => k_is); (case l13 => k_is); (case c13 => k_is); (case k13 => k_is); (case a14 => k_is); (case l14 => k_is); (case c14 => k_is); (case k14 => k_is); (case a15 => k_is); (case l15 => k_is); (case c15 => k_is); (case k15 => k_is); (case a16 => k_is); (case l16 => k_is); (case c16 => k_is); (case k16 => k_is); (case a17 => k_is); (case l17 => k_is); (case c17 => k_is); (case k17 => k_is); (case z_all => k_is); (case z_bool => k_is); (case z_divmod => k_is); (case z_int => k_is); (case z_isinstance => k_is); (case z_len => k_is); (case z_max => k_is); (case z_min => k_is); (case z_range => k_is); (case z_sum => k_is); (case z_tuple => k_is)
