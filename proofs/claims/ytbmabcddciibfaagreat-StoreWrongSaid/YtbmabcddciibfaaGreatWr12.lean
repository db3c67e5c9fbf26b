/- Part 12 of the contracts and of the plain mathematics that the proof of the law rests on: StoMath. -/
import Derived.Test.YtbmabcddciibfaaGreatWr07
import Derived.Test.YtbmabcddciibfaaGreatWr09
import Derived.Test.YtbmabcddciibfaaGreatWr11
namespace Go.Proofs.YtbmabcddciibfaaGreat
namespace So
set_option linter.unusedVariables false
structure Pa where
  a : Nat
  n : Nat
  g : Nat
  st : Nat
  ln : Nat
  N : Nat
  gen : Nat
structure Pa.Ok (p : Pa) : Prop where
  sup : Um.okU (p.a : Int) (p.n : Int) (p.g : Int) = true
  room : Em.room p.g p.ln = p.N
  pos : 0 < p.N
  low : 17 + p.n ≤ p.st
  high : p.st + p.ln ≤ p.a
  gen1 : 1 ≤ p.gen
  gen2 : p.gen < 4294967296
def Pa.pg (p : Pa) : Nat := Tb.pagesN p.N
def Pa.page (p : Pa) (i : Nat) : Nat := p.st + 1 + i
def Pa.data (p : Pa) (i : Nat) : Nat := p.st + 1 + p.pg + i * p.g
theorem parts_pages (n : Nat) : Em.parts n 13 = Tb.pagesN n := by
  unfold Em.parts Tb.pagesN
  split <;> omega
structure Pa.Nums (p : Pa) : Prop where
  g1 : 1 ≤ p.g
  g2 : p.g ≤ 128
  n1 : 1 ≤ p.n
  a1 : p.a ≤ 1048576
  N1 : p.N ≤ 1048576
  size : 1 + p.pg + p.N * p.g ≤ p.ln
theorem Pa.Ok.nums {p : Pa} (h : p.Ok) : p.Nums := by
  obtain ⟨h1, h2, h3, h4, h5, h6⟩ := Um.okU_small h.sup
  have hr := (Em.room_fits (c := p.g) (s := p.ln) (by omega)).1 (by rw [h.room]; exact h.pos)
  rw [h.room] at hr
  unfold Em.size at hr
  rw [parts_pages] at hr
  have hm : p.N ≤ p.N * p.g := Nat.le_mul_of_pos_right _ (by omega)
  have := h.high
  exact ⟨by omega, by omega, by omega, by omega, by omega, hr⟩
theorem Pa.Ok.head {p : Pa} (h : p.Ok) : Hm.okH p.gen (p.g : Int) (p.N : Int) = true := by
  have hn := h.nums
  have := h.pos
  have := h.gen1
  rw [Hm.okH_iff]
  obtain ⟨h1, h2, h3, h4, h5, h6⟩ := hn
  omega
theorem cut_same {g i j i' j' : Nat} (hj : j < g) (hj' : j' < g) (h : i * g + j = i' * g + j') : i = i' ∧ j = j' := by
  have key : ∀ a b c d : Nat, c < g → d < g → a < b → a * g + c < b * g + d := fun a b c d hc _ hab => by
    have : (a + 1) * g ≤ b * g := Nat.mul_le_mul_right _ hab
    rw [Nat.add_mul] at this
    omega
  rcases Nat.lt_trichotomy i i' with hlt | he | hlt
  · have := key i i' j j' hj hj' hlt; omega
  · subst he; exact ⟨rfl, by omega⟩
  · have := key i' i j' j hj' hj hlt; omega
theorem Pa.data_same (p : Pa) {i j i' j' : Nat} (hj : j < p.g) (hj' : j' < p.g) (h : p.data i + j = p.data i' + j') : i = i' ∧ j = j' :=
  cut_same hj hj' (by unfold Pa.data at h; omega)
theorem Pa.data_lt {p : Pa} (h : p.Ok) {i j : Nat} (hi : i < p.N) (hj : j < p.g) : p.data i + j < p.st + p.ln := by
  have hs := h.nums.size
  have : (i + 1) * p.g ≤ p.N * p.g := Nat.mul_le_mul_right _ hi
  rw [Nat.add_mul] at this
  unfold Pa.data
  omega
theorem Pa.data_end {p : Pa} (h : p.Ok) {i : Nat} (hi : i < p.N) : p.data i + p.g ≤ p.st + p.ln := by
  have hs := h.nums.size
  have : (i + 1) * p.g ≤ p.N * p.g := Nat.mul_le_mul_right _ hi
  rw [Nat.add_mul] at this
  unfold Pa.data
  omega
theorem Pa.page_lt (p : Pa) {i : Nat} (hi : i < p.pg) (k : Nat) : p.page i < p.data k := by unfold Pa.page Pa.data; omega
theorem Pa.head_lt (p : Pa) (i k : Nat) : p.st < p.page i ∧ p.st < p.data k := by unfold Pa.page Pa.data; omega
theorem Pa.page_in {p : Pa} (h : p.Ok) {i : Nat} (hi : i < p.pg) : p.page i < p.st + p.ln := by
  have hs := h.nums.size
  unfold Pa.page
  omega
structure Ms where
  T : List Int
  D : List (List UInt8)
  inv : Bool
def Ms.tab (M : Ms) : List Int := if M.inv = true then [] else M.T
def piece (d : List UInt8) (j : Nat) : List UInt8 := (d.drop (64 * j)).take 64
structure Fit (p : Pa) (M : Ms) : Prop where
  tok : Tb.Ok M.T
  tlen : M.T.length = p.N
  dlen : M.D.length = p.N
  off : M.inv = true → ∀ x ∈ M.T, x = -1
  size : ∀ (i : Nat) (k : Int), M.T[i]? = some k → 0 ≤ k → (M.D.getD i []).length = 64 * p.g
structure Stand (p : Pa) (f : Nat → List UInt8) (M : Ms) : Prop where
  head : f p.st = Hm.sector p.gen (p.g : Int) (p.N : Int) M.inv
  page : M.inv = false → ∀ i, i < p.pg → f (p.page i) = Pm.sector p.gen (Tb.page M.T i)
  data : ∀ (i : Nat) (k : Int), M.T[i]? = some k → 0 ≤ k → ∀ j, j < p.g → f (p.data i + j) = piece (M.D.getD i []) j
structure Live (p : Pa) (st : Dm.St) (M : Ms) : Prop where
  ok : Dm.Ok st
  len : st.S.length = p.a
  awake : Awake st
  fit : Fit p M
  stand : Stand p (Dm.one st) M
  pend : ∀ y ∈ st.P, p.data 0 ≤ y.1
theorem Fit.lt {p : Pa} {M : Ms} (h : Fit p M) {i : Nat} {k : Int} (hi : M.T[i]? = some k) : i < p.N := by
  rw [← h.tlen]
  exact (List.getElem?_eq_some_iff.1 hi).1
theorem page_okL {m : List Int} (h : Tb.Ok m) (i : Nat) : Pm.okL (Tb.page m i) = true := by
  rw [Pm.okL_iff]
  refine ⟨Tb.page_length _ _, fun k hk => ?_⟩
  rw [Pm.okC_iff, List.getD_eq_getElem?_getD, Tb.page_get _ _ _ hk, Option.getD_some]
  cases hx : m[13 * i + k]? with
  | none => simp
  | some x => exact h.vals x (List.mem_of_getElem? hx)
def free (m : List Int) : Nat := m.length - (Tb.used m).length
theorem used_set {m : List Int} {i : Nat} {x k : Int} (hi : m[i]? = some x) (hx : x < 0) (hk : 0 ≤ k) : (Tb.used (m.set i k)).length = (Tb.used m).length + 1 := by
  induction m generalizing i with
  | nil => simp at hi
  | cons y m ih =>
    cases i with
    | zero =>
      simp only [List.getElem?_cons_zero, Option.some.injEq] at hi
      subst hi
      simp [Tb.used, hk, show ¬ (0 ≤ y) by omega]
    | succ i =>
      simp only [List.getElem?_cons_succ] at hi
      have := ih hi
      simp only [Tb.used, List.set_cons_succ, List.filter_cons] at this ⊢
      split <;> simp [this]
def putsM : List Int → List (Int × List UInt8) → List Int
  | m, [] => m
  | m, c :: l => putsM (m.set ((Tb.gap m).getD 0) c.1) l
def putsP : List Int → List (Int × List UInt8) → List Nat
  | _, [] => []
  | m, c :: l => (Tb.gap m).getD 0 :: putsP (m.set ((Tb.gap m).getD 0) c.1) l
theorem putsM_snoc (m : List Int) (l : List (Int × List UInt8)) (c : Int × List UInt8) : putsM m (l ++ [c]) = (putsM m l).set ((Tb.gap (putsM m l)).getD 0) c.1 := by
  induction l generalizing m with
  | nil => rfl
  | cons d l ih => exact ih _
theorem putsP_snoc (m : List Int) (l : List (Int × List UInt8)) (c : Int × List UInt8) : putsP m (l ++ [c]) = putsP m l ++ [(Tb.gap (putsM m l)).getD 0] := by
  induction l generalizing m with
  | nil => rfl
  | cons d l ih =>
    show _ :: putsP _ (l ++ [c]) = (_ :: putsP _ l) ++ _
    rw [ih]
    rfl
theorem putsP_length (m : List Int) (l : List (Int × List UInt8)) : (putsP m l).length = l.length := by
  induction l generalizing m with
  | nil => rfl
  | cons d l ih => show (_ :: putsP _ l).length = _; rw [List.length_cons, ih, List.length_cons]
theorem putsM_length (m : List Int) (l : List (Int × List UInt8)) : (putsM m l).length = m.length := by
  induction l generalizing m with
  | nil => rfl
  | cons d l ih => show (putsM _ l).length = _; rw [ih, List.length_set]
structure Adding (m : List Int) (l : List (Int × List UInt8)) : Prop where
  ok : Tb.Ok m
  each : ∀ c ∈ l, 0 ≤ c.1 ∧ c.1 ≤ 2147483646 ∧ c.1 ∉ m
  once : (l.map (·.1)).Nodup
  room : l.length + (Tb.used m).length ≤ m.length
theorem Adding.gap {m : List Int} {c : Int × List UInt8} {l : List (Int × List UInt8)} (h : Adding m (c :: l)) : ∃ i x, Tb.gap m = some i ∧ m[i]? = some x ∧ x < 0 ∧ Adding (m.set i c.1) l := by
  have hr := h.room
  simp only [List.length_cons] at hr
  cases hg : Tb.gap m with
  | none => have := Tb.gap_none_iff.1 hg; omega
  | some i =>
    obtain ⟨⟨x, hx, h0⟩, _⟩ := Tb.gap_some.1 hg
    obtain ⟨c0, c1, c2⟩ := h.each c List.mem_cons_self
    have hnd := h.once
    rw [List.map_cons, List.nodup_cons] at hnd
    refine ⟨i, x, rfl, hx, h0, h.ok.set i (by omega) c1 (fun _ => c2), fun d hd => ?_, hnd.2, by rw [used_set hx h0 c0, List.length_set]; omega⟩
    obtain ⟨d0, d1, d2⟩ := h.each d (List.mem_cons_of_mem _ hd)
    refine ⟨d0, d1, fun hm => ?_⟩
    rcases List.mem_or_eq_of_mem_set hm with hm | hm
    · exact d2 hm
    · exact hnd.1 (hm ▸ List.mem_map_of_mem hd)
theorem Adding.app {m : List Int} {a b : List (Int × List UInt8)} (h : Adding m (a ++ b)) : Adding (putsM m a) b := by
  induction a generalizing m with
  | nil => exact h
  | cons c a ih =>
    obtain ⟨i, x, hg, _, _, h1⟩ := h.gap
    show Adding (putsM (m.set ((Tb.gap m).getD 0) c.1) a) b
    rw [hg]
    exact ih h1
theorem Adding.put {m : List Int} {c : Int × List UInt8} {l : List (Int × List UInt8)} (h : Adding m (c :: l)) : ∃ i, Tb.gap m = some i ∧ i < m.length ∧ Tb.put m c.1 = (m.set i c.1, (i : Int), 0) := by
  obtain ⟨i, x, hg, _, _, _⟩ := h.gap
  obtain ⟨c0, c1, c2⟩ := h.each c List.mem_cons_self
  exact ⟨i, hg, Tb.gap_lt hg, Tb.put_new ⟨c0, c1⟩ (Tb.find_none.2 fun _ => c2) hg⟩
structure Added (m m' : List Int) (ps : List Nat) (l : List (Int × List UInt8)) : Prop where
  ok : Tb.Ok m'
  len : m'.length = m.length
  plen : ps.length = l.length
  nodup : ps.Nodup
  free : ∀ q ∈ ps, q < m.length ∧ ∃ x, m[q]? = some x ∧ x < 0
  at_ : ∀ (j : Nat) (c : Int × List UInt8), l[j]? = some c → ∃ i, ps[j]? = some i ∧ m'[i]? = some c.1
  off : ∀ i, i ∉ ps → m'[i]? = m[i]?
theorem added {m : List Int} {l : List (Int × List UInt8)} (h : Adding m l) : Added m (putsM m l) (putsP m l) l := by
  induction l generalizing m with
  | nil => exact ⟨h.ok, rfl, rfl, List.nodup_nil, fun q hq => (by cases hq), fun j c hc => (by simp at hc), fun i _ => rfl⟩
  | cons c l ih =>
    obtain ⟨i, x, hg, hx, h0, h1⟩ := h.gap
    have c0 := (h.each c List.mem_cons_self).1
    have A := ih h1
    have eM : putsM m (c :: l) = putsM (m.set i c.1) l := by show putsM (m.set ((Tb.gap m).getD 0) c.1) l = _; rw [hg]; rfl
    have eP : putsP m (c :: l) = i :: putsP (m.set i c.1) l := by show _ :: putsP (m.set ((Tb.gap m).getD 0) c.1) l = _; rw [hg]; rfl
    have hil : i < m.length := (List.getElem?_eq_some_iff.1 hx).1
    have hset : (m.set i c.1)[i]? = some c.1 := by rw [List.getElem?_set, if_pos rfl, if_pos hil]
    have hni : i ∉ putsP (m.set i c.1) l := fun hm => by
      obtain ⟨_, y, hy, hy0⟩ := A.free i hm
      rw [hset] at hy
      injection hy with hy
      omega
    rw [eM, eP]
    refine ⟨A.ok, A.len.trans (List.length_set ..), by rw [List.length_cons, A.plen, List.length_cons], List.nodup_cons.2 ⟨hni, A.nodup⟩, fun q hq => ?_, fun j d hd => ?_, fun q hq => ?_⟩
    · rcases List.mem_cons.1 hq with rfl | hq
      · exact ⟨hil, x, hx, h0⟩
      · obtain ⟨h2, y, hy, hy0⟩ := A.free q hq
        rw [List.length_set] at h2
        refine ⟨h2, y, ?_, hy0⟩
        rw [List.getElem?_set] at hy
        rw [if_neg (fun e => by subst e; exact hni hq)] at hy
        exact hy
    · cases j with
      | zero =>
        simp only [List.getElem?_cons_zero, Option.some.injEq] at hd
        subst hd
        exact ⟨i, rfl, (A.off i hni).trans hset⟩
      | succ j =>
        obtain ⟨q, hq, hm⟩ := A.at_ j d (by simpa using hd)
        exact ⟨q, by simpa using hq, hm⟩
    · rw [A.off q (fun hm => hq (List.mem_cons_of_mem _ hm)), List.getElem?_set, if_neg (fun e => hq (by rw [← e]; exact List.mem_cons_self))]
def chunkOk (m : List Int) (g : Nat) (c : Int × List UInt8) : Bool := decide (0 ≤ c.1 ∧ c.1 ≤ 2147483646) && (Tb.find m c.1).isNone && decide (c.2.length = 64 * g)
def mayAdd (m : List Int) (g : Nat) (l : List (Int × List UInt8)) : Bool := l.all (chunkOk m g) && decide ((l.map (·.1)).Nodup)
def addE (inv : Bool) (m : List Int) (g : Nat) (l : List (Int × List UInt8)) : Int := if inv = true then 162 else if mayAdd m g l = true then (if l.length ≤ free m then 0 else 111) else 1
theorem chunkOk_iff {m : List Int} {g : Nat} {c : Int × List UInt8} : chunkOk m g c = true ↔ (0 ≤ c.1 ∧ c.1 ≤ 2147483646) ∧ Tb.find m c.1 = none ∧ c.2.length = 64 * g := by
  simp [chunkOk, and_assoc]
theorem addE_zero {inv : Bool} {m : List Int} {g : Nat} {l : List (Int × List UInt8)} (hok : Tb.Ok m) (h : addE inv m g l = 0) : inv = false ∧ Adding m l ∧ (∀ c ∈ l, c.2.length = 64 * g) := by
  unfold addE at h
  cases inv with
  | true => simp at h
  | false =>
    rw [if_neg (by decide)] at h
    split at h
    · rename_i hm
      split at h
      · rename_i hl
        unfold mayAdd at hm
        rw [Bool.and_eq_true, List.all_eq_true, decide_eq_true_eq] at hm
        have hu := Tb.used_length_le m
        unfold free at hl
        refine ⟨rfl, ⟨hok, fun c hc => ?_, hm.2, by omega⟩, fun c hc => (chunkOk_iff.1 (hm.1 c hc)).2.2⟩
        obtain ⟨h1, h2, _⟩ := chunkOk_iff.1 (hm.1 c hc)
        exact ⟨h1.1, h1.2, Tb.find_none.1 h2 h1.1⟩
      · simp at h
    · simp at h
def setD : List (List UInt8) → List Nat → List (Int × List UInt8) → List (List UInt8)
  | D, i :: ps, c :: l => setD (D.set i c.2) ps l
  | D, _, _ => D
theorem setD_length (D : List (List UInt8)) (ps : List Nat) (l : List (Int × List UInt8)) : (setD D ps l).length = D.length := by
  induction ps generalizing D l with
  | nil => cases l <;> rfl
  | cons i ps ih =>
    cases l with
    | nil => rfl
    | cons c l => show (setD _ ps l).length = _; rw [ih, List.length_set]
theorem setD_snoc (D : List (List UInt8)) (ps : List Nat) (l : List (Int × List UInt8)) (i : Nat) (c : Int × List UInt8) (h : ps.length = l.length) : setD D (ps ++ [i]) (l ++ [c]) = (setD D ps l).set i c.2 := by
  induction ps generalizing D l with
  | nil =>
    cases l with
    | nil => rfl
    | cons d l => simp at h
  | cons q ps ih =>
    cases l with
    | nil => simp at h
    | cons d l => exact ih _ _ (by simpa using h)
theorem setD_off {D : List (List UInt8)} {ps : List Nat} {l : List (Int × List UInt8)} {i : Nat} (h : i ∉ ps) : (setD D ps l).getD i [] = D.getD i [] := by
  induction ps generalizing D l with
  | nil => cases l <;> rfl
  | cons q ps ih =>
    cases l with
    | nil => rfl
    | cons c l =>
      show (setD (D.set q c.2) ps l).getD i [] = _
      rw [ih (fun hm => h (List.mem_cons_of_mem _ hm))]
      simp only [List.getD_eq_getElem?_getD, List.getElem?_set]
      rw [if_neg (fun e => h (by rw [← e]; exact List.mem_cons_self))]
theorem setD_at {D : List (List UInt8)} {ps : List Nat} {l : List (Int × List UInt8)} (hn : ps.Nodup) {j i : Nat} {c : Int × List UInt8} (hp : ps[j]? = some i) (hl : l[j]? = some c) (hi : i < D.length) : (setD D ps l).getD i [] = c.2 := by
  induction ps generalizing D l j with
  | nil => simp at hp
  | cons q ps ih =>
    rw [List.nodup_cons] at hn
    cases l with
    | nil => simp at hl
    | cons d l =>
      show (setD (D.set q d.2) ps l).getD i [] = _
      cases j with
      | zero =>
        simp only [List.getElem?_cons_zero, Option.some.injEq] at hp hl
        subst hp; subst hl
        rw [setD_off hn.1]
        simp [List.getD_eq_getElem?_getD, hi]
      | succ j => exact ih hn.2 (by simpa using hp) (by simpa using hl) (by simpa using hi)
def dropsM : List Int → List Int → List Int
  | m, [] => m
  | m, k :: l => dropsM (Tb.drop m k).1 l
def dropsP : List Int → List Int → List Nat
  | _, [] => []
  | m, k :: l => (Tb.drop m k).2.1.toNat :: dropsP (Tb.drop m k).1 l
theorem dropsM_snoc (m l : List Int) (k : Int) : dropsM m (l ++ [k]) = (Tb.drop (dropsM m l) k).1 := by
  induction l generalizing m with
  | nil => rfl
  | cons d l ih => exact ih _
theorem dropsP_snoc (m l : List Int) (k : Int) : dropsP m (l ++ [k]) = dropsP m l ++ [(Tb.drop (dropsM m l) k).2.1.toNat] := by
  induction l generalizing m with
  | nil => rfl
  | cons d l ih =>
    show _ :: dropsP _ (l ++ [k]) = (_ :: dropsP _ l) ++ _
    rw [ih]
    rfl
theorem dropsM_length (m l : List Int) : (dropsM m l).length = m.length := by
  induction l generalizing m with
  | nil => rfl
  | cons d l ih => show (dropsM _ l).length = _; rw [ih, Tb.drop_length]
theorem dropsP_length (m l : List Int) : (dropsP m l).length = l.length := by
  induction l generalizing m with
  | nil => rfl
  | cons d l ih => show (_ :: dropsP _ l).length = _; rw [List.length_cons, ih, List.length_cons]
def mayRem (m l : List Int) : Bool := l.all (fun k => (Tb.find m k).isSome) && decide l.Nodup
def remE (inv : Bool) (m l : List Int) : Int := if inv = true then 162 else if mayRem m l = true then 0 else 161
theorem mayRem_nil (m : List Int) : mayRem m [] = true := by simp [mayRem]
theorem find_unset {m : List Int} (hok : Tb.Ok m) {i : Nat} {k x : Int} (hi : m[i]? = some k) (h0 : 0 ≤ k) (hx : x ≠ k) (j : Nat) : Tb.find (m.set i (-1)) x = some j ↔ Tb.find m x = some j := by
  have hok2 : Tb.Ok (m.set i (-1)) := hok.set i (by omega) (by omega) (fun c => by omega)
  have hil := (List.getElem?_eq_some_iff.1 hi).1
  constructor
  · intro h
    obtain ⟨x0, hm, _⟩ := Tb.find_some.1 h
    refine hok.find x0 ?_
    by_cases e : i = j
    · subst e
      rw [List.getElem?_set, if_pos rfl, if_pos hil] at hm
      injection hm with hm
      omega
    · rwa [List.getElem?_set, if_neg e] at hm
  · intro h
    obtain ⟨x0, hm, _⟩ := Tb.find_some.1 h
    refine hok2.find x0 ?_
    rw [List.getElem?_set, if_neg (fun e => hx ?_)]
    · exact hm
    · subst e; rw [hi] at hm; injection hm with hm; exact hm.symm
theorem find_gone {m : List Int} (hok : Tb.Ok m) {i : Nat} {k : Int} (hi : m[i]? = some k) (h0 : 0 ≤ k) : Tb.find (m.set i (-1)) k = none := by
  rw [Tb.find_none]
  intro _ hm
  obtain ⟨j, hj⟩ := List.getElem?_of_mem hm
  have hil := (List.getElem?_eq_some_iff.1 hi).1
  by_cases e : i = j
  · subst e
    rw [List.getElem?_set, if_pos rfl, if_pos hil] at hj
    injection hj with hj
    omega
  · rw [List.getElem?_set, if_neg e] at hj
    exact e (hok.uni i j k hi hj h0)
theorem mayRem_cons {m : List Int} (hok : Tb.Ok m) (k : Int) (l : List Int) : mayRem m (k :: l) = ((Tb.find m k).isSome && mayRem (Tb.drop m k).1 l) := by
  cases hf : Tb.find m k with
  | none => simp [mayRem, hf]
  | some i =>
    obtain ⟨h0, hi, _⟩ := Tb.find_some.1 hf
    rw [Tb.drop_has hf]
    show mayRem m (k :: l) = (true && mayRem (m.set i (-1)) l)
    rw [Bool.true_and]
    have key : (∀ x ∈ l, (Tb.find (m.set i (-1)) x).isSome = true) ↔ (∀ x ∈ l, (Tb.find m x).isSome = true) ∧ k ∉ l := by
      constructor
      · intro h
        refine ⟨fun x hx => ?_, fun hk => ?_⟩
        · obtain ⟨j, hj⟩ := Option.isSome_iff_exists.1 (h x hx)
          have hne : x ≠ k := fun e => by subst e; rw [find_gone hok hi h0] at hj; cases hj
          exact Option.isSome_iff_exists.2 ⟨j, (find_unset hok hi h0 hne j).1 hj⟩
        · have := h k hk
          rw [find_gone hok hi h0] at this
          cases this
      · rintro ⟨h, hk⟩ x hx
        obtain ⟨j, hj⟩ := Option.isSome_iff_exists.1 (h x hx)
        exact Option.isSome_iff_exists.2 ⟨j, (find_unset hok hi h0 (fun e => hk (e ▸ hx)) j).2 hj⟩
    rw [Bool.eq_iff_iff]
    simp only [mayRem, List.all_cons, hf, Option.isSome_some, Bool.true_and, Bool.and_eq_true, List.all_eq_true, decide_eq_true_eq, List.nodup_cons]
    rw [key]
    constructor
    · rintro ⟨h1, h2, h3⟩; exact ⟨⟨h1, h2⟩, h3⟩
    · rintro ⟨⟨h1, h2⟩, h3⟩; exact ⟨h1, h2, h3⟩
structure Dropped (m m' : List Int) (ps : List Nat) (l : List Int) : Prop where
  ok : Tb.Ok m'
  len : m'.length = m.length
  plen : ps.length = l.length
  was : ∀ q ∈ ps, ∃ k ∈ l, 0 ≤ k ∧ m[q]? = some k ∧ m'[q]? = some (-1)
  off : ∀ i, i ∉ ps → m'[i]? = m[i]?
  gone : ∀ k ∈ l, k ∉ m'
theorem dropped {m l : List Int} (hok : Tb.Ok m) (h : mayRem m l = true) : Dropped m (dropsM m l) (dropsP m l) l := by
  induction l generalizing m with
  | nil => exact ⟨hok, rfl, rfl, fun q hq => (by cases hq), fun i _ => rfl, fun k hk => (by cases hk)⟩
  | cons k l ih =>
    rw [mayRem_cons hok, Bool.and_eq_true] at h
    obtain ⟨i, hf⟩ := Option.isSome_iff_exists.1 h.1
    obtain ⟨h0, hi, _⟩ := Tb.find_some.1 hf
    have hil := (List.getElem?_eq_some_iff.1 hi).1
    have A := ih (Tb.drop_ok hok k) h.2
    have eM : dropsM m (k :: l) = dropsM (Tb.drop m k).1 l := rfl
    have eP : dropsP m (k :: l) = i :: dropsP (Tb.drop m k).1 l := by show (Tb.drop m k).2.1.toNat :: _ = _; rw [Tb.drop_has hf]; rfl
    have e1 : (Tb.drop m k).1 = m.set i (-1) := by rw [Tb.drop_has hf]
    rw [eM, eP]
    rw [e1] at A ⊢
    have hset : (m.set i (-1))[i]? = some (-1) := by rw [List.getElem?_set, if_pos rfl, if_pos hil]
    have hni : i ∉ dropsP (m.set i (-1)) l := fun hm => by
      obtain ⟨x, _, x0, hx, _⟩ := A.was i hm
      rw [hset] at hx
      injection hx with hx
      omega
    refine ⟨A.ok, A.len.trans (List.length_set ..), by rw [List.length_cons, A.plen, List.length_cons], fun q hq => ?_, fun q hq => ?_, fun x hx => ?_⟩
    · rcases List.mem_cons.1 hq with rfl | hq
      · exact ⟨k, List.mem_cons_self, h0, hi, (A.off q hni).trans hset⟩
      · obtain ⟨x, hx, x0, hm, hm'⟩ := A.was q hq
        rw [List.getElem?_set, if_neg (fun e => by subst e; exact hni hq)] at hm
        exact ⟨x, List.mem_cons_of_mem _ hx, x0, hm, hm'⟩
    · rw [A.off q (fun hm => hq (List.mem_cons_of_mem _ hm)), List.getElem?_set, if_neg (fun e => hq (by rw [← e]; exact List.mem_cons_self))]
    · rcases List.mem_cons.1 hx with rfl | hx
      · intro hm
        obtain ⟨j, hj⟩ := List.getElem?_of_mem hm
        by_cases hp : j ∈ dropsP (m.set i (-1)) l
        · obtain ⟨y, _, y0, _, hy⟩ := A.was j hp
          rw [hy] at hj
          injection hj with hj
          omega
        · rw [A.off j hp] at hj
          have := find_gone hok hi h0
          rw [Tb.find_none] at this
          exact this h0 (List.mem_of_getElem? hj)
      · exact A.gone x hx
def Chg (ps cs : List Nat) : Prop := ∀ i, i ∈ cs ↔ ∃ q ∈ ps, q / 13 = i
theorem page_same {m m' : List Int} {i : Nat} (h : ∀ q, q / 13 = i → m'[q]? = m[q]?) : Tb.page m' i = Tb.page m i := by
  unfold Tb.page
  refine List.map_congr_left fun k hk => ?_
  rw [List.mem_range] at hk
  rw [h (13 * i + k) (by omega)]
end So
end Go.Proofs.YtbmabcddciibfaaGreat
