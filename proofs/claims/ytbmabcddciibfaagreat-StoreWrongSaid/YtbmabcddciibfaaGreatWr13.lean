/- Part 13 of the contracts and of the plain mathematics that the proof of the law rests on: StoLive, StoMem. -/
import Derived.Test.YtbmabcddciibfaaGreatWr02
import Derived.Test.YtbmabcddciibfaaGreatWr06
import Derived.Test.YtbmabcddciibfaaGreatWr12
namespace Go.Proofs.YtbmabcddciibfaaGreat
namespace So
set_option linter.unusedVariables false
def dataOps (p : Pa) (ps : List Nat) (l : List (Int × List UInt8)) : List Op := (ps.zip l).map fun x => Op.wr (p.data x.1) x.2.2
def pageOp (p : Pa) (m : List Int) (i : Nat) : Op := .wr (p.page i) (Pm.sector p.gen (Tb.page m i))
def pageOps (p : Pa) (m : List Int) (cs : List Nat) : List Op := cs.map (pageOp p m)
def headOp (p : Pa) (inv : Bool) : Op := .wr p.st (Hm.sector p.gen (p.g : Int) (p.N : Int) inv)
def addOps (p : Pa) (m : List Int) (l : List (Int × List UInt8)) (cs : List Nat) : List Op := (dataOps p (putsP m l) l ++ [.fl]) ++ (pageOps p (putsM m l) cs ++ [.fl])
def remOps (p : Pa) (m l : List Int) (cs : List Nat) : List Op := pageOps p (dropsM m l) cs ++ [.fl]
def spoOps (p : Pa) : List Op := [headOp p true, .fl]
def creOps (p : Pa) : List Op := (pageOps p (List.replicate p.N (-1)) (List.range p.pg) ++ [headOp p false]) ++ [.fl]
theorem wr_app {a b : List Op} {x : Nat} {d : List UInt8} (h : Wr (a ++ b) x d) : Wr a x d ∨ Wr b x d := by
  obtain ⟨k, c, hm, r⟩ := h
  rcases List.mem_append.1 hm with hm | hm
  · exact .inl ⟨k, c, hm, r⟩
  · exact .inr ⟨k, c, hm, r⟩
theorem wr_left {a b : List Op} {x : Nat} {d : List UInt8} (h : Wr a x d) : Wr (a ++ b) x d := h.mono fun o ho => List.mem_append.2 (.inl ho)
theorem wr_right {a b : List Op} {x : Nat} {d : List UInt8} (h : Wr b x d) : Wr (a ++ b) x d := h.mono fun o ho => List.mem_append.2 (.inr ho)
theorem wr_fl {x : Nat} {d : List UInt8} : ¬ Wr [.fl] x d := by
  rintro ⟨k, c, hm, _⟩
  simp at hm
theorem wr_flr {a : List Op} {x : Nat} {d : List UInt8} (h : Wr (a ++ [.fl]) x d) : Wr a x d := (wr_app h).elim id fun h => (wr_fl h).elim
theorem wr_page {p : Pa} {m : List Int} {cs : List Nat} {x : Nat} {d : List UInt8} (h : Wr (pageOps p m cs) x d) : ∃ i ∈ cs, x = p.page i ∧ d = Pm.sector p.gen (Tb.page m i) := by
  obtain ⟨k, c, hm, h1, h2, h3⟩ := h
  obtain ⟨i, hi, he⟩ := List.mem_map.1 hm
  unfold pageOp at he
  injection he with e1 e2
  subst e1; subst e2
  rw [Pm.sector_len] at h2
  have hx : x = p.page i := by omega
  refine ⟨i, hi, hx, ?_⟩
  rw [h3, hx, Nat.sub_self, Nat.mul_zero, List.drop_zero, List.take_of_length_le (by rw [Pm.sector_len]; exact Nat.le_refl _)]
theorem wr_page_mk {p : Pa} {m : List Int} {cs : List Nat} {i : Nat} (h : i ∈ cs) : Wr (pageOps p m cs) (p.page i) (Pm.sector p.gen (Tb.page m i)) :=
  ⟨p.page i, _, List.mem_map.2 ⟨i, h, rfl⟩, Nat.le_refl _, by rw [Pm.sector_len]; omega, by rw [Nat.sub_self, Nat.mul_zero, List.drop_zero, List.take_of_length_le (by rw [Pm.sector_len]; exact Nat.le_refl _)]⟩
theorem zip_mem {ps : List Nat} {l : List (Int × List UInt8)} {x : Nat × (Int × List UInt8)} (h : x ∈ ps.zip l) : ∃ j : Nat, ps[j]? = some x.1 ∧ l[j]? = some x.2 := by
  obtain ⟨j, hj⟩ := List.getElem?_of_mem h
  rw [List.getElem?_zip_eq_some] at hj
  exact ⟨j, hj.1, hj.2⟩
theorem zip_at {ps : List Nat} {l : List (Int × List UInt8)} {j i : Nat} {c : Int × List UInt8} (h1 : ps[j]? = some i) (h2 : l[j]? = some c) : (i, c) ∈ ps.zip l :=
  List.mem_of_getElem? (List.getElem?_zip_eq_some.2 ⟨h1, h2⟩)
theorem wr_data {p : Pa} {ps : List Nat} {l : List (Int × List UInt8)} (hl : ∀ c ∈ l, c.2.length = 64 * p.g) {x : Nat} {d : List UInt8} (h : Wr (dataOps p ps l) x d) :
    ∃ (j i : Nat) (c : Int × List UInt8) (k : Nat), ps[j]? = some i ∧ l[j]? = some c ∧ k < p.g ∧ x = p.data i + k ∧ d = piece c.2 k := by
  obtain ⟨k, c, hm, h1, h2, h3⟩ := h
  obtain ⟨y, hy, he⟩ := List.mem_map.1 hm
  injection he with e1 e2
  subst e1; subst e2
  obtain ⟨j, hj1, hj2⟩ := zip_mem hy
  have := hl y.2 (List.mem_of_getElem? hj2)
  rw [this] at h2
  exact ⟨j, y.1, y.2, x - p.data y.1, hj1, hj2, by omega, by omega, h3⟩
theorem wr_data_mk {p : Pa} {ps : List Nat} {l : List (Int × List UInt8)} (hl : ∀ c ∈ l, c.2.length = 64 * p.g) {j i k : Nat} {c : Int × List UInt8} (h1 : ps[j]? = some i) (h2 : l[j]? = some c) (hk : k < p.g) :
    Wr (dataOps p ps l) (p.data i + k) (piece c.2 k) := by
  have := hl c (List.mem_of_getElem? h2)
  exact ⟨p.data i, c.2, List.mem_map.2 ⟨(i, c), zip_at h1 h2, rfl⟩, by omega, by omega, by rw [Nat.add_sub_cancel_left]; rfl⟩
theorem wr_head {p : Pa} {b : Bool} {x : Nat} {d : List UInt8} (h : Wr [headOp p b] x d) : x = p.st ∧ d = Hm.sector p.gen (p.g : Int) (p.N : Int) b := by
  obtain ⟨k, c, hm, h1, h2, h3⟩ := h
  rw [List.mem_singleton] at hm
  unfold headOp at hm
  injection hm with e1 e2
  subst e1; subst e2
  rw [Hm.sector_len] at h2
  have hx : x = p.st := by omega
  refine ⟨hx, ?_⟩
  rw [h3, hx, Nat.sub_self, Nat.mul_zero, List.drop_zero, List.take_of_length_le (by rw [Hm.sector_len]; exact Nat.le_refl _)]
theorem wr_head_mk (p : Pa) (b : Bool) : Wr [headOp p b] p.st (Hm.sector p.gen (p.g : Int) (p.N : Int) b) :=
  ⟨p.st, _, List.mem_singleton.2 rfl, Nat.le_refl _, by rw [Hm.sector_len]; omega, by rw [Nat.sub_self, Nat.mul_zero, List.drop_zero, List.take_of_length_le (by rw [Hm.sector_len]; exact Nat.le_refl _)]⟩
theorem eff_app (f : Nat → List UInt8) (a b : List Op) : eff f (a ++ b) = eff (eff f a) b := by
  induction a generalizing f with
  | nil => rfl
  | cons o a ih => cases o <;> exact ih _
theorem good_page {p : Pa} (h : p.Ok) {m : List Int} {cs : List Nat} (hc : ∀ i ∈ cs, i < p.pg) : ∀ o ∈ pageOps p m cs, Good p.a o := by
  intro o ho
  obtain ⟨i, hi, rfl⟩ := List.mem_map.1 ho
  have h1 := Pa.page_in h (hc i hi)
  have h2 := h.high
  show _ % 64 = 0 ∧ _
  rw [Pm.sector_len]
  omega
theorem good_data {p : Pa} (h : p.Ok) {ps : List Nat} {l : List (Int × List UInt8)} (hl : ∀ c ∈ l, c.2.length = 64 * p.g) (hp : ∀ q ∈ ps, q < p.N) : ∀ o ∈ dataOps p ps l, Good p.a o := by
  intro o ho
  obtain ⟨y, hy, rfl⟩ := List.mem_map.1 ho
  obtain ⟨j, hj1, hj2⟩ := zip_mem hy
  have h1 := Pa.data_end h (hp y.1 (List.mem_of_getElem? hj1))
  have h2 := h.high
  have h3 := hl y.2 (List.mem_of_getElem? hj2)
  show _ % 64 = 0 ∧ _
  rw [h3]
  omega
theorem good_head {p : Pa} (h : p.Ok) (b : Bool) : Good p.a (headOp p b) := by
  have h2 := h.high
  have h3 := h.nums.size
  show _ % 64 = 0 ∧ _
  rw [Hm.sector_len]
  omega
theorem good_fl {n : Nat} {a : List Op} (h : ∀ o ∈ a, Good n o) : ∀ o ∈ a ++ [.fl], Good n o := by
  intro o ho
  rcases List.mem_append.1 ho with ho | ho
  · exact h o ho
  · rw [List.mem_singleton.1 ho]; trivial
theorem good_app {n : Nat} {a b : List Op} (h : ∀ o ∈ a, Good n o) (k : ∀ o ∈ b, Good n o) : ∀ o ∈ a ++ b, Good n o := fun o ho => (List.mem_append.1 ho).elim (h o) (k o)
theorem Live.next {p : Pa} {st : Dm.St} {M M' : Ms} (h : Live p st M) (ops : List Op) (hg : ∀ o ∈ ops, Good p.a o) (hf : Fit p M') (hs : Stand p (eff (Dm.one st) ops) M') (hp : ∀ y ∈ (runs st ops).1.P, p.data 0 ≤ y.1) :
    (runs st ops).2 = 0 ∧ Live p (runs st ops).1 M' := by
  have ha := runs_awake h.ok h.awake (ops := ops) (fun o ho => by rw [h.len]; exact hg o ho)
  have hk := runs_ok h.ok ops
  refine ⟨ha.1, ⟨hk.1, hk.2.trans h.len, ha.2, hf, ?_, hp⟩⟩
  have : Dm.one (runs st ops).1 = eff (Dm.one st) ops := funext (runs_one h.ok ha.1)
  rw [this]
  exact hs
structure Turn (p : Pa) (f : Nat → List UInt8) (M M' : Ms) (cs : List Nat) : Prop where
  head : f p.st = Hm.sector p.gen (p.g : Int) (p.N : Int) false
  page : ∀ i, i < p.pg → f (p.page i) = Pm.sector p.gen (Tb.page M.T i)
  old : ∀ (i : Nat) (k : Int), M.T[i]? = some k → 0 ≤ k → ∀ j, j < p.g → f (p.data i + j) = piece (M.D.getD i []) j
  new : ∀ (i : Nat) (k : Int), M'.T[i]? = some k → 0 ≤ k → ∀ j, j < p.g → f (p.data i + j) = piece (M'.D.getD i []) j
  same : ∀ i, i ∉ cs → Tb.page M'.T i = Tb.page M.T i
  less : ∀ i ∈ cs, i < p.pg
  was : Fit p M
  fit : Fit p M'
  inv : M'.inv = false
theorem Turn.stand {p : Pa} {f : Nat → List UInt8} {M M' : Ms} {cs : List Nat} (h : Turn p f M M' cs) : Stand p (eff f (pageOps p M'.T cs ++ [.fl])) M' := by
  refine ⟨?_, fun _ i hi => ?_, fun i k hi h0 j hj => ?_⟩
  · rw [eff_off _ (fun d hd => ?_), h.head, h.inv]
    obtain ⟨i, _, hx, _⟩ := wr_page (wr_flr hd)
    have := (p.head_lt i 0).1
    omega
  · by_cases hc : i ∈ cs
    · refine eff_at _ (wr_left (wr_page_mk hc)) fun d hd => ?_
      obtain ⟨i', _, hx, hd⟩ := wr_page (wr_flr hd)
      have : i = i' := by unfold Pa.page at hx; omega
      rw [hd, this]
    · rw [eff_off _ (fun d hd => ?_), h.page i hi, h.same i hc]
      obtain ⟨i', hi', hx, _⟩ := wr_page (wr_flr hd)
      have : i = i' := by unfold Pa.page at hx; omega
      exact hc (this ▸ hi')
  · rw [eff_off _ (fun d hd => ?_), h.new i k hi h0 j hj]
    obtain ⟨i', hi', hx, _⟩ := wr_page (wr_flr hd)
    have := p.page_lt (h.less i' hi') i
    omega
structure Mix (p : Pa) (f : Nat → List UInt8) (M M' : Ms) (T : List Int) : Prop where
  head : f p.st = Hm.sector p.gen (p.g : Int) (p.N : Int) false
  len : T.length = p.N
  ok : Tb.Ok T
  page : ∀ i, i < p.pg → f (p.page i) = Pm.sector p.gen (Tb.page T i)
  data : ∀ (i : Nat) (k : Int), T[i]? = some k → 0 ≤ k → ∀ j, j < p.g → (M.T[i]? = some k ∧ f (p.data i + j) = piece (M.D.getD i []) j) ∨ (M'.T[i]? = some k ∧ f (p.data i + j) = piece (M'.D.getD i []) j)
  keep : ∀ k ∈ M.T, 0 ≤ k → (M'.inv = false → k ∈ M'.T) → k ∈ T
def Outcome (p : Pa) (f : Nat → List UInt8) (M M' : Ms) : Prop := (M'.inv = true ∧ f p.st = Hm.sector p.gen (p.g : Int) (p.N : Int) true) ∨ (M.inv = false ∧ ∃ T, Mix p f M M' T)
theorem Mix.old {p : Pa} {f : Nat → List UInt8} {M : Ms} (M' : Ms) (h : Stand p f M) (hf : Fit p M) (hi : M.inv = false) : Mix p f M M' M.T :=
  ⟨by rw [h.head, hi], hf.tlen, hf.tok, h.page hi, fun i k hk h0 j hj => .inl ⟨hk, h.data i k hk h0 j hj⟩, fun k hk _ _ => hk⟩
theorem Outcome.same {p : Pa} {f : Nat → List UInt8} {M M' : Ms} (h : Stand p f M) (hf : Fit p M) (hi : M.inv = true → M'.inv = true) : Outcome p f M M' := by
  cases hv : M.inv with
  | true => exact .inl ⟨hi hv, by rw [h.head, hv]⟩
  | false => exact .inr ⟨hv, M.T, Mix.old M' h hf hv⟩
def pick (b : Nat → Bool) (m m' : List Int) : List Int := (List.range m.length).map fun i => if b (i / 13) = true then (m'[i]?).getD (-1) else (m[i]?).getD (-1)
theorem pick_length (b : Nat → Bool) (m m' : List Int) : (pick b m m').length = m.length := by simp [pick]
theorem pick_get {b : Nat → Bool} {m m' : List Int} (hl : m'.length = m.length) (i : Nat) : (pick b m m')[i]? = if b (i / 13) = true then m'[i]? else m[i]? := by
  by_cases h : i < m.length
  · unfold pick
    rw [List.getElem?_map, List.getElem?_range h, Option.map_some]
    split
    · rw [List.getElem?_eq_getElem (by omega)]; rfl
    · rw [List.getElem?_eq_getElem h]; rfl
  · rw [List.getElem?_eq_none (by rw [pick_length]; omega), List.getElem?_eq_none (l := m) (by omega), List.getElem?_eq_none (l := m') (by omega)]
    split <;> rfl
theorem page_pick {b : Nat → Bool} {m m' : List Int} (hl : m'.length = m.length) (i : Nat) : Tb.page (pick b m m') i = if b i = true then Tb.page m' i else Tb.page m i := by
  have e : ∀ k, k < 13 → (13 * i + k) / 13 = i := fun k hk => by omega
  unfold Tb.page
  split
  · rename_i hb
    refine List.map_congr_left fun k hk => ?_
    rw [List.mem_range] at hk
    rw [pick_get hl, e k hk, if_pos hb]
  · rename_i hb
    refine List.map_congr_left fun k hk => ?_
    rw [List.mem_range] at hk
    rw [pick_get hl, e k hk, if_neg hb]
def Sub (m m' : List Int) : Prop := ∀ (i : Nat) (k : Int), m[i]? = some k → 0 ≤ k → m'[i]? = some k
theorem Turn.mix {p : Pa} {f f' : Nat → List UInt8} {M M' : Ms} {cs : List Nat} (h : Turn p f M M' cs) (hs : Sub M.T M'.T ∨ Sub M'.T M.T) (hf : ∀ x, f' x = f x ∨ Wr (pageOps p M'.T cs) x (f' x)) : ∃ T, Mix p f' M M' T := by
  have hl : M'.T.length = M.T.length := by rw [h.fit.tlen, h.was.tlen]
  have off : ∀ x, (∀ i ∈ cs, x ≠ p.page i) → f' x = f x := fun x hx => (hf x).elim id fun hw => by
    obtain ⟨i, hi, he, _⟩ := wr_page hw
    exact absurd he (hx i hi)
  obtain ⟨b, hb⟩ : ∃ b : Nat → Bool, b = fun i => decide (f' (p.page i) = Pm.sector p.gen (Tb.page M'.T i)) := ⟨_, rfl⟩
  have hbt : ∀ i, b i = true ↔ f' (p.page i) = Pm.sector p.gen (Tb.page M'.T i) := fun i => by rw [hb]; simp
  have used : ∀ (i : Nat) (k : Int), (pick b M.T M'.T)[i]? = some k → M.T[i]? = some k ∨ M'.T[i]? = some k := fun i k hk => by
    rw [pick_get hl] at hk
    split at hk
    · exact .inr hk
    · exact .inl hk
  have both : ∀ (i : Nat) (k : Int), M.T[i]? = some k → M'.T[i]? = some k → (pick b M.T M'.T)[i]? = some k := fun i k h1 h2 => by
    rw [pick_get hl]
    split
    · exact h2
    · exact h1
  refine ⟨pick b M.T M'.T, ?_, by rw [pick_length, h.was.tlen], ⟨by rw [pick_length]; exact h.was.tok.few, fun x hx => ?_, fun i j k hi hj h0 => ?_⟩, fun i hi => ?_, fun i k hk h0 j hj => ?_, fun k hk h0 hk2 => ?_⟩
  · rw [off _ (fun i _ => by have := (p.head_lt i 0).1; omega), h.head]
  · obtain ⟨i, hi⟩ := List.getElem?_of_mem hx
    rcases used i x hi with hu | hu
    · exact h.was.tok.vals x (List.mem_of_getElem? hu)
    · exact h.fit.tok.vals x (List.mem_of_getElem? hu)
  · rcases hs with hs | hs
    · have key : ∀ (i : Nat), (pick b M.T M'.T)[i]? = some k → M'.T[i]? = some k := fun i hi => (used i k hi).elim (fun e => hs i k e h0) id
      exact h.fit.tok.uni i j k (key i hi) (key j hj) h0
    · have key : ∀ (i : Nat), (pick b M.T M'.T)[i]? = some k → M.T[i]? = some k := fun i hi => (used i k hi).elim id (fun e => hs i k e h0)
      exact h.was.tok.uni i j k (key i hi) (key j hj) h0
  · rw [page_pick hl]
    split
    · rename_i hbi
      exact (hbt i).1 hbi
    · rename_i hbi
      rcases hf (p.page i) with e | hw
      · rw [e, h.page i hi]
      · obtain ⟨i', _, he, hd⟩ := wr_page hw
        have : i = i' := by unfold Pa.page at he; omega
        subst this
        exact absurd ((hbt i).2 hd) hbi
  · rw [off _ (fun i' hi' => by have := p.page_lt (h.less i' hi') i; omega)]
    rcases used i k hk with hu | hu
    · exact .inl ⟨hu, h.old i k hu h0 j hj⟩
    · exact .inr ⟨hu, h.new i k hu h0 j hj⟩
  · have hk' := hk2 h.inv
    rcases hs with hs | hs
    · obtain ⟨i, hi⟩ := List.getElem?_of_mem hk
      exact List.mem_of_getElem? (both i k hi (hs i k hi h0))
    · obtain ⟨i, hi⟩ := List.getElem?_of_mem hk'
      exact List.mem_of_getElem? (both i k (hs i k hi h0) hi)
def Ms.adds (M : Ms) (l : List (Int × List UInt8)) : Ms := ⟨putsM M.T l, setD M.D (putsP M.T l) l, M.inv⟩
theorem fit_add {p : Pa} {M : Ms} (hf : Fit p M) {l : List (Int × List UInt8)} (ha : Adding M.T l) (hl : ∀ c ∈ l, c.2.length = 64 * p.g) (hi : M.inv = false) : Fit p (M.adds l) := by
  have A := added ha
  refine ⟨A.ok, A.len.trans hf.tlen, (setD_length _ _ _).trans hf.dlen, fun hv => ?_, fun i k hk h0 => ?_⟩
  · have : M.inv = true := hv
    rw [hi] at this; cases this
  · show ((setD M.D (putsP M.T l) l).getD i []).length = _
    have hk : (putsM M.T l)[i]? = some k := hk
    by_cases hp : i ∈ putsP M.T l
    · obtain ⟨j, hj⟩ := List.getElem?_of_mem hp
      have hjl : j < l.length := by rw [← putsP_length M.T l]; exact (List.getElem?_eq_some_iff.1 hj).1
      have hiD : i < M.D.length := by rw [hf.dlen, ← hf.tlen]; exact (A.free i hp).1
      rw [setD_at A.nodup hj (List.getElem?_eq_getElem hjl) hiD]
      exact hl _ (List.getElem_mem hjl)
    · rw [setD_off hp]
      rw [A.off i hp] at hk
      exact hf.size i k hk h0
theorem turn_add {p : Pa} (hp : p.Ok) {f : Nat → List UInt8} {M : Ms} (hf : Fit p M) (hs : Stand p f M) {l : List (Int × List UInt8)} (ha : Adding M.T l) (hl : ∀ c ∈ l, c.2.length = 64 * p.g) (hi : M.inv = false) {cs : List Nat} (hc : Chg (putsP M.T l) cs) :
    Turn p (eff f (dataOps p (putsP M.T l) l ++ [.fl])) M (M.adds l) cs := by
  have A := added ha
  have hlt : ∀ q ∈ putsP M.T l, q < p.N := fun q hq => by rw [← hf.tlen]; exact (A.free q hq).1
  have new : ∀ (i : Nat) (k : Int), (putsM M.T l)[i]? = some k → 0 ≤ k → ∀ j, j < p.g → eff f (dataOps p (putsP M.T l) l ++ [.fl]) (p.data i + j) = piece ((setD M.D (putsP M.T l) l).getD i []) j := fun i k hk h0 j hj => by
    by_cases hq : i ∈ putsP M.T l
    · obtain ⟨q, hqj⟩ := List.getElem?_of_mem hq
      have hjl : q < l.length := by rw [← putsP_length M.T l]; exact (List.getElem?_eq_some_iff.1 hqj).1
      have hiD : i < M.D.length := by rw [hf.dlen]; exact hlt i hq
      rw [setD_at A.nodup hqj (List.getElem?_eq_getElem hjl) hiD]
      refine eff_at _ (wr_left (wr_data_mk hl hqj (List.getElem?_eq_getElem hjl) hj)) fun d hd => ?_
      obtain ⟨j2, i2, c2, k2, h1, h2, h3, h4, h5⟩ := wr_data hl (wr_flr hd)
      obtain ⟨e1, e2⟩ := p.data_same hj h3 h4
      subst e1; subst e2
      have ej : q = j2 := (List.getElem?_inj (List.getElem?_eq_some_iff.1 hqj).1 A.nodup).1 (hqj.trans h1.symm)
      subst ej
      rw [List.getElem?_eq_getElem hjl] at h2
      injection h2 with h2
      rw [h5, h2]
    · rw [setD_off hq]
      rw [A.off i hq] at hk
      rw [eff_off _ (fun d hd => ?_), hs.data i k hk h0 j hj]
      obtain ⟨j2, i2, c2, k2, h1, _, h3, h4, _⟩ := wr_data hl (wr_flr hd)
      obtain ⟨e1, _⟩ := p.data_same hj h3 h4
      exact hq (e1 ▸ List.mem_of_getElem? h1)
  refine ⟨?_, fun i hi2 => ?_, fun i k hk h0 j hj => ?_, new, fun i hi2 => ?_, fun i hi2 => ?_, hf, fit_add hf ha hl hi, hi⟩
  · rw [eff_off _ (fun d hd => ?_), hs.head, hi]
    obtain ⟨_, i2, _, k2, _, _, _, h4, _⟩ := wr_data hl (wr_flr hd)
    have := (p.head_lt 0 i2).2
    omega
  · rw [eff_off _ (fun d hd => ?_), hs.page hi i hi2]
    obtain ⟨_, i3, _, k2, _, _, _, h4, _⟩ := wr_data hl (wr_flr hd)
    have := p.page_lt hi2 i3
    omega
  · have hq : i ∉ putsP M.T l := fun hm => by
      obtain ⟨_, x, hx, hx0⟩ := A.free i hm
      rw [hk] at hx
      injection hx with hx
      omega
    have := new i k ((A.off i hq).trans hk) h0 j hj
    rw [setD_off hq] at this
    exact this
  · exact page_same fun q hq => A.off q fun hm => hi2 ((hc i).2 ⟨q, hm, hq⟩)
  · obtain ⟨q, hq, rfl⟩ := (hc i).1 hi2
    have := hlt q hq
    unfold Pa.pg Tb.pagesN
    omega
theorem sub_add {m : List Int} {l : List (Int × List UInt8)} (ha : Adding m l) : Sub m (putsM m l) := fun i k hk h0 => by
  have A := added ha
  rw [A.off i]
  · exact hk
  · intro hm
    obtain ⟨_, x, hx, hx0⟩ := A.free i hm
    rw [hk] at hx
    injection hx with hx
    omega
theorem live_add {p : Pa} (hp : p.Ok) {st : Dm.St} {M : Ms} (h : Live p st M) {l : List (Int × List UInt8)} (ha : Adding M.T l) (hl : ∀ c ∈ l, c.2.length = 64 * p.g) (hi : M.inv = false) {cs : List Nat} (hc : Chg (putsP M.T l) cs) :
    (runs st (addOps p M.T l cs)).2 = 0 ∧ Live p (runs st (addOps p M.T l cs)).1 (M.adds l) ∧ (runs st (addOps p M.T l cs)).1.P = [] := by
  have A := added ha
  have t := turn_add hp h.fit h.stand ha hl hi hc
  have hlt : ∀ q ∈ putsP M.T l, q < p.N := fun q hq => by rw [← h.fit.tlen]; exact (A.free q hq).1
  have hg : ∀ o ∈ addOps p M.T l cs, Good p.a o := good_app (good_fl (good_data hp hl hlt)) (good_fl (good_page hp t.less))
  have e0 := (runs_awake h.ok h.awake (ops := addOps p M.T l cs) (fun o ho => by rw [h.len]; exact hg o ho)).1
  have hP : (runs st (addOps p M.T l cs)).1.P = [] := by
    have e : addOps p M.T l cs = (dataOps p (putsP M.T l) l ++ [.fl] ++ pageOps p (putsM M.T l) cs) ++ [.fl] := by simp [addOps]
    rw [e] at e0 ⊢
    exact runs_fl e0
  have := h.next (addOps p M.T l cs) hg t.fit (by rw [addOps, eff_app]; exact t.stand) (by rw [hP]; intro y hy; cases hy)
  exact ⟨this.1, this.2, hP⟩
theorem crash_add {p : Pa} (hp : p.Ok) {st : Dm.St} (hok : Dm.Ok st) (hP : st.P = []) {M : Ms} (hf : Fit p M) (hs : Stand p (Dm.one st) M) {l : List (Int × List UInt8)} (ha : Adding M.T l) (hl : ∀ c ∈ l, c.2.length = 64 * p.g) (hi : M.inv = false) {cs : List Nat} (hc : Chg (putsP M.T l) cs) (keep : List Bool) :
    Outcome p (Dm.one (Dm.restart (runs st (addOps p M.T l cs)).1 keep)) M (M.adds l) := by
  have A := added ha
  have t := turn_add hp hf hs ha hl hi hc
  refine .inr ⟨hi, ?_⟩
  unfold addOps
  by_cases h1 : (runs st (dataOps p (putsP M.T l) l ++ [.fl])).2 = 0
  · rw [runs_app_yes _ h1]
    have hok1 := (runs_ok hok (dataOps p (putsP M.T l) l ++ [.fl])).1
    have e1 : Dm.one (runs st (dataOps p (putsP M.T l) l ++ [.fl])).1 = eff (Dm.one st) (dataOps p (putsP M.T l) l ++ [.fl]) := funext (runs_one hok h1)
    have F := (From.start hok1 (runs_fl h1) (pageOps p (putsM M.T l) cs ++ [.fl])).runs (ops := pageOps p (putsM M.T l) cs ++ [.fl]) fun o ho => ho
    rw [e1] at F
    exact t.mix (.inl (sub_add ha)) fun x => (F.restart keep x).imp id wr_flr
  · rw [runs_app_no _ h1]
    have F := (From.start hok hP (dataOps p (putsP M.T l) l ++ [.fl])).runs (ops := dataOps p (putsP M.T l) l ++ [.fl]) fun o ho => ho
    refine ⟨M.T, Mix.old _ ⟨?_, fun _ i hi2 => ?_, fun i k hk h0 j hj => ?_⟩ hf hi⟩
    · rcases F.restart keep p.st with e | hw
      · rw [e]; exact hs.head
      · obtain ⟨_, i2, _, k2, _, _, _, h4, _⟩ := wr_data hl (wr_flr hw)
        have := (p.head_lt 0 i2).2
        omega
    · rcases F.restart keep (p.page i) with e | hw
      · rw [e]; exact hs.page hi i hi2
      · obtain ⟨_, i3, _, k2, _, _, _, h4, _⟩ := wr_data hl (wr_flr hw)
        have := p.page_lt hi2 i3
        omega
    · rcases F.restart keep (p.data i + j) with e | hw
      · rw [e]; exact hs.data i k hk h0 j hj
      · obtain ⟨j2, i2, c2, k2, h2, _, h3, h4, _⟩ := wr_data hl (wr_flr hw)
        obtain ⟨e1, _⟩ := p.data_same hj h3 h4
        obtain ⟨_, x, hx, hx0⟩ := A.free i2 (List.mem_of_getElem? h2)
        rw [← e1, hk] at hx
        injection hx with hx
        omega
def Ms.drops (M : Ms) (l : List Int) : Ms := ⟨dropsM M.T l, M.D, M.inv⟩
theorem sub_rem {m l : List Int} (hok : Tb.Ok m) (h : mayRem m l = true) : Sub (dropsM m l) m := fun i k hk h0 => by
  have A := dropped hok h
  by_cases hp : i ∈ dropsP m l
  · obtain ⟨x, _, _, _, hx⟩ := A.was i hp
    rw [hk] at hx
    injection hx with hx
    omega
  · rw [← A.off i hp]
    exact hk
theorem fit_rem {p : Pa} {M : Ms} (hf : Fit p M) {l : List Int} (h : mayRem M.T l = true) (hi : M.inv = false) : Fit p (M.drops l) := by
  have A := dropped hf.tok h
  refine ⟨A.ok, A.len.trans hf.tlen, hf.dlen, fun hv => ?_, fun i k hk h0 => hf.size i k (sub_rem hf.tok h i k hk h0) h0⟩
  have : M.inv = true := hv
  rw [hi] at this; cases this
theorem turn_rem {p : Pa} {f : Nat → List UInt8} {M : Ms} (hf : Fit p M) (hs : Stand p f M) {l : List Int} (h : mayRem M.T l = true) (hi : M.inv = false) {cs : List Nat} (hc : Chg (dropsP M.T l) cs) : Turn p f M (M.drops l) cs := by
  have A := dropped hf.tok h
  refine ⟨by rw [hs.head, hi], hs.page hi, hs.data, fun i k hk h0 j hj => hs.data i k (sub_rem hf.tok h i k hk h0) h0 j hj, fun i hi2 => ?_, fun i hi2 => ?_, hf, fit_rem hf h hi, hi⟩
  · exact page_same fun q hq => A.off q fun hm => hi2 ((hc i).2 ⟨q, hm, hq⟩)
  · obtain ⟨q, hq, rfl⟩ := (hc i).1 hi2
    obtain ⟨x, _, _, hx, _⟩ := A.was q hq
    have := hf.lt hx
    unfold Pa.pg Tb.pagesN
    omega
theorem live_rem {p : Pa} (hp : p.Ok) {st : Dm.St} {M : Ms} (h : Live p st M) {l : List Int} (ha : mayRem M.T l = true) (hi : M.inv = false) {cs : List Nat} (hc : Chg (dropsP M.T l) cs) :
    (runs st (remOps p M.T l cs)).2 = 0 ∧ Live p (runs st (remOps p M.T l cs)).1 (M.drops l) ∧ (runs st (remOps p M.T l cs)).1.P = [] := by
  have t := turn_rem h.fit h.stand ha hi hc
  have hg : ∀ o ∈ remOps p M.T l cs, Good p.a o := good_fl (good_page hp t.less)
  have e0 := (runs_awake h.ok h.awake (ops := remOps p M.T l cs) (fun o ho => by rw [h.len]; exact hg o ho)).1
  have hP : (runs st (remOps p M.T l cs)).1.P = [] := runs_fl e0
  have := h.next (remOps p M.T l cs) hg t.fit t.stand (by rw [hP]; intro y hy; cases hy)
  exact ⟨this.1, this.2, hP⟩
theorem crash_rem {p : Pa} (hp : p.Ok) {st : Dm.St} (hok : Dm.Ok st) (hP : st.P = []) {M : Ms} (hf : Fit p M) (hs : Stand p (Dm.one st) M) {l : List Int} (ha : mayRem M.T l = true) (hi : M.inv = false) {cs : List Nat} (hc : Chg (dropsP M.T l) cs) (keep : List Bool) :
    Outcome p (Dm.one (Dm.restart (runs st (remOps p M.T l cs)).1 keep)) M (M.drops l) := by
  have t := turn_rem hf hs ha hi hc
  refine .inr ⟨hi, ?_⟩
  have F := (From.start hok hP (remOps p M.T l cs)).runs (ops := remOps p M.T l cs) fun o ho => ho
  exact t.mix (.inr (sub_rem hf.tok ha)) fun x => (F.restart keep x).imp id wr_flr
def Ms.spoil (M : Ms) : Ms := ⟨List.replicate M.T.length (-1), M.D, true⟩
theorem fit_spo {p : Pa} {M : Ms} (hf : Fit p M) : Fit p M.spoil := by
  refine ⟨Tb.ok_new _ hf.tok.few, by show (List.replicate _ _).length = _; rw [List.length_replicate, hf.tlen], hf.dlen, fun _ x hx => (List.mem_replicate.1 hx).2, fun i k hk h0 => ?_⟩
  have hk : (List.replicate M.T.length (-1 : Int))[i]? = some k := hk
  rw [List.getElem?_replicate] at hk
  split at hk
  · injection hk with hk; omega
  · cases hk
theorem live_spo {p : Pa} (hp : p.Ok) {st : Dm.St} {M : Ms} (h : Live p st M) : (runs st (spoOps p)).2 = 0 ∧ Live p (runs st (spoOps p)).1 M.spoil ∧ (runs st (spoOps p)).1.P = [] := by
  have hg : ∀ o ∈ [headOp p true] ++ [Op.fl], Good p.a o := good_fl fun o ho => by rw [List.mem_singleton.1 ho]; exact good_head hp true
  have e0 := (runs_awake h.ok h.awake (ops := spoOps p) (fun o ho => by rw [h.len]; exact hg o ho)).1
  have hP : (runs st (spoOps p)).1.P = [] := runs_fl (ops := [headOp p true]) e0
  have := h.next (spoOps p) hg (fit_spo h.fit) ⟨?_, fun hv => (by cases hv), fun i k hk h0 => ?_⟩ (by rw [hP]; intro y hy; cases hy)
  · exact ⟨this.1, this.2, hP⟩
  · exact eff_at _ (wr_left (b := [Op.fl]) (wr_head_mk p true)) fun d hd => (wr_head (wr_flr (a := [headOp p true]) hd)).2
  · have hk : (List.replicate M.T.length (-1 : Int))[i]? = some k := hk
    rw [List.getElem?_replicate] at hk
    split at hk
    · injection hk with hk; omega
    · cases hk
theorem crash_spo {p : Pa} (hp : p.Ok) {st : Dm.St} (hok : Dm.Ok st) (hP : st.P = []) {M : Ms} (hf : Fit p M) (hs : Stand p (Dm.one st) M) (keep : List Bool) :
    Outcome p (Dm.one (Dm.restart (runs st (spoOps p)).1 keep)) M M.spoil := by
  have F := (From.start hok hP (spoOps p)).runs (ops := spoOps p) fun o ho => ho
  have off : ∀ x, x ≠ p.st → Dm.one (Dm.restart (runs st (spoOps p)).1 keep) x = Dm.one st x := fun x hx => (F.restart keep x).elim id fun hw => absurd (wr_head (wr_flr (a := [headOp p true]) hw)).1 hx
  rcases F.restart keep p.st with e | hw
  · refine Outcome.same ⟨by rw [e]; exact hs.head, fun hi i hi2 => ?_, fun i k hk h0 j hj => ?_⟩ hf fun _ => rfl
    · rw [off _ (by have := (p.head_lt i 0).1; omega)]
      exact hs.page hi i hi2
    · rw [off _ (by have := (p.head_lt 0 i).2; omega)]
      exact hs.data i k hk h0 j hj
  · exact .inl ⟨rfl, (wr_head (wr_flr (a := [headOp p true]) hw)).2⟩
def splice (D d : List UInt8) (k : Nat) : List UInt8 := D.take (64 * k) ++ d ++ D.drop (64 * k + d.length)
theorem splice_length {D d : List UInt8} {k : Nat} (h : 64 * k + d.length ≤ D.length) : (splice D d k).length = D.length := by
  unfold splice
  rw [List.length_append, List.length_append, List.length_take, List.length_drop]
  omega
theorem splice_piece {D d : List UInt8} {k j : Nat} (h : 64 * k + d.length ≤ D.length) (hd : d.length % 64 = 0) : piece (splice D d k) j = if k ≤ j ∧ j < k + d.length / 64 then piece d (j - k) else piece D j := by
  have ht : (D.take (64 * k)).length = 64 * k := by rw [List.length_take]; omega
  unfold piece splice
  split
  · rename_i hj
    rw [List.append_assoc, List.drop_append, List.drop_of_length_le (by omega), List.nil_append, ht, List.drop_append_of_le_length (by omega), List.take_append_of_le_length (by rw [List.length_drop]; omega)]
    congr 2
    omega
  · rename_i hj
    by_cases h1 : j < k
    · rw [List.append_assoc, List.drop_append_of_le_length (by omega), List.take_append_of_le_length (by rw [List.length_drop]; omega), List.drop_take, List.take_take]
      congr 1
      omega
    · rw [List.drop_append, List.drop_of_length_le (by rw [List.length_append]; omega), List.nil_append, List.length_append, ht, List.drop_drop]
      congr 2
      omega
def Ms.wri (M : Ms) (i k : Nat) (d : List UInt8) : Ms := ⟨M.T, M.D.set i (splice (M.D.getD i []) d k), M.inv⟩
def wriOp (p : Pa) (i k : Nat) (d : List UInt8) : Op := .wr (p.data i + k) d
theorem wr_wri {p : Pa} {i k : Nat} {d : List UInt8} (hd : k + d.length / 64 ≤ p.g) {x : Nat} {v : List UInt8} (h : Wr [wriOp p i k d] x v) : ∃ j, j < p.g ∧ k ≤ j ∧ j < k + d.length / 64 ∧ x = p.data i + j ∧ v = piece d (j - k) := by
  obtain ⟨q, c, hm, h1, h2, h3⟩ := h
  rw [List.mem_singleton] at hm
  unfold wriOp at hm
  injection hm with e1 e2
  subst e1; subst e2
  refine ⟨x - p.data i, by omega, by omega, by omega, by omega, ?_⟩
  rw [h3]
  unfold piece
  congr 2
  omega
theorem wri_get {M : Ms} {i k : Nat} {d : List UInt8} (hi : i < M.D.length) (q : Nat) : (M.wri i k d).D.getD q [] = if i = q then splice (M.D.getD i []) d k else M.D.getD q [] := by
  show (M.D.set i _).getD q [] = _
  rw [List.getD_eq_getElem?_getD, List.getElem?_set]
  by_cases e : i = q
  · rw [if_pos e, if_pos hi, if_pos e]; rfl
  · rw [if_neg e, if_neg e, ← List.getD_eq_getElem?_getD]
theorem fit_wri {p : Pa} {M : Ms} (hf : Fit p M) {i k : Nat} {d : List UInt8} {c : Int} (hi : M.T[i]? = some c) (h0 : 0 ≤ c) (hd : d.length % 64 = 0) (hk : k + d.length / 64 ≤ p.g) : Fit p (M.wri i k d) := by
  refine ⟨hf.tok, hf.tlen, by show (M.D.set _ _).length = _; rw [List.length_set, hf.dlen], hf.off, fun q x hq hx => ?_⟩
  have hs := hf.size i c hi h0
  rw [wri_get (by rw [hf.dlen]; exact hf.lt hi)]
  split
  · rw [splice_length (by omega), hs]
  · exact hf.size q x hq hx
theorem live_wri {p : Pa} (hp : p.Ok) {st : Dm.St} {M : Ms} (h : Live p st M) {i k : Nat} {d : List UInt8} {c : Int} (hi : M.T[i]? = some c) (h0 : 0 ≤ c) (hd : d.length % 64 = 0) (hk : k + d.length / 64 ≤ p.g) :
    (runs st [wriOp p i k d]).2 = 0 ∧ Live p (runs st [wriOp p i k d]).1 (M.wri i k d) := by
  have hs := h.fit.size i c hi h0
  have hil := h.fit.lt hi
  have hD : i < M.D.length := by rw [h.fit.dlen]; exact hil
  refine h.next [wriOp p i k d] (fun o ho => ?_) (fit_wri h.fit hi h0 hd hk) ⟨?_, fun hv q hq => ?_, fun q x hq hx j hj => ?_⟩ fun y hy => ?_
  · rw [List.mem_singleton.1 ho]
    have := Pa.data_end hp hil
    have := hp.high
    exact ⟨hd, by omega⟩
  · rw [eff_off _ (fun v hv => ?_)]
    · exact h.stand.head
    · obtain ⟨j, _, _, _, hx, _⟩ := wr_wri hk hv
      have := (p.head_lt 0 i).2
      omega
  · rw [eff_off _ (fun v hv => ?_)]
    · exact h.stand.page hv q hq
    · obtain ⟨j, _, _, _, hx, _⟩ := wr_wri hk hv
      have := p.page_lt hq i
      omega
  · rw [wri_get hD]
    by_cases e : i = q
    · subst e
      rw [if_pos rfl, splice_piece (by omega) hd]
      split
      · rename_i hjk
        refine eff_at _ ⟨p.data i + k, d, List.mem_singleton.2 rfl, by omega, by omega, ?_⟩ fun v hv => ?_
        · unfold piece; congr 2; omega
        · obtain ⟨j2, h1, _, _, hx2, hv⟩ := wr_wri hk hv
          have : j = j2 := by omega
          rw [hv, this]
      · rename_i hjk
        rw [eff_off _ (fun v hv => ?_)]
        · exact h.stand.data i x hq hx j hj
        · obtain ⟨j2, h1, h2, h3, hx2, _⟩ := wr_wri hk hv
          have : j = j2 := by omega
          omega
    · rw [if_neg e, eff_off _ (fun v hv => ?_)]
      · exact h.stand.data q x hq hx j hj
      · obtain ⟨j2, h1, _, _, hx2, _⟩ := wr_wri hk hv
        exact e (p.data_same hj h1 hx2).1.symm
  · rcases runs_P _ y hy with hy | hw
    · exact h.pend y hy
    · obtain ⟨j, _, _, _, hx, _⟩ := wr_wri hk hw
      have : p.data 0 ≤ p.data i := by unfold Pa.data; omega
      omega
theorem crash_wri {p : Pa} (hp : p.Ok) {st : Dm.St} (hok : Dm.Ok st) (hP : st.P = []) {M : Ms} (hf : Fit p M) (hs : Stand p (Dm.one st) M) {i k : Nat} {d : List UInt8} {c : Int} (hi : M.T[i]? = some c) (h0 : 0 ≤ c) (hd : d.length % 64 = 0) (hk : k + d.length / 64 ≤ p.g) (hv : M.inv = false) (keep : List Bool) :
    Outcome p (Dm.one (Dm.restart (runs st [wriOp p i k d]).1 keep)) M (M.wri i k d) := by
  have hsz := hf.size i c hi h0
  have hD : i < M.D.length := by rw [hf.dlen]; exact hf.lt hi
  have F := (From.start hok hP [wriOp p i k d]).runs (ops := [wriOp p i k d]) fun o ho => ho
  refine .inr ⟨hv, M.T, ?_, hf.tlen, hf.tok, fun q hq => ?_, fun q x hq hx j hj => ?_, fun x hx _ _ => hx⟩
  · rcases F.restart keep p.st with e | hw
    · rw [e, hs.head, hv]
    · obtain ⟨j, _, _, _, hx, _⟩ := wr_wri hk hw
      have := (p.head_lt 0 i).2
      omega
  · rcases F.restart keep (p.page q) with e | hw
    · rw [e]; exact hs.page hv q hq
    · obtain ⟨j, _, _, _, hx, _⟩ := wr_wri hk hw
      have := p.page_lt hq i
      omega
  · rcases F.restart keep (p.data q + j) with e | hw
    · exact .inl ⟨hq, by rw [e]; exact hs.data q x hq hx j hj⟩
    · right
      refine ⟨hq, ?_⟩
      obtain ⟨j2, h1, h2, h3, hx2, he⟩ := wr_wri hk hw
      obtain ⟨e1, e2⟩ := p.data_same hj h1 hx2
      subst e1; subst e2
      rw [he, wri_get hD, if_pos rfl, splice_piece (by omega) hd, if_pos ⟨h2, h3⟩]
def Ms.new (p : Pa) : Ms := ⟨List.replicate p.N (-1), List.replicate p.N [], false⟩
theorem fit_new {p : Pa} (hp : p.Ok) : Fit p (Ms.new p) := by
  refine ⟨Tb.ok_new _ hp.nums.N1, List.length_replicate .., List.length_replicate .., fun hv => (by cases hv), fun i k hk h0 => ?_⟩
  have hk : (List.replicate p.N (-1 : Int))[i]? = some k := hk
  rw [List.getElem?_replicate] at hk
  split at hk
  · injection hk with hk; omega
  · cases hk
theorem live_cre {p : Pa} (hp : p.Ok) : (runs (Dm.fresh p.a) (creOps p)).2 = 0 ∧ Live p (runs (Dm.fresh p.a) (creOps p)).1 (Ms.new p) ∧ (runs (Dm.fresh p.a) (creOps p)).1.P = [] := by
  have hok := Dm.fresh_ok p.a hp.nums.a1
  have hlen : (Dm.fresh p.a).S.length = p.a := List.length_replicate ..
  have haw : Awake (Dm.fresh p.a) := ⟨rfl, rfl⟩
  have hg : ∀ o ∈ creOps p, Good p.a o := good_fl (good_app (good_page hp fun i hi => List.mem_range.1 hi) fun o ho => by rw [List.mem_singleton.1 ho]; exact good_head hp false)
  have ha := runs_awake hok haw (ops := creOps p) (fun o ho => by rw [hlen]; exact hg o ho)
  have hk := runs_ok hok (creOps p)
  have hP := runs_fl ha.1
  have e1 : Dm.one (runs (Dm.fresh p.a) (creOps p)).1 = eff (Dm.one (Dm.fresh p.a)) (creOps p) := funext (runs_one hok ha.1)
  refine ⟨ha.1, ⟨hk.1, hk.2.trans hlen, ha.2, fit_new hp, ?_, ?_⟩, hP⟩
  · rw [e1]
    refine ⟨?_, fun _ i hi => ?_, fun i k hk h0 => ?_⟩
    · refine eff_at _ (wr_left (wr_right (wr_head_mk p false))) fun d hd => ?_
      rcases wr_app (wr_flr hd) with hw | hw
      · obtain ⟨i, _, hx, _⟩ := wr_page hw
        have := (p.head_lt i 0).1
        omega
      · exact (wr_head hw).2
    · refine eff_at _ (wr_left (wr_left (wr_page_mk (List.mem_range.2 hi)))) fun d hd => ?_
      rcases wr_app (wr_flr hd) with hw | hw
      · obtain ⟨i', _, hx, hd⟩ := wr_page hw
        have : i = i' := by unfold Pa.page at hx; omega
        rw [hd, this]
        rfl
      · have := (wr_head hw).1
        have := (p.head_lt i 0).1
        omega
    · have hk : (List.replicate p.N (-1 : Int))[i]? = some k := hk
      rw [List.getElem?_replicate] at hk
      split at hk
      · injection hk with hk; omega
      · cases hk
  · rw [show (runs (Dm.fresh p.a) (creOps p)).1.P = [] from hP]
    intro y hy
    cases hy
theorem live_fl {p : Pa} {st : Dm.St} {M : Ms} (h : Live p st M) : (Dm.flush st).2 = 0 ∧ Live p (Dm.flush st).1 M ∧ (Dm.flush st).1.P = [] := by
  have s := step_awake h.awake (o := .fl) trivial
  have hP : (Dm.flush st).1.P = [] := flush_P s.1
  have hk := step_ok h.ok .fl
  refine ⟨s.1, ⟨hk.1, hk.2.trans h.len, s.2, h.fit, ?_, by rw [hP]; intro y hy; cases hy⟩, hP⟩
  have : Dm.one (Dm.flush st).1 = Dm.one st := funext fun x => step_one h.ok (o := .fl) s.1 x
  rw [this]
  exact h.stand
end So
end Go.Proofs.YtbmabcddciibfaaGreat
namespace Go.Proofs.YtbmabcddciibfaaGreat
namespace So
open Go.RowKit
set_option linter.unusedVariables false
structure Bk where
  q : Nat
  d : Dsk.Ob
  t : Tb.Ob
def Bk.fp (b : Bk) (k : Nat) : Prop := k = b.q ∨ b.d.fp k ∨ b.t.fp k
def Bk.cells (b : Bk) (p : Pa) (inv : Bool) : Array Value :=
  #[.int .i64 (p.a : Int), .int .i64 (p.n : Int), .int .i64 (p.g : Int), .pointer (some ⟨b.d.p, 0, none⟩), .int .i64 (p.st : Int), .int .i64 (p.ln : Int), .int .u32 (p.gen : Int), .int .i64 (p.g : Int), .int .i64 (p.N : Int), .bool inv, .pointer (some ⟨b.t.p, 0, none⟩)]
structure Sk (w : World) (b : Bk) (p : Pa) (inv : Bool) (st : Dm.St) (m : List Int) : Prop where
  head : w.heap[b.q]? = some (.cells (b.cells p inv) 108 (0, 0))
  dk : Dsk.Dk w b.d st
  tm : Tb.Tm w b.t m
  dt : ∀ k, b.d.fp k → ¬ b.t.fp k
  qd : ¬ b.d.fp b.q
  qt : ¬ b.t.fp b.q
theorem Sk.lt {w : World} {b : Bk} {p : Pa} {inv : Bool} {st : Dm.St} {m : List Int} (h : Sk w b p inv st m) (k : Nat) (hk : b.fp k) : k < w.heap.size := by
  rcases hk with rfl | hk | hk
  · exact Dsk.lt_of_heap h.head
  · exact h.dk.lt k hk
  · exact h.tm.lt k hk
theorem Sk.same {w w' : World} {b : Bk} {p : Pa} {inv : Bool} {st : Dm.St} {m : List Int} (h : Sk w b p inv st m) (hb : ∀ k, b.fp k → w'.heap[k]? = w.heap[k]?) : Sk w' b p inv st m :=
  ⟨(hb _ (.inl rfl)).trans h.head, h.dk.same fun k hk => hb k (.inr (.inl hk)), h.tm.same fun k hk => hb k (.inr (.inr hk)), h.dt, h.qd, h.qt⟩
theorem Sk.keep {w w' : World} {b : Bk} {p : Pa} {inv : Bool} {st : Dm.St} {m : List Int} {F : Nat → Prop} (h : Sk w b p inv st m) (hf : Dsk.Fr F w w') (hd : ∀ k, b.fp k → ¬ F k) : Sk w' b p inv st m := h.same fun k hk => hf.block k (h.lt k hk) (hd k hk)
theorem Sk.below {w w' : World} {b : Bk} {p : Pa} {inv : Bool} {st : Dm.St} {m : List Int} (h : Sk w b p inv st m) (hb : Below w.heap.size w w') : Sk w' b p inv st m := h.same fun k hk => hb.block k (h.lt k hk)
theorem Sk.reads {w : World} {b : Bk} {p : Pa} {inv : Bool} {st : Dm.St} {m : List Int} (h : Sk w b p inv st m) :
    w.cell? ⟨b.q, 0, none⟩ = some (.int .i64 (p.a : Int)) ∧ w.cell? ⟨b.q, 1, none⟩ = some (.int .i64 (p.n : Int)) ∧ w.cell? ⟨b.q, 2, none⟩ = some (.int .i64 (p.g : Int)) ∧
    w.cell? ⟨b.q, 3, none⟩ = some (.pointer (some ⟨b.d.p, 0, none⟩)) ∧ w.cell? ⟨b.q, 4, none⟩ = some (.int .i64 (p.st : Int)) ∧ w.cell? ⟨b.q, 5, none⟩ = some (.int .i64 (p.ln : Int)) ∧
    w.cell? ⟨b.q, 6, none⟩ = some (.int .u32 (p.gen : Int)) ∧ w.cell? ⟨b.q, 7, none⟩ = some (.int .i64 (p.g : Int)) ∧ w.cell? ⟨b.q, 8, none⟩ = some (.int .i64 (p.N : Int)) ∧
    w.cell? ⟨b.q, 9, none⟩ = some (.bool inv) ∧ w.cell? ⟨b.q, 10, none⟩ = some (.pointer (some ⟨b.t.p, 0, none⟩)) ∧ ∀ j, w.frozen? ⟨b.q, j, none⟩ = false := by
  refine ⟨?_, ?_, ?_, ?_, ?_, ?_, ?_, ?_, ?_, ?_, ?_, fun j => frozen_of_row _ _ _ _ _ h.head⟩ <;> (rw [cell_of_row _ _ _ _ _ _ h.head]; rfl)
structure Sp (b b' : Bk) (w w' : World) : Prop where
  fr : Dsk.Fr b.fp w w'
  fp : ∀ k, b'.fp k → b.fp k ∨ w.heap.size ≤ k
  q : b'.q = b.q
  dp : b'.d.p = b.d.p
  df : ∀ k, b'.d.fp k → b.d.fp k ∨ w.heap.size ≤ k
theorem Sp.refl (b : Bk) (w : World) : Sp b b w w := ⟨Dsk.Fr.refl _ _, fun _ h => .inl h, rfl, rfl, fun _ h => .inl h⟩
theorem Sp.of_below {b : Bk} {w w' : World} (h : Below w.heap.size w w') : Sp b b w w' := ⟨Dsk.Fr.of_below h, fun _ h => .inl h, rfl, rfl, fun _ h => .inl h⟩
theorem Sp.trans {a b c : Bk} {u v w : World} (h : Sp a b u v) (k : Sp b c v w) : Sp a c u w := by
  refine ⟨h.fr.trans k.fr fun i hi hb => ?_, fun i hi => ?_, k.q.trans h.q, k.dp.trans h.dp, fun i hi => ?_⟩
  · rcases h.fp i hb with h1 | h1
    · exact h1
    · omega
  · rcases k.fp i hi with h1 | h1
    · exact h.fp i h1
    · exact .inr (Nat.le_trans h.fr.size h1)
  · rcases k.df i hi with h1 | h1
    · exact h.df i h1
    · exact .inr (Nat.le_trans h.fr.size h1)
theorem Sk.disk {w w' : World} {b : Bk} {p : Pa} {inv : Bool} {st st' : Dm.St} {m : List Int} (h : Sk w b p inv st m) {o' : Dsk.Ob} (hd : Dsk.Dk w' o' st') (hs : Dsk.Step b.d o' w w') :
    Sk w' { b with d := o' } p inv st' m ∧ Sp b { b with d := o' } w w' := by
  have hq := h.lt b.q (.inl rfl)
  have hnew : ∀ k, o'.fp k → k < w.heap.size → b.d.fp k := fun k hk hlt => (hs.fp k hk).elim id fun c => by omega
  refine ⟨⟨?_, hd, h.tm.keep hs.fr fun k hk hd => h.dt k hd hk, fun k hk ht => h.dt k (hnew k hk (h.tm.lt k ht)) ht, fun hk => h.qd (hnew _ hk hq), h.qt⟩, ⟨hs.fr.mono fun k _ hk => .inr (.inl hk), fun k hk => ?_, rfl, hs.p, hs.fp⟩⟩
  · show w'.heap[b.q]? = some (.cells #[_, _, _, .pointer (some ⟨o'.p, 0, none⟩), _, _, _, _, _, _, _] _ _)
    rw [hs.fr.block b.q hq h.qd, h.head, hs.p]
    rfl
  · rcases hk with rfl | hk | hk
    · exact .inl (.inl rfl)
    · exact (hs.fp k hk).imp (fun h => .inr (.inl h)) id
    · exact .inl (.inr (.inr hk))
theorem Sk.table {w w' : World} {b : Bk} {p : Pa} {inv : Bool} {st : Dm.St} {m m' : List Int} (h : Sk w b p inv st m) {o' : Tb.Ob} (ht : Tb.Tm w' o' m') (hs : Tb.Step b.t o' w w') :
    Sk w' { b with t := o' } p inv st m' ∧ Sp b { b with t := o' } w w' := by
  have hq := h.lt b.q (.inl rfl)
  have hnew : ∀ k, o'.fp k → k < w.heap.size → b.t.fp k := fun k hk hlt => (hs.fp k hk).elim id fun c => by omega
  refine ⟨⟨?_, h.dk.keep hs.fr fun k hk ht => h.dt k hk ht, ht, fun k hk ht => h.dt k hk (hnew k ht (h.dk.lt k hk)), h.qd, fun hk => h.qt (hnew _ hk hq)⟩, ⟨hs.fr.mono fun k _ hk => .inr (.inr hk), fun k hk => ?_, rfl, rfl, fun _ h => .inl h⟩⟩
  · show w'.heap[b.q]? = some (.cells #[_, _, _, _, _, _, _, _, _, _, .pointer (some ⟨o'.p, 0, none⟩)] _ _)
    rw [hs.fr.block b.q hq h.qt, h.head, hs.p]
    rfl
  · rcases hk with rfl | hk | hk
    · exact .inl (.inl rfl)
    · exact .inl (.inr (.inl hk))
    · exact (hs.fp k hk).imp (fun h => .inr (.inr h)) id
def SWent (b : Bk) (p : Pa) (inv : Bool) (st : Dm.St) (m : List Int) (w w' : World) : Prop := ∃ b', Sk w' b' p inv st m ∧ Sp b b' w w'
theorem SWent.refl {w : World} {b : Bk} {p : Pa} {inv : Bool} {st : Dm.St} {m : List Int} (h : Sk w b p inv st m) : SWent b p inv st m w w := ⟨b, h, Sp.refl _ _⟩
theorem SWent.trans {w w1 w2 : World} {b b1 : Bk} {p : Pa} {inv : Bool} {st : Dm.St} {m : List Int} (h1 : Sp b b1 w w1) (h : SWent b1 p inv st m w1 w2) : SWent b p inv st m w w2 := by
  obtain ⟨b2, hk, hs⟩ := h
  exact ⟨b2, hk, h1.trans hs⟩
theorem SWent.below {w w1 w2 : World} {b : Bk} {p : Pa} {inv : Bool} {st : Dm.St} {m : List Int} (hb : Below w.heap.size w w1) (h : SWent b p inv st m w1 w2) : SWent b p inv st m w w2 := SWent.trans (Sp.of_below hb) h
theorem SWent.then {w w1 w2 : World} {b : Bk} {p : Pa} {inv : Bool} {st : Dm.St} {m : List Int} (h : SWent b p inv st m w w1) (hb : Below w1.heap.size w1 w2) : SWent b p inv st m w w2 := by
  obtain ⟨b2, hk, hs⟩ := h
  exact ⟨b2, hk.below hb, hs.trans (Sp.of_below hb)⟩
theorem SWent.fr {w w' : World} {b : Bk} {p : Pa} {inv : Bool} {st : Dm.St} {m : List Int} (h : SWent b p inv st m w w') : Dsk.Fr b.fp w w' := by
  obtain ⟨b2, _, hs⟩ := h
  exact hs.fr
theorem SWent.other {w w1 w2 : World} {b : Bk} {p : Pa} {inv : Bool} {st : Dm.St} {m : List Int} {F : Nat → Prop} (h : SWent b p inv st m w w1) (hf : Dsk.Fr F w1 w2) (hF : ∀ k, F k → w.heap.size ≤ k) (hn : ∀ b', Sk w1 b' p inv st m → Sp b b' w w1 → ∀ k, F k → ¬ b'.fp k) : SWent b p inv st m w w2 := by
  obtain ⟨b2, hk, hs⟩ := h
  have hne := hn b2 hk hs
  refine ⟨b2, hk.keep hf fun k h1 h2 => hne k h2 h1, ⟨hs.fr.trans hf fun k hk1 hk2 => ?_, hs.fp, hs.q, hs.dp, hs.df⟩⟩
  have := hF k hk2
  omega
def faultE (x : Int) : Ending := .panicked [{ v := .iface 141 (.agg #[.int .i64 x]), recovered := false }]
def endE (x : Int) : Ending := if x = 0 then .returned (.tuple #[]) else faultE x
theorem endE_zero : endE 0 = .returned (.tuple #[]) := rfl
theorem endE_no {x : Int} (h : x ≠ 0) : endE x = faultE x := by unfold endE; rw [if_neg h]
end So
end Go.Proofs.YtbmabcddciibfaaGreat
