import PyProof.Rows.All
import Wide.All
import OpenK.AllK
import Wide.FinOn
import HandS.ForMost
import HandS.Style
import HandS.TupAny
import HandS.Strs
import HandS.IsInst
import HandS.StrMore
import HandS.Walk
import KE.GoesEnum
import KE.GoesMore
import HandS.Star
import HandS.Conv
import HandS.ClsMeth
import HandS.MakeKw
import PyProof.ReprLen
import HandS.Set
import HandS.SetTxt0
import PyProof.Rows.SortShellAny
import HandS.TupSets
import KE.KSortTupG
import PyProof.TupleOfSeq
import HandS.ExcIs
import HandS.ExcField
import HandS.ExcValue
import HandS.ExcInit
import KE.KIsAll
import HandS.Lambda
import HandS.WordsExc
import HandS.More
import HandS.OwnEq
import PyProof.InstNe
import HandS.Deep
import HandS.EndTab
import KE.KNestM
import HandS.Nested
import KE.KSuper
import KE.RegKSuper
import HandS.Dict
import HandS.DictComp
import KE.KDictCopyH
import KE.SortKeyed
import HandS.SortKw
import PyProof.P3In
import HandS.Flow
import PySem.Challenge.RW_whatleaves_k32_acts_kept
section
set_option autoImplicit true
namespace K2
open PySem

abbrev Row := Str × List Str
def barredL : List String := ["pass", "raise", "from", "none", "again", "return", "returns", "break", "call", "handling", "else", "either", "or", "loop", "try", "except", "as", "finally", "with", "quiet", "class", "def", "error", "vacant"]
def barred : List Str := barredL.map Str.ofString
def resd : List Str := barred.take 22
def sErr : Str := Str.ofString "error"
def sVac : Str := Str.ofString "vacant"
def codes (x : Str) : List Nat := x.cps.toList
def txt (l : List Nat) : Str := ⟨l.toArray⟩
theorem codes_txt (l : List Nat) : codes (txt l) = l := by simp [codes, txt]
theorem txt_codes (x : Str) : txt (codes x) = x := by cases x; simp [codes, txt]
theorem codes_inj {x y : Str} (h : codes x = codes y) : x = y := by rw [← txt_codes x, ← txt_codes y, h]

/-- a text of small letters -/
def Low (l : List Nat) : Prop := ∀ c ∈ l, 97 ≤ c ∧ c ≤ 122
/-- a word of the document -/
structure VW (x : Str) : Prop where
  low : Low (codes x)
  ne : codes x ≠ []
  le : (codes x).length ≤ 8
  nr : x ∉ resd
theorem vw_err : VW sErr := ⟨by unfold Low; decide +kernel, by decide +kernel, by decide +kernel, by decide +kernel⟩
theorem vw_vac : VW sVac := ⟨by unfold Low; decide +kernel, by decide +kernel, by decide +kernel, by decide +kernel⟩
theorem err_ne_vac : sErr ≠ sVac := by decide +kernel
theorem mem_resd {x : Str} (h : x ∈ resd) : x ∈ barred := List.mem_of_mem_take h
theorem err_barred : sErr ∈ barred := by decide +kernel
theorem vac_barred : sVac ∈ barred := by decide +kernel

/-! ### words -/
def wordAt (base : List Nat) (spot : Nat) (sign : Nat) : List Nat := base.take spot ++ [sign] ++ base.drop spot
def signAt (first hop k : Nat) : Nat := 97 + (first + hop * k) % 26
def finalAt (base : List Nat) (spot first hop k : Nat) : List Nat :=
  let w := wordAt base spot (signAt first hop k)
  w ++ (if 26 ≤ k then [113] else if txt w ∈ barred then [122] else [])
theorem barred_end : ∀ b ∈ barred, ∀ c, (codes b).getLast? = some c → c ≠ 113 ∧ c ≠ 122 := by
  have h : ∀ b ∈ barred, (codes b).getLast? ≠ some 113 ∧ (codes b).getLast? ≠ some 122 := by decide +kernel
  intro b hb c hc
  have := h b hb
  refine ⟨fun e => this.1 (by rw [hc, e]), fun e => this.2 (by rw [hc, e])⟩
theorem low_wordAt (hb : Low base) (h1 : 97 ≤ sign) (h2 : sign ≤ 122) : Low (wordAt base spot sign) := by
  intro c hc
  unfold wordAt at hc
  rcases List.mem_append.mp hc with hc | hc
  · rcases List.mem_append.mp hc with hc | hc
    · exact hb c (List.mem_of_mem_take hc)
    · have : c = sign := by simpa using hc
      omega
  · exact hb c (List.mem_of_mem_drop hc)
theorem len_wordAt (base : List Nat) (spot sign : Nat) : (wordAt base spot sign).length = base.length + 1 := by
  unfold wordAt
  simp only [List.length_append, List.length_take, List.length_drop, List.length_singleton]
  omega
theorem sign_lo (f h k : Nat) : 97 ≤ signAt f h k ∧ signAt f h k ≤ 122 := by
  unfold signAt; omega
theorem sign_ne {f hop i j : Nat} (hh : hop ∈ [1, 3, 5, 7, 9, 11]) (h1 : i < j) (h2 : j < i + 26) : signAt f hop i ≠ signAt f hop j := by
  unfold signAt
  simp only [List.mem_cons, List.not_mem_nil, or_false] at hh
  rcases hh with rfl | rfl | rfl | rfl | rfl | rfl <;> omega
theorem word_ne {base : List Nat} {spot s t : Nat} (h : s ≠ t) : wordAt base spot s ≠ wordAt base spot t := by
  unfold wordAt
  intro e
  rw [List.append_assoc, List.append_assoc] at e
  have := List.append_cancel_left e
  have h2 : s = t := by simpa using (List.cons.inj this).1
  exact h h2
theorem vw_final {base : List Nat} (hb : Low base) (hl : base.length ≤ 6) (spot f hop k : Nat) : VW (txt (finalAt base spot f hop k)) ∧ txt (finalAt base spot f hop k) ∉ barred := by
  have hw := low_wordAt (spot := spot) hb (sign_lo f hop k).1 (sign_lo f hop k).2
  have hlen := len_wordAt base spot (signAt f hop k)
  have nb : txt (finalAt base spot f hop k) ∉ barred := by
    intro hm
    have he := barred_end _ hm
    rw [codes_txt] at he
    by_cases h1 : 26 ≤ k
    · unfold finalAt at he
      simp only [h1, if_true] at he
      exact (he 113 (by simp)).1 rfl
    · by_cases h2 : txt (wordAt base spot (signAt f hop k)) ∈ barred
      · unfold finalAt at he
        simp only [h1, if_false, h2, if_true] at he
        exact (he 122 (by simp)).2 rfl
      · unfold finalAt at hm
        simp only [h1, if_false, h2, if_false, List.append_nil] at hm
  refine ⟨⟨?_, ?_, ?_, fun h => nb (mem_resd h)⟩, nb⟩
  · rw [codes_txt]
    unfold finalAt
    intro c hc
    rcases List.mem_append.mp hc with hc | hc
    · exact hw c hc
    · split at hc
      · have : c = 113 := by simpa using hc
        omega
      · split at hc
        · have : c = 122 := by simpa using hc
          omega
        · cases hc
  · rw [codes_txt]
    intro e
    have : (finalAt base spot f hop k).length = 0 := by rw [e]; rfl
    unfold finalAt at this
    rw [List.length_append, hlen] at this
    omega
  · rw [codes_txt]
    unfold finalAt
    rw [List.length_append, hlen]
    split
    · show base.length + 1 + 1 ≤ 8; omega
    · split
      · show base.length + 1 + 1 ≤ 8; omega
      · show base.length + 1 + 0 ≤ 8; omega
theorem final_ne {base : List Nat} {spot f hop i j : Nat} (hh : hop ∈ [1, 3, 5, 7, 9, 11]) (h1 : i < j) (hj : j < 32) : finalAt base spot f hop i ≠ finalAt base spot f hop j := by
  have li := len_wordAt base spot (signAt f hop i)
  have lj := len_wordAt base spot (signAt f hop j)
  intro e
  have key : ∀ {w1 w2 : List Nat} {a b : Nat}, w1 ++ [a] = w2 ++ [b] → w1 = w2 ∧ a = b := by
    intro w1 w2 a b h
    have := List.append_inj' h rfl
    exact ⟨this.1, by simpa using this.2⟩
  unfold finalAt at e
  by_cases c1 : 26 ≤ i
  · have c2 : 26 ≤ j := by omega
    simp only [c1, c2, if_true] at e
    exact word_ne (sign_ne hh h1 (by omega)) (key e).1
  · by_cases c2 : 26 ≤ j
    · simp only [c1, if_false, c2, if_true] at e
      by_cases c3 : txt (wordAt base spot (signAt f hop i)) ∈ barred
      · simp only [c3, if_true] at e
        exact absurd (key e).2 (by decide)
      · simp only [c3, if_false, List.append_nil] at e
        have := congrArg List.length e
        rw [List.length_append, li, lj] at this
        simp at this
    · have hs : wordAt base spot (signAt f hop i) ≠ wordAt base spot (signAt f hop j) := word_ne (sign_ne hh h1 (by omega))
      simp only [c1, if_false, c2] at e
      by_cases c3 : txt (wordAt base spot (signAt f hop i)) ∈ barred
      · by_cases c4 : txt (wordAt base spot (signAt f hop j)) ∈ barred
        · simp only [c3, c4, if_true] at e
          exact hs (key e).1
        · simp only [c3, c4, if_true, if_false, List.append_nil] at e
          have := congrArg List.length e
          rw [List.length_append, li, lj] at this
          simp at this
      · by_cases c4 : txt (wordAt base spot (signAt f hop j)) ∈ barred
        · simp only [c3, c4, if_true, if_false, List.append_nil] at e
          have := congrArg List.length e
          rw [List.length_append, li, lj] at this
          simp at this
        · simp only [c3, c4, if_false, List.append_nil] at e
          exact hs e
def finals (base : List Nat) (spot f hop n : Nat) : List Str := (List.range n).map fun k => txt (finalAt base spot f hop k)
/-- what words are for the law: so many unlike words, none of them error or vacant -/
structure Words (ws : List Str) : Prop where
  vw : ∀ x ∈ ws, VW x
  nb : ∀ x ∈ ws, x ∉ barred
  nd : ws.Nodup
theorem nodup_of_inj {α : Type} {f : Nat → α} {n : Nat} (h : ∀ i j, i < j → j < n → f i ≠ f j) : ((List.range n).map f).Nodup := by
  unfold List.Nodup
  rw [List.pairwise_map]
  refine List.Pairwise.imp_of_mem ?_ (List.pairwise_lt_range (n := n))
  intro a b _ hb hab
  exact h a b hab (List.mem_range.mp hb)
theorem words_finals {base : List Nat} (hb : Low base) (hl : base.length ≤ 6) {hop : Nat} (hh : hop ∈ [1, 3, 5, 7, 9, 11]) {n : Nat} (hn : n ≤ 32) (spot f : Nat) : Words (finals base spot f hop n) := by
  refine ⟨fun x hx => ?_, fun x hx => ?_, ?_⟩
  · obtain ⟨k, _, rfl⟩ := List.mem_map.mp hx
    exact (vw_final hb hl spot f hop k).1
  · obtain ⟨k, _, rfl⟩ := List.mem_map.mp hx
    exact (vw_final hb hl spot f hop k).2
  · refine nodup_of_inj fun i j h1 h2 e => final_ne (base := base) (spot := spot) (f := f) hh h1 (by omega) ?_
    have := congrArg codes e
    rwa [codes_txt, codes_txt] at this
theorem barred_two : ∀ b ∈ barred, 2 ≤ (codes b).length ∧ (codes b)[0]? ≠ (codes b)[1]? := by decide +kernel
def reps (c n : Nat) : List Str := (List.range n).map fun k => txt (List.replicate (k + 1) c)
theorem words_reps {c : Nat} (h1 : 97 ≤ c) (h2 : c ≤ 122) {n : Nat} (hn : n ≤ 8) : Words (reps c n) := by
  have nb : ∀ k, txt (List.replicate (k + 1) c) ∉ barred := by
    intro k hm
    have := barred_two _ hm
    rw [codes_txt] at this
    rw [List.length_replicate] at this
    apply this.2
    rw [List.getElem?_replicate, List.getElem?_replicate, if_pos (by omega), if_pos (by omega)]
  refine ⟨fun x hx => ?_, fun x hx => ?_, ?_⟩
  · obtain ⟨k, hk, rfl⟩ := List.mem_map.mp hx
    have hk := List.mem_range.mp hk
    refine ⟨?_, ?_, ?_, fun h => nb k (mem_resd h)⟩
    · rw [codes_txt]
      intro d hd
      have := List.eq_of_mem_replicate hd
      omega
    · rw [codes_txt]
      intro e
      have := congrArg List.length e
      rw [List.length_replicate] at this
      simp at this
    · rw [codes_txt, List.length_replicate]
      omega
  · obtain ⟨k, hk, rfl⟩ := List.mem_map.mp hx
    exact nb k
  · refine nodup_of_inj fun i j h1 h2 e => ?_
    have := congrArg (fun x => (codes x).length) e
    simp only [codes_txt, List.length_replicate] at this
    omega
theorem Words.rev {ws : List Str} (h : Words ws) : Words ws.reverse := ⟨fun x hx => h.vw x (List.mem_reverse.mp hx), fun x hx => h.nb x (List.mem_reverse.mp hx), by
  have := h.nd
  unfold List.Nodup at *
  rw [List.pairwise_reverse]
  exact this.imp fun h e => h e.symm⟩
end K2
end
section
set_option autoImplicit true
namespace K2
open PySem

def base0 : List Str := [sErr, sVac]
structure RowOk (known : List Str) (r : Row) : Prop where
  vw : VW r.1
  new : r.1 ∉ known
  ne : r.2 ≠ []
  nd : r.2.Nodup
  sub : ∀ b ∈ r.2, b ∈ known
def knownAt (rs : List Row) (i : Nat) : List Str := base0 ++ (rs.take i).map (·.1)
def Good (rs : List Row) : Prop := ∀ (i : Nat) (r : Row), rs[i]? = some r → RowOk (knownAt rs i) r
theorem good_nil : Good [] := fun i r h => by simp at h
theorem good_snoc {rs : List Row} {r : Row} (g : Good rs) (h : RowOk (base0 ++ rs.map (·.1)) r) : Good (rs ++ [r]) := by
  intro i q hq
  by_cases hi : i < rs.length
  · rw [List.getElem?_append_left hi] at hq
    have := g i q hq
    unfold knownAt at *
    rw [List.take_append_of_le_length (by omega)]
    exact this
  · have hi2 : i = rs.length := by
      have := (List.getElem?_eq_some_iff.mp hq).1
      rw [List.length_append, List.length_singleton] at this
      omega
    subst hi2
    rw [List.getElem?_append_right (Nat.le_refl _), Nat.sub_self] at hq
    simp at hq
    subst hq
    unfold knownAt
    rw [List.take_append_of_le_length (Nat.le_refl _), List.take_length]
    exact h
theorem vw_base0 : ∀ x ∈ base0, VW x := by
  intro x hx
  unfold base0 at hx
  rcases List.mem_cons.mp hx with rfl | hx
  · exact vw_err
  · have : x = sVac := by simpa using hx
    subst this
    exact vw_vac
theorem Good.vw_known {rs : List Row} (g : Good rs) (i : Nat) : ∀ x ∈ knownAt rs i, VW x := by
  intro x hx
  rcases List.mem_append.mp hx with hx | hx
  · exact vw_base0 x hx
  · obtain ⟨r, hr, rfl⟩ := List.mem_map.mp hx
    obtain ⟨j, hj⟩ := List.getElem?_of_mem (List.mem_of_mem_take hr)
    exact (g j r hj).vw
theorem knownAt_len {rs : List Row} {i : Nat} (h : i ≤ rs.length) : (knownAt rs i).length = i + 2 := by
  unfold knownAt base0
  simp [List.length_take]
  omega
theorem knownAt_succ {rs : List Row} {i : Nat} {r : Row} (h : rs[i]? = some r) : knownAt rs (i + 1) = knownAt rs i ++ [r.1] := by
  unfold knownAt
  rw [List.take_add_one, h]
  simp
theorem base0_nd : base0.Nodup := by
  unfold base0
  simp [err_ne_vac]
theorem Good.nodup {rs : List Row} (g : Good rs) : ∀ i, i ≤ rs.length → (knownAt rs i).Nodup
  | 0, _ => by simpa [knownAt] using base0_nd
  | i + 1, h => by
    have hi : rs[i]? = some rs[i] := List.getElem?_eq_getElem (by omega)
    rw [knownAt_succ hi]
    refine List.nodup_append.mpr ⟨g.nodup i (by omega), by simp, ?_⟩
    intro a ha b hb e
    have : b = rs[i].1 := by simpa using hb
    subst this
    subst e
    exact (g i _ hi).new ha
/-- the rows of words, with any bases among those known -/
def namesOf (rs : List Row) : List Str := rs.map (·.1)
structure Sub1 (r q : Row) : Prop where
  nm : q.1 = r.1
  sl : q.2.Sublist r.2
  ne : q.2 ≠ []
theorem good_sub {rs qs : List Row} (g : Good rs) (hl : qs.length = rs.length) (h : ∀ (i : Nat) (r q : Row), rs[i]? = some r → qs[i]? = some q → Sub1 r q) : Good qs := by
  have en : ∀ i, (qs.take i).map (·.1) = (rs.take i).map (·.1) := by
    intro i
    apply List.ext_getElem?
    intro j
    rw [List.getElem?_map, List.getElem?_map, List.getElem?_take, List.getElem?_take]
    split
    · by_cases hj : j < rs.length
      · have h1 : rs[j]? = some rs[j] := List.getElem?_eq_getElem hj
        have h2 : qs[j]? = some qs[j] := List.getElem?_eq_getElem (by omega)
        rw [h1, h2]
        simp [(h j _ _ h1 h2).nm]
      · rw [List.getElem?_eq_none (by omega), List.getElem?_eq_none (by omega)]
    · rfl
  intro i q hq
  have hi : i < rs.length := by
    have := (List.getElem?_eq_some_iff.mp hq).1
    omega
  have h1 : rs[i]? = some rs[i] := List.getElem?_eq_getElem hi
  have k := h i _ _ h1 hq
  have R := g i _ h1
  unfold knownAt at *
  rw [en i]
  refine ⟨by rw [k.nm]; exact R.vw, by rw [k.nm]; exact R.new, k.ne, R.nd.sublist k.sl, fun b hb => R.sub b (k.sl.subset hb)⟩

/-! ### what is within what -/
abbrev Tb := List (Str × List Str)
def look : Tb → Str → List Str
  | [], _ => []
  | (k, u) :: t, x => if k = x then u else look t x
def keys (t : Tb) : List Str := t.map (·.1)
def insK (ks : List Str) (x : Str) : List Str := if x ∈ ks then ks else ks ++ [x]
def mergeU (m us : List Str) : List Str := m ++ us.filter fun u => decide (u ∉ m)
def lineL (t : Tb) (m : List Str) (bs : List Str) : List Str := bs.foldl (fun m b => mergeU m (look t b)) m
def lineOf (t : Tb) (r : Row) : List Str := lineL t [r.1] r.2
def t0 : Tb := [(sErr, [sErr]), (sVac, [sVac, sErr])]
def stepT (t : Tb) (r : Row) : Tb := t ++ [(r.1, lineOf t r)]
def ups (rs : List Row) : Tb := rs.foldl stepT t0
theorem ups_succ {rs : List Row} {i : Nat} {r : Row} (h : rs[i]? = some r) : ups (rs.take (i + 1)) = stepT (ups (rs.take i)) r := by
  unfold ups
  rw [List.take_add_one, h]
  simp
theorem ups_snoc (rs : List Row) (r : Row) : ups (rs ++ [r]) = stepT (ups rs) r := by unfold ups; simp
theorem keys_ups (rs : List Row) : keys (ups rs) = base0 ++ rs.map (·.1) := by
  have h : ∀ (rs : List Row) (t : Tb), keys (rs.foldl stepT t) = keys t ++ rs.map (·.1) := by
    intro rs
    induction rs with
    | nil => intro t; simp
    | cons r rs ih =>
      intro t
      rw [List.foldl_cons, ih]
      simp [keys, stepT]
  exact h rs t0
theorem keys_ups_take (rs : List Row) (i : Nat) : keys (ups (rs.take i)) = knownAt rs i := keys_ups _
theorem foldl_insK : ∀ (us ks : List Str), us.Nodup → us.foldl insK ks = mergeU ks us
  | [], ks, _ => by simp [mergeU]
  | u :: us, ks, h => by
    have h1 := List.nodup_cons.mp h
    rw [List.foldl_cons, foldl_insK us _ h1.2]
    unfold insK mergeU
    by_cases hu : u ∈ ks
    · rw [if_pos hu, List.filter_cons]
      simp [hu]
    · rw [if_neg hu, List.filter_cons]
      simp only [hu, not_false_eq_true, decide_true, if_true]
      rw [List.append_assoc, List.singleton_append]
      congr 2
      apply List.filter_congr
      intro x hx
      have : x ≠ u := fun e => h1.1 (e ▸ hx)
      simp [this]
structure LineOk (pre : List Str) (x : Str) (us : List Str) : Prop where
  nd : us.Nodup
  self : x ∈ us
  err : sErr ∈ us
  sub : ∀ u ∈ us, u = x ∨ u ∈ pre
def TOk (t : Tb) : Prop := ∀ a x us b, t = a ++ (x, us) :: b → LineOk (keys a) x us ∧ x ∉ keys a
theorem tok_t0 : TOk t0 := by
  intro a x us b h
  unfold t0 at h
  rcases a with _ | ⟨p, a⟩
  · simp at h
    obtain ⟨⟨rfl, rfl⟩, _⟩ := h
    exact ⟨⟨by simp, by simp, by simp, by simp⟩, by simp [keys]⟩
  · rcases a with _ | ⟨q, a⟩
    · simp at h
      obtain ⟨rfl, ⟨rfl, rfl⟩, _⟩ := h
      refine ⟨⟨by simp [err_ne_vac.symm], by simp, by simp, ?_⟩, ?_⟩
      · intro u hu
        simp [keys] at *
        exact hu
      · simp [keys, err_ne_vac.symm]
    · simp at h
theorem look_mem : ∀ {t : Tb} {x : Str}, x ∈ keys t → ∃ a b, t = a ++ (x, look t x) :: b
  | [], x, h => by simp [keys] at h
  | (k, u) :: t, x, h => by
    by_cases e : k = x
    · subst e
      refine ⟨[], t, ?_⟩
      simp [look]
    · have h2 : x ∈ keys t := by
        unfold keys at *
        rcases List.mem_cons.mp h with e2 | h2
        · exact absurd e2.symm e
        · exact h2
      obtain ⟨a, b, hab⟩ := look_mem h2
      refine ⟨(k, u) :: a, b, ?_⟩
      simp only [look, if_neg e, List.cons_append]
      rw [← hab]
theorem keys_mid {a b : Tb} {x : Str} {us : List Str} : keys (a ++ (x, us) :: b) = keys a ++ x :: keys b := by simp [keys]
theorem TOk.line {t : Tb} (T : TOk t) {x : Str} (h : x ∈ keys t) : (look t x).Nodup ∧ x ∈ look t x ∧ sErr ∈ look t x ∧ ∀ u ∈ look t x, u ∈ keys t := by
  obtain ⟨a, b, e⟩ := look_mem h
  obtain ⟨L, _⟩ := T a x (look t x) b e
  refine ⟨L.nd, L.self, L.err, fun u hu => ?_⟩
  rw [e, keys_mid]
  rcases L.sub u hu with rfl | hu
  · simp
  · exact List.mem_append_left _ hu
theorem TOk.nodup : ∀ {t : Tb}, TOk t → (keys t).Nodup := by
  intro t T
  have h : ∀ (b a : Tb), t = a ++ b → (keys a).Nodup → (keys t).Nodup := by
    intro b
    induction b with
    | nil => intro a e h; rw [e, List.append_nil]; exact h
    | cons p b ih =>
      intro a e h
      obtain ⟨x, us⟩ := p
      refine ih (a ++ [(x, us)]) (by rw [e]; simp) ?_
      have := (T a x us b e).2
      unfold keys at *
      rw [List.map_append]
      refine List.nodup_append.mpr ⟨h, by simp, ?_⟩
      intro c hc d hd q
      have : d = x := by simpa using hd
      subst this
      subst q
      contradiction
  exact h t [] (by simp) (by simp [keys])
theorem split_uniq {a b c d : Tb} {x : Str} {us vs : List Str} (h : a ++ (x, us) :: b = c ++ (x, vs) :: d) (ha : x ∉ keys a) (hc : x ∉ keys c) : a = c := by
  induction a generalizing c with
  | nil =>
    rcases c with _ | ⟨q, c⟩
    · rfl
    · simp at h
      exfalso
      apply hc
      rw [← h.1]
      simp [keys]
  | cons p a ih =>
    rcases c with _ | ⟨q, c⟩
    · simp at h
      exfalso
      apply ha
      rw [h.1]
      simp [keys]
    · simp only [List.cons_append, List.cons.injEq] at h
      rw [h.1, ih h.2 (fun m => ha (by unfold keys at *; exact List.mem_cons_of_mem _ m)) (fun m => hc (by unfold keys at *; exact List.mem_cons_of_mem _ m))]
theorem TOk.back {t : Tb} (T : TOk t) {x y : Str} (hx : x ∈ keys t) (hy : y ∈ look t x) (ne : y ≠ x) : x ∉ look t y := by
  intro hxy
  obtain ⟨a, b, e⟩ := look_mem hx
  obtain ⟨L, hn⟩ := T a x _ b e
  have hya : y ∈ keys a := (L.sub y hy).resolve_left ne
  have hyt : y ∈ keys t := by rw [e, keys_mid]; exact List.mem_append_left _ hya
  obtain ⟨c, d, e2⟩ := look_mem hyt
  obtain ⟨M, hm⟩ := T c y _ d e2
  have hxc : x ∈ keys c := (M.sub x hxy).resolve_left ne.symm
  -- y stands in a, so c is a beginning of a
  obtain ⟨a1, a2, e3⟩ := look_mem hya
  have e4 : t = a1 ++ (y, look a y) :: (a2 ++ (x, look t x) :: b) := by
    rw [List.append_cons, ← List.append_assoc] 
    conv => lhs; rw [e, e3]
    simp
  have hm2 : y ∉ keys a1 := (T a1 y _ _ e4).2
  have : c = a1 := split_uniq (e2.symm.trans e4) hm hm2
  subst this
  apply hn
  rw [e3, keys_mid]
  exact List.mem_append_left _ hxc
theorem mergeU_ok {t : Tb} {m us : List Str} (hm : m.Nodup) (hu : us.Nodup) : (mergeU m us).Nodup := by
  unfold mergeU
  refine List.nodup_append.mpr ⟨hm, hu.filter _, ?_⟩
  intro a ha b hb e
  subst e
  have := (List.mem_filter.mp hb).2
  simp at this
  exact this ha
theorem lineL_ok {t : Tb} (T : TOk t) {x : Str} : ∀ (bs m : List Str), (∀ b ∈ bs, b ∈ keys t) → m.Nodup → (∀ u ∈ m, u = x ∨ u ∈ keys t) →
    (lineL t m bs).Nodup ∧ (∀ u ∈ lineL t m bs, u = x ∨ u ∈ keys t) ∧ (∀ u ∈ m, u ∈ lineL t m bs) ∧ (bs ≠ [] → sErr ∈ lineL t m bs)
  | [], m, _, h1, h2 => ⟨h1, h2, fun u hu => hu, fun h => absurd rfl h⟩
  | b :: bs, m, hb, h1, h2 => by
    have L := T.line (hb b List.mem_cons_self)
    have n1 := mergeU_ok (t := t) h1 L.1
    have s1 : ∀ u ∈ mergeU m (look t b), u = x ∨ u ∈ keys t := by
      intro u hu
      rcases List.mem_append.mp hu with hu | hu
      · exact h2 u hu
      · exact .inr (L.2.2.2 u (List.mem_filter.mp hu).1)
    obtain ⟨q1, q2, q3, q4⟩ := lineL_ok T bs (mergeU m (look t b)) (fun c hc => hb c (List.mem_cons_of_mem _ hc)) n1 s1
    refine ⟨q1, q2, fun u hu => q3 u (List.mem_append_left _ hu), fun _ => ?_⟩
    apply q3
    by_cases he : sErr ∈ m
    · exact List.mem_append_left _ he
    · exact List.mem_append_right _ (List.mem_filter.mpr ⟨L.2.2.1, by simpa using he⟩)
theorem tok_step {t : Tb} (T : TOk t) {r : Row} (R : RowOk (keys t) r) : TOk (stepT t r) := by
  intro a x us b e
  unfold stepT at e
  rcases List.eq_nil_or_concat b with rfl | ⟨b', z, rfl⟩
  · have := List.append_inj' e rfl
    obtain ⟨rfl, e2⟩ := this
    simp at e2
    obtain ⟨rfl, rfl⟩ := e2
    have := lineL_ok T (x := r.1) r.2 [r.1] R.sub (by simp) (by simp)
    exact ⟨⟨this.1, this.2.2.1 _ (by simp), this.2.2.2 R.ne, this.2.1⟩, R.new⟩
  · rw [List.concat_eq_append, ← List.cons_append, ← List.append_assoc] at e
    have := List.append_inj' e rfl
    exact T a x us b' this.1
theorem tok_ups {rs : List Row} (g : Good rs) : ∀ i, i ≤ rs.length → TOk (ups (rs.take i))
  | 0, _ => by simpa [ups] using tok_t0
  | i + 1, h => by
    have hi : rs[i]? = some rs[i] := List.getElem?_eq_getElem (by omega)
    rw [ups_succ hi]
    refine tok_step (tok_ups g i (by omega)) ?_
    rw [keys_ups_take]
    exact g i _ hi
end K2
end
section
set_option Elab.async false
set_option maxRecDepth 100000
set_option linter.all false
namespace K2
open PySem L2
/-! ### the text by places -/
def top (i : Nat) : Stmt := PySem.Challenge.pw_whatleaves_k32_acts_kept.main.body.getD i (.Pass ⟨0, 0, 0, 0⟩)
abbrev sDraw : Stmt := top 18
/-! ### what the built-in names hold -/
structure Bi (mg : Str → Option Value) : Prop where
  len : mg "len" = none
  int : mg "int" = none
  abs : mg "abs" = none
  range : mg "range" = none
  list : mg "list" = none
  tuple : mg "tuple" = none
  enumerate : mg "enumerate" = none
  isinstance : mg "isinstance" = none
  str : mg "str" = none
  set : mg "set" = none
  all : mg "all" = none
  repr : mg "repr" = none
/-! ### the pen -/
def penO (c : Addr) (a l : Int) : HO := .lst [.ref c, .int a, .int l]
structure Pen (H : Hp) (p c : Addr) (ns : List Int) (n : Nat) : Prop where
  pen : ∃ a l : Int, H p = some (penO c a l) ∧ 0 ≤ a ∧ a ≤ n ∧ 0 ≤ l
  cells : H c = some (.lst (ns.map V.int))
  small : ns.length ≤ 63
def Keep (p : Addr) (H H' : Hp) : Prop := ∀ b o, H b = some o → b ≠ p → H' b = some o
theorem Keep.refl (p : Addr) (H : Hp) : Keep p H H := fun _ _ h _ => h
theorem Keep.trans {p : Addr} {H H1 H2 : Hp} (a : Keep p H H1) (b : Keep p H1 H2) : Keep p H H2 := fun c o h n => b c o (a c o h n) n
theorem Keep.new {p q : Addr} {H H1 : Hp} {o : HO} (k : Keep p H H1) (h : H q = none) : Keep p H (upd H1 q o) := fun b u hb n => by
  rw [upd_ne (ne_of_none hb h)]
  exact k b u hb n
theorem Keep.at {p : Addr} {H H1 : Hp} {o : HO} (k : Keep p H H1) : Keep p H (upd H1 p o) := fun b u hb n => by
  rw [upd_ne n]
  exact k b u hb n
theorem Pen.mono {H : Hp} {p c : Addr} {ns : List Int} {n m : Nat} (h : Pen H p c ns n) (e : n ≤ m) : Pen H p c ns m := by
  obtain ⟨a, l, h1, h2, h3, h4⟩ := h.pen
  exact ⟨⟨a, l, h1, h2, by omega, h4⟩, h.cells, h.small⟩
theorem Pen.ne {H : Hp} {p c : Addr} {ns : List Int} {n : Nat} (h : Pen H p c ns n) : c ≠ p := by
  obtain ⟨a, l, h1, _⟩ := h.pen
  refine ne_of h.cells h1 ?_
  unfold penO
  intro e
  injection e with e
  cases ns with
  | nil => simp at e
  | cons n ns => simp at e
/-- the pen behind a new object -/
theorem Pen.new {H : Hp} {p c q : Addr} {ns : List Int} {n : Nat} {o : HO} (h : Pen H p c ns n) (hq : H q = none) : Pen (upd H q o) p c ns n := by
  obtain ⟨a, l, h1, h2, h3, h4⟩ := h.pen
  exact ⟨⟨a, l, by rw [upd_ne (ne_of_none h1 hq)]; exact h1, h2, h3, h4⟩, by rw [upd_ne (ne_of_none h.cells hq)]; exact h.cells, h.small⟩
/-- the pen behind a store elsewhere -/
theorem Pen.upd' {H : Hp} {p c q : Addr} {ns : List Int} {n : Nat} {o : HO} (h : Pen H p c ns n) (h1 : p ≠ q) (h2 : c ≠ q) : Pen (upd H q o) p c ns n := by
  obtain ⟨a, l, g1, g2, g3, g4⟩ := h.pen
  exact ⟨⟨a, l, by rw [upd_ne h1]; exact g1, g2, g3, g4⟩, by rw [upd_ne h2]; exact h.cells, h.small⟩
theorem Pen.set {H : Hp} {p c : Addr} {ns : List Int} {n m : Nat} (h : Pen H p c ns n) {a l : Int} (h1 : 0 ≤ a) (h2 : a ≤ m) (h3 : 0 ≤ l) : Pen (upd H p (penO c a l)) p c ns m :=
  ⟨⟨a, l, upd_same, h1, h2, h3⟩, by rw [upd_ne h.ne]; exact h.cells, h.small⟩

def spDraw : Sp := fun vs H Q _ => ∃ (p c : Addr) (ns : List Int) (n : Nat) (m : Int), vs = [.ref p, .int m] ∧ Pen H p c ns n ∧ n ≤ 100000 ∧ 0 < m ∧ m < 1073741824 ∧
  ∀ (v : Int) (H' : Hp), 0 ≤ v → v < m → Keep p H H' → Pen H' p c ns (n + 1) → Q (.int v) H'

section
variable {P : Program} {w : World} {K : PySem.W.Frag} {mg : Str → Option Value} {base : Heap}
abbrev nDraw : List Str := ["_law_pen_here", "_law_many", "_law_digit", "_law_at", "_law_cell", "_law_great", "_law_mixed_here"]
theorem scDraw : FnScope nDraw ["_law_pen_here", "_law_many"] (defScope sDraw) := ⟨rfl, rfl, rfl, by decide +kernel, rfl, by decide +kernel, by decide +kernel⟩
theorem fmod_lo {a m : Int} (h : 0 < m) : 0 ≤ a.fmod m := Int.fmod_nonneg_of_pos a h
theorem fmod_hi {a m : Int} (h : 0 < m) : a.fmod m < m := Int.fmod_lt_of_pos a h
theorem fdiv_nn {a m : Int} (ha : 0 ≤ a) (h : 0 < m) : 0 ≤ a.fdiv m := Int.fdiv_nonneg ha (Int.le_of_lt h)
theorem mul_bnd {x y X Y : Int} (h1 : 0 ≤ x) (h2 : x ≤ X) (h3 : 0 ≤ y) (h4 : y ≤ Y) : 0 ≤ x * y ∧ x * y ≤ X * Y :=
  ⟨Int.mul_nonneg h1 h3, Int.mul_le_mul h2 h4 h3 (Int.le_trans h1 h2)⟩
theorem ints_dp (K : PySem.W.Frag) (H : Hp) : ∀ ns : List Int, DpAll K H (ns.map V.int) (ns.map PyData.int)
  | [] => .nil
  | n :: ns => .cons (.int n) (ints_dp K H ns)
theorem canLay_ints : ∀ ns : List Int, PyData.canLayAll0 (ns.map PyData.int) = true
  | [] => rfl
  | n :: ns => by
    show (true && PyData.canLayAll0 (ns.map PyData.int)) = true
    rw [canLay_ints ns]
    rfl
theorem depth_ints : ∀ ns : List Int, PyData.depthAll (ns.map PyData.int) = 0
  | [] => rfl
  | n :: ns => by
    show max 0 (PyData.depthAll (ns.map PyData.int)) = 0
    rw [depth_ints ns]
    rfl
theorem shaped_ints (ns : List Int) : SeqAt.shaped (.list (ns.map PyData.int)) = true := by
  show (PyData.canLayAll0 (ns.map PyData.int) && decide (PyData.depthAll (ns.map PyData.int) + 1 ≤ 64)) = true
  rw [canLay_ints, depth_ints]
  rfl
theorem eqv_nil (ns : List Int) : (!PyData.eqv (.list (ns.map PyData.int)) (.list [])) = !ns.isEmpty := by
  cases ns <;> rfl
theorem len_pos_lt {n : Nat} {a : Int} (h : 0 < n) : 0 ≤ a.fmod (n : Int) ∧ a.fmod (n : Int) < n := ⟨fmod_lo (by omega), fmod_hi (by omega)⟩
end
end K2
end
section
set_option Elab.async false
set_option maxRecDepth 100000
set_option linter.all false
namespace K2
open PySem L2
abbrev sWords : Stmt := top 19
/-- a def of the program: its text, where it stands, how it binds -/
structure Df (K : PySem.W.Frag) (mg : Str → Option Value) (x : Str) (st : Stmt) (f : Addr) (fd : FuncData) (ps : List Str) : Prop where
  F : Fun K x x st f fd
  m : mg x = some (.ref f)
  b : Binds K fd ps []
/-- a list of the heap, or a text: its items -/
def SeqV (p : Addr) (H : Hp) (y : V) (xs : List V) : Prop := (∃ l, y = .ref l ∧ l ≠ p ∧ H l = some (.lst xs)) ∨ (∃ z : Str, y = .str z ∧ xs = (codes z).map (fun c => V.str ⟨#[c]⟩) ∧ z.length ≤ 100) ∨ (∃ t, y = .ref t ∧ t ≠ p ∧ H t = some (.tup xs))
def spPick : Sp := fun vs H Q _ => ∃ (p c : Addr) (ns : List Int) (n : Nat) (y : V) (xs : List V), vs = [.ref p, y] ∧ Pen H p c ns n ∧ n ≤ 100000 ∧ SeqV p H y xs ∧ xs ≠ [] ∧ xs.length ≤ 1000 ∧
  ∀ (j : Nat) (v : V) (H' : Hp), xs[j]? = some v → Keep p H H' → Pen H' p c ns (n + 1) → Q v H'
def spBarred : Sp := fun vs H Q _ => vs = [] ∧ ∀ l, H l = none → Q (.ref l) (upd H l (.lst (barred.map V.str)))
section
variable {P : Program} {w : World} {K : PySem.W.Frag} {mg : Str → Option Value} {base : Heap}
end
end K2
end
section
set_option Elab.async false
set_option maxRecDepth 100000
set_option linter.all false
namespace K2
open PySem L2
theorem strs_ne_pen {ys : List Str} {c : Addr} {a l : Int} : HO.lst (ys.map V.str) ≠ penO c a l := by
  unfold penO
  intro e
  injection e with e
  cases ys with
  | nil => simp at e
  | cons y ys => simp at e
theorem str_eqV (a b : Str) : eqV (.str a) (.str b) = decide (a = b) := by
  show (a == b) = decide (a = b)
  by_cases h : a = b
  · simp [h]
  · simp [h]
theorem inV_strs (x : Str) : ∀ ys : List Str, inV (.str x) (ys.map V.str) = decide (x ∈ ys)
  | [] => rfl
  | y :: ys => by
    show (eqV (.str y) (.str x) || inV (.str x) (ys.map V.str)) = decide (x ∈ y :: ys)
    rw [inV_strs x ys, str_eqV]
    by_cases h : y = x
    · subst h; simp
    · have h2 : ¬ x = y := fun e => h e.symm
      simp [h, h2]
theorem flat_strs : ∀ ys : List Str, (ys.map V.str).all flatV = true
  | [] => rfl
  | y :: ys => by
    show (true && (ys.map V.str).all flatV) = true
    rw [flat_strs ys]
    rfl
theorem codes_append (x y : Str) : codes (x ++ y) = codes x ++ codes y := TL.tl_append x y
theorem codes_one (c : Nat) : codes ⟨#[c]⟩ = [c] := rfl
theorem len_codes (x : Str) : x.length = (codes x).length := by
  show x.cps.size = x.cps.toList.length
  simp
theorem join_ones : ∀ l : List Nat, codes (Txt.join Str.empty (l.map fun c => (⟨#[c]⟩ : Str))) = l := by
  intro l
  rw [TL.join_eq]
  show TL.tl (Str.join Str.empty _) = l
  rw [TL.tl_join]
  show TL.joinL [] _ = l
  induction l with
  | nil => rfl
  | cons c l ih =>
    cases l with
    | nil => rfl
    | cons d l =>
      show [c] ++ ([] ++ TL.joinL [] _) = _
      rw [List.nil_append]
      show [c] ++ TL.joinL [] (List.map TL.tl (List.map (fun c => (⟨#[c]⟩ : Str)) (d :: l))) = c :: d :: l
      rw [ih]
      rfl
theorem cut_to {z : Str} {k : Nat} (h : k ≤ (codes z).length) : codes (cutS z none (some (k : Int))) = (codes z).take k := by
  unfold cutS codes
  rw [HT.sIx_nat, HT.sIx_none]
  have e : z.length = z.cps.toList.length := len_codes z
  have h' : k ≤ z.cps.toList.length := h
  simp only [List.drop_zero, Nat.sub_zero]
  rw [Nat.min_eq_left (by omega)]
theorem cut_from {z : Str} {k : Nat} (h : k ≤ (codes z).length) : codes (cutS z (some (k : Int)) none) = (codes z).drop k := by
  unfold cutS codes
  rw [HT.sIx_nat, HT.sIx_none]
  have e : z.length = z.cps.toList.length := len_codes z
  have h' : k ≤ z.cps.toList.length := h
  rw [Nat.min_eq_left (by omega), e]
  simp only []
  rw [List.take_of_length_le (by rw [List.length_drop]; omega)]
theorem Pen.pne {H : Hp} {p c q : Addr} {ns : List Int} {n : Nat} (h : Pen H p c ns n) (hq : H q = none) : p ≠ q := by
  obtain ⟨a, l, g, _⟩ := h.pen
  exact ne_of_none g hq
theorem Pen.cne {H : Hp} {p c q : Addr} {ns : List Int} {n : Nat} (h : Pen H p c ns n) (hq : H q = none) : c ≠ q := ne_of_none h.cells hq
theorem Keep.fresh {p c q : Addr} {ns : List Int} {n : Nat} {H H1 : Hp} (k : Keep p H H1) (P1 : Pen H1 p c ns n) (h : H1 q = none) : H q = none := by
  cases e : H q with
  | none => rfl
  | some o =>
    rw [k q o e (P1.pne h).symm] at h
    cases h
theorem Pen.strs_ne {H : Hp} {p c q : Addr} {ns : List Int} {n : Nat} {ys : List Str} (h : Pen H p c ns n) (hq : H q = some (.lst (ys.map V.str))) : q ≠ p := fun e => by
  obtain ⟨a, l, g, _⟩ := h.pen
  rw [e, g] at hq
  exact strs_ne_pen (Option.some.inj hq).symm
section
variable {X : Cx}
theorem mulOk_small {x : Str} {k : Int} (h0 : 0 ≤ k) (h1 : k ≤ 8) (hx : x.length ≤ 8) : MulOk x k := by
  refine ⟨?_, fun _ _ => ?_, fun _ _ => ?_⟩
  · simp only [Bool.or_eq_false_iff, decide_eq_false_iff_not]
    omega
  · have : k = 0 ∨ k = 1 ∨ k = 2 ∨ k = 3 ∨ k = 4 ∨ k = 5 ∨ k = 6 ∨ k = 7 ∨ k = 8 := by omega
    rcases this with rfl | rfl | rfl | rfl | rfl | rfl | rfl | rfl | rfl <;> omega
  · unfold Builtin.Str.tooLong
    rw [decide_eq_false_iff_not]
    have h2 : x.length * k.toNat ≤ 8 * 8 := Nat.mul_le_mul hx (by omega)
    have : sizeLine = 16777216 := rfl
    omega
/-! the same rules with the written part named apart (within a comprehension) -/
theorem pe_bmK {K' : PySem.W.Frag} {T : String} {name : Str} {id : String} {r : V → List V → Hp → VK → Prop} {o e : Expr} {es : List Expr} {to : TE} {t : TA} {apos cpos : Pos} (hK : X.K = K') (pa : PlainAttrs T) (slot : PySem.Slot T name id) (hty : typeOf (.builtin id) = pure (.type "method_descriptor")) (hm : MtR X id r) (ho : PE X o to) (ha : PA X (e :: es) t)
    (hbase : attributeBase o name X.env (eval o X.env) = eval o X.env := by rfl)
    (hfew : ((backTo cpos (starEach (e :: es) X.env)).all (fun x => !x.1) && (backToKw cpos (keywordEach [] X.env)).all (fun x => x.1.isSome)
      && decide ((e :: es).length + ([] : List Keyword).length + (if ([] : List Keyword).isEmpty then 0 else 1) < 30)) = true := by rfl)
    (hline : (apos.endLine == cpos.line) = true := by rfl) (hs : starEach (e :: es) X.env = (false, eval e X.env) :: starEach es X.env := by rfl) (hplain : (backTo cpos (starEach es X.env)).any (·.1) = false := by rfl) :
    PE X (.Call (.Attribute o name apos) (e :: es) [] cpos) (tBM K' T r to t) := by
  subst hK
  exact pe_bm pa slot hty hm ho ha hbase hfew hline hs hplain
theorem call_len_seqK {K' : PySem.W.Frag} (hK : X.K = K') : CallR X (.builtin "len") (fun xs H Q => ∃ p ys, xs = [V.ref p] ∧ (SqL K' H p ys ∨ SqT K' H p ys) ∧ Q (.int ys.length) H) := by
  subst hK
  exact call_len_seq
theorem ix_listK {K' : PySem.W.Frag} (hK : X.K = K') : IxR X (rIxL K') := by
  subst hK
  exact ix_list
theorem op_in_seqK {K' : PySem.W.Frag} (hK : X.K = K') : OpR X (compareOp .In) (rIn K' false) := by
  subst hK
  exact op_in_seq
theorem op_notIn_seqK {K' : PySem.W.Frag} (hK : X.K = K') : OpR X (compareOp .NotIn) (rIn K' true) := by
  subst hK
  exact op_notIn_seq
theorem op_mul_str : OpR X (binaryOp .Mult) (fun x y H Q => ∃ a k, x = .str a ∧ y = .int k ∧ 0 ≤ k ∧ k ≤ 8 ∧ a.length ≤ 8 ∧ Q (.str (Txt.mul a k)) H) := by
  intro pins s σ H x y v u Q I rx ry h
  obtain ⟨a, k, rfl, rfl, h0, h1, hx, q⟩ := h
  obtain ⟨t, rfl⟩ := rx
  obtain ⟨t', rfl⟩ := ry
  exact SB.mul (mulOk_small h0 h1 hx) (fun t' tk => ⟨.str (Txt.mul a k), H, I.tok _, ⟨_, rfl⟩, q⟩)
end
end K2
end
section
set_option Elab.async false
set_option maxRecDepth 100000
set_option linter.all false
namespace K2
open PySem L2
theorem low_letters : ∀ c ∈ codes (Str.ofString "abcdefghijklmnopqrstuvwxyz"), 97 ≤ c ∧ c ≤ 122 := by decide +kernel
theorem at_letters : ∀ j, j < 26 → (codes (Str.ofString "abcdefghijklmnopqrstuvwxyz"))[j]? = some (97 + j) := by decide +kernel
theorem sum_ones : ∀ l : List Nat, (((l.map fun c => (⟨#[c]⟩ : Str)).map (·.length)).sum) = l.length
  | [] => rfl
  | c :: l => by
    rw [List.map_cons, List.map_cons, List.sum_cons, sum_ones l, List.length_cons]
    show 1 + l.length = l.length + 1
    omega
theorem if01 (c : Bool) : 0 ≤ (if c = true then (1 : Int) else 0) ∧ (if c = true then (1 : Int) else 0) ≤ 8 := by cases c <;> decide
theorem fin_q {W : Str} {b : List Nat} {spot f h i : Nat} (e : codes W = wordAt b spot (signAt f h i)) (hi : 26 ≤ i) : W ++ Str.ofString "q" = txt (finalAt b spot f h i) := by
  refine codes_inj ?_
  rw [codes_append, codes_txt, e]
  unfold finalAt
  dsimp only
  rw [if_pos hi]
  rfl
theorem fin_z {W : Str} {b : List Nat} {spot f h i : Nat} (e : codes W = wordAt b spot (signAt f h i)) (hi : ¬ 26 ≤ i) : W ++ Txt.mul (Str.ofString "z") (if W ∈ barred then 1 else 0) = txt (finalAt b spot f h i) := by
  refine codes_inj ?_
  have eW : txt (wordAt b spot (signAt f h i)) = W := by rw [← e, txt_codes]
  rw [codes_append, codes_txt, e]
  unfold finalAt
  dsimp only
  rw [if_neg hi, eW]
  congr 1
  by_cases hb : W ∈ barred
  · rw [if_pos hb, if_pos hb]
    decide +kernel
  · rw [if_neg hb, if_neg hb]
    decide +kernel
theorem finals_succ (b : List Nat) (spot f h i : Nat) : finals b spot f h (i + 1) = finals b spot f h i ++ [txt (finalAt b spot f h i)] := by
  unfold finals
  rw [List.range_succ, List.map_append]
  rfl
/-- a fresh list of m words -/
def spWords : Sp := fun vs H Q _ => ∃ (p c : Addr) (ns : List Int) (n m : Nat), vs = [.ref p, .int m] ∧ Pen H p c ns n ∧ n + 12 ≤ 100000 ∧ m ≤ 31 ∧
  ∀ (l : Addr) (ws : List Str) (H' : Hp), Words ws → ws.length = m → H' l = some (.lst (ws.map V.str)) → Keep p H H' → Pen H' p c ns (n + 12) → Q (.ref l) H'
abbrev nWords : List Str := ["_law_pen_here", "_law_many", "_law_letters", "_law_k", "_law_base", "_law_spot", "_law_first", "_law_hop", "_law_found", "_law_sign", "_law_word", "_law_more"]
section
variable {P : Program} {w : World} {K : PySem.W.Frag} {mg : Str → Option Value} {base : Heap}
theorem scWords : FnScope nWords ["_law_pen_here", "_law_many"] (defScope sWords) := ⟨rfl, rfl, rfl, by decide +kernel, rfl, by decide +kernel, by decide +kernel⟩
end
end K2
end
section
set_option Elab.async false
set_option maxRecDepth 100000
set_option linter.all false
namespace K2
open PySem L2
theorem _root_.L2.Same.put {H H1 : Hp} {q : Addr} {o : HO} (k : Same H H1) (h : H q = none) : Same H (upd H1 q o) := fun b u hb => by
  rw [upd_ne (ne_of_none hb h)]
  exact k b u hb
theorem Pen.same {H H' : Hp} {p c : Addr} {ns : List Int} {n : Nat} (h : Pen H p c ns n) (k : Same H H') : Pen H' p c ns n := by
  obtain ⟨a, l, g, g1, g2, g3⟩ := h.pen
  exact ⟨⟨a, l, k _ _ g, g1, g2, g3⟩, k _ _ h.cells, h.small⟩
theorem _root_.L2.Same.keep {p : Addr} {H H' : Hp} (k : Same H H') : Keep p H H' := fun b o h _ => k b o h
theorem dget_s {H : Hp} {a : Addr} {kvs : List (Key × V)} {x : Str} {v : V} (e : H a = some (.dK kvs)) (hv : valV kvs (Sum.inr x : Key) = some v) : DGet H a (.str x) (some v) := by
  have := DGet.k (k := (Sum.inr x : Key)) e
  rw [hv] at this
  exact this
theorem cutV_whole {xs : List V} {lo hi : Option Int} (h : HT.sIx xs.length 0 lo = 0 ∧ HT.sIx xs.length xs.length hi = xs.length) : cutV xs lo hi = xs := by
  unfold cutV
  rw [h.1, h.2, List.drop_zero, Nat.sub_zero, List.take_length]
def rSl2 : V → Option Int → Option Int → Hp → VK → Prop := fun x lo hi H Q => ∃ a xs, x = .ref a ∧ H a = some (.tup xs) ∧ ∀ p H1, Same H H1 → H1 p = some (.tup (cutV xs lo hi)) → Q (.ref p) H1
def rCat2 : R2 := fun x y H Q => ∃ a b xs ys, x = .ref a ∧ y = .ref b ∧ H a = some (.tup xs) ∧ H b = some (.tup ys) ∧ xs.length + ys.length ≤ sizeLine ∧ ∀ p H1, Same H H1 → H1 p = some (.tup (xs ++ ys)) → Q (.ref p) H1
section
variable {X : Cx}
theorem sl_tup2 : SlR X rSl2 := by
  intro pins s σ H x v vl vu lo hi sl Q I rx hs pl pu h
  obtain ⟨a, xs, rfl, ha, q⟩ := h
  exact sl_tupA pins s σ H _ v vl vu lo hi sl Q I rx hs pl pu ⟨a, xs, rfl, SqT.of ha, fun hw => q a H (Same.refl H) (by rw [cutV_whole hw]; exact ha), fun _ p hp => q p _ ((Same.refl H).put hp) upd_same⟩
theorem op_cat2 : OpR X (binaryOp .Add) rCat2 := by
  intro pins s σ H x y v u Q I rx ry h
  obtain ⟨a, b, xs, ys, rfl, rfl, ha, hb, hz, q⟩ := h
  refine op_catA pins s σ H _ _ v u Q I rx ry ⟨a, b, xs, ys, rfl, rfl, SqT.of ha, SqT.of hb, hz, fun e => q b H (Same.refl H) (by rw [e]; exact hb), fun _ e => q a H (Same.refl H) (by rw [e, List.append_nil]; exact ha), fun _ _ p hp => q p _ ((Same.refl H).put hp) upd_same⟩
end
end K2
end
section
set_option Elab.async false
set_option maxRecDepth 100000
set_option linter.all false
namespace K2
open PySem PySem.Spec PyProof.Rows L2
/-! enumerate(t) of a tuple -/
def enumO (i : Addr) : Obj := { cls := .type "enumerate", data := .fields #[.none, .bool false, .ref i, rawInt 0, .none, .none] }
set_option maxHeartbeats 1000000 in
theorem enum_made {v : Value} {o : Obj} {B : Heap → Prop} (b : Begins v o B) :
    Meets (Builtin.«enumerate.__new__» ⟨[.type "enumerate", v], []⟩) (fun _ R s => B s.heap ∧ R (.ok (.ret (.ref (s.heap.push o).objs.size))) { s with heap := (s.heap.push o).push (enumO s.heap.objs.size) }) :=
  .of_wp fun prog w A R ⟨hp, g, d, tk, os⟩ ⟨h1, h⟩ => by
    have q0 := sub_enumerate
    have q1 : ∀ {A' : Around} {E : Value → Shared → Prop} {Q : Value → Shared → Prop}, Q (.ref hp.objs.size) ⟨hp.push o, g, d, tk, os⟩ → wpAny (model prog w) A' (pyIter v) Q E ⟨hp, g, d, tk, os⟩ := fun q => b.iter prog w _ _ ⟨hp, g, d, tk, os⟩ _ h1 q
    wp_walk using q1
    refine wpAny_stack_any fun st => wpAny_pure ?_
    split
    · rename_i c _ _ _ _ _
      cases (c == Value.type "enumerate") <;> (wp_walk using q1; exact ⟨_, rfl, h⟩)
    · wp_walk using q1
      exact ⟨_, rfl, h⟩
section
variable {prog : Program} {w : World} {A : Around} {E : Value → Shared → Prop} {s : Shared}
theorem enum_call {v : Value} {o : Obj} {B : Heap → Prop} {Q : Value → Shared → Prop} (b : Begins v o B) (h1 : B s.heap)
    (h : ∀ h', IsEnum h' (s.heap.objs.size + 1) s.heap.objs.size 0 .none → h'.get? s.heap.objs.size = some o → (∀ a u, s.heap.get? a = some u → h'.get? a = some u) → Q (.ref (s.heap.objs.size + 1)) { s with heap := h' }) :
    wpAny (model prog w) A (call (.type "enumerate") [v]) Q E s := by
  refine callType_new F.called_enumerate (by decide) (F.typeCall_enumerate_1 _) (F.newCall_enumerate_1 _) (fun obj => F.args_object_init_2 obj _) F.entry_enumerate_new (enum_made b) ⟨h1, ?_⟩
  have sz : (s.heap.push o).objs.size = s.heap.objs.size + 1 := Heap.size_push ..
  have at1 := Heap.get?_push_size (s.heap.push o) (o := enumO s.heap.objs.size) rfl
  rw [sz] at at1
  show _ ∧ _
  rw [sz]
  exact ⟨⟨_, at1, rfl⟩, h _ at1 (Heap.get?_push_of_some _ (Heap.get?_push_size _ b.free)) fun a u x => Heap.get?_push_of_some _ (Heap.get?_push_of_some _ x)⟩
end
/-- the items of the tuple at a, each in a new pair with its number -/
def IteT (a : Addr) (xs : List V) : It :=
  ⟨fun i H => H a = some (.tup xs) ∧ i < xs.length, fun i H v H' => ∃ T x, v = .ref T ∧ H T = none ∧ H' = upd H T (.tup [.int (i : Nat), x]) ∧ xs[i]? = some x, fun i H => H a = some (.tup xs) ∧ i = xs.length⟩
def tnE (e it t : Addr) (i : Nat) (h : Heap) : Prop := (∃ old, IsEnum h e it (0 + ((i : Nat) : Int)) old) ∧ h.IsTupleIter it t i ∧ e ≠ it ∧ t ≠ it ∧ e ≠ t
theorem turn_enumT {P : Program} {w : World} {K : PySem.W.Frag} {elts : List Expr} {kk : Nat} {tpos : Pos} (xs : List V) (t e it : Addr) : Turn P w K (.Tuple elts kk tpos) (IteT t xs) [e, it] e (tnE e it t) where
  mem := by simp
  obj := fun i h ⟨⟨old, he⟩, ⟨o, ho, hc, hd⟩, _⟩ b hb => by
    rcases List.mem_cons.mp hb with z | z
    · subst z; exact ⟨_, he, fun v q => nomatch q⟩
    · rw [List.mem_singleton.mp z]; exact ⟨o, ho, fun v q => by rw [hd] at q; cases q⟩
  keep := fun i h h' ⟨⟨old, he⟩, hi, n1, n2, n3⟩ k => ⟨⟨old, k e (by simp) _ he⟩, hi.at fun o q => k it (by simp) o q, n1, n2, n3⟩
  item := by
    rintro X rfl rfl rfl hc i pins s σ H E I hf ⟨he, hi, n1, n2, n3⟩ ⟨ha, hlt⟩
    obtain ⟨its, rv, pl, _⟩ := I.tuple (SqT.of ha)
    have sz : its.toArray.size = xs.length := by rw [List.size_toArray, rv.length]
    have W := WalksT.enumFrom (prog := X.prog) (w := X.w) (A := X.A) 0 (Draws.tuple (A := X.A.in1) (by simp [I.ok.hd hc]) it t n2 its.toArray) e n1 (by simp [n1, n3]) (by simp)
    refine W.item i s _ _ (by rw [sz]; exact hlt) ⟨he, hi, pl⟩ fun T vals h' tk ⟨tt, x, hx, ev⟩ hT hTup mid fr => ⟨_, rfl, W.go elts kk tpos i T _ _ _ mid fun h'' ⟨he2, hi2, _⟩ fr2 => ?_⟩
    have hx2 : its[i]? = some x := by simpa using hx
    obtain ⟨y, hy, ry⟩ : ∃ y, xs[i]? = some y ∧ RelV y x := by
      have q : xs[i]? = some xs[i] := List.getElem?_eq_getElem hlt
      obtain ⟨u, hu, ru⟩ := rv.get q
      rw [hx2] at hu
      cases hu
      exact ⟨_, q, ru⟩
    have hTw := W.apart i T _ mid
    have hTf : H T = none := I.hok.fresh hT
    obtain ⟨o2, ho2, hc2, nn, hd2⟩ := hTup
    have new : ObjOk X.prog X.w (upd H T (.tup [.int (i : Nat), y])) h'' T (.tup [.int (i : Nat), y]) :=
      ⟨by show 2 ≤ sizeLine; decide, [.int (i : Nat) tt, x], .cons ⟨_, rfl⟩ (.cons ry .nil), ⟨o2, fr2 T o2 hTw ho2, hc2, nn, by rw [hd2, ev, Int.zero_add]⟩⟩
    refine ⟨.ref T, _, I.turnedNew (ch := [e, it]) (fun b ob hb q => fr2 b ob hb (fr b ob hb q)) hf hT new, rfl, ⟨T, y, rfl, hTf, rfl, hy⟩, ⟨he2, hi2, n1, n2, n3⟩, fun b hb => ?_⟩
    rw [upd_ne fun z : b = T => hTw (z ▸ hb)]
    exact (hf b hb).1
  done := by
    rintro X rfl rfl rfl hc i pins s σ H E I hf ⟨he, hi, n1, n2, n3⟩ ⟨ha, hle⟩
    obtain ⟨its, rv, pl, _⟩ := I.tuple (SqT.of ha)
    have sz : its.toArray.size = i := by rw [List.size_toArray, ← rv.length, hle]
    have W := WalksT.enumFrom (prog := X.prog) (w := X.w) (A := X.A) 0 (Draws.tuple (A := X.A.in1) (by simp [I.ok.hd hc]) it t n2 its.toArray) e n1 (by simp [n1, n3]) (by simp)
    rw [sz] at W
    exact W.done s _ _ ⟨he, hi, pl⟩ fun h' tk fr => ⟨rfl, I.turnedL (ch := [e, it]) fr hf⟩
  self := fun A i s Q E ⟨⟨_, he⟩, _⟩ h => wpAny_pyIter_enum he h
def iEnumT (ta : TA) : TI := fun σ H R => ta σ H fun vs H1 => ∃ a xs, vs = [.ref a] ∧ H1 a = some (.tup xs) ∧ R (IteT a xs) H1
theorem pi_enumT {X : Cx} {e : Expr} {ta : TA} {p pos tpos : Pos} {elts : List Expr} {kk : Nat} (hg : Gl X "enumerate") (hm : X.mg "enumerate" = none) (ha : PA X [e] ta) (hs : starEach [e] X.env = [(false, eval e X.env)] := by rfl) :
    PI X (.Tuple elts kk tpos) (.Call (.Name "enumerate" p) [e] [] pos) (iEnumT ta) := by
  refine ⟨fun pins s σ H R I h => Call_ (ld_blt I hg hm boot_enumerate (callWith_type1 (thn (ha.run pos pins s σ H _ I h) fun us s1 ⟨vs, H1, I1, r1, q1⟩ => ?_) hs rfl))⟩
  obtain ⟨a, xs, rfl, ht, q⟩ := q1
  cases r1 with
  | cons r rr =>
    cases rr
    cases r
    obtain ⟨its, rv, pl, _⟩ := I1.tuple (SqT.of ht)
    have al : a < s1.heap.objs.size := by obtain ⟨_, z, _⟩ := pl; exact Heap.lt_size z
    refine enum_call (begins_tuple a its.toArray) pl fun h' he hit hk => wpAny_pyIter_enum he ⟨s1.heap.objs.size + 1, [s1.heap.objs.size + 1, s1.heap.objs.size], _, _, H1, rfl, I1.kept (t' := s1.toks) hk, turn_enumT xs a (s1.heap.objs.size + 1) s1.heap.objs.size,
      ⟨⟨.none, he⟩, ⟨_, hit, rfl, rfl⟩, Nat.succ_ne_self _, Nat.ne_of_lt al, Nat.ne_of_gt (Nat.lt_succ_of_lt al)⟩, fun b hb => ?_, q⟩
    have le : s1.heap.objs.size ≤ b := by
      rcases List.mem_cons.mp hb with z | z
      · rw [z]; exact Nat.le_succ _
      · rw [List.mem_singleton.mp z]; exact Nat.le_refl _
    exact I1.fpOk le (I1.hok.fresh le)
theorem walk_enumT (a : Addr) (xs : List V) : Walk (IteT a xs) xs.length (fun H => H a = some (.tup xs)) (fun i H v H' => ∃ T x, v = .ref T ∧ H T = none ∧ H' = upd H T (.tup [.int (i : Nat), x]) ∧ xs[i]? = some x) :=
  ⟨fun i H hi h => ⟨h, hi⟩, fun H h => ⟨h, rfl⟩, fun i H x H' _ _ y => y⟩
end K2
end
section
set_option Elab.async false
set_option maxRecDepth 100000
set_option linter.all false
namespace K2
open PySem L2
abbrev nInit : List Str := ["self", "rows", "lines", "k", "row", "reason"]
def flds (r n l : Addr) : List (Str × V) := putF "_lines" (.ref l) (putF "names" (.ref n) (putF "rows" (.ref r) []))
theorem k1_ : ¬ (("rows" : Str) = "names") := by decide +kernel
theorem k2_ : ¬ (("rows" : Str) = "_lines") := by decide +kernel
theorem k3_ : ¬ (("names" : Str) = "_lines") := by decide +kernel
theorem flds_lines (r n l : Addr) : (flds r n l).lookup ("_lines" : Str) = some (.ref l) := by
  unfold flds
  rw [lookup_putF, if_pos rfl]
theorem flds_no (r n l : Addr) {m : Str} (h1 : ¬ m = "_lines") (h2 : ¬ m = "names") (h3 : ¬ m = "rows") : (flds r n l).lookup m = none := by
  unfold flds
  rw [lookup_putF, if_neg h1, lookup_putF, if_neg h2, lookup_putF, if_neg h3]
  rfl
theorem flds_names (r n l : Addr) : (flds r n l).lookup ("names" : Str) = some (.ref n) := by
  unfold flds
  rw [lookup_putF, if_neg k3_, lookup_putF, if_pos rfl]
theorem flds_rows (r n l : Addr) : (flds r n l).lookup ("rows" : Str) = some (.ref r) := by
  unfold flds
  rw [lookup_putF, if_neg k2_, lookup_putF, if_neg k1_, lookup_putF, if_pos rfl]
structure Txt (K : PySem.W.Frag) (mg : Str → Option Value) (C : Addr) : Prop where
  cl : Cls K C
  nR : NoAttr K C "rows"
  nN : NoAttr K C "names"
  nL : NoAttr K C "_lines"
  mgC : mg "Classes" = some (.ref C)
section
variable {P : Program} {w : World} {K : PySem.W.Frag} {mg : Str → Option Value} {base : Heap}
end
end K2
end
section
set_option Elab.async false
set_option maxRecDepth 100000
set_option linter.all false
namespace K2
open PySem L2 PySem.Spec PyProof.Rows
section
variable {X : Cx} {CX : CXT} {k n i : Nat} {f C : Addr} {fd : FuncData} {ps ks : List Str} {sp : Sp} {E : XK} {m x : Str} {o e : Expr} {p q pos apos : Pos} {ta tk te : TA} {g : List Value → List Value → List Value} {gV : List V → List V → List V} {kws : List Keyword}
theorem run_fnK {pins : List (Addr × Obj)} {σ : L2.St} {H : Hp} {s : Shared} {Q : VK} {us ws : List Value} {vs zs : List V} (F : FnOk X.prog X.w X.K X.mg X.base CX k f fd ps sp) (hr : Room k X.A) (hb : KBn X.K fd ps n ks g gV) (hx : Passes CX X E) (I : Inv X pins σ H s)
    (r : Vals vs us) (rz : Vals zs ws) (l1 : us.length = n) (l2 : ws.length = ks.length) (h : sp (gV vs zs) H Q E) : wpAny (model X.prog X.w) X.A (call (.ref f) us (ks.zip ws)) (EP X pins σ Q) X.xe s := by
  refine wpAny_call (codeAny_mono (F.run X.A X.stack s H ⟨us, ks.zip ws⟩ (g us ws) (gV vs zs) Q E hr I.env0 (hb.to s us ws I.kIn l1 l2) (hb.rel r rz) h) fun y z hq => ?_)
  cases y with
  | error e => exact hx pins σ H s e z I hq
  | ok fl =>
    cases fl with
    | ret u => exact I.after hq
    | next => exact hq.elim
    | brk => exact hq.elim
    | cont => exact hq.elim
/-- o.m(k = v, ..) -/
def tMethK (C : Addr) (m : Str) (sp : Sp) (ks : List Str) (gV : List V → List V → List V) (E : XK) (to : TE) (tk : TA) : TE := fun σ H Q => to σ H fun x H1 => ∃ a dx fs, x = .ref a ∧ H1 a = some (.ins C dx fs) ∧ fs.lookup m = none ∧ tk σ H1 fun zs H2 => zs.length = ks.length ∧ sp (gV [x] zs) H2 Q E
theorem pe_methK {to : TE} {pl : Sem Bool} (he : PE X o to) (c : Cls X.K C) (hm : Meth X.K C m f) (F : FnOk X.prog X.w X.K X.mg X.base CX k f fd ps sp) (hr : Room k X.A) (hb : KBn X.K fd ps 1 ks g gV) (hx : Passes CX X E) (hkw : PK X kws tk)
    (hall : (backToKw pos (keywordEach kws X.env)).all (·.1.isSome) = true := by rfl) (hks : (backToKw pos (keywordEach kws X.env)).filterMap (·.1) = ks := by rfl) (hpl : ((backTo pos (starEach [] X.env)).any (·.1) || (backToKw pos (keywordEach kws X.env)).any (·.1.isNone)) = false := by rfl)
    (ht : eval (.Call (.Attribute o m apos) [] kws pos) X.env = (do
      let ov ← eval o X.env
      standAt apos.atName
      let (f, first) ← holding [ov] (getMethod ov m pl)
      callWith pos f first (backTo pos (starEach [] X.env)) (backToKw pos (keywordEach kws X.env))) := by rfl) : PE X (.Call (.Attribute o m apos) [] kws pos) (tMethK C m sp ks gV E to tk) := by
  refine ⟨fun pins s σ H Q I h => PySem.W.methodCall_KW (pl := pl) (thn (he.run pins s σ H _ I h) fun u s1 ⟨x, H1, I1, rx, a, dx, fs, ex, ea, l, q⟩ => ?_) ht⟩
  subst ex
  obtain rfl : u = Value.ref a := rx
  refine getmeth_ok I1 ea c hm l (PySem.W.callWith_KW0 (first := [.ref a]) (h₀ := X.base) I.ok.mod.kin hm.kp hall (thn (hkw.run pos pins s1 σ H1 _ I1 q) fun ws s2 ⟨zs, H2, I2, rz, l2, q2⟩ => ⟨I2.kIn, ?_⟩) hpl)
  rw [hks]
  exact run_fnK (us := [.ref a]) (vs := [.ref a]) F hr hb hx I2 (.cons rfl .nil) rz rfl (by rw [← l2, rz.length]) q2
/-- c(*y), c a name that holds a class -/
def tMakeL (i : Nat) (K : PySem.W.Frag) (C : Addr) (sp : Sp) (E : XK) (te : TE) : TE := fun σ H Q => σ[i]? = some (some (.ref C)) ∧ te σ H fun y H1 => ∃ a xs, y = .ref a ∧ (SqT K H1 a xs ∨ SqL K H1 a xs) ∧ ∀ x dx, H1 x = none → H1 dx = none → dx ≠ x →
  sp (V.ref x :: xs) (upd (upd H1 dx (.own x)) x (.ins C dx [])) (fun v H2 => v = .non ∧ Q (.ref x) H2) E
theorem pe_makeL {te : TE} (M : Mk X.K C f) (F : FnR X.prog X.w X.K X.mg X.base CX k f sp) (hr : Room (k + 1) X.A) (hN : X.N[i]? = some x) (hv : Vis X.env.scope x) (hx : Passes CX X E) (he : PE X e te) (hdb : (x == ("__debug__" : Str)) = false := by decide) (hcd : (x == ("__classdict__" : Str)) = false := by decide)
    (hst : starEach [.Starred e q] X.env = [(true, eval e X.env)] := by rfl) : PE X (.Call (.Name x p) [.Starred e q] [] pos) (tMakeL i X.K C sp E te) := by
  refine ⟨fun pins s σ H Q I ⟨hs, ht⟩ => wpAny_Call_Name_kw (thn ((pe_var (pos := p) hN hv hdb hcd).run pins s σ H (fun v H1 => v = .ref C ∧ H1 = H) I ⟨.ref C, hs, rfl, rfl⟩) fun u s1 ⟨v, H1, I1, r1, q1⟩ => ?_)⟩
  obtain ⟨rfl, rfl⟩ := q1
  cases r1
  refine PySem.W.callWith_S (h₀ := X.base) I.ok.mod.kin M.kp (thn (he.run pins s1 σ _ _ I1 ht) fun v s2 ⟨y, H2, I2, ry, a, xs, ey, hxs, h2⟩ => ?_) hst
  subst ey
  obtain rfl : v = Value.ref a := ry
  exact StX.star_any I2 hxs fun us s3 I3 rv => ⟨I3.kIn, StX.run_makeR M F hr hx I3 rv h2⟩
end
section
variable {P : Program} {w : World} {K : PySem.W.Frag} {mg : Str → Option Value} {base : Heap}
end
end K2
end
section
set_option Elab.async false
set_option maxRecDepth 100000
set_option linter.all false
namespace K2
open PySem L2 PySem.Spec PyProof.Rows
/-- a def's promise where no repr runs around -/
structure FnG (P : Program) (w : World) (K : PySem.W.Frag) (mg : Str → Option Value) (base : Heap) (k : Nat) (f : Addr) (fd : FuncData) (ps : List Str) (sp : Sp) : Prop where
  len : ∀ vs H Q E, sp vs H Q E → vs.length = ps.length
  run : ∀ (A : Around) (outer : List Env) (s : Shared) (H : Hp) (args : Args) (us : List Value) (vs : List V) (Q : VK) (E : XK), Room k A → A.guards = some [] → Env0 P w K mg base A outer s H → BindsTo s fd args (ps.zip us) → Vals vs us → sp vs H Q E →
    codeAny (model P w) A (.call (.ref f) args) (CR CX0 outer P w H s Q E) s
section
variable {P : Program} {w : World} {K : PySem.W.Frag} {mg : Str → Option Value} {base : Heap}
theorem okG {x qual : Str} {st : Stmt} {f : Addr} {fd : FuncData} {N ps : List Str} {k : Nat} {sp : Sp} (F : Fun K x qual st f fd) (S : FnScope N ps (defScope st)) (len : ∀ vs H Q E, sp vs H Q E → vs.length = ps.length)
    (body : ∀ (cdv : Value) (A : Around) (outer : List Env) (s : Shared) (H : Hp) (vs : List V) (Q : VK) (E : XK), Room k (A.deeper (envOfC qual (defScope st) s.heap.objs.size f cdv)) → A.guards = some [] → sp vs H Q E →
      ∃ t, PSs (cxOf CX0 P w K mg base N qual (defScope st) f cdv A outer s H E).nox (defBody st) t ∧ t { nx := fun _ H' => Q .non H', rt := Q } (start N vs) H) : FnG P w K mg base (k + 1) f fd ps sp := by
  obtain ⟨oc, od, kV, doc, pm, an, cdv, ct, osl, rfl, lk, hcd⟩ := F.ex
  refine ⟨len, fun A outer s H args us vs Q E hr hg e0 hb rv hs => ?_⟩
  refine StX.run_bnd (G := fun xs H2 => xs = vs ∧ H2 = H) lk hcd S hr e0 (fun A' Ex Q' h => hb _ _ _ _ (h s H vs us e0 Un.refl rfl (fun _ _ z => z) rv (len _ _ _ _ hs) ⟨rfl, rfl⟩)) fun s2 H2 xs ⟨e1, e2⟩ hr2 => ?_
  subst e1 e2
  obtain ⟨t, h1, h2⟩ := body cdv A outer s2 _ _ Q E hr2 hg hs
  exact ⟨t, h1.nox, h2⟩
end
section
variable {X : Cx} {k : Nat} {f : Addr} {fd : FuncData} {ps : List Str} {sp : Sp} {x : Str} {e : Expr} {es : List Expr} {p pos : Pos} {t : TA}
theorem pe_callG (F : FnG X.prog X.w X.K X.mg X.base k f fd ps sp) (hr : Room k X.A) (gu : X.A.guards = some []) (hg : Gl X x) (hm : X.mg x = some (.ref f)) (hk : PySem.W.keepIn X.K (.ref f) = true) (hb : Binds X.K fd ps []) (ha : PA X (e :: es) t) (hdb : (x == ("__debug__" : Str)) = false := by decide)
    (he : starEach (e :: es) X.env = (false, eval e X.env) :: starEach es X.env := by rfl) (hpl : (backTo pos (starEach es X.env)).any (·.1) = false := by rfl) : PE X (.Call (.Name x p) (e :: es) [] pos) (fun σ H Q => t σ H fun vs H1 => sp vs H1 Q E0) := by
  refine ⟨fun pins s σ H Q I h => wpAny_Call_Name_kw (ld_glob I hg hm ?_ hdb)⟩
  refine PySem.W.callWith_K (h₀ := X.base) I.ok.mod.kin hk (thn (ha.run pos pins s σ H _ I h) fun us s1 ⟨vs, H1, I1, r, q⟩ => ⟨I1.kIn, ?_⟩) he hpl
  have l2 : us.length = ps.length := by rw [← r.length]; exact F.len _ _ _ _ q
  have hb2 := hb s1 us I1.kIn (by simpa using l2)
  rw [List.append_nil] at hb2
  refine wpAny_call (codeAny_mono (F.run X.A X.stack s1 H1 ⟨us, []⟩ us vs Q E0 hr gu I1.env0 hb2 r q) fun y z hq => ?_)
  cases y with
  | error e => exact hq.elim
  | ok fl =>
    cases fl with
    | ret u => exact I1.after hq
    | next => exact hq.elim
    | brk => exact hq.elim
    | cont => exact hq.elim
/-! repr of a list of bools -/
def boolsD (bs : List Bool) : PyData := .list (bs.map PyData.bool)
theorem bools_dp (K : PySem.W.Frag) (H : Hp) : ∀ bs : List Bool, DpAll K H (bs.map V.bl) (bs.map PyData.bool)
  | [] => .nil
  | b :: bs => .cons (.bl b) (bools_dp K H bs)
theorem bools_show : ∀ bs : List Bool, PyData.showableAll (bs.map PyData.bool) = true
  | [] => rfl
  | b :: bs => by
    show (true && PyData.showableAll (bs.map PyData.bool)) = true
    rw [bools_show bs]
    rfl
theorem bools_depth : ∀ bs : List Bool, PyData.depthAll (bs.map PyData.bool) = 0
  | [] => rfl
  | b :: bs => by
    show max 0 (PyData.depthAll (bs.map PyData.bool)) = 0
    rw [bools_depth bs]
    rfl
theorem bools_nodict : ∀ bs : List Bool, PyData.hasDictAll (bs.map PyData.bool) = false
  | [] => rfl
  | b :: bs => by
    show (false || PyData.hasDictAll (bs.map PyData.bool)) = false
    rw [bools_nodict bs]
    rfl
theorem bools_sum : ∀ bs : List Bool, ((PyData.shownAll (bs.map PyData.bool)).map (·.length)).sum ≤ 5 * bs.length ∧ (PyData.shownAll (bs.map PyData.bool)).length = bs.length
  | [] => ⟨Nat.le_refl _, rfl⟩
  | b :: bs => by
    obtain ⟨h1, h2⟩ := bools_sum bs
    have hb : (PyData.shown (.bool b)).length ≤ 5 := by cases b <;> decide +kernel
    refine ⟨?_, ?_⟩
    · show (PyData.shown (.bool b)).length + ((PyData.shownAll (bs.map PyData.bool)).map (·.length)).sum ≤ 5 * (bs.length + 1)
      omega
    · show (PyData.shownAll (bs.map PyData.bool)).length + 1 = bs.length + 1
      omega
theorem bools_size (bs : List Bool) (h : bs.length ≤ 1000) : (boolsD bs).shown.length ≤ sizeLine := by
  have h1 := listText_len_le (PyData.shownAll (bs.map PyData.bool))
  obtain ⟨h2, h3⟩ := bools_sum bs
  show (listText (PyData.shownAll (bs.map PyData.bool))).length ≤ 16777216
  omega
/-- repr(xs) of a list of bools: a text that hangs on the bools alone -/
def rReprB (K : PySem.W.Frag) : List V → Hp → VK → Prop := fun xs H Q => ∃ a bs, xs = [V.ref a] ∧ SqL K H a (bs.map V.bl) ∧ (boolsD bs).shown.length ≤ sizeLine ∧ Q (.str (boolsD bs).shown) H
theorem call_reprB (gu : X.A.guards = some []) (hu : X.A.units + 64 < cLine) : CallR X (.builtin "repr") (rReprB X.K) := by
  intro pins s σ H xs us Q I r h
  obtain ⟨a, bs, rfl, hs, hz, q⟩ := h
  obtain ⟨u, rfl, ru⟩ := r.one
  cases ru
  obtain ⟨as, rd⟩ := Dp.reads I (boolsD bs) (V.ref a) (Value.ref a) (.lst hs (bools_dp _ _ bs)) rfl
  have dp : (boolsD bs).depth = 1 := by
    show PyData.depthAll (bs.map PyData.bool) + 1 = 1
    rw [bools_depth]
  refine repr_of_reads' rd (bools_show bs) (fun z => by rw [show (boolsD bs).hasDict = false from bools_nodict bs] at z; cases z) gu (by rw [dp]; omega) (fun b o e => e) (fun h' u tk hk => ⟨.str _, H, I.kept (t' := tk) hk, ⟨u, rfl⟩, q⟩) hz
end
end K2
end
section
set_option Elab.async false
set_option maxRecDepth 100000
set_option linter.all false
namespace K2
open PySem L2 PySem.Spec PyProof.Rows
section
variable {X : Cx} {CX : CXT} {k : Nat} {f C : Addr} {fd : FuncData} {ps : List Str} {sp : Sp} {E : XK}
/-- a def called somewhere below -/
theorem run_at {A : Around} {pins : List (Addr × Obj)} {σ : L2.St} {H : Hp} {s : Shared} {Q : VK} {us : List Value} {vs : List V} (F : FnOk X.prog X.w X.K X.mg X.base CX k f fd ps sp) (hb : Binds X.K fd ps []) (hx : Passes CX X E) (sb : Sub X k A) (I : Inv X pins σ H s) (rv : Vals vs us) (hsp : sp vs H Q E) :
    wpAny (model X.prog X.w) A (call (.ref f) us) (EP X pins σ Q) X.xe s := by
  have e0 : Env0 X.prog X.w X.K X.mg X.base A X.stack s H := by
    have e := I.env0
    exact ⟨by rw [sb.fr]; exact e.frames, e.mod, e.bs, e.bsz, e.funs, e.frf, e.hok, e.bare⟩
  have hl : us.length = ps.length := by rw [← rv.length]; exact F.len _ _ _ _ hsp
  have b2 := hb s us I.kIn (by simpa using hl)
  rw [List.append_nil] at b2
  refine wpAny_call (codeAny_mono (F.run A X.stack s H ⟨us, []⟩ us vs Q E sb.room e0 b2 rv hsp) fun r s' hq => ?_)
  cases r with
  | error e => exact hx pins σ H s e s' I hq
  | ok fl =>
    cases fl with
    | ret w => exact I.after hq
    | next => exact False.elim hq
    | brk => exact False.elim hq
    | cont => exact False.elim hq
/-- len(o) -/
theorem call_lenO (F : FnOk X.prog X.w X.K X.mg X.base CX k f fd ps sp) (hb : Binds X.K fd ps []) (hx : Passes CX X E) (hr : Room (k + 1) X.A) (hs : PySem.W.findIn X.K (.ref C) "__len__" = some (some (.ref f))) (hf : PySem.W.isFn X.K (.ref f) = true) :
    CallR X (.builtin "len") (fun xs H Q => ∃ a dx fs, xs = [.ref a] ∧ H a = some (.ins C dx fs) ∧ sp [.ref a] H (fun v H' => ∃ n : Nat, v = .int n ∧ n < 1000000 ∧ Q (.int n) H') E) := by
  intro pins s σ H xs us Q I r h
  obtain ⟨a, dx, fs, rfl, ha, hsp⟩ := h
  obtain ⟨u, rfl, ru⟩ := r.one
  cases ru
  obtain ⟨mA, J, _⟩ := ins_get I.hok ha
  obtain ⟨od, J, _⟩ := J.look
  obtain ⟨m, hF⟩ := I.fr
  refine PySem.W.len_K hF I.ok.mod.kin J hs hf (wpAny_mono (run_at (vs := [.ref a]) F hb hx (Sub.in1 ⟨hr, rfl⟩) I (.cons rfl .nil) hsp) (fun v s' q => ?_) fun _ _ x => x)
  obtain ⟨x, H', I', rx, n, rfl, hn, q⟩ := q
  obtain ⟨t, rfl⟩ := rx
  exact ⟨⟨by omega, by omega⟩, .int n, H', I'.tok _, ⟨_, rfl⟩, q⟩
/-- x in o -/
theorem op_inO (F : FnOk X.prog X.w X.K X.mg X.base CX k f fd ps sp) (hb : Binds X.K fd ps []) (hx : Passes CX X E) (hr : Room k X.A) (hs : PySem.W.findIn X.K (.ref C) "__contains__" = some (some (.ref f))) (hf : PySem.W.isFn X.K (.ref f) = true) :
    OpR X (compareOp .In) (fun x y H Q => ∃ a dx fs, y = .ref a ∧ H a = some (.ins C dx fs) ∧ sp [.ref a, x] H (fun v H' => ∃ b, v = .bl b ∧ Q (.bl b) H') E) := by
  intro pins s σ H x y v u Q I rx ry h
  obtain ⟨a, dx, fs, rfl, ha, hsp⟩ := h
  cases ry
  obtain ⟨mA, J, _⟩ := ins_get I.hok ha
  obtain ⟨od, J, _⟩ := J.look
  obtain ⟨m, hF⟩ := I.fr
  refine PySem.W.in_K hF I.ok.mod.kin J hs hf (wpAny_mono (run_at (vs := [.ref a, x]) F hb hx ⟨hr, rfl⟩ I (.cons rfl (.cons rx .nil)) hsp) (fun r s' q => ?_) fun _ _ x => x)
  obtain ⟨z, H', I', rz, b, rfl, q⟩ := q
  cases rz
  exact wpAny_truthy_bool ⟨.bl b, H', I', rfl, q⟩
/-- the right side's type, not above the class -/
def RightT (K : PySem.W.Frag) (C : Addr) (H : Hp) (y : V) : Prop := ∃ t, TyX K H y t ∧ PySem.W.notFirst K C t = true
/-- o == y -/
theorem op_eqO (F : FnOk X.prog X.w X.K X.mg X.base CX k f fd ps sp) (hb : Binds X.K fd ps []) (hx : Passes CX X E) (hr : Room k X.A) (hu : X.A.units < cLine) (hs : PySem.W.findIn X.K (.ref C) "__eq__" = some (some (.ref f))) (hf : PySem.W.isFn X.K (.ref f) = true) :
    OpR X (compareOp .Eq) (fun x y H Q => ∃ a dx fs, x = .ref a ∧ H a = some (.ins C dx fs) ∧ RightT X.K C H y ∧ sp [.ref a, y] H (fun v H' => ∃ b, v = .bl b ∧ Q (.bl b) H') E) := by
  intro pins s σ H x y v u Q I rx ry h
  obtain ⟨a, dx, fs, rfl, ha, ⟨t, ty, hn⟩, hsp⟩ := h
  cases rx
  obtain ⟨mA, J, _⟩ := ins_get I.hok ha
  obtain ⟨od, J, _⟩ := J.look
  obtain ⟨m, hF⟩ := I.fr
  obtain ⟨Pz, Z, p, _⟩ := kit_of I ry ty
  show wpAny (model X.prog X.w) X.A (richCompare .Eq (.ref a) u) (EP X pins σ Q) X.xe s
  have lk : PySem.W.Looks (model X.prog X.w) s.heap (typeOf u) t := Z.ty _ _ I.kIn p
  refine PySem.W.cmp_K (op := .Eq) hu hF I.ok.mod.kin J lk hn hs hf (wpAny_mono (run_at (vs := [.ref a, y]) F hb hx ⟨hr, rfl⟩ I (.cons rfl (.cons ry .nil)) hsp) (fun r s' q => ?_) fun _ _ x => x)
  obtain ⟨z, H', I', rz, b, rfl, q⟩ := q
  cases rz
  exact ⟨.bl b, H', I', rfl, q⟩
/-! o != y: by object's own, which asks the class's == -/
theorem bound_ne {M : Model} {A : Around} {Er : Value → Shared → Prop} {s : Shared} {K : PySem.W.Frag} {x C : Addr} {ox : Obj} {od : Option Obj} {args : List Value} {Q : Option Value → Shared → Prop} (Y : K.In s.heap) (J : PySem.W.InstAt s.heap x ox C od)
    (hs : PySem.W.findIn K (.ref C) "__ne__" = some (some (.builtin "object.__ne__"))) (h : wpAny M A (call (.builtin "object.__ne__") (.ref x :: args)) (fun v => Q (some v)) Er s) : wpAny M A (callSpecialIfBound? (.ref x) "__ne__" args) Q Er s := by
  simp only [callSpecialIfBound?, bindSpecialIfBound?]
  refine wpAny_holding (wpAny_bind (wpAny_bind (wpAny_bind (J.type.here ((PySem.W.looks_findIn Y hs).here ?_)))))
  refine wpAny_bind (wpAny_askSetting (wpAny_ite ?_))
  have go : wpAny M A (call (.builtin "object.__ne__") ([.ref x] ++ args) >>= fun v => pure (some v)) Q Er s := wpAny_bind (wpAny_mono h (fun v s' q => wpAny_pure q) fun _ _ q => q)
  split
  · exact wpAny_bind (wpAny_of_eq (F.cmp_object.ne.bind _) (wpAny_pure (by exact go)))
  · exact wpAny_tryCatch (wpAny_bind (wpAny_of_eq (F.cmp_object.ne.bind _) (wpAny_pure (by exact go))))
theorem entry_ne {prog : Program} {w : World} {A : Around} {Er : Value → Shared → Prop} {s : Shared} {K : PySem.W.Frag} {x C f : Addr} {y : Value} {ox : Obj} {od : Option Obj} {Q : Fin → Shared → Prop} (Y : K.In s.heap) (J : PySem.W.InstAt s.heap x ox C od) (hu : A.units < cLine)
    (hs : PySem.W.findIn K (.ref C) "__eq__" = some (some (.ref f))) (hf : PySem.W.isFn K (.ref f) = true)
    (h : wpAny (model prog w) A (call (.ref f) [.ref x, y]) (fun v s' => ∃ b, v = .bool b ∧ Q (.done (.ret (.bool (!b)))) s') Er s) : wpAny (model prog w) A (Builtin.«object.__ne__» ⟨[.ref x, y], []⟩) Q Er s := by
  unfold Builtin.«object.__ne__»
  repeat (first
    | with_reducible refine wpAny_cRoomFor hu ?_
    | (refine wpAny_bind (m := callSpecialIfBound? (.ref x) (Str.ofString "__eq__") [y]) (PySem.W.ifBound_K Y J hs hf (wpAny_mono h (fun r s' hr => by
          obtain ⟨b, rfl, hq⟩ := hr
          repeat (first | exact hq | exact wpAny_pure hq | exact wpAny_truthy_bool hq | (refine wpAny_bind (m := truthy (.bool _)) (wpAny_truthy_bool ?_)) | wp_step)) fun _ _ e => e)))
    | wp_step)
theorem try_ne {prog : Program} {w : World} {A : Around} {Er : Value → Shared → Prop} {s : Shared} {K : PySem.W.Frag} {x C f : Addr} {y : Value} {ox : Obj} {od : Option Obj} {Q : Option Value → Shared → Prop} (Y : K.In s.heap) (J : PySem.W.InstAt s.heap x ox C od) (hu : A.units + 1 < cLine)
    (hn : PySem.W.findIn K (.ref C) "__ne__" = some (some (.builtin "object.__ne__"))) (hm : PySem.W.mroIn K C (.type "object") = some true) (hs : PySem.W.findIn K (.ref C) "__eq__" = some (some (.ref f))) (hf : PySem.W.isFn K (.ref f) = true)
    (h : wpAny (model prog w) A.in1 (call (.ref f) [.ref x, y]) (fun v s' => ∃ b, v = .bool b ∧ Q (some (.bool (!b))) s') Er s) : wpAny (model prog w) A (tryCompare (.ref x) "__ne__" y) Q Er s := by
  unfold tryCompare
  refine wpAny_bind (bound_ne Y J hn (wpAny_call (codeAny_call_builtin F.cmp_object.ne.plain F.cmpEntry_ne (PySem.W.check_slot F.cmpKind_ne F.cmpSplit_ne (J.type.andThen (PySem.W.looks_mroIn Y hm)) (F.cmpArgs_ne _ _)
    (entry_ne (A := A.in1) Y J hu hs hf (wpAny_mono h (fun v s' hv => ?_) fun _ _ e => e))))))
  obtain ⟨b, rfl, hq⟩ := hv
  exact ⟨b, rfl, wpAny_pure hq⟩
theorem op_neO (F : FnOk X.prog X.w X.K X.mg X.base CX k f fd ps sp) (hb : Binds X.K fd ps []) (hx : Passes CX X E) (hr : Room (k + 1) X.A) (hu : X.A.units + 1 < cLine) (hs : PySem.W.findIn X.K (.ref C) "__eq__" = some (some (.ref f))) (hf : PySem.W.isFn X.K (.ref f) = true)
    (hn : PySem.W.findIn X.K (.ref C) "__ne__" = some (some (.builtin "object.__ne__"))) (hm : PySem.W.mroIn X.K C (.type "object") = some true) :
    OpR X (compareOp .NotEq) (fun x y H Q => ∃ a b dx fs dy gs, x = .ref a ∧ y = .ref b ∧ H a = some (.ins C dx fs) ∧ H b = some (.ins C dy gs) ∧ sp [.ref a, .ref b] H (fun v H' => ∃ c, v = .bl c ∧ Q (.bl (!c)) H') E) := by
  intro pins s σ H x y v u Q I rx ry h
  obtain ⟨a, b, dx, fs, dy, gs, rfl, rfl, ha, hb2, hsp⟩ := h
  cases rx
  cases ry
  obtain ⟨mA, J, _⟩ := ins_get I.hok ha
  obtain ⟨od, J, _⟩ := J.look
  obtain ⟨mB, J2, _⟩ := ins_get I.hok hb2
  obtain ⟨od2, J2, _⟩ := J2.look
  have call := run_at (us := [.ref a, .ref b]) (vs := [.ref a, .ref b]) F hb hx (Sub.in1 ⟨hr, rfl⟩) I (.cons rfl (.cons rfl .nil)) hsp
  show wpAny (model X.prog X.w) X.A (richCompare .NotEq (.ref a) (.ref b)) (EP X pins σ Q) X.xe s
  unfold richCompare
  simp only [oneThing_ref]
  refine wpAny_holding (wpAny_bind (wpAny_cRoomFor (Nat.lt_of_succ_lt hu) ?_))
  rw [cmpInfo_NotEq]
  dsimp only
  refine wpAny_bind (J.type.here (wpAny_bind (J2.type.here ?_)))
  rw [show (Value.ref C != Value.ref C) = false from by simp]
  simp only [Bool.false_eq_true, if_false]
  refine wpAny_bind (wpAny_pure ?_)
  simp only [Bool.false_eq_true, if_false]
  refine wpAny_bind (try_ne I.kIn J hu hn hm hs hf (wpAny_mono call (fun r s' q => ?_) fun _ _ x => x))
  obtain ⟨z, H', I', rz, c, rfl, q⟩ := q
  cases rz
  exact ⟨c, rfl, wpAny_pure ⟨.bl (!c), H', I', rfl, q⟩⟩
end
end K2
end
section
set_option Elab.async false
set_option maxRecDepth 100000
set_option linter.all false
namespace K2
open PySem L2 PySem.Spec PyProof.Rows
/-- the staticmethod m of the class at C is the def at g -/
structure SMet (K : PySem.W.Frag) (C : Addr) (mc : Value) (m : Str) (p g : Addr) : Prop where
  at_ : PySem.W.findCls K (.ref C) mc m = some (.get (.builtin "staticmethod.__get__") (.ref p) .none (.ref C))
  rc : ∃ rest, PySem.W.recIn K p "staticmethod" = some (.ref g :: rest)
  kp : PySem.W.keepIn K (.ref g) = true
section
variable {X : Cx} {CX : CXT} {k : Nat} {f g C p : Addr} {mc : Value} {fd : FuncData} {ps ks : List Str} {sp : Sp} {E : XK} {m x : Str} {o e : Expr} {q pos apos nap : Pos} {ta te tk : TE} {tks : TA} {kws : List Keyword}
/-- C.m(), m a staticmethod -/
theorem pe_smeth0 {pl : Sem Bool} (he : PE X o ta) (r : ClX.CRead X.K C mc) (c : SMet X.K C mc m p g) (F : FnOk X.prog X.w X.K X.mg X.base CX k g fd [] sp) (hb : Binds X.K fd [] []) (hr : Room k X.A) (hx : Passes CX X E)
    (ht : eval (.Call (.Attribute o m apos) [] [] pos) X.env = (do
      let ov ← eval o X.env
      standAt apos.atName
      let (f, first) ← holding [ov] (getMethod ov m pl)
      callWith pos f first (backTo pos (starEach [] X.env)) (backToKw pos (keywordEach [] X.env))) := by rfl) : PE X (.Call (.Attribute o m apos) [] [] pos) (fun σ H Q => ta σ H fun z H1 => z = .ref C ∧ sp [] H1 Q E) := by
  constructor
  intro pins s σ H Q I h
  refine PySem.W.methodCall_KW (pl := pl) (thn (he.run pins s σ H _ I h) fun u s1 ⟨z, H1, I1, rz, ez, hs⟩ => ?_) ht
  subst ez
  obtain rfl : u = Value.ref C := rz
  obtain ⟨rest, hp⟩ := c.rc
  refine PySem.W.method_cls I1.kIn r.ga (PySem.W.cls_bind I1.kIn r.rd c.at_ (wpAny_call (PySem.W.sm_get (s := { s1 with toks := s1.toks + 1 }) I1.kIn hp (PySem.W.handed_on rfl ?_))))
  have I2 := I1.tok (s1.toks + 1)
  exact PySem.W.callWith_K0 (first := []) I2.kIn c.kp (run_at (us := []) (vs := []) F hb hx ⟨hr, rfl⟩ I2 .nil hs)
/-- x(), x a class whose __init__ takes any number of things -/
theorem pe_makeR0 (M : Mk X.K C f) (F : FnR X.prog X.w X.K X.mg X.base CX k f sp) (hr : Room (k + 1) X.A) (hg : Gl X x) (hm : X.mg x = some (.ref C)) (hx : Passes CX X E) (hdb : (x == ("__debug__" : Str)) = false := by decide) :
    PE X (.Call (.Name x nap) [] [] pos) (fun σ H Q => ∀ y dx, H y = none → H dx = none → dx ≠ y → sp [V.ref y] (upd (upd H dx (.own y)) y (.ins C dx [])) (fun v H2 => v = .non ∧ Q (.ref y) H2) E) := by
  constructor
  intro pins s σ H Q I h
  refine wpAny_Call_Name_kw (ld_glob I hg hm ?_ hdb)
  exact PySem.W.callWith_K0 (first := []) I.kIn M.kp (StX.run_makeR (us := []) (vs := []) M F hr hx I .nil h)
/-- x(*e) -/
theorem pe_makeSG (M : Mk X.K C f) (F : FnR X.prog X.w X.K X.mg X.base CX k f sp) (hr : Room (k + 1) X.A) (hg : Gl X x) (hm : X.mg x = some (.ref C)) (hx : Passes CX X E) (he : PE X e te) (hdb : (x == ("__debug__" : Str)) = false := by decide)
    (hst : starEach [.Starred e q] X.env = [(true, eval e X.env)] := by rfl) : PE X (.Call (.Name x nap) [.Starred e q] [] pos) (fun σ H Q => te σ H fun z H1 => ∃ a xs, z = .ref a ∧ (SqT X.K H1 a xs ∨ SqL X.K H1 a xs) ∧ ∀ y dx, H1 y = none → H1 dx = none → dx ≠ y →
      sp (V.ref y :: xs) (upd (upd H1 dx (.own y)) y (.ins C dx [])) (fun v H2 => v = .non ∧ Q (.ref y) H2) E) := by
  constructor
  intro pins s σ H Q I h
  refine wpAny_Call_Name_kw (ld_glob I hg hm ?_ hdb)
  refine PySem.W.callWith_S (h₀ := X.base) I.ok.mod.kin M.kp (thn (he.run pins s σ H _ I h) fun v s2 ⟨z, H2, I2, rz, a, xs, ez, hxs, h2⟩ => ?_) hst
  subst ez
  obtain rfl : v = Value.ref a := rz
  exact StX.star_any I2 hxs fun us s3 I3 rv => ⟨I3.kIn, StX.run_makeR M F hr hx I3 rv h2⟩
/-- o.m(), m takes any number of things -/
theorem pe_methR0 {pl : Sem Bool} (he : PE X o ta) (c : Cls X.K C) (hm : Meth X.K C m f) (F : FnR X.prog X.w X.K X.mg X.base CX k f sp) (hr : Room k X.A) (hx : Passes CX X E)
    (ht : eval (.Call (.Attribute o m apos) [] [] pos) X.env = (do
      let ov ← eval o X.env
      standAt apos.atName
      let (f, first) ← holding [ov] (getMethod ov m pl)
      callWith pos f first (backTo pos (starEach [] X.env)) (backToKw pos (keywordEach [] X.env))) := by rfl) : PE X (.Call (.Attribute o m apos) [] [] pos) (fun σ H Q => ta σ H fun z H1 => ∃ a dx fs, z = .ref a ∧ H1 a = some (.ins C dx fs) ∧ fs.lookup m = none ∧ sp [.ref a] H1 Q E) := by
  constructor
  intro pins s σ H Q I h
  refine PySem.W.methodCall_KW (pl := pl) (thn (he.run pins s σ H _ I h) fun u s1 ⟨z, H1, I1, rz, a, dx, fs, ez, ea, l, hs⟩ => ?_) ht
  subst ez
  obtain rfl : u = Value.ref a := rz
  exact getmeth_ok I1 ea c hm l (PySem.W.callWith_K0 (first := [.ref a]) I1.kIn hm.kp (wpAny_call (run_fnR (us := [.ref a]) (vs := [.ref a]) F hr hx I1 (.cons rfl .nil) hs)))
/-- C.m(k = v, ..), m a classmethod -/
theorem pe_cmethK {pl : Sem Bool} {gr : List Value → List Value → List Value} {gV : List V → List V → List V} (he : PE X o ta) (r : ClX.CRead X.K C mc) (c : ClX.CMet X.K C mc m p g) (F : FnOk X.prog X.w X.K X.mg X.base CX k g fd ps sp) (hr : Room k X.A) (hb : KBn X.K fd ps 1 ks gr gV) (hx : Passes CX X E) (hkw : PK X kws tks)
    (hall : (backToKw pos (keywordEach kws X.env)).all (·.1.isSome) = true := by rfl) (hks : (backToKw pos (keywordEach kws X.env)).filterMap (·.1) = ks := by rfl) (hpl : ((backTo pos (starEach [] X.env)).any (·.1) || (backToKw pos (keywordEach kws X.env)).any (·.1.isNone)) = false := by rfl)
    (ht : eval (.Call (.Attribute o m apos) [] kws pos) X.env = (do
      let ov ← eval o X.env
      standAt apos.atName
      let (f, first) ← holding [ov] (getMethod ov m pl)
      callWith pos f first (backTo pos (starEach [] X.env)) (backToKw pos (keywordEach kws X.env))) := by rfl) :
    PE X (.Call (.Attribute o m apos) [] kws pos) (fun σ H Q => ta σ H fun z H1 => z = .ref C ∧ tks σ H1 fun zs H2 => zs.length = ks.length ∧ sp (gV [.ref C] zs) H2 Q E) := by
  constructor
  intro pins s σ H Q I h
  refine PySem.W.methodCall_KW (pl := pl) (thn (he.run pins s σ H _ I h) fun u s1 ⟨z, H1, I1, rz, ez, hs⟩ => ?_) ht
  subst ez
  obtain rfl : u = Value.ref C := rz
  refine ClX.getmethcm_ok I1 r c fun s2 I2 => ?_
  refine PySem.W.callWith_of (P := PySem.W.MethP X.K s1.heap.objs.size g (.ref C)) hpl (PySem.W.keeps_M c.fi) (evalArgs_kw2_nil hall (thn (hkw.run pos _ s2 σ H1 _ I2 hs) fun ws s3 ⟨zs, H2, I3, rw', l2, q2⟩ => ⟨⟨ClX.pin_at I3, I3.kIn⟩, ?_⟩))
  rw [hks]
  have z : wpAny (model X.prog X.w) X.A (call (.ref s1.heap.objs.size) [] (ks.zip ws)) (EP X ((s1.heap.objs.size, PySem.W.methodObj (.ref g) (.ref C)) :: pins) σ Q) X.xe s3 := by
    refine wpAny_call (PySem.W.method_call (ClX.pin_at I3) (codeAny_mono (F.run X.A X.stack s3 H2 ⟨[.ref C], ks.zip ws⟩ (gr [.ref C] ws) (gV [.ref C] zs) Q E hr I3.env0 (hb.to s3 [.ref C] ws I3.kIn rfl (by rw [← l2, rw'.length])) (hb.rel (vs := [.ref C]) (us := [.ref C]) (.cons rfl .nil) rw') q2) fun y z hq => ?_))
    cases y with
    | error e => exact hx _ σ H2 s3 e z I3 hq
    | ok fl =>
      cases fl with
      | ret u => exact I3.after hq
      | next => exact hq.elim
      | brk => exact hq.elim
      | cont => exact hq.elim
  exact thn z fun _ _ y => ClX.unpinE y
end
end K2
end
section
set_option Elab.async false
set_option maxRecDepth 100000
set_option linter.all false
namespace K2
open PySem L2
abbrev sIsW : Stmt := top 11
/-- the module's constants -/
structure Gb (K : PySem.W.Frag) (mg : Str → Option Value) (aR : Addr) (t1 t2 : Tok) : Prop where
  long : mg "LONGEST" = some (.int 8 t1)
  res : mg "RESERVED" = some (.ref aR)
  resT : ∀ H : Hp, SqT K H aR (resd.map V.str)
theorem uni : ∀ k, k < 26 → Unicode.isAlpha (97 + k) = true ∧ Unicode.isLower (97 + k) = true ∧ Unicode.isUpper (97 + k) = false ∧ Unicode.isTitle (97 + k) = false := by decide +kernel
theorem uni' {c : Nat} (h : 97 ≤ c ∧ c ≤ 122) : Unicode.isAlpha c = true ∧ Unicode.isLower c = true ∧ Unicode.isUpper c = false ∧ Unicode.isTitle c = false := by
  have := uni (c - 97) (by omega)
  rw [show 97 + (c - 97) = c by omega] at this
  exact this
theorem vw_ascii {x : Str} (h : VW x) : Txt.isascii x = true := by
  unfold Txt.isascii
  rw [← Array.all_toList, List.all_eq_true]
  intro c hc
  have := h.low c hc
  simp
  omega
theorem vw_alpha {x : Str} (h : VW x) : Txt.isalpha x = true := by
  unfold Txt.isalpha
  have hl : x.length > 0 := by
    rw [len_codes]
    exact List.length_pos_iff.mpr h.ne
  rw [← Array.all_toList, decide_eq_true hl, Bool.true_and, List.all_eq_true]
  intro c hc
  exact (uni' (h.low c hc)).1
theorem vw_lower {x : Str} (h : VW x) : Txt.islower x = true := by
  unfold Txt.islower
  rw [← Array.any_toList, ← Array.any_toList, Bool.and_eq_true]
  refine ⟨?_, ?_⟩
  · rw [List.any_eq_true]
    obtain ⟨c, r, e⟩ := List.exists_cons_of_ne_nil h.ne
    have hc : c ∈ x.cps.toList := by
      show c ∈ codes x
      rw [e]
      simp
    exact ⟨c, hc, (uni' (h.low c hc)).2.1⟩
  · rw [Bool.not_eq_true', List.any_eq_false]
    intro c hc
    have := uni' (h.low c hc)
    rw [this.2.2.1, this.2.2.2]
    decide
def spIsW : Sp := fun vs H Q _ => ∃ x : Str, vs = [.str x] ∧ VW x ∧ Q (.bl true) H
def spAreW : Sp := fun vs H Q _ => ∃ (t : Addr) (xs : List Str), vs = [.ref t] ∧ H t = some (.tup (xs.map V.str)) ∧ (∀ x ∈ xs, VW x) ∧ xs.length ≤ 100 ∧ ∀ H', Same H H' → Q (.bl true) H'
abbrev nAreW : List Str := ["xs", "x"]
section
variable {P : Program} {w : World} {K : PySem.W.Frag} {mg : Str → Option Value} {base : Heap}
theorem scIsW : FnScope ["x"] ["x"] (defScope sIsW) := ⟨rfl, rfl, rfl, by decide +kernel, rfl, by decide +kernel, by decide +kernel⟩
theorem ok_isw {f aR : Addr} {t1 t2 : Tok} {fd : FuncData} (F : Fun K "is_word" "is_word" sIsW f fd) (T : Bi mg) (G : Gb K mg aR t1 t2) : FnOk P w K mg base CX0 1 f fd ["x"] spIsW := by
  refine F.ok scIsW (fun vs H Q E h => ?_) (fun cdv A outer s H vs Q E hr h => ?_)
  · obtain ⟨x, rfl, _⟩ := h
    rfl
  · obtain ⟨x, rfl, hx, k⟩ := h
    refine ⟨_, (pss_cons (ps_if (PW.pt (pw_or (pt_not (pt_val (pe_callB call_isi (by rfl) T.isinstance (by decide +kernel) (pa_cons (pv 0) (pa_cons (pe_bltn (v := .ty "str") (by rfl) T.str (by decide +kernel) rfl) pa_nil))))) (pw_or1 (pt_cmpR op_gt (pe_callB call_len_str (by rfl) T.len PySem.boot_len (pa_cons (pv 0) pa_nil)) (pe_glob (v := .int 8) rfl G.long ⟨_, rfl⟩) (nomark _)))))
      (pss_one (ps_ret pe_bl))
      pss_nil)
      (pss_one (ps_ret (pe_and (pe_m0 PySem.F.slot_str_isascii PySem.F.type_str_isascii mt_isascii (pv 0)) (pe_and (pe_m0 PySem.F.slot_str_isalpha PySem.F.type_str_isalpha mt_isalpha (pv 0)) (pe_and (pe_m0 PySem.F.slot_str_islower PySem.F.type_str_islower mt_islower (pv 0)) (pe_one (pe_cmpR op_notIn_seq (pv 0) (pe_glob (v := .ref aR) rfl G.res rfl) rfl)))))))), ?_⟩
    have hl : x.length ≤ 8 := by rw [len_codes]; exact hx.le
    refine ⟨_, rfl, _, _, _, _, true, rfl, .ty _, .base (.str _), kit_ty (by decide +kernel), _, rfl, ?_⟩
    refine ⟨_, rfl, _, rfl, Nat.le_trans hl (by decide), _, _, rfl, rfl, _, rfl, ite2 (fun h8 => ?_) (fun _ => ?_)⟩
    · have := of_decide_eq_true h8
      omega
    refine ⟨_, rfl, ⟨_, rfl⟩, _, rfl, rfl, trivial, _, rfl, ?_⟩
    rw [vw_ascii hx]
    refine iteT ⟨_, rfl, ⟨_, rfl⟩, _, rfl, rfl, trivial, _, rfl, ?_⟩
    rw [vw_alpha hx]
    refine iteT ⟨_, rfl, ⟨_, rfl⟩, _, rfl, rfl, trivial, _, rfl, ?_⟩
    rw [vw_lower hx]
    refine iteT ⟨_, rfl, aR, _, rfl, .inr (G.resT H), rfl, flat_strs _, ?_⟩
    rw [if_pos rfl, inV_strs, decide_eq_false hx.nr]
    exact k
end
end K2
end
section
set_option Elab.async false
set_option maxRecDepth 100000
set_option linter.all false
namespace K2
open PySem L2
theorem _root_.L2.TyX.same {K : PySem.W.Frag} {H H' : Hp} {x : V} {t : Value} (h : TyX K H x t) (s : Same H H') : TyX K H' x t := by
  cases h with
  | base h =>
    cases h with
    | non => exact .base .non
    | bl b => exact .base (.bl b)
    | int i => exact .base (.int i)
    | str y => exact .base (.str y)
    | flt y => exact .base (.flt y)
    | lst e => exact .base (.lst (s _ _ e))
    | frz e => exact .base (.frz (s _ _ e))
    | tup e => exact .base (.tup (s _ _ e))
    | dK e => exact .base (.dK (s _ _ e))
    | dT e => exact .base (.dT (s _ _ e))
    | ins e cl ha hn htk hm => exact .base (.ins (s _ _ e) cl ha hn htk hm)
  | byt b => exact .byt b
  | set e => exact .set (s _ _ e)
  | kList e c => exact .kList e c
  | kTuple e c => exact .kTuple e c
  | kDict e c => exact .kDict e c
  | fTuple e => exact .fTuple (s _ _ e)
  | fDict e => exact .fDict (s _ _ e)
/-- is_word of a text -/
def isW (x : Str) : Bool := !decide (8 < x.length) && (Txt.isascii x && (Txt.isalpha x && (Txt.islower x && !decide (x ∈ resd))))
theorem vw_isW {x : Str} (h : VW x) : isW x = true := by
  have hl : x.length ≤ 8 := by rw [len_codes]; exact h.le
  unfold isW
  rw [vw_ascii h, vw_alpha h, vw_lower h, decide_eq_false h.nr, decide_eq_false (by omega)]
  rfl
theorem long_isW {x : Str} (h : 8 < x.length) : isW x = false := by
  unfold isW
  rw [decide_eq_true h]
  rfl
/-- is_word of a value gives b -/
inductive WdV (K : PySem.W.Frag) (H : Hp) : V → Bool → Prop where
  | str (x : Str) (l : x.length ≤ sizeLine) : WdV K H (.str x) (isW x)
  | no {x : V} {t : Value} (ty : TyX K H x t) (k : PySem.W.kitOne K t (.type "str") = some false) : WdV K H x false
theorem WdV.same {K : PySem.W.Frag} {H H' : Hp} {x : V} {b : Bool} (h : WdV K H x b) (s : Same H H') : WdV K H' x b := by
  cases h with
  | str x l => exact .str x l
  | no ty k => exact .no (ty.same s) k
theorem WdV.vw {K : PySem.W.Frag} {H : Hp} {x : Str} (h : VW x) : WdV K H (.str x) true := by
  have := WdV.str (K := K) (H := H) x (Nat.le_trans (by rw [len_codes]; exact h.le) (by decide : 8 ≤ sizeLine))
  rwa [vw_isW h] at this
def spIsWG (K : PySem.W.Frag) : Sp := fun vs H Q _ => ∃ (x : V) (b : Bool), vs = [x] ∧ WdV K H x b ∧ Q (.bl b) H
/-- what the items of a tuple give -/
def WdAll (K : PySem.W.Frag) (H : Hp) (xs : List V) (bs : List Bool) : Prop := xs.length = bs.length ∧ ∀ (i : Nat) (x : V) (b : Bool), xs[i]? = some x → bs[i]? = some b → WdV K H x b
theorem WdAll.vw {K : PySem.W.Frag} {H : Hp} {xs : List Str} (h : ∀ x ∈ xs, VW x) : WdAll K H (xs.map V.str) (xs.map fun _ => true) :=
  ⟨by simp, fun i x b h1 h2 => by
    rw [List.getElem?_map] at h1 h2
    cases hx : xs[i]? with
    | none => rw [hx] at h1; cases h1
    | some y =>
      rw [hx] at h1 h2
      cases h1
      cases h2
      exact .vw (h y (List.mem_of_getElem? hx))⟩
def spAreWG (K : PySem.W.Frag) : Sp := fun vs H Q _ => ∃ (t : Addr) (xs : List V) (bs : List Bool), vs = [.ref t] ∧ H t = some (.tup xs) ∧ WdAll K H xs bs ∧ xs.length ≤ 100 ∧ ∀ H', Same H H' → Q (.bl (bs.all id)) H'
section
variable {P : Program} {w : World} {K : PySem.W.Frag} {mg : Str → Option Value} {base : Heap}
theorem ok_iswG {f aR : Addr} {t1 t2 : Tok} {fd : FuncData} (F : Fun K "is_word" "is_word" sIsW f fd) (T : Bi mg) (G : Gb K mg aR t1 t2) : FnOk P w K mg base CX0 1 f fd ["x"] (spIsWG K) := by
  refine F.ok scIsW (fun vs H Q E h => ?_) (fun cdv A outer s H vs Q E hr h => ?_)
  · obtain ⟨x, b, rfl, _⟩ := h
    rfl
  · obtain ⟨x, b, rfl, hx, k⟩ := h
    refine ⟨_, (pss_cons (ps_if (PW.pt (pw_or (pt_not (pt_val (pe_callB call_isi (by rfl) T.isinstance (by decide +kernel) (pa_cons (pv 0) (pa_cons (pe_bltn (v := .ty "str") (by rfl) T.str (by decide +kernel) rfl) pa_nil))))) (pw_or1 (pt_cmpR op_gt (pe_callB call_len_str (by rfl) T.len PySem.boot_len (pa_cons (pv 0) pa_nil)) (pe_glob (v := .int 8) rfl G.long ⟨_, rfl⟩) (nomark _)))))
      (pss_one (ps_ret pe_bl))
      pss_nil)
      (pss_one (ps_ret (pe_and (pe_m0 PySem.F.slot_str_isascii PySem.F.type_str_isascii mt_isascii (pv 0)) (pe_and (pe_m0 PySem.F.slot_str_isalpha PySem.F.type_str_isalpha mt_isalpha (pv 0)) (pe_and (pe_m0 PySem.F.slot_str_islower PySem.F.type_str_islower mt_islower (pv 0)) (pe_one (pe_cmpR op_notIn_seq (pv 0) (pe_glob (v := .ref aR) rfl G.res rfl) rfl)))))))), ?_⟩
    cases hx with
    | no ty kk => exact ⟨_, rfl, _, _, _, _, false, rfl, .ty _, ty, kk, _, rfl, iteT k⟩
    | str x hl =>
      refine ⟨_, rfl, _, _, _, _, true, rfl, .ty _, .base (.str _), kit_ty (by decide +kernel), _, rfl, ?_⟩
      refine ⟨_, rfl, _, rfl, hl, _, _, rfl, rfl, _, rfl, ite2 (fun h8 => ?_) (fun h8 => ?_)⟩
      · have h8 := of_decide_eq_true h8
        rw [long_isW (by omega)] at k
        exact k
      have h8 : ¬ 8 < x.length := fun q => h8 (decide_eq_true (by omega))
      have e : isW x = (Txt.isascii x && (Txt.isalpha x && (Txt.islower x && !decide (x ∈ resd)))) := by
        unfold isW
        rw [decide_eq_false h8]
        rfl
      rw [e] at k
      refine ⟨_, rfl, ⟨_, rfl⟩, _, rfl, rfl, trivial, _, rfl, ?_⟩
      cases h1 : Txt.isascii x with
      | false => rw [h1] at k; exact iteF k
      | true =>
        rw [h1] at k
        refine iteT ⟨_, rfl, ⟨_, rfl⟩, _, rfl, rfl, trivial, _, rfl, ?_⟩
        cases h2 : Txt.isalpha x with
        | false => rw [h2] at k; exact iteF k
        | true =>
          rw [h2] at k
          refine iteT ⟨_, rfl, ⟨_, rfl⟩, _, rfl, rfl, trivial, _, rfl, ?_⟩
          cases h3 : Txt.islower x with
          | false => rw [h3] at k; exact iteF k
          | true =>
            rw [h3] at k
            refine iteT ⟨_, rfl, aR, _, rfl, .inr (G.resT H), rfl, flat_strs _, ?_⟩
            rw [if_pos rfl, inV_strs]
            exact k
end
/-! ### NoClass -/
def spNCI (C : Addr) : Sp := fun vs H Q _ => ∃ (a : Addr) (v1 v2 : V), vs = [.ref a, v1, v2] ∧ H a = some (exo a C none) ∧
  ∀ (d : Addr) (H' : Hp), H d = none → d ≠ a → H' a = some (exo a C (some d)) → H' d = some (exd d [("place", v2), ("reason", v1)]) → (∀ b o, H b = some o → b ≠ a → H' b = some o) → Q .non H'
structure NC (K : PySem.W.Frag) (mg : Str → Option Value) (C fI : Addr) : Prop where
  oex : OexC K C
  n1 : PySem.W.findIn K (.ref C) "reason" = some none
  n2 : PySem.W.findIn K (.ref C) "place" = some none
  iC : PySem.W.findIn K (.ref C) "__init__" = some (some (.ref fI))
  tI : PySem.W.typeIn K (.ref fI) = some (.type "function")
  gC : mg "NoClass" = some (.ref C)
section
variable {P : Program} {w : World} {K : PySem.W.Frag} {mg : Str → Option Value} {base : Heap}
end
end K2
end
section
set_option Elab.async false
set_option maxRecDepth 100000
set_option linter.all false
/-! dicts whose keys are flat tuples of texts, ints and None -/
namespace LfX
open PySem PySem.Spec PyProof.Rows L2
def leafV : PySem.Leaf → V
  | .none => .non
  | .num i => .int i
  | .text x => .str x
abbrev LKey := List PySem.Leaf
abbrev LEnt := LKey × Addr × Value
/-- the dict's own object: the keys' tuples are told apart -/
def LfO (P : Program) (w : World) (d : Addr) (xs : List LEnt) : HO := .ext fun h => ∃ o es ep, h.get? d = some o ∧ o.ExactDict ∧ o.data = .dict es ep ∧ es.toList = xs.map (entryOfKey (tupleKind (PySem.leafKind P w))) ∧ (xs.map (·.1)).Nodup
structure LDict (P : Program) (w : World) (H : Hp) (d : Addr) (xs : List LEnt) : Prop where
  at_ : H d = some (LfO P w d xs)
  keys : ∀ x ∈ xs, H x.2.1 = some (.tup (x.1.map leafV))
  sys : (d == sysModules) = false
  le : xs.length ≤ sizeLine
section
variable {P : Program} {w : World} {H H' : Hp} {h : Heap} {d a : Addr} {xs : List LEnt}
theorem leaf_is {k : PySem.Leaf} {u : Value} (r : RelV (leafV k) u) : (PySem.leafKind P w).is k u = true := by
  cases k with
  | none =>
    obtain rfl : u = Value.none := r
    rfl
  | num i =>
    obtain ⟨t, rfl⟩ := r
    exact decide_eq_true rfl
  | text x =>
    obtain ⟨t, rfl⟩ := r
    show (x == x) = true
    simp
theorem leaves_are : ∀ {ks : LKey} {us : List Value}, Vals (ks.map leafV) us → ItemsAre (PySem.leafKind P w) ks us
  | [], _, r => by rw [List.map_nil] at r; cases r; exact .nil
  | k :: ks, _, r => by
    rw [List.map_cons] at r
    cases r with
    | cons h t => exact .cons (leaf_is h) (leaves_are t)
theorem lkey_of {ks : LKey} (ok : HOk P w H h) (e : H a = some (.tup (ks.map leafV))) : (tupleKind (PySem.leafKind P w)).is h ks a := by
  obtain ⟨_, its, r, o, h1, h2, n, h3⟩ := (show ObjOk P w H h a (.tup (ks.map leafV)) from ok a _ e)
  exact ⟨o, its.toArray, n, h1, h2, h3, by simpa using leaves_are r⟩
theorem ldict_of (D : LDict P w H d xs) (ok : HOk P w H h) : h.DictOfH (tupleKind (PySem.leafKind P w)) d xs := by
  obtain ⟨⟨o, es, ep, h1, h2, h3, h4, h5⟩, _⟩ := (show ObjOk P w H h d (LfO P w d xs) from ok d _ D.at_)
  exact ⟨o, es, ep, h1, h2, h3, h4, fun x hx => lkey_of ok (D.keys x hx), h5⟩
theorem lfo_ok {h' : Heap} {H2 : Hp} (dd : h'.DictOfH (tupleKind (PySem.leafKind P w)) d xs) : ObjOk P w H2 h' d (LfO P w d xs) := by
  obtain ⟨o, es, ep, h1, h2, h3, h4, _, h5⟩ := dd
  refine ⟨⟨o, es, ep, h1, h2, h3, h4, h5⟩, ⟨o, h1⟩, fun g1 g2 ⟨o1, es1, ep1, q1, q2, q3, q4, q5⟩ kp => ⟨o1, es1, ep1, kp _ q1, q2, q3, q4, q5⟩⟩
theorem LDict.mono (D : LDict P w H d xs) (s : ∀ b o, H b = some o → H' b = some o) : LDict P w H' d xs := ⟨s _ _ D.at_, fun x hx => s _ _ (D.keys x hx), D.sys, D.le⟩
end
section
variable {X : Cx} {pins : List (Addr × Obj)} {σ : L2.St} {H : Hp} {s : Shared} {d a b : Addr} {xs : List LEnt} {A : Around} {E : Value → Shared → Prop}
theorem ld_in {ks : LKey} {Q : Value → Shared → Prop} (hu : A.units + 1 < cLine) (I : Inv X pins σ H s) (D : LDict X.prog X.w H d xs) (eb : H b = some (.tup (ks.map leafV))) (h : ∀ s', Inv X pins σ H s' → Q (.bool (atKey xs ks).isSome) s') :
    wpAny (model X.prog X.w) A (compareOp .In (.ref b) (.ref d)) Q E s := by
  refine wpAny_in_heap (tupleKind_room_in1 hu) (lkey_of I.hok eb) D.sys (ldict_of D I.hok) ?_
  exact h _ (I.tok _)
theorem ld_set {ks : LKey} {r : Value} {Q : Unit → Shared → Prop} (hu : A.units < cLine) (I : Inv X pins σ H s) (D : LDict X.prog X.w H d xs) (eb : H b = some (.tup (ks.map leafV))) (hl : xs.length < sizeLine)
    (h : ∀ s' H', Inv X pins σ H' s' → H' = upd H d (LfO X.prog X.w d (storedH xs ks b r)) → Q () s') : wpAny (model X.prog X.w) A (dictSet d (.ref b) r) Q E s := by
  refine wpAny_dictSet_heap (knd := tupleKind (PySem.leafKind X.prog X.w)) hu (lkey_of I.hok eb) (ldict_of D I.hok) (fun h' dd hs => ?_) (Nat.le_of_lt hl)
  have he : ∃ q, h'.get? d = some q := let ⟨q, _, _, hq, _⟩ := dd; ⟨q, hq⟩
  exact h _ _ (d_write I (by rw [D.at_]; exact True.intro) hs he (lfo_ok dd)) rfl
end
end LfX
end
section
set_option Elab.async false
set_option maxRecDepth 100000
set_option linter.all false
/-! list(d) of such a dict -/
namespace LfX
open PySem PySem.Spec PyProof.Rows L2
/-- list(d) -/
def rListL (P : Program) (w : World) : List V → Hp → VK → Prop := fun us H Q => ∃ d xs, us = [.ref d] ∧ LDict P w H d xs ∧ ∀ q, H q = none → Q (.ref q) (upd H q (.lst (xs.map fun x => V.ref x.2.1)))
theorem call_list_L {X : Cx} (hc : X.calm = true) : CallR X (.type "list") (rListL X.prog X.w) := by
  intro pins s σ H vs us Q I r h
  obtain ⟨d, xs, rfl, D, q⟩ := h
  obtain ⟨u, rfl, ru⟩ := r.one
  obtain rfl : u = Value.ref d := ru
  obtain ⟨o, es, ep, h1, h2, h3, h4, h5, h6⟩ := ldict_of D I.hok
  have hsz : es.size = xs.length := by
    have := congrArg List.length h4
    rw [Array.length_toList, List.length_map] at this
    exact this
  refine PySem.W.kdl_call (KdlSrc.rawDict (es := es) (ep := ep) D.sys) (I.ok.hd hc) ⟨o, h1, h2, h3⟩ (by rw [hsz]; exact D.le) fun h' tk acc' c' hkeep hS hacc => ?_
  obtain ⟨hl, hi⟩ := hacc
  refine ⟨.ref s.heap.objs.size, upd H s.heap.objs.size (.lst (xs.map fun x => V.ref x.2.1)), I.laid hkeep (Nat.le_refl _) ⟨?_, acc'.toList, c', ?_, ?_⟩, rfl, q _ (I.hok.fresh (Nat.le_refl _))⟩
  · rw [List.length_map]; exact D.le
  · have el : acc'.toList.length = acc'.size := by simp
    refine vals_of_at (by rw [List.length_map, el, hl, hsz]) fun j x w e1 e2 => ?_
    obtain ⟨hij, hk⟩ := hi j w (by rw [← Array.getElem?_toList]; exact e2)
    rw [List.getElem?_map] at e1
    have e3 : es[j]? = (xs[j]?).map (entryOfKey (tupleKind (PySem.leafKind X.prog X.w))) := entry_at h4 j
    rw [Array.getElem?_eq_getElem hij] at e3
    cases hx : xs[j]? with
    | none => rw [hx] at e1; cases e1
    | some y =>
      rw [hx] at e1 e3
      cases e1
      have e4 : es[j] = entryOfKey (tupleKind (PySem.leafKind X.prog X.w)) y := Option.some.inj e3
      rw [hk, e4]
      rfl
  · simpa using hS
end LfX
end
section
set_option Elab.async false
set_option maxRecDepth 100000
set_option linter.all false
set_option pp.maxSteps 200
/-! {k: v for target in iter if ..}, keys flat tuples: a new dict of them -/
namespace LfX
open PySem PySem.Spec PyProof.Rows L2
section
variable {X : Cx}
def tDcL (P : Program) (w : World) (wi : TI) (g : TG) (tt : TT) (tk tv : TE) (vs : List Nat) : TE := fun σ H Q => wi σ H fun J H1 => ∀ D, H1 D = none → (D == sysModules) = false → ∃ W : Nat → Nat → Hp → Prop, (∃ m, W 0 m (upd H1 D (LfO P w D []))) ∧ ∀ i m H, W i m H →
  (J.stop i H ∧ Q (.ref D) H) ∨ (J.go i H ∧ ∃ Nx : Hp → Prop, (∀ H', Nx H' → ∃ m', m' < m ∧ W (i + 1) m' H') ∧ ∀ x H', J.yld i H x H' → g x (wipe σ vs) H' fun σ2 H2 => wipe σ2 vs = wipe σ vs ∧ tt σ2 H2 fun b H3 =>
    if b = true then tk σ2 H3 fun y H4 => tv σ2 H4 fun z H5 => ∃ (q : Addr) (ks : LKey) (xs : List LEnt), y = .ref q ∧ H5 q = some (.tup (ks.map leafV)) ∧ LDict P w H5 D xs ∧ xs.length < sizeLine ∧ ∀ r, RelV z r → Nx (upd H5 D (LfO P w D (storedH xs ks q r))) else Nx H3)
theorem lfo_new {P : Program} {w : World} {H : Hp} (h : Heap) : ObjOk P w H (h.push { cls := .type "dict", data := .dict #[] }) h.objs.size (LfO P w h.objs.size []) := lfo_ok (Heap.DictOfH.new h)
theorem dcL_core {pins : List (Addr × Obj)} {s : Shared} {σ : L2.St} {H : Hp} {Q : VK} {kx vx tg iter : Expr} {ifs : List Expr} {scope : Scope} {own : List (Str × Nat)} {pos pos' : Pos} {wi : TI} {g : TG} {tt : TT} {tk tv : TE} {use : Option (Value → Sem Unit)} {Qf : Value → Shared → Prop}
    (hc : X.calm = true) (hu : X.A.units < cLine) (hN : X.N.Nodup) (I : Inv X pins σ H s) (hi : PI X tg iter wi) (ok : BlkOk X.N X.env.scope scope own)
    (hg : ∀ (s : Shared) (H : Hp) (C : Addr) (cl : List (Str × Addr)) (fp : List Addr), PG (X.blk s H scope (compEnvC scope cl C X.env) fp) tg g) (ht : ∀ (s : Shared) (H : Hp) (C : Addr) (cl : List (Str × Addr)) (fp : List Addr), PTs (X.blk s H scope (compEnvC scope cl C X.env) fp) ifs tt)
    (hk : ∀ (s : Shared) (H : Hp) (C : Addr) (cl : List (Str × Addr)) (fp : List Addr), PE (X.blk s H scope (compEnvC scope cl C X.env) fp) kx tk)
    (he : ∀ (s : Shared) (H : Hp) (C : Addr) (cl : List (Str × Addr)) (fp : List Addr), PE (X.blk s H scope (compEnvC scope cl C X.env) fp) vx tv) (hs : ∀ x, foldedSetIterable iter X.env x = pure x)
    (h : tDcL X.prog X.w wi g tt tk tv (own.map (·.2)) σ H Q)
    (hRR : ∀ D C s' m H', Inv X pins σ H' s' → Q (.ref D) H' → s'.heap.Ns C m → FpOk X pins H' C → compPost (model X.prog X.w) X.A X.xe use Qf (.ref D) C (.ok .next) s') :
    wpAny (model X.prog X.w) X.A (comprehension (.DictComp kx vx [⟨tg, iter, ifs, 0⟩] scope pos) scope X.env pos' newDict false (eval iter X.env) use) Qf X.xe s := by
  have free : ∀ y ∈ scope.names, y.2 = .free → ∃ c, X.env.cells.lookup y.1 = some c := fun y hy e => (ok.free y hy e).elim (fun k => I.ok.has _ (.inl k)) fun k => I.ok.has _ (.inr k)
  refine wpAny_comprehension_free (use := use) rfl hs (closure_ok free) ok.kind (fun y hy e => by rw [ok.uniq y hy, e]) (thn (hi.run pins s σ H _ I h) fun xv s1 hx => thn hx fun itv s2 h2 => ?_)
  obtain ⟨it, fp, tn, J, H2, e, I2, T, st2, f2, q⟩ := h2
  subst e
  refine wpAny_newObj_type (newEnv_comp ?_)
  have sysD : (s2.heap.objs.size == sysModules) = false := by
    have := I2.big
    simp only [beq_eq_false_iff_ne, ne_eq]
    exact Nat.ne_of_gt this
  have fpLt : ∀ b ∈ fp, b < s2.heap.objs.size := fun b hb => let ⟨o, e, _⟩ := T.obj _ _ st2 b hb; Heap.lt_size e
  obtain ⟨D, eD⟩ : ∃ D, D = s2.heap.objs.size := ⟨_, rfl⟩
  obtain ⟨W, ⟨m0, w0⟩, turn⟩ := q D (I2.hok.fresh (Nat.le_of_eq eD.symm)) (by rw [eD]; exact sysD)
  obtain ⟨s3, e3⟩ : ∃ s3 : Shared, s3 = { s2 with heap := s2.heap.push { cls := .type "dict", data := .dict #[] } } := ⟨_, rfl⟩
  have hp3 : s3.heap = s2.heap.push { cls := .type "dict", data := .dict #[] } := by rw [e3]
  have I3 : Inv X pins σ (upd H2 D (LfO X.prog X.w D [])) s3 := by
    rw [e3, eD]
    exact I2.laid (t' := s2.toks) (fun b o e => Heap.get?_push_of_some _ e) (Nat.le_refl _) (lfo_new s2.heap)
  have f3 : ∀ b ∈ fp, FpOk X pins (upd H2 D (LfO X.prog X.w D [])) b ∧ b < s3.heap.objs.size := fun b hb => by
    have lt := fpLt b hb
    refine ⟨⟨?_, (f2 b hb).2⟩, by rw [hp3, Heap.size_push]; exact Nat.lt_succ_of_lt lt⟩
    rw [upd_ne (by rw [eD]; exact Nat.ne_of_lt lt)]
    exact (f2 b hb).1
  have st3 : tn 0 s3.heap := T.keep _ _ _ st2 fun b _ o e => by rw [hp3]; exact Heap.get?_push_of_some _ e
  obtain ⟨H3, eH3⟩ : ∃ H3, H3 = upd H2 D (LfO X.prog X.w D []) := ⟨_, rfl⟩
  rw [← eH3] at I3 f3 w0
  have I4 := block_start I3 ok hN f3
  have pg := hg s3 H3 s3.heap.objs.size (cellsFrom (s3.heap.objs.size + 1) scope.names (cloFrom X.env.cells scope.names [])) fp
  have pt := ht s3 H3 s3.heap.objs.size (cellsFrom (s3.heap.objs.size + 1) scope.names (cloFrom X.env.cells scope.names [])) fp
  have pk := hk s3 H3 s3.heap.objs.size (cellsFrom (s3.heap.objs.size + 1) scope.names (cloFrom X.env.cells scope.names [])) fp
  have pe := he s3 H3 s3.heap.objs.size (cellsFrom (s3.heap.objs.size + 1) scope.names (cloFrom X.env.cells scope.names [])) fp
  rw [← eD, ← e3]
  show codeAny _ _ (.compStart (.DictComp kx vx [⟨tg, iter, ifs, 0⟩] scope pos) 0 (.ref it) (.ref D) (compEnvC scope (cellsFrom (s3.heap.objs.size + 1) scope.names (cloFrom X.env.cells scope.names [])) s3.heap.objs.size X.env)) (compPost (model X.prog X.w) X.A X.xe use Qf (.ref D) s3.heap.objs.size) { s3 with heap := pushCells (s3.heap.push { cls := .type "dict", data := .dict #[] }) scope.names }
  have cL : (compEnvC scope (cellsFrom (s3.heap.objs.size + 1) scope.names (cloFrom X.env.cells scope.names [])) s3.heap.objs.size X.env).locals = s3.heap.objs.size := rfl
  generalize compEnvC scope (cellsFrom (s3.heap.objs.size + 1) scope.names (cloFrom X.env.cells scope.names [])) s3.heap.objs.size X.env = ce at I4 pg pt pk pe cL ⊢
  obtain ⟨s4, e4⟩ : ∃ s4 : Shared, s4 = { s3 with heap := pushCells (s3.heap.push { cls := .type "dict", data := .dict #[] }) scope.names } := ⟨_, rfl⟩
  rw [← e4] at I4 ⊢
  have st4 : tn 0 s4.heap := T.keep _ _ _ st3 fun b _ o e => by rw [e4]; exact pushCells_keeps _ _ _ _ (Heap.get?_push_of_some _ e)
  have nfp : ∀ b ∈ fp, H3 b = none := fun b hb => (f3 b hb).1.1
  have stat : ∀ {σ' : L2.St} {H' : Hp} {s' : Shared}, Inv (X.blk s3 H3 scope ce fp) [] σ' H' s' → (∀ b ∈ fp, H' b = none) → ∀ b ∈ fp, FpOk (X.blk s3 H3 scope ce fp) [] H' b := fun {σ' H' s'} I' hn b hb =>
    ⟨hn b hb, (I'.ok.exf b hb).1, I'.ok.exfs b hb, .inl hb, fun x c e => (I'.ok.exf b hb).2 x c e, fun p hp => absurd (show p ∈ ([] : List (Addr × Obj)) ++ [] from hp) (by simp)⟩
  have loop : codeAny (model X.prog X.w) X.A (.compLoop (.DictComp kx vx [⟨tg, iter, ifs, 0⟩] scope pos) 0 (.ref it) (.ref D) ce) (compPost (model X.prog X.w) X.A X.xe use Qf (.ref D) s3.heap.objs.size) s4 := by
    refine compLoop_anyD (fun n s' => ∃ i H', Inv (X.blk s3 H3 scope ce fp) [] (wipe σ (own.map (·.2))) H' s' ∧ tn i s'.heap ∧ (∀ b ∈ fp, H' b = none) ∧ W i n H') ?_ m0 ⟨0, H3, I4, st4, nfp, w0⟩
    rintro n s5 ⟨i, H5, I5, st5, n5, w5⟩
    rcases turn i n H5 w5 with ⟨stop, done⟩ | ⟨go, Nx, hNx, step⟩
    · refine thnF (T.done (X.blk s3 H3 scope ce fp) rfl rfl rfl hc i [] s5 _ H5 (fun _ _ => False) I5 (stat I5 n5) st5 stop) fun r s6 ⟨hr, I6⟩ => ?_
      subst hr
      have I7 : Inv X pins σ H5 s6 := I3.call' (ch := fp) I6.os I6.base I6.hok I6.bare fun b hb => ⟨(f3 b hb).1.2.2.2.1, (f3 b hb).1.2.1, (f3 b hb).1.2.2.2.2.1, (f3 b hb).1.2.2.2.2.2⟩
      have nC : H5 ce.locals = none := I6.free
      rw [cL] at nC
      obtain ⟨m, hn, _⟩ := I6.loc
      have hn : s6.heap.Ns ce.locals m := hn
      rw [cL] at hn
      exact hRR D s3.heap.objs.size s6 m H5 I7 done hn (I3.fpOk (Nat.le_refl _) nC)
    · refine thnF (T.item (X.blk s3 H3 scope ce fp) rfl rfl rfl hc i [] s5 _ H5 (fun _ _ => False) I5 (stat I5 n5) st5 go) fun r s6 ⟨u, hr, h6⟩ => ?_
      subst hr
      refine thnF h6 fun _ s7 ⟨x, H7, I7, r7, y7, st7, n7⟩ => ?_
      refine thnF (pg.run _ s7 _ H7 x u _ (I7.pinned (stat I7 n7) (T.obj _ _ st7)) r7 (step x H7 y7)) fun _ s8 ⟨σ8, H8, I8, hw8, q8⟩ => ?_
      refine thnF (pt.run _ s8 σ8 H8 _ I8 q8) fun b s9 ⟨H9, I9, q9⟩ => ?_
      have fin : ∀ {s' : Shared} {H' : Hp}, Inv (X.blk s3 H3 scope ce fp) ([] ++ pinsAt fp s7.heap) σ8 H' s' → Nx H' → ∃ m, m < n ∧ ∃ i H', Inv (X.blk s3 H3 scope ce fp) [] (wipe σ (own.map (·.2))) H' s' ∧ tn i s'.heap ∧ (∀ b ∈ fp, H' b = none) ∧ W i m H' := fun {s' H'} I' nx => by
        obtain ⟨m', hm, w'⟩ := hNx H' nx
        have pin' : ∀ b ∈ fp, ∀ o, s7.heap.get? b = some o → s'.heap.get? b = some o ∧ H' b = none := fun b hb o e => let z := I'.pin (b, o) (List.mem_append_right _ (List.mem_append_right _ (mem_pinsAt hb e))); ⟨z.1, z.2.1⟩
        refine ⟨m', hm, i + 1, H', (I'.unpinned (pins := [])).weak (by rw [← hw8, wipe_length]) (fun j v e => ?_), T.keep _ _ _ st7 fun b hb o e => (pin' b hb o e).1, fun b hb => ?_, w'⟩
        · rw [← hw8] at e
          exact (wipe_some e).1
        · obtain ⟨o, e, _⟩ := T.obj _ _ st7 b hb
          exact (pin' b hb o e).2
      cases b with
      | false =>
        simp only [Bool.false_eq_true, if_false] at q9 ⊢
        exact fin I9 q9
      | true =>
        simp only [if_true] at q9 ⊢
        refine thnF (pk.run _ s9 σ8 H9 _ I9 q9) fun z s10 ⟨yk, H10, I10, r10, q10⟩ => ?_
        refine thnF (pe.run _ s10 σ8 H10 _ I10 q10) fun z2 s11 ⟨yv, H11, I11, r11, q, ks, xs, ek, hq, LD, hz, nx⟩ => ?_
        subst ek
        obtain rfl : z = Value.ref q := r10
        exact ld_set (X := X.blk s3 H3 scope ce fp) hu I11 LD hq hz fun s12 H12 I12 e12 => by subst e12; exact fin I12 (nx _ r11)
  exact codeAny_compStart_dict loop (T.self X.A 0 _ _ _ st4 loop)
/-- as a value -/
theorem pe_dcL {kx vx tg iter : Expr} {ifs : List Expr} {scope : Scope} {own : List (Str × Nat)} {pos : Pos} {wi : TI} {g : TG} {tt : TT} {tk tv : TE} (hu : X.A.units < cLine) (hc : X.calm = true) (hN : X.N.Nodup) (hi : PI X tg iter wi) (ok : BlkOk X.N X.env.scope scope own)
    (hg : ∀ (s : Shared) (H : Hp) (C : Addr) (cl : List (Str × Addr)) (fp : List Addr), PG (X.blk s H scope (compEnvC scope cl C X.env) fp) tg g) (ht : ∀ (s : Shared) (H : Hp) (C : Addr) (cl : List (Str × Addr)) (fp : List Addr), PTs (X.blk s H scope (compEnvC scope cl C X.env) fp) ifs tt)
    (hk : ∀ (s : Shared) (H : Hp) (C : Addr) (cl : List (Str × Addr)) (fp : List Addr), PE (X.blk s H scope (compEnvC scope cl C X.env) fp) kx tk)
    (he : ∀ (s : Shared) (H : Hp) (C : Addr) (cl : List (Str × Addr)) (fp : List Addr), PE (X.blk s H scope (compEnvC scope cl C X.env) fp) vx tv) (hs : ∀ x, foldedSetIterable iter X.env x = pure x := by intro _; rfl) :
    PE X (.DictComp kx vx [⟨tg, iter, ifs, 0⟩] scope pos) (tDcL X.prog X.w wi g tt tk tv (own.map (·.2))) := by
  refine ⟨fun pins s σ H Q I h => ?_⟩
  rw [arm_eval_DictComp]
  refine dcL_core hc hu hN I hi ok hg ht hk he hs h fun D C s' m H' I' q hn f => ⟨m, hn, fun h'' sb => ?_⟩
  obtain ⟨f0, f1, f2, f3, f4, f5⟩ := f
  exact ⟨.ref D, H', I'.turned (t' := s'.toks) (fun b o hb e => (sb.2 b hb).trans e) f0 f1 f3 f4 f5, rfl, q⟩
end
end LfX
end
section
set_option Elab.async false
set_option maxRecDepth 100000
set_option linter.all false
set_option pp.maxSteps 200
/-! x in d; such a dict built over a tuple or a list that stays -/
namespace LfX
open PySem PySem.Spec PyProof.Rows L2
theorem atKey_mem (xs : List LEnt) (ks : LKey) : (atKey xs ks).isSome = decide (ks ∈ xs.map (·.1)) := by
  induction xs with
  | nil => rfl
  | cons x xs ih =>
    by_cases h : x.1 = ks
    · simp [atKey, h]
    · have h2 : ¬ ks = x.1 := fun e => h e.symm
      have ih : (atKey xs ks).isSome = decide (ks ∈ xs.map (·.1)) := ih
      rw [List.map_cons]
      simp only [List.mem_cons, h2, false_or]
      rw [← ih]
      simp [atKey, h]
def rInL (P : Program) (w : World) (neg : Bool) : R2 := fun x y H Q => ∃ (q d : Addr) (ks : LKey) (xs : List LEnt), x = .ref q ∧ y = .ref d ∧ H q = some (.tup (ks.map leafV)) ∧ LDict P w H d xs ∧ Q (.bl (if neg then !decide (ks ∈ xs.map (·.1)) else decide (ks ∈ xs.map (·.1)))) H
section
variable {X : Cx}
theorem op_inL (hu : X.A.units + 1 < cLine) : OpR X (compareOp .In) (rInL X.prog X.w false) := by
  intro pins s σ H x y v u Q I rx ry h
  obtain ⟨q, d, ks, xs, rfl, rfl, hq, D, k⟩ := h
  obtain rfl : v = Value.ref q := rx
  obtain rfl : u = Value.ref d := ry
  refine ld_in hu I D hq fun s' I' => ⟨.bl _, H, I', rfl, ?_⟩
  rw [atKey_mem]
  exact k
/-- over a list that stays -/
theorem dcL_list {P : Program} {w : World} {K : PySem.W.Frag} {a : Addr} {ys : List V} {g : TG} {tt : TT} {tk tv : TE} {vs : List Nat} {σ : L2.St} {H1 : Hp} {D : Addr} {Qd : Hp → Prop} (Pv : Nat → Hp → Prop) (h0 : Pv 0 (upd H1 D (LfO P w D []))) (hl : ∀ i H, i ≤ ys.length → Pv i H → SqL K H a ys)
    (hs : ∀ i x H, ys[i]? = some x → Pv i H → g x (wipe σ vs) H fun σ2 H2 => wipe σ2 vs = wipe σ vs ∧ tt σ2 H2 fun b H3 =>
      if b = true then tk σ2 H3 fun y H4 => tv σ2 H4 fun z H5 => ∃ (q : Addr) (ks : LKey) (xs : List LEnt), y = .ref q ∧ H5 q = some (.tup (ks.map leafV)) ∧ LDict P w H5 D xs ∧ xs.length < sizeLine ∧ ∀ r, RelV z r → Pv (i + 1) (upd H5 D (LfO P w D (storedH xs ks q r))) else Pv (i + 1) H3) (hd : ∀ H, Pv ys.length H → Qd H) :
    ∃ W : Nat → Nat → Hp → Prop, (∃ m, W 0 m (upd H1 D (LfO P w D []))) ∧ ∀ i m H, W i m H →
      ((Itl K a).stop i H ∧ Qd H) ∨ ((Itl K a).go i H ∧ ∃ Nx : Hp → Prop, (∀ H', Nx H' → ∃ m', m' < m ∧ W (i + 1) m' H') ∧ ∀ x H', (Itl K a).yld i H x H' → g x (wipe σ vs) H' fun σ2 H2 => wipe σ2 vs = wipe σ vs ∧ tt σ2 H2 fun b H3 =>
        if b = true then tk σ2 H3 fun y H4 => tv σ2 H4 fun z H5 => ∃ (q : Addr) (ks : LKey) (xs : List LEnt), y = .ref q ∧ H5 q = some (.tup (ks.map leafV)) ∧ LDict P w H5 D xs ∧ xs.length < sizeLine ∧ ∀ r, RelV z r → Nx (upd H5 D (LfO P w D (storedH xs ks q r))) else Nx H3) := by
  refine ⟨fun i m H => m = ys.length - i ∧ i ≤ ys.length ∧ Pv i H, ⟨ys.length, by simp, Nat.zero_le _, h0⟩, ?_⟩
  rintro i m H ⟨rfl, hi, p⟩
  have q := hl i H hi p
  by_cases hlt : i < ys.length
  · refine .inr ⟨⟨ys, ys[i], q, by simp [hlt]⟩, Pv (i + 1), fun H' p' => ⟨ys.length - (i + 1), by omega, rfl, hlt, p'⟩, fun x H' y => ?_⟩
    obtain ⟨e, y⟩ := y
    subst e
    exact hs i x _ (y ys q) p
  · have e : i = ys.length := by omega
    subst e
    exact .inl ⟨⟨ys, q, Nat.le_refl _⟩, hd H p⟩
/-- over a tuple that stays -/
theorem dcL_tup {P : Program} {w : World} {K : PySem.W.Frag} {a : Addr} {ys : List V} {g : TG} {tt : TT} {tk tv : TE} {vs : List Nat} {σ : L2.St} {H1 : Hp} {D : Addr} {Qd : Hp → Prop} (Pv : Nat → Hp → Prop) (h0 : Pv 0 (upd H1 D (LfO P w D []))) (hl : ∀ i H, i ≤ ys.length → Pv i H → SqT K H a ys)
    (hs : ∀ i x H, ys[i]? = some x → Pv i H → g x (wipe σ vs) H fun σ2 H2 => wipe σ2 vs = wipe σ vs ∧ tt σ2 H2 fun b H3 =>
      if b = true then tk σ2 H3 fun y H4 => tv σ2 H4 fun z H5 => ∃ (q : Addr) (ks : LKey) (xs : List LEnt), y = .ref q ∧ H5 q = some (.tup (ks.map leafV)) ∧ LDict P w H5 D xs ∧ xs.length < sizeLine ∧ ∀ r, RelV z r → Pv (i + 1) (upd H5 D (LfO P w D (storedH xs ks q r))) else Pv (i + 1) H3) (hd : ∀ H, Pv ys.length H → Qd H) :
    ∃ W : Nat → Nat → Hp → Prop, (∃ m, W 0 m (upd H1 D (LfO P w D []))) ∧ ∀ i m H, W i m H →
      ((Itt K a).stop i H ∧ Qd H) ∨ ((Itt K a).go i H ∧ ∃ Nx : Hp → Prop, (∀ H', Nx H' → ∃ m', m' < m ∧ W (i + 1) m' H') ∧ ∀ x H', (Itt K a).yld i H x H' → g x (wipe σ vs) H' fun σ2 H2 => wipe σ2 vs = wipe σ vs ∧ tt σ2 H2 fun b H3 =>
        if b = true then tk σ2 H3 fun y H4 => tv σ2 H4 fun z H5 => ∃ (q : Addr) (ks : LKey) (xs : List LEnt), y = .ref q ∧ H5 q = some (.tup (ks.map leafV)) ∧ LDict P w H5 D xs ∧ xs.length < sizeLine ∧ ∀ r, RelV z r → Nx (upd H5 D (LfO P w D (storedH xs ks q r))) else Nx H3) := by
  refine ⟨fun i m H => m = ys.length - i ∧ i ≤ ys.length ∧ Pv i H, ⟨ys.length, by simp, Nat.zero_le _, h0⟩, ?_⟩
  rintro i m H ⟨rfl, hi, p⟩
  have q := hl i H hi p
  by_cases hlt : i < ys.length
  · refine .inr ⟨⟨ys, ys[i], q, by simp [hlt]⟩, Pv (i + 1), fun H' p' => ⟨ys.length - (i + 1), by omega, rfl, hlt, p'⟩, fun x H' y => ?_⟩
    obtain ⟨e, y⟩ := y
    subst e
    exact hs i x _ (y ys q) p
  · have e : i = ys.length := by omega
    subst e
    exact .inl ⟨⟨ys, q, Nat.le_refl _⟩, hd H p⟩
/-- the dict with one more key, or the same keys -/
theorem LDict.stored {P : Program} {w : World} {H : Hp} {d q : Addr} {xs : List LEnt} {ks : LKey} {r : Value} (D : LDict P w H d xs) (hq : H q = some (.tup (ks.map leafV))) (hl : xs.length < sizeLine) (hn : ks ∉ xs.map (·.1)) :
    storedH xs ks q r = xs ++ [(ks, q, r)] ∧ LDict P w (upd H d (LfO P w d (xs ++ [(ks, q, r)]))) d (xs ++ [(ks, q, r)]) := by
  have e : storedH xs ks q r = xs ++ [(ks, q, r)] := by
    unfold storedH
    rw [atKey_mem, if_neg (by simpa using hn)]
  have tn : ∀ b ys, H b = some (.tup ys) → b ≠ d := fun b ys h z => by
    rw [z, D.at_] at h
    cases h
  refine ⟨e, upd_same, fun x hx => ?_, D.sys, by rw [List.length_append]; show _ + 1 ≤ _; omega⟩
  rcases List.mem_append.mp hx with hx | hx
  · rw [upd_ne (tn _ _ (D.keys x hx))]
    exact D.keys x hx
  · rw [List.mem_singleton.mp hx, upd_ne (tn _ _ hq)]
    exact hq
/-- a key that is there already -/
theorem LDict.again {P : Program} {w : World} {H : Hp} {d q : Addr} {xs : List LEnt} {ks : LKey} {r : Value} (D : LDict P w H d xs) (hm : ks ∈ xs.map (·.1)) :
    (storedH xs ks q r).map (·.1) = xs.map (·.1) ∧ LDict P w (upd H d (LfO P w d (storedH xs ks q r))) d (storedH xs ks q r) := by
  obtain ⟨pr, hp⟩ := Option.isSome_iff_exists.mp (show (atKey xs ks).isSome = true by rw [atKey_mem]; exact decide_eq_true hm)
  have e : storedH xs ks q r = xs.map (putAt ks r) := storedH_old hp q r
  have p1 : ∀ x : LEnt, (putAt ks r x).1 = x.1 ∧ (putAt ks r x).2.1 = x.2.1 := fun x => by
    unfold putAt
    split <;> exact ⟨rfl, rfl⟩
  have tn : ∀ b ys, H b = some (.tup ys) → b ≠ d := fun b ys h z => by
    rw [z, D.at_] at h
    cases h
  have ek : (storedH xs ks q r).map (·.1) = xs.map (·.1) := by
    rw [e, List.map_map]
    exact List.map_congr_left fun x _ => (p1 x).1
  refine ⟨ek, upd_same, fun x hx => ?_, D.sys, by rw [e, List.length_map]; exact D.le⟩
  rw [e] at hx
  obtain ⟨y, hy, rfl⟩ := List.mem_map.mp hx
  rw [(p1 y).1, (p1 y).2, upd_ne (tn _ _ (D.keys y hy))]
  exact D.keys y hy
end
end LfX
end
section
set_option Elab.async false
set_option maxRecDepth 100000
set_option linter.all false
/-! sorting by a key that the program's own code gives: the list's own part, told by what stays -/
namespace LfX
open PySem PySem.W PySem.Calls PySem.Spec PyProof.Rows
/-- all but two objects stay -/
def But2 (x y : Addr) (h h' : Heap) : Prop := ∀ b, b ≠ x → b ≠ y → h'.get? b = h.get? b
section
variable {prog : Program} {w : World} {A : Around} {E : Value → Shared → Prop} {s : Shared} {a kS : Addr} {b : Bool} {vs ks out : List Value} {e e1 : Nat} {P : PySem.Fin → Shared → Prop}
theorem sg_tail {st : SortSt} (nk : s.heap.get? kS = some (seqObj "list" ks.toArray e)) (na : s.heap.get? a = some (seqObj "list" #[] e1)) (hka : kS ≠ a) (hsz : ks.length ≤ sizeLine) (hz : out.length ≤ sizeLine) (hfl : failedOf st = none)
    (ho : (if b = true then ((arrOf st).map (·.2)).reverse else (arrOf st).map (·.2)) = out.toArray) (h : P (.done (.ret .none)) { s with heap := (s.heap.update kS (Obj.mapSeq fun _ => (#[] : Array Value))).update a (Obj.mapSeq fun _ => out.toArray) }) :
    wpAny (model prog w) A (ksk_tail a b e1 (.ref kS) st) P E s := by
  have x1 := Heap.SameBut.update s.heap kS (Obj.mapSeq fun _ => (#[] : Array Value))
  have na1 : (s.heap.update kS (Obj.mapSeq fun _ => (#[] : Array Value))).get? a = some (seqObj "list" #[] e1) := (x1.2 a hka.symm).trans na
  have hz2 : out.toArray.size ≤ sizeLine + 1 := by rw [List.size_toArray]; exact Nat.le_succ_of_le hz
  unfold ksk_tail
  try dsimp only
  rw [ho]
  refine wpAny_bind (listUpdate_at nk rfl ?_ (by rw [List.size_toArray]; exact hsz) (Nat.zero_le _))
  refine wpAny_bind (wpAny_letGo ?_)
  refine wpAny_bind (seqEpoch_at na1 rfl ?_)
  refine wpAny_bind (listUpdate_at na1 rfl ?_ (Nat.zero_le _) hz2)
  rw [hfl]
  simp only [bne_self_eq_false, Bool.false_eq_true, if_false]
  exact wpAny_pure h
theorem sg_end {κ : PyProof.Rows.KeyKind} (nk : s.heap.get? kS = some (seqObj "list" ks.toArray e)) (na : s.heap.get? a = some (seqObj "list" #[] e1)) (hka : kS ≠ a) (S : SortsAt prog w A s κ ks) (hsz : ks.length = vs.length) (hZ : vs.length ≤ sizeLine)
    (h : ∀ tk, P (.done (.ret .none)) { s with heap := (s.heap.update kS (Obj.mapSeq fun _ => (#[] : Array Value))).update a (Obj.mapSeq fun _ => (sortVals κ b ks vs).toArray), toks := tk }) :
    wpAny (model prog w) A (ksk_end a b vs.toArray e1 (.ref kS) ks.toArray) P E s := by
  obtain ⟨kd, g1, g2⟩ := S.kind
  generalize hz0 : (if b = true then (ks.toArray.zip vs.toArray).reverse else ks.toArray.zip vs.toArray) = ps
  have hK : PyProof.Rows.KeysOf κ (ks.toArray.zip vs.toArray) := keysOf_zip (keys := ks.toArray) fun v hv => S.keys v (by simpa using hv)
  have hol : (sortVals κ b ks vs).length = vs.length := sortVals_length b hsz
  have hp0 : ps.Perm (ks.toArray.zip vs.toArray) := by
    rw [← hz0]
    cases b with
    | false => exact Array.Perm.refl _
    | true => exact Array.perm_iff_toList_perm.mpr (by rw [if_pos rfl, Array.toList_reverse]; exact List.reverse_perm _)
  have hps : ps.size = vs.length := by rw [hp0.size_eq, Array.size_zip, List.size_toArray, List.size_toArray, hsz, Nat.min_self]
  have fin : ∀ st' : SortSt, (arrOf st').Perm ps → SortedToK κ (arrOf st') ps.size → Stable κ (arrOf st') ps → (if b = true then ((arrOf st').map (·.2)).reverse else (arrOf st').map (·.2)) = (sortVals κ b ks vs).toArray := by
    intro st' hp hs ht
    rw [← hz0] at hp hs ht
    have := congrArg List.toArray (sort_out (rev := b) (keys := ks.toArray) (items := vs.toArray) (xs := arrOf st') (κ := κ) hK hp hs ht)
    simpa using this
  have rul : ∀ t : Sem PySem.Fin, wpAny (model prog w) A t P E s → wpAny (model prog w) A (if b = true then (do let _ ← rule "list.sort.reverse"; t) else t) P E s := by
    intro t ht
    split
    · exact wpAny_bind (wpAny_rule ht)
    · exact ht
  unfold ksk_end
  try dsimp only
  refine rul _ ?_
  rw [hz0]
  by_cases h2 : vs.toArray.size < 2
  · rw [if_pos h2, if_pos h2]
    refine wpAny_bind (wpAny_pure ?_)
    rw [StateT.run_pure]
    refine wpAny_bind (wpAny_pure ?_)
    try dsimp only
    refine sg_tail (out := sortVals κ b ks vs) (st := SortSt.mk' general' ps #[] 7 none) nk na hka (by rw [hsz]; exact hZ) (by rw [hol]; exact hZ) rfl (fin _ (Array.Perm.refl _) ?_ (Stable.refl _)) (h s.toks)
    intro i j hij hj
    rw [hps] at hj
    rw [List.size_toArray] at h2
    obtain rfl : i = j := by omega
    exact KeyOrd.kle_refl _
  · rw [if_neg h2, if_neg h2]
    rw [List.size_toArray] at h2
    refine wpAny_bind (g2 (by omega) _ ?_)
    refine wpAny_bind (wpAny_mono (H.wpS_sortRunsSt (κ := κ) (kd := kd) (a₀ := ps) (st := SortSt.mk' kd ps #[] 7 none)
      (Q := fun _ st' => failedOf st' = none ∧ (if b = true then ((arrOf st').map (·.2)).reverse else (arrOf st').map (·.2)) = (sortVals κ b ks vs).toArray)
      g1 (hK.perm hp0) ⟨Array.Perm.refl _, rfl, rfl⟩ rfl (Stable.refl _) (by rw [hps]; omega) fun st' a1 a2 a3 a4 => ⟨a2, fin st' a1 a3 a4⟩) ?_ fun _ _ e => e)
    rintro ⟨⟨⟩, st'⟩ s' ⟨rfl, hf, ho⟩
    try dsimp only at ho ⊢
    exact sg_tail nk na hka (by rw [hsz]; exact hZ) (by rw [hol]; exact hZ) hf ho (h _)
theorem sg_rest {f : Value} (J : List Value → Shared → Prop) (hZ : vs.length ≤ sizeLine) (hJ : ∀ ks s, J ks s → (∃ e, s.heap.get? kS = some (seqObj "list" ks.toArray e)))
    (turn : ∀ (ks : List Value) (v : Value) (s : Shared), vs[ks.length]? = some v → J ks s → wpAny (model prog w) A (call f [v]) (fun kv s' => (∃ e, s'.heap.get? kS = some (seqObj "list" ks.toArray e)) ∧ ∀ h' c, Heap.SameBut kS s'.heap h' → h'.get? kS = some (seqObj "list" (ks ++ [kv]).toArray c) → J (ks ++ [kv]) { s' with heap := h' }) (fun _ _ => False) s)
    (fin : ∀ ks s, ks.length = vs.length → J ks s → wpAny (model prog w) A (ksk_end a b vs.toArray e1 (.ref kS) ks.toArray) P E s) (h0 : J [] s) : wpAny (model prog w) A (ksk_rest a f b vs.toArray e1 (.ref kS)) P E s := by
  unfold ksk_rest
  refine wpAny_bind (wpAny_rule ?_)
  first
    | rw [List.forIn_toArray]
    | (rw [← Array.forIn_toList]; simp only [List.toList_toArray])
    | rw [← Array.forIn_toList]
  refine wpAny_bind (ksk_fold (fun i s' => ∃ ks, ks.length = i ∧ J ks s') vs 0 s ⟨[], rfl, h0⟩ ?step ?done)
  case step =>
    rintro j x s' hx ⟨ks, hl, hj⟩
    rw [Nat.zero_add] at hl ⊢
    subst hl
    have hjl : ks.length < vs.length := (List.getElem?_eq_some_iff.mp hx).1
    refine wpAny_bind (wpAny_attempt (wpAny_mono (turn ks x s' hx hj) (fun v s'' he => ?_) fun _ _ hF => hF.elim))
    obtain ⟨⟨e, nk⟩, nx⟩ := he
    try dsimp only
    refine wpAny_bind (listUpdate_at nk rfl ?_ (by rw [List.size_toArray]; omega) (by rw [Array.size_push, List.size_toArray]; omega))
    have ep : (ks.toArray.push v) = (ks ++ [v]).toArray := by simp
    obtain ⟨c2, hc2⟩ : ∃ c2, (s''.heap.update kS (Obj.mapSeq (·.push v))).get? kS = some (seqObj "list" (ks.toArray.push v) c2) := ⟨_, get?_update_seq nk (·.push v)⟩
    rw [ep] at hc2
    exact wpAny_pure ⟨rfl, ks ++ [v], by rw [List.length_append]; rfl, nx _ c2 (Heap.SameBut.update _ _ _) hc2⟩
  case done =>
    rintro s' ⟨ks, hl, hj⟩
    rw [Nat.zero_add] at hl
    obtain ⟨e, nk⟩ := hJ ks s' hj
    try dsimp only
    refine wpAny_bind (listItems_at nk rfl ?_)
    exact fin ks s' hl hj
/-- the whole tree: a list's own sort by f -/
theorem sg_tree {f : Value} {n : Nat} (J : Addr → Nat → List Value → Shared → Prop) (ho : s.heap.get? a = some (seqObj "list" vs.toArray n)) (hZ : vs.length ≤ sizeLine)
    (hJ : ∀ kS e1 ks s, J kS e1 ks s → (∃ e, s.heap.get? kS = some (seqObj "list" ks.toArray e)))
    (start : ∀ e1, (s.heap.update a (Obj.mapSeq fun _ => (#[] : Array Value))).get? a = some (seqObj "list" #[] e1) → J ((s.heap.update a (Obj.mapSeq fun _ => (#[] : Array Value))).push (seqObj "tuple" vs.toArray 0)).objs.size e1 [] { s with heap := ((s.heap.update a (Obj.mapSeq fun _ => (#[] : Array Value))).push (seqObj "tuple" vs.toArray 0)).push (seqObj "list" #[] 0) })
    (turn : ∀ kS e1 (ks : List Value) (v : Value) (s : Shared), vs[ks.length]? = some v → J kS e1 ks s → wpAny (model prog w) A (call f [v]) (fun kv s' => (∃ e, s'.heap.get? kS = some (seqObj "list" ks.toArray e)) ∧ ∀ h' c, Heap.SameBut kS s'.heap h' → h'.get? kS = some (seqObj "list" (ks ++ [kv]).toArray c) → J kS e1 (ks ++ [kv]) { s' with heap := h' }) (fun _ _ => False) s)
    (fin : ∀ kS e1 ks s, ks.length = vs.length → J kS e1 ks s → wpAny (model prog w) A (ksk_end a b vs.toArray e1 (.ref kS) ks.toArray) P E s) : wpAny (model prog w) A (ksk_tree a f b) P E s := by
  have ha : a < s.heap.objs.size := Heap.lt_size ho
  have x1 := Heap.SameBut.update s.heap a (Obj.mapSeq fun _ => (#[] : Array Value))
  obtain ⟨e1, ho1⟩ : ∃ e1, (s.heap.update a (Obj.mapSeq fun _ => (#[] : Array Value))).get? a = some (seqObj "list" #[] e1) := ⟨_, get?_update_seq ho fun _ => #[]⟩
  have hkS : ((s.heap.update a (Obj.mapSeq fun _ => (#[] : Array Value))).push (seqObj "tuple" vs.toArray 0)).objs.size = s.heap.objs.size + 1 := by rw [size_push', Heap.size_update]
  unfold ksk_tree
  refine wpAny_bind (listItems_at ho rfl ?_)
  refine wpAny_bind (listUpdate_at ho rfl ?_ (by rw [List.size_toArray]; exact hZ) (Nat.zero_le _))
  refine wpAny_bind (seqEpoch_at ho1 rfl ?_)
  refine wpAny_bind (wpAny_newTuple ?_ (by show vs.length ≤ _; exact hZ))
  refine wpAny_bind (wpAny_newList ?_ (Nat.zero_le _))
  refine wpAny_holding ?_
  exact sg_rest (J _ e1) hZ (hJ _ e1) (turn _ e1) (fin _ e1) (start e1 ho1)
end
end LfX
end
section
set_option Elab.async false
set_option maxRecDepth 100000
set_option linter.all false
/-! sorted(xs, key=f), f a def of the program -/
namespace LfX
open PySem PySem.W PySem.Calls PySem.Spec PyProof.Rows L2
theorem each_of {α β : Type} {R : α → β → Prop} : ∀ {as : List α} {bs : List β}, as.length = bs.length → (∀ (j : Nat) (a : α) (b : β), as[j]? = some a → bs[j]? = some b → R a b) → EachIs R as bs
  | [], [], _, _ => .nil
  | [], _ :: _, h, _ => by simp at h
  | _ :: _, [], h, _ => by simp at h
  | a :: as, b :: bs, h, k => .cons (k 0 a b rfl rfl) (each_of (by simpa using h) fun j x y h1 h2 => k (j + 1) x y (by simpa using h1) (by simpa using h2))
theorem each_vals {out : List Value} {bs : List (V × PyData)} (h : EachIs (fun u p => RelV p.1 u) out bs) : Vals (bs.map (·.1)) out := by
  induction h with
  | nil => exact .nil
  | cons h1 _ ih => exact .cons h1 ih
theorem refs_vals : ∀ {qs : List Addr} {us : List Value}, Vals (qs.map V.ref) us → us = qs.map Value.ref
  | [], _, r => by rw [List.map_nil] at r; cases r; rfl
  | q :: qs, _, r => by
    rw [List.map_cons] at r
    cases r with
    | cons h t =>
      rw [refs_vals t, List.map_cons]
      congr 1
theorem vals_get : ∀ {vs : List V} {us : List Value} {j : Nat} {v : V} {u : Value}, Vals vs us → vs[j]? = some v → us[j]? = some u → RelV v u
  | _, _, _, _, _, .nil, h, _ => by simp at h
  | _, _, 0, _, _, .cons r _, h1, h2 => by cases h1; cases h2; exact r
  | _, _, j + 1, _, _, .cons _ t, h1, h2 => vals_get (j := j) t (by simpa using h1) (by simpa using h2)
theorem vals_refs : ∀ qs : List Addr, Vals (qs.map V.ref) (qs.map Value.ref)
  | [] => .nil
  | q :: qs => .cons rfl (vals_refs qs)
def TupS (H H' : Hp) : Prop := ∀ b xs, H b = some (.tup xs) → H' b = some (.tup xs)
def AllS (H H' : Hp) : Prop := ∀ b o, H b = some o → H' b = some o
/-- the keys' order, and what the sorted list is -/
def sortedBy (vs : List V) (kz : List PyData) : List V := ((vs.zip kz).mergeSort (dataLe false (·.2))).map (·.1)
def rSortedF (K : PySem.W.Frag) (f : Addr) (sp : Sp) : List V → List V → Hp → VK → Prop := fun xs zs H Q => ∃ (l : Addr) (vs : List V) (kz : List PyData), xs = [.ref l] ∧ zs = [.ref f] ∧ SqL K H l vs ∧ kz.length = vs.length ∧ AllAlike kz ∧ Sortable kz ∧ (∀ d ∈ kz, d.depth ≤ 8) ∧
  (∀ (i : Nat) (v : V) (d : PyData), vs[i]? = some v → kz[i]? = some d → ∀ H', AllS H H' → sp [v] H' (fun kv H'' => AllS H' H'' ∧ (∃ q, kv = .ref q) ∧ ∀ H2, TupS H'' H2 → Dp K H2 kv d) (fun _ _ _ => False)) ∧
  ∀ p H', AllS H H' → H p = none → H' p = some (.lst (sortedBy vs kz)) → Q (.ref p) H'
section
variable {X : Cx} {k : Nat} {f : Addr} {fd : FuncData} {ps : List Str} {sp : Sp}
theorem cr_sortedF (F : FnOk X.prog X.w X.K X.mg X.base CX0 k f fd ps sp) (hr : Room (k + 2) X.A) (hb : Binds X.K fd ps []) : CallRK X (.builtin "sorted") [Str.ofString "key"] (rSortedF X.K f sp) := by
  intro pins s σ H xs zs us ws Q I r rz h
  obtain ⟨l, vs, kz, rfl, rfl, hs, hlen, hal, hsk, hdp, hsp, hQ⟩ := h
  obtain rfl := Vals.ref1 r
  obtain ⟨w1, rfl, e1⟩ := vals1 rz
  obtain rfl : w1 = Value.ref f := e1
  obtain ⟨its, rv, hl, hz⟩ := I.list hs
  have il : its.length = vs.length := rv.length.symm
  refine sorted_of_sort hl.isList (by omega) (PyProof.Rows.ksk_s1 _ _) (fun _ => PyProof.Rows.ksk_l1 _ _) fun E' => ?_
  show wpAny _ _ (Builtin.«list.sort» ⟨[.ref (s.heap.objs.size + 1)], [(Str.ofString "key", .ref f)]⟩) _ _ _
  rw [ksk_t1]
  obtain ⟨a, ea⟩ : ∃ a, a = s.heap.objs.size + 1 := ⟨_, rfl⟩
  rw [← ea]
  have hoa : (copyHeap s.heap its).get? a = some (seqObj "list" its.toArray 0) := by rw [ea]; exact copyHeap_at _ _
  have Ha : H a = none := I.hok.fresh (by rw [ea]; exact Nat.le_succ _)
  have I1 : Inv X pins σ (upd H a (.lst vs)) { s with heap := copyHeap s.heap its } := I.laid (t' := s.toks) (fun b o e => copyHeap_old e) (by rw [ea]; exact Nat.le_succ _) ⟨by omega, its, 0, rv, hoa⟩
  have hnf := I1.nofrz upd_same True.intro
  have hr2 : Room k X.A.in1.in1 := (hr.in1).in1
  have hkz : kz.length = its.length := by omega
  have x1 := Heap.SameBut.update (copyHeap s.heap its) a (Obj.mapSeq fun _ => (#[] : Array Value))
  let J : Addr → Nat → List Value → Shared → Prop := fun kS e1 ks s' => ∃ (Hi : Hp) (qs : List Addr), Inv X pins σ Hi s' ∧ AllS H Hi ∧ Hi a = some (.frz (seqObj "list" #[] e1) (.lst [])) ∧ Hi kS = some (.lst (qs.map V.ref)) ∧ ks = qs.map Value.ref ∧ a ≠ kS ∧ H kS = none ∧
    ∀ (j : Nat) (q : Addr) (d : PyData), qs[j]? = some q → kz[j]? = some d → ∀ H2, TupS Hi H2 → Dp X.K H2 (.ref q) d
  have kSat : ∀ {kS : Addr} {qs : List Addr} {Hi : Hp} {s' : Shared}, Inv X pins σ Hi s' → Hi kS = some (.lst (qs.map V.ref)) → ∃ e, s'.heap.get? kS = some (seqObj "list" (qs.map Value.ref).toArray e) := fun {kS qs Hi s'} Ii hk => by
    obtain ⟨_, us, n, r, g⟩ := (show ObjOk X.prog X.w Hi s'.heap kS (.lst (qs.map V.ref)) from Ii.hok _ _ hk)
    rw [refs_vals r] at g
    exact ⟨n, g⟩
  refine sg_tree (b := false) J hoa (by omega) (fun kS e1 ks s' hj => ?hJ) (fun e1 ho1 => ?start) (fun kS e1 ks v s' hv hj => ?turn) (fun kS e1 ks s' hl2 hj => ?fin)
  case hJ =>
    obtain ⟨Hi, qs, Ii, _, _, hk, rfl, _⟩ := hj
    exact kSat Ii hk
  case start =>
    have I2 : Inv X pins σ (upd (upd H a (.lst vs)) a (.lst [])) { s with heap := (copyHeap s.heap its).update a (Obj.mapSeq fun _ => (#[] : Array Value)) } := I1.write (t' := s.toks) (by rw [upd_same]; exact True.intro) (.inl rfl) (fun c u hc e => (x1.2 c hc).trans e) ⟨_, ho1⟩ ⟨Nat.zero_le _, [], e1, .nil, ho1⟩
    rw [upd_upd] at I2
    have I3 := I2.kept (h' := ((copyHeap s.heap its).update a (Obj.mapSeq fun _ => (#[] : Array Value))).push (seqObj "tuple" its.toArray 0)) (t' := s.toks) fun c u e => Heap.get?_push_of_some _ e
    obtain ⟨kS, ek⟩ : ∃ kS, kS = (((copyHeap s.heap its).update a (Obj.mapSeq fun _ => (#[] : Array Value))).push (seqObj "tuple" its.toArray 0)).objs.size := ⟨_, rfl⟩
    have HkS : (upd H a (.lst [])) kS = none := I3.hok.fresh (Nat.le_of_eq ek.symm)
    have I4 := I3.laid (h' := (((copyHeap s.heap its).update a (Obj.mapSeq fun _ => (#[] : Array Value))).push (seqObj "tuple" its.toArray 0)).push (seqObj "list" #[] 0)) (a := kS) (o := .lst []) (t' := s.toks) (fun c u e => Heap.get?_push_of_some _ e) (Nat.le_of_eq ek.symm) ⟨Nat.zero_le _, [], 0, .nil, by rw [ek]; exact Heap.get?_push_size _ rfl⟩
    rw [← ek]
    have nak : a ≠ kS := fun z => by rw [← z, upd_same] at HkS; cases HkS
    have oa : (upd (upd H a (.lst [])) kS (.lst [])) a = some (.lst []) := by rw [upd_ne nak, upd_same]
    obtain ⟨od, I5⟩ := I4.lock oa True.intro
    have god : ((((copyHeap s.heap its).update a (Obj.mapSeq fun _ => (#[] : Array Value))).push (seqObj "tuple" its.toArray 0)).push (seqObj "list" #[] 0)).get? a = some od := (show ObjOk X.prog X.w _ _ a (.frz od (.lst [])) from I5.hok a _ upd_same).1
    have gs := Heap.get?_push_of_some (seqObj "list" #[] 0) (Heap.get?_push_of_some (seqObj "tuple" its.toArray 0) ho1)
    obtain rfl : od = seqObj "list" #[] e1 := Option.some.inj (god.symm.trans gs)
    rw [upd_ne nak.symm] at HkS
    refine ⟨_, [], I5, fun b o e => ?_, upd_same, by rw [upd_ne nak.symm, upd_same]; rfl, rfl, nak, HkS, fun j q d e => by simp at e⟩
    rw [upd_ne (ne_of_none e Ha), upd_ne (ne_of_none e HkS), upd_ne (ne_of_none e Ha)]
    exact e
  case turn =>
    obtain ⟨Hi, qs, Ii, sm, ha, hk, rfl, nak, HkS, hd⟩ := hj
    rw [List.length_map] at hv
    have hlt : qs.length < its.length := (List.getElem?_eq_some_iff.mp hv).1
    have hvv : vs[qs.length]? = some vs[qs.length] := List.getElem?_eq_getElem (by omega)
    have hdd : kz[qs.length]? = some kz[qs.length] := List.getElem?_eq_getElem (by omega)
    have rvv : RelV vs[qs.length] v := vals_get rv hvv hv
    have sp1 := hsp _ _ _ hvv hdd Hi sm
    have l1 : ([v] : List Value).length = ps.length := by have := F.len _ _ _ _ sp1; simpa using this
    have hb1 := hb s' [v] Ii.kIn (by simpa using l1)
    rw [List.append_nil] at hb1
    refine wpAny_call (codeAny_mono (F.run X.A.in1.in1 X.stack s' Hi ⟨[v], []⟩ [v] [vs[qs.length]] _ _ hr2 (Ii.env0.in1).in1 hb1 (.cons rvv .nil) sp1) fun y z hq => ?_)
    cases y with
    | error e => exact hq.elim
    | ok fl =>
      cases fl with
      | next => exact hq.elim
      | brk => exact hq.elim
      | cont => exact hq.elim
      | ret u =>
        obtain ⟨kv, H2, I2, ru, sm2, ⟨q, rfl⟩, dq⟩ := Ii.after hq
        obtain rfl : u = Value.ref q := ru
        have hk2 := sm2 _ _ hk
        refine ⟨kSat I2 hk2, fun h' c sb g => ?_⟩
        have eq1 : qs.map Value.ref ++ [Value.ref q] = (qs ++ [q]).map Value.ref := by rw [List.map_append]; rfl
        rw [eq1] at g ⊢
        have I3 := I2.write (h' := h') (x := kS) (o := .lst ((qs ++ [q]).map V.ref)) (t' := z.toks) (by rw [hk2]; exact True.intro) (.inl rfl) (fun b u hb e => (sb.2 b hb).trans e) ⟨_, g⟩ ⟨by rw [List.length_map, List.length_append]; show _ + 1 ≤ _; omega, (qs ++ [q]).map Value.ref, c, vals_refs _, g⟩
        refine ⟨_, qs ++ [q], I3, fun b o e => ?_, by rw [upd_ne nak]; exact sm2 _ _ ha, upd_same, rfl, nak, HkS, fun j q' d e1 e2 H3 t3 => ?_⟩
        · rw [upd_ne (ne_of_none e HkS)]
          exact sm2 _ _ (sm _ _ e)
        · have tt : TupS H2 H3 := fun b xs e => t3 b xs (by rw [upd_ne (ne_of e hk2 (by intro z; cases z))]; exact e)
          by_cases hj : j < qs.length
          · rw [List.getElem?_append_left hj] at e1
            exact hd j q' d e1 e2 H3 fun b xs e => tt b xs (sm2 _ _ e)
          · rw [List.getElem?_append_right (by omega)] at e1
            have j0 : j - qs.length = 0 := by
              have := (List.getElem?_eq_some_iff.mp e1).1
              rw [List.length_singleton] at this
              omega
            rw [j0] at e1
            obtain rfl : q = q' := Option.some.inj e1
            obtain rfl : j = qs.length := by omega
            rw [hdd] at e2
            cases e2
            exact dq H3 tt
  case fin =>
    obtain ⟨Hi, qs, Ii, sm, ha, hk, rfl, nak, HkS, hd⟩ := hj
    rw [List.length_map] at hl2
    obtain ⟨e, nk⟩ := kSat Ii hk
    have na : s'.heap.get? a = some (seqObj "list" #[] e1) := (show ObjOk X.prog X.w Hi s'.heap a (.frz (seqObj "list" #[] e1) (.lst [])) from Ii.hok _ _ ha).1
    have each : EachIs (fun v d => ∃ as, Reads s'.heap v d as) (qs.map Value.ref) kz := each_of (by rw [List.length_map]; omega) fun j v d h1 h2 => by
      rw [List.getElem?_map] at h1
      cases hq : qs[j]? with
      | none => rw [hq] at h1; cases h1
      | some q =>
        rw [hq] at h1
        cases h1
        exact Dp.reads Ii d (.ref q) (.ref q) (hd j q d hq h2 Hi fun b xs e => e) rfl
    have hun := hr2.un
    refine sg_end (κ := dataKind s'.heap kz) (e := e) nk na nak.symm (SortsAt.data (s := s') each hal hsk fun d hdm => by have := hdp d hdm; omega) (by rw [List.length_map]; omega) (by omega) fun tk => ⟨rfl, ?_⟩
    have KO : KeyedOut false kz its (sortVals (dataKind s'.heap kz) false (qs.map Value.ref) its) := ⟨s'.heap, qs.map Value.ref, hal, rfl, each⟩
    have ezs : (vs.zip kz).map (·.2) = kz := List.map_snd_zip (by omega)
    have KO2 : KeyedOut false ((vs.zip kz).map (·.2)) its (sortVals (dataKind s'.heap kz) false (qs.map Value.ref) its) := by rw [ezs]; exact KO
    have ev := keyedOut_each (R := fun u (p : V × PyData) => RelV p.1 u) (·.2) KO2 (each_of (by rw [List.length_zip]; omega) fun j u p h1 h2 => by
      obtain ⟨g1, g2⟩ := List.getElem?_zip_eq_some.mp h2
      exact vals_get rv g1 h1)
    have vo : Vals (sortedBy vs kz) (sortVals (dataKind s'.heap kz) false (qs.map Value.ref) its) := each_vals ev
    have ol : (sortVals (dataKind s'.heap kz) false (qs.map Value.ref) its).length = its.length := sortVals_length false (by rw [List.length_map]; omega)
    generalize sortVals (dataKind s'.heap kz) false (qs.map Value.ref) its = out at vo ol ⊢
    have J1 := Ii.unlock ha hnf
    have x2 := Heap.SameBut.update s'.heap kS (Obj.mapSeq fun _ => (#[] : Array Value))
    obtain ⟨c2, hc2⟩ : ∃ c2, (s'.heap.update kS (Obj.mapSeq fun _ => (#[] : Array Value))).get? kS = some (seqObj "list" #[] c2) := ⟨_, get?_update_seq nk fun _ => #[]⟩
    have na2 : (s'.heap.update kS (Obj.mapSeq fun _ => (#[] : Array Value))).get? a = some (seqObj "list" #[] e1) := (x2.2 a nak).trans na
    have J2 := J1.write (h' := s'.heap.update kS (Obj.mapSeq fun _ => (#[] : Array Value))) (x := kS) (o := .lst []) (t' := tk) (by rw [upd_ne nak.symm, hk]; exact True.intro) (.inl rfl) (fun b u hb e => (x2.2 b hb).trans e) ⟨_, hc2⟩ ⟨Nat.zero_le _, [], c2, .nil, hc2⟩
    have x3 := Heap.SameBut.update (s'.heap.update kS (Obj.mapSeq fun _ => (#[] : Array Value))) a (Obj.mapSeq fun _ => out.toArray)
    obtain ⟨c3, hc3⟩ : ∃ c3, ((s'.heap.update kS (Obj.mapSeq fun _ => (#[] : Array Value))).update a (Obj.mapSeq fun _ => out.toArray)).get? a = some (seqObj "list" out.toArray c3) := ⟨_, get?_update_seq na2 fun _ => out.toArray⟩
    have J3 := J2.write (h' := (s'.heap.update kS (Obj.mapSeq fun _ => (#[] : Array Value))).update a (Obj.mapSeq fun _ => out.toArray)) (x := a) (o := .lst (sortedBy vs kz)) (t' := tk) (by rw [upd_ne nak, upd_same]; exact True.intro) (.inl rfl) (fun b u hb e => (x3.2 b hb).trans e) ⟨_, hc3⟩ ⟨by have := vo.length; omega, out, c3, vo, hc3⟩
    refine ⟨.ref a, _, J3, rfl, hQ a _ (fun b o e => ?_) Ha upd_same⟩
    rw [upd_ne (ne_of_none e Ha), upd_ne (ne_of_none e HkS), upd_ne (ne_of_none e Ha)]
    exact sm _ _ e
end
end LfX
end
section
set_option Elab.async false
set_option maxRecDepth 100000
set_option linter.all false
/-! acts -/
namespace LfX
open PySem PySem.W PySem.Calls PySem.Spec PyProof.Rows L2
/-- callback, what is handled while it runs, what comes of it -/
structure Act where
  cb : Str
  hd : Option Str
  out : Str
  deriving DecidableEq
def hdL : Option Str → PySem.Leaf
  | none => .none
  | some x => .text x
def actL (a : Act) : LKey := [.text a.cb, hdL a.hd, .text a.out]
def hdV : Option Str → V
  | none => .non
  | some x => .str x
def actVs (a : Act) : List V := [.str a.cb, hdV a.hd, .str a.out]
theorem act_leaves (a : Act) : (actL a).map leafV = actVs a := by
  obtain ⟨cb, hd, out⟩ := a
  cases hd <;> rfl
theorem actL_inj {a b : Act} (h : actL a = actL b) : a = b := by
  obtain ⟨c1, h1, o1⟩ := a
  obtain ⟨c2, h2, o2⟩ := b
  unfold actL at h
  injection h with e1 h
  injection h with e2 h
  injection h with e3 _
  injection e1 with e1
  injection e3 with e3
  dsimp only at e1 e2 e3
  subst e1 e3
  cases h1 <;> cases h2
  · rfl
  · cases e2
  · cases e2
  · injection e2 with e2
    rw [e2]
/-- what an act is sorted by -/
def actKey (a : Act) : PyData := .tuple [.str a.cb, .str (a.hd.getD Str.empty), .bool (!decide (a.out = "returns")), .str a.out]
theorem acts_alike (as : List Act) : AllAlike (as.map actKey) := by
  intro d hd d' hd'
  obtain ⟨a, _, rfl⟩ := List.mem_map.mp hd
  obtain ⟨b, _, rfl⟩ := List.mem_map.mp hd'
  rfl
theorem acts_sortable (as : List Act) : Sortable (as.map actKey) := .inl fun d hd => by
  obtain ⟨a, _, rfl⟩ := List.mem_map.mp hd
  exact ⟨_, _, rfl⟩
theorem acts_depth (as : List Act) : ∀ d ∈ as.map actKey, d.depth ≤ 8 := fun d hd => by
  obtain ⟨a, _, rfl⟩ := List.mem_map.mp hd
  have e : (actKey a).depth = 1 := rfl
  omega
/-- acts stand at some places -/
def ActsAt (H : Hp) (qs : List Addr) (as : List Act) : Prop := qs.length = as.length ∧ ∀ (j : Nat) (q : Addr) (a : Act), qs[j]? = some q → as[j]? = some a → H q = some (.tup (actVs a))
theorem ActsAt.mono {H H' : Hp} {qs : List Addr} {as : List Act} (h : ActsAt H qs as) (k : ∀ b xs, H b = some (.tup xs) → H' b = some (.tup xs)) : ActsAt H' qs as := ⟨h.1, fun j q a h1 h2 => k _ _ (h.2 j q a h1 h2)⟩
/-- acts in their order -/
def sortA (as : List Act) : List Act := as.mergeSort (dataLe false actKey)
theorem sorted_acts {H : Hp} {qs : List Addr} {as : List Act} (h : ActsAt H qs as) : ∃ qs', sortedBy (qs.map V.ref) (as.map actKey) = qs'.map V.ref ∧ ActsAt H qs' (sortA as) := by
  obtain ⟨hl, hq⟩ := h
  have ez : (qs.map V.ref).zip (as.map actKey) = (qs.zip as).map fun p => (V.ref p.1, actKey p.2) := by rw [List.zip_map]; rfl
  have e1 : ((qs.zip as).map fun p => (V.ref p.1, actKey p.2)).mergeSort (dataLe false (·.2)) = ((qs.zip as).mergeSort fun x y => dataLe false actKey x.2 y.2).map fun p => (V.ref p.1, actKey p.2) :=
    (List.map_mergeSort (r := fun x y : Addr × Act => dataLe false actKey x.2 y.2) (s := dataLe false (·.2)) (f := fun p : Addr × Act => (V.ref p.1, actKey p.2)) fun a _ b _ => rfl).symm
  have e2 : ((qs.zip as).mergeSort fun x y => dataLe false actKey x.2 y.2).map (·.2) = sortA as := by
    have := List.map_mergeSort (l := qs.zip as) (r := fun x y : Addr × Act => dataLe false actKey x.2 y.2) (s := dataLe false actKey) (f := fun p : Addr × Act => p.2) fun a _ b _ => rfl
    rw [this, List.map_snd_zip (by omega)]
    rfl
  have mem : ∀ p ∈ (qs.zip as).mergeSort (fun x y => dataLe false actKey x.2 y.2), H p.1 = some (.tup (actVs p.2)) := fun p hp => by
    obtain ⟨j, hj⟩ := List.mem_iff_getElem?.mp ((List.mergeSort_perm _ _).mem_iff.mp hp)
    obtain ⟨g1, g2⟩ := List.getElem?_zip_eq_some.mp hj
    exact hq j p.1 p.2 g1 g2
  generalize (qs.zip as).mergeSort (fun x y => dataLe false actKey x.2 y.2) = L at e1 e2 mem
  refine ⟨L.map (·.1), ?_, ?_, fun j q a h1 h2 => ?_⟩
  · unfold sortedBy
    rw [ez, e1, List.map_map, List.map_map]
    rfl
  · rw [← e2, List.length_map, List.length_map]
  · rw [← e2] at h2
    rw [List.getElem?_map] at h1 h2
    cases hL : L[j]? with
    | none => rw [hL] at h1; cases h1
    | some p =>
      rw [hL] at h1 h2
      cases h1
      cases h2
      exact mem p (List.mem_of_getElem? hL)
end LfX
end
section
set_option Elab.async false
set_option maxRecDepth 100000
set_option linter.all false
/-! the acts' order -/
namespace LfX
open PySem PySem.W PySem.Calls PySem.Spec PyProof.Rows L2
/-- what is handled is no empty text -/
def HdOk (a : Act) : Prop := a.hd ≠ some Str.empty
def toksA (a : Act) : List (Int ⊕ List Nat) := keyToks (actKey a)
theorem toksA_eq (a : Act) : toksA a = [.inl 1, .inr a.cb.cps.toList, .inl 1, .inr (a.hd.getD Str.empty).cps.toList, .inl 1, .inl (if (!decide (a.out = "returns")) = true then 1 else 0), .inl 1, .inr a.out.cps.toList, .inl 0] := rfl
theorem str_cps {x y : Str} (h : x.cps.toList = y.cps.toList) : x = y := by
  have hc : x.cps = y.cps := Array.toList_inj.mp h
  cases x
  cases y
  cases hc
  rfl
theorem toksA_inj {a b : Act} (ha : HdOk a) (hb : HdOk b) (h : toksA a = toksA b) : a = b := by
  rw [toksA_eq, toksA_eq] at h
  simp only [List.cons.injEq, Sum.inr.injEq, Sum.inl.injEq, true_and, and_true] at h
  obtain ⟨h1, h2, _, h4⟩ := h
  have e1 := str_cps h1
  have e2 := str_cps h2
  have e4 := str_cps h4
  obtain ⟨c1, d1, o1⟩ := a
  obtain ⟨c2, d2, o2⟩ := b
  dsimp only at e1 e2 e4
  subst e1 e4
  cases d1 with
  | none =>
    cases d2 with
    | none => rfl
    | some y => exact absurd (congrArg some e2.symm) hb
  | some x =>
    cases d2 with
    | none => exact absurd (congrArg some e2) ha
    | some y =>
      have e2 : x = y := e2
      rw [e2]
def leA (a b : Act) : Prop := dataLe false actKey a b = true
theorem leA_def (a b : Act) : leA a b ↔ lexLt itemOrd (toksA b) (toksA a) = false := by
  show (!lexLt itemOrd (toksA b) (toksA a)) = true ↔ _
  simp
theorem leA_anti {a b : Act} (ha : HdOk a) (hb : HdOk b) (h1 : leA a b) (h2 : leA b a) : a = b := toksA_inj ha hb (lex_total (O := itemOrd) _ _ ((leA_def b a).mp h2) ((leA_def a b).mp h1))
theorem sortA_perm (as : List Act) : (sortA as).Perm as := List.mergeSort_perm _ _
theorem sortA_pw (as : List Act) : (sortA as).Pairwise leA := by
  have T := sortLe_total (listOrd itemOrd) false fun b : Act => keyToks (actKey b)
  exact List.pairwise_mergeSort (fun a b c h1 h2 => T.trans a b c h1 h2) (fun a b => by simpa using T.total a b) as
/-- two ascending rows of the same acts are one -/
theorem ascA_one : ∀ {as bs : List Act}, (∀ a ∈ as, HdOk a) → as.Perm bs → as.Pairwise leA → bs.Pairwise leA → as = bs
  | [], bs, _, p, _, _ => (List.nil_perm.mp p).symm
  | a :: as, [], _, p, _, _ => absurd p.length_eq (by simp)
  | a :: as, b :: bs, ok, p, h1, h2 => by
    obtain ⟨a1, a2⟩ := List.pairwise_cons.mp h1
    obtain ⟨b1, b2⟩ := List.pairwise_cons.mp h2
    have refl : ∀ x, leA x x := fun x => (leA_def x x).mpr (lex_irrefl _)
    have okb : HdOk b := ok b (p.mem_iff.mpr List.mem_cons_self)
    have e : a = b := by
      refine leA_anti (ok a List.mem_cons_self) okb ?_ ?_
      · rcases List.mem_cons.mp (p.mem_iff.mpr (List.mem_cons_self (a := b) (l := bs))) with e | m
        · rw [e]; exact refl a
        · exact a1 b m
      · rcases List.mem_cons.mp (p.mem_iff.mp (List.mem_cons_self (a := a) (l := as))) with e | m
        · rw [e]; exact refl b
        · exact b1 a m
    subst e
    rw [ascA_one (fun x hx => ok x (List.mem_cons_of_mem _ hx)) (List.Perm.cons_inv p) a2 b2]
end LfX
end
section
set_option Elab.async false
set_option maxRecDepth 100000
set_option linter.all false
/-! acts put in their places one by one -/
namespace LfX
open PySem PySem.W PySem.Calls PySem.Spec PyProof.Rows L2
def ltA (a b : Act) : Bool := lexLt itemOrd (toksA a) (toksA b)
theorem leA_lt {a b : Act} : leA a b ↔ ltA b a = false := leA_def a b
theorem leA_trans {a b c : Act} (h1 : leA a b) (h2 : leA b c) : leA a c := (sortLe_total (listOrd itemOrd) false fun b : Act => keyToks (actKey b)).trans a b c h1 h2
theorem ltA_le {a b : Act} (h : ltA a b = true) : leA a b := by
  rw [leA_lt]
  cases q : ltA b a with
  | false => rfl
  | true =>
    have h3 := lex_trans (O := itemOrd) _ _ _ h q
    rw [lex_irrefl] at h3
    cases h3
theorem filt_take (x : Act) : ∀ {L : List Act}, L.Pairwise leA → L.filter (fun y => ltA y x) = L.take (L.filter fun y => ltA y x).length ∧ ∀ y ∈ L.drop (L.filter fun y => ltA y x).length, ltA y x = false
  | [], _ => ⟨rfl, fun y h => by simp at h⟩
  | y :: L, h => by
    obtain ⟨h1, h2⟩ := List.pairwise_cons.mp h
    cases hy : ltA y x with
    | true =>
      obtain ⟨e, k⟩ := filt_take x h2
      rw [show (y :: L).filter (fun z => ltA z x) = y :: L.filter (fun z => ltA z x) from List.filter_cons_of_pos hy, List.length_cons]
      exact ⟨by rw [List.take_succ_cons, ← e], k⟩
    | false =>
      have no : ∀ z ∈ y :: L, ltA z x = false := fun z hz => by
        rcases List.mem_cons.mp hz with rfl | hz
        · exact hy
        · exact leA_lt.mp (leA_trans (leA_lt.mpr hy) (h1 z hz))
      have e : (y :: L).filter (fun z => ltA z x) = [] := List.filter_eq_nil_iff.mpr fun z hz => by rw [no z hz]; exact Bool.false_ne_true
      rw [e]
      exact ⟨rfl, fun z hz => no z hz⟩
/-- put in its place -/
def insA (L : List Act) (x : Act) : List Act := L.take (L.filter fun y => ltA y x).length ++ [x] ++ L.drop (L.filter fun y => ltA y x).length
theorem insA_perm (L : List Act) (x : Act) : (insA L x).Perm (x :: L) := by
  unfold insA
  rw [List.append_assoc]
  show (L.take (L.filter fun y => ltA y x).length ++ x :: L.drop (L.filter fun y => ltA y x).length).Perm (x :: L)
  refine (List.perm_middle (a := x)).trans ?_
  rw [List.take_append_drop]
theorem insA_pw {L : List Act} {x : Act} (h : L.Pairwise leA) : (insA L x).Pairwise leA := by
  obtain ⟨e, k⟩ := filt_take x h
  unfold insA
  generalize hn : (L.filter fun y => ltA y x).length = n at e k
  have hL : (L.take n ++ L.drop n).Pairwise leA := by rw [List.take_append_drop]; exact h
  obtain ⟨p1, p2, p3⟩ := List.pairwise_append.mp hL
  have lt : ∀ y ∈ L.take n, leA y x := fun y hy => by
    rw [← e] at hy
    exact ltA_le (List.mem_filter.mp hy).2
  rw [List.append_assoc]
  refine List.pairwise_append.mpr ⟨p1, List.pairwise_cons.mpr ⟨fun z hz => leA_lt.mpr (k z hz), p2⟩, fun y hy z hz => ?_⟩
  rcases List.mem_cons.mp hz with rfl | hz
  · exact lt y hy
  · exact p3 y hy z hz
/-- the law's sorting -/
def lawSort (as : List Act) : List Act := as.foldl (fun L x => if x ∈ L then L else insA L x) []
theorem lawSort_ok (as : List Act) : ∀ L : List Act, L.Pairwise leA → L.Nodup → (as.foldl (fun L x => if x ∈ L then L else insA L x) L).Pairwise leA ∧ (as.foldl (fun L x => if x ∈ L then L else insA L x) L).Nodup ∧ ∀ y, y ∈ as.foldl (fun L x => if x ∈ L then L else insA L x) L ↔ y ∈ L ∨ y ∈ as := by
  induction as with
  | nil => exact fun L h n => ⟨h, n, fun y => by simp⟩
  | cons x as ih =>
    intro L h n
    rw [List.foldl_cons]
    by_cases hx : x ∈ L
    · rw [if_pos hx]
      obtain ⟨a, b, c⟩ := ih L h n
      refine ⟨a, b, fun y => (c y).trans ⟨fun q => q.imp id (List.mem_cons_of_mem _), fun q => q.elim .inl fun q => (List.mem_cons.mp q).elim (fun e => .inl (e ▸ hx)) .inr⟩⟩
    · rw [if_neg hx]
      have pm := insA_perm L x
      obtain ⟨a, b, c⟩ := ih (insA L x) (insA_pw h) (pm.nodup_iff.mpr (List.nodup_cons.mpr ⟨hx, n⟩))
      refine ⟨a, b, fun y => (c y).trans ?_⟩
      rw [pm.mem_iff, List.mem_cons, List.mem_cons]
      constructor
      · rintro ((e | e) | e)
        · exact .inr (.inl e)
        · exact .inl e
        · exact .inr (.inr e)
      · rintro (e | e | e)
        · exact .inl (.inr e)
        · exact .inl (.inl e)
        · exact .inr e
/-- any list without twins of the same acts, sorted, is what the law gives -/
theorem lawSort_eq {as bs : List Act} (ok : ∀ a ∈ bs, HdOk a) (nd : bs.Nodup) (h : ∀ y, y ∈ bs ↔ y ∈ as) : sortA bs = lawSort as := by
  obtain ⟨a, b, c⟩ := lawSort_ok as [] .nil List.nodup_nil
  have p1 := sortA_perm bs
  refine ascA_one (fun x hx => ok x (p1.mem_iff.mp hx)) ?_ (sortA_pw bs) a
  refine (List.perm_ext_iff_of_nodup (p1.nodup_iff.mpr nd) b).mpr fun y => ?_
  rw [p1.mem_iff, h y]
  exact ((c y).trans (by simp)).symm
/-- what the law compares: places -/
def placeD (a : Act) : PyData := .tuple [.str a.cb, .str (a.hd.getD Str.empty), .str (if a.out = "returns" then Str.empty else a.out)]
theorem place_lt {a b : Act} (ha : a.out ≠ Str.empty) (hb : b.out ≠ Str.empty) : dataLt (placeD a) (placeD b) = ltA a b := by
  have pa : ∀ c : Act, keyToks (placeD c) = [.inl 1, .inr c.cb.cps.toList, .inl 1, .inr (c.hd.getD Str.empty).cps.toList, .inl 1, .inr (if c.out = "returns" then Str.empty else c.out).cps.toList, .inl 0] := fun _ => rfl
  unfold dataLt ltA
  rw [pa, pa, toksA_eq, toksA_eq]
  have nn : ∀ {x : Str}, x ≠ Str.empty → x.cps.toList ≠ [] := fun {x} h e => h (str_cps (e.trans rfl))
  rw [lex_self, lex_self]
  by_cases h1 : (Sum.inr a.cb.cps.toList : Int ⊕ List Nat) = .inr b.cb.cps.toList
  · rw [h1, lex_self, lex_self, lex_self, lex_self]
    by_cases h2 : (Sum.inr (a.hd.getD Str.empty).cps.toList : Int ⊕ List Nat) = .inr (b.hd.getD Str.empty).cps.toList
    · rw [h2, lex_self, lex_self, lex_self, lex_self]
      by_cases oa : a.out = "returns"
      · by_cases ob : b.out = "returns"
        · simp only [oa, ob, if_true, decide_true, Bool.not_true]
          rw [lex_irrefl, lex_irrefl]
        · simp only [oa, ob, if_true, if_false, decide_true, decide_false, Bool.not_true, Bool.not_false]
          refine (lex_diff (O := itemOrd) (x := .inr Str.empty.cps.toList) (y := .inr b.out.cps.toList) fun e => nn hb (Sum.inr.inj e).symm).trans ?_
          refine Eq.trans ?_ (lex_diff (O := itemOrd) (x := .inl 0) (y := .inl 1) (by simp)).symm
          show strKind.blt [] b.out.cps.toList = decide ((0 : Int) < 1)
          cases hq : b.out.cps.toList with
          | nil => exact absurd hq (nn hb)
          | cons c r => rfl
      · by_cases ob : b.out = "returns"
        · simp only [oa, ob, if_true, if_false, decide_true, decide_false, Bool.not_true, Bool.not_false]
          refine (lex_diff (O := itemOrd) (x := .inr a.out.cps.toList) (y := .inr Str.empty.cps.toList) fun e => nn ha (Sum.inr.inj e)).trans ?_
          refine Eq.trans ?_ (lex_diff (O := itemOrd) (x := .inl 1) (y := .inl 0) (by simp)).symm
          show strKind.blt a.out.cps.toList [] = decide ((1 : Int) < 0)
          cases hq : a.out.cps.toList with
          | nil => exact absurd hq (nn ha)
          | cons c r => rfl
        · simp only [oa, ob, if_false, decide_false, Bool.not_false, if_true]
          rw [lex_self, lex_self]
    · rw [lex_diff (O := itemOrd) h2, lex_diff (O := itemOrd) h2]
  · rw [lex_diff (O := itemOrd) h1, lex_diff (O := itemOrd) h1]
end LfX
end
section
set_option Elab.async false
set_option maxRecDepth 100000
set_option linter.all false
/-! x in a list of data; acts as data -/
namespace LfX
open PySem PySem.W PySem.Calls PySem.Spec PyProof.Rows L2
def rInDt (K : PySem.W.Frag) (neg : Bool) : R2 := fun x y H Q => ∃ (d : PyData) (ds : List PyData), Dp K H x d ∧ Dp K H y (.list ds) ∧ SeqAt.shaped d = true ∧ PyData.canLayAll0 ds = true ∧ Q (.bl (if neg then !(ds.any fun z => PyData.eqv z d) else ds.any fun z => PyData.eqv z d)) H
section
variable {X : Cx}
theorem room_in {A : Around} {xs : List PyData} {d : PyData} (hd : SeqAt.shaped d = true) (hu : A.units + 65 < cLine) : A.units + 1 + min (PyData.depthAll xs) d.depth < cLine := by
  have h1 := SeqAt.depth_of_shaped hd
  have h2 : min (PyData.depthAll xs) d.depth ≤ d.depth := Nat.min_le_right _ _
  omega
theorem op_inDt (hu : X.A.units + 65 < cLine) : OpR X (compareOp .In) (rInDt X.K false) := by
  intro pins s σ H x y v u Q I rx ry h
  obtain ⟨d, ds, hd, he, sd, se, q⟩ := h
  obtain ⟨as, r1⟩ := Dp.reads I d x v hd rx
  obtain ⟨bs, r2⟩ := Dp.reads I (.list ds) y u he ry
  exact SeqAt.in_list_reads r2 r1 se (SeqAt.canLay_of_shaped sd) (room_in sd hu) ⟨.bl _, H, I, rfl, q⟩
theorem op_ninDt (hu : X.A.units + 65 < cLine) : OpR X (compareOp .NotIn) (rInDt X.K true) := by
  intro pins s σ H x y v u Q I rx ry h
  obtain ⟨d, ds, hd, he, sd, se, q⟩ := h
  obtain ⟨as, r1⟩ := Dp.reads I d x v hd rx
  obtain ⟨bs, r2⟩ := Dp.reads I (.list ds) y u he ry
  exact SeqAt.notIn_list_reads r2 r1 se (SeqAt.canLay_of_shaped sd) (room_in sd hu) ⟨.bl _, H, I, rfl, q⟩
end
/-- an act as data -/
def hdD : Option Str → PyData
  | none => .none
  | some x => .str x
def actD (a : Act) : PyData := .tuple [.str a.cb, hdD a.hd, .str a.out]
/-- its texts are no monsters -/
def ActOk (a : Act) : Prop := (actD a).canLay0 = true
theorem ActOk.mk' {cb out : Str} {hd : Option Str} (h1 : PyData.strOk cb = true) (h2 : ∀ x, hd = some x → PyData.strOk x = true) (h3 : PyData.strOk out = true) : ActOk ⟨cb, hd, out⟩ := by
  cases hd with
  | none => simp [ActOk, actD, hdD, PyData.canLay0, PyData.canLayAll0, h1, h3]
  | some x => simp [ActOk, actD, hdD, PyData.canLay0, PyData.canLayAll0, h1, h2 x rfl, h3]
theorem actD_shaped {a : Act} (h : ActOk a) : SeqAt.shaped (actD a) = true := by
  have e : (actD a).depth ≤ 64 := by
    obtain ⟨cb, hd, out⟩ := a
    cases hd
    · show 1 ≤ 64
      omega
    · show 1 ≤ 64
      omega
  show (_ && decide _) = true
  rw [show (actD a).canLay0 = true from h, decide_eq_true e]
  rfl
theorem actsD_lay : ∀ as : List Act, (∀ a ∈ as, ActOk a) → PyData.canLayAll0 (as.map actD) = true
  | [], _ => rfl
  | a :: as, h => by
    show (PyData.canLay0 (actD a) && PyData.canLayAll0 (as.map actD)) = true
    rw [show (actD a).canLay0 = true from h a (List.mem_cons_self ..), actsD_lay as fun b hb => h b (List.mem_cons_of_mem _ hb)]
    rfl
theorem actD_eqv (a b : Act) : PyData.eqv (actD a) (actD b) = decide (a = b) := by
  obtain ⟨c1, h1, o1⟩ := a
  obtain ⟨c2, h2, o2⟩ := b
  have q : ∀ x y : Str, (x == y) = decide (x = y) := fun x y => by
    by_cases h : x = y
    · subst h; simp
    · simp [h]
  cases h1 <;> cases h2 <;> simp [actD, hdD, PyData.eqv, PyData.eqvAll, q]
theorem any_act (a : Act) (as : List Act) : ((as.map actD).any fun z => PyData.eqv z (actD a)) = decide (a ∈ as) := by
  induction as with
  | nil => rfl
  | cons b as ih =>
    rw [List.map_cons, List.any_cons, ih, actD_eqv]
    by_cases h : b = a
    · subst h; simp
    · have h2 : ¬ a = b := fun e => h e.symm
      simp [h, h2]
theorem act_dp {K : PySem.W.Frag} {H : Hp} {q : Addr} {a : Act} (h : H q = some (.tup (actVs a))) : Dp K H (.ref q) (actD a) := by
  refine .tup (.inl (.inl h)) ?_
  obtain ⟨cb, hd, out⟩ := a
  cases hd
  · exact .cons (.str _) (.cons .non (.cons (.str _) .nil))
  · exact .cons (.str _) (.cons (.str _) (.cons (.str _) .nil))
theorem acts_dp {K : PySem.W.Frag} {H : Hp} : ∀ {qs : List Addr} {as : List Act}, ActsAt H qs as → DpAll K H (qs.map V.ref) (as.map actD)
  | [], [], _ => .nil
  | q :: qs, a :: as, h => .cons (act_dp (h.2 0 q a rfl rfl)) (acts_dp ⟨by have := h.1; simpa using this, fun j q a h1 h2 => h.2 (j + 1) q a h1 h2⟩)
  | [], _ :: _, h => by have := h.1; simp at this
  | _ :: _, [], h => by have := h.1; simp at this
/-- a list of acts -/
theorem actsL_dp {K : PySem.W.Frag} {H : Hp} {l : Addr} {qs : List Addr} {as : List Act} (hl : SqL K H l (qs.map V.ref)) (h : ActsAt H qs as) : Dp K H (.ref l) (.list (as.map actD)) := .lst hl (acts_dp h)
/-- is an act among acts -/
theorem rInDt_act {K : PySem.W.Frag} {H : Hp} {neg : Bool} {q l : Addr} {a : Act} {qs : List Addr} {as : List Act} {Q : V → Hp → Prop} (ok : ActOk a) (oks : ∀ b ∈ as, ActOk b) (hq : H q = some (.tup (actVs a))) (hl : SqL K H l (qs.map V.ref)) (h : ActsAt H qs as) (k : Q (.bl (if neg then !decide (a ∈ as) else decide (a ∈ as))) H) : rInDt K neg (.ref q) (.ref l) H Q :=
  ⟨actD a, as.map actD, act_dp hq, actsL_dp hl h, actD_shaped ok, actsD_lay as oks, by rw [any_act]; exact k⟩
end LfX
end
section
set_option Elab.async false
set_option maxRecDepth 100000
set_option linter.all false
/-! x < y of alike data; the places of acts -/
namespace LfX
open PySem PySem.W PySem.Calls PySem.Spec PyProof.Rows L2
def rLtDt (K : PySem.W.Frag) : R2 := fun x y H Q => ∃ d e : PyData, Dp K H x d ∧ Dp K H y e ∧ alike d e = true ∧ d ≠ .none ∧ d.depth ≤ 64 ∧ Q (.bl (dataLt d e)) H
theorem op_ltDt {X : Cx} (hu : X.A.units + 65 < cLine) : OpR X (compareOp .Lt) (rLtDt X.K) := by
  intro pins s σ H x y v u Q I rx ry h
  obtain ⟨d, e, hd, he, al, nn, dp, q⟩ := h
  obtain ⟨as, r1⟩ := Dp.reads I d x v hd rx
  obtain ⟨bs, r2⟩ := Dp.reads I e y u he ry
  refine rcLt_alike d e X.A s v u as bs r1 r2 al nn ?_ _ _ _ _ ⟨.bl _, H, I, rfl, q⟩
  have h2 : min d.depth e.depth ≤ d.depth := Nat.min_le_left _ _
  omega
/-- a place stands at q -/
def plVs (a : Act) : List V := [.str a.cb, .str (a.hd.getD Str.empty), .str (if a.out = "returns" then Str.empty else a.out)]
theorem place_dp {K : PySem.W.Frag} {H : Hp} {q : Addr} {a : Act} (h : H q = some (.tup (plVs a))) : Dp K H (.ref q) (placeD a) :=
  .tup (.inl (.inl h)) (.cons (.str _) (.cons (.str _) (.cons (.str _) .nil)))
theorem place_alike (a b : Act) : alike (placeD a) (placeD b) = true := rfl
theorem place_depth (a : Act) : (placeD a).depth ≤ 64 := by
  have e : (placeD a).depth = 1 := rfl
  omega
/-- which of two acts comes first, by their places -/
theorem rLtDt_place {K : PySem.W.Frag} {H : Hp} {q p : Addr} {a b : Act} {Q : V → Hp → Prop} (ha : a.out ≠ Str.empty) (hb : b.out ≠ Str.empty) (hq : H q = some (.tup (plVs a))) (hp : H p = some (.tup (plVs b))) (k : Q (.bl (ltA a b)) H) : rLtDt K (.ref q) (.ref p) H Q :=
  ⟨placeD a, placeD b, place_dp hq, place_dp hp, place_alike a b, fun e => PyData.noConfusion e, place_depth a, by rw [place_lt ha hb]; exact k⟩
end LfX
end
section
set_option Elab.async false
set_option maxRecDepth 100000
set_option linter.all false
/-! binary operators of own classes, both sides of one class; `not in` of an own class -/
namespace K2
open PySem L2 PySem.Spec PyProof.Rows
variable {X : Cx} {CX : CXT} {k : Nat} {f C : Addr} {fd : FuncData} {ps : List Str} {sp : Sp} {E : XK}
/-- a | b, a & b, a - b, a ^ b: both of the class C, whose method gives an object -/
theorem op_binO (op : Operator) (F : FnOk X.prog X.w X.K X.mg X.base CX k f fd ps sp) (hb : Binds X.K fd ps []) (hx : Passes CX X E) (hr : Room k X.A) (hc : PySem.W.selfFirst X.K C = true) (hs : PySem.W.findIn X.K (.ref C) (PySem.dunder op.info.2) = some (some (.ref f))) (hf : PySem.W.isFn X.K (.ref f) = true) :
    OpR X (binaryOp op) (fun x y H Q => ∃ a b dx fs dy gs, x = .ref a ∧ y = .ref b ∧ H a = some (.ins C dx fs) ∧ H b = some (.ins C dy gs) ∧ sp [.ref a, .ref b] H (fun v H' => ∃ c, v = .ref c ∧ Q (.ref c) H') E) := by
  intro pins s σ H x y v u Q I rx ry h
  obtain ⟨a, b, dx, fs, dy, gs, rfl, rfl, ha, hb2, hsp⟩ := h
  cases rx
  cases ry
  obtain ⟨mA, J, _⟩ := ins_get I.hok ha
  obtain ⟨od, J, _⟩ := J.look
  obtain ⟨mB, J2, _⟩ := ins_get I.hok hb2
  obtain ⟨od2, J2, _⟩ := J2.look
  obtain ⟨m, hF⟩ := I.fr
  refine PySem.W.binop_K hF I.ok.mod.kin J J2.type hc hs hf (wpAny_mono (run_at (vs := [.ref a, .ref b]) F hb hx ⟨hr, rfl⟩ I (.cons rfl (.cons rfl .nil)) hsp) (fun r s' q => ?_) fun _ _ x => x)
  obtain ⟨z, H', I', rz, c, rfl, q⟩ := q
  cases rz
  exact ⟨.ref c, H', I', rfl, q⟩
/-- x not in o -/
theorem op_ninO (F : FnOk X.prog X.w X.K X.mg X.base CX k f fd ps sp) (hb : Binds X.K fd ps []) (hx : Passes CX X E) (hr : Room k X.A) (hs : PySem.W.findIn X.K (.ref C) "__contains__" = some (some (.ref f))) (hf : PySem.W.isFn X.K (.ref f) = true) :
    OpR X (compareOp .NotIn) (fun x y H Q => ∃ a dx fs, y = .ref a ∧ H a = some (.ins C dx fs) ∧ sp [.ref a, x] H (fun v H' => ∃ b, v = .bl b ∧ Q (.bl (!b)) H') E) := by
  intro pins s σ H x y v u Q I rx ry h
  obtain ⟨a, dx, fs, rfl, ha, hsp⟩ := h
  cases ry
  obtain ⟨mA, J, _⟩ := ins_get I.hok ha
  obtain ⟨od, J, _⟩ := J.look
  obtain ⟨m, hF⟩ := I.fr
  refine PySem.W.notIn_K hF I.ok.mod.kin J hs hf (wpAny_mono (run_at (vs := [.ref a, x]) F hb hx ⟨hr, rfl⟩ I (.cons rfl (.cons rx .nil)) hsp) (fun r s' q => ?_) fun _ _ x => x)
  obtain ⟨z, H', I', rz, b, rfl, q⟩ := q
  cases rz
  exact wpAny_truthy_bool ⟨.bl (!b), H', I', rfl, q⟩
end K2
end
section
set_option Elab.async false
set_option maxRecDepth 100000
set_option linter.all false
/-! the key of an act, as the program tells it -/
namespace K2
open PySem L2 LfX
abbrev sAO : Stmt := top 15
abbrev nAO : List Str := ["act", "callback", "handled", "outcome"]
/-- an act's key, new -/
def keyVs (a : LfX.Act) : List V := [.str a.cb, .str (a.hd.getD Str.empty), .bl (!decide (a.out = "returns")), .str a.out]
/-- a name for what is handled is not empty, and no monster -/
def HdW (a : LfX.Act) : Prop := ∀ x, a.hd = some x → 0 < x.length ∧ x.length ≤ sizeLine
def spAO : Sp := fun vs H Q _ => ∃ (q : Addr) (a : LfX.Act), vs = [.ref q] ∧ H q = some (.tup (actVs a)) ∧ HdW a ∧ ∀ r, H r = none → Q (.ref r) (upd H r (.tup (keyVs a)))
section
variable {P : Program} {w : World} {K : PySem.W.Frag} {mg : Str → Option Value} {base : Heap}
theorem scAO : FnScope nAO ["act"] (defScope sAO) := ⟨rfl, rfl, rfl, by decide +kernel, rfl, by decide +kernel, by decide +kernel⟩
theorem ok_ao {f : Addr} {fd : FuncData} (F : Fun K "act_order" "act_order" sAO f fd) : FnOk P w K mg base CX0 1 f fd ["act"] spAO := by
  refine F.ok scAO (fun vs H Q E h => ?_) (fun cdv A outer s H vs Q E hr h => ?_)
  · obtain ⟨q, a, rfl, _⟩ := h
    rfl
  · obtain ⟨q, a, rfl, hq, hw, k⟩ := h
    refine ⟨_, (pss_cons (ps_asg (pv 0) (pg_tup rfl (pgs_cons (pg_name (i := 1) scAO.nd rfl (Or.inl rfl)) (pgs_cons (pg_name (i := 2) scAO.nd rfl (Or.inl rfl)) (pgs_cons (pg_name (i := 3) scAO.nd rfl (Or.inl rfl)) pgs_nil)))))
      (pss_one (ps_ret (pe_tup (pa_cons (pv 1) (pa_cons (pe_orT (pv 2) (pe_one pe_str)) (pa_cons (pe_cmpR op_ne (pv 3) pe_str (nomark _)) (pa_cons (pv 3) pa_nil)))))))), ?_⟩
    refine ⟨_, rfl, q, actVs a, rfl, SqT.of hq, rfl, ?_⟩
    refine ⟨_, _, rfl, ⟨_, _, rfl, ⟨_, _, rfl, ?_⟩⟩⟩
    obtain ⟨cb, hd, out⟩ := a
    have fin : ∀ r, H r = none → Q (.ref r) (upd H r (.tup [.str cb, .str (hd.getD Str.empty), .bl (!decide (out = "returns")), .str out])) := k
    have e1 : (!decide (V.str out = V.str "returns")) = (!decide (out = "returns")) := by simp
    cases hd with
    | none =>
      refine ⟨rfl, _, rfl, _, rfl, false, rfl, iteF ?_⟩
      refine ⟨_, rfl, rfl, _, rfl, (by show 4 ≤ sizeLine; decide), fun r hr0 => ?_⟩
      show Q (.ref r) (upd H r (.tup [.str cb, .str (Str.ofString ""), .bl (!decide (V.str out = V.str "returns")), .str out]))
      rw [e1, show Str.ofString "" = Str.empty from rfl]
      exact fin r hr0
    | some x =>
      obtain ⟨x0, x1⟩ := hw x rfl
      have ne : ((x.length : Int) != 0) = true := by
        rw [bne_iff_ne]
        omega
      refine ⟨rfl, _, rfl, _, rfl, true, ⟨x1, ne.symm⟩, iteT ?_⟩
      refine ⟨_, rfl, rfl, _, rfl, (by show 4 ≤ sizeLine; decide), fun r hr0 => ?_⟩
      show Q (.ref r) (upd H r (.tup [.str cb, .str x, .bl (!decide (V.str out = V.str "returns")), .str out]))
      rw [e1]
      exact fin r hr0
end
end K2
end
section
set_option Elab.async false
set_option maxRecDepth 100000
set_option linter.all false
/-! is_act, of a tuple of three that is made as an act is -/
namespace K2
open PySem L2 LfX
abbrev sIA : Stmt := top 14
abbrev nIA : List Str := ["x", "callback", "handled", "outcome"]
def isActB (a : LfX.Act) : Bool := isW a.cb && ((match a.hd with | none => true | some x => isW x) && (isW a.out || decide (a.out = "returns")))
def ActSz (a : LfX.Act) : Prop := a.cb.length ≤ sizeLine ∧ (∀ x, a.hd = some x → x.length ≤ sizeLine) ∧ a.out.length ≤ sizeLine
def spIA : Sp := fun vs H Q _ => ∃ (q : Addr) (a : LfX.Act), vs = [.ref q] ∧ H q = some (.tup (actVs a)) ∧ ActSz a ∧ Q (.bl (isActB a)) H
section
variable {P : Program} {w : World} {K : PySem.W.Frag} {mg : Str → Option Value} {base : Heap}
theorem scIA : FnScope nIA ["x"] (defScope sIA) := ⟨rfl, rfl, rfl, by decide +kernel, rfl, by decide +kernel, by decide +kernel⟩
theorem ok_ia {f fI : Addr} {fd fdI : FuncData} (F : Fun K "is_act" "is_act" sIA f fd) (T : Bi mg) (IW : Df K mg "is_word" sIsW fI fdI ["x"]) (GI : FnOk P w K mg base CX0 1 fI fdI ["x"] (spIsWG K)) : FnOk P w K mg base CX0 2 f fd ["x"] spIA := by
  refine F.ok scIA (fun vs H Q E h => ?_) (fun cdv A outer s H vs Q E hr h => ?_)
  · obtain ⟨q, a, rfl, _⟩ := h
    rfl
  · obtain ⟨q, a, rfl, hq, ⟨z1, z2, z3⟩, k⟩ := h
    have hr1 : Room 1 _ := hr
    refine ⟨_, (pss_cons (ps_if (PW.pt (pw_or (pt_not (pt_val (pe_callB call_isi (by rfl) T.isinstance (by decide +kernel) (pa_cons (pv 0) (pa_cons (pe_bltn (v := .ty "tuple") (by rfl) T.tuple (by decide +kernel) rfl) pa_nil))))) (pw_or1 (pt_cmpR op_ne (pe_callB call_len_seq (by rfl) T.len PySem.boot_len (pa_cons (pv 0) pa_nil)) pe_int (nomark _)))))
      (pss_one (ps_ret pe_bl))
      pss_nil)
      (pss_cons (ps_asg (pv 0) (pg_tup rfl (pgs_cons (pg_name (i := 1) scIA.nd rfl (Or.inl rfl)) (pgs_cons (pg_name (i := 2) scIA.nd rfl (Or.inl rfl)) (pgs_cons (pg_name (i := 3) scIA.nd rfl (Or.inl rfl)) pgs_nil)))))
      (pss_one (ps_ret (pe_and (pe_call GI hr1 (by rfl) IW.m IW.F.kp IW.b .nil pass0 (pa_cons (pv 1) pa_nil)) (pe_and (pe_or (pe_cmpR op_isN (pv 2) pe_non (nomark _)) (pe_one (pe_call GI hr1 (by rfl) IW.m IW.F.kp IW.b .nil pass0 (pa_cons (pv 2) pa_nil)))) (pe_one (pe_or (pe_call GI hr1 (by rfl) IW.m IW.F.kp IW.b .nil pass0 (pa_cons (pv 3) pa_nil)) (pe_one (pe_cmpR op_eq (pv 3) pe_str (nomark _))))))))))), ?_⟩
    refine ⟨_, rfl, _, _, _, _, true, rfl, .ty _, .base (.tup hq), kit_ty (by decide +kernel), _, rfl, iteF ?_⟩
    refine ⟨_, rfl, q, actVs a, rfl, .inr (SqT.of hq), rfl, false, rfl, iteF ?_⟩
    refine ⟨_, rfl, q, actVs a, rfl, SqT.of hq, rfl, ?_⟩
    refine ⟨_, _, rfl, ⟨_, _, rfl, ⟨_, _, rfl, ?_⟩⟩⟩
    obtain ⟨cb, hd, out⟩ := a
    have e1 : decide (V.str out = V.str "returns") = decide (out = "returns") := by simp
    have third : ∀ {c : Bool} {A B : Prop}, (c = true → A) → (c = false → B) → if c = true then A else B := fun {c A B} h1 h2 => by
      cases c with
      | true => exact (if_pos rfl).mpr (h1 rfl)
      | false => exact (if_neg Bool.false_ne_true).mpr (h2 rfl)
    refine ⟨rfl, _, rfl, .str cb, isW cb, rfl, .str _ z1, isW cb, rfl, third (fun hc => ?_) fun hc => ?_⟩
    · cases hd with
      | none =>
        refine ⟨_, rfl, rfl, true, rfl, iteT ⟨true, rfl, iteT ?_⟩⟩
        refine ⟨_, rfl, .str out, isW out, rfl, .str _ z3, isW out, rfl, third (fun ho => ?_) fun ho => ?_⟩
        · have e : isActB ⟨cb, none, out⟩ = true := by simp [isActB, hc, ho]
          rw [e] at k
          exact k
        · refine ⟨_, rfl, rfl, ?_⟩
          have e : isActB ⟨cb, none, out⟩ = decide (out = "returns") := by simp [isActB, hc, ho]
          rw [e, ← e1] at k
          exact k
      | some x =>
        refine ⟨_, rfl, rfl, false, rfl, iteF ⟨_, rfl, .str x, isW x, rfl, .str _ (z2 x rfl), isW x, rfl, third (fun hx => ?_) fun hx => ?_⟩⟩
        · refine ⟨_, rfl, .str out, isW out, rfl, .str _ z3, isW out, rfl, third (fun ho => ?_) fun ho => ?_⟩
          · have e : isActB ⟨cb, some x, out⟩ = true := by simp [isActB, hc, hx, ho]
            rw [e] at k
            exact k
          · refine ⟨_, rfl, rfl, ?_⟩
            have e : isActB ⟨cb, some x, out⟩ = decide (out = "returns") := by simp [isActB, hc, hx, ho]
            rw [e, ← e1] at k
            exact k
        · have e : isActB ⟨cb, some x, out⟩ = false := by simp [isActB, hc, hx]
          rw [e] at k
          exact k
    · have e : isActB ⟨cb, hd, out⟩ = false := by simp [isActB, hc]
      rw [e] at k
      exact k
end
end K2
end
section
set_option Elab.async false
set_option maxRecDepth 100000
set_option linter.all false
/-! the pen's draw -/
namespace K2
open PySem L2
section
variable {P : Program} {w : World} {K : PySem.W.Frag} {mg : Str → Option Value} {base : Heap}
abbrev nDrawB : List Str := ["_law_pen_here", "_law_many", "_law_digit", "_law_begun", "_law_cell", "_law_great", "_law_mixed"]
theorem scDrawB : FnScope nDrawB ["_law_pen_here", "_law_many"] (defScope sDraw) := ⟨rfl, rfl, rfl, by decide +kernel, rfl, by decide +kernel, by decide +kernel⟩
theorem ok_draw {f : Addr} {fd : FuncData} (F : Fun K "_law_draw" "_law_draw" sDraw f fd) (T : Bi mg) : FnOk P w K mg base CX0 1 f fd ["_law_pen_here", "_law_many"] spDraw := by
  refine F.ok scDrawB (fun vs H Q E h => ?_) (fun cdv A outer s H vs Q E hr h => ?_)
  · obtain ⟨p, c, ns, n, m, rfl, _⟩ := h
    rfl
  · obtain ⟨p, c, ns, n, m, rfl, hP, hn, m0, m1, k⟩ := h
    have hmne : m ≠ 0 := by omega
    have hmab : m.natAbs < 1073741824 := by omega
    obtain ⟨a, l, hp, a0, an, l0⟩ := hP.pen
    unfold penO at hp
    refine ⟨_, (pss_cons (ps_if (pt_cmpR op_gt (pe_ix ix_list (pv 0) pe_int (fun _ _ => rfl)) pe_int (nomark _))
      (pss_cons (ps_set (i := 2) scDrawB.nd rfl (Or.inl rfl) (pe_op op_modN (pe_callTy call_int1 (by rfl) T.int (by decide +kernel) (pa_cons (pe_ix ix_list (pv 0) pe_int (fun _ _ => rfl)) pa_nil)) (pv 1)))
        (pss_cons (ps_asg (pe_op op_fdivN (pe_callTy call_int1 (by rfl) T.int (by decide +kernel) (pa_cons (pe_ix ix_list (pv 0) pe_int (fun _ _ => rfl)) pa_nil)) (pv 1)) (pg_sub (pv 0) pe_int set_list))
        (pss_one (ps_ret (pv 2)))))
      pss_nil)
      (pss_cons (ps_set (i := 3) scDrawB.nd rfl (Or.inl rfl) (pe_ix ix_list (pv 0) pe_int (fun _ _ => rfl)))
      (pss_cons (ps_asg (pe_op op_add (pv 3) pe_int) (pg_sub (pv 0) pe_int set_list))
      (pss_cons (ps_set (i := 4) scDrawB.nd rfl (Or.inl rfl) (pe_op op_add (pe_op op_mul pe_int (pv 3)) pe_int))
      (pss_cons (ps_if (pt_cmpR (op_neD hr.units) (pe_ix ix_list (pv 0) pe_int (fun _ _ => rfl)) (pe_lst pa_nil) (nomark _))
      (pss_one (ps_set (i := 4) scDrawB.nd rfl (Or.inl rfl) (pe_ix ix_list (pe_ix ix_list (pv 0) pe_int (fun _ _ => rfl)) (pe_op op_modN (pe_callTy call_int1 (by rfl) T.int (by decide +kernel) (pa_cons (pv 3) pa_nil)) (pe_callB call_len_seq (by rfl) T.len PySem.boot_len (pa_cons (pe_ix ix_list (pv 0) pe_int (fun _ _ => rfl)) pa_nil))) (fun _ _ => rfl))))
      pss_nil)
      (pss_cons (ps_if (PW.pt (pw_and (pt_cmpR op_lt (pv 3) (pe_callB call_len_seq (by rfl) T.len PySem.boot_len (pa_cons (pe_ix ix_list (pv 0) pe_int (fun _ _ => rfl)) pa_nil)) (nomark _)) (pw_and1 (pt_cmpR op_ge (pe_callB call_abs (by rfl) T.abs (by decide +kernel) (pa_cons (pv 4) pa_nil)) (pe_op op_pow pe_int pe_int) (nomark _)))))
      (pss_cons (ps_set (i := 5) scDrawB.nd rfl (Or.inl rfl) (pe_op op_add (pe_op op_mul pe_int (pe_op op_sub (pe_callB call_abs (by rfl) T.abs (by decide +kernel) (pa_cons (pv 4) pa_nil)) (pe_op op_pow pe_int pe_int))) (pe_callTy call_int1 (by rfl) T.int (by decide +kernel) (pa_cons (pe_cmpR op_lt (pv 4) pe_int (nomark _)) pa_nil))))
        (pss_cons (ps_asg (pe_op op_fdivN (pe_callTy call_int1 (by rfl) T.int (by decide +kernel) (pa_cons (pv 5) pa_nil)) (pv 1)) (pg_sub (pv 0) pe_int set_list))
        (pss_one (ps_ret (pe_op op_modN (pe_callTy call_int1 (by rfl) T.int (by decide +kernel) (pa_cons (pv 5) pa_nil)) (pv 1))))))
      pss_nil)
      (pss_cons (ps_set (i := 6) scDrawB.nd rfl (Or.inl rfl) (pe_op op_modN (pe_callTy call_int1 (by rfl) T.int (by decide +kernel) (pa_cons (pe_op op_pow (pe_op op_add (pe_op op_add (pe_op op_modN (pe_callTy call_int1 (by rfl) T.int (by decide +kernel) (pa_cons (pv 4) pa_nil)) pe_int) (pe_op op_mul pe_int (pv 3))) pe_int) pe_int) pa_nil)) pe_int))
      (pss_cons (ps_set (i := 6) scDrawB.nd rfl (Or.inl rfl) (pe_op op_modN (pe_callTy call_int1 (by rfl) T.int (by decide +kernel) (pa_cons (pe_op op_pow (pe_op op_add (pe_op op_add (pe_op op_mul (pv 6) (pe_op op_add (pe_op op_mul pe_int (pv 3)) pe_int)) (pe_op op_mul (pe_op op_mul pe_int (pv 3)) (pv 3))) pe_int) pe_int) pa_nil)) pe_int))
      (pss_one (ps_ret (pe_op op_modN (pe_op op_fdivN (pe_callTy call_int1 (by rfl) T.int (by decide +kernel) (pa_cons (pv 6) pa_nil)) pe_int) (pv 1)))))))))))), ?_⟩
    refine ⟨_, rfl, p, _, _, _, rfl, rfl, SqL.of hp, atI_nat (j := 2) rfl, _, _, rfl, rfl, _, rfl, ite2 (fun hg => ?_) (fun hg => ?_)⟩
    · have hl := of_decide_eq_true hg
      refine ⟨_, rfl, p, _, _, _, rfl, rfl, SqL.of hp, atI_nat (j := 2) rfl, .inl ⟨_, rfl, _, rfl, _, _, rfl, rfl, hmne, ?_⟩⟩
      refine ⟨_, rfl, p, _, _, _, rfl, rfl, SqL.of hp, atI_nat (j := 2) rfl, .inl ⟨_, rfl, _, rfl, _, _, rfl, rfl, ⟨hmne, hmab⟩, _, rfl, p, _, _, 2, rfl, rfl, hp, rfl, _, rfl, ?_⟩⟩
      refine k _ _ (fmod_lo m0) (fmod_hi m0) (Keep.refl _ _).at ?_
      exact hP.set a0 (by omega) (fdiv_nn l0 m0)
    · have hat : a ≤ 100000 := by omega
      refine ⟨_, rfl, p, _, _, _, rfl, rfl, SqL.of hp, atI_nat (j := 1) rfl, _, rfl, _, _, rfl, rfl, _, rfl, p, _, _, 1, rfl, rfl, hp, rfl, ?_⟩
      generalize hH1 : upd H p (HO.lst ([V.ref c, V.int a, V.int l].set 1 ((fun i j => V.int (i + j)) a 1))) = H1
      replace hH1 : upd H p (.lst [.ref c, .int (a + 1), .int l]) = H1 := hH1
      have hp1 : H1 p = some (.lst [.ref c, .int (a + 1), .int l]) := by rw [← hH1]; exact upd_same
      have hc1 : H1 c = some (.lst (ns.map V.int)) := by rw [← hH1, upd_ne hP.ne]; exact hP.cells
      have k1 : Keep p H H1 := by rw [← hH1]; exact (Keep.refl p H).at
      refine ⟨_, rfl, _, _, rfl, rfl, .inl ⟨by decide, by decide⟩, _, _, rfl, rfl, ?_⟩
      refine ⟨_, rfl, p, _, _, _, rfl, rfl, SqL.of hp1, atI_nat (j := 0) rfl, Nat.zero_le _, fun e he => ?_⟩
      have he0 : H e = none := by
        cases q : H e with
        | none => rfl
        | some o =>
          by_cases ep : e = p
          · rw [ep, hp1] at he; cases he
          · rw [k1 e o q ep] at he; cases he
      have hp2 : (upd H1 e (.lst [])) p = some (.lst [.ref c, .int (a + 1), .int l]) := by rw [upd_ne (ne_of_none hp1 he)]; exact hp1
      have hc2 : (upd H1 e (.lst [])) c = some (.lst (ns.map V.int)) := by rw [upd_ne (ne_of_none hc1 he)]; exact hc1
      have k2 : Keep p H (upd H1 e (.lst [])) := k1.new he0
      have P2 : Pen (upd H1 e (.lst [])) p c ns (n + 1) := ⟨⟨a + 1, l, hp2, by omega, by omega, l0⟩, hc2, hP.small⟩
      have hee : (upd H1 e (.lst [])) e = some (.lst []) := upd_same
      generalize hH2 : upd H1 e (.lst []) = H2 at hp2 hc2 k2 P2 hee ⊢
      refine ⟨.list (ns.map PyData.int), .list [], .lst (SqL.of hc2) (ints_dp _ _ ns), .lst (SqL.of hee) .nil, shaped_ints ns, rfl, _, rfl, ?_⟩
      rw [eqv_nil]
      have hz0 : ns = [] ∨ ∃ z r, ns = z :: r := by cases ns with
        | nil => exact .inl rfl
        | cons z r => exact .inr ⟨z, r, rfl⟩
      have hzc : ∀ j : Nat, j < ns.length → ∃ z : Int, (ns.map V.int)[j]? = some (V.int z) := fun j hj => ⟨ns[j], by rw [List.getElem?_map, List.getElem?_eq_getElem hj]; rfl⟩
      refine ite2 (fun hb => ?b1) (fun hb => ?b2)
      case' b1 =>
        have hlen : 0 < ns.length := by
          cases ns with
          | nil => cases hb
          | cons z r => simp
        have hlen2 : (0 : Int) < ((ns.map V.int).length : Int) := by rw [List.length_map]; omega
        obtain ⟨j, hj⟩ : ∃ j : Nat, a.fmod ((ns.map V.int).length : Int) = (j : Int) := ⟨(a.fmod ((ns.map V.int).length : Int)).toNat, (Int.toNat_of_nonneg (fmod_lo hlen2)).symm⟩
        have hj2 : j < ns.length := by
          have := fmod_hi (a := a) hlen2
          rw [hj, List.length_map] at this
          omega
        obtain ⟨z, hz⟩ := hzc j hj2
        refine ⟨_, rfl, p, _, _, _, rfl, rfl, SqL.of hp2, atI_nat (j := 0) rfl, _, rfl, .inl ⟨_, rfl, _, rfl, p, _, _, _, rfl, rfl, SqL.of hp2, atI_nat (j := 0) rfl, c, _, rfl, .inl (SqL.of hc2), _, _, rfl, rfl, by omega, c, _, _, _, rfl, rfl, SqL.of hc2, at_of hj hz, ?_⟩⟩
      case' b2 => generalize hz9 : (fun i j => V.int (i + j)) (52711 * a) 907 = zz; replace hz9 : zz = .int (52711 * a + 907) := hz9.symm; subst hz9; generalize 52711 * a + 907 = z
      all_goals
        have pw18 : (10 : Int) ^ (18 : Int).toNat = 1000000000000000000 := by decide
        have tl : ∀ (v : Int), 0 ≤ v → v < m → Q (.int v) H2 := fun v h0 h1 => k v H2 h0 h1 k2 P2
        refine (fun t => ⟨_, rfl, _, rfl, p, _, _, _, rfl, rfl, SqL.of hp2, atI_nat (j := 0) rfl, c, _, rfl, .inl (SqL.of hc2), _, _, rfl, rfl, _, rfl, ite2 (fun hq1 =>
          ⟨_, rfl, _, rfl, _, _, rfl, rfl, ⟨by decide, by decide, by decide⟩, _, _, rfl, rfl, _, rfl, ite2 (fun hq2 => ?_) (fun _ => t)⟩) (fun _ => iteF t)⟩) ?_
        · refine ⟨_, rfl, .inl ⟨_, rfl, _, _, rfl, rfl, (by show (2147483563 : Int) ≠ 0; decide), _, rfl, _, _, rfl, rfl, .inl ⟨by decide, by decide⟩, _, _, rfl, rfl, _, _, rfl, rfl, _, _, rfl, rfl, ⟨by decide, by decide, ?_⟩, .inl ⟨_, rfl, _, _, rfl, rfl, (by show (2147483629 : Int) ≠ 0; decide), ?_⟩⟩⟩
          · have h1 := fmod_lo (a := z) (m := 2147483563) (by decide)
            have h2 := fmod_hi (a := z) (m := 2147483563) (by decide)
            generalize z.fmod 2147483563 = y at h1 h2 ⊢
            omega
          have g1 := fmod_lo (a := (z.fmod 2147483563 + 84713 * a + 29) ^ (5 : Int).toNat) (m := 2147483629) (by decide)
          have g2 := fmod_hi (a := (z.fmod 2147483563 + 84713 * a + 29) ^ (5 : Int).toNat) (m := 2147483629) (by decide)
          have b1 := mul_bnd (X := 2147483629) (y := 2 * a + 31) (Y := 200031) g1 (Int.le_of_lt g2) (by omega) (by omega)
          have b2 := mul_bnd (x := 65063 * a) (X := 6506300000) (y := a) (Y := 100000) (by omega) (by omega) a0 hat
          refine ⟨_, rfl, _, rfl, _, _, rfl, rfl, .inl ⟨by decide, by decide⟩, _, _, rfl, rfl, _, _, rfl, rfl, .inl ⟨?_, ?_⟩, _, rfl, _, _, rfl, rfl, .inl ⟨by decide, by decide⟩, _, rfl, _, _, rfl, rfl, .inl ⟨?_, ?_⟩, _, _, rfl, rfl, _, _, rfl, rfl, _, _, rfl, rfl, ⟨by decide, by decide, ?_⟩, .inl ⟨_, rfl, _, _, rfl, rfl, (by show (2147483647 : Int) ≠ 0; decide), ?_⟩⟩
          · omega
          · omega
          · omega
          · omega
          · omega
          have g3 := fmod_lo (a := ((((z.fmod 2147483563 + 84713 * a + 29) ^ (5 : Int).toNat).fmod 2147483629) * (2 * a + 31) + 65063 * a * a + 7) ^ (3 : Int).toNat) (m := 2147483647) (by decide)
          refine ⟨_, rfl, .inl ⟨_, rfl, _, _, rfl, rfl, ⟨by decide, by decide⟩, _, rfl, _, _, rfl, rfl, hmne, tl _ (fmod_lo m0) (fmod_hi m0)⟩⟩
        · have hge := of_decide_eq_true hq2
          have z64 : True := trivial
          refine ⟨_, rfl, _, rfl, _, _, rfl, rfl, ⟨by decide, by decide, by decide⟩, _, _, rfl, rfl, _, _, rfl, rfl, .inl ⟨by decide, by decide⟩, _, rfl, _, _, rfl, rfl, .inr ⟨_, rfl, _, _, rfl, rfl, ?_⟩⟩
          refine ⟨_, rfl, .inl ⟨_, rfl, _, rfl, _, _, rfl, rfl, ⟨hmne, hmab⟩, _, rfl, p, _, _, 2, rfl, rfl, hp2, rfl, _, rfl, .inl ⟨_, rfl, _, rfl, _, _, rfl, rfl, hmne, ?_⟩⟩⟩
          refine k _ _ (fmod_lo m0) (fmod_hi m0) k2.at (P2.set (by omega) (by omega) (fdiv_nn ?_ m0))
          rw [pw18] at hge ⊢
          split at hge <;> split <;> omega
end
end K2
end
section
set_option Elab.async false
set_option maxRecDepth 100000
set_option linter.all false
/-! words of the second style -/
namespace K2
open PySem L2
abbrev sWordsB : Stmt := sWords
abbrev nWordsB : List Str := ["_law_pen_here", "_law_many", "_law_letters", "_law_barred", "_law_base", "_law_found", "_law_k", "_law_at", "_law_word", "_law_j", "_law_some", "_law_letter", "_law_one"]
theorem sub_len {α : Type} [BEq α] [LawfulBEq α] : ∀ {l m : List α}, l.Nodup → (∀ x ∈ l, x ∈ m) → l.length ≤ m.length
  | [], _, _, _ => Nat.zero_le _
  | x :: l, m, nd, h => by
    have nd2 := List.nodup_cons.mp nd
    have hx := h x List.mem_cons_self
    have := sub_len (m := m.erase x) nd2.2 fun y hy => (List.mem_erase_of_ne (fun e => nd2.1 (by rw [← e]; exact hy))).mpr (h y (List.mem_cons_of_mem _ hy))
    rw [List.length_erase_of_mem hx] at this
    have := List.length_pos_of_mem hx
    rw [List.length_cons]
    omega
abbrev lettersS : Str := Str.ofString "abcdefghijklmnopqrstuvwxyz"
/-- what may be taken in the place of w -/
def cands (w : Str) : List Str := w :: (codes lettersS).map fun c => txt ((codes w).take 7 ++ [c])
theorem letters_nd : (codes lettersS).Nodup := by decide +kernel
theorem letters_len : (codes lettersS).length = 26 := by decide +kernel
theorem nodup_map {α β : Type} {f : α → β} (inj : ∀ x y, f x = f y → x = y) : ∀ {l : List α}, l.Nodup → (l.map f).Nodup
  | [], _ => by simp
  | x :: l, nd => by
    have nd2 := List.nodup_cons.mp nd
    rw [List.map_cons]
    refine List.nodup_cons.mpr ⟨fun h => ?_, nodup_map inj nd2.2⟩
    obtain ⟨y, hy, e⟩ := List.mem_map.mp h
    exact nd2.1 (inj _ _ e ▸ hy)
theorem filter_one {α β : Type} [DecidableEq β] {f : α → β} {y : β} : ∀ {l : List α}, (l.map f).Nodup → (l.filter fun x => decide (f x = y)).length ≤ 1
  | [], _ => by simp
  | x :: l, nd => by
    rw [List.map_cons] at nd
    have nd2 := List.nodup_cons.mp nd
    by_cases e : f x = y
    · rw [List.filter_cons_of_pos (by simpa using e)]
      have : l.filter (fun z => decide (f z = y)) = [] := by
        rw [List.filter_eq_nil_iff]
        intro z hz h
        have h := of_decide_eq_true h
        exact nd2.1 (List.mem_map.mpr ⟨z, hz, by rw [h, e]⟩)
      rw [this]
      simp
    · rw [List.filter_cons_of_neg (by simpa using e)]
      exact filter_one nd2.2
theorem barred_drops : (barred.map fun b => (codes b).dropLast).Nodup := by decide +kernel
theorem cand_free (w : Str) {found : List Str} (l : found.length ≤ 20) : ∃ x ∈ cands w, x ∉ found ∧ x ∉ barred := by
  refine Classical.byContradiction fun no => ?_
  have all : ∀ x ∈ (codes lettersS).map (fun c => txt ((codes w).take 7 ++ [c])), x ∈ found ++ barred.filter fun b => decide ((codes b).dropLast = (codes w).take 7) := fun x hx => by
    refine Classical.byContradiction fun q => no ⟨x, List.mem_cons_of_mem _ hx, fun h => q (List.mem_append_left _ h), fun h => q (List.mem_append_right _ ?_)⟩
    obtain ⟨c, hc, rfl⟩ := List.mem_map.mp hx
    refine List.mem_filter.mpr ⟨h, decide_eq_true ?_⟩
    rw [codes_txt, List.dropLast_concat]
  have nd : ((codes lettersS).map fun c => txt ((codes w).take 7 ++ [c])).Nodup := nodup_map (fun a b e => by
    have := congrArg codes e
    rw [codes_txt, codes_txt] at this
    exact List.singleton_inj.mp (List.append_cancel_left this)) letters_nd
  have h1 := sub_len nd all
  have h2 := filter_one (y := (codes w).take 7) barred_drops
  rw [List.length_map, letters_len, List.length_append] at h1
  omega
/-- a text of one to eight small letters -/
def LowT (x : Str) : Prop := Low (codes x) ∧ 1 ≤ (codes x).length ∧ (codes x).length ≤ 8
theorem cand_low {w x : Str} (h : LowT w) (hx : x ∈ cands w) : LowT x := by
  rcases List.mem_cons.mp hx with rfl | hx
  · exact h
  · obtain ⟨c, hc, rfl⟩ := List.mem_map.mp hx
    have hc2 := low_letters c hc
    unfold LowT
    rw [codes_txt]
    refine ⟨fun d hd => ?_, ?_, ?_⟩
    · rcases List.mem_append.mp hd with hd | hd
      · exact h.1 d (List.mem_of_mem_take hd)
      · rw [List.mem_singleton.mp hd]; exact hc2
    · rw [List.length_append]; show 1 ≤ _ + 1; omega
    · rw [List.length_append, List.length_take]; show _ + 1 ≤ 8; omega
theorem low_vw {x : Str} (h : LowT x) (nb : x ∉ barred) : VW x := ⟨h.1, fun e => by have := h.2.1; rw [e] at this; simp at this, h.2.2, fun q => nb (mem_resd q)⟩
theorem words_snoc {ws : List Str} {x : Str} (h : Words ws) (hx : LowT x) (n1 : x ∉ ws) (n2 : x ∉ barred) : Words (ws ++ [x]) := by
  refine ⟨fun y hy => ?_, fun y hy => ?_, ?_⟩
  · rcases List.mem_append.mp hy with hy | hy
    · exact h.vw y hy
    · rw [List.mem_singleton.mp hy]; exact low_vw hx n2
  · rcases List.mem_append.mp hy with hy | hy
    · exact h.nb y hy
    · rw [List.mem_singleton.mp hy]; exact n2
  · refine List.nodup_append.mpr ⟨h.nd, by simp, fun a ha b hb e => ?_⟩
    rw [List.mem_singleton.mp hb] at e
    exact n1 (e ▸ ha)
theorem words_nil : Words [] := ⟨fun _ h => by simp at h, fun _ h => by simp at h, by simp⟩
theorem cut_toA (z : Str) (k : Nat) : codes (cutS z none (some (k : Int))) = (codes z).take k := by
  unfold cutS codes
  rw [HT.sIx_nat, HT.sIx_none]
  have e : z.length = z.cps.toList.length := len_codes z
  simp only [List.drop_zero, Nat.sub_zero]
  by_cases h : k ≤ z.length
  · rw [Nat.min_eq_left h]
  · rw [Nat.min_eq_right (by omega), List.take_of_length_le (by omega), List.take_of_length_le (by omega)]
theorem cut_fromA (z : Str) (k : Nat) : codes (cutS z (some (k : Int)) none) = (codes z).drop k := by
  unfold cutS codes
  rw [HT.sIx_nat, HT.sIx_none]
  have e : z.length = z.cps.toList.length := len_codes z
  by_cases h : k ≤ z.length
  · rw [Nat.min_eq_left h, e]
    simp only []
    rw [List.take_of_length_le (by rw [List.length_drop]; omega)]
  · rw [Nat.min_eq_right (by omega)]
    simp only [Nat.sub_self, List.take_zero]
    rw [List.drop_of_length_le (by omega)]
theorem pe_imp {X : Cx} {e : Expr} {t t' : TE} (h : PE X e t) (k : ∀ σ H Q, t' σ H Q → t σ H Q) : PE X e t' := ⟨fun pins s σ H Q I q => h.run pins s σ H Q I (k σ H Q q)⟩
/-- one to eight letters joined -/
def tJn : TE := fun σ H Q => ∃ (p c : Addr) (ns : List Int) (n : Nat) (a1 a3 a4 a5 a6 a7 a8 a9 a10 a11 a12 : Option V), σ = [some (.ref p), a1, some (.str lettersS), a3, a4, a5, a6, a7, a8, a9, a10, a11, a12] ∧ Pen H p c ns n ∧ n + 10 ≤ 100000 ∧ ∀ b H', LowT b → Keep p H H' → Pen H' p c ns (n + 9) → Q (.str b) H'
/-- a fresh list of m words -/
def spWordsB : Sp := fun vs H Q _ => ∃ (p c : Addr) (ns : List Int) (n m : Nat), vs = [.ref p, .int m] ∧ Pen H p c ns n ∧ n + 300 ≤ 100000 ∧ m ≤ 20 ∧
  ∀ (l : Addr) (ws : List Str) (H' : Hp), Words ws → ws.length = m → H' l = some (.lst (ws.map V.str)) → l ≠ p → Keep p H H' → Pen H' p c ns (n + 250) → Q (.ref l) H'
section
variable {P : Program} {w : World} {K : PySem.W.Frag} {mg : Str → Option Value} {base : Heap}
theorem scWordsB : FnScope nWordsB ["_law_pen_here", "_law_many"] (defScope sWords) := ⟨rfl, rfl, rfl, by decide +kernel, rfl, by decide +kernel, by decide +kernel⟩
set_option maxHeartbeats 1000000 in
theorem ok_wordsB {f fD : Addr} {fd fdD : FuncData} (F : Fun K "_law_words" "_law_words" sWords f fd) (T : Bi mg) (D : Df K mg "_law_draw" sDraw fD fdD ["_law_pen_here", "_law_many"]) (GD : FnOk P w K mg base CX0 1 fD fdD ["_law_pen_here", "_law_many"] spDraw) : FnOk P w K mg base CX0 2 f fd ["_law_pen_here", "_law_many"] spWordsB := by
  refine F.ok scWordsB (fun vs H Q E h => ?_) (fun cdv A outer s H vs Q E hr h => ?_)
  · obtain ⟨p, c, ns, n, m, rfl, _⟩ := h
    rfl
  · obtain ⟨p, c, ns, n, m, rfl, P0, hn, hm, k⟩ := h
    have hr1 : Room 1 _ := hr
    refine ⟨_, (pss_cons (ps_set (i := 2) scWordsB.nd rfl (Or.inr rfl) pe_str)
      (pss_cons (ps_set (i := 3) scWordsB.nd rfl (Or.inr rfl) (pe_lst (pa_cons pe_str (pa_cons pe_str (pa_cons pe_str (pa_cons pe_str (pa_cons pe_str (pa_cons pe_str (pa_cons pe_str (pa_cons pe_str (pa_cons pe_str (pa_cons pe_str (pa_cons pe_str pa_nil)))))))))))))
      (pss_cons (ps_set (i := 3) scWordsB.nd rfl (Or.inr rfl) (pe_op op_cat (pv 3) (pe_lst (pa_cons pe_str (pa_cons pe_str (pa_cons pe_str (pa_cons pe_str (pa_cons pe_str (pa_cons pe_str (pa_cons pe_str (pa_cons pe_str (pa_cons pe_str (pa_cons pe_str (pa_cons pe_str pa_nil))))))))))))))
      (pss_cons (ps_set (i := 3) scWordsB.nd rfl (Or.inr rfl) (pe_op op_cat (pv 3) (pe_lst (pa_cons pe_str (pa_cons pe_str pa_nil)))))
      (pss_cons (ps_set (i := 4) scWordsB.nd rfl (Or.inl rfl) (pe_imp (t' := tJn) (pe_join pe_str (pe_lc (own := [("_law_k", 6)]) (g := gName 6) (tt := tYes) rfl scWordsB.nd (pi_range1 rfl T.range (pa_cons (pe_op op_add pe_int (pe_call GD hr1 (by rfl) D.m D.F.kp D.b .nil pass0 (pa_cons (pv 0) (pa_cons pe_int pa_nil)))) pa_nil)) (blkOk_by (N := nWordsB) (sc := defScope sWords) (by decide +kernel)) (fun _ _ _ _ _ => pg_name (i := 6) scWordsB.nd rfl (Or.inl rfl)) (fun _ _ _ _ _ => pts_nil) (fun _ _ _ _ _ => pe_ix ix_str (pv 2) (pe_call GD hr1 (by rfl) D.m D.F.kp D.b .nil pass0 (pa_cons (pv 0) (pa_cons pe_int pa_nil))) (fun _ _ => rfl)))) (fun σ H Q h => ?j0)))
      (pss_cons (ps_set (i := 5) scWordsB.nd rfl (Or.inr rfl) (pe_lst pa_nil))
      (pss_cons (ps_for PassesOwn.never rfl (pi_range1 rfl T.range (pa_cons (pv 1) pa_nil)) (pg_name (i := 6) scWordsB.nd rfl (Or.inl rfl))
      (pss_cons (ps_set (i := 7) scWordsB.nd rfl (Or.inl rfl) (pe_call GD hr1 (by rfl) D.m D.F.kp D.b .nil pass0 (pa_cons (pv 0) (pa_cons (pe_op op_add (pe_callB call_len_str (by rfl) T.len PySem.boot_len (pa_cons (pv 4) pa_nil)) pe_int) pa_nil))))
        (pss_cons (ps_set (i := 8) scWordsB.nd rfl (Or.inr rfl) (pe_op op_add_str (pe_op op_add_str (pe_slice sl_str (pv 4) po_none (po_some (pv 7))) (pe_ix ix_str (pv 2) (pe_call GD hr1 (by rfl) D.m D.F.kp D.b .nil pass0 (pa_cons (pv 0) (pa_cons pe_int pa_nil))) (fun _ _ => rfl))) (pe_slice sl_str (pv 4) (po_some (pe_op op_add (pv 7) pe_int)) po_none)))
        (pss_cons (ps_if (pt_cmpR op_eq (pv 7) (pe_callB call_len_str (by rfl) T.len PySem.boot_len (pa_cons (pv 4) pa_nil)) (nomark _))
        (pss_one (ps_set (i := 8) scWordsB.nd rfl (Or.inr rfl) (pe_slice sl_str (pv 4) po_none (po_some (pe_op op_add pe_int (pe_call GD hr1 (by rfl) D.m D.F.kp D.b .nil pass0 (pa_cons (pv 0) (pa_cons (pe_callB call_len_str (by rfl) T.len PySem.boot_len (pa_cons (pv 4) pa_nil)) pa_nil))))))))
        (pss_one (ps_if (pt_cmpR op_gt (pv 7) (pe_callB call_len_str (by rfl) T.len PySem.boot_len (pa_cons (pv 4) pa_nil)) (nomark _))
          (pss_one (ps_set (i := 8) scWordsB.nd rfl (Or.inr rfl) (pe_imp (t' := tJn) (pe_join pe_str (pe_lc (own := [("_law_j", 9)]) (g := gName 9) (tt := tYes) rfl scWordsB.nd (pi_range1 rfl T.range (pa_cons (pe_op op_add pe_int (pe_call GD hr1 (by rfl) D.m D.F.kp D.b .nil pass0 (pa_cons (pv 0) (pa_cons pe_int pa_nil)))) pa_nil)) (blkOk_by (N := nWordsB) (sc := defScope sWords) (by decide +kernel)) (fun _ _ _ _ _ => pg_name (i := 9) scWordsB.nd rfl (Or.inl rfl)) (fun _ _ _ _ _ => pts_nil) (fun _ _ _ _ _ => pe_ix ix_str (pv 2) (pe_call GD hr1 (by rfl) D.m D.F.kp D.b .nil pass0 (pa_cons (pv 0) (pa_cons pe_int pa_nil))) (fun _ _ => rfl)))) (fun σ H Q h => ?j1))))
          pss_nil)))
        (pss_cons (ps_set (i := 10) scWordsB.nd rfl (Or.inl rfl) (pe_op op_cat (pe_lst (pa_cons (pv 8) pa_nil)) (pe_lc (own := [("_law_letter", 11)]) (g := gName 11) (tt := tYes) rfl scWordsB.nd (pi_str (pv 2)) (blkOk_by (N := nWordsB) (sc := defScope sWords) (by decide +kernel)) (fun _ _ _ _ _ => pg_name (i := 11) scWordsB.nd rfl (Or.inl rfl)) (fun _ _ _ _ _ => pts_nil) (fun _ _ _ _ _ => pe_op op_add_str (pe_slice sl_str (pv 8) po_none (po_some pe_int)) (pv 11)))))
        (pss_one (ps_expr (pe_bm PySem.F.plainAttrs_list PySem.F.slot_list_append PySem.F.type_list_append mt_append (pv 5) (pa_cons (pe_ix ix_list (pe_lc (own := [("_law_one", 12)]) (g := gName 12)  rfl scWordsB.nd (pi_list (pv 10)) (blkOk_by (N := nWordsB) (sc := defScope sWords) (by decide +kernel)) (fun _ _ _ _ _ => pg_name (i := 12) scWordsB.nd rfl (Or.inl rfl)) (fun _ _ _ _ _ => pts_one (PW.pt (pw_and (pt_cmpR (op_notIn_seqK (K' := K) rfl) (pv 12) (pv 5) rfl) (pw_and1 (pt_cmpR (op_notIn_seqK (K' := K) rfl) (pv 12) (pv 3) rfl))))) (fun _ _ _ _ _ => pv 12)) pe_int (fun _ _ => rfl)) pa_nil)))))))))
      (pss_one (ps_ret (pv 5)))))))))), ?_⟩
    case j0 =>
      obtain ⟨p, c, ns, n, a1, a3, a4, a5, a6, a7, a8, a9, a10, a11, a12, rfl, P0, hn, k⟩ := h
      refine ⟨⟨_, rfl⟩, _, rfl, p, c, ns, n, 8, rfl, P0, by omega, by decide, by decide, fun v1 H1 v10 v11 k1 P1 => ?_⟩
      obtain ⟨q1, rfl⟩ : ∃ j : Nat, v1 = (j : Int) := ⟨v1.toNat, (Int.toNat_of_nonneg v10).symm⟩
      refine ⟨_, _, rfl, rfl, ((1 + q1 : Nat) : Int), rfl, by omega, by omega, fun D1 hD1 => ?_⟩
      have hD1H : H D1 = none := k1.fresh P1 hD1
      have hpD := P1.pne hD1
      have hcD := P1.cne hD1
      refine lc_range (lo := 0) (n := 1 + q1) (fun i Hc => ∃ ys : List Nat, Low ys ∧ ys.length = i ∧ Hc D1 = some (.lst ((ys.map fun c => (⟨#[c]⟩ : Str)).map V.str)) ∧ Keep p H Hc ∧ Pen Hc p c ns (n + 1 + i)) ?_ ?_ ?_
      · exact ⟨[], fun _ h => (by cases h), rfl, upd_same, k1.new hD1H, P1.new hD1⟩
      · rintro i Hc hi ⟨ys, hys, hyl, hD, kc, Pc⟩
        refine ⟨rfl, _, rfl, _, rfl, p, c, ns, n + 1 + i, 26, rfl, Pc, by omega, by decide, by decide, fun dv Hd d0 d1 kd Pd => ?_⟩
        obtain ⟨j, rfl⟩ : ∃ j : Nat, dv = (j : Int) := ⟨dv.toNat, (Int.toNat_of_nonneg d0).symm⟩
        have hj : j < 26 := by omega
        refine ⟨_, _, _, rfl, rfl, by decide +kernel, atI_nat (at_letters _ hj), ?_⟩
        refine ⟨_, kd D1 _ hD hpD.symm, ?_, ys ++ [97 + j], ?_, ?_, ?_, ?_, ?_⟩
        · rw [List.length_map, List.length_map, hyl]
          show _ < 16777216
          omega
        · intro d hd
          rcases List.mem_append.mp hd with hd | hd
          · exact hys d hd
          · have : d = 97 + j := by simpa using hd
            omega
        · rw [List.length_append, hyl]
          rfl
        · rw [upd_same, List.map_append, List.map_append]
          rfl
        · exact (kc.trans kd).new hD1H
        · exact Pd.upd' hpD hcD
      · rintro Hj ⟨ys, hys, hyl, hD, kj, Pj⟩
        refine ⟨Str.empty, D1, ys.map fun c => (⟨#[c]⟩ : Str), rfl, rfl, .inl (SqL.of hD), ?_, ?_⟩
        · rw [sum_ones, List.length_map]
          show ys.length + ys.length * 0 ≤ 16777216
          omega
        have hb0 := join_ones ys
        generalize Txt.join Str.empty (ys.map fun c => (⟨#[c]⟩ : Str)) = b0 at hb0
        exact k b0 Hj ⟨by rw [hb0]; exact hys, by rw [hb0]; omega, by rw [hb0]; omega⟩ kj (Pj.mono (by omega))
    case j1 =>
      obtain ⟨p, c, ns, n, a1, a3, a4, a5, a6, a7, a8, a9, a10, a11, a12, rfl, P0, hn, k⟩ := h
      refine ⟨⟨_, rfl⟩, _, rfl, p, c, ns, n, 8, rfl, P0, by omega, by decide, by decide, fun v1 H1 v10 v11 k1 P1 => ?_⟩
      obtain ⟨q1, rfl⟩ : ∃ j : Nat, v1 = (j : Int) := ⟨v1.toNat, (Int.toNat_of_nonneg v10).symm⟩
      refine ⟨_, _, rfl, rfl, ((1 + q1 : Nat) : Int), rfl, by omega, by omega, fun D1 hD1 => ?_⟩
      have hD1H : H D1 = none := k1.fresh P1 hD1
      have hpD := P1.pne hD1
      have hcD := P1.cne hD1
      refine lc_range (lo := 0) (n := 1 + q1) (fun i Hc => ∃ ys : List Nat, Low ys ∧ ys.length = i ∧ Hc D1 = some (.lst ((ys.map fun c => (⟨#[c]⟩ : Str)).map V.str)) ∧ Keep p H Hc ∧ Pen Hc p c ns (n + 1 + i)) ?_ ?_ ?_
      · exact ⟨[], fun _ h => (by cases h), rfl, upd_same, k1.new hD1H, P1.new hD1⟩
      · rintro i Hc hi ⟨ys, hys, hyl, hD, kc, Pc⟩
        refine ⟨rfl, _, rfl, _, rfl, p, c, ns, n + 1 + i, 26, rfl, Pc, by omega, by decide, by decide, fun dv Hd d0 d1 kd Pd => ?_⟩
        obtain ⟨j, rfl⟩ : ∃ j : Nat, dv = (j : Int) := ⟨dv.toNat, (Int.toNat_of_nonneg d0).symm⟩
        have hj : j < 26 := by omega
        refine ⟨_, _, _, rfl, rfl, by decide +kernel, atI_nat (at_letters _ hj), ?_⟩
        refine ⟨_, kd D1 _ hD hpD.symm, ?_, ys ++ [97 + j], ?_, ?_, ?_, ?_, ?_⟩
        · rw [List.length_map, List.length_map, hyl]
          show _ < 16777216
          omega
        · intro d hd
          rcases List.mem_append.mp hd with hd | hd
          · exact hys d hd
          · have : d = 97 + j := by simpa using hd
            omega
        · rw [List.length_append, hyl]
          rfl
        · rw [upd_same, List.map_append, List.map_append]
          rfl
        · exact (kc.trans kd).new hD1H
        · exact Pd.upd' hpD hcD
      · rintro Hj ⟨ys, hys, hyl, hD, kj, Pj⟩
        refine ⟨Str.empty, D1, ys.map fun c => (⟨#[c]⟩ : Str), rfl, rfl, .inl (SqL.of hD), ?_, ?_⟩
        · rw [sum_ones, List.length_map]
          show ys.length + ys.length * 0 ≤ 16777216
          omega
        have hb0 := join_ones ys
        generalize Txt.join Str.empty (ys.map fun c => (⟨#[c]⟩ : Str)) = b0 at hb0
        exact k b0 Hj ⟨by rw [hb0]; exact hys, by rw [hb0]; omega, by rw [hb0]; omega⟩ kj (Pj.mono (by omega))
    -- the words that are barred
    refine ⟨(by show 11 ≤ sizeLine; decide), fun b1 hb1 => ?_⟩
    generalize hx1 : [V.str "pass", .str "raise", .str "from", .str "none", .str "again", .str "return", .str "returns", .str "break", .str "call", .str "handling", .str "else"] = x1 at hb1 ⊢
    have s1 : Same H (upd H b1 (.lst x1)) := (Same.refl H).put hb1
    have e1 : (upd H b1 (.lst x1)) b1 = some (.lst x1) := upd_same
    generalize upd H b1 (.lst x1) = H1 at s1 e1 ⊢
    refine ⟨_, rfl, (by show 11 ≤ sizeLine; decide), fun b2 hb2 => ?_⟩
    generalize hx2 : [V.str "either", .str "or", .str "loop", .str "try", .str "except", .str "as", .str "finally", .str "with", .str "quiet", .str "class", .str "def"] = x2 at hb2 ⊢
    have s2 : Same H1 (upd H1 b2 (.lst x2)) := (Same.refl H1).put hb2
    have e2 : (upd H1 b2 (.lst x2)) b2 = some (.lst x2) := upd_same
    generalize upd H1 b2 (.lst x2) = H2 at s2 e2 ⊢
    refine ⟨b1, b2, _, _, rfl, rfl, s2 _ _ e1, e2, (by rw [← hx1, ← hx2]; show 22 ≤ 16777216; decide), fun b3 hb3 => ?_⟩
    have s3 : Same H2 (upd H2 b3 (.lst (x1 ++ x2))) := (Same.refl H2).put hb3
    have e3 : (upd H2 b3 (.lst (x1 ++ x2))) b3 = some (.lst (x1 ++ x2)) := upd_same
    generalize upd H2 b3 (.lst (x1 ++ x2)) = H3 at s3 e3 ⊢
    refine ⟨_, rfl, (by show 2 ≤ sizeLine; decide), fun b4 hb4 => ?_⟩
    generalize hx3 : [V.str "error", .str "vacant"] = x3 at hb4 ⊢
    have s4 : Same H3 (upd H3 b4 (.lst x3)) := (Same.refl H3).put hb4
    have e4 : (upd H3 b4 (.lst x3)) b4 = some (.lst x3) := upd_same
    generalize upd H3 b4 (.lst x3) = H4 at s4 e4 ⊢
    refine ⟨b3, b4, _, _, rfl, rfl, s4 _ _ e3, e4, (by rw [← hx1, ← hx2, ← hx3]; show 24 ≤ 16777216; decide), fun bl hbl => ?_⟩
    have eb : x1 ++ x2 ++ x3 = barred.map V.str := by rw [← hx1, ← hx2, ← hx3]; rfl
    rw [eb]
    clear hx1 hx2 hx3 eb e1 e2 e3 e4
    have s5 : Same H4 (upd H4 bl (.lst (barred.map V.str))) := (Same.refl H4).put hbl
    have e5 : (upd H4 bl (.lst (barred.map V.str))) bl = some (.lst (barred.map V.str)) := upd_same
    have s05 := (((s1.trans s2).trans s3).trans s4).trans s5
    have nbl : bl ≠ p := ((P0.same (((s1.trans s2).trans s3).trans s4)).pne hbl).symm
    generalize upd H4 bl (.lst (barred.map V.str)) = H5 at s05 e5 ⊢
    have P5 := P0.same s05
    clear s1 s2 s3 s4 s5
    refine ⟨p, c, ns, n, _, _, _, _, _, _, _, _, _, _, _, rfl, P5, by omega, fun b H6 hb k6 P6 => ?_⟩
    have e6 := k6 _ _ e5 nbl
    have lb := len_codes b
    refine ⟨Nat.zero_le _, fun l hl => ?_⟩
    have nl : l ≠ p := (P6.pne hl).symm
    have ncl : c ≠ l := P6.cne hl
    have k06 : Keep p H H6 := s05.keep.trans k6
    have hlH : H l = none := k06.fresh P6 hl
    have nbl2 : bl ≠ l := ne_of_none e6 hl
    refine ⟨_, rfl, _, rfl, by omega, by omega, for_range (lo := 0) (n := m) (fun i σ Hc => ∃ (v6 v7 v8 v9 v10 v11 v12 : Option V) (ws : List Str), σ = [some (.ref p), some (.int m), some (.str lettersS), some (.ref bl), some (.str b), some (.ref l), v6, v7, v8, v9, v10, v11, v12] ∧
      Words ws ∧ ws.length = i ∧ Hc l = some (.lst (ws.map V.str)) ∧ Hc bl = some (.lst (barred.map V.str)) ∧ Keep p H Hc ∧ Pen Hc p c ns (n + 10 + 12 * i)) ?_ ?_ ?_⟩
    · exact ⟨_, _, _, _, _, _, _, [], rfl, words_nil, rfl, upd_same, by rw [upd_ne nbl2]; exact e6, k06.new hlH, (P6.new hl).mono (by omega)⟩
    · rintro i σ Hc hi ⟨v6, v7, v8, v9, v10, v11, v12, ws, rfl, hws, wsl, hL, hB, kc, Pc⟩
      have i20 : i < 20 := by omega
      refine ⟨_, rfl, _, rfl, _, rfl, (by rw [lb]; show _ ≤ 16777216; have := hb.2.2; omega), _, _, rfl, rfl, p, c, ns, _, _, rfl, Pc, by omega, by omega, (by rw [lb]; have := hb.2.2; omega), fun dv H7 d0 d1 k7 P7 => ?_⟩
      obtain ⟨at', rfl⟩ : ∃ j : Nat, dv = (j : Int) := ⟨dv.toNat, (Int.toNat_of_nonneg d0).symm⟩
      have k07 := kc.trans k7
      have bl8 := hb.2.2
      refine ⟨_, rfl, _, rfl, _, rfl, _, rfl, (by rw [lb]; show _ ≤ 16777216; omega), _, rfl, _, rfl, p, c, ns, _, 26, rfl, P7, by omega, by decide, by decide, fun dl H8 l0 l1 k8 P8 => ?_⟩
      obtain ⟨jl, rfl⟩ : ∃ j : Nat, dl = (j : Int) := ⟨dl.toNat, (Int.toNat_of_nonneg l0).symm⟩
      have hjl : jl < 26 := by omega
      have k08 := k07.trans k8
      refine ⟨_, _, _, rfl, rfl, by decide +kernel, atI_nat (at_letters _ hjl), _, _, rfl, rfl, ?len1, _, rfl, _, rfl, _, _, rfl, rfl, _, rfl, _, rfl, (by rw [lb]; show _ ≤ 16777216; omega), _, _, rfl, rfl, ?len2, ?_⟩
      case len1 =>
        rw [len_codes (cutS b none (some (at' : Int))), cut_toA, List.length_take]
        show _ + 1 ≤ 16777216
        omega
      case len2 =>
        rw [len_codes (cutS b none (some (at' : Int)) ++ _), codes_append, cut_toA, show ((at' : Int) + 1) = ((at' + 1 : Nat) : Int) from rfl, len_codes (cutS b _ none), cut_fromA, List.length_append, List.length_take, List.length_drop]
        show _ + 1 + _ ≤ 16777216
        omega
      have hW : codes (cutS b none (some (at' : Int)) ++ (⟨#[97 + jl]⟩ : Str) ++ cutS b (some ((at' : Int) + 1)) none) = (codes b).take at' ++ [97 + jl] ++ (codes b).drop (at' + 1) := by
        rw [codes_append, codes_append, cut_toA, show ((at' : Int) + 1) = ((at' + 1 : Nat) : Int) from rfl, cut_fromA]
        rfl
      generalize cutS b none (some (at' : Int)) ++ (⟨#[97 + jl]⟩ : Str) ++ cutS b (some ((at' : Int) + 1)) none = W at hW ⊢
      refine ⟨_, rfl, _, rfl, _, rfl, (by rw [lb]; show _ ≤ 16777216; omega), rfl, _, rfl, ite2 (fun z => ?ca) (fun z => ?cb)⟩
      case' ca =>
        refine ⟨_, rfl, _, rfl, _, rfl, _, rfl, (by rw [lb]; show _ ≤ 16777216; omega), p, c, ns, _, _, rfl, P8, by omega, (by rw [lb]; have := hb.2.1; omega), (by rw [lb]; omega), fun dk H9 q0 q1 k9 P9 => ?_⟩
        obtain ⟨dn, rfl⟩ : ∃ j : Nat, dk = (j : Int) := ⟨dk.toNat, (Int.toNat_of_nonneg q0).symm⟩
        have k09 := k08.trans k9
        have k79 := (k7.trans k8).trans k9
        have hx : LowT (cutS b none (some (1 + (dn : Int)))) := by
          unfold LowT
          rw [show (1 + (dn : Int)) = ((1 + dn : Nat) : Int) from rfl, cut_toA, List.length_take]
          refine ⟨fun d hd => hb.1 d (List.mem_of_mem_take hd), ?_, by omega⟩
          have := hb.2.1
          omega
        refine ⟨_, _, rfl, rfl, _, rfl, _, rfl, (by rw [lb]; show _ ≤ 16777216; omega), ?_⟩
        generalize cutS b none (some (1 + (dn : Int))) = x at hx ⊢
        replace P9 := P9.mono (m := n + 10 + 12 * i + 11) (by omega)
      case' cb =>
        have ne : at' ≠ (codes b).length := fun e => z (by rw [e, ← lb]; exact decide_eq_true rfl)
        refine ⟨_, rfl, _, rfl, _, rfl, (by rw [lb]; show _ ≤ 16777216; omega), _, _, rfl, rfl, _, rfl, ite2 (fun z2 => ?cc) (fun z2 => ?cd)⟩
      case' cc =>
        refine ⟨p, c, ns, _, _, _, _, _, _, _, _, _, _, _, _, rfl, P8, by omega, fun x H9 hx k9 P9 => ?_⟩
        have k09 := k08.trans k9
        have k79 := (k7.trans k8).trans k9
        replace P9 := P9.mono (m := n + 10 + 12 * i + 11) (by omega)
      case' cd =>
        have lt : at' < (codes b).length := by
          have : ¬ ((at' : Int) > (b.length : Int)) := fun q => z2 (decide_eq_true q)
          rw [lb] at this
          omega
        have hx : LowT W := by
          unfold LowT
          rw [hW]
          refine ⟨fun d hd => ?_, ?_, ?_⟩
          · rcases List.mem_append.mp hd with hd | hd
            · rcases List.mem_append.mp hd with hd | hd
              · exact hb.1 d (List.mem_of_mem_take hd)
              · rw [List.mem_singleton.mp hd]; omega
            · exact hb.1 d (List.mem_of_mem_drop hd)
          · rw [List.length_append, List.length_append]; show 1 ≤ _ + 1 + _; omega
          · rw [List.length_append, List.length_append, List.length_take, List.length_drop]; show _ + 1 + _ ≤ 8; omega
        have k09 := k08
        have k79 := k7.trans k8
        clear hW
        generalize W = x at hx ⊢
        generalize H8 = H9 at P8 k09 k79 ⊢
        have P9 := P8.mono (m := n + 10 + 12 * i + 11) (by omega)
      all_goals
        have hL9 := k79 _ _ hL nl
        have hB9 := k79 _ _ hB nbl
        have lx := len_codes x
        have lx8 := hx.2.2
        refine ⟨_, rfl, (by show 1 ≤ sizeLine; decide), fun l1 hl1 => ?_⟩
        have s1 : Same H9 (upd H9 l1 (.lst [V.str x])) := (Same.refl H9).put hl1
        have e1 : (upd H9 l1 (.lst [V.str x])) l1 = some (.lst [V.str x]) := upd_same
        generalize upd H9 l1 (.lst [V.str x]) = Ha at s1 e1 ⊢
        refine ⟨_, rfl, _, rfl, fun D1 hD1 => ?_⟩
        have eqc : ∀ ch : Nat, V.str (cutS x none (some 7) ++ ⟨#[ch]⟩) = V.str (txt ((codes x).take 7 ++ [ch])) := fun ch => congrArg V.str (codes_inj (by rw [codes_append, show (7 : Int) = ((7 : Nat) : Int) from rfl, cut_toA, codes_txt]; rfl))
        refine lc_it walk_str (fun j Hc => Hc D1 = some (.lst (((codes lettersS).take j).map fun ch => V.str (txt ((codes x).take 7 ++ [ch])))) ∧ Same Ha Hc) ?_ (fun _ _ _ _ => trivial) ?_ ?_
        · exact ⟨upd_same, (Same.refl Ha).put hD1⟩
        · rintro j y Hc _ hj ⟨g1, sm⟩ ⟨rfl, ch, hch, rfl⟩
          have hch' : (codes lettersS)[j]? = some ch := by
            unfold codes
            rw [Array.getElem?_toList]
            exact hch
          have et : (codes lettersS).take (j + 1) = (codes lettersS).take j ++ [ch] := by rw [List.take_add_one, hch']; rfl
          refine ⟨rfl, _, rfl, 7, rfl, _, rfl, (by rw [lx]; show _ ≤ 16777216; omega), _, rfl, _, _, rfl, rfl, ?_, _, g1, ?_, ?_, sm.put hD1⟩
          · rw [len_codes (cutS x none (some 7)), show (7 : Int) = ((7 : Nat) : Int) from rfl, cut_toA, List.length_take]
            show _ + 1 ≤ 16777216
            omega
          · rw [List.length_map, List.length_take, letters_len]
            show _ < 16777216
            omega
          · rw [upd_same, et, List.map_append, eqc]
            rfl
        rintro Hb ⟨g1, s2⟩
        have el : (lettersS).cps.size = (codes lettersS).length := by unfold codes; rw [Array.length_toList]
        rw [el, List.take_length] at g1
        refine ⟨l1, D1, _, _, rfl, rfl, s2 _ _ e1, g1, (by rw [List.length_map, letters_len]; show 1 + 26 ≤ 16777216; decide), fun so hso => ?_⟩
        have ec : [V.str x] ++ ((codes lettersS).map fun ch => V.str (txt ((codes x).take 7 ++ [ch]))) = (cands x).map V.str := by
          unfold cands
          rw [List.map_cons, List.map_map]
          rfl
        rw [ec]
        have s3 : Same Hb (upd Hb so (.lst ((cands x).map V.str))) := (Same.refl Hb).put hso
        have e3 : (upd Hb so (.lst ((cands x).map V.str))) so = some (.lst ((cands x).map V.str)) := upd_same
        generalize upd Hb so (.lst ((cands x).map V.str)) = Hd at s3 e3 ⊢
        have s93 := (s1.trans s2).trans s3
        have hLd := s93 _ _ hL9
        have hBd := s93 _ _ hB9
        have Pd := P9.same s93
        refine ⟨_, rfl, .inl ⟨rfl, _, SqL.of hLd⟩, _, rfl, so, rfl, ⟨_, SqL.of e3⟩, fun D2 hD2 => ?_⟩
        have nD2 : D2 ≠ l := (ne_of_none hLd hD2).symm
        refine lc_list (K := K) (a := so) (xs := (cands x).map V.str) (fun j Hc => Hc D2 = some (.lst ((((cands x).take j).filter fun y => !decide (y ∈ ws) && !decide (y ∈ barred)).map V.str)) ∧ Same Hd Hc) ?_ ?_ ?_ ?_
        · exact ⟨upd_same, (Same.refl Hd).put hD2⟩
        · rintro j Hc _ ⟨_, sd⟩
          exact SqL.of (sd _ _ e3)
        · rintro j y Hc hy ⟨g2, sd⟩
          rw [List.getElem?_map] at hy
          obtain ⟨y0, hy0, rfl⟩ : ∃ y0, (cands x)[j]? = some y0 ∧ y = .str y0 := by
            cases h : (cands x)[j]? with
            | none => rw [h] at hy; cases hy
            | some y0 => rw [h] at hy; exact ⟨y0, rfl, (Option.some.inj hy).symm⟩
          have et : (cands x).take (j + 1) = (cands x).take j ++ [y0] := by rw [List.take_add_one, hy0]; rfl
          have sz : ((((cands x).take j).filter fun y => !decide (y ∈ ws) && !decide (y ∈ barred)).map V.str).length < 16777216 := by
            rw [List.length_map]
            have h1 := List.length_filter_le (fun y => !decide (y ∈ ws) && !decide (y ∈ barred)) ((cands x).take j)
            have h2 : ((cands x).take j).length ≤ 27 := by
              rw [List.length_take]
              have : (cands x).length = 27 := by unfold cands; rw [List.length_cons, List.length_map, letters_len]
              omega
            omega
          refine ⟨rfl, _, rfl, _, rfl, l, _, rfl, .inl (SqL.of (sd _ _ hLd)), rfl, flat_strs _, _, rfl, ?_⟩
          rw [if_pos rfl, inV_strs]
          by_cases h1 : y0 ∈ ws
          · rw [decide_eq_true h1]
            refine iteF ⟨?_, sd⟩
            rw [et, List.filter_append, List.filter_cons_of_neg (by simp [h1]), List.filter_nil, List.append_nil]
            exact g2
          · rw [decide_eq_false h1]
            refine iteT ⟨_, rfl, _, rfl, bl, _, rfl, .inl (SqL.of (sd _ _ hBd)), rfl, flat_strs _, _, rfl, ?_⟩
            rw [if_pos rfl, inV_strs]
            by_cases h2 : y0 ∈ barred
            · rw [decide_eq_true h2]
              refine iteF ⟨?_, sd⟩
              rw [et, List.filter_append, List.filter_cons_of_neg (by simp [h2]), List.filter_nil, List.append_nil]
              exact g2
            · rw [decide_eq_false h2]
              refine iteT ⟨_, rfl, _, g2, sz, ?_, sd.put hD2⟩
              rw [upd_same, et, List.filter_append, List.filter_cons_of_pos (by simp [h1, h2]), List.filter_nil, List.map_append]
              rfl
        rintro He ⟨g2, sd⟩
        rw [List.length_map, List.take_length] at g2
        obtain ⟨y, hy, f1, f2⟩ := cand_free x (found := ws) (by omega)
        obtain ⟨y0, r0, er⟩ : ∃ y0 r0, (cands x).filter (fun y => !decide (y ∈ ws) && !decide (y ∈ barred)) = y0 :: r0 := by
          cases h : (cands x).filter (fun y => !decide (y ∈ ws) && !decide (y ∈ barred)) with
          | nil =>
            rw [List.filter_eq_nil_iff] at h
            exact absurd (by simp [f1, f2]) (h y hy)
          | cons y0 r0 => exact ⟨y0, r0, rfl⟩
        have hm0 : y0 ∈ (cands x).filter (fun y => !decide (y ∈ ws) && !decide (y ∈ barred)) := by rw [er]; exact List.mem_cons_self
        obtain ⟨hc0, hq0⟩ := List.mem_filter.mp hm0
        have hq0 : y0 ∉ ws ∧ y0 ∉ barred := by simpa using hq0
        rw [er] at g2
        refine ⟨D2, _, _, _, rfl, rfl, SqL.of g2, atI_nat (j := 0) rfl, l, _, _, rfl, rfl, sd _ _ hLd, (by rw [List.length_map, wsl]; show _ < 16777216; omega), ?_⟩
        refine ⟨_, _, _, _, _, _, _, ws ++ [y0], rfl, words_snoc hws (cand_low hx hc0) hq0.1 hq0.2, by rw [List.length_append, wsl]; rfl, by rw [upd_same, List.map_append]; rfl, ?_, fun b' o' hb' nb' => ?_, ((Pd.same sd).upd' nl.symm ncl).mono (by omega)⟩
        · rw [upd_ne nbl2]
          exact sd _ _ hBd
        · rw [upd_ne (ne_of_none hb' hlH)]
          exact (k09.trans (s93.trans sd).keep) b' o' hb' nb'
    · rintro σ Hc ⟨v6, v7, v8, v9, v10, v11, v12, ws, rfl, hws, wsl, hL, hB, kc, Pc⟩
      exact ⟨_, rfl, k l ws Hc hws wsl hL nl kc (Pc.mono (by omega))⟩
end
end K2
end
section
set_option Elab.async false
set_option maxRecDepth 100000
set_option linter.all false
/-! sets of acts: their making -/
namespace K2
open PySem L2 LfX PySem.Spec PyProof.Rows
abbrev sIn : Stmt := inClass (top 13) 0
abbrev nIn : List Str := ["self", "rows", "k", "row"]
/-- an act of right words -/
structure ActW (a : LfX.Act) : Prop where
  cb : VW a.cb
  hd : ∀ x, a.hd = some x → VW x
  out : VW a.out ∨ a.out = "returns"
theorem low_strOk {x : Str} (h : Low (codes x)) : PyData.strOk x = true := by
  unfold PyData.strOk
  rw [Array.all_eq_true']
  intro c hc
  have := h c (by unfold codes; exact Array.mem_toList_iff.mpr hc)
  exact decide_eq_true (by omega)
theorem vw_len {x : Str} (h : VW x) : x.length ≤ 8 := by rw [len_codes]; exact h.le
theorem vw_pos {x : Str} (h : VW x) : 0 < x.length := by
  rw [len_codes]
  exact List.length_pos_iff.mpr h.ne
theorem vw_ne {x : Str} (h : VW x) : x ≠ Str.empty := fun e => by
  have := vw_pos h
  rw [e] at this
  exact absurd this (by decide)
theorem ActW.ok {a : LfX.Act} (h : ActW a) : ActOk a := by
  obtain ⟨cb, hd, out⟩ := a
  refine ActOk.mk' (low_strOk h.cb.low) (fun x e => low_strOk (h.hd x e).low) ?_
  rcases h.out with h | h
  · exact low_strOk h.low
  · have h : out = "returns" := h
    rw [h]
    decide +kernel
theorem ActW.isA {a : LfX.Act} (h : ActW a) : isActB a = true := by
  obtain ⟨cb, hd, out⟩ := a
  unfold isActB
  have h1 := vw_isW h.cb
  have h3 : (isW out || decide (out = "returns")) = true := by
    rcases h.out with q | q
    · rw [vw_isW q]; rfl
    · have q : out = "returns" := q
      simp [q]
  have h1 : isW cb = true := h1
  cases hd with
  | none => simp [h1, h3]
  | some x => simp [h1, h3, vw_isW (h.hd x rfl)]
theorem ActW.sz {a : LfX.Act} (h : ActW a) : ActSz a := by
  have e : (8 : Nat) ≤ sizeLine := by decide
  refine ⟨Nat.le_trans (vw_len h.cb) e, fun x hx => Nat.le_trans (vw_len (h.hd x hx)) e, ?_⟩
  rcases h.out with q | q
  · exact Nat.le_trans (vw_len q) e
  · rw [q]; decide +kernel
theorem ActW.hdw {a : LfX.Act} (h : ActW a) : HdW a := fun x hx => ⟨vw_pos (h.hd x hx), Nat.le_trans (vw_len (h.hd x hx)) (by decide)⟩
theorem ActW.hdok {a : LfX.Act} (h : ActW a) : HdOk a := fun e => vw_ne (h.hd _ e) rfl
theorem ActW.one {a : LfX.Act} (h : ActW a) : a.out ≠ Str.empty := by
  rcases h.out with q | q
  · exact vw_ne q
  · rw [q]; decide +kernel
abbrev AllW (as : List LfX.Act) : Prop := ∀ a ∈ as, ActW a
/-- the objects -/
def fldA (d r : Addr) : List (Str × V) := putF "rows" (.ref r) (putF "_known" (.ref d) [])
theorem nkr_ : ¬ (("_known" : Str) = "rows") := by decide +kernel
theorem fldA_known (d r : Addr) : (fldA d r).lookup ("_known" : Str) = some (.ref d) := by
  unfold fldA
  rw [lookup_putF, if_neg nkr_, lookup_putF, if_pos rfl]
theorem fldA_rows (d r : Addr) : (fldA d r).lookup ("rows" : Str) = some (.ref r) := by
  unfold fldA
  rw [lookup_putF, if_pos rfl]
theorem fldA_no (d r : Addr) {f : Str} (h1 : ¬ f = "rows") (h2 : ¬ f = "_known") : (fldA d r).lookup f = none := by
  unfold fldA
  rw [lookup_putF, if_neg h1, lookup_putF, if_neg h2]
  rfl
structure TxA (K : PySem.W.Frag) (mg : Str → Option Value) (C : Addr) : Prop where
  cl : Cls K C
  nR : NoAttr K C "rows"
  nK : NoAttr K C "_known"
  mgC : mg "Acts" = some (.ref C)
/-- a set of acts stands at p -/
def AcW (P : Program) (w : World) (C : Addr) (H : Hp) (p : Addr) (as : List LfX.Act) : Prop := ∃ (dx d r : Addr) (xs : List LEnt) (qs : List Addr), H p = some (.ins C dx (fldA d r)) ∧ LDict P w H d xs ∧ (∀ a, actL a ∈ xs.map (·.1) ↔ a ∈ as) ∧ H r = some (.tup (qs.map V.ref)) ∧ ActsAt H qs as
theorem AcW.same {P : Program} {w : World} {C p : Addr} {H H' : Hp} {as : List LfX.Act} (h : AcW P w C H p as) (s : Same H H') : AcW P w C H' p as := by
  obtain ⟨dx, d, r, xs, qs, h1, h2, h3, h4, h5⟩ := h
  exact ⟨dx, d, r, xs, qs, s _ _ h1, h2.mono s, h3, s _ _ h4, h5.mono fun b xs e => s b _ e⟩
theorem AcW.ins {P : Program} {w : World} {C p : Addr} {H : Hp} {as : List LfX.Act} (h : AcW P w C H p as) : ∃ dx fs, H p = some (.ins C dx fs) ∧ ∀ m : Str, ¬ m = "rows" → ¬ m = "_known" → fs.lookup m = none := by
  obtain ⟨dx, d, r, xs, qs, h1, _⟩ := h
  exact ⟨dx, _, h1, fun m a b => fldA_no d r a b⟩
def spIn (P : Program) (w : World) (C : Addr) : Sp := fun vs H Q _ => ∃ (p dx rt : Addr) (ts : List Addr) (as : List LfX.Act), vs = [.ref p, .ref rt] ∧ H p = some (.ins C dx []) ∧ H rt = some (.tup (ts.map V.ref)) ∧ ActsAt H ts as ∧ AllW as ∧ as.length ≤ 1000 ∧
  ∀ (H' : Hp), AcW P w C H' p (lawSort as) → (∀ b o, H b = some o → b ≠ p → H' b = some o) → Q .non H'
theorem in_bind (kV doc pm : Value) (an : Option Addr) (cdv ct : Value) : ∀ us rest : List Value, us.length = ["self"].length → bindArgs (PySem.W.fnOf "__init__" "Acts.__init__" (defArgs sIn) (defBody sIn) (defScope sIn) .none kV doc pm an cdv ct) ⟨us ++ rest, []⟩ = (newTuple rest >>= fun t => pure (([("self" : Str)]).zip us ++ [(("rows" : Str), t)])) :=
  StX.bind_star1 (B := fun l => bindArgs (PySem.W.fnOf "__init__" "Acts.__init__" (defArgs sIn) (defBody sIn) (defScope sIn) .none kV doc pm an cdv ct) ⟨l, []⟩) (fun a => rfl) (fun a r rs => rfl)
/-- the keys of the dict as acts, each once -/
def Keys (xs : List LEnt) (bs : List LfX.Act) : Prop := xs.map (·.1) = bs.map actL ∧ bs.Nodup
theorem Keys.mem {xs : List LEnt} {bs : List LfX.Act} (h : Keys xs bs) (a : LfX.Act) : actL a ∈ xs.map (·.1) ↔ a ∈ bs := by
  rw [h.1, List.mem_map]
  exact ⟨fun ⟨b, hb, e⟩ => actL_inj e ▸ hb, fun hb => ⟨a, hb, rfl⟩⟩
theorem Keys.acts {P : Program} {w : World} {H : Hp} {d : Addr} {xs : List LEnt} {bs : List LfX.Act} (h : Keys xs bs) (D : LDict P w H d xs) : ActsAt H (xs.map (·.2.1)) bs := by
  refine ⟨by rw [List.length_map]; have := congrArg List.length h.1; simpa using this, fun j q a h1 h2 => ?_⟩
  rw [List.getElem?_map] at h1
  cases hx : xs[j]? with
  | none => rw [hx] at h1; cases h1
  | some x =>
    rw [hx] at h1
    cases h1
    have e : (xs.map (·.1))[j]? = (bs.map actL)[j]? := by rw [h.1]
    rw [List.getElem?_map, List.getElem?_map, hx, h2] at e
    have e : x.1 = actL a := Option.some.inj e
    have := D.keys x (List.mem_of_getElem? hx)
    rw [e, act_leaves] at this
    exact this
theorem ldict_upd {P : Program} {w : World} {H : Hp} {d p C dx : Addr} {xs : List LEnt} {fs : List (Str × V)} {o : HO} (D : LDict P w H d xs) (hp : H p = some (.ins C dx fs)) : LDict P w (upd H p o) d xs := by
  have nt : ∀ b ys, H b = some (.tup ys) → b ≠ p := fun b ys e => ne_of e hp (by intro z; cases z)
  exact ⟨by rw [upd_ne (ne_of D.at_ hp (by unfold LfO; intro z; cases z))]; exact D.at_, fun x hx => by rw [upd_ne (nt _ _ (D.keys x hx))]; exact D.keys x hx, D.sys, D.le⟩
theorem lawSort_mem (as : List LfX.Act) (a : LfX.Act) : a ∈ lawSort as ↔ a ∈ as :=
  ((lawSort_ok as [] .nil List.nodup_nil).2.2 a).trans ⟨fun q => q.elim (fun z => absurd z (by simp)) id, .inr⟩
theorem lawSort_len (as : List LfX.Act) : (lawSort as).length ≤ as.length :=
  ((lawSort_ok as [] .nil List.nodup_nil).2.1).length_le_of_subset fun a ha => (lawSort_mem as a).mp ha
section
variable {P : Program} {w : World} {K : PySem.W.Frag} {mg : Str → Option Value} {base : Heap}
theorem scIn : FnScope nIn ["self", "rows"] (defScope sIn) := ⟨rfl, rfl, rfl, by decide +kernel, rfl, by decide +kernel, by decide +kernel⟩
theorem ok_in {f C fIA fAO : Addr} {fd fdIA fdAO : FuncData} (F : Fun K "__init__" "Acts.__init__" sIn f fd) (Y : TxA K mg C) (T : Bi mg) (mSo : mg "sorted" = none) (IA : Df K mg "is_act" sIA fIA fdIA ["x"]) (GIA : FnOk P w K mg base CX0 2 fIA fdIA ["x"] spIA)
    (AO : Df K mg "act_order" sAO fAO fdAO ["act"]) (GAO : FnOk P w K mg base CX0 1 fAO fdAO ["act"] spAO) :
    FnR P w K mg base CX0 4 f (fun vs H Q E => ∃ ws rest, vs = ws ++ rest ∧ ws.length = 1 ∧ rest.length ≤ sizeLine ∧ ∀ p, H p = none → spIn P w C (ws ++ [V.ref p]) (upd H p (.tup rest)) Q E) := by
  obtain ⟨oc, od, kV, doc, pm, an, cdv, ct, osl, rfl, lk, hcd⟩ := F.ex
  refine StX.fn_star (ps := ["self"]) (pv := "rows") lk hcd scIn StX.cxUp_none (in_bind kV doc pm an cdv ct) fun A outer s H vs Q E hr h => ?_
  obtain ⟨p, dx, rt, ts, as, rfl, hp, ht, R, aw, h1000, k⟩ := h
  have hr3 : Room 3 _ := hr
  have hr2 : Room 2 _ := hr.mono (by decide)
  have hu := hu_of hr
  have hu0 := Nat.lt_of_succ_lt hu
  suffices hs : ∃ t, PSs (cxOf CX0 P w K mg base nIn "Acts.__init__" (defScope sIn) f cdv A outer s H E).nox (defBody sIn) t ∧ t { nx := fun _ H' => Q .non H', rt := Q } (start nIn [V.ref p, V.ref rt]) H by
    obtain ⟨t, h1, h2⟩ := hs
    exact ⟨t, h1.nox, h2⟩
  refine ⟨_, (pss_cons (ps_for PassesOwn.never rfl (pi_enumT (by rfl) T.enumerate (pa_cons (pv 1) pa_nil)) (pg_tup rfl (pgs_cons (pg_name (i := 2) scIn.nd rfl (Or.inl rfl)) (pgs_cons (pg_name (i := 3) scIn.nd rfl (Or.inl rfl)) pgs_nil)))
(pss_one (ps_if (pt_not (pt_val (pe_call GIA hr2 (by rfl) IA.m IA.F.kp IA.b .nil pass0 (pa_cons (pv 3) pa_nil))))
        (pss_one (ps_never))
        pss_nil)))
      (pss_cons (ps_fld (pv 0) (pe_dcL (own := [("row", 3)]) (g := gName 3) (tt := tYes) hu0 rfl scIn.nd (pi_tup (pv 1)) (blkOk_by (N := nIn) (sc := defScope sIn) (by decide +kernel)) (fun _ _ _ _ _ => pg_name (i := 3) scIn.nd rfl (Or.inl rfl)) (fun _ _ _ _ _ => pts_nil) (fun _ _ _ _ _ => pv 3) (fun _ _ _ _ _ => pe_bl)) rfl)
      (pss_one (ps_fld (pv 0) (pe_callTy call_tuple_of (by rfl) T.tuple (by decide +kernel) (pa_cons (pe_callBK (cr_sortedF GAO hr3 AO.b) (by rfl) mSo (by decide +kernel) (pa_cons (pe_callTy (call_list_L rfl) (by rfl) T.list (by decide +kernel) (pa_cons (pe_fld (pv 0) rfl) pa_nil)) pa_nil) (pk_cons (pe_glob (v := .ref fAO) rfl AO.m rfl) pk_nil)) pa_nil)) rfl)))), ?_⟩
  have tl : (ts.map V.ref).length = as.length := by rw [List.length_map, R.1]
  refine ⟨_, rfl, rt, _, rfl, ht, for_it (walk_enumT rt (ts.map V.ref)) (fun i σ Hc => ∃ (v3 v4 : Option V), σ = [some (.ref p), some (.ref rt), v3, v4] ∧ Same H Hc) ?_ ?_ ?_ ?_⟩
  · exact ⟨_, _, rfl, Same.refl H⟩
  · rintro i σ Hc _ ⟨v3, v4, rfl, sm⟩
    exact sm rt _ ht
  · rintro i y σ Hc Hy hi ⟨v3, v4, rfl, sm⟩ ⟨T9, x, rfl, hT9, rfl, hx⟩
    rw [tl] at hi
    have hti : ts[i]? = some (ts[i]'(by rw [R.1]; exact hi)) := List.getElem?_eq_getElem _
    rw [List.getElem?_map, hti] at hx
    generalize ts[i]'(by rw [R.1]; exact hi) = t at hti hx
    cases hx
    have hai : as[i]? = some as[i] := List.getElem?_eq_getElem hi
    have hta := sm _ _ (R.2 i t _ hti hai)
    have wa := aw _ (List.mem_of_getElem? hai)
    generalize as[i] = a at hai hta wa
    have s9 : Same Hc (upd Hc T9 (.tup [V.int (i : Nat), V.ref t])) := (Same.refl Hc).put hT9
    refine ⟨T9, _, rfl, SqT.of upd_same, rfl, _, _, rfl, _, _, rfl, rfl, ?_⟩
    refine ⟨_, rfl, t, a, rfl, s9 _ _ hta, wa.sz, ?_⟩
    rw [wa.isA]
    refine ⟨true, rfl, ?_⟩
    refine iteF ?_
    exact ⟨_, _, rfl, sm.trans s9⟩
  · rintro σ Hc ⟨v3, v4, rfl, sm⟩
    have hpc := sm p _ hp
    refine ⟨_, rfl, rt, rfl, ⟨_, SqT.of (sm rt _ ht)⟩, fun D hD hsys => ?_⟩
    have hDp : D ≠ p := (ne_of_none hpc hD).symm
    refine dcL_tup (ys := ts.map V.ref) (Pv := fun i Hc' => ∃ (xs : List LEnt) (bs : List LfX.Act), LDict P w Hc' D xs ∧ Keys xs bs ∧ (∀ y, y ∈ bs ↔ y ∈ as.take i) ∧ bs.length ≤ i ∧ Same Hc Hc') ?_ ?_ ?_ ?_
    · refine ⟨[], [], ⟨upd_same, fun x hx => by simp at hx, hsys, Nat.zero_le _⟩, ⟨rfl, List.nodup_nil⟩, fun y => by simp, Nat.zero_le _, (Same.refl Hc).put hD⟩
    · rintro i Hc' _ ⟨xs, bs, _, _, _, _, s2⟩
      exact SqT.of (s2 _ _ (sm rt _ ht))
    · rintro i x Hc' hx ⟨xs, bs, LD, KB, hm, hbl, s2⟩
      have hi : i < as.length := by
        have := (List.getElem?_eq_some_iff.mp hx).1
        rw [tl] at this
        exact this
      have hti : ts[i]? = some (ts[i]'(by rw [R.1]; exact hi)) := List.getElem?_eq_getElem _
      rw [List.getElem?_map, hti] at hx
      generalize ts[i]'(by rw [R.1]; exact hi) = t at hti hx
      cases hx
      have hai : as[i]? = some as[i] := List.getElem?_eq_getElem hi
      have hta := s2 _ _ (sm _ _ (R.2 i t _ hti hai))
      have et : as.take (i + 1) = as.take i ++ [as[i]] := by rw [List.take_add_one, hai]; rfl
      generalize as[i] = a at hai hta et
      have xl : xs.length = bs.length := by have := congrArg List.length KB.1; simpa using this
      have hz : xs.length < sizeLine := by rw [xl]; show _ < 16777216; omega
      rw [← act_leaves] at hta
      refine ⟨rfl, ?_⟩
      refine ⟨_, rfl, t, actL a, xs, rfl, hta, LD, hz, fun r hr0 => ?_⟩
      by_cases hin : a ∈ bs
      · obtain ⟨e1, LD2⟩ := LD.again (q := t) (r := r) ((KB.mem a).mpr hin)
        refine ⟨_, bs, LD2, ⟨e1.trans KB.1, KB.2⟩, fun y => ?_, by omega, s2.put hD⟩
        rw [et, List.mem_append, List.mem_singleton, ← hm y]
        exact ⟨.inl, fun q => q.elim id fun e => e ▸ hin⟩
      · obtain ⟨e1, LD2⟩ := LD.stored (q := t) (r := r) hta hz fun q => hin ((KB.mem a).mp q)
        rw [e1]
        refine ⟨_, bs ++ [a], LD2, ⟨by rw [List.map_append, List.map_append, KB.1]; rfl, List.nodup_append.mpr ⟨KB.2, by simp, fun x hx y hy e => ?_⟩⟩, fun y => ?_, by rw [List.length_append]; show _ + 1 ≤ _; omega, s2.put hD⟩
        · rw [List.mem_singleton.mp hy] at e
          exact hin (e ▸ hx)
        · rw [et, List.mem_append, List.mem_append, ← hm y]
    rintro H2 ⟨xs, bs, LD, KB, hm, hbl, s2⟩
    rw [tl, List.take_length] at hm
    rw [tl] at hbl
    refine ⟨_, rfl, p, C, dx, _, rfl, s2 _ _ hpc, Y.cl, Y.nK, (by show 0 < 1000; decide), ?_⟩
    have LD3 := ldict_upd (o := .ins C dx (putF "_known" (.ref D) [])) LD (s2 _ _ hpc)
    have hp3 : (upd H2 p (.ins C dx (putF "_known" (.ref D) []))) p = some (.ins C dx (putF "_known" (.ref D) [])) := upd_same
    have k3 : ∀ b o, H b = some o → b ≠ p → (upd H2 p (.ins C dx (putF "_known" (.ref D) []))) b = some o := fun b o e n => by rw [upd_ne n]; exact s2 _ _ (sm _ _ e)
    generalize upd H2 p (.ins C dx (putF "_known" (.ref D) [])) = H3 at LD3 hp3 k3 ⊢
    have xl : xs.length = bs.length := by have := congrArg List.length KB.1; simpa using this
    have AT := KB.acts LD3
    have wb : AllW bs := fun a ha => aw a ((hm a).mp ha)
    have el : (xs.map fun x => V.ref x.2.1) = (xs.map (·.2.1)).map V.ref := by rw [List.map_map]; rfl
    refine ⟨_, rfl, p, C, dx, _, _, rfl, hp3, Y.cl, Y.nK, by rw [lookup_putF, if_pos rfl], D, xs, rfl, LD3, fun l hl => ?_⟩
    rw [el]
    have s4 : Same H3 (upd H3 l (.lst ((xs.map (·.2.1)).map V.ref))) := (Same.refl H3).put hl
    have e4 : (upd H3 l (.lst ((xs.map (·.2.1)).map V.ref))) l = some (.lst ((xs.map (·.2.1)).map V.ref)) := upd_same
    generalize upd H3 l (.lst ((xs.map (·.2.1)).map V.ref)) = H4 at s4 e4 ⊢
    have AT4 := AT.mono fun b ys e => s4 _ _ e
    generalize xs.map (·.2.1) = qs at AT4 e4 ⊢
    have ql : qs.length = bs.length := AT4.1
    refine ⟨l, qs.map V.ref, bs.map actKey, rfl, rfl, SqL.of e4, by rw [List.length_map, List.length_map, ql], acts_alike bs, acts_sortable bs, acts_depth bs, fun i v d hv hd H5 s5 => ?_, fun pl H5 s5 npl hpl => ?_⟩
    · rw [List.getElem?_map] at hv hd
      cases hq : qs[i]? with
      | none => rw [hq] at hv; cases hv
      | some q =>
        cases hb : bs[i]? with
        | none => rw [hb] at hd; cases hd
        | some a =>
          rw [hq] at hv
          rw [hb] at hd
          cases hv
          cases hd
          have hqa := s5 _ _ (AT4.2 i q a hq hb)
          have wa := wb a (List.mem_of_getElem? hb)
          refine ⟨q, a, rfl, hqa, wa.hdw, fun r hr0 => ⟨fun b o e => by rw [upd_ne (ne_of_none e hr0)]; exact e, ⟨r, rfl⟩, fun H6 t6 => ?_⟩⟩
          refine .tup (.inl (.inl (t6 _ _ upd_same))) (.cons (.str _) (.cons (.str _) (.cons ?_ (.cons (.str _) .nil))))
          exact .bl _
    · obtain ⟨qs', eq', AT5⟩ := sorted_acts (AT4.mono fun b ys e => s5 b _ e)
      rw [eq'] at hpl
      refine ⟨pl, _, rfl, .inl ⟨SqL.of hpl, fun r hr0 => ?_⟩⟩
      have hp5 := s5 _ _ (s4 _ _ hp3)
      have nr : p ≠ r := ne_of_none hp5 hr0
      refine ⟨_, rfl, p, C, dx, _, rfl, by rw [upd_ne nr]; exact hp5, Y.cl, Y.nR, (by show 1 < 1000; decide), ?_⟩
      have LD5 := (LD3.mono s4).mono s5
      have sr : Same H5 (upd H5 r (.tup (qs'.map V.ref))) := (Same.refl H5).put hr0
      have hp6 := sr _ _ hp5
      have LD6 := ldict_upd (o := .ins C dx (fldA D r)) (LD5.mono sr) hp6
      have nt : ∀ b ys, (upd H5 r (.tup (qs'.map V.ref))) b = some (.tup ys) → (upd (upd H5 r (.tup (qs'.map V.ref))) p (.ins C dx (fldA D r))) b = some (.tup ys) := fun b ys e => by rw [upd_ne (ne_of e hp6 (by intro z; cases z))]; exact e
      refine k _ ⟨dx, D, r, xs, qs', upd_same, LD6, fun a => ?_, nt _ _ upd_same, ?_⟩ fun b o e n => ?_
      · rw [KB.mem a, hm a]
        exact (lawSort_mem as a).symm
      · rw [← lawSort_eq (fun a ha => (wb a ha).hdok) KB.2 hm]
        exact AT5.mono fun b ys e => nt _ _ (sr _ _ e)
      · rw [upd_ne n]
        exact sr _ _ (s5 _ _ (s4 _ _ (k3 b o e n)))
end
end K2
end
section
set_option Elab.async false
set_option maxRecDepth 100000
set_option linter.all false
/-! sets of acts: what they can do -/
namespace K2
open PySem L2 LfX PySem.Spec PyProof.Rows
abbrev sMd : Stmt := inClass (top 13) 1
abbrev sLn : Stmt := inClass (top 13) 2
abbrev sCo : Stmt := inClass (top 13) 3
abbrev sOr : Stmt := inClass (top 13) 5
abbrev sAn : Stmt := inClass (top 13) 6
abbrev sSu : Stmt := inClass (top 13) 7
abbrev sXo : Stmt := inClass (top 13) 8
abbrev sWi : Stmt := inClass (top 13) 9
abbrev nMd : List Str := ["cls", "rows"]
abbrev nLn : List Str := ["self"]
abbrev nCo : List Str := ["self", "x"]
abbrev nOr : List Str := ["self", "other", "rows"]
abbrev nAn : List Str := ["self", "other", "rows", "row"]
abbrev nSu : List Str := ["self", "other", "rows", "row"]
abbrev nXo : List Str := ["self", "other", "one", "two", "rows", "row"]
abbrev nWi : List Str := ["self", "other", "row"]
/-- acts picked from a list or a tuple by a test that changes nothing -/
def PickT (H1 : Hp) (as : List LfX.Act) (p : LfX.Act → Bool) (g : TG) (tt : TT) (te : TE) (vs : List Nat) (σ : L2.St) : Prop :=
  ∀ (q : Addr) (b : LfX.Act) (Hc : Hp) (Yes : V → Hp → Prop) (No : Hp → Prop), b ∈ as → Hc q = some (.tup (actVs b)) → Same H1 Hc → (p b = true → ∀ H', Same Hc H' → Yes (.ref q) H') → (p b = false → ∀ H', Same Hc H' → No H') →
    g (.ref q) (wipe σ vs) Hc fun σ2 H2 => wipe σ2 vs = wipe σ vs ∧ tt σ2 H2 fun c H3 => if c = true then te σ2 H3 Yes else No H3
theorem acts_snoc {H : Hp} {qs : List Addr} {as : List LfX.Act} {q : Addr} {a : LfX.Act} (h : ActsAt H qs as) (hq : H q = some (.tup (actVs a))) : ActsAt H (qs ++ [q]) (as ++ [a]) := by
  refine ⟨by simp [h.1], fun j q' a' h1 h2 => ?_⟩
  by_cases hj : j < qs.length
  · rw [List.getElem?_append_left hj] at h1
    rw [List.getElem?_append_left (by rw [← h.1]; exact hj)] at h2
    exact h.2 j q' a' h1 h2
  · rw [List.getElem?_append_right (by omega)] at h1
    rw [List.getElem?_append_right (by have := h.1; omega), ← h.1] at h2
    have j0 : j - qs.length = 0 := by
      have := (List.getElem?_eq_some_iff.mp h1).1
      rw [List.length_singleton] at this
      omega
    rw [j0] at h1 h2
    cases h1
    cases h2
    exact hq
theorem acts_app {H : Hp} {qs qs2 : List Addr} {as as2 : List LfX.Act} (h : ActsAt H qs as) (h2 : ActsAt H qs2 as2) : ActsAt H (qs ++ qs2) (as ++ as2) := by
  refine ⟨by simp [h.1, h2.1], fun j q a e1 e2 => ?_⟩
  by_cases hj : j < qs.length
  · rw [List.getElem?_append_left hj] at e1
    rw [List.getElem?_append_left (by rw [← h.1]; exact hj)] at e2
    exact h.2 j q a e1 e2
  · rw [List.getElem?_append_right (by omega)] at e1
    rw [List.getElem?_append_right (by have := h.1; omega), ← h.1] at e2
    exact h2.2 _ q a e1 e2
theorem acts_nth {H : Hp} {qs : List Addr} {as : List LfX.Act} {i : Nat} {x : V} (h : ActsAt H qs as) (hx : (qs.map V.ref)[i]? = some x) : ∃ q a, x = .ref q ∧ as[i]? = some a ∧ qs[i]? = some q ∧ H q = some (.tup (actVs a)) ∧ i < as.length := by
  rw [List.getElem?_map] at hx
  cases hq : qs[i]? with
  | none => rw [hq] at hx; cases hx
  | some q =>
    rw [hq] at hx
    have hi : i < as.length := by have := (List.getElem?_eq_some_iff.mp hq).1; rw [← h.1]; exact this
    exact ⟨q, as[i], (Option.some.inj hx).symm, List.getElem?_eq_getElem hi, rfl, h.2 i q _ hq (List.getElem?_eq_getElem hi), hi⟩
/-- acts stand in a fresh list -/
def LstA (H1 : Hp) (D : Addr) (as : List LfX.Act) (H : Hp) : Prop := ∃ qs : List Addr, H D = some (.lst (qs.map V.ref)) ∧ ActsAt H qs as ∧ Same H1 H
section
variable {K : PySem.W.Frag} {a D : Addr} {qs : List Addr} {as : List LfX.Act} {p : LfX.Act → Bool} {g : TG} {tt : TT} {te : TE} {vs : List Nat} {σ : L2.St} {H1 : Hp} {Qd : Hp → Prop}
theorem pick_step (hA : ActsAt H1 qs as) (hD : H1 D = none) (hn : as.length ≤ 1000) (st : PickT H1 as p g tt te vs σ) : ∀ i x H, (qs.map V.ref)[i]? = some x → LstA H1 D ((as.take i).filter p) H → g x (wipe σ vs) H fun σ2 H2 => wipe σ2 vs = wipe σ vs ∧ tt σ2 H2 fun b H3 =>
      if b = true then te σ2 H3 fun y H4 => ∃ acc, H4 D = some (.lst acc) ∧ acc.length < sizeLine ∧ LstA H1 D ((as.take (i + 1)).filter p) (upd H4 D (.lst (acc ++ [y]))) else LstA H1 D ((as.take (i + 1)).filter p) H3 := by
  rintro i x H hx ⟨qs', hD', A', s⟩
  obtain ⟨q, b, rfl, hb, hq, hqb, hi⟩ := acts_nth hA hx
  have et : as.take (i + 1) = as.take i ++ [b] := by rw [List.take_add_one, hb]; rfl
  have hl : qs'.length ≤ 1000 := by
    rw [A'.1]
    have := List.length_filter_le p (as.take i)
    rw [List.length_take] at this
    omega
  refine st q b H _ _ (List.mem_of_getElem? hb) (s _ _ hqb) s (fun hp H' s' => ?_) (fun hp H' s' => ?_)
  · refine ⟨_, s' _ _ hD', by rw [List.length_map]; show _ < 16777216; omega, qs' ++ [q], by rw [upd_same, List.map_append]; rfl, ?_, (s.trans s').put hD⟩
    rw [et, List.filter_append, List.filter_cons_of_pos hp]
    refine ActsAt.mono (H := H') (acts_snoc (A'.mono fun b xs e => s' _ _ e) (s' _ _ (s _ _ hqb))) fun b xs e => ?_
    rw [upd_ne (ne_of e (s' _ _ hD') (by intro z; cases z))]
    exact e
  · rw [et, List.filter_append, List.filter_cons_of_neg (by rw [hp]; exact Bool.false_ne_true), List.filter_nil, List.append_nil]
    exact ⟨qs', s' _ _ hD', A'.mono fun b xs e => s' _ _ e, s.trans s'⟩
theorem pick_tup (ha : H1 a = some (.tup (qs.map V.ref))) (hA : ActsAt H1 qs as) (hD : H1 D = none) (hn : as.length ≤ 1000) (st : PickT H1 as p g tt te vs σ) (hd : ∀ H, LstA H1 D (as.filter p) H → Qd H) :
    ∃ W : Nat → Nat → Hp → Prop, (∃ m, W 0 m (upd H1 D (.lst []))) ∧ ∀ i m H, W i m H →
      ((Itt K a).stop i H ∧ Qd H) ∨ ((Itt K a).go i H ∧ ∃ Nx : Hp → Prop, (∀ H', Nx H' → ∃ m', m' < m ∧ W (i + 1) m' H') ∧ ∀ x H', (Itt K a).yld i H x H' → g x (wipe σ vs) H' fun σ2 H2 => wipe σ2 vs = wipe σ vs ∧ tt σ2 H2 fun b H3 =>
        if b = true then te σ2 H3 fun y H4 => ∃ acc, H4 D = some (.lst acc) ∧ acc.length < sizeLine ∧ Nx (upd H4 D (.lst (acc ++ [y]))) else Nx H3) := by
  refine lc_tup (K := K) (a := a) (xs := qs.map V.ref) (fun i Hc => LstA H1 D ((as.take i).filter p) Hc) ?_ (fun i Hc _ h => ?_) (pick_step hA hD hn st) (fun Hc h => hd Hc ?_)
  · exact ⟨[], upd_same, ⟨rfl, fun j q a h => by simp at h⟩, (Same.refl _).put hD⟩
  · obtain ⟨_, _, _, s⟩ := h
    exact SqT.of (s _ _ ha)
  · rw [List.length_map, hA.1, List.take_length] at h
    exact h
theorem pick_lst (ha : H1 a = some (.lst (qs.map V.ref))) (hA : ActsAt H1 qs as) (hD : H1 D = none) (hn : as.length ≤ 1000) (st : PickT H1 as p g tt te vs σ) (hd : ∀ H, LstA H1 D (as.filter p) H → Qd H) :
    ∃ W : Nat → Nat → Hp → Prop, (∃ m, W 0 m (upd H1 D (.lst []))) ∧ ∀ i m H, W i m H →
      ((Itl K a).stop i H ∧ Qd H) ∨ ((Itl K a).go i H ∧ ∃ Nx : Hp → Prop, (∀ H', Nx H' → ∃ m', m' < m ∧ W (i + 1) m' H') ∧ ∀ x H', (Itl K a).yld i H x H' → g x (wipe σ vs) H' fun σ2 H2 => wipe σ2 vs = wipe σ vs ∧ tt σ2 H2 fun b H3 =>
        if b = true then te σ2 H3 fun y H4 => ∃ acc, H4 D = some (.lst acc) ∧ acc.length < sizeLine ∧ Nx (upd H4 D (.lst (acc ++ [y]))) else Nx H3) := by
  refine lc_list (K := K) (a := a) (xs := qs.map V.ref) (fun i Hc => LstA H1 D ((as.take i).filter p) Hc) ?_ (fun i Hc _ h => ?_) (pick_step hA hD hn st) (fun Hc h => hd Hc ?_)
  · exact ⟨[], upd_same, ⟨rfl, fun j q a h => by simp at h⟩, (Same.refl _).put hD⟩
  · obtain ⟨_, _, _, s⟩ := h
    exact SqL.of (s _ _ ha)
  · rw [List.length_map, hA.1, List.take_length] at h
    exact h
end
def rInO (C : Addr) (sp : Sp) : R2 := fun x y H Q => ∃ a dx fs, y = .ref a ∧ H a = some (.ins C dx fs) ∧ sp [.ref a, x] H (fun v H' => ∃ b, v = .bl b ∧ Q (.bl b) H') (fun _ _ _ => False)
def rNinO (C : Addr) (sp : Sp) : R2 := fun x y H Q => ∃ a dx fs, y = .ref a ∧ H a = some (.ins C dx fs) ∧ sp [.ref a, x] H (fun v H' => ∃ b, v = .bl b ∧ Q (.bl (!b)) H') (fun _ _ _ => False)
def spCoA (P : Program) (w : World) (C : Addr) : Sp := fun vs H Q _ => ∃ (p q : Addr) (as : List LfX.Act) (a : LfX.Act), vs = [.ref p, .ref q] ∧ AcW P w C H p as ∧ H q = some (.tup (actVs a)) ∧ ActW a ∧ Q (.bl (decide (a ∈ as))) H
def spMdA (P : Program) (w : World) (C : Addr) : Sp := fun vs H Q _ => ∃ (l : Addr) (ts : List Addr) (as : List LfX.Act), vs = [.ref C, .ref l] ∧ H l = some (.lst (ts.map V.ref)) ∧ ActsAt H ts as ∧ AllW as ∧ as.length ≤ 1000 ∧ ∀ (r : Addr) (H' : Hp), AcW P w C H' r (lawSort as) → Same H H' → Q (.ref r) H'
def spLnA (P : Program) (w : World) (C : Addr) : Sp := fun vs H Q _ => ∃ (p : Addr) (as : List LfX.Act), vs = [.ref p] ∧ AcW P w C H p as ∧ Q (.int (as.length : Nat)) H
/-- two sets in, one set out -/
def spBin (P : Program) (w : World) (C : Addr) (op : List LfX.Act → List LfX.Act → List LfX.Act) : Sp := fun vs H Q _ => ∃ (p q : Addr) (as bs : List LfX.Act), vs = [.ref p, .ref q] ∧ AcW P w C H p as ∧ AcW P w C H q bs ∧ AllW as ∧ AllW bs ∧ as.length ≤ 400 ∧ bs.length ≤ 400 ∧
  ∀ (r : Addr) (H' : Hp), AcW P w C H' r (lawSort (op as bs)) → Same H H' → Q (.ref r) H'
def spWiA (P : Program) (w : World) (C : Addr) : Sp := fun vs H Q _ => ∃ (p q : Addr) (as bs : List LfX.Act), vs = [.ref p, .ref q] ∧ AcW P w C H p as ∧ AcW P w C H q bs ∧ AllW as ∧ as.length ≤ 400 ∧ ∀ H', Same H H' → Q (.bl (as.all fun a => decide (a ∈ bs))) H'
def inB (bs : List LfX.Act) (a : LfX.Act) : Bool := decide (a ∈ bs)
def outB (bs : List LfX.Act) (a : LfX.Act) : Bool := !decide (a ∈ bs)
def spInR (P : Program) (w : World) (C : Addr) : Sp := fun vs H Q E => ∃ ws rest, vs = ws ++ rest ∧ ws.length = 1 ∧ rest.length ≤ sizeLine ∧ ∀ p, H p = none → spIn P w C (ws ++ [V.ref p]) (upd H p (.tup rest)) Q E
/-- what the making of a set asks -/
theorem initA {P : Program} {w : World} {C : Addr} {H : Hp} {ts : List Addr} {as : List LfX.Act} {Q : VK} {E : XK} (R : ActsAt H ts as) (g : AllW as) (hl : as.length ≤ 1000) (k : ∀ (r : Addr) (H' : Hp), AcW P w C H' r (lawSort as) → Same H H' → Q (.ref r) H') :
    ∀ x dx, H x = none → H dx = none → dx ≠ x → spInR P w C (V.ref x :: ts.map V.ref) (upd (upd H dx (.own x)) x (.ins C dx [])) (fun v H2 => v = .non ∧ Q (.ref x) H2) E := by
  intro x dx nx ndx ne
  refine ⟨[V.ref x], _, rfl, rfl, ?_, fun pt hpt => ?_⟩
  · rw [List.length_map, R.1]; show _ ≤ 16777216; omega
  have s1 : Same H (upd (upd H dx (.own x)) x (.ins C dx [])) := ((Same.refl H).put ndx).put nx
  have s2 : Same H (upd (upd (upd H dx (.own x)) x (.ins C dx [])) pt (.tup (ts.map V.ref))) := s1.put (s1.free hpt)
  exact ⟨x, dx, pt, ts, as, rfl, by rw [upd_ne (ne_of_none upd_same hpt), upd_same], upd_same, R.mono fun b r e => s2 b _ e, g, hl, fun H' cl kp => ⟨rfl, k x H' cl fun b o e => kp b o (s2 b o e) (ne_of_none e nx)⟩⟩
section
variable {P : Program} {w : World} {K : PySem.W.Frag} {mg : Str → Option Value} {base : Heap}
theorem scMd : FnScope nMd ["cls", "rows"] (defScope sMd) := ⟨rfl, rfl, rfl, by decide +kernel, rfl, by decide +kernel, by decide +kernel⟩
theorem scLn : FnScope nLn ["self"] (defScope sLn) := ⟨rfl, rfl, rfl, by decide +kernel, rfl, by decide +kernel, by decide +kernel⟩
theorem scCo : FnScope nCo ["self", "x"] (defScope sCo) := ⟨rfl, rfl, rfl, by decide +kernel, rfl, by decide +kernel, by decide +kernel⟩
theorem scOr : FnScope nOr ["self", "other"] (defScope sOr) := ⟨rfl, rfl, rfl, by decide +kernel, rfl, by decide +kernel, by decide +kernel⟩
theorem scAn : FnScope nAn ["self", "other"] (defScope sAn) := ⟨rfl, rfl, rfl, by decide +kernel, rfl, by decide +kernel, by decide +kernel⟩
theorem scSu : FnScope nSu ["self", "other"] (defScope sSu) := ⟨rfl, rfl, rfl, by decide +kernel, rfl, by decide +kernel, by decide +kernel⟩
theorem scXo : FnScope nXo ["self", "other"] (defScope sXo) := ⟨rfl, rfl, rfl, by decide +kernel, rfl, by decide +kernel, by decide +kernel⟩
theorem scWi : FnScope nWi ["self", "other"] (defScope sWi) := ⟨rfl, rfl, rfl, by decide +kernel, rfl, by decide +kernel, by decide +kernel⟩
variable {f C fI fIA fC : Addr} {fd fdIA fdC : FuncData}
theorem ok_md (F : Fun K "made" "Acts.made" sMd f fd) (M : Mk K C fI) (GI : FnR P w K mg base CX0 4 fI (spInR P w C)) : FnOk P w K mg base CX0 6 f fd ["cls", "rows"] (spMdA P w C) := by
  refine F.ok scMd (fun vs H Q E h => ?_) (fun cdv A outer s H vs Q E hr h => ?_)
  · obtain ⟨l, ts, as, rfl, _⟩ := h
    rfl
  · obtain ⟨l, ts, as, rfl, hl, R, g, h30, k⟩ := h
    have hr5 : Room 5 _ := hr
    refine ⟨_, (pss_one (ps_ret (pe_makeL (i := 0) M GI hr5 rfl (Or.inl rfl) pass0 (pv 1)))), ?_⟩
    exact ⟨rfl, _, rfl, l, _, rfl, .inr (SqL.of hl), initA R g h30 k⟩
theorem ok_ln (F : Fun K "__len__" "Acts.__len__" sLn f fd) (Y : TxA K mg C) (T : Bi mg) : FnOk P w K mg base CX0 1 f fd ["self"] (spLnA P w C) := by
  refine F.ok scLn (fun vs H Q E h => ?_) (fun cdv A outer s H vs Q E hr h => ?_)
  · obtain ⟨p, as, rfl, _⟩ := h
    rfl
  · obtain ⟨p, as, rfl, ⟨dx, d, r, xs, qs, h1, h2, h3, h4, h5⟩, k⟩ := h
    refine ⟨_, (pss_one (ps_ret (pe_callB call_len_seq (by rfl) T.len PySem.boot_len (pa_cons (pe_fld (pv 0) rfl) pa_nil)))), ?_⟩
    refine ⟨_, rfl, p, C, dx, _, _, rfl, h1, Y.cl, Y.nR, fldA_rows _ _, r, _, rfl, .inr (SqT.of h4), ?_⟩
    rw [List.length_map, h5.1]
    exact k
theorem ok_co (F : Fun K "__contains__" "Acts.__contains__" sCo f fd) (Y : TxA K mg C) (IA : Df K mg "is_act" sIA fIA fdIA ["x"]) (GIA : FnOk P w K mg base CX0 2 fIA fdIA ["x"] spIA) : FnOk P w K mg base CX0 3 f fd ["self", "x"] (spCoA P w C) := by
  refine F.ok scCo (fun vs H Q E h => ?_) (fun cdv A outer s H vs Q E hr h => ?_)
  · obtain ⟨p, q, as, a, rfl, _⟩ := h
    rfl
  · obtain ⟨p, q, as, a, rfl, ⟨dx, d, r, xs, qs, h1, h2, h3, h4, h5⟩, hq, wa, k⟩ := h
    have hr2 : Room 2 _ := hr
    have hu := hu_of hr
    refine ⟨_, (pss_one (ps_ret (pe_and (pe_call GIA hr2 (by rfl) IA.m IA.F.kp IA.b .nil pass0 (pa_cons (pv 1) pa_nil)) (pe_one (pe_cmpR (op_inL hu) (pv 1) (pe_fld (pv 0) rfl) rfl))))), ?_⟩
    refine ⟨_, rfl, q, a, rfl, hq, wa.sz, ?_⟩
    rw [wa.isA]
    have hq2 := hq
    rw [← act_leaves] at hq2
    refine ⟨true, rfl, iteT ⟨_, rfl, _, rfl, p, C, dx, _, _, rfl, h1, Y.cl, Y.nK, fldA_known _ _, q, d, actL a, xs, rfl, rfl, hq2, h2, ?_⟩⟩
    rw [if_neg Bool.false_ne_true, decide_eq_decide.mpr (h3 a)]
    exact k
theorem ok_or (F : Fun K "__or__" "Acts.__or__" sOr f fd) (Y : TxA K mg C) (M : Mk K C fI) (GI : FnR P w K mg base CX0 4 fI (spInR P w C)) : FnOk P w K mg base CX0 6 f fd ["self", "other"] (spBin P w C (· ++ ·)) := by
  refine F.ok scOr (fun vs H Q E h => ?_) (fun cdv A outer s H vs Q E hr h => ?_)
  · obtain ⟨p, q, as, bs, rfl, _⟩ := h
    rfl
  · obtain ⟨p, q, as, bs, rfl, ⟨dx, d, r, xs, qs, h1, h2, h3, h4, h5⟩, ⟨dy, d', r', ys, qs', g1, g2, g3, g4, g5⟩, wa, wb, la, lb, k⟩ := h
    have hr5 : Room 5 _ := hr
    refine ⟨_, (pss_cons (ps_set (i := 2) scOr.nd rfl (Or.inl rfl) (pe_op op_cat2 (pe_fld (pv 0) rfl) (pe_fld (pv 1) rfl)))
      (pss_one (ps_ret (pe_makeSG M GI hr5 (by rfl) Y.mgC pass0 (pv 2))))), ?_⟩
    refine ⟨_, rfl, p, C, dx, _, _, rfl, h1, Y.cl, Y.nR, fldA_rows _ _, _, rfl, q, C, dy, _, _, rfl, g1, Y.cl, Y.nR, fldA_rows _ _, r, r', _, _, rfl, rfl, h4, g4, ?_, fun t H1 s1 ht => ?_⟩
    · rw [List.length_map, List.length_map, h5.1, g5.1]; show _ ≤ 16777216; omega
    rw [← List.map_append] at ht
    have A1 : ActsAt H1 (qs ++ qs') (as ++ bs) := (acts_app h5 g5).mono fun b xs e => s1 _ _ e
    exact ⟨_, rfl, t, _, rfl, .inl (SqT.of ht), initA A1 (fun a ha => (List.mem_append.mp ha).elim (wa a) (wb a)) (by rw [List.length_append]; omega) fun r2 H2 aw s2 => k r2 H2 aw (s1.trans s2)⟩
end
end K2
end
section
set_option Elab.async false
set_option maxRecDepth 100000
set_option linter.all false
namespace K2
open PySem L2 PySem.Spec PyProof.Rows
theorem rising_pw : ∀ (p : Str) (l : List Str), PyProof.Rows.risingS p l = true → (p :: l).Pairwise (fun a b => PySem.Spec.ltCps b.cps.toList a.cps.toList = false)
  | p, [], _ => List.pairwise_singleton _ _
  | p, x :: r, h => by
    have h2 := Bool.and_eq_true_iff.mp (show (!PySem.Spec.ltCps x.cps.toList p.cps.toList && PyProof.Rows.risingS x r) = true from h)
    have ih := rising_pw x r h2.2
    have h1 : PySem.Spec.ltCps x.cps.toList p.cps.toList = false := by simpa using h2.1
    refine List.pairwise_cons.mpr ⟨fun y hy => ?_, ih⟩
    rcases List.mem_cons.mp hy with rfl | hy
    · exact h1
    · have h3 := (List.pairwise_cons.mp ih).1 y hy
      rw [PyProof.Rows.ltCps_eq, decide_eq_false_iff_not] at h1 h3 ⊢
      exact List.le_trans (α := Nat) (l₁ := p.cps.toList) (l₂ := x.cps.toList) (l₃ := y.cps.toList) h1 h3
theorem sorted_pw : ∀ l : List Str, PyProof.Rows.sortedS l = true → l.Pairwise (fun a b => PySem.Spec.ltCps b.cps.toList a.cps.toList = false)
  | [], _ => .nil
  | x :: r, h => rising_pw x r h
theorem sorted_sub {l l' : List Str} (h : PyProof.Rows.sortedS l' = true) (s : l.Sublist l') : PyProof.Rows.sortedS l = true := PyProof.Rows.sortedS_of_pairwise l ((sorted_pw l' h).sublist s)
theorem sorted_one : ∀ {l l' : List Str}, l.Nodup → l'.Nodup → PyProof.Rows.sortedS l = true → PyProof.Rows.sortedS l' = true → (∀ y, y ∈ l ↔ y ∈ l') → l = l' := by
  have anti : ∀ {a b : Str}, PySem.Spec.ltCps a.cps.toList b.cps.toList = false → PySem.Spec.ltCps b.cps.toList a.cps.toList = false → a = b := fun {a b} h1 h2 => by
    rw [PyProof.Rows.ltCps_eq, decide_eq_false_iff_not] at h1 h2
    have e : a.cps.toList = b.cps.toList := List.le_antisymm (α := Nat) h2 h1
    have e2 : a.cps = b.cps := Array.toList_inj.mp e
    cases a
    cases b
    cases e2
    rfl
  intro l
  induction l with
  | nil =>
    intro l' _ _ _ _ h
    cases l' with
    | nil => rfl
    | cons y r => exact absurd ((h y).mpr List.mem_cons_self) (by simp)
  | cons x l ih =>
    intro l' n1 n2 s1 s2 h
    cases l' with
    | nil => exact absurd ((h x).mp List.mem_cons_self) (by simp)
    | cons y r =>
      have p1 := List.pairwise_cons.mp (sorted_pw _ s1)
      have p2 := List.pairwise_cons.mp (sorted_pw _ s2)
      have e : x = y := by
        rcases List.mem_cons.mp ((h x).mp List.mem_cons_self) with q | q
        · exact q
        · rcases List.mem_cons.mp ((h y).mpr List.mem_cons_self) with q2 | q2
          · exact q2.symm
          · exact anti (p2.1 x q) (p1.1 y q2)
      subst e
      have m1 := List.nodup_cons.mp n1
      have m2 := List.nodup_cons.mp n2
      rw [ih m1.2 m2.2 (sorted_sub s1 (List.sublist_cons_self _ _)) (sorted_sub s2 (List.sublist_cons_self _ _)) fun z => ?_]
      constructor
      · intro hz
        rcases List.mem_cons.mp ((h z).mp (List.mem_cons_of_mem _ hz)) with q | q
        · exact absurd (q ▸ hz) m1.1
        · exact q
      · intro hz
        rcases List.mem_cons.mp ((h z).mpr (List.mem_cons_of_mem _ hz)) with q | q
        · exact absurd (q ▸ hz) m2.1
        · exact q
/-! ### lists and tuples beside empty ones -/
section
variable {X : Cx}
/-- xs != [] of any list -/
def rNeL0 (K : PySem.W.Frag) : R2 := fun x y H Q => ∃ a b xs, x = .ref a ∧ y = .ref b ∧ SqL K H a xs ∧ SqL K H b [] ∧ Q (.bl (!xs.isEmpty)) H
def rEqL0 (K : PySem.W.Frag) : R2 := fun x y H Q => ∃ a b xs, x = .ref a ∧ y = .ref b ∧ SqL K H a xs ∧ SqL K H b [] ∧ Q (.bl xs.isEmpty) H
/-- t != () of any tuple -/
def rNeT0 (K : PySem.W.Frag) : R2 := fun x y H Q => ∃ a b xs, x = .ref a ∧ y = .ref b ∧ SqT K H a xs ∧ SqT K H b [] ∧ Q (.bl (!xs.isEmpty)) H
theorem op_neL0 (hu : X.A.units < cLine) : OpR X (compareOp .NotEq) (rNeL0 X.K) := by
  intro pins s σ H x y v u Q I rx ry h
  obtain ⟨a, b, xs, rfl, rfl, ha, hb, q⟩ := h
  cases rx
  cases ry
  obtain ⟨as, ra, la, _⟩ := I.list ha
  obtain ⟨bs, rb, lb, _⟩ := I.list hb
  cases rb
  have fin : EP X pins σ Q (.bool (!xs.isEmpty)) s := ⟨.bl _, H, I, rfl, q⟩
  show wpAny (model X.prog X.w) X.A (richCompare .NotEq (.ref a) (.ref b)) (EP X pins σ Q) X.xe s
  cases ra with
  | nil => exact SeqAt.RcNeAt.lists (e := fun _ => true) la.isList lb.isList rfl hu (fun j h1 h2 => absurd h1 (Nat.not_lt_zero j)) _ _ _ _ fin
  | cons r t => exact SeqAt.RcNeAt.lists_lengths la.isList lb.isList (by simp) hu _ _ _ _ fin
theorem op_eqL0 (hu : X.A.units < cLine) : OpR X (compareOp .Eq) (rEqL0 X.K) := by
  intro pins s σ H x y v u Q I rx ry h
  obtain ⟨a, b, xs, rfl, rfl, ha, hb, q⟩ := h
  cases rx
  cases ry
  obtain ⟨as, ra, la, _⟩ := I.list ha
  obtain ⟨bs, rb, lb, _⟩ := I.list hb
  cases rb
  have fin : EP X pins σ Q (.bool xs.isEmpty) s := ⟨.bl _, H, I, rfl, q⟩
  show wpAny (model X.prog X.w) X.A (richCompare .Eq (.ref a) (.ref b)) (EP X pins σ Q) X.xe s
  cases ra with
  | nil => exact SeqAt.RcAt.lists (e := fun _ => true) la.isList lb.isList rfl hu (fun j h1 h2 => absurd h1 (Nat.not_lt_zero j)) _ _ _ _ fin
  | cons r t => exact SeqAt.RcAt.lists_lengths la.isList lb.isList (by simp) hu _ _ _ _ fin
theorem op_neT0 (hu : X.A.units < cLine) : OpR X (compareOp .NotEq) (rNeT0 X.K) := by
  intro pins s σ H x y v u Q I rx ry h
  obtain ⟨a, b, xs, rfl, rfl, ha, hb, q⟩ := h
  cases rx
  cases ry
  obtain ⟨as, ra, ta, _⟩ := I.tuple ha
  obtain ⟨bs, rb, tb, _⟩ := I.tuple hb
  cases rb
  have fin : EP X pins σ Q (.bool (!xs.isEmpty)) s := ⟨.bl _, H, I, rfl, q⟩
  show wpAny (model X.prog X.w) X.A (richCompare .NotEq (.ref a) (.ref b)) (EP X pins σ Q) X.xe s
  have := SeqAt.RcNeAt.tuples (A := X.A) (s := s) (e := fun _ => true) ta tb hu (fun j h1 h2 => absurd h2 (Nat.not_lt_zero j))
  cases ra with
  | nil => exact this _ _ _ _ fin
  | cons r t => exact this _ _ _ _ fin
/-! ### repr of None or of data -/
end
section
variable {p : Program} {w : World} {A : Around} {E : Value → Shared → Prop} {s : Shared}
end
section
variable {X : Cx}
def tLenSetG (ta : TE) : TE := fun σ H Q => ta σ H fun x H1 => ∃ (l : Addr) (xs : List Str), x = .ref l ∧ H1 l = some (.tup (xs.map V.str)) ∧ xs.length ≤ 1000 ∧ ∀ ys : List Str, ys.Nodup → (∀ y, y ∈ ys ↔ y ∈ xs) → Q (.int (ys.length : Nat)) H1
def tSortedSetT (te : TE) : TE := fun σ H Q => te σ H fun x H1 => ∃ (l : Addr) (xs : List Str), x = .ref l ∧ H1 l = some (.tup (xs.map V.str)) ∧ xs.length < 64 ∧
  ∀ (ys : List Str) (q : Addr), ys.Nodup → ys.length ≤ xs.length → (∀ y, y ∈ ys ↔ y ∈ xs) → sortedS ys = true → H1 q = none → Q (.ref q) (upd H1 q (.lst (ys.map V.str)))
end
end K2
end
section
set_option Elab.async false
set_option maxRecDepth 100000
set_option linter.all false
/-! a record put into itself -/
namespace K2
open PySem L2 PySem.Spec PyProof.Rows
theorem sIx_nat (n d v : Nat) : HT.sIx n d (some ((v : Nat) : Int)) = min v n := by
  show (if ((v : Nat) : Int) < 0 then (((v : Nat) : Int) + (n : Int)).toNat else min ((v : Nat) : Int).toNat n) = _
  rw [if_neg (by omega)]
  rfl
theorem cutT_mid {xs : List V} {a b : Nat} (h1 : a ≤ b) (h2 : b ≤ xs.length) : cutV xs (some ((a : Nat) : Int)) (some ((b : Nat) : Int)) = (xs.drop a).take (b - a) := by
  unfold cutV
  rw [sIx_nat, sIx_nat, Nat.min_eq_left h2, Nat.min_eq_left (Nat.le_trans h1 h2)]
theorem cutT_from {xs : List V} {a : Nat} (h1 : a ≤ xs.length) : cutV xs (some ((a : Nat) : Int)) none = xs.drop a := by
  unfold cutV
  rw [sIx_nat, Nat.min_eq_left h1]
  exact List.take_of_length_le (by rw [List.length_drop]; exact Nat.le_refl _)
theorem cutT_upto {xs : List V} {b : Nat} (h1 : b ≤ xs.length) : cutV xs none (some ((b : Nat) : Int)) = xs.take b := by
  unfold cutV
  rw [sIx_nat, Nat.min_eq_left h1]
  rfl
section
variable {P : Program} {w : World} {K : PySem.W.Frag} {mg : Str → Option Value} {base : Heap}
end
end K2
end
section
set_option Elab.async false
set_option maxRecDepth 100000
set_option linter.all false
/-! drawn acts, places, the law's order -/
namespace K2
open PySem L2 LfX PySem.Spec PyProof.Rows
abbrev sPl : Stmt := top 20
abbrev sSo : Stmt := top 21
abbrev nLa : List Str := ["_law_pen_here", "_law_outside", "_law_classes", "_law_many", "_law_found", "_law_k", "_law_while_handled", "_law_outcome"]
abbrev nPl : List Str := ["_law_act"]
abbrev nSo : List Str := ["_law_acts_here", "_law_found", "_law_act", "_law_at", "_law_one"]
theorem u0_of {A : Around} {k : Nat} (hr : Room k A) : A.units < cLine := Nat.lt_of_succ_lt (hu_of hr)
theorem op_isBl {X : Cx} : OpR X (compareOp .Is) (fun x y H Q => ∃ a b, x = .bl a ∧ y = .bl b ∧ Q (.bl (decide (a = b))) H) := by
  intro pins s σ H x y v u Q I rx ry h
  obtain ⟨a, b, rfl, rfl, q⟩ := h
  cases rx
  cases ry
  exact wpAny_is_plain rfl (fin_bl I q (by cases a <;> cases b <;> rfl))
def spLa : Sp := fun vs H Q _ => ∃ (p c lo lc : Addr) (ns : List Int) (n m : Nat) (os cs : List Str), vs = [.ref p, .ref lo, .ref lc, .int m] ∧ Pen H p c ns n ∧ n + 3 * m ≤ 99990 ∧ H lo = some (.lst (os.map V.str)) ∧ H lc = some (.lst (cs.map V.str)) ∧ lo ≠ p ∧ lc ≠ p ∧ 0 < os.length ∧ os.length ≤ 100 ∧ cs.length ≤ 100 ∧
  (∀ x ∈ os, VW x) ∧ (∀ x ∈ cs, VW x) ∧ m ≤ 100 ∧ ∀ (l : Addr) (ts : List Addr) (as : List LfX.Act) (H' : Hp), H' l = some (.lst (ts.map V.ref)) → ActsAt H' ts as → AllW as → as.length = m → l ≠ p → Keep p H H' → Pen H' p c ns (n + 3 * m) → Q (.ref l) H'
def spPl : Sp := fun vs H Q _ => ∃ (q : Addr) (a : LfX.Act), vs = [.ref q] ∧ H q = some (.tup (actVs a)) ∧ ∀ r, H r = none → Q (.ref r) (upd H r (.tup (plVs a)))
def spSo : Sp := fun vs H Q _ => ∃ (l : Addr) (ts : List Addr) (as : List LfX.Act), vs = [.ref l] ∧ H l = some (.lst (ts.map V.ref)) ∧ ActsAt H ts as ∧ AllW as ∧ as.length ≤ 500 ∧
  ∀ (r : Addr) (qs : List Addr) (H' : Hp), H' r = some (.tup (qs.map V.ref)) → ActsAt H' qs (lawSort as) → Same H H' → Q (.ref r) H'
theorem Pen.tup_ne {H : Hp} {p c b : Addr} {ns : List Int} {n : Nat} {xs : List V} (P : Pen H p c ns n) (h : H b = some (.tup xs)) : b ≠ p := fun e => by
  obtain ⟨a, l, hp, _⟩ := P.pen
  rw [e, hp] at h
  cases h
theorem refs_ne_pen {H : Hp} {p c b : Addr} {ns : List Int} {n : Nat} {ts : List Addr} (P : Pen H p c ns n) (h : H b = some (.lst (ts.map V.ref))) : b ≠ p := fun e => by
  obtain ⟨a, l, hp, _⟩ := P.pen
  rw [e, hp] at h
  unfold penO at h
  match ts, h with
  | [], h => cases h
  | [_], h => cases h
  | _ :: _ :: _, h => cases h
theorem head_or (v0 : V) (cs : List Str) {j : Nat} (h : j < cs.length + 1) : ∃ v, ([v0] ++ cs.map V.str)[j]? = some v ∧ (v = v0 ∨ ∃ x ∈ cs, v = .str x) := by
  cases j with
  | zero => exact ⟨v0, rfl, .inl rfl⟩
  | succ j =>
    have hj : j < cs.length := by omega
    refine ⟨.str cs[j], ?_, .inr ⟨_, List.getElem_mem hj, rfl⟩⟩
    show (cs.map V.str)[j]? = _
    rw [List.getElem?_map, List.getElem?_eq_getElem hj]
    rfl
/-- the place of one before the place of another -/
def tPl : TT := fun σ H Q => ∃ (q q2 : Addr) (a b : LfX.Act), σ[4]? = some (some (.ref q)) ∧ σ[2]? = some (some (.ref q2)) ∧ H q = some (.tup (actVs a)) ∧ H q2 = some (.tup (actVs b)) ∧ a.out ≠ Str.empty ∧ b.out ≠ Str.empty ∧ ∀ H', Same H H' → Q (ltA a b) H'
section
variable {P : Program} {w : World} {K : PySem.W.Frag} {mg : Str → Option Value} {base : Heap}
theorem scPl : FnScope nPl ["_law_act"] (defScope sPl) := ⟨rfl, rfl, rfl, by decide +kernel, rfl, by decide +kernel, by decide +kernel⟩
theorem ok_pl {f : Addr} {fd : FuncData} (F : Fun K "_law_place" "_law_place" sPl f fd) : FnOk P w K mg base CX0 1 f fd ["_law_act"] spPl := by
  refine F.ok scPl (fun vs H Q E h => ?_) (fun cdv A outer s H vs Q E hr h => ?_)
  · obtain ⟨q, a, rfl, _⟩ := h
    rfl
  · obtain ⟨q, a, rfl, hq, k⟩ := h
    refine ⟨_, (pss_one (ps_ret (pe_tup (pa_cons (pe_ix ix_tup (pv 0) pe_int (fun _ _ => rfl)) (pa_cons (pe_ifExp (pt_cmpR op_isN (pe_ix ix_tup (pv 0) pe_int (fun _ _ => rfl)) pe_non (nomark _)) pe_str (pe_ix ix_tup (pv 0) pe_int (fun _ _ => rfl))) (pa_cons (pe_ifExp (pt_cmpR op_eq (pe_ix ix_tup (pv 0) pe_int (fun _ _ => rfl)) pe_str (nomark _)) pe_str (pe_ix ix_tup (pv 0) pe_int (fun _ _ => rfl))) pa_nil)))))), ?_⟩
    obtain ⟨cb, hd, out⟩ := a
    have k : ∀ r, H r = none → Q (.ref r) (upd H r (.tup [.str cb, .str (hd.getD Str.empty), .str (if out = "returns" then Str.empty else out)])) := k
    refine ⟨_, rfl, q, _, _, _, rfl, rfl, SqT.of hq, atI_nat (j := 0) rfl, ?_⟩
    refine ⟨_, rfl, q, _, _, _, rfl, rfl, SqT.of hq, atI_nat (j := 1) rfl, rfl, _, rfl, ?_⟩
    have tl : ∀ (z : Str), z = hd.getD Str.empty → ∀ (R : VK), (∀ y, y = V.str z → R y H → True) → True := fun _ _ _ _ => trivial
    clear tl
    cases hd with
    | none =>
      refine iteT ?_
      refine ⟨_, rfl, q, _, _, _, rfl, rfl, SqT.of hq, atI_nat (j := 2) rfl, rfl, _, rfl, ite2 (fun c => ?_) (fun c => ?_)⟩
      · have c : out = "returns" := V.str.inj (of_decide_eq_true c)
        refine ⟨(by show 3 ≤ sizeLine; decide), fun r hr0 => ?_⟩
        have := k r hr0
        rw [if_pos c] at this
        exact this
      · have c : ¬ out = "returns" := fun e => c (by rw [e]; exact decide_eq_true rfl)
        refine ⟨_, rfl, q, _, _, _, rfl, rfl, SqT.of hq, atI_nat (j := 2) rfl, (by show 3 ≤ sizeLine; decide), fun r hr0 => ?_⟩
        have := k r hr0
        rw [if_neg c] at this
        exact this
    | some x =>
      refine iteF ⟨_, rfl, q, _, _, _, rfl, rfl, SqT.of hq, atI_nat (j := 1) rfl, ?_⟩
      refine ⟨_, rfl, q, _, _, _, rfl, rfl, SqT.of hq, atI_nat (j := 2) rfl, rfl, _, rfl, ite2 (fun c => ?_) (fun c => ?_)⟩
      · have c : out = "returns" := V.str.inj (of_decide_eq_true c)
        refine ⟨(by show 3 ≤ sizeLine; decide), fun r hr0 => ?_⟩
        have := k r hr0
        rw [if_pos c] at this
        exact this
      · have c : ¬ out = "returns" := fun e => c (by rw [e]; exact decide_eq_true rfl)
        refine ⟨_, rfl, q, _, _, _, rfl, rfl, SqT.of hq, atI_nat (j := 2) rfl, (by show 3 ≤ sizeLine; decide), fun r hr0 => ?_⟩
        have := k r hr0
        rw [if_neg c] at this
        exact this
end
end K2
end
section
set_option Elab.async false
set_option maxRecDepth 100000
set_option linter.all false
/-! the law's order -/
namespace K2
open PySem L2 LfX PySem.Spec PyProof.Rows
theorem u65 {A : Around} {k : Nat} (hr : Room k A) : A.units + 65 < cLine := by have := hr.un; omega
theorem pt_imp {X : Cx} {e : Expr} {t t' : TT} (h : PT X e t) (k : ∀ σ H Q, t' σ H Q → t σ H Q) : PT X e t' := ⟨fun pins s σ H Q I q => h.run pins s σ H Q I (k σ H Q q)⟩
/-- what stands after some acts -/
def step1 (L : List LfX.Act) (x : LfX.Act) : List LfX.Act := if x ∈ L then L else insA L x
def upto (as : List LfX.Act) (i : Nat) : List LfX.Act := (as.take i).foldl step1 []
theorem upto_all (as : List LfX.Act) : upto as as.length = lawSort as := by
  unfold upto
  rw [List.take_length]
  rfl
theorem upto_succ {as : List LfX.Act} {i : Nat} {b : LfX.Act} (h : as[i]? = some b) : upto as (i + 1) = step1 (upto as i) b := by
  unfold upto
  rw [List.take_add_one, h, List.foldl_append]
  rfl
theorem upto_mem {as : List LfX.Act} {i : Nat} {y : LfX.Act} (h : y ∈ upto as i) : y ∈ as :=
  List.mem_of_mem_take (((lawSort_ok (as.take i) [] .nil List.nodup_nil).2.2 y).mp h |>.elim (fun z => absurd z (by simp)) id)
theorem upto_len (as : List LfX.Act) (i : Nat) : (upto as i).length ≤ i := by
  have h := lawSort_len (as.take i)
  have h2 : (as.take i).length ≤ i := by rw [List.length_take]; omega
  exact Nat.le_trans h h2
theorem acts_take {H : Hp} {qs : List Addr} {as : List LfX.Act} (h : ActsAt H qs as) (n : Nat) : ActsAt H (qs.take n) (as.take n) := by
  refine ⟨by rw [List.length_take, List.length_take, h.1], fun j q a h1 h2 => ?_⟩
  rw [List.getElem?_take] at h1 h2
  split at h1
  · rename_i hj
    rw [if_pos hj] at h2
    exact h.2 j q a h1 h2
  · cases h1
theorem acts_drop {H : Hp} {qs : List Addr} {as : List LfX.Act} (h : ActsAt H qs as) (n : Nat) : ActsAt H (qs.drop n) (as.drop n) := by
  refine ⟨by rw [List.length_drop, List.length_drop, h.1], fun j q a h1 h2 => ?_⟩
  rw [List.getElem?_drop] at h1 h2
  exact h.2 _ q a h1 h2
section
variable {P : Program} {w : World} {K : PySem.W.Frag} {mg : Str → Option Value} {base : Heap}
end
end K2
end
section
set_option Elab.async false
set_option maxRecDepth 100000
set_option linter.all false
/-! any value as an act; NoAct; sets refused -/
namespace K2
open PySem L2 LfX PySem.Spec PyProof.Rows
/-- is x == "returns" -/
def Ret (K : PySem.W.Frag) (H : Hp) (x : V) (b : Bool) : Prop := ∃ d : PyData, Dp K H x d ∧ SeqAt.shaped d = true ∧ PyData.eqv d (.str "returns") = b
theorem Ret.str {K : PySem.W.Frag} {H : Hp} {x : Str} (h : PyData.strOk x = true) : Ret K H (.str x) (decide (x = "returns")) := by
  refine ⟨.str x, .str x, ?_, ?_⟩
  · show (_ && decide _) = true
    rw [show (PyData.str x).canLay0 = true from h]
    rfl
  · show (x == "returns") = _
    by_cases e : x = "returns"
    · simp [e]
    · simp [e]
/-- what is_act says of a value -/
inductive ActV (K : PySem.W.Frag) (H : Hp) : V → Bool → Prop where
  | no {x : V} {t : Value} (ty : TyX K H x t) (k : PySem.W.kitOne K t (.type "tuple") = some false) : ActV K H x false
  | len {q : Addr} {xs : List V} (h : H q = some (.tup xs)) (n : xs.length ≠ 3) (l : xs.length ≤ 1000) : ActV K H (.ref q) false
  | c1 {q : Addr} {v1 v2 v3 : V} (h : H q = some (.tup [v1, v2, v3])) (w : WdV K H v1 false) : ActV K H (.ref q) false
  | c2 {q : Addr} {v1 v2 v3 : V} (h : H q = some (.tup [v1, v2, v3])) (w : WdV K H v1 true) (n : v2 ≠ .non) (w2 : WdV K H v2 false) : ActV K H (.ref q) false
  | c3 {q : Addr} {v1 v2 v3 : V} (h : H q = some (.tup [v1, v2, v3])) (w : WdV K H v1 true) (w2 : v2 = .non ∨ (v2 ≠ .non ∧ WdV K H v2 true)) (w3 : WdV K H v3 false) (r : Ret K H v3 false) : ActV K H (.ref q) false
  | act {q : Addr} {a : LfX.Act} (h : H q = some (.tup (actVs a))) (w : ActW a) : ActV K H (.ref q) true
theorem sqL_same {K : PySem.W.Frag} {H H' : Hp} {a : Addr} {xs : List V} (h : SqL K H a xs) (s : Same H H') : SqL K H' a xs := by
  rcases h with (h | ⟨o, h⟩) | h
  · exact .inl (.inl (s _ _ h))
  · exact .inl (.inr ⟨o, s _ _ h⟩)
  · exact .inr h
theorem sqT_same {K : PySem.W.Frag} {H H' : Hp} {a : Addr} {xs : List V} (h : SqT K H a xs) (s : Same H H') : SqT K H' a xs := by
  rcases h with (h | ⟨o, h⟩) | h
  · exact .inl (.inl (s _ _ h))
  · exact .inl (.inr ⟨o, s _ _ h⟩)
  · exact .inr h
mutual
theorem dp_same {K : PySem.W.Frag} {H H' : Hp} (s : Same H H') : ∀ {x : V} {d : PyData}, Dp K H x d → Dp K H' x d
  | _, _, .non => .non
  | _, _, .bl b => .bl b
  | _, _, .int i => .int i
  | _, _, .str x => .str x
  | _, _, .lst h k => .lst (sqL_same h s) (dpAll_same s k)
  | _, _, .tup h k => .tup (sqT_same h s) (dpAll_same s k)
theorem dpAll_same {K : PySem.W.Frag} {H H' : Hp} (s : Same H H') : ∀ {xs : List V} {ds : List PyData}, DpAll K H xs ds → DpAll K H' xs ds
  | _, _, .nil => .nil
  | _, _, .cons h k => .cons (dp_same s h) (dpAll_same s k)
end
theorem Ret.same {K : PySem.W.Frag} {H H' : Hp} {x : V} {b : Bool} (h : Ret K H x b) (s : Same H H') : Ret K H' x b := by
  obtain ⟨d, h1, h2, h3⟩ := h
  exact ⟨d, dp_same s h1, h2, h3⟩
theorem ActV.same {K : PySem.W.Frag} {H H' : Hp} {x : V} {b : Bool} (h : ActV K H x b) (s : Same H H') : ActV K H' x b := by
  cases h with
  | no ty k => exact .no (ty.same s) k
  | len h n l => exact .len (s _ _ h) n l
  | c1 h w => exact .c1 (s _ _ h) (w.same s)
  | c2 h w n w2 => exact .c2 (s _ _ h) (w.same s) n (w2.same s)
  | c3 h w w2 w3 r => exact .c3 (s _ _ h) (w.same s) (w2.imp id fun q => ⟨q.1, q.2.same s⟩) (w3.same s) (r.same s)
  | act h w => exact .act (s _ _ h) w
def spIAG (K : PySem.W.Frag) : Sp := fun vs H Q _ => ∃ (x : V) (b : Bool), vs = [x] ∧ ActV K H x b ∧ Q (.bl b) H
section
variable {P : Program} {w : World} {K : PySem.W.Frag} {mg : Str → Option Value} {base : Heap}
theorem ok_iaG {f fI : Addr} {fd fdI : FuncData} (F : Fun K "is_act" "is_act" sIA f fd) (T : Bi mg) (IW : Df K mg "is_word" sIsW fI fdI ["x"]) (GI : FnOk P w K mg base CX0 1 fI fdI ["x"] (spIsWG K)) : FnOk P w K mg base CX0 2 f fd ["x"] (spIAG K) := by
  refine F.ok scIA (fun vs H Q E h => ?_) (fun cdv A outer s H vs Q E hr h => ?_)
  · obtain ⟨x, b, rfl, _⟩ := h
    rfl
  · obtain ⟨x, b, rfl, hx, k⟩ := h
    have hr1 : Room 1 _ := hr
    refine ⟨_, (pss_cons (ps_if (PW.pt (pw_or (pt_not (pt_val (pe_callB call_isi (by rfl) T.isinstance (by decide +kernel) (pa_cons (pv 0) (pa_cons (pe_bltn (v := .ty "tuple") (by rfl) T.tuple (by decide +kernel) rfl) pa_nil))))) (pw_or1 (pt_cmpR op_ne (pe_callB call_len_seq (by rfl) T.len PySem.boot_len (pa_cons (pv 0) pa_nil)) pe_int (nomark _)))))
      (pss_one (ps_ret pe_bl))
      pss_nil)
      (pss_cons (ps_asg (pv 0) (pg_tup rfl (pgs_cons (pg_name (i := 1) scIA.nd rfl (Or.inl rfl)) (pgs_cons (pg_name (i := 2) scIA.nd rfl (Or.inl rfl)) (pgs_cons (pg_name (i := 3) scIA.nd rfl (Or.inl rfl)) pgs_nil)))))
      (pss_one (ps_ret (pe_and (pe_call GI hr1 (by rfl) IW.m IW.F.kp IW.b .nil pass0 (pa_cons (pv 1) pa_nil)) (pe_and (pe_or (pe_cmpR op_isN (pv 2) pe_non (nomark _)) (pe_one (pe_call GI hr1 (by rfl) IW.m IW.F.kp IW.b .nil pass0 (pa_cons (pv 2) pa_nil)))) (pe_one (pe_or (pe_call GI hr1 (by rfl) IW.m IW.F.kp IW.b .nil pass0 (pa_cons (pv 3) pa_nil)) (pe_one (pe_cmpR (op_eqD hr.units) (pv 3) pe_str (nomark _))))))))))), ?_⟩
    cases hx with
    | no ty kn =>
      refine ⟨_, rfl, _, _, _, _, false, rfl, .ty _, ty, kn, _, rfl, iteT ?_⟩
      exact k
    | @len q xs h n l =>
      refine ⟨_, rfl, _, _, _, _, true, rfl, .ty _, .base (.tup h), kit_ty (by decide +kernel), _, rfl, iteF ?_⟩
      refine ⟨_, rfl, q, xs, rfl, .inr (SqT.of h), rfl, true, ?_, iteT k⟩
      have : decide (V.int (xs.length : Int) = V.int 3) = false := decide_eq_false fun e => n (by have := V.int.inj e; omega)
      rw [this]
      rfl
    | @c1 q v1 v2 v3 h w1 =>
      refine ⟨_, rfl, _, _, _, _, true, rfl, .ty _, .base (.tup h), kit_ty (by decide +kernel), _, rfl, iteF ?_⟩
      refine ⟨_, rfl, q, _, rfl, .inr (SqT.of h), rfl, false, rfl, iteF ?_⟩
      refine ⟨_, rfl, q, _, rfl, SqT.of h, rfl, ?_⟩
      refine ⟨_, _, rfl, ⟨_, _, rfl, ⟨_, _, rfl, ?_⟩⟩⟩
      exact ⟨rfl, _, rfl, v1, false, rfl, w1, false, rfl, iteF k⟩
    | @c2 q v1 v2 v3 h w1 n w2 =>
      refine ⟨_, rfl, _, _, _, _, true, rfl, .ty _, .base (.tup h), kit_ty (by decide +kernel), _, rfl, iteF ?_⟩
      refine ⟨_, rfl, q, _, rfl, .inr (SqT.of h), rfl, false, rfl, iteF ?_⟩
      refine ⟨_, rfl, q, _, rfl, SqT.of h, rfl, ?_⟩
      refine ⟨_, _, rfl, ⟨_, _, rfl, ⟨_, _, rfl, ?_⟩⟩⟩
      refine ⟨rfl, _, rfl, v1, true, rfl, w1, true, rfl, iteT ?_⟩
      exact ⟨_, rfl, rfl, false, by rw [decide_eq_false n], iteF ⟨_, rfl, v2, false, rfl, w2, false, rfl, iteF k⟩⟩
    | @c3 q v1 v2 v3 h w1 w2 w3 r =>
      refine ⟨_, rfl, _, _, _, _, true, rfl, .ty _, .base (.tup h), kit_ty (by decide +kernel), _, rfl, iteF ?_⟩
      refine ⟨_, rfl, q, _, rfl, .inr (SqT.of h), rfl, false, rfl, iteF ?_⟩
      refine ⟨_, rfl, q, _, rfl, SqT.of h, rfl, ?_⟩
      refine ⟨_, _, rfl, ⟨_, _, rfl, ⟨_, _, rfl, ?_⟩⟩⟩
      refine ⟨rfl, _, rfl, v1, true, rfl, w1, true, rfl, iteT ?_⟩
      obtain ⟨d, d1, d2, d3⟩ := r
      rcases w2 with rfl | ⟨n, w2⟩
      · refine ⟨_, rfl, rfl, true, rfl, iteT ⟨true, rfl, iteT ?_⟩⟩
        refine ⟨_, rfl, v3, false, rfl, w3, false, rfl, iteF ⟨_, rfl, d, .str "returns", d1, .str _, d2, (by decide +kernel), ?_⟩⟩
        rw [d3]
        exact k
      · refine ⟨_, rfl, rfl, false, by rw [decide_eq_false n], iteF ⟨_, rfl, v2, true, rfl, w2, true, rfl, iteT ?_⟩⟩
        refine ⟨_, rfl, v3, false, rfl, w3, false, rfl, iteF ⟨_, rfl, d, .str "returns", d1, .str _, d2, (by decide +kernel), ?_⟩⟩
        rw [d3]
        exact k
    | @act q a h wa =>
      obtain ⟨cb, hd, out⟩ := a
      refine ⟨_, rfl, _, _, _, _, true, rfl, .ty _, .base (.tup h), kit_ty (by decide +kernel), _, rfl, iteF ?_⟩
      refine ⟨_, rfl, q, _, rfl, .inr (SqT.of h), rfl, false, rfl, iteF ?_⟩
      refine ⟨_, rfl, q, _, rfl, SqT.of h, rfl, ?_⟩
      refine ⟨_, _, rfl, ⟨_, _, rfl, ⟨_, _, rfl, ?_⟩⟩⟩
      refine ⟨rfl, _, rfl, .str cb, true, rfl, WdV.vw wa.cb, true, rfl, iteT ?_⟩
      have e0 : isW "returns" = false := by decide +kernel
      have ho2 : VW out ∨ out = "returns" := wa.out
      cases hd with
      | none =>
        refine ⟨_, rfl, rfl, true, rfl, iteT ⟨true, rfl, iteT ?_⟩⟩
        rcases ho2 with ho | rfl
        · exact ⟨_, rfl, _, true, rfl, WdV.vw ho, true, rfl, iteT k⟩
        · refine ⟨_, rfl, _, _, rfl, .str _ (show (Str.ofString "returns").length ≤ sizeLine by decide +kernel), _, rfl, ?_⟩
          rw [e0]
          exact iteF ⟨_, rfl, .str "returns", .str "returns", .str _, .str _, by decide +kernel, by decide +kernel, k⟩
      | some x =>
        refine ⟨_, rfl, rfl, false, rfl, iteF ⟨_, rfl, _, true, rfl, WdV.vw (wa.hd x rfl), true, rfl, iteT ?_⟩⟩
        rcases ho2 with ho | rfl
        · exact ⟨_, rfl, _, true, rfl, WdV.vw ho, true, rfl, iteT k⟩
        · refine ⟨_, rfl, _, _, rfl, .str _ (show (Str.ofString "returns").length ≤ sizeLine by decide +kernel), _, rfl, ?_⟩
          rw [e0]
          exact iteF ⟨_, rfl, .str "returns", .str "returns", .str _, .str _, by decide +kernel, by decide +kernel, k⟩
end
/-! NoAct -/
abbrev sNA : Stmt := inClass (top 5) 0
def naF (n : Nat) : List (Str × V) := [("place", .int n)]
def spNA (C : Addr) : Sp := fun vs H Q _ => ∃ (a : Addr) (v1 : V), vs = [.ref a, v1] ∧ H a = some (exo a C none) ∧
  ∀ (d : Addr) (H' : Hp), H d = none → d ≠ a → H' a = some (exo a C (some d)) → H' d = some (exd d [("place", v1)]) → (∀ b o, H b = some o → b ≠ a → H' b = some o) → Q .non H'
structure NAc (K : PySem.W.Frag) (mg : Str → Option Value) (C fI : Addr) : Prop where
  oex : OexC K C
  n1 : PySem.W.findIn K (.ref C) "place" = some none
  iC : PySem.W.findIn K (.ref C) "__init__" = some (some (.ref fI))
  tI : PySem.W.typeIn K (.ref fI) = some (.type "function")
  gC : mg "NoAct" = some (.ref C)
/-- values of which the first that is no act stands behind acts -/
structure BadA (K : PySem.W.Frag) (H : Hp) (xs : List V) (n : Nat) : Prop where
  ex : ∃ (ts : List Addr) (as : List LfX.Act) (v : V) (more : List V), xs = ts.map V.ref ++ v :: more ∧ ActsAt H ts as ∧ AllW as ∧ as.length = n ∧ n ≤ 1000 ∧ ActV K H v false
theorem BadA.same {K : PySem.W.Frag} {H H' : Hp} {xs : List V} {n : Nat} (h : BadA K H xs n) (s : Same H H') : BadA K H' xs n := by
  obtain ⟨ts, as, v, more, e, A, w, l, m, b⟩ := h.ex
  exact ⟨ts, as, v, more, e, A.mono fun b xs e => s b _ e, w, l, m, b.same s⟩
def spInX (K : PySem.W.Frag) (C CN : Addr) : Sp := fun vs H Q E => ∃ (p dx rt : Addr) (xs : List V) (n : Nat), vs = [.ref p, .ref rt] ∧ H p = some (.ins C dx []) ∧ H rt = some (.tup xs) ∧ BadA K H xs n ∧ ∀ (d : Addr) (H' : Hp), Same H H' → H' d = some (.xd (naF n)) → E (.ref CN) (some d) H'
def spInXR (K : PySem.W.Frag) (C CN : Addr) : Sp := fun vs H Q E => ∃ ws rest, vs = ws ++ rest ∧ ws.length = 1 ∧ rest.length ≤ sizeLine ∧ ∀ p, H p = none → spInX K C CN (ws ++ [V.ref p]) (upd H p (.tup rest)) Q E
theorem initAX {K : PySem.W.Frag} {C CN : Addr} {H : Hp} {xs : List V} {n : Nat} {Q : VK} {E : XK} (B : BadA K H xs n) (l : xs.length ≤ 5000) (k : ∀ (d : Addr) (H' : Hp), Same H H' → H' d = some (.xd (naF n)) → E (.ref CN) (some d) H') :
    ∀ x dx, H x = none → H dx = none → dx ≠ x → spInXR K C CN (V.ref x :: xs) (upd (upd H dx (.own x)) x (.ins C dx [])) (fun v H2 => v = .non ∧ Q (.ref x) H2) E := by
  intro x dx nx ndx ne
  refine ⟨[V.ref x], _, rfl, rfl, ?_, fun pt hpt => ?_⟩
  · show _ ≤ 16777216; omega
  have s1 : Same H (upd (upd H dx (.own x)) x (.ins C dx [])) := ((Same.refl H).put ndx).put nx
  have s2 : Same H (upd (upd (upd H dx (.own x)) x (.ins C dx [])) pt (.tup xs)) := s1.put (s1.free hpt)
  exact ⟨x, dx, pt, xs, n, rfl, by rw [upd_ne (ne_of_none upd_same hpt), upd_same], upd_same, B.same s2, fun d H' s e => k d H' (s2.trans s) e⟩
def spMdT (P : Program) (w : World) (C : Addr) : Sp := fun vs H Q _ => ∃ (l : Addr) (ts : List Addr) (as : List LfX.Act), vs = [.ref C, .ref l] ∧ (H l = some (.tup (ts.map V.ref)) ∨ H l = some (.lst (ts.map V.ref))) ∧ ActsAt H ts as ∧ AllW as ∧ as.length ≤ 1000 ∧ ∀ (r : Addr) (H' : Hp), AcW P w C H' r (lawSort as) → Same H H' → Q (.ref r) H'
def spMdX (K : PySem.W.Frag) (C CN : Addr) : Sp := fun vs H Q E => ∃ (l : Addr) (xs : List V) (n : Nat), vs = [.ref C, .ref l] ∧ H l = some (.lst xs) ∧ xs.length ≤ 5000 ∧ BadA K H xs n ∧ ∀ (d : Addr) (H' : Hp), Same H H' → H' d = some (.xd (naF n)) → E (.ref CN) (some d) H'
section
variable {P : Program} {w : World} {K : PySem.W.Frag} {mg : Str → Option Value} {base : Heap}
theorem scNA : FnScope ["self", "place"] ["self", "place"] (defScope sNA) := ⟨rfl, rfl, rfl, by decide +kernel, rfl, by decide +kernel, by decide +kernel⟩
theorem ok_na {f C : Addr} {fd : FuncData} (F : Fun K "__init__" "NoAct.__init__" sNA f fd) (M : NAc K mg C f) : FnOk P w K mg base CX0 1 f fd ["self", "place"] (spNA C) := by
  refine F.ok scNA (fun vs H Q E h => ?_) (fun cdv A outer s H vs Q E hr h => ?_)
  · obtain ⟨a, v1, rfl, _⟩ := h
    rfl
  · obtain ⟨a, v1, rfl, ha, k⟩ := h
    refine ⟨_, pss_one (ps_ost (pv 0) (pv 1)), ?_⟩
    refine ⟨_, rfl, _, rfl, a, C, rfl, M.oex, M.n1, .inl ⟨ha, fun d hd hne => ?_⟩⟩
    refine k d _ hd hne upd_same (by rw [upd_ne hne, upd_same]) fun b o hb n => ?_
    rw [upd_ne n, upd_ne (ne_of_none hb hd)]
    exact hb
theorem ok_inX {f C CN fIA fAO fI : Addr} {fd fdIA fdAO fdI : FuncData} (F : Fun K "__init__" "Acts.__init__" sIn f fd) (Y : TxA K mg C) (T : Bi mg) (mSo : mg "sorted" = none) (IA : Df K mg "is_act" sIA fIA fdIA ["x"]) (GIA : FnOk P w K mg base CX0 2 fIA fdIA ["x"] (spIAG K))
    (AO : Df K mg "act_order" sAO fAO fdAO ["act"]) (GAO : FnOk P w K mg base CX0 1 fAO fdAO ["act"] spAO) (M : NAc K mg CN fI) (GI : FnOk P w K mg base CX0 1 fI fdI ["self", "place"] (spNA CN)) (bI : Binds K fdI ["self", "place"] []) :
    FnR P w K mg base (L2.CX P w) 4 f (spInXR K C CN) := by
  obtain ⟨oc, od, kV, doc, pm, an, cdv, ct, osl, rfl, lk, hcd⟩ := F.ex
  refine StX.fn_star (ps := ["self"]) (pv := "rows") lk hcd scIn StX.cxUp (in_bind kV doc pm an cdv ct) fun A outer s H vs Q E hr h => ?_
  obtain ⟨p, dx, rt, xs, n, rfl, hp, ht, BD, kE⟩ := h
  obtain ⟨ts, as, bad, more, rfl, R, aw, al, n1000, BV⟩ := BD.ex
  have hr3 : Room 3 _ := hr
  have hr2 : Room 2 _ := hr.mono (by decide)
  have hu := hu_of hr
  have hu0 := Nat.lt_of_succ_lt hu
  refine ⟨_, (pss_cons (ps_for (passes_of rfl) rfl (pi_enumT (by rfl) T.enumerate (pa_cons (pv 1) pa_nil)) (pg_tup rfl (pgs_cons (pg_name (i := 2) scIn.nd rfl (Or.inl rfl)) (pgs_cons (pg_name (i := 3) scIn.nd rfl (Or.inl rfl)) pgs_nil)))
(pss_one (ps_if (pt_not (pt_val (pe_call GIA hr2 (by rfl) IA.m IA.F.kp IA.b .nil pass0 (pa_cons (pv 3) pa_nil))))
        (pss_one (ps_raise rfl (takes_of rfl rfl rfl rfl) (pmk_oex M.oex M.iC M.tI GI hr2 bI .nil pass0 (by rfl) M.gC (pa_cons (pv 2) pa_nil))))
        pss_nil)))
      (pss_cons (ps_fld (pv 0) (pe_dcL (own := [("row", 3)]) (g := gName 3) (tt := tYes) hu0 rfl scIn.nd (pi_tup (pv 1)) (blkOk_by (N := nIn) (sc := defScope sIn) (by decide +kernel)) (fun _ _ _ _ _ => pg_name (i := 3) scIn.nd rfl (Or.inl rfl)) (fun _ _ _ _ _ => pts_nil) (fun _ _ _ _ _ => pv 3) (fun _ _ _ _ _ => pe_bl)) rfl)
      (pss_one (ps_fld (pv 0) (pe_callTy call_tuple_of (by rfl) T.tuple (by decide +kernel) (pa_cons (pe_callBK (cr_sortedF GAO hr3 AO.b) (by rfl) mSo (by decide +kernel) (pa_cons (pe_callTy (call_list_L rfl) (by rfl) T.list (by decide +kernel) (pa_cons (pe_fld (pv 0) rfl) pa_nil)) pa_nil) (pk_cons (pe_glob (v := .ref fAO) rfl AO.m rfl) pk_nil)) pa_nil)) rfl)))), ?_⟩
  have tl : (ts.map V.ref).length = as.length := by rw [List.length_map, R.1]
  refine ⟨_, rfl, rt, _, rfl, ht, for_it (walk_enumT rt (ts.map V.ref ++ bad :: more)) (fun i σ Hc => i ≤ as.length ∧ ∃ (v3 v4 : Option V), σ = [some (.ref p), some (.ref rt), v3, v4] ∧ Same H Hc) ?_ ?_ ?_ ?_⟩
  · exact ⟨Nat.zero_le _, _, _, rfl, Same.refl H⟩
  · rintro i σ Hc _ ⟨_, v3, v4, rfl, sm⟩
    exact sm rt _ ht
  · rintro i y σ Hc Hy _ ⟨hin, v3, v4, rfl, sm⟩ ⟨T9, x, rfl, hT9, rfl, hx⟩
    have s9 : Same Hc (upd Hc T9 (.tup [V.int (i : Nat), x])) := (Same.refl Hc).put hT9
    by_cases hi : i < as.length
    · rw [List.getElem?_append_left (by rw [tl]; exact hi)] at hx
      obtain ⟨t, a, rfl, hai, hti, hta0, _⟩ := acts_nth R hx
      have hta := sm _ _ hta0
      have wa := aw _ (List.mem_of_getElem? hai)
      refine ⟨T9, _, rfl, SqT.of upd_same, rfl, _, _, rfl, _, _, rfl, rfl, ?_⟩
      refine ⟨_, rfl, .ref t, true, rfl, .act (s9 _ _ hta) wa, ?_⟩
      exact ⟨true, rfl, iteF ⟨by omega, _, _, rfl, sm.trans s9⟩⟩
    · obtain rfl : i = as.length := by omega
      rw [List.getElem?_append_right (by omega), tl, Nat.sub_self] at hx
      cases hx
      refine ⟨T9, _, rfl, SqT.of upd_same, rfl, _, _, rfl, _, _, rfl, rfl, ?_⟩
      have s92 := sm.trans s9
      refine ⟨_, rfl, bad, false, rfl, BV.same s92, ?_⟩
      refine ⟨false, rfl, iteT ?_⟩
      refine ⟨_, rfl, (by show 1 ≤ 1000; decide), fun a ha => ⟨a, _, rfl, upd_same, fun d3 H' hd3 hne e1 e2 k => ?_⟩⟩
      rw [upd_ne hne] at hd3
      refine ⟨rfl, d3, _, e1, e2, hd3, kE d3 _ (fun b o hb => ?_) (by rw [al]; exact upd_same)⟩
      have hb2 := s92 b _ hb
      have n1 := ne_of_none hb2 hd3
      have n2 := ne_of_none hb2 ha
      rw [upd_ne n1, del_ne n2]
      exact k b o (by rw [upd_ne n2]; exact hb2) n2
  · rintro σ Hc ⟨hle, _⟩
    rw [List.length_append, tl, List.length_cons] at hle
    omega
theorem ok_mdT {f fI C : Addr} {fd : FuncData} (F : Fun K "made" "Acts.made" sMd f fd) (M : Mk K C fI) (GI : FnR P w K mg base CX0 4 fI (spInR P w C)) : FnOk P w K mg base CX0 6 f fd ["cls", "rows"] (spMdT P w C) := by
  refine F.ok scMd (fun vs H Q E h => ?_) (fun cdv A outer s H vs Q E hr h => ?_)
  · obtain ⟨l, ts, as, rfl, _⟩ := h
    rfl
  · obtain ⟨l, ts, as, rfl, hl, R, g, h30, k⟩ := h
    have hr5 : Room 5 _ := hr
    refine ⟨_, pss_one (ps_ret (pe_makeL (i := 0) M GI hr5 rfl (Or.inl rfl) pass0 (pv 1))), ?_⟩
    exact ⟨rfl, _, rfl, l, _, rfl, hl.imp SqT.of SqL.of, initA R g h30 k⟩
theorem ok_mdX {f fI C CN : Addr} {fd : FuncData} (F : Fun K "made" "Acts.made" sMd f fd) (M : Mk K C fI) (GI : FnR P w K mg base (L2.CX P w) 4 fI (spInXR K C CN)) : FnOk P w K mg base (L2.CX P w) 6 f fd ["cls", "rows"] (spMdX K C CN) := by
  refine F.okX scMd (fun vs H Q E h => ?_) (fun cdv A outer s H vs Q E hr h => ?_)
  · obtain ⟨l, xs, n, rfl, _⟩ := h
    rfl
  · obtain ⟨l, xs, n, rfl, hl, hx, B, k⟩ := h
    refine ⟨_, pss_one (ps_ret (pe_makeL (i := 0) M GI hr rfl (Or.inl rfl) (passes_call (takes_of rfl rfl rfl rfl) fun _ _ _ _ h => h) (pv 1))), ?_⟩
    exact ⟨rfl, _, rfl, l, _, rfl, .inr (SqL.of hl), initAX B hx k⟩
end
end K2
end
section
set_option Elab.async false
set_option maxRecDepth 100000
set_option linter.all false
/-! whether two sets are combined as they must be -/
namespace K2
open PySem L2 LfX PySem.Spec PyProof.Rows
abbrev nRi : List Str := ["_law_first", "_law_others", "_law_one", "_law_two", "_law_both", "_law_left", "_law_right_here", "_law_found", "_law_due", "_law_k", "_law_act"]
structure OwnA (K : PySem.W.Frag) (C : Addr) : Prop where
  ha : PySem.W.findIn K (.ref C) "__class__" = some (some (.builtin "object.__class__"))
  hn : PySem.W.specialIn K (.builtin "object.__class__") "__get__" = some (some (.builtin "getset_descriptor.__get__"))
  htk : PySem.W.takesIn K (.builtin "object.__class__") = some true
  hm : PySem.W.mroIn K C (.type "object") = some true
theorem kit_own {K : PySem.W.Frag} (C : Addr) : PySem.W.kitOne K (.ref C) (.ref C) = some true := by
  unfold PySem.W.kitOne
  rw [if_pos (by simp)]
theorem AcW.ty {P : Program} {w : World} {K : PySem.W.Frag} {C p : Addr} {H : Hp} {as : List LfX.Act} (h : AcW P w C H p as) (c : Cls K C) (o : OwnA K C) : TyX K H (.ref p) (.ref C) := by
  obtain ⟨dx, fs, h1, _⟩ := h.ins
  exact .base (.ins h1 c o.ha o.hn o.htk o.hm)
theorem lawSort_nd (as : List LfX.Act) : (lawSort as).Nodup := (lawSort_ok as [] .nil List.nodup_nil).2.1
theorem lawSort_cg {as bs : List LfX.Act} (wa : AllW as) (h : ∀ y, y ∈ as ↔ y ∈ bs) : lawSort as = lawSort bs := by
  have w1 : ∀ a ∈ lawSort as, HdOk a := fun a ha => (wa a ((lawSort_mem as a).mp ha)).hdok
  rw [← lawSort_eq w1 (lawSort_nd as) (lawSort_mem as), ← lawSort_eq (as := bs) w1 (lawSort_nd as) fun y => (lawSort_mem as y).trans (h y)]
theorem lawSort_w {as : List LfX.Act} (wa : AllW as) : AllW (lawSort as) := fun a ha => wa a ((lawSort_mem as a).mp ha)
theorem filt_w {as : List LfX.Act} {p : LfX.Act → Bool} (wa : AllW as) : AllW (as.filter p) := fun a ha => wa a (List.mem_filter.mp ha).1
theorem app_w {as bs : List LfX.Act} (wa : AllW as) (wb : AllW bs) : AllW (as ++ bs) := fun a ha => (List.mem_append.mp ha).elim (wa a) (wb a)
theorem mem_inB (as bs : List LfX.Act) (y : LfX.Act) : y ∈ as.filter (inB bs) ↔ y ∈ as ∧ y ∈ bs := by simp [List.mem_filter, inB]
theorem mem_outB (as bs : List LfX.Act) (y : LfX.Act) : y ∈ as.filter (outB bs) ↔ y ∈ as ∧ y ∉ bs := by simp [List.mem_filter, outB]
def actsD (as : List LfX.Act) : PyData := .tuple (as.map actD)
theorem actD_depth (a : LfX.Act) : (actD a).depth ≤ 2 := by
  obtain ⟨cb, hd, out⟩ := a
  cases hd <;> (show 1 ≤ 2; omega)
theorem depthAll_le : ∀ {ds : List PyData} {n : Nat}, (∀ d ∈ ds, d.depth ≤ n) → PyData.depthAll ds ≤ n
  | [], _, _ => Nat.zero_le _
  | d :: ds, n, h => by
    show max d.depth (PyData.depthAll ds) ≤ n
    exact Nat.max_le.mpr ⟨h d List.mem_cons_self, depthAll_le fun x hx => h x (List.mem_cons_of_mem _ hx)⟩
theorem actsD_shaped {as : List LfX.Act} (wa : AllW as) : SeqAt.shaped (actsD as) = true := by
  have e : (actsD as).depth ≤ 64 := by
    have := depthAll_le (ds := as.map actD) (n := 2) fun d hd => by
      obtain ⟨a, _, rfl⟩ := List.mem_map.mp hd
      exact actD_depth a
    show PyData.depthAll (as.map actD) + 1 ≤ 64
    omega
  show (_ && decide _) = true
  rw [show (actsD as).canLay0 = true from actsD_lay as fun a ha => (wa a ha).ok, decide_eq_true e]
  rfl
theorem actsD_eqv (as : List LfX.Act) : PyData.eqv (actsD as) (actsD as) = true := by
  show PyData.eqvAll (as.map actD) (as.map actD) = true
  induction as with
  | nil => rfl
  | cons a as ih =>
    show (PyData.eqv (actD a) (actD a) && PyData.eqvAll (as.map actD) (as.map actD)) = true
    rw [ih, actD_eqv, decide_eq_true rfl]
    rfl
theorem actsT_dp {K : PySem.W.Frag} {H : Hp} {r : Addr} {qs : List Addr} {as : List LfX.Act} (h : H r = some (.tup (qs.map V.ref))) (A : ActsAt H qs as) : Dp K H (.ref r) (actsD as) := .tup (SqT.of h) (acts_dp A)
theorem empty_iff {as : List LfX.Act} {ts : List Addr} {H : Hp} (A : ActsAt H ts as) : (ts.map V.ref).isEmpty = as.isEmpty := by
  have h := A.1
  cases ts <;> cases as
  · rfl
  · simp at h
  · simp at h
  · rfl
/-- within, and nothing left -/
theorem within_left (as bs : List LfX.Act) : ((lawSort as).all fun a => decide (a ∈ lawSort bs)) = (as.filter (outB bs)).isEmpty := by
  rw [Bool.eq_iff_iff, List.all_eq_true, List.isEmpty_iff, List.filter_eq_nil_iff]
  constructor
  · intro h a ha
    have := h a ((lawSort_mem as a).mpr ha)
    have := (lawSort_mem bs a).mp (of_decide_eq_true this)
    simp [outB, this]
  · intro h a ha
    have := h a ((lawSort_mem as a).mp ha)
    have hb : a ∈ bs := by simpa [outB] using this
    exact decide_eq_true ((lawSort_mem bs a).mpr hb)
def spRi : Sp := fun vs H Q _ => ∃ (la lb : Addr) (ts us : List Addr) (as bs : List LfX.Act), vs = [.ref la, .ref lb] ∧ H la = some (.lst (ts.map V.ref)) ∧ ActsAt H ts as ∧ H lb = some (.lst (us.map V.ref)) ∧ ActsAt H us bs ∧ AllW as ∧ AllW bs ∧ as.length ≤ 200 ∧ bs.length ≤ 200 ∧ ∀ H', Same H H' → Q (.bl true) H'
section
variable {P : Program} {w : World} {K : PySem.W.Frag} {mg : Str → Option Value} {base : Heap}
end
end K2
end
section
set_option Elab.async false
set_option maxRecDepth 100000
set_option linter.all false
/-! the law's order; x in a set, sets beside one another -/
namespace K2
open PySem L2 LfX PySem.Spec PyProof.Rows
abbrev sSoB : Stmt := top 21
abbrev nSoB : List Str := ["_law_acts", "_law_found", "_law_act", "_law_at", "_law_one"]
abbrev sQe : Stmt := inClass (top 13) 4
def spCoG (P : Program) (w : World) (K : PySem.W.Frag) (C : Addr) : Sp := fun vs H Q _ => ∃ (p : Addr) (x : V) (as : List LfX.Act), vs = [.ref p, x] ∧ AcW P w C H p as ∧ ((∃ (q : Addr) (a : LfX.Act), x = .ref q ∧ H q = some (.tup (actVs a)) ∧ ActW a ∧ Q (.bl (decide (a ∈ as))) H) ∨ (ActV K H x false ∧ Q (.bl false) H))
def spEqA (P : Program) (w : World) (K : PySem.W.Frag) (C : Addr) : Sp := fun vs H Q _ => ∃ (p : Addr) (y : V) (as : List LfX.Act), vs = [.ref p, y] ∧ AcW P w C H p as ∧ AllW as ∧ ((∃ (q : Addr) (bs : List LfX.Act), y = .ref q ∧ AcW P w C H q bs ∧ AllW bs ∧ Q (.bl (decide (as = bs))) H) ∨ (∃ t, TyX K H y t ∧ PySem.W.kitOne K t (.ref C) = some false ∧ Q (.bl false) H))
theorem actsD_eqv2 (as bs : List LfX.Act) : PyData.eqv (actsD as) (actsD bs) = decide (as = bs) := by
  show PyData.eqvAll (as.map actD) (bs.map actD) = _
  induction as generalizing bs with
  | nil => cases bs <;> simp [PyData.eqvAll]
  | cons a as ih =>
    cases bs with
    | nil => simp [PyData.eqvAll]
    | cons b bs =>
      show (PyData.eqv (actD a) (actD b) && PyData.eqvAll (as.map actD) (bs.map actD)) = _
      rw [ih, actD_eqv]
      by_cases h : a = b <;> simp [h]
section
variable {P : Program} {w : World} {K : PySem.W.Frag} {mg : Str → Option Value} {base : Heap}
theorem scSoB : FnScope nSoB ["_law_acts"] (defScope sSoB) := ⟨rfl, rfl, rfl, by decide +kernel, rfl, by decide +kernel, by decide +kernel⟩
theorem scQe : FnScope ["self", "other"] ["self", "other"] (defScope sQe) := ⟨rfl, rfl, rfl, by decide +kernel, rfl, by decide +kernel, by decide +kernel⟩
theorem ok_so {f fP : Addr} {fd fdP : FuncData} (F : Fun K "_law_sorted" "_law_sorted" sSoB f fd) (T : Bi mg) (PL : Df K mg "_law_place" sPl fP fdP ["_law_act"]) (GPl : FnOk P w K mg base CX0 1 fP fdP ["_law_act"] spPl) :
    FnOk P w K mg base CX0 2 f fd ["_law_acts"] spSo := by
  refine F.ok scSoB (fun vs H Q E h => ?_) (fun cdv A outer s H vs Q E hr h => ?_)
  · obtain ⟨l, ts, as, rfl, _⟩ := h
    rfl
  · obtain ⟨l, ts, as, rfl, hl, AT, wa, hn, k⟩ := h
    have hr1 : Room 1 _ := hr
    have hu65 := u65 hr
    refine ⟨_, (pss_cons (ps_set (i := 1) scSoB.nd rfl (Or.inl rfl) (pe_lst pa_nil))
      (pss_cons (ps_for PassesOwn.never rfl (pi_list (pv 0)) (pg_name (i := 2) scSoB.nd rfl (Or.inr rfl))
      (pss_one (ps_if (pt_cmpR (op_ninDt hu65) (pv 2) (pv 1) rfl)
        (pss_cons (ps_set (i := 3) scSoB.nd rfl (Or.inl rfl) (pe_callB call_len_seq (by rfl) T.len PySem.boot_len (pa_cons (pe_lc (own := [("_law_one", 4)]) (g := gName 4) (tt := tPl) rfl scSoB.nd (pi_list (pv 1)) (blkOk_by (N := nSoB) (sc := defScope sSoB) (by decide +kernel)) (fun _ _ _ _ _ => pg_name (i := 4) scSoB.nd rfl (Or.inl rfl)) (fun s1 H1 C1 cl1 fp1 => pts_one ?el0) (fun _ _ _ _ _ => pv 4)) pa_nil)))
          (pss_one (ps_set (i := 1) scSoB.nd rfl (Or.inl rfl) (pe_op op_cat (pe_op op_cat (pe_slice sl_list (pv 1) po_none (po_some (pv 3))) (pe_lst (pa_cons (pv 2) pa_nil))) (pe_slice sl_list (pv 1) (po_some (pv 3)) po_none)))))
        pss_nil)))
      (pss_one (ps_ret (pe_callTy call_tuple_of (by rfl) T.tuple (by decide +kernel) (pa_cons (pv 1) pa_nil)))))), ?_⟩
    case el0 =>
      refine pt_imp (pt_cmpR (op_ltDt hu65) (pe_call GPl hr1 (by rfl) PL.m PL.F.kp PL.b .nil pass0 (pa_cons (pv 4) pa_nil)) (pe_call GPl hr1 (by rfl) PL.m PL.F.kp PL.b .nil pass0 (pa_cons (pv 2) pa_nil)) (nomark _)) fun σ H Q h => ?_
      obtain ⟨q, q2, a, b, e4, e2, hq, hq2, oa, ob, k⟩ := h
      refine ⟨_, e4, q, a, rfl, hq, fun r hr0 => ?_⟩
      have s1 : Same H (upd H r (.tup (plVs a))) := (Same.refl H).put hr0
      have e1 : (upd H r (.tup (plVs a))) r = some (.tup (plVs a)) := upd_same
      generalize upd H r (.tup (plVs a)) = H1 at s1 e1 ⊢
      refine ⟨_, e2, q2, b, rfl, s1 _ _ hq2, fun r2 hr2 => ?_⟩
      have s2 : Same H1 (upd H1 r2 (.tup (plVs b))) := (Same.refl H1).put hr2
      exact rLtDt_place oa ob (s2 _ _ e1) upd_same ⟨_, rfl, k _ (s1.trans s2)⟩
    refine ⟨Nat.zero_le _, fun l0 hl0 => ?_⟩
    have s0 : Same H (upd H l0 (.lst [])) := (Same.refl H).put hl0
    have e0 : (upd H l0 (.lst [])) l0 = some (.lst []) := upd_same
    generalize upd H l0 (.lst []) = H0 at s0 e0 ⊢
    refine ⟨_, rfl, l, rfl, ⟨_, SqL.of (s0 _ _ hl)⟩, ?_⟩
    refine for_list (K := K) (a := l) (xs := ts.map V.ref) (fun i σ Hc => ∃ (l1 : Addr) (qs : List Addr) (v2 v3 v4 : Option V), σ = [some (.ref l), some (.ref l1), v2, v3, v4] ∧ Hc l1 = some (.lst (qs.map V.ref)) ∧ ActsAt Hc qs (upto as i) ∧ Same H Hc) ?_ ?_ ?_ ?_
    · exact ⟨l0, [], _, _, _, rfl, e0, ⟨rfl, fun j q a h => by simp at h⟩, s0⟩
    · rintro i σ Hc _ ⟨l1, qs, v2, v3, v4, rfl, e1, A1, sm⟩
      exact SqL.of (sm _ _ hl)
    · rintro i x σ Hc hx ⟨l1, qs, v2, v3, v4, rfl, e1, A1, sm⟩
      obtain ⟨q, b, rfl, hb, hqi, hqb, hi⟩ := acts_nth AT hx
      have wb := wa b (List.mem_of_getElem? hb)
      have wu : ∀ y ∈ upto as i, ActW y := fun y hy => wa y (upto_mem hy)
      have ul := upto_len as i
      have ll : qs.length = (upto as i).length := A1.1
      refine ⟨_, rfl, _, rfl, rInDt_act wb.ok (fun y hy => (wu y hy).ok) (sm _ _ hqb) (SqL.of e1) A1 ⟨_, rfl, ?_⟩⟩
      show if (!decide (b ∈ upto as i)) = true then _ else _
      have us := upto_succ hb
      unfold step1 at us
      by_cases hin : b ∈ upto as i
      · rw [decide_eq_true hin]
        refine iteF ?_
        rw [if_pos hin] at us
        exact ⟨l1, qs, _, _, _, rfl, e1, by rw [us]; exact A1, sm⟩
      · rw [decide_eq_false hin]
        rw [if_neg hin] at us
        refine iteT ?_
        refine ⟨_, rfl, l1, rfl, ⟨_, SqL.of e1⟩, fun D hD => ?_⟩
        refine pick_lst (K := K) (p := fun y => ltA y b) e1 A1 hD (by omega) (fun x y Hd Yes No hy hx2 sd hyes hno => ?_) ?_
        · refine ⟨rfl, x, q, y, b, rfl, rfl, hx2, sd _ _ (sm _ _ hqb), (wu y hy).one, wb.one, fun H' s' => ?_⟩
          show if ltA y b = true then _ else _
          cases hlt : ltA y b with
          | true => exact iteT ⟨_, rfl, hyes hlt _ s'⟩
          | false => exact iteF (hno hlt _ s')
        · rintro H2 ⟨qs2, e2, A2, s2⟩
          have fl := List.length_filter_le (fun y => ltA y b) (upto as i)
          generalize hn2 : ((upto as i).filter fun y => ltA y b).length = n2 at fl
          have e3 : (qs2.map V.ref).length = n2 := by rw [List.length_map, A2.1, hn2]
          refine ⟨D, _, rfl, .inl (SqL.of e2), ?_⟩
          rw [e3]
          have e12 := s2 _ _ e1
          have A12 := A1.mono fun b xs e => s2 _ _ e
          have ml : (qs.map V.ref).length = (upto as i).length := by rw [List.length_map]; exact ll
          refine ⟨_, rfl, _, rfl, _, rfl, l1, _, rfl, SqL.of e12, fun c1 hc1 => ?_⟩
          rw [cutT_upto (by omega)]
          have t1 : Same H2 (upd H2 c1 (.lst ((qs.map V.ref).take n2))) := (Same.refl H2).put hc1
          have g1 : (upd H2 c1 (.lst ((qs.map V.ref).take n2))) c1 = some (.lst ((qs.map V.ref).take n2)) := upd_same
          generalize upd H2 c1 (.lst ((qs.map V.ref).take n2)) = H3 at t1 g1 ⊢
          refine ⟨_, rfl, (by show 1 ≤ sizeLine; decide), fun c2 hc2 => ?_⟩
          have t2 : Same H3 (upd H3 c2 (.lst [V.ref q])) := (Same.refl H3).put hc2
          have g2 : (upd H3 c2 (.lst [V.ref q])) c2 = some (.lst [V.ref q]) := upd_same
          generalize upd H3 c2 (.lst [V.ref q]) = H4 at t2 g2 ⊢
          refine ⟨c1, c2, _, _, rfl, rfl, t2 _ _ g1, g2, ?_, fun c3 hc3 => ?_⟩
          · rw [List.length_take]; show _ + 1 ≤ 16777216; omega
          have t3 : Same H4 (upd H4 c3 (.lst ((qs.map V.ref).take n2 ++ [V.ref q]))) := (Same.refl H4).put hc3
          have g3 : (upd H4 c3 (.lst ((qs.map V.ref).take n2 ++ [V.ref q]))) c3 = some (.lst ((qs.map V.ref).take n2 ++ [V.ref q])) := upd_same
          generalize upd H4 c3 (.lst ((qs.map V.ref).take n2 ++ [V.ref q])) = H5 at t3 g3 ⊢
          refine ⟨_, rfl, _, rfl, _, rfl, l1, _, rfl, SqL.of (t3 _ _ (t2 _ _ (t1 _ _ e12))), fun c4 hc4 => ?_⟩
          rw [cutT_from (by omega)]
          have t4 : Same H5 (upd H5 c4 (.lst ((qs.map V.ref).drop n2))) := (Same.refl H5).put hc4
          have g4 : (upd H5 c4 (.lst ((qs.map V.ref).drop n2))) c4 = some (.lst ((qs.map V.ref).drop n2)) := upd_same
          generalize upd H5 c4 (.lst ((qs.map V.ref).drop n2)) = H6 at t4 g4 ⊢
          refine ⟨c3, c4, _, _, rfl, rfl, t4 _ _ g3, g4, ?_, fun c5 hc5 => ?_⟩
          · rw [List.length_append, List.length_take, List.length_drop]; show _ + 1 + _ ≤ 16777216; omega
          have t5 : Same H6 (upd H6 c5 (.lst ((qs.map V.ref).take n2 ++ [V.ref q] ++ (qs.map V.ref).drop n2))) := (Same.refl H6).put hc5
          have s26 := ((((t1.trans t2).trans t3).trans t4).trans t5)
          have s6 := (sm.trans s2).trans s26
          refine ⟨c5, qs.take n2 ++ [q] ++ qs.drop n2, _, _, _, rfl, ?_, ?_, s6⟩
          · rw [upd_same, List.map_append, List.map_append, List.map_take, List.map_drop]
            rfl
          · rw [us]
            unfold insA
            rw [hn2]
            have A6 := A12.mono fun b xs e => s26 _ _ e
            exact acts_app (acts_snoc (acts_take A6 n2) (s6 _ _ hqb)) (acts_drop A6 n2)
    · rintro σ Hc ⟨l1, qs, v2, v3, v4, rfl, e1, A1, sm⟩
      rw [List.length_map, AT.1, upto_all] at A1
      refine ⟨_, rfl, l1, _, rfl, .inl ⟨SqL.of e1, fun r hr0 => ?_⟩⟩
      have sr : Same Hc (upd Hc r (.tup (qs.map V.ref))) := (Same.refl Hc).put hr0
      exact k r qs _ upd_same (A1.mono fun b xs e => sr _ _ e) (sm.trans sr)
theorem ok_coG {f C fIA : Addr} {fd fdIA : FuncData} (F : Fun K "__contains__" "Acts.__contains__" sCo f fd) (Y : TxA K mg C) (IA : Df K mg "is_act" sIA fIA fdIA ["x"]) (GIA : FnOk P w K mg base CX0 2 fIA fdIA ["x"] (spIAG K)) : FnOk P w K mg base CX0 3 f fd ["self", "x"] (spCoG P w K C) := by
  refine F.ok scCo (fun vs H Q E h => ?_) (fun cdv A outer s H vs Q E hr h => ?_)
  · obtain ⟨p, x, as, rfl, _⟩ := h
    rfl
  · obtain ⟨p, x, as, rfl, ⟨dx, d, r, xs, qs, h1, h2, h3, h4, h5⟩, k⟩ := h
    have hr2 : Room 2 _ := hr
    have hu := hu_of hr
    refine ⟨_, (pss_one (ps_ret (pe_and (pe_call GIA hr2 (by rfl) IA.m IA.F.kp IA.b .nil pass0 (pa_cons (pv 1) pa_nil)) (pe_one (pe_cmpR (op_inL hu) (pv 1) (pe_fld (pv 0) rfl) rfl))))), ?_⟩
    rcases k with ⟨q, a, rfl, hq, wa, k⟩ | ⟨nb, k⟩
    · refine ⟨_, rfl, _, true, rfl, .act hq wa, ?_⟩
      have hq2 := hq
      rw [← act_leaves] at hq2
      refine ⟨true, rfl, iteT ⟨_, rfl, _, rfl, p, C, dx, _, _, rfl, h1, Y.cl, Y.nK, fldA_known _ _, q, d, actL a, xs, rfl, rfl, hq2, h2, ?_⟩⟩
      rw [if_neg Bool.false_ne_true, decide_eq_decide.mpr (h3 a)]
      exact k
    · exact ⟨_, rfl, _, false, rfl, nb, false, rfl, iteF k⟩
theorem ok_qe {f C : Addr} {fd : FuncData} (F : Fun K "__eq__" "Acts.__eq__" sQe f fd) (Y : TxA K mg C) (T : Bi mg) (O : OwnA K C) : FnOk P w K mg base CX0 1 f fd ["self", "other"] (spEqA P w K C) := by
  refine F.ok scQe (fun vs H Q E h => ?_) (fun cdv A outer s H vs Q E hr h => ?_)
  · obtain ⟨p, x, as, rfl, _⟩ := h
    rfl
  · obtain ⟨p, x, as, rfl, aw, wa, k⟩ := h
    refine ⟨_, pss_one (ps_ret (pe_and (pe_callB call_isi (by rfl) T.isinstance (by decide +kernel) (pa_cons (pv 1) (pa_cons (pe_glob (v := .ref C) rfl Y.mgC rfl) pa_nil))) (pe_one (pe_cmpR (op_eqD hr.units) (pe_fld (pv 0) rfl) (pe_fld (pv 1) rfl) (nomark _))))), ?_⟩
    rcases k with ⟨q, bs, rfl, bw, wb, k⟩ | ⟨t, ht, hk, k⟩
    · refine ⟨_, rfl, _, _, _, _, true, rfl, .own C, bw.ty Y.cl O, kit_own C, _, rfl, ?_⟩
      obtain ⟨dx, d, r, xs, qs, h1, h2, h3, h4, h5⟩ := aw
      obtain ⟨dy, d', r', ys, qs', g1, g2, g3, g4, g5⟩ := bw
      refine iteT ⟨_, rfl, p, C, dx, _, _, rfl, h1, Y.cl, Y.nR, fldA_rows _ _, _, rfl, q, C, dy, _, _, rfl, g1, Y.cl, Y.nR, fldA_rows _ _, actsD as, actsD bs, actsT_dp h4 h5, actsT_dp g4 g5, actsD_shaped wa, actsD_shaped wb, ?_⟩
      rw [actsD_eqv2]
      exact k
    · exact ⟨_, rfl, _, _, _, _, false, rfl, .own C, ht, hk, _, rfl, iteF k⟩
end
end K2
end
section
set_option Elab.async false
set_option maxRecDepth 100000
set_option linter.all false
/-! drawn acts -/
namespace K2
open PySem L2 LfX PySem.Spec PyProof.Rows
abbrev sDr : Stmt := top 22
abbrev nDr : List Str := ["_law_pen_here", "_law_words_here", "_law_classes", "_law_found", "_law_k", "_law_while_handled", "_law_outcome"]
def spDr : Sp := fun vs H Q _ => ∃ (p c : Addr) (ns : List Int) (n : Nat), vs = [.ref p] ∧ Pen H p c ns n ∧ n + 400 ≤ 100000 ∧
  ∀ (l : Addr) (ts : List Addr) (as : List LfX.Act) (H' : Hp), H' l = some (.lst (ts.map V.ref)) → ActsAt H' ts as → AllW as → as.length ≤ 16 → l ≠ p → Keep p H H' → Pen H' p c ns (n + 320) → Q (.ref l) H'
theorem pick6 {j : Nat} (hj : j < 6) : ∃ m : Nat, [V.int 0, .int 1, .int 2, .int 5, .int 9, .int 16][j]? = some (.int (m : Int)) ∧ m ≤ 16 := by
  match j, hj with
  | 0, _ => exact ⟨0, rfl, by omega⟩
  | 1, _ => exact ⟨1, rfl, by omega⟩
  | 2, _ => exact ⟨2, rfl, by omega⟩
  | 3, _ => exact ⟨5, rfl, by omega⟩
  | 4, _ => exact ⟨9, rfl, by omega⟩
  | 5, _ => exact ⟨16, rfl, by omega⟩
  | n + 6, h => exact absurd h (by omega)
section
variable {P : Program} {w : World} {K : PySem.W.Frag} {mg : Str → Option Value} {base : Heap}
theorem scDr : FnScope nDr ["_law_pen_here"] (defScope sDr) := ⟨rfl, rfl, rfl, by decide +kernel, rfl, by decide +kernel, by decide +kernel⟩
theorem ok_dr {f fD fW : Addr} {fd fdD fdW : FuncData} (F : Fun K "_law_drawn" "_law_drawn" sDr f fd) (T : Bi mg) (D : Df K mg "_law_draw" sDraw fD fdD ["_law_pen_here", "_law_many"]) (GD : FnOk P w K mg base CX0 1 fD fdD ["_law_pen_here", "_law_many"] spDraw)
    (WO : Df K mg "_law_words" sWords fW fdW ["_law_pen_here", "_law_many"]) (GW : FnOk P w K mg base CX0 3 fW fdW ["_law_pen_here", "_law_many"] spWordsB) :
    FnOk P w K mg base CX0 4 f fd ["_law_pen_here"] spDr := by
  refine F.ok scDr (fun vs H Q E h => ?_) (fun cdv A outer s H vs Q E hr h => ?_)
  · obtain ⟨p, c, ns, n, rfl, _⟩ := h
    rfl
  · obtain ⟨p, c, ns, n, rfl, Pz, hn, k⟩ := h
    have hr3 : Room 3 _ := hr
    have hr1 : Room 1 _ := hr.mono (by decide)
    refine ⟨_, (pss_cons (ps_set (i := 1) scDr.nd rfl (Or.inl rfl) (pe_call GW hr3 (by rfl) WO.m WO.F.kp WO.b .nil pass0 (pa_cons (pv 0) (pa_cons pe_int pa_nil))))
      (pss_cons (ps_set (i := 2) scDr.nd rfl (Or.inl rfl) (pe_op op_cat (pe_slice sl_list (pv 1) (po_some pe_int) po_none) (pe_lst (pa_cons pe_str (pa_cons pe_str pa_nil)))))
      (pss_cons (ps_set (i := 3) scDr.nd rfl (Or.inl rfl) (pe_lst pa_nil))
      (pss_cons (ps_for PassesOwn.never rfl (pi_range1 rfl T.range (pa_cons (pe_ix ix_list (pe_lst (pa_cons pe_int (pa_cons pe_int (pa_cons pe_int (pa_cons pe_int (pa_cons pe_int (pa_cons pe_int pa_nil))))))) (pe_call GD hr1 (by rfl) D.m D.F.kp D.b .nil pass0 (pa_cons (pv 0) (pa_cons pe_int pa_nil))) (fun _ _ => rfl)) pa_nil)) (pg_name (i := 4) scDr.nd rfl (Or.inl rfl))
      (pss_cons (ps_set (i := 5) scDr.nd rfl (Or.inl rfl) (pe_ix ix_list (pe_op op_cat (pe_lst (pa_cons pe_non pa_nil)) (pv 2)) (pe_call GD hr1 (by rfl) D.m D.F.kp D.b .nil pass0 (pa_cons (pv 0) (pa_cons pe_int pa_nil))) (fun _ _ => rfl)))
        (pss_cons (ps_set (i := 6) scDr.nd rfl (Or.inl rfl) (pe_ix ix_list (pe_op op_cat (pe_lst (pa_cons pe_str pa_nil)) (pv 2)) (pe_call GD hr1 (by rfl) D.m D.F.kp D.b .nil pass0 (pa_cons (pv 0) (pa_cons pe_int pa_nil))) (fun _ _ => rfl)))
        (pss_one (ps_expr (pe_bm PySem.F.plainAttrs_list PySem.F.slot_list_append PySem.F.type_list_append mt_append (pv 3) (pa_cons (pe_tup (pa_cons (pe_ix ix_list (pv 1) (pe_call GD hr1 (by rfl) D.m D.F.kp D.b .nil pass0 (pa_cons (pv 0) (pa_cons pe_int pa_nil))) (fun _ _ => rfl)) (pa_cons (pv 5) (pa_cons (pv 6) pa_nil)))) pa_nil)))))))
      (pss_one (ps_ret (pv 3))))))), ?_⟩
    refine ⟨_, rfl, p, c, ns, n, 8, rfl, Pz, by omega, by decide, fun lo ws Ha hws hwn hlo nlo ka Pa => ?_⟩
    have lw : (ws.map V.str).length = 8 := by rw [List.length_map]; exact hwn
    refine ⟨_, rfl, 3, rfl, lo, _, rfl, SqL.of hlo, fun w1 hw1 => ?_⟩
    rw [show (3 : Int) = ((3 : Nat) : Int) from rfl, cutT_from (by omega), ← List.map_drop]
    have s1 : Same Ha (upd Ha w1 (.lst ((ws.drop 3).map V.str))) := (Same.refl Ha).put hw1
    have g1 : (upd Ha w1 (.lst ((ws.drop 3).map V.str))) w1 = some (.lst ((ws.drop 3).map V.str)) := upd_same
    generalize upd Ha w1 (.lst ((ws.drop 3).map V.str)) = H1 at s1 g1 ⊢
    refine ⟨(by show 2 ≤ sizeLine; decide), fun w2 hw2 => ?_⟩
    have s2 : Same H1 (upd H1 w2 (.lst [V.str "error", .str "vacant"])) := (Same.refl H1).put hw2
    have g2 : (upd H1 w2 (.lst [V.str "error", .str "vacant"])) w2 = some (.lst [V.str "error", .str "vacant"]) := upd_same
    generalize upd H1 w2 (.lst [V.str "error", .str "vacant"]) = H2 at s2 g2 ⊢
    refine ⟨w1, w2, _, _, rfl, rfl, s2 _ _ g1, g2, (by rw [List.length_map, List.length_drop]; show _ + 2 ≤ 16777216; omega), fun lc hlc0 => ?_⟩
    have nlc : lc ≠ p := (((Pa.same s1).same s2).pne hlc0).symm
    have ecs : (ws.drop 3).map V.str ++ [V.str "error", .str "vacant"] = (ws.drop 3 ++ [("error" : Str), "vacant"]).map V.str := by rw [List.map_append]; rfl
    rw [ecs]
    obtain ⟨cs, hcs⟩ : ∃ cs, cs = ws.drop 3 ++ [("error" : Str), "vacant"] := ⟨_, rfl⟩
    rw [← hcs]
    have cl7 : cs.length = 7 := by rw [hcs, List.length_append, List.length_drop, hwn]; rfl
    have vc : ∀ x ∈ cs, VW x := fun x hx => by
      rw [hcs] at hx
      rcases List.mem_append.mp hx with hx | hx
      · exact hws.vw x (List.mem_of_mem_drop hx)
      · simp only [List.mem_cons, List.not_mem_nil, or_false] at hx
        rcases hx with rfl | rfl
        · exact vw_err
        · exact vw_vac
    have s3 : Same H2 (upd H2 lc (.lst (cs.map V.str))) := (Same.refl H2).put hlc0
    have hlc : (upd H2 lc (.lst (cs.map V.str))) lc = some (.lst (cs.map V.str)) := upd_same
    generalize upd H2 lc (.lst (cs.map V.str)) = H3 at s3 hlc ⊢
    have s03 := (s1.trans s2).trans s3
    have P0 := (Pa.same s03).mono (m := n + 260) (by omega)
    replace hlo := s03 _ _ hlo
    have k03 := ka.trans s03.keep
    clear s1 s2 s3 g1 g2 s03 ecs hcs
    refine ⟨Nat.zero_le _, fun l hl => ?_⟩
    have nl : l ≠ p := (P0.pne hl).symm
    have ncl : c ≠ l := P0.cne hl
    have nlcl : lc ≠ l := ne_of_none hlc hl
    have nlol : lo ≠ l := ne_of_none hlo hl
    have hlH : H l = none := k03.fresh P0 hl
    have hlc1 := (Keep.refl p H3).new (o := .lst []) hl _ _ hlc nlc
    have hlo1 := (Keep.refl p H3).new (o := .lst []) hl _ _ hlo nlo
    have k04 := k03.trans ((Keep.refl p H3).new (o := .lst []) hl)
    have P1 := P0.new (o := .lst []) hl
    have hl1 : (upd H3 l (.lst [])) l = some (.lst []) := upd_same
    generalize upd H3 l (.lst []) = H4 at hlc1 hlo1 k04 P1 hl1 ⊢
    refine ⟨(by show 6 ≤ sizeLine; decide), fun l5 hl5 => ?_⟩
    obtain ⟨zs, hzs⟩ : ∃ zs : List V, zs = [V.int 0, .int 1, .int 2, .int 5, .int 9, .int 16] := ⟨_, rfl⟩
    rw [← hzs]
    have s5 : Same H4 (upd H4 l5 (.lst zs)) := (Same.refl H4).put hl5
    have g5 : (upd H4 l5 (.lst zs)) l5 = some (.lst zs) := upd_same
    have n5 : l5 ≠ p := (P1.pne hl5).symm
    generalize upd H4 l5 (.lst zs) = H5 at s5 g5 ⊢
    refine ⟨_, rfl, p, c, ns, _, 6, rfl, P1.same s5, by omega, by decide, by decide, fun dv H6 d0 d1 k6 P6 => ?_⟩
    obtain ⟨j, rfl⟩ : ∃ j : Nat, dv = (j : Int) := ⟨dv.toNat, (Int.toNat_of_nonneg d0).symm⟩
    obtain ⟨m, hm, m16⟩ : ∃ m : Nat, zs[j]? = some (.int (m : Int)) ∧ m ≤ 16 := by
      rw [hzs]
      exact pick6 (by omega)
    refine ⟨l5, _, _, _, rfl, rfl, SqL.of (k6 _ _ g5 n5), atI_nat (j := j) hm, ?_⟩
    have k46 := s5.keep.trans k6
    have hlc6 := k46 _ _ hlc1 nlc
    have hlo6 := k46 _ _ hlo1 nlo
    have hl6 := k46 _ _ hl1 nl
    have k06 := k04.trans k46
    clear hlc hlo hlc1 hlo1 hl1
    refine ⟨_, rfl, by omega, by omega, for_range (lo := 0) (n := m) (fun i σ Hc => ∃ (v5 v6 v7 : Option V) (ts : List Addr) (as : List LfX.Act), σ = [some (.ref p), some (.ref lo), some (.ref lc), some (.ref l), v5, v6, v7] ∧
      Hc l = some (.lst (ts.map V.ref)) ∧ ActsAt Hc ts as ∧ AllW as ∧ as.length = i ∧ Keep p H Hc ∧ Hc lc = some (.lst (cs.map V.str)) ∧ Hc lo = some (.lst (ws.map V.str)) ∧ Pen Hc p c ns (n + 261 + 3 * i)) ?_ ?_ ?_⟩
    · exact ⟨_, _, _, [], [], rfl, hl6, ⟨rfl, fun j q a h => by simp at h⟩, fun a ha => by simp at ha, rfl, k06, hlc6, hlo6, P6.mono (by omega)⟩
    · rintro i σ Hc hi ⟨v5, v6, v7, ts, as, rfl, hL, AT, wa, al, kc, hlc0', hlo0', Pc⟩
      have vo : ∀ x ∈ ws, VW x := hws.vw
      have hlc0 := hlc0'
      have hlo0 := hlo0'
      refine ⟨(by show 1 ≤ sizeLine; decide), fun b1 hb1 => ?_⟩
      have s1 : Same Hc (upd Hc b1 (.lst [V.non])) := (Same.refl Hc).put hb1
      have e1 : (upd Hc b1 (.lst [V.non])) b1 = some (.lst [V.non]) := upd_same
      generalize upd Hc b1 (.lst [V.non]) = H1 at s1 e1 ⊢
      refine ⟨_, rfl, b1, lc, _, _, rfl, rfl, e1, s1 _ _ hlc0, (by rw [List.length_map]; show 1 + _ ≤ 16777216; omega), fun b2 hb2 => ?_⟩
      have s2 : Same H1 (upd H1 b2 (.lst ([V.non] ++ cs.map V.str))) := (Same.refl H1).put hb2
      have e2 : (upd H1 b2 (.lst ([V.non] ++ cs.map V.str))) b2 = some (.lst ([V.non] ++ cs.map V.str)) := upd_same
      generalize upd H1 b2 (.lst ([V.non] ++ cs.map V.str)) = H2 at s2 e2 ⊢
      have s02 := s1.trans s2
      have P2 := Pc.same s02
      have nb2 : b2 ≠ p := fun e => by
        obtain ⟨a, l', hp', _⟩ := (Pc.same s1).pen
        rw [← e, hb2] at hp'
        cases hp'
      refine ⟨_, rfl, p, c, ns, n + 261 + 3 * i, 8, rfl, P2, by omega, by decide, by decide, fun dv H3 d0 d1 k3 P3 => ?_⟩
      obtain ⟨j, rfl⟩ : ∃ j : Nat, dv = (j : Int) := ⟨dv.toNat, (Int.toNat_of_nonneg d0).symm⟩
      obtain ⟨vh, hvh, eh⟩ := head_or V.non cs (j := j) (by omega)
      refine ⟨b2, _, _, _, rfl, rfl, SqL.of (k3 _ _ e2 nb2), atI_nat (j := j) hvh, ?_⟩
      have k03 := s02.keep.trans k3
      clear s1 s2 e1 e2 s02 P2
      have hlc3 := k03 _ _ hlc0 nlc
      refine ⟨(by show 1 ≤ sizeLine; decide), fun b3 hb3 => ?_⟩
      have s1 : Same H3 (upd H3 b3 (.lst [V.str "returns"])) := (Same.refl H3).put hb3
      have e1 : (upd H3 b3 (.lst [V.str "returns"])) b3 = some (.lst [V.str "returns"]) := upd_same
      generalize upd H3 b3 (.lst [V.str "returns"]) = H4 at s1 e1 ⊢
      refine ⟨_, rfl, b3, lc, _, _, rfl, rfl, e1, s1 _ _ hlc3, (by rw [List.length_map]; show 1 + _ ≤ 16777216; omega), fun b4 hb4 => ?_⟩
      have s2 : Same H4 (upd H4 b4 (.lst ([V.str "returns"] ++ cs.map V.str))) := (Same.refl H4).put hb4
      have e2 : (upd H4 b4 (.lst ([V.str "returns"] ++ cs.map V.str))) b4 = some (.lst ([V.str "returns"] ++ cs.map V.str)) := upd_same
      generalize upd H4 b4 (.lst ([V.str "returns"] ++ cs.map V.str)) = H5 at s2 e2 ⊢
      have s35 := s1.trans s2
      have P5 := P3.same s35
      have nb4 : b4 ≠ p := fun e => by
        obtain ⟨a, l', hp', _⟩ := (P3.same s1).pen
        rw [← e, hb4] at hp'
        cases hp'
      refine ⟨_, rfl, p, c, ns, _, 8, rfl, P5, by omega, by decide, by decide, fun dv2 H6 d20 d21 k6 P6 => ?_⟩
      obtain ⟨j2, rfl⟩ : ∃ j : Nat, dv2 = (j : Int) := ⟨dv2.toNat, (Int.toNat_of_nonneg d20).symm⟩
      obtain ⟨vo2, hvo2, eo2⟩ := head_or (V.str "returns") cs (j := j2) (by omega)
      refine ⟨b4, _, _, _, rfl, rfl, SqL.of (k6 _ _ e2 nb4), atI_nat (j := j2) hvo2, ?_⟩
      have k06 := (k03.trans s35.keep).trans k6
      clear s1 s2 e1 e2 s35 P5
      have hL6 := k06 _ _ hL nl
      have hlo6 := k06 _ _ hlo0 nlo
      refine ⟨_, rfl, .inl ⟨rfl, _, SqL.of hL6⟩, _, rfl, _, rfl, p, c, ns, _, 3, rfl, P6, by omega, by decide, by decide, fun dv3 H7 d30 d31 k7 P7 => ?_⟩
      obtain ⟨j3, rfl⟩ : ∃ j : Nat, dv3 = (j : Int) := ⟨dv3.toNat, (Int.toNat_of_nonneg d30).symm⟩
      have hj3 : j3 < ws.length := by omega
      have hv3 : (ws.map V.str)[j3]? = some (V.str ws[j3]) := by rw [List.getElem?_map, List.getElem?_eq_getElem hj3]; rfl
      have vo3 : VW ws[j3] := vo _ (List.getElem_mem hj3)
      generalize ws[j3] = x3 at hv3 vo3
      refine ⟨lo, _, _, _, rfl, rfl, SqL.of (k7 _ _ hlo6 nlo), atI_nat (j := j3) hv3, ?_⟩
      have k07 := k06.trans k7
      have hL7 := k7 _ _ hL6 nl
      obtain ⟨a, ea, wA⟩ : ∃ a : LfX.Act, [V.str x3, vh, vo2] = actVs a ∧ ActW a := by
        rcases eh with rfl | ⟨x, hx, rfl⟩
        · rcases eo2 with rfl | ⟨y, hy, rfl⟩
          · exact ⟨⟨x3, none, "returns"⟩, rfl, vo3, (fun x e => by cases e), .inr rfl⟩
          · exact ⟨⟨x3, none, y⟩, rfl, vo3, (fun x e => by cases e), .inl (vc y hy)⟩
        · rcases eo2 with rfl | ⟨y, hy, rfl⟩
          · exact ⟨⟨x3, some x, "returns"⟩, rfl, vo3, (fun x' e => by cases e; exact vc x hx), .inr rfl⟩
          · exact ⟨⟨x3, some x, y⟩, rfl, vo3, (fun x' e => by cases e; exact vc x hx), .inl (vc y hy)⟩
      refine ⟨_, rfl, _, rfl, (by show 3 ≤ sizeLine; decide), fun q hq => ?_⟩
      rw [ea]
      have sq : Same H7 (upd H7 q (.tup (actVs a))) := (Same.refl H7).put hq
      have eq0 : (upd H7 q (.tup (actVs a))) q = some (.tup (actVs a)) := upd_same
      generalize upd H7 q (.tup (actVs a)) = H8 at sq eq0 ⊢
      have k08 := k07.trans sq.keep
      have hL8 := sq _ _ hL7
      have tl : ts.length = i := by rw [AT.1, al]
      refine ⟨l, _, _, rfl, rfl, hL8, (by rw [List.length_map, tl]; show _ < 16777216; omega), ?_⟩
      have AT8 := AT.mono fun b xs e => k08 _ _ e (Pc.tup_ne e)
      have hll : ∀ b xs, H8 b = some (.tup xs) → b ≠ l := fun b xs e => ne_of e hL8 (by intro z; cases z)
      refine ⟨_, _, _, ts ++ [q], as ++ [a], rfl, by rw [upd_same, List.map_append]; rfl, (acts_snoc AT8 eq0).mono fun b xs e => by rw [upd_ne (hll _ _ e)]; exact e, fun b hb => ?_, by rw [List.length_append, al]; rfl, fun b o hb nb => ?_, (by rw [upd_ne nlcl]; exact k08 _ _ hlc0 nlc), (by rw [upd_ne nlol]; exact k08 _ _ hlo0 nlo), ?_⟩
      · rcases List.mem_append.mp hb with hb | hb
        · exact wa b hb
        · rw [List.mem_singleton.mp hb]; exact wA
      · by_cases e : b = l
        · rw [e, hlH] at hb; cases hb
        · rw [upd_ne e]
          exact k08 _ _ (kc _ _ hb nb) nb
      · exact ((P7.same sq).upd' nl.symm ncl).mono (by omega)
    · rintro σ Hc ⟨v5, v6, v7, ts, as, rfl, hL, AT, wa, al, kc, _, _, Pc⟩
      exact ⟨_, rfl, k l ts as Hc hL AT wa (by omega) nl kc (Pc.mono (by omega))⟩
end
end K2
end
section
set_option Elab.async false
set_option maxRecDepth 100000
set_option linter.all false
/-! spoiled acts -/
namespace K2
open PySem L2 LfX PySem.Spec PyProof.Rows
abbrev sSp : Stmt := top 23
abbrev nSp : List Str := ["_law_pen_here", "_law_act", "_law_bad", "_law_way"]
theorem ps_impA {X : Cx} {st : Stmt} {t t' : L2.TS} (h : PS X st t) (k : ∀ D σ H, t' D σ H → t D σ H) : PS X st t' := ⟨fun pins s σ H D I q => h.run pins s σ H D I (k D σ H q)⟩
/-- no word, not nothing, not returns -/
structure BadV (K : PySem.W.Frag) (H : Hp) (v : V) : Prop where
  w : WdV K H v false
  n : v ≠ .non
  r : Ret K H v false
theorem BadV.str {K : PySem.W.Frag} {H : Hp} {x : Str} (h : isW x = false) (h2 : PyData.strOk x = true) (h3 : x ≠ "returns") (l : x.length ≤ sizeLine) : BadV K H (.str x) := by
  refine ⟨?_, (fun e => by cases e), ?_⟩
  · have := WdV.str (K := K) (H := H) x l
    rwa [h] at this
  · have := Ret.str (K := K) (H := H) h2
    rwa [decide_eq_false h3] at this
/-- tuples stay, lists stay lists -/
def Tl (H H' : Hp) : Prop := (∀ b xs, H b = some (.tup xs) → H' b = some (.tup xs)) ∧ (∀ b xs, H b = some (.lst xs) → ∃ ys, H' b = some (.lst ys))
theorem Tl.refl (H : Hp) : Tl H H := ⟨fun _ _ h => h, fun _ _ h => ⟨_, h⟩⟩
theorem Tl.trans {H H1 H2 : Hp} (a : Tl H H1) (b : Tl H1 H2) : Tl H H2 := ⟨fun c xs h => b.1 c xs (a.1 c xs h), fun c xs h => let ⟨_, h1⟩ := a.2 c xs h; b.2 c _ h1⟩
theorem Tl.of {H H' : Hp} (s : Same H H') : Tl H H' := ⟨fun b xs h => s b _ h, fun b xs h => ⟨xs, s b _ h⟩⟩
theorem Tl.keep {H H' : Hp} {p c : Addr} {ns : List Int} {n m : Nat} (k : Keep p H H') (P : Pen H p c ns n) (P' : Pen H' p c ns m) : Tl H H' := by
  refine ⟨fun b xs h => k _ _ h (P.tup_ne h), fun b xs h => ?_⟩
  by_cases e : b = p
  · obtain ⟨a, l, g, _⟩ := P'.pen
    rw [e]
    exact ⟨_, g⟩
  · exact ⟨xs, k _ _ h e⟩
theorem Tl.upd {H : Hp} {l : Addr} {xs ys : List V} (h : H l = some (.lst xs)) : Tl H (L2.upd H l (.lst ys)) := by
  refine ⟨fun b zs e => by rw [upd_ne (ne_of e h (by intro z; cases z))]; exact e, fun b zs e => ?_⟩
  by_cases q : b = l
  · rw [q]
    exact ⟨_, upd_same⟩
  · exact ⟨zs, by rw [upd_ne q]; exact e⟩
def tBd (K : PySem.W.Frag) : L2.TS := fun D σ H => ∃ (s0 s1 : Option V) (bv : V) (wy : Nat), σ = [s0, s1, some bv, some (.int (wy : Int))] ∧ (∀ H2, Tl H H2 → BadV K H2 bv) ∧ ∀ bv', (∀ H2, Tl H H2 → WdV K H2 bv' false) → bv' ≠ .non → (wy ≠ 1 → ∀ H2, Tl H H2 → Ret K H2 bv' false) → D.nx [s0, s1, some bv', some (.int (wy : Int))] H
def bads (t : Addr) : List V := [.str "", .str "abcdefghi", .str "Ab", .str "a b", .str "none", .str "try", .int 7, .bl true, .ref t, .str "a1", .str "def"]
theorem bads_bad {K : PySem.W.Frag} {H : Hp} {t : Addr} (ht : H t = some (.tup [.str "a"])) {j : Nat} (hj : j < 11) : ∃ v, (bads t)[j]? = some v ∧ BadV K H v := by
  match j, hj with
  | 0, _ => exact ⟨_, rfl, .str (by decide +kernel) (by decide +kernel) (by decide +kernel) (by decide +kernel)⟩
  | 1, _ => exact ⟨_, rfl, .str (by decide +kernel) (by decide +kernel) (by decide +kernel) (by decide +kernel)⟩
  | 2, _ => exact ⟨_, rfl, .str (by decide +kernel) (by decide +kernel) (by decide +kernel) (by decide +kernel)⟩
  | 3, _ => exact ⟨_, rfl, .str (by decide +kernel) (by decide +kernel) (by decide +kernel) (by decide +kernel)⟩
  | 4, _ => exact ⟨_, rfl, .str (by decide +kernel) (by decide +kernel) (by decide +kernel) (by decide +kernel)⟩
  | 5, _ => exact ⟨_, rfl, .str (by decide +kernel) (by decide +kernel) (by decide +kernel) (by decide +kernel)⟩
  | 6, _ => exact ⟨_, rfl, .no (.base (.int _)) (kit_ty (by decide +kernel)), (fun e => by cases e), .int 7, .int _, by decide +kernel, by decide +kernel⟩
  | 7, _ => exact ⟨_, rfl, .no (.base (.bl _)) (kit_ty (by decide +kernel)), (fun e => by cases e), .bool true, .bl _, by decide +kernel, by decide +kernel⟩
  | 8, _ => exact ⟨_, rfl, .no (.base (.tup ht)) (kit_ty (by decide +kernel)), (fun e => by cases e), .tuple [.str "a"], .tup (SqT.of ht) (.cons (.str _) .nil), by decide +kernel, by decide +kernel⟩
  | 9, _ => exact ⟨_, rfl, .str (by decide +kernel) (by decide +kernel) (by decide +kernel) (by decide +kernel)⟩
  | 10, _ => exact ⟨_, rfl, .str (by decide +kernel) (by decide +kernel) (by decide +kernel) (by decide +kernel)⟩
  | n + 11, h => exact absurd h (by omega)
def spSp (K : PySem.W.Frag) : Sp := fun vs H Q _ => ∃ (p c q : Addr) (ns : List Int) (n : Nat) (a : LfX.Act), vs = [.ref p, .ref q] ∧ Pen H p c ns n ∧ n + 10 ≤ 100000 ∧ H q = some (.tup (actVs a)) ∧ ActW a ∧
  ∀ (v : V) (H' : Hp), (∀ H2, Tl H' H2 → ActV K H2 v false) → Keep p H H' → Pen H' p c ns (n + 2) → Q v H'
section
variable {P : Program} {w : World} {K : PySem.W.Frag} {mg : Str → Option Value} {base : Heap}
theorem scSp : FnScope nSp ["_law_pen_here", "_law_act"] (defScope sSp) := ⟨rfl, rfl, rfl, by decide +kernel, rfl, by decide +kernel, by decide +kernel⟩
theorem ok_sp {f fD : Addr} {fd fdD : FuncData} (F : Fun K "_law_spoiled" "_law_spoiled" sSp f fd) (T : Bi mg) (D : Df K mg "_law_draw" sDraw fD fdD ["_law_pen_here", "_law_many"]) (GD : FnOk P w K mg base CX0 1 fD fdD ["_law_pen_here", "_law_many"] spDraw) :
    FnOk P w K mg base CX0 2 f fd ["_law_pen_here", "_law_act"] (spSp K) := by
  refine F.ok scSp (fun vs H Q E h => ?_) (fun cdv A outer s H vs Q E hr h => ?_)
  · obtain ⟨p, c, q, ns, n, a, rfl, _⟩ := h
    rfl
  · obtain ⟨p, c, q, ns, n, a, rfl, P0, hn, hq, wa, k⟩ := h
    have hr1 : Room 1 _ := hr
    refine ⟨_, (pss_cons (ps_set (i := 2) scSp.nd rfl (Or.inl rfl) (pe_ix ix_list (pe_lst (pa_cons pe_str (pa_cons pe_str (pa_cons pe_str (pa_cons pe_str (pa_cons pe_str (pa_cons pe_str (pa_cons pe_int (pa_cons pe_bl (pa_cons (pe_tup (pa_cons pe_str pa_nil)) (pa_cons pe_str (pa_cons pe_str pa_nil)))))))))))) (pe_call GD hr1 (by rfl) D.m D.F.kp D.b .nil pass0 (pa_cons (pv 0) (pa_cons pe_int pa_nil))) (fun _ _ => rfl)))
      (pss_cons (ps_set (i := 3) scSp.nd rfl (Or.inl rfl) (pe_call GD hr1 (by rfl) D.m D.F.kp D.b .nil pass0 (pa_cons (pv 0) (pa_cons pe_int pa_nil))))
      (pss_cons (ps_if (pt_cmpR op_lt (pv 3) pe_int (nomark _))
      (pss_cons (ps_impA (t' := tBd K) (ps_if (PW.pt (pw_and (pt_cmpR (op_eqD hr.units) (pv 2) pe_str (nomark _)) (pw_and1 (pt_cmpR op_eq (pv 3) pe_int (nomark _)))))
        (pss_one (ps_set (i := 2) scSp.nd rfl (Or.inl rfl) pe_str))
        pss_nil) (fun D σ H h => ?bd))
        (pss_one (ps_ret (pe_op op_cat2 (pe_op op_cat2 (pe_slice sl_tup2 (pv 1) po_none (po_some (pv 3))) (pe_tup (pa_cons (pv 2) pa_nil))) (pe_slice sl_tup2 (pv 1) (po_some (pe_op op_add (pv 3) pe_int)) po_none)))))
      pss_nil)
      (pss_one (ps_ret (pe_ix ix_list (pe_lst (pa_cons (pe_slice sl_tup2 (pv 1) po_none (po_some pe_int)) (pa_cons (pe_op op_cat2 (pv 1) (pe_tup (pa_cons pe_str pa_nil))) (pa_cons (pe_callTy call_list_of (by rfl) T.list (by decide +kernel) (pa_cons (pv 1) pa_nil)) (pa_cons pe_non (pa_cons (pe_tup (pa_cons pe_non (pa_cons (pe_ix ix_tup (pv 1) pe_int (fun _ _ => rfl)) (pa_cons (pe_ix ix_tup (pv 1) pe_int (fun _ _ => rfl)) pa_nil)))) pa_nil)))))) (pe_op op_sub (pv 3) pe_int) (fun _ _ => rfl))))))), ?_⟩
    case bd =>
      obtain ⟨s0, s1, bv, wy, rfl, BB, k⟩ := h
      have B := BB _ (Tl.refl _)
      obtain ⟨d, d1, d2, d3⟩ := id B.r
      refine ⟨_, rfl, d, .str "none", d1, .str _, d2, by decide +kernel, _, rfl, ?_⟩
      cases hb : PyData.eqv d (.str "none") with
      | false => exact iteF (k bv (fun H2 t => (BB H2 t).w) B.n fun _ H2 t => (BB H2 t).r)
      | true =>
        refine iteT ⟨_, rfl, rfl, _, rfl, ite2 (fun c => ?_) (fun c => k bv (fun H2 t => (BB H2 t).w) B.n fun _ H2 t => (BB H2 t).r)⟩
        have e1 : wy = 1 := by have := V.int.inj (of_decide_eq_true c); omega
        refine k _ (fun H2 _ => ?_) (fun e => by cases e) (fun n => absurd e1 n)
        have := WdV.str (K := K) (H := H2) "returns" (by decide +kernel)
        rwa [show isW "returns" = false by decide +kernel] at this
    refine ⟨(by show 1 ≤ sizeLine; decide), fun t ht => ⟨(by show 11 ≤ sizeLine; decide), fun l hl => ?_⟩⟩
    have s1 : Same H (upd H t (.tup [.str "a"])) := (Same.refl H).put ht
    have e1 : (upd H t (.tup [.str "a"])) t = some (.tup [.str "a"]) := upd_same
    generalize upd H t (.tup [.str "a"]) = H1 at s1 e1 hl ⊢
    generalize hz : [V.str "", .str "abcdefghi", .str "Ab", .str "a b", .str "none", .str "try", .int 7, .bl true, .ref t, .str "a1", .str "def"] = zs
    replace hz : bads t = zs := hz
    have s2 : Same H1 (upd H1 l (.lst zs)) := (Same.refl H1).put hl
    have e2 : (upd H1 l (.lst zs)) l = some (.lst zs) := upd_same
    have nl : l ≠ p := ((P0.same s1).pne hl).symm
    generalize upd H1 l (.lst zs) = H2 at s2 e2 ⊢
    have P2 := (P0.same s1).same s2
    refine ⟨_, rfl, p, c, ns, _, 11, rfl, P2, by omega, by decide, by decide, fun dv H3 d0 d1 k3 P3 => ?_⟩
    obtain ⟨j, rfl⟩ : ∃ j : Nat, dv = (j : Int) := ⟨dv.toNat, (Int.toNat_of_nonneg d0).symm⟩
    have tp : t ≠ p := P2.tup_ne (s2 _ _ e1)
    have qp : q ≠ p := P0.tup_ne hq
    have et3 := k3 _ _ (s2 _ _ e1) tp
    obtain ⟨bv, hbv0, _⟩ := bads_bad (K := K) et3 (j := j) (by omega)
    have hbv := hbv0
    rw [hz] at hbv
    refine ⟨l, _, _, _, rfl, rfl, SqL.of (k3 _ _ e2 nl), atI_nat (j := j) hbv, ?_⟩
    have k03 := (s1.trans s2).keep.trans k3
    have hq3 := k03 _ _ hq qp
    clear s1 s2 e1 e2 hz hbv
    refine ⟨_, rfl, p, c, ns, _, 8, rfl, P3, by omega, by decide, by decide, fun dw H4 w0 w1 k4 P4 => ?_⟩
    obtain ⟨wy, rfl⟩ : ∃ j : Nat, dw = (j : Int) := ⟨dw.toNat, (Int.toNat_of_nonneg w0).symm⟩
    have hq4 := k4 _ _ hq3 qp
    have k04 := k03.trans k4
    have et4 := k4 _ _ et3 tp
    have B : ∀ H2, Tl H4 H2 → BadV K H2 bv := fun H2 T2 => by
      obtain ⟨bv', h', B⟩ := bads_bad (K := K) (T2.1 _ _ et4) (j := j) (by omega)
      rw [hbv0] at h'
      cases h'
      exact B
    clear hbv0 et3 k3 k4 hq3 k03
    obtain ⟨cb, hd, out⟩ := a
    have al : (actVs ⟨cb, hd, out⟩).length = 3 := rfl
    refine ⟨_, rfl, _, _, rfl, rfl, _, rfl, ite2 (fun cw => ?_) (fun cw => ?_)⟩
    · have cw : (wy : Int) < 3 := of_decide_eq_true cw
      refine ⟨_, _, bv, wy, rfl, B, fun bv' W N R => ?_⟩
      refine ⟨_, rfl, _, rfl, _, rfl, q, _, rfl, hq4, fun t1 H5 s5 h5 => ?_⟩
      rw [cutT_upto (by omega)] at h5
      refine ⟨_, rfl, (by show 1 ≤ sizeLine; decide), fun t2 ht2 => ?_⟩
      have s6 : Same H5 (upd H5 t2 (.tup [bv'])) := (Same.refl H5).put ht2
      have e6 : (upd H5 t2 (.tup [bv'])) t2 = some (.tup [bv']) := upd_same
      generalize upd H5 t2 (.tup [bv']) = H6 at s6 e6 ⊢
      refine ⟨t1, t2, _, _, rfl, rfl, s6 _ _ h5, e6, (by rw [List.length_take]; show _ + 1 ≤ 16777216; omega), fun t3 H7 s7 h7 => ?_⟩
      refine ⟨_, rfl, _, rfl, _, _, rfl, rfl, _, rfl, q, _, rfl, s7 _ _ (s6 _ _ (s5 _ _ hq4)), fun t4 H8 s8 h8 => ?_⟩
      rw [show (wy : Int) + 1 = ((wy + 1 : Nat) : Int) from rfl, cutT_from (by omega)] at h8
      refine ⟨t3, t4, _, _, rfl, rfl, s8 _ _ h7, h8, (by rw [List.length_append, List.length_take, List.length_drop]; show _ + 1 + _ ≤ 16777216; omega), fun t5 H9 s9 h9 => ?_⟩
      have s49 := ((((s5.trans s6).trans s7).trans s8).trans s9)
      refine k _ _ (fun Hz Tz => ?_) (k04.trans s49.keep) ((P4.same s49).mono (by omega))
      have T4 := (Tl.of s49).trans Tz
      replace h9 := Tz.1 _ _ h9
      have W9 := W Hz T4
      match wy, cw with
      | 0, _ => exact .c1 h9 W9
      | 1, _ => exact .c2 h9 (WdV.vw wa.cb) N W9
      | 2, _ =>
        refine .c3 h9 (WdV.vw wa.cb) ?_ W9 (R (by decide) Hz T4)
        cases hd with
        | none => exact .inl rfl
        | some x => exact .inr ⟨(fun e => by cases e), WdV.vw (wa.hd x rfl)⟩
      | m + 3, h => exact absurd h (by omega)
    · have cw : ¬ (wy : Int) < 3 := fun z => cw (decide_eq_true z)
      refine ⟨_, rfl, 2, rfl, q, _, rfl, hq4, fun t1 H5 s5 h5 => ?_⟩
      rw [show (2 : Int) = ((2 : Nat) : Int) from rfl, cutT_upto (by omega)] at h5
      refine ⟨_, rfl, (by show 1 ≤ sizeLine; decide), fun t2 ht2 => ?_⟩
      have s6 : Same H5 (upd H5 t2 (.tup [V.str "a"])) := (Same.refl H5).put ht2
      have e6 : (upd H5 t2 (.tup [V.str "a"])) t2 = some (.tup [V.str "a"]) := upd_same
      generalize upd H5 t2 (.tup [V.str "a"]) = H6 at s6 e6 ⊢
      refine ⟨q, t2, _, _, rfl, rfl, s6 _ _ (s5 _ _ hq4), e6, (by show 3 + 1 ≤ 16777216; decide), fun t3 H7 s7 h7 => ?_⟩
      have s47 := (s5.trans s6).trans s7
      refine ⟨_, rfl, q, _, rfl, .inr (SqT.of (s47 _ _ hq4)), fun l8 hl8 => ?_⟩
      have s8 : Same H7 (upd H7 l8 (.lst (actVs ⟨cb, hd, out⟩))) := (Same.refl H7).put hl8
      have e8 : (upd H7 l8 (.lst (actVs ⟨cb, hd, out⟩))) l8 = some (.lst (actVs ⟨cb, hd, out⟩)) := upd_same
      generalize upd H7 l8 (.lst (actVs ⟨cb, hd, out⟩)) = H8 at s8 e8 ⊢
      have s48 := s47.trans s8
      refine ⟨_, rfl, q, _, _, _, rfl, rfl, SqT.of (s48 _ _ hq4), atI_nat (j := 1) rfl, _, rfl, q, _, _, _, rfl, rfl, SqT.of (s48 _ _ hq4), atI_nat (j := 2) rfl, (by show 3 ≤ sizeLine; decide), fun t9 ht9 => ?_⟩
      have s9 : Same H8 (upd H8 t9 (.tup [V.non, hdV hd, .str out])) := (Same.refl H8).put ht9
      have e9 : (upd H8 t9 (.tup [V.non, hdV hd, .str out])) t9 = some (.tup [V.non, hdV hd, .str out]) := upd_same
      refine ⟨(by show 5 ≤ sizeLine; decide), fun l10 hl10 => ?_⟩
      replace hl10 : (upd H8 t9 (.tup [V.non, hdV hd, .str out])) l10 = none := hl10
      have s49 := s48.trans s9
      have s10 : Same (upd H8 t9 (.tup [V.non, hdV hd, .str out])) (upd (upd H8 t9 (.tup [V.non, hdV hd, .str out])) l10 (.lst [V.ref t1, .ref t3, .ref l8, .non, .ref t9])) := (Same.refl _).put hl10
      have e10 : (upd (upd H8 t9 (.tup [V.non, hdV hd, .str out])) l10 (.lst [V.ref t1, .ref t3, .ref l8, .non, .ref t9])) l10 = some (.lst [V.ref t1, .ref t3, .ref l8, .non, .ref t9]) := upd_same
      have f1 := s10 _ _ (s9 _ _ (s8 _ _ (s7 _ _ (s6 _ _ h5))))
      have f3 := s10 _ _ (s9 _ _ (s8 _ _ h7))
      have f8 := s10 _ _ (s9 _ _ e8)
      have f9 := s10 _ _ e9
      have s4a := s49.trans s10
      have each : ∀ j : Nat, j < 5 → ∃ v, [V.ref t1, .ref t3, .ref l8, .non, .ref t9][j]? = some v ∧ ∀ Hz, Tl (upd (upd H8 t9 (.tup [V.non, hdV hd, .str out])) l10 (.lst [V.ref t1, .ref t3, .ref l8, .non, .ref t9])) Hz → ActV K Hz v false := fun j hj => by
        match j, hj with
        | 0, _ => exact ⟨_, rfl, fun Hz T => .len (T.1 _ _ f1) (show (2 : Nat) ≠ 3 by decide) (show 2 ≤ 1000 by decide)⟩
        | 1, _ => exact ⟨_, rfl, fun Hz T => .len (T.1 _ _ f3) (show (4 : Nat) ≠ 3 by decide) (show 4 ≤ 1000 by decide)⟩
        | 2, _ => exact ⟨_, rfl, fun Hz T => let ⟨_, h8⟩ := T.2 _ _ f8; .no (.base (.lst h8)) (kit_ty (by decide +kernel))⟩
        | 3, _ => exact ⟨_, rfl, fun Hz T => .no (.base .non) (kit_ty (by decide +kernel))⟩
        | 4, _ => exact ⟨_, rfl, fun Hz T => .c1 (T.1 _ _ f9) (.no (.base .non) (kit_ty (by decide +kernel)))⟩
        | m + 5, h => exact absurd h (by omega)
      obtain ⟨v, hv, bad⟩ := each (wy - 3) (by omega)
      refine ⟨_, rfl, _, _, rfl, rfl, l10, _, _, _, rfl, rfl, SqL.of e10, ?_, k v _ bad (k04.trans s4a.keep) ((P4.same s4a).mono (by omega))⟩
      rw [show (wy : Int) - 3 = ((wy - 3 : Nat) : Int) by omega]
      exact atI_nat hv
end
end K2
end
section
set_option Elab.async false
set_option maxRecDepth 100000
set_option linter.all false
set_option maxHeartbeats 2000000
/-! ### a caught error that is kept -/
namespace L2
open PySem PySem.Spec PyProof.Rows
/-- an exception of the class cls, caught and kept, its dict at d -/
def ExT (cls : Value) (d : Option Addr) (a : Addr) : HO := .ext fun h => ∃ (oe : Obj) (vs : Array Value), h.get? a = some oe ∧ Zc cls d oe ∧ oe.data = .fields vs
theorem exT_ok {P : Program} {w : World} {H : Hp} {h : Heap} {a : Addr} {cls : Value} {d : Option Addr} {oe : Obj} {vs : Array Value} (e : h.get? a = some oe) (z : Zc cls d oe) (hd : oe.data = .fields vs) : ObjOk P w H h a (ExT cls d a) :=
  ⟨⟨oe, vs, e, z, hd⟩, ⟨_, e⟩, fun h1 h2 q k => by
    obtain ⟨oe, vs, e, z⟩ := q
    exact ⟨oe, vs, k _ e, z⟩⟩
theorem exT_at {P : Program} {w : World} {H : Hp} {h : Heap} {a : Addr} {cls : Value} {d : Option Addr} (hok : HOk P w H h) (he : H a = some (ExT cls d a)) : ∃ (oe : Obj) (vs : Array Value), h.get? a = some oe ∧ Zc cls d oe ∧ oe.data = .fields vs := by
  have x : ObjOk P w H h a (.ext fun h => ∃ (oe : Obj) (vs : Array Value), h.get? a = some oe ∧ Zc cls d oe ∧ oe.data = .fields vs) := hok a _ he
  exact x.1
section
variable {X : Cx} {pins : List (Addr × Obj)} {σ : St} {H : Hp} {s s' sI : Shared} {B : Heap} {a : Addr} {o : HO}
theorem Inv.landedT (I : Inv X pins σ H sI) (nb : ∀ b o, sI.heap.get? b = some o → b ∉ frs X.stack → B.get? b = some o) (st : B.StaysIn s'.heap) (up : sI.heap.UpToSlots s'.heap) (os : s'.os = sI.os) (ag : AllBare s'.gens)
    (na : H a = none) (ha : sI.heap.get? a = none) (new : ObjOk X.prog X.w (upd H a o) s'.heap a o) : Inv X pins σ (upd H a o) s' := by
  have nf : ∀ b ∈ frs X.stack, ∀ o, sI.heap.get? b = some o → ∃ sl, s'.heap.get? b = some { o with slots := sl } := fun b hb o e => by
    obtain ⟨_, o', e', hd⟩ := I.stack.mem hb
    rw [e] at e'; cases e'
    exact up b o e hd
  have ne : ∀ b u, sI.heap.get? b = some u → b ≠ a := fun b u e z => by
    rw [z, ha] at e
    cases e
  have hk : HOk X.prog X.w H s'.heap := (I.inGround nb).kept st
  have J := I.call (ch := []) (h' := s'.heap) (g' := s'.gens) (t' := s'.toks) (d' := s'.drawn) (H' := upd H a o)
    ⟨fun b o e _ hb _ => st b o (nb b o e hb), fun b o e _ hb _ => nf b hb o e, fun b u e n _ => by rw [upd_ne (ne b u e)]; exact n, fun b o e _ => by
      by_cases hb : b ∈ frs X.stack
      · obtain ⟨sl, q⟩ := nf b hb o e
        exact ⟨_, q⟩
      · exact ⟨o, st b o (nb b o e hb)⟩, fun b _ e => by rw [upd_ne (ne_of_none e na)]; exact e, fun b _ _ e => by rw [upd_ne (ne_of_none e na)]; exact e, fun b ps e => ⟨#[], by rw [upd_ne (ne_of_none e na), e]; simp⟩⟩
    (hk.laidN (fun _ _ e => e) na new) ag (fun _ z => nomatch z)
  obtain ⟨a1, a2, a3, a4, a5⟩ := s'
  have e5 : a5 = sI.os := os
  subst e5
  exact J
theorem Inv.suiteT (I : Inv X pins σ H s) (a : Addr) : Inv (X.suite a (X.pn ++ pins)) [] σ H s :=
  ⟨I.ok.suite _ _, I.os, I.bare, I.base, I.loc, I.cell, I.free, I.freeC, fun p hp => I.pin p (by rw [List.append_nil] at hp; exact hp), I.hok, I.len⟩
theorem Inv.unsuiteT {pn' : List (Addr × Obj)} (I : Inv (X.suite a (X.pn ++ pins)) pn' σ H s) (ok : X.Ok) : Inv X pins σ H s :=
  ⟨ok, I.os, I.bare, I.base, I.loc, I.cell, I.free, I.freeC, fun p hp => I.pin p (List.mem_append_left _ hp), I.hok, I.len⟩
end
/-- what the clause 'except x as n' wishes of an exception that is kept -/
def wAsT (K : PySem.W.Frag) (c : Value) (n i : Nat) (ts : Addr → Value → Option Addr → TS) (Wout : WX) (D : Ends) : WX := fun cls d σ H => σ.length = n →
  ∃ b, PySem.W.exmOne K cls c = some b ∧ (b = true → ∀ a, H a = none → ts a cls d { nx := fun σ' H' => D.nx (σ'.set i none) H', rt := D.rt, bk := fun σ' H' => D.bk (σ'.set i none) H', ct := fun σ' H' => D.ct (σ'.set i none) H' } (σ.set i (some (.ref a))) (upd H a (ExT cls d a))) ∧
    (b = false → Wout cls d σ H)
section
variable {X : Cx} {x n : Str} {c : Value} {i : Nat} {body suite : List Stmt} {b₀ : Stmt} {np pos pos' : Pos} {tb : WX → TS} {ts : Addr → Value → Option Addr → TS} {Wout : WX}
theorem ps_try_asT (hs : X.stack = X.env :: X.outer) (hf : X.env.frame = some X.env.locals) (hN : X.N.Nodup) (hi : X.N[i]? = some n) (hln : X.env.kindOf n = some .local) (hc : Names X x c) (tk : Takes X Wout)
    (hb : ∀ (W : WX) (pn : List (Addr × Obj)) (xe : Value → Shared → Prop), Takes (X.tr pn xe) W → PassesOwn (model X.prog X.w) X.A X.env xe → PSs (X.tr pn xe) body (tb W))
    (hsu : ∀ (a : Addr) (cls : Value) (d : Option Addr) (pn : List (Addr × Obj)), PSs (X.suite a pn) (b₀ :: suite) (ts a cls d)) :
    PS X (.Try body [.ExceptHandler (some (.Name x np)) (some n) (b₀ :: suite) pos'] [] [] pos) (fun D σ H => tb (wAsT X.K c X.N.length i ts Wout D) D σ H) := by
  refine ⟨fun pins s σ H D I h => ?_⟩
  have ok := I.ok
  have hfr : X.A.frames = some (X.env :: X.outer) := by rw [ok.frames, hs]
  have hloc : Loc X.env.scope n := .inl hln
  refine wpAny_Try_except ?_
  refine wpAny_mono ((hb (wAsT X.K c X.N.length i ts Wout D) (X.pn ++ pins) (fun e s₁ => wpAny (model X.prog X.w) X.A (noteFrame e X.env) (fun _ s₂ => wpAny (model X.prog X.w) X.A (setFlight e none) (fun _ s₃ =>
    wpAny (model X.prog X.w) X.A (handleBy e X.env [.ExceptHandler (some (.Name x np)) (some n) (b₀ :: suite) pos']) (SP X pins D) X.xe s₃) X.xe s₂) X.xe s₁) (fun u s' xx => ?_) PassesOwn.looking).run [] s σ H D (I.toTry _) h) (fun f s1 hsp => ?_) (fun e s1 he => he)
  · -- the catch
    obtain ⟨a, B, sI, pins', σ', H', cls, d, rfl, J', nb, up, sky, na, os, ag, hwish⟩ := xx
    have J : Inv X pins σ' H' sI := J'.ofTry ok
    obtain ⟨b, hb1, hyes, hno⟩ := hwish J.len
    have sky' : Sky B (X.env :: X.outer) a (Zc cls d) X.env.locals s'.heap := by rw [← hs]; exact sky
    show wpAny (model X.prog X.w) X.A (noteFrame (.ref a) X.env) _ _ _
    refine Sky.land Zc.steady hfr hf sky' fun h3 fl3 up3 => ?_
    have J3 : Inv X pins σ' H' { s' with heap := h3 } := J.landed nb fl3.1 (up.trans up3) os ag
    obtain ⟨oe3, vs3, he3, hz3, hd3⟩ := fl3.there
    have notFr : ∀ {h : Heap} {o : Obj} {vs : Array Value}, h.FunFrames B (X.env :: X.outer) → h.get? a = some o → o.data = .fields vs → a ∉ frs (X.env :: X.outer) := fun {h o vs} ff e dd hm => by
      obtain ⟨_, o', e', hnf⟩ := ff.mem hm
      rw [e] at e'; cases e'
      exact hnf _ dd
    have nfr := notFr fl3.2.2.1 he3 hd3
    have nL : a ≠ X.env.locals := fun z => nfr (List.mem_filterMap.mpr ⟨X.env, List.mem_cons_self, by rw [hf, z]⟩)
    have nF : a ∉ X.fs := fun hm => by
      obtain ⟨e, he, q⟩ := List.mem_filterMap.mp hm
      exact nfr (List.mem_filterMap.mpr ⟨e, List.mem_cons_of_mem _ he, q⟩)
    have S3 := J3.suite he3 hd3 na nL nF
    refine wpAny_handleBy_cons (codeAny_handlers_test ?_) (by intro q; cases q)
    have LT : PySem.W.Looks (model X.prog X.w) h3 (typeOf (.ref a)) cls := fun A Q E s k q => wpAny_typeOf_ref (k _ _ he3) (by rw [hz3.1]; exact q)
    have LM := PySem.W.exm_one (M := model X.prog X.w) (J3.kIn) LT hb1
    have test : ∀ {Q : Value → Shared → Prop} {E : Value → Shared → Prop}, Q c { s' with heap := h3 } → wpAny (model X.prog X.w) (X.A.mark (some (.ref a))) (eval (.Name x np) X.env) Q E { s' with heap := h3 } := fun {Q E} q => by
      obtain ⟨hg, hdbg, hm | ⟨hm, hv, hnn⟩⟩ := hc
      · exact ld_glob (X := X.suite a ((a, oe3) :: (X.pn ++ pins))) S3 hg hm q hdbg
      · exact ld_blt (X := X.suite a ((a, oe3) :: (X.pn ++ pins))) S3 hg hm hv q hnn hdbg
    refine test (LM.here ?_)
    cases b with
    | true =>
      refine codeAny_handlers_suite_as ?_
      refine HandSPX.lands_againZ fl3 fun h4 fl4 up4 => ?_
      obtain ⟨oe4, vs4, he4, hz4, hd4⟩ := fl4.there
      have hsa : sI.heap.get? a = none := by
        cases e : sI.heap.get? a with
        | none => rfl
        | some o =>
          have z := nb a o e (by rw [hs]; exact nfr)
          rw [fl4.2.1] at z
          cases z
      have J4 : Inv X pins σ' (upd H' a (ExT cls d a)) { s' with heap := h4 } := J.landedT nb fl4.1 ((up.trans up3).trans up4) os ag na hsa (exT_ok he4 hz4 hd4)
      have S4 := J4.suiteT a
      refine store_ok (X := X.suite a (X.pn ++ pins)) (v := .ref a) S4 hN hi hloc rfl (fun s5 S5 => ?_) (.inr hln)
      refine wpAny_mono ((hsu a cls d (X.pn ++ pins)).run [] s5 _ _ _ S5 (hyes rfl a na)) (fun f s6 hsp => ?_) (fun _ _ z => False.elim z)
      have end_ : ∀ {σ6 : St} {H6 : Hp} {Q : Shared → Prop}, Inv (X.suite a (X.pn ++ pins)) [] σ6 H6 s6 → (∀ s7, Inv X pins (σ6.set i none) H6 s7 → Q s7) →
          wpAny (model X.prog X.w) X.A (do bindName X.env n .none; unbindBehindTheSuite X.env n pos') (fun _ s7 => Q s7) X.xe s6 := fun {σ6 H6 Q} S6 hq => gone_ok (S6.unsuiteT ok) hN hi hln hq
      cases f with
      | next =>
        obtain ⟨σ6, H6, S6, q6⟩ := hsp
        exact end_ S6 fun s7 J7 => ⟨_, _, J7, q6⟩
      | brk =>
        obtain ⟨σ6, H6, S6, q6⟩ := hsp
        exact end_ S6 fun s7 J7 => ⟨_, _, J7, q6⟩
      | cont =>
        obtain ⟨σ6, H6, S6, q6⟩ := hsp
        exact end_ S6 fun s7 J7 => ⟨_, _, J7, q6⟩
      | ret u =>
        obtain ⟨v6, σ6, H6, S6, r6, q6⟩ := hsp
        exact end_ S6 fun s7 J7 => ⟨_, _, _, J7, r6, q6⟩
    | false =>
      show wpAny _ X.A (handleBy (.ref a) X.env []) _ _ _
      refine wpAny_handleBy_nil ?_
      obtain ⟨k1, k2, k3, oe, vs, T, oT, ts', he, hz, hd, h1, hr⟩ := id fl3
      unfold PySem.passOn
      refine wpAny_bind (wpAny_field he hd h1 ?_)
      rw [if_neg (show ¬ ((Value.ref T == Value.none) = true) from by simp)]
      have fin : wpAny (model X.prog X.w) X.A (setFlight (.ref a) X.env.frame) (fun _ s4 => wpAny (model X.prog X.w) X.A (throw (.ref a) : Sem Flow) (SP X pins D) X.xe s4) X.xe { s' with heap := h3 } := by
        rw [hf]
        refine HandSPX.setFlight_upZ fl3 fun h4 hh4 up4 => wpAny_throw (tk _ _ ?_)
        exact ⟨a, B, sI, pins, σ', H', cls, d, rfl, J, nb, (up.trans up3).trans up4, .inr (.inr (by rw [hs]; exact hh4)), na, os, ag, hno rfl⟩
      first
        | exact wpAny_bind (wpAny_pure (wpAny_bind fin))
        | exact wpAny_bind fin
  · cases f with
    | next =>
      obtain ⟨σ', H', J', q⟩ := hsp
      exact wpAny_execs_nil ⟨σ', H', J'.ofTry ok, q⟩
    | brk =>
      obtain ⟨σ', H', J', q⟩ := hsp
      exact ⟨σ', H', J'.ofTry ok, q⟩
    | cont =>
      obtain ⟨σ', H', J', q⟩ := hsp
      exact ⟨σ', H', J'.ofTry ok, q⟩
    | ret u =>
      obtain ⟨v, σ', H', J', r, q⟩ := hsp
      exact ⟨v, σ', H', J'.ofTry ok, r, q⟩
end
end L2
end
section
set_option Elab.async false
set_option maxRecDepth 100000
set_option linter.all false
set_option maxHeartbeats 4000000
namespace PySem.W
open PySem PySem.Spec PySem.Calls PyProof.Rows
section
variable {prog : Program} {w : World} {A : Around} {E : Value → Shared → Prop} {s : Shared} {K : Frag} {x D : Addr} {ox : Obj}
theorem findObj_dataT {C : Addr} {name : Str} {a g : Value} {od : Option Obj} (hc : (clsIn K C).isSome = true) (ha : findIn K (.ref C) name = some (some a)) (hg : specialIn K a "__get__" = some (some g)) (ht : takesIn K a = some true) : findObj K C od name = some (.bind g a) := by
  obtain ⟨cd, hc⟩ := Option.isSome_iff_exists.mp hc
  unfold findObj
  rw [hc, Option.bind_some, ha, Option.bind_some]
  simp [hg, ht]
theorem kin_classT {Q : Option Value → Shared → Prop} (hga : findIn K (.ref D) "__getattribute__" = some (some (.builtin "BaseException.__getattribute__"))) (hgt : findIn K (.ref D) "__getattr__" = some none) (hsub : subIn K (.ref D) (.type "BaseException") = some true)
    (hdct : hasDictIn K D = true) (ha : findIn K (.ref D) "__class__" = some (some (.builtin "object.__class__")))
    (hn : specialIn K (.builtin "object.__class__") "__get__" = some (some (.builtin "getset_descriptor.__get__"))) (htk : takesIn K (.builtin "object.__class__") = some true) (hm : mroIn K D (.type "object") = some true)
    {od : Option Obj} (X : K.In s.heap) (I : InstAt s.heap x ox D od) (h : Q (some (.ref D)) { s with toks := s.toks + 1 }) : wpAny (model prog w) A (getAttr? (.ref x) "__class__") Q E s := by
  have hf : findObj K D od "__class__" = some (.bind (.builtin "getset_descriptor.__get__") (.builtin "object.__class__")) := findObj_dataT (by obtain ⟨cd, hc, _⟩ := any_some hdct; rw [hc]; rfl) ha hn htk
  obtain ⟨hp, g, d, t, os⟩ := s
  have L0 := I.type (M := model prog w)
  have L1 := looks_findIn (M := model prog w) X hga
  have L2 := looks_findIn (M := model prog w) X hgt
  have L3 := looks_find (M := model prog w) X I hf
  have sub : Looks (model prog w) hp (isInstance (.ref x) (.type "BaseException")) true := L0.andThen (looks_subIn X hsub)
  have hx0 : (false && onTheHeap (Value.builtin "BaseException.__getattribute__")) = false := rfl
  have hx2 : (Value.builtin "BaseException.__getattribute__" == Value.builtin "object.__getattribute__") = false := by decide +kernel
  have hx1 : (onTheHeap (Value.ref D) && Value.builtin "BaseException.__getattribute__" == Value.builtin "object.__getattribute__") = false := by rw [hx2]; rfl
  unfold getAttr? getAttrBy? getAttrBy
  refine wpAny_bind (wpAny_mkText (wpAny_bind (wpAny_attempt (wpAny_holding (wpAny_bind (L0.at (wpAny_bind (L1.at ?_))))))))
  show wpAny _ _ (if (onTheHeap (Value.ref D) && Value.builtin "BaseException.__getattribute__" == Value.builtin "object.__getattribute__") = true then _ else _) _ _ _
  rw [hx1, if_neg Bool.false_ne_true]
  unfold getAttrByItsOwn hookBefore
  refine wpAny_bind ?_
  rw [if_pos (show onTheHeap (Value.ref D) = true from rfl)]
  refine L2.at ?_
  refine wpAny_bind (wpAny_attempt (wpAny_holding ?_))
  unfold callGetattribute
  rw [hx0, if_neg Bool.false_ne_true]
  unfold boundAndCalled
  rw [PySem.F.excAttr_ValueError.ga.bind (.ref x)]
  refine wpAny_bind (wpAny_pure ?_)
  show wpAny _ _ (call (.builtin "BaseException.__getattribute__") [.ref x, .str "__class__" t]) _ _ _
  refine wpAny_call (codeAny_call_builtin PySem.F.excAttr_ValueError.ga.plain PySem.F.entry_bexc_ga ?_)
  refine @check_slot (model prog w) _ _ ⟨hp, g, d, t + 1, os⟩ "BaseException.__getattribute__" "BaseException" "__getattribute__" (.ref x) [.str "__class__" t] [] _ (by decide +kernel) (by decide +kernel) sub (PySem.F.args_bexc_ga (.ref x) (.str "__class__" t)) ?_
  unfold Builtin.«object.__getattribute__»
  refine wpAny_bind (wpAny_of_eq (a := ((Value.ref x : Value), [Value.str "__class__" t])) (by first | rfl | (simp only [slotArgs]; rfl)) ?_)
  refine wpAny_bind (wpAny_pure (wpAny_bind (L0.at (wpAny_bind (L3.at ?_)))))
  show wpAny _ _ (holding [Value.builtin "object.__class__"] (call (.builtin "getset_descriptor.__get__") [.builtin "object.__class__", .ref x, .ref D]) >>= ret) _ _ _
  refine wpAny_bind (wpAny_holding (wpAny_call (class_get (s := ⟨hp, g, d, t + 1, os⟩) (ox := ox) (od := od) X I hm ?_)))
  refine wpAny_pure ?_
  show wpAny _ _ (handedOut (.ref D)) _ _ _
  rw [handedOut_of (v := .ref D) rfl]
  first
    | exact wpAny_pure (wpAny_pure h)
    | exact wpAny_pure h
    | exact wpAny_pure (wpAny_bind (wpAny_pure (wpAny_pure h)))
theorem kitx_excT (hga : findIn K (.ref D) "__getattribute__" = some (some (.builtin "BaseException.__getattribute__"))) (hgt : findIn K (.ref D) "__getattr__" = some none) (hsub : subIn K (.ref D) (.type "BaseException") = some true) (hdct : hasDictIn K D = true) (ha : findIn K (.ref D) "__class__" = some (some (.builtin "object.__class__")))
    (hn : specialIn K (.builtin "object.__class__") "__get__" = some (some (.builtin "getset_descriptor.__get__"))) (htk : takesIn K (.builtin "object.__class__") = some true) (hm : mroIn K D (.type "object") = some true) :
    KitX K (.ref x) (.ref D) (fun h => ∃ (ox : Obj) (od : Option Obj), InstAt h x ox D od) where
  ty := fun _ _ _ I => by
    obtain ⟨ox, od, I⟩ := I
    exact I.type
  it := fun _ _ X _ => by
    obtain ⟨cdD, hcD, _⟩ := any_some hdct
    unfold clsIn at hcD
    split at hcD
    · rename_i c' d' cd' sl' ho
      intro A' Q' E' s' k q
      unfold isType loadHead
      exact wpAny_bind (wpAny_loadPart (k _ _ (X _ _ ho)) (wpAny_pure q))
    · cases hcD
  ne := fun h tp dd its n sl X htp => by
    obtain ⟨cdD, hcD, _⟩ := any_some hdct
    refine Bool.eq_false_iff.mpr fun q => ?_
    have e : D = tp := Value.ref.inj (beq_iff_eq.mp q)
    subst e
    unfold clsIn at hcD
    split at hcD
    · rename_i c' d' cd' sl' ho
      have z := (X _ _ ho).symm.trans htp
      cases z
    · cases hcD
  ca := fun X I k => by
    obtain ⟨ox, od, I⟩ := I
    exact kin_classT hga hgt hsub hdct ha hn htk hm X I k
end
end PySem.W
namespace L2
open PySem PySem.Spec PyProof.Rows
section
variable {X : Cx} {pins : List (Addr × Obj)} {σ : St} {H : Hp} {s : Shared}
theorem exT_inst (I : Inv X pins σ H s) {a D : Addr} {d : Option Addr} {fs : List (Str × V)} (e : H a = some (ExT (.ref D) d a)) (hd : ∀ dd, d = some dd → H dd = some (.xd fs)) : ∃ (ox : Obj) (od : Option Obj), PySem.W.InstAt s.heap a ox D od := by
  obtain ⟨oe, vs, he, hz, hv⟩ := exT_at I.hok e
  cases d with
  | none => exact ⟨oe, none, he, hz.1, by unfold PySem.W.notCls; rw [hv] <;> rfl, by rw [hz.2]; trivial⟩
  | some dd =>
    have hx : ObjOk X.prog X.w H s.heap dd (.xd fs) := I.hok dd _ (hd dd rfl)
    obtain ⟨mA, hns, hr⟩ := hx
    obtain ⟨od, ho, hl⟩ := lookIn_ns hns
    exact ⟨oe, some od, he, hz.1, by unfold PySem.W.notCls; rw [hv] <;> rfl, by rw [hz.2]; exact ho⟩
/-- isinstance(e, c), e a kept error -/
def rIsT (K : PySem.W.Frag) : List V → Hp → VK → Prop := fun xs H Q => ∃ (a D dd : Addr) (fs : List (Str × V)) (c : V) (cv : Value) (b : Bool), xs = [.ref a, c] ∧ H a = some (ExT (.ref D) (some dd) a) ∧ H dd = some (.xd fs) ∧ ExcC K D ∧ (∀ u, RelV c u → u = cv) ∧ PySem.W.kitOne K (.ref D) cv = some b ∧ Q (.bl b) H
theorem call_isT {X : Cx} : CallR X (.builtin "isinstance") (rIsT X.K) := by
  intro pins s σ H xs us Q I r h
  obtain ⟨a, D, dd, fs, c, cv, b, rfl, e, ed, C, hcv, hb, q⟩ := h
  cases r with
  | cons rx rr =>
    cases rr with
    | cons rt rr =>
      cases rr
      cases rx
      have ec := hcv _ rt
      subst ec
      exact PySem.W.kia_one (PySem.W.kitx_excT C.hg C.hk C.hs C.hd C.ha C.hn C.ht C.hm) I.kIn (exT_inst I e (fun d' z => by cases z; exact ed)) hb (fun z => nomatch z) fun tk => ⟨.bl b, H, I.kept (t' := tk) fun _ _ z => z, rfl, q⟩
/-- isinstance(e, (c, ..)), e a kept error -/
def rIsTT (K : PySem.W.Frag) : List V → Hp → VK → Prop := fun xs H Q => ∃ (a D dd t : Addr) (fs : List (Str × V)) (cs : List Addr) (b : Bool), xs = [.ref a, .ref t] ∧ H a = some (ExT (.ref D) (some dd) a) ∧ H dd = some (.xd fs) ∧ ExcC K D ∧ H t = some (.tup (cs.map V.ref)) ∧ PySem.W.kitAny K (.ref D) (cs.map Value.ref) = some b ∧ Q (.bl b) H
theorem call_isTT {X : Cx} : CallR X (.builtin "isinstance") (rIsTT X.K) := by
  intro pins s σ H xs us Q I r h
  obtain ⟨a, D, dd, t, fs, cs, b, rfl, e, ed, C, ht, hb, q⟩ := h
  cases r with
  | cons rx rr =>
    cases rr with
    | cons rt rr =>
      cases rr
      cases rx
      cases rt
      obtain ⟨its, rv, ⟨ot, ho, hc, n, hd⟩, _⟩ := I.tuple (SqT.of (K := X.K) ht)
      have ei := LfX.refs_vals rv
      subst ei
      obtain ⟨c0, d0, dt0, sl0⟩ := ot
      dsimp only at hc hd
      subst hc
      subst hd
      exact PySem.W.kia_tup (PySem.W.kitx_excT C.hg C.hk C.hs C.hd C.ha C.hn C.ht C.hm) I.kIn (exT_inst I e (fun d' z => by cases z; exact ed)) ho hb (fun z => nomatch z) fun tk => ⟨.bl b, H, I.kept (t' := tk) fun _ _ z => z, rfl, q⟩
/-- e.f, e a kept error -/
def tXt (K : PySem.W.Frag) (f : Str) (te : TE) : TE := fun σ H Q => te σ H fun x H1 => ∃ (a C dd : Addr) (fs : List (Str × V)) (v : V), x = .ref a ∧ H1 a = some (ExT (.ref C) (some dd) a) ∧ H1 dd = some (.xd fs) ∧ XfC K C ∧ PySem.W.findIn K (.ref C) f = some none ∧ fs.lookup f = some v ∧ Q v H1
theorem pe_xt {X : Cx} {e : Expr} {te : TE} {pos : Pos} {n : Str} (he : PE X e te) (hb : attributeBase e n X.env (eval e X.env) = eval e X.env := by rfl) :
    PE X (.Attribute e n pos) (tXt X.K n te) := by
  refine ⟨fun pins s σ H Q I h => ?_⟩
  refine attr_of hb (thn (he.run pins s σ H _ I h) fun u s1 hh => ?_)
  obtain ⟨x, H1, I1, rx, a, C, dd, fs, v, ex, e, ea, T, hno, l, q⟩ := hh
  subst ex
  obtain rfl : u = Value.ref a := rx
  obtain ⟨oe, vs, ha, hz, hd⟩ := exT_at I1.hok e
  have hx : ObjOk X.prog X.w H1 s1.heap dd (.xd fs) := I1.hok dd _ ea
  obtain ⟨mA, hns, hr⟩ := hx
  obtain ⟨od, ho, hl⟩ := lookIn_ns hns
  obtain ⟨u, hu, ru⟩ := RelO.some_of (v := v) (o := mA n) (by rw [← l]; exact hr n)
  have J : PySem.W.InstAt s1.heap a oe C (some od) := ⟨ha, hz.1, by unfold PySem.W.notCls; rw [hd] <;> rfl, by rw [hz.2]; exact ho⟩
  exact HandSPX.exc_get I1.kIn J T.ga T.gg T.exC (PySem.W.findObj_own T.hdC hno rfl (by rw [hl, hu])) (handed_of ru) ⟨v, H1, I1.tok _, ru, q⟩
end
end L2
end
section
set_option Elab.async false
set_option maxRecDepth 100000
set_option linter.all false
namespace K2
open PySem L2 LamX PySem.Spec PyProof.Rows
theorem Pen.extN {H H' : Hp} {p c : Addr} {ns : List Int} {n : Nat} (h : Pen H p c ns n) (s : ExtN H H') : Pen H' p c ns n := by
  obtain ⟨a, l, g, r⟩ := h.pen
  exact ⟨⟨a, l, s _ _ g (fun ps z => by unfold penO at z; cases z), r⟩, s _ _ h.cells (fun ps z => by cases z), h.small⟩
theorem Tabs.kp {T : List (Addr × Str)} {H H' : Hp} {p c : Addr} {ns : List Int} {n : Nat} (t : Tabs T H) (P : Pen H p c ns n) (k : Keep p H H') : Tabs T H' := fun q hq => by
  obtain ⟨ps, h1, h2, h3⟩ := t q hq
  obtain ⟨a, l, g, _⟩ := P.pen
  refine ⟨ps, k _ _ h1 (fun e => ?_), h2, fun pos cv hc => ?_⟩
  · rw [e, g] at h1
    unfold penO at h1
    cases h1
  · obtain ⟨c0, e1, e2⟩ := h3 pos cv hc
    refine ⟨c0, e1, k _ _ e2 fun e => ?_⟩
    rw [e, g] at e2
    unfold penO CodeO at e2
    cases e2
theorem Tabs.same {T : List (Addr × Str)} {H H' : Hp} (t : Tabs T H) (s : Same H H') : Tabs T H' := t.ext s

theorem Good.nar {rs : List Row} (g : Good rs) (h : rs.length ≤ 31) : ∀ r ∈ rs, r.2.length ≤ 32 := by
  intro r hr
  obtain ⟨i, hi⟩ := List.getElem?_of_mem hr
  have R := g i r hi
  have il : i < rs.length := (List.getElem?_eq_some_iff.mp hi).1
  have := R.nd.length_le_of_subset R.sub
  rw [knownAt_len (by omega)] at this
  omega
section
variable {P : Program} {w : World} {K : PySem.W.Frag} {mg : Str → Option Value} {base : Heap}
theorem _root_.L2.FnOk.lift {k : Nat} {f : Addr} {fd : FuncData} {ps : List Str} {sp : Sp} (F : FnOk P w K mg base CX0 k f fd ps sp) : FnOk P w K mg base (L2.CX P w) k f fd ps sp :=
  ⟨F.len, fun A outer s H args us vs Q E hr he hb hv hs => codeAny_mono (F.run A outer s H args us vs Q E hr he hb hv hs) fun r s' hq => by
    cases r with
    | error e => exact hq.elim
    | ok fl => cases fl <;> exact hq⟩
theorem _root_.L2.FnR.lift {k : Nat} {f : Addr} {sp : Sp} (F : FnR P w K mg base CX0 k f sp) : FnR P w K mg base (L2.CX P w) k f sp :=
  fun A outer s H us vs Q E hr he hv hs => codeAny_mono (F A outer s H us vs Q E hr he hv hs) fun r s' hq => by
    cases r with
    | error e => exact hq.elim
    | ok fl => cases fl <;> exact hq
theorem _root_.L2.FnR.or {CX : CXT} {k : Nat} {f : Addr} {sp sp' : Sp} (F : FnR P w K mg base CX k f sp) (G : FnR P w K mg base CX k f sp') : FnR P w K mg base CX k f (fun vs H Q E => sp vs H Q E ∨ sp' vs H Q E) :=
  fun A outer s H us vs Q E hr he hv hs => hs.elim (F A outer s H us vs Q E hr he hv) (G A outer s H us vs Q E hr he hv)
/-! what is answered: classes or the first fault -/
def spEr : Sp := fun vs H Q _ => (∃ a xs, vs = [.ref a] ∧ H a = some (.lst xs) ∧ Q .non H) ∨ ∃ a xs, vs = [.ref a] ∧ H a = some (.tup xs) ∧ Q (.ref a) H
end
end K2
end
section
set_option Elab.async false
set_option maxRecDepth 100000
set_option linter.all false
/-! sets refused, heard -/
namespace K2
open PySem L2 LfX PySem.Spec PyProof.Rows
abbrev sRf : Stmt := top 24
abbrev nRf : List Str := ["_law_rows", "_law_caught", "error"]
abbrev sRs : Stmt := top 25
abbrev nRs : List Str := ["_law_row", "_law_place_here", "error"]
structure OfAct (K : PySem.W.Frag) (CN LE A1 A2 A3 A4 : Addr) : Prop where
  ex : PySem.W.exmOne K (.ref CN) (.ref LE) = some true
  ex2 : PySem.W.exmOne K (.ref CN) (.ref CN) = some true
  isC : ExcC K CN
  xf : XfC K CN
  fp : PySem.W.findIn K (.ref CN) "place" = some none
  k1 : PySem.W.kitOne K (.ref CN) (.ref CN) = some true
  kt : PySem.W.kitAny K (.ref CN) ([A1, A2, A3, A4].map Value.ref) = some false
theorem naF_place (n : Nat) : (naF n).lookup ("place" : Str) = some (.int n) := by
  exact List.lookup_cons_self
/-- rows that are acts, or the first that is none -/
def spRf (K : PySem.W.Frag) : Sp := fun vs H Q _ => ∃ (l : Addr), vs = [.ref l] ∧ ((∃ (ts : List Addr) (as : List LfX.Act), H l = some (.lst (ts.map V.ref)) ∧ ActsAt H ts as ∧ AllW as ∧ as.length ≤ 1000 ∧ ∀ H', Same H H' → Q .non H') ∨
  (∃ (xs : List V) (n : Nat), H l = some (.lst xs) ∧ xs.length ≤ 5000 ∧ BadA K H xs n ∧ ∀ H', Same H H' → Q (.int n) H'))
def spRs (K : PySem.W.Frag) : Sp := fun vs H Q _ => ∃ (x : V), vs = [x] ∧ ActV K H x false ∧ ∀ H', Same H H' → Q (.int 0) H'
/-- place := error.place -/
def tSeqS (K : PySem.W.Frag) : L2.TS := fun D σ H => tXt K "place" (tVar 2) σ H fun v H' => D.nx (σ.set 1 (some v)) H'
theorem pss_imp {X : Cx} {st : List Stmt} {t t' : L2.TS} (h : PSs X st t) (k : ∀ D σ H, t' D σ H → t D σ H) : PSs X st t' := ⟨fun pins s σ H D I q => h.run pins s σ H D I (k D σ H q)⟩
section
variable {P : Program} {w : World} {K : PySem.W.Frag} {mg : Str → Option Value} {base : Heap}
theorem FnOk.or {CX : CXT} {k : Nat} {f : Addr} {fd : FuncData} {ps : List Str} {sp sp' : Sp} (F : FnOk P w K mg base CX k f fd ps sp) (G : FnOk P w K mg base CX k f fd ps sp') :
    FnOk P w K mg base CX k f fd ps (fun vs H Q E => sp vs H Q E ∨ sp' vs H Q E) :=
  ⟨fun vs H Q E q => q.elim (F.len vs H Q E) (G.len vs H Q E), fun A outer s H args us vs Q E hr he hb hv hs => hs.elim (F.run A outer s H args us vs Q E hr he hb hv) (G.run A outer s H args us vs Q E hr he hb hv)⟩
theorem scRf : FnScope nRf ["_law_rows"] (defScope sRf) := ⟨rfl, rfl, rfl, by decide +kernel, rfl, by decide +kernel, by decide +kernel⟩
theorem scRs : FnScope nRs ["_law_row"] (defScope sRs) := ⟨rfl, rfl, rfl, by decide +kernel, rfl, by decide +kernel, by decide +kernel⟩
theorem ok_rf {f C CN LE A1 A2 A3 A4 pM fM : Addr} {mc : Value} {fd fdM : FuncData} (F : Fun K "_law_refused" "_law_refused" sRf f fd) (T : Bi mg) (Y : TxA K mg C)
    (mgN : mg "NoAct" = some (.ref CN)) (mgL : mg "LeaveError" = some (.ref LE)) (mg1 : mg "NoCase" = some (.ref A1)) (mg2 : mg "NoClass" = some (.ref A2)) (mg3 : mg "NoRecord" = some (.ref A3)) (mg4 : mg "NoRow" = some (.ref A4)) (M : OfAct K CN LE A1 A2 A3 A4)
    (cR : ClX.CRead K C mc) (cM : ClX.CMet K C mc "made" pM fM) (GM : FnOk P w K mg base CX0 6 fM fdM ["cls", "rows"] (spMdT P w C)) (GX : FnOk P w K mg base (L2.CX P w) 6 fM fdM ["cls", "rows"] (spMdX K C CN)) (bM : Binds K fdM ["cls", "rows"] []) : FnOk P w K mg base CX0 7 f fd ["_law_rows"] (spRf K) := by
  have GB := FnOk.or GM.lift GX
  refine F.ok scRf (fun vs H Q E h => ?_) (fun cdv A outer s H vs Q E hr h => ?_)
  · obtain ⟨l, rfl, _⟩ := h
    rfl
  · obtain ⟨l, rfl, k⟩ := h
    have hr6 : Room 6 _ := hr
    have hge : Gl (cxOf CX0 P w K mg base nRf "_law_refused" (defScope sRf) f cdv A outer s H E).nox "LeaveError" := by rfl
    refine ⟨_, (pss_cons (ps_set (i := 1) scRf.nd rfl (Or.inl rfl) pe_non)
      (pss_cons (ps_try_asT (X := (cxOf CX0 P w K mg base nRf "_law_refused" (defScope sRf) f cdv A outer s H E).nox) (i := 2) (c := .ref LE)
        (tb := fun W D σ H => ∃ (Ech : XK) (l : Addr), (∀ cls d σ' H', Ech cls d H' → W cls d σ' H') ∧ σ[0]? = some (some (.ref l)) ∧ ((∃ (ts : List Addr) (as : List LfX.Act), H l = some (.lst (ts.map V.ref)) ∧ ActsAt H ts as ∧ AllW as ∧ as.length ≤ 1000 ∧ ∀ H', Same H H' → D.nx σ H') ∨
          (∃ (xs : List V) (n : Nat), H l = some (.lst xs) ∧ xs.length ≤ 5000 ∧ BadA K H xs n ∧ ∀ (d : Addr) (H' : Hp), Same H H' → H' d = some (.xd (naF n)) → Ech (.ref CN) (some d) H')))
        rfl rfl scRf.nd rfl (by rfl) ⟨hge, by decide +kernel, .inl mgL⟩ LamX.takes0 (fun W pn xe tk _ => ?tr) (fun a cls d pn => pss_one (ps_set (i := 1) scRf.nd rfl (Or.inl rfl) (pv 2))))
      (pss_cons (ps_if (pt_cmpR op_isN (pv 1) pe_non (nomark _)) (pss_one (ps_ret pe_non)) pss_nil)
      (pss_cons (ps_if (PW.pt (pw_or (pt_not (pt_val (pe_callB call_isT (by rfl) T.isinstance (by decide +kernel) (pa_cons (pv 1) (pa_cons (pe_glob (v := .ref CN) (by rfl) mgN rfl) pa_nil)))))
          (pw_or1 (pt_val (pe_callB call_isTT (by rfl) T.isinstance (by decide +kernel) (pa_cons (pv 1) (pa_cons (pe_tup (pa_cons (pe_glob (v := .ref A1) (by rfl) mg1 rfl) (pa_cons (pe_glob (v := .ref A2) (by rfl) mg2 rfl) (pa_cons (pe_glob (v := .ref A3) (by rfl) mg3 rfl) (pa_cons (pe_glob (v := .ref A4) (by rfl) mg4 rfl) pa_nil))))) pa_nil)))))))
        (pss_one (ps_ret pe_str)) pss_nil)
      (pss_one (ps_ret (pe_xt (pv 1)))))))), ?body⟩
    case tr =>
      refine ⟨fun pins s' σ H' D I h' => ?_⟩
      obtain ⟨Ech, l, hW, h0, k⟩ := h'
      refine (pss_one (ps_expr (ClX.pe_cmeth (pe_glob (v := .ref C) (by rfl) Y.mgC rfl) cR cM (GB.raw bM .nil) hr6 (passes_call tk hW) (pa_cons (pv 0) pa_nil)))).run pins s' σ H' D I ?_
      refine ⟨rfl, _, h0, ?_⟩
      rcases k with ⟨ts, as, hl, A1, w1, l1, k⟩ | ⟨xs, n, hl, lx, B, k⟩
      · exact .inl ⟨l, ts, as, rfl, .inr hl, A1, w1, l1, fun r H'' _ s'' => k H'' s''⟩
      · exact .inr ⟨l, xs, n, rfl, hl, lx, B, k⟩
    rcases k with ⟨ts, as, hl, A0, w0, l0, k⟩ | ⟨xs, n, hl, lx, B, k⟩
    · refine ⟨fun _ _ _ => False, l, fun cls d σ' H' z => z.elim, rfl, .inl ⟨ts, as, hl, A0, w0, l0, fun H' s' => ?_⟩⟩
      exact ⟨_, rfl, rfl, _, rfl, iteT (k H' s')⟩
    · refine ⟨fun cls d H' => ∃ dd, cls = .ref CN ∧ d = some dd ∧ H' dd = some (.xd (naF n)) ∧ Same H H', l, fun cls d σ' H' hm hlen => ?_, rfl, .inr ⟨xs, n, hl, lx, B, fun d H' s' e => ⟨d, rfl, rfl, e, s'⟩⟩⟩
      obtain ⟨dd, rfl, rfl, hx, sH⟩ := hm
      refine ⟨true, M.ex, fun _ a na => ?_, fun z => nomatch z⟩
      obtain ⟨s0, s1, s2, rfl⟩ : ∃ s0 s1 s2, σ' = [s0, s1, s2] := by
        match σ', hlen with
        | [s0, s1, s2], _ => exact ⟨s0, s1, s2, rfl⟩
      have sE : Same H' (upd H' a (ExT (.ref CN) (some dd) a)) := (Same.refl H').put na
      have ha : (upd H' a (ExT (.ref CN) (some dd) a)) a = some (ExT (.ref CN) (some dd) a) := upd_same
      have hd := sE _ _ hx
      have s0H := sH.trans sE
      generalize upd H' a (ExT (.ref CN) (some dd) a) = He at *
      refine ⟨_, rfl, _, rfl, rfl, false, rfl, iteF ?_⟩
      refine ⟨_, rfl, a, CN, dd, naF n, _, _, _, rfl, ha, hd, M.isC, fun _ r => r, M.k1, _, rfl, iteF ?_⟩
      refine ⟨_, rfl, (by show 4 ≤ sizeLine; decide), fun t ht => ?_⟩
      have s4 : Same He (upd He t (.tup [.ref A1, .ref A2, .ref A3, .ref A4])) := (Same.refl He).put ht
      have e4 : (upd He t (.tup [.ref A1, .ref A2, .ref A3, .ref A4])) t = some (.tup ([A1, A2, A3, A4].map V.ref)) := upd_same
      generalize upd He t (.tup [.ref A1, .ref A2, .ref A3, .ref A4]) = H4 at s4 e4 ⊢
      refine ⟨a, CN, dd, t, naF n, [A1, A2, A3, A4], _, rfl, s4 _ _ ha, s4 _ _ hd, M.isC, e4, M.kt, _, rfl, iteF ?_⟩
      exact ⟨_, rfl, a, CN, dd, naF n, .int n, rfl, s4 _ _ ha, s4 _ _ hd, M.xf, M.fp, naF_place n, k _ (s0H.trans s4)⟩
theorem ok_rs {f C CN LE A1 A2 A3 A4 fI : Addr} {fd : FuncData} (F : Fun K "_law_refused_by_stars" "_law_refused_by_stars" sRs f fd) (Y : TxA K mg C)
    (mgN : mg "NoAct" = some (.ref CN)) (M : OfAct K CN LE A1 A2 A3 A4) (MC : Mk K C fI) (GX : FnR P w K mg base (L2.CX P w) 4 fI (spInXR K C CN)) : FnOk P w K mg base CX0 6 f fd ["_law_row"] (spRs K) := by
  refine F.ok scRs (fun vs H Q E h => ?_) (fun cdv A outer s H vs Q E hr h => ?_)
  · obtain ⟨x, rfl, _⟩ := h
    rfl
  · obtain ⟨x, rfl, B, k⟩ := h
    have hr5 : Room 5 _ := hr
    have hge : Gl (cxOf CX0 P w K mg base nRs "_law_refused_by_stars" (defScope sRs) f cdv A outer s H E).nox "NoAct" := by rfl
    refine ⟨_, (pss_cons (ps_set (i := 1) scRs.nd rfl (Or.inl rfl) pe_non)
      (pss_cons (ps_try_asT (X := (cxOf CX0 P w K mg base nRs "_law_refused_by_stars" (defScope sRs) f cdv A outer s H E).nox) (i := 2) (c := .ref CN)
        (tb := fun W D σ H => ∃ (Ech : XK) (x : V), (∀ cls d σ' H', Ech cls d H' → W cls d σ' H') ∧ σ[0]? = some (some x) ∧ ActV K H x false ∧ ∀ (d : Addr) (H' : Hp), Same H H' → H' d = some (.xd (naF 0)) → Ech (.ref CN) (some d) H')
        rfl rfl scRs.nd rfl (by rfl) ⟨hge, by decide +kernel, .inl mgN⟩ LamX.takes0 (fun W pn xe tk _ => ?tr) (ts := fun a cls d => tSeqS K) (fun a cls d pn => ?su))
      (pss_one (ps_ret (pv 1))))), ?body⟩
    case tr =>
      refine ⟨fun pins s' σ H' D I h' => ?_⟩
      obtain ⟨Ech, x, hW, h0, B, k⟩ := h'
      refine (pss_one (ps_expr (StX.pe_makeR MC GX hr5 (by rfl) Y.mgC (passes_call tk hW) (pa_cons (pv 0) (pa_cons (pe_tup (pa_cons pe_str (pa_cons pe_non (pa_cons pe_str pa_nil)))) pa_nil))))).run pins s' σ H' D I ?_
      refine ⟨_, h0, (by show 3 ≤ sizeLine; decide), fun t ht => ?_⟩
      have s4 : Same H' (upd H' t (.tup [.str "a", .non, .str "b"])) := (Same.refl H').put ht
      generalize upd H' t (.tup [.str "a", .non, .str "b"]) = H4 at s4 ⊢
      exact initAX (n := 0) (Q := fun _ H2 => D.nx σ H2) ⟨[], [], x, [.ref t], rfl, ⟨rfl, fun j q a h => by simp at h⟩, fun a ha => by simp at ha, rfl, by decide, B.same s4⟩ (by show 2 ≤ 5000; decide) fun d H'' s'' e => k d H'' (s4.trans s'') e
    case su => exact pss_imp (pss_one (ps_set (i := 1) scRs.nd rfl (Or.inl rfl) (pe_xt (pv 2)))) fun D σ H h => h
    refine ⟨fun cls d H' => ∃ dd, cls = .ref CN ∧ d = some dd ∧ H' dd = some (.xd (naF 0)) ∧ Same H H', x, fun cls d σ' H' hm hlen => ?_, rfl, B, fun d H' s' e => ⟨d, rfl, rfl, e, s'⟩⟩
    obtain ⟨dd, rfl, rfl, hx, sH⟩ := hm
    refine ⟨true, M.ex2, fun _ a na => ?_, fun z => nomatch z⟩
    obtain ⟨s0, s1, s2, rfl⟩ : ∃ s0 s1 s2, σ' = [s0, s1, s2] := by
      match σ', hlen with
      | [s0, s1, s2], _ => exact ⟨s0, s1, s2, rfl⟩
    have sE : Same H' (upd H' a (ExT (.ref CN) (some dd) a)) := (Same.refl H').put na
    have ha : (upd H' a (ExT (.ref CN) (some dd) a)) a = some (ExT (.ref CN) (some dd) a) := upd_same
    have hd := sE _ _ hx
    have s0H := sH.trans sE
    generalize upd H' a (ExT (.ref CN) (some dd) a) = He at *
    refine ⟨_, rfl, a, CN, dd, naF 0, .int (0 : Nat), rfl, ha, hd, M.xf, M.fp, naF_place 0, ?_⟩
    exact ⟨_, rfl, k _ s0H⟩
end
end K2
end
section
set_option Elab.async false
set_option maxRecDepth 100000
set_option linter.all false
/-! a set keeps its acts -/
namespace K2
open PySem L2 LfX PySem.Spec PyProof.Rows
abbrev sKe : Stmt := top 26
abbrev nKe : List Str := ["_law_pen_here", "_law_acts", "_law_due", "_law_held", "_law_one", "_law_turned", "_law_thing", "_law_less", "_law_k", "_law_act"]
theorem sub_ty {K : PySem.W.Frag} {C : Addr} {T : String} {l : List String} (e : fastBuiltinMro T = some (l.map Value.type)) : PySem.W.subIn K (.type T) (.ref C) = some false := by
  show (fastBuiltinMro T).map (·.contains (.ref C)) = some false
  rw [e]
  simp
theorem nf_ty {K : PySem.W.Frag} {C : Addr} {T : String} {l : List String} (e : fastBuiltinMro T = some (l.map Value.type)) : PySem.W.notFirst K C (.type T) = true := by
  unfold PySem.W.notFirst
  rw [sub_ty e]
  simp
def rInDtT (K : PySem.W.Frag) (neg : Bool) : R2 := fun x y H Q => ∃ (d : PyData) (ds : List PyData), Dp K H x d ∧ Dp K H y (.tuple ds) ∧ SeqAt.shaped d = true ∧ PyData.canLayAll0 ds = true ∧ Q (.bl (if neg then !(ds.any fun z => PyData.eqv z d) else ds.any fun z => PyData.eqv z d)) H
theorem op_ninDtT {X : Cx} (hu : X.A.units + 65 < cLine) : OpR X (compareOp .NotIn) (rInDtT X.K true) := by
  intro pins s σ H x y v u Q I rx ry h
  obtain ⟨d, ds, hd, he, sd, se, q⟩ := h
  obtain ⟨as, r1⟩ := Dp.reads I d x v hd rx
  obtain ⟨bs, r2⟩ := Dp.reads I (.tuple ds) y u he ry
  exact SeqAt.notIn_tuple_reads r2 r1 se (SeqAt.canLay_of_shaped sd) (room_in sd hu) ⟨.bl _, H, I, rfl, q⟩
theorem sorted_same {L : List LfX.Act} (wa : AllW L) (pw : L.Pairwise leA) (nd : L.Nodup) : lawSort L = L := by
  rw [← lawSort_eq (as := L) (bs := L) (fun a ha => (wa a ha).hdok) nd fun y => Iff.rfl]
  exact ascA_one (fun a ha => (wa a ((sortA_perm L).mem_iff.mp ha)).hdok) (sortA_perm L) (sortA_pw L) pw
theorem lawSort_pw (as : List LfX.Act) : (lawSort as).Pairwise leA := (lawSort_ok as [] .nil List.nodup_nil).1
theorem lawSort_tail {as : List LfX.Act} (wa : AllW as) : lawSort ((lawSort as).drop 1) = (lawSort as).drop 1 :=
  sorted_same (fun a ha => lawSort_w wa a (List.mem_of_mem_drop ha)) ((lawSort_pw as).sublist (List.drop_sublist 1 _)) ((lawSort_nd as).sublist (List.drop_sublist 1 _))
theorem tail_same (L : List LfX.Act) : decide (L.drop 1 = L) = decide (L.length = 0) := by
  cases L with
  | nil => simp
  | cons x L =>
    have : ¬ L = x :: L := fun e => by have := congrArg List.length e; simp at this
    simp [this]
theorem actsDL_eqv (as bs : List LfX.Act) : PyData.eqv (.list (as.map actD)) (.list (bs.map actD)) = decide (as = bs) := actsD_eqv2 as bs
theorem actsDL_shaped {as : List LfX.Act} (wa : AllW as) : SeqAt.shaped (.list (as.map actD)) = true := actsD_shaped wa
theorem initAv {P : Program} {w : World} {C : Addr} {H : Hp} {ts : List Addr} {vs : List V} {as : List LfX.Act} {Q : VK} {E : XK} (ev : vs = ts.map V.ref) (R : ActsAt H ts as) (g : AllW as) (hl : as.length ≤ 1000)
    (x dx : Addr) (nx : H x = none) (ndx : H dx = none) (ne : dx ≠ x) (k : ∀ (H' : Hp), AcW P w C H' x (lawSort as) → Same H H' → Q .non H') : spInR P w C (V.ref x :: vs) (upd (upd H dx (.own x)) x (.ins C dx [])) Q E := by
  subst ev
  refine ⟨[V.ref x], _, rfl, rfl, ?_, fun pt hpt => ?_⟩
  · rw [List.length_map, R.1]; show _ ≤ 16777216; omega
  have s1 : Same H (upd (upd H dx (.own x)) x (.ins C dx [])) := ((Same.refl H).put ndx).put nx
  have s2 : Same H (upd (upd (upd H dx (.own x)) x (.ins C dx [])) pt (.tup (ts.map V.ref))) := s1.put (s1.free hpt)
  exact ⟨x, dx, pt, ts, as, rfl, by rw [upd_ne (ne_of_none upd_same hpt), upd_same], upd_same, R.mono fun b r e => s2 b _ e, g, hl, fun H' cl kp => k H' cl fun b o e => kp b o (s2 b o e) (ne_of_none e nx)⟩
def spKe : Sp := fun vs H Q _ => ∃ (v : V) (la : Addr) (ts : List Addr) (as : List LfX.Act), vs = [v, .ref la] ∧ H la = some (.lst (ts.map V.ref)) ∧ ActsAt H ts as ∧ AllW as ∧ as.length ≤ 200 ∧ ∀ H', Same H H' → Q (.bl true) H'
section
variable {P : Program} {w : World} {K : PySem.W.Frag} {mg : Str → Option Value} {base : Heap}
theorem scKe : FnScope nKe ["_law_pen_here", "_law_acts"] (defScope sKe) := ⟨rfl, rfl, rfl, by decide +kernel, rfl, by decide +kernel, by decide +kernel⟩
set_option maxHeartbeats 1000000 in
theorem ok_ke {f C pM fM fI fQ fLn fCo fSo : Addr} {mc : Value} {fd fdM fdQ fdLn fdCo fdSo : FuncData} (F : Fun K "_law_kept" "_law_kept" sKe f fd) (T : Bi mg) (Y : TxA K mg C) (O : OwnA K C) (kTu : PySem.W.kitOne K (.type "tuple") (.ref C) = some false) (kLi : PySem.W.kitOne K (.type "list") (.ref C) = some false)
    (cR : ClX.CRead K C mc) (cM : ClX.CMet K C mc "made" pM fM) (GM : FnOk P w K mg base CX0 6 fM fdM ["cls", "rows"] (spMdT P w C)) (bM : Binds K fdM ["cls", "rows"] []) (MC : Mk K C fI) (GI : FnR P w K mg base CX0 4 fI (spInR P w C))
    (GQ : FnOk P w K mg base CX0 1 fQ fdQ ["self", "other"] (spEqA P w K C)) (bQ : Binds K fdQ ["self", "other"] []) (hQ : PySem.W.findIn K (.ref C) "__eq__" = some (some (.ref fQ))) (hQf : PySem.W.isFn K (.ref fQ) = true)
    (GLn : FnOk P w K mg base CX0 1 fLn fdLn ["self"] (spLnA P w C)) (bLn : Binds K fdLn ["self"] []) (hLn : PySem.W.findIn K (.ref C) "__len__" = some (some (.ref fLn))) (hLnf : PySem.W.isFn K (.ref fLn) = true)
    (GCo : FnOk P w K mg base CX0 3 fCo fdCo ["self", "x"] (spCoG P w K C)) (bCo : Binds K fdCo ["self", "x"] []) (hCo : PySem.W.findIn K (.ref C) "__contains__" = some (some (.ref fCo))) (hCof : PySem.W.isFn K (.ref fCo) = true)
    (SO : Df K mg "_law_sorted" sSoB fSo fdSo ["_law_acts"]) (GSo : FnOk P w K mg base CX0 2 fSo fdSo ["_law_acts"] spSo) : FnOk P w K mg base CX0 7 f fd ["_law_pen_here", "_law_acts"] spKe := by
  refine F.ok scKe (fun vs H Q E h => ?_) (fun cdv A outer s H vs Q E hr h => ?_)
  · obtain ⟨v, la, ts, as, rfl, _⟩ := h
    rfl
  · obtain ⟨v, la, ts, as, rfl, hla, AT, wa, na, k⟩ := h
    have hr6 : Room 6 _ := hr
    have hr5 : Room 5 _ := hr.mono (by decide)
    have hr3 : Room 3 _ := hr.mono (by decide)
    have hr2 : Room 2 _ := hr.mono (by decide)
    have hr1 : Room 1 _ := hr.mono (by decide)
    have hu65 := u65 hr
    have hu0 := u0_of hr
    refine ⟨_, (pss_cons (ps_set (i := 2) scKe.nd rfl (Or.inl rfl) (pe_call GSo hr2 (by rfl) SO.m SO.F.kp SO.b .nil pass0 (pa_cons (pv 1) pa_nil)))
      (pss_cons (ps_set (i := 3) scKe.nd rfl (Or.inl rfl) (pe_callTy call_list_of (by rfl) T.list (by decide +kernel) (pa_cons (pv 1) pa_nil)))
      (pss_cons (ps_set (i := 4) scKe.nd rfl (Or.inr rfl) (ClX.pe_cmeth (pe_glob (v := .ref C) rfl Y.mgC rfl) cR cM (GM.raw bM .nil) hr6 pass0 (pa_cons (pv 3) pa_nil)))
      (pss_cons (ps_set (i := 5) scKe.nd rfl (Or.inl rfl) (ClX.pe_cmeth (pe_glob (v := .ref C) rfl Y.mgC rfl) cR cM (GM.raw bM .nil) hr6 pass0 (pa_cons (pe_callTy call_tuple_of (by rfl) T.tuple (by decide +kernel) (pa_cons (pe_lc (own := [("_law_k", 8)]) (g := gName 8) (tt := tYes) rfl scKe.nd (pi_range1 rfl T.range (pa_cons (pe_callB call_len_seq (by rfl) T.len PySem.boot_len (pa_cons (pv 1) pa_nil)) pa_nil)) (blkOk_by (N := nKe) (sc := defScope sKe) (by decide +kernel)) (fun _ _ _ _ _ => pg_name (i := 8) scKe.nd rfl (Or.inl rfl)) (fun _ _ _ _ _ => pts_nil) (fun _ _ _ _ _ => pe_ix (ix_listK (K' := K) rfl) (pv 1) (pe_op op_sub (pe_op op_sub (pe_callB (call_len_seqK (K' := K) rfl) (by rfl) T.len PySem.boot_len (pa_cons (pv 1) pa_nil)) pe_int) (pv 8)) (fun _ _ => rfl))) pa_nil)) pa_nil)))
      (pss_cons (ps_if (PW.pt (pw_or (pt_cmpR (op_neD hr.units) (pv 3) (pv 1) (nomark _)) (pw_or (pt_cmpR (op_neD hr.units) (pe_fld (pv 4) rfl) (pv 2) (nomark _)) (pw_or (pt_not (pt_val (pe_callB call_isi (by rfl) T.isinstance (by decide +kernel) (pa_cons (pe_fld (pv 4) rfl) (pa_cons (pe_bltn (v := .ty "tuple") (by rfl) T.tuple (by decide +kernel) rfl) pa_nil))))) (pw_or (pt_cmpR (op_neD hr.units) (pe_fld (pv 5) rfl) (pv 2) (nomark _)) (pw_or1 (pt_not (pt_cmpR (op_eqO GQ bQ pass0 hr1 hu0 hQ hQf) (pv 4) (pv 5) (nomark _)))))))))
      (pss_one (ps_ret pe_bl))
      pss_nil)
      (pss_cons (ps_if (PW.pt (pw_or (pt_cmpR op_ne (pe_callB (call_lenO GLn bLn pass0 hr2 hLn hLnf) (by rfl) T.len (by decide +kernel) (pa_cons (pv 4) pa_nil)) (pe_callB call_len_seq (by rfl) T.len PySem.boot_len (pa_cons (pv 2) pa_nil)) (nomark _)) (pw_or (pt_not (pt_val (pe_callB (cr_all rfl) (by rfl) T.all (by decide +kernel) (pa_cons (pe_lc (own := [("_law_act", 9)]) (g := gName 9) (tt := tYes) (te := tOp (rInO C (spCoG P w K C)) (tVar 9) (tVar 4)) rfl scKe.nd (pi_list (pv 1)) (blkOk_by (N := nKe) (sc := defScope sKe) (by decide +kernel)) (fun _ _ _ _ _ => pg_name (i := 9) scKe.nd rfl (Or.inl rfl)) (fun _ _ _ _ _ => pts_nil) (fun s1 H1 C1 cl1 fp1 => ?inel)) pa_nil)))) (pw_or (pt_cmpR (op_eqO GQ bQ pass0 hr1 hu0 hQ hQf) (pv 4) (pv 2) (nomark _)) (pw_or1 (pt_cmpR (op_eqO GQ bQ pass0 hr1 hu0 hQ hQf) (pv 4) (pe_callTy call_list_of (by rfl) T.list (by decide +kernel) (pa_cons (pv 2) pa_nil)) (nomark _)))))))
      (pss_one (ps_ret pe_bl))
      pss_nil)
      (pss_cons (ps_for PassesOwn.never rfl (pi_list (pe_lst (pa_cons pe_non (pa_cons pe_str (pa_cons (pe_lst pa_nil) (pa_cons (pe_tup (pa_cons pe_str pa_nil)) (pa_cons (pe_tup (pa_cons pe_str (pa_cons pe_non (pa_cons pe_str pa_nil)))) (pa_cons (pe_tup (pa_cons pe_int (pa_cons pe_int (pa_cons pe_int pa_nil)))) (pa_cons pe_dnewK pa_nil))))))))) (pg_name (i := 6) scKe.nd rfl (Or.inl rfl))
      (pss_one (ps_if (PW.pt (pw_and (pt_cmpR (op_inO GCo bCo pass0 hr3 hCo hCof) (pv 6) (pv 4) rfl) (pw_and1 (pt_cmpR (op_ninDtT hu65) (pv 6) (pv 2) rfl))))
        (pss_one (ps_ret pe_bl))
        pss_nil)))
      (pss_cons (ps_set (i := 7) scKe.nd rfl (Or.inl rfl) (ClX.pe_cmeth (pe_glob (v := .ref C) rfl Y.mgC rfl) cR cM (GM.raw bM .nil) hr6 pass0 (pa_cons (pe_slice sl_tup2 (pv 2) (po_some pe_int) po_none) pa_nil)))
      (pss_cons (ps_if (PW.pt (pw_and (pt_cmpR op_gt (pe_callB call_len_seq (by rfl) T.len PySem.boot_len (pa_cons (pv 1) pa_nil)) pe_int (nomark _)) (pw_and1 (pt_cmpR (op_neD hr.units) (pe_fld (StX.pe_makeR MC GI hr5 (by rfl) Y.mgC pass0 (pa_cons (pe_ix ix_list (pv 1) pe_int (fun _ _ => rfl)) (pa_cons (pe_ix ix_list (pv 1) pe_int (fun _ _ => rfl)) pa_nil))) rfl) (pe_call GSo hr2 (by rfl) SO.m SO.F.kp SO.b .nil pass0 (pa_cons (pe_slice sl_list (pv 1) po_none (po_some pe_int)) pa_nil)) (nomark _)))))
      (pss_one (ps_ret pe_bl))
      pss_nil)
      (pss_one (ps_ret (pe_and (pe_cmpR op_eq (pe_cmpR (op_eqO GQ bQ pass0 hr1 hu0 hQ hQf) (pv 7) (pv 4) (nomark _)) (pe_cmpR op_eq (pe_callB call_len_seq (by rfl) T.len PySem.boot_len (pa_cons (pv 2) pa_nil)) pe_int (nomark _)) (nomark _)) (pe_and (pe_cmpR (op_eqD hr.units) (pe_fld (pv 7) rfl) (pe_slice sl_tup2 (pv 2) (po_some pe_int) po_none) (nomark _)) (pe_one (pe_cmpR op_eq (pe_callB (call_lenO GLn bLn pass0 hr2 hLn hLnf) (by rfl) T.len (by decide +kernel) (pa_cons (pe_makeR0 MC GI hr5 (by rfl) Y.mgC pass0) pa_nil)) pe_int (nomark _)))))))))))))))), ?_⟩
    case inel => exact pe_cmpR (op_inO GCo bCo pass0 hr3 hCo hCof) (pv 9) (pv 4) rfl
    have tl : (ts.map V.ref).length = as.length := by rw [List.length_map, AT.1]
    refine ⟨_, rfl, la, ts, as, rfl, hla, AT, wa, by omega, fun due dqs H1 hdue DA s1 => ?_⟩
    have wd := lawSort_w wa
    have ld : (lawSort as).length ≤ 200 := Nat.le_trans (lawSort_len as) na
    have hla1 := s1 _ _ hla
    have AT1 := AT.mono fun b xs e => s1 _ _ e
    refine ⟨_, rfl, la, _, rfl, .inl (SqL.of hla1), fun hl hhl => ?_⟩
    have s2 : Same H1 (upd H1 hl (.lst (ts.map V.ref))) := (Same.refl H1).put hhl
    have e2 : (upd H1 hl (.lst (ts.map V.ref))) hl = some (.lst (ts.map V.ref)) := upd_same
    generalize upd H1 hl (.lst (ts.map V.ref)) = H2 at s2 e2 ⊢
    have AT2 := AT1.mono fun b xs e => s2 _ _ e
    refine ⟨rfl, _, rfl, hl, ts, as, rfl, .inr e2, AT2, wa, by omega, fun o1 H3 A3 s3 => ?_⟩
    have s13 := s2.trans s3
    have hla3 := s13 _ _ hla1
    have AT3 := AT1.mono fun b xs e => s13 _ _ e
    refine ⟨rfl, _, rfl, la, _, rfl, .inl (SqL.of hla3), _, rfl, by rw [tl]; omega, by rw [tl]; omega, fun D hD => ?_⟩
    refine lc_range (lo := 0) (n := (ts.map V.ref).length) (fun i Hc => ∃ qs : List Addr, Hc D = some (.lst (qs.map V.ref)) ∧ ActsAt Hc qs (as.reverse.take i) ∧ Same H3 Hc) ?_ ?_ ?_
    · exact ⟨[], upd_same, ⟨rfl, fun j q a h => by simp at h⟩, (Same.refl _).put hD⟩
    · rintro i Hc hi ⟨qs, hDl, Q1, sm⟩
      rw [tl] at hi
      have hti : ts[as.length - 1 - i]? = some (ts[as.length - 1 - i]'(by rw [AT.1]; omega)) := List.getElem?_eq_getElem _
      generalize ts[as.length - 1 - i]'(by rw [AT.1]; omega) = t at hti
      have hai : as[as.length - 1 - i]? = some (as[as.length - 1 - i]'(by omega)) := List.getElem?_eq_getElem _
      have hta := sm _ _ (AT3.2 _ t _ hti hai)
      have hrv : as.reverse[i]? = some (as[as.length - 1 - i]'(by omega)) := by rw [List.getElem?_reverse hi]; exact hai
      generalize as[as.length - 1 - i]'(by omega) = a at hai hta hrv
      have et : as.reverse.take (i + 1) = as.reverse.take i ++ [a] := by rw [List.take_add_one, hrv]; rfl
      have ql : qs.length ≤ 200 := by rw [Q1.1, List.length_take]; omega
      refine ⟨rfl, _, rfl, _, rfl, la, _, rfl, .inl (SqL.of (sm _ _ hla3)), _, _, rfl, rfl, _, rfl, _, _, rfl, rfl, la, _, _, V.ref t, rfl, rfl, SqL.of (sm _ _ hla3), ?_, _, hDl, by rw [List.length_map]; show _ < 16777216; omega, ?_⟩
      · rw [show (((ts.map V.ref).length : Nat) : Int) - 1 - (0 + (i : Int)) = ((as.length - 1 - i : Nat) : Int) by rw [tl]; omega]
        refine atI_nat ?_
        rw [List.getElem?_map, hti]
        rfl
      · refine ⟨qs ++ [t], by rw [upd_same, List.map_append]; rfl, ?_, sm.put hD⟩
        rw [et]
        exact (acts_snoc Q1 hta).mono fun b xs e => by rw [upd_ne (ne_of e hDl (by intro z; cases z))]; exact e
    rintro H4 ⟨rqs, hDl, R4, s4⟩
    rw [tl, List.take_of_length_le (by rw [List.length_reverse]; exact Nat.le_refl _)] at R4
    refine ⟨D, _, rfl, .inl ⟨SqL.of hDl, fun tt htt => ?_⟩⟩
    have s5 : Same H4 (upd H4 tt (.tup (rqs.map V.ref))) := (Same.refl H4).put htt
    have e5 : (upd H4 tt (.tup (rqs.map V.ref))) tt = some (.tup (rqs.map V.ref)) := upd_same
    generalize upd H4 tt (.tup (rqs.map V.ref)) = H5 at s5 e5 ⊢
    refine ⟨tt, rqs, as.reverse, rfl, .inl e5, R4.mono fun b xs e => s5 _ _ e, fun a ha => wa a (List.mem_reverse.mp ha), by rw [List.length_reverse]; omega, fun o2 H6 B6 s6 => ?_⟩
    rw [← lawSort_cg wa fun y => (List.mem_reverse (x := y) (as := as)).symm] at B6
    have s36 := (s4.trans s5).trans s6
    have s06 := (s1.trans s13).trans s36
    have A6 := A3.same s36
    have hla6 := s36 _ _ hla3
    have AT6 := AT3.mono fun b xs e => s36 _ _ e
    have hhl6 := s36 _ _ (s3 _ _ e2)
    have hdue6 := s36 _ _ (s13 _ _ hdue)
    have DA6 := DA.mono fun b xs e => s36 _ _ (s13 _ _ e)
    clear s1 s2 s3 s4 s5 s6 s13 s36 A3 hla3 AT3 hla1 AT1 AT2 e2 e5 hDl R4 hdue DA
    -- the first row of tests
    refine ⟨_, rfl, _, rfl, .list (as.map actD), .list (as.map actD), actsL_dp (SqL.of hhl6) AT6, actsL_dp (SqL.of hla6) AT6, actsDL_shaped wa, actsDL_shaped wa, _, rfl, ?_⟩
    rw [actsDL_eqv, decide_eq_true rfl]
    refine iteF ?_
    obtain ⟨dx, d, r, xs, qs, g1, g2, g3, g4, g5⟩ := id A6
    obtain ⟨dy, d', r', ys, qs', k1, k2, k3, k4, k5⟩ := id B6
    refine ⟨_, rfl, o1, C, dx, _, _, rfl, g1, Y.cl, Y.nR, fldA_rows _ _, _, rfl, actsD (lawSort as), actsD (lawSort as), actsT_dp g4 g5, actsT_dp hdue6 DA6, actsD_shaped wd, actsD_shaped wd, _, rfl, ?_⟩
    rw [actsD_eqv2, decide_eq_true rfl]
    refine iteF ?_
    refine ⟨_, rfl, o1, C, dx, _, _, rfl, g1, Y.cl, Y.nR, fldA_rows _ _, _, _, _, _, true, rfl, .ty _, .base (.tup g4), kit_ty (by decide +kernel), _, rfl, iteF ?_⟩
    refine ⟨_, rfl, o2, C, dy, _, _, rfl, k1, Y.cl, Y.nR, fldA_rows _ _, _, rfl, actsD (lawSort as), actsD (lawSort as), actsT_dp k4 k5, actsT_dp hdue6 DA6, actsD_shaped wd, actsD_shaped wd, _, rfl, ?_⟩
    rw [actsD_eqv2, decide_eq_true rfl]
    refine iteF ?_
    have nfs : PySem.W.notFirst K C (.ref C) = true := by unfold PySem.W.notFirst; simp
    refine ⟨_, rfl, _, rfl, o1, dx, _, rfl, g1, ⟨_, B6.ty Y.cl O, nfs⟩, o1, .ref o2, _, rfl, A6, wd, .inl ⟨o2, _, rfl, B6, wd, _, rfl, _, rfl, ?_⟩⟩
    rw [decide_eq_true rfl]
    refine iteF ?_
    refine ⟨_, rfl, o1, dx, _, rfl, g1, o1, _, rfl, A6, (lawSort as).length, rfl, by omega, _, rfl, due, _, rfl, .inr (SqT.of hdue6), ?_⟩
    rw [List.length_map, DA6.1]
    refine ⟨rfl, _, rfl, ?_⟩
    rw [decide_eq_true rfl]
    refine iteF ?_
    refine ⟨_, rfl, la, rfl, ⟨_, SqL.of hla6⟩, fun D2 hD2 => ?_⟩
    refine lc_list (K := K) (a := la) (xs := ts.map V.ref) (fun i Hc => Hc D2 = some (.lst ((List.replicate i true).map V.bl)) ∧ Same H6 Hc) ?_ ?_ ?_ ?_
    · exact ⟨upd_same, (Same.refl _).put hD2⟩
    · rintro i Hc _ ⟨_, sm⟩
      exact SqL.of (sm _ _ hla6)
    · rintro i y Hc hy ⟨h1, sm⟩
      obtain ⟨q, b, rfl, hb, hqi, hqb, hi⟩ := acts_nth AT6 hy
      have hm := List.mem_of_getElem? hb
      refine ⟨rfl, _, rfl, _, rfl, o1, dx, _, rfl, sm _ _ g1, o1, .ref q, _, rfl, A6.same sm, .inl ⟨q, b, rfl, sm _ _ hqb, wa b hm, _, rfl, _, h1, ?_, ?_, sm.put hD2⟩⟩
      · rw [List.length_map, List.length_replicate]; show _ < 16777216; omega
      · rw [upd_same, List.replicate_succ', List.map_append, decide_eq_true ((lawSort_mem as b).mpr hm)]
        rfl
    rintro H7 ⟨hD7, s7⟩
    refine ⟨D2, _, rfl, SqL.of hD7, _, rfl, ?_⟩
    rw [show (List.replicate (ts.map V.ref).length true).all id = true by simp]
    refine iteF ?_
    have A7 := A6.same s7
    have hdue7 := s7 _ _ hdue6
    have DA7 := DA6.mono fun b xs e => s7 _ _ e
    have g17 := s7 _ _ g1
    refine ⟨_, rfl, _, rfl, o1, dx, _, rfl, g17, ⟨_, .base (.tup hdue7), nf_ty (l := ["tuple", "object"]) (by decide +kernel)⟩, o1, .ref due, _, rfl, A7, wd, .inr ⟨_, .base (.tup hdue7), kTu, _, rfl, _, rfl, iteF ?_⟩⟩
    refine ⟨_, rfl, _, rfl, due, _, rfl, .inr (SqT.of hdue7), fun l8 hl8 => ?_⟩
    have s8 : Same H7 (upd H7 l8 (.lst (dqs.map V.ref))) := (Same.refl H7).put hl8
    have e8 : (upd H7 l8 (.lst (dqs.map V.ref))) l8 = some (.lst (dqs.map V.ref)) := upd_same
    generalize upd H7 l8 (.lst (dqs.map V.ref)) = H8 at s8 e8 ⊢
    refine ⟨o1, dx, _, rfl, s8 _ _ g17, ⟨_, .base (.lst e8), nf_ty (l := ["list", "object"]) (by decide +kernel)⟩, o1, .ref l8, _, rfl, A7.same s8, wd, .inr ⟨_, .base (.lst e8), kLi, _, rfl, _, rfl, iteF ?_⟩⟩
    -- things that are in or not
    refine ⟨Nat.zero_le _, fun l1 hl1 => ?_⟩
    have s9 : Same H8 (upd H8 l1 (.lst [])) := (Same.refl H8).put hl1
    have e9 : (upd H8 l1 (.lst [])) l1 = some (.lst []) := upd_same
    generalize upd H8 l1 (.lst []) = H9 at s9 e9 ⊢
    refine ⟨(by show 1 ≤ sizeLine; decide), fun t1 ht1 => ?_⟩
    have sa : Same H9 (upd H9 t1 (.tup [.str "a"])) := (Same.refl H9).put ht1
    have ea : (upd H9 t1 (.tup [.str "a"])) t1 = some (.tup [.str "a"]) := upd_same
    generalize upd H9 t1 (.tup [.str "a"]) = Ha at sa ea ⊢
    refine ⟨(by show 3 ≤ sizeLine; decide), fun t2 ht2 => ?_⟩
    have sb : Same Ha (upd Ha t2 (.tup [.str "zzzzzzzz", .non, .str "returns"])) := (Same.refl Ha).put ht2
    have eb : (upd Ha t2 (.tup [.str "zzzzzzzz", .non, .str "returns"])) t2 = some (.tup (actVs ⟨"zzzzzzzz", none, "returns"⟩)) := upd_same
    generalize upd Ha t2 (.tup [.str "zzzzzzzz", .non, .str "returns"]) = Hb at sb eb ⊢
    refine ⟨(by show 3 ≤ sizeLine; decide), fun t3 ht3 => ?_⟩
    have sc : Same Hb (upd Hb t3 (.tup [.int 1, .int 2, .int 3])) := (Same.refl Hb).put ht3
    have ec : (upd Hb t3 (.tup [.int 1, .int 2, .int 3])) t3 = some (.tup [.int 1, .int 2, .int 3]) := upd_same
    generalize upd Hb t3 (.tup [.int 1, .int 2, .int 3]) = Hc at sc ec ⊢
    intro d1 hd1
    have sd : Same Hc (upd Hc d1 (.dK [])) := (Same.refl Hc).put hd1
    have ed : (upd Hc d1 (.dK [])) d1 = some (.dK []) := upd_same
    generalize upd Hc d1 (.dK []) = Hd at sd ed ⊢
    refine ⟨(by show 7 ≤ sizeLine; decide), fun L hL => ?_⟩
    have se : Same Hd (upd Hd L (.lst [.non, .str "returns", .ref l1, .ref t1, .ref t2, .ref t3, .ref d1])) := (Same.refl Hd).put hL
    have ee : (upd Hd L (.lst [.non, .str "returns", .ref l1, .ref t1, .ref t2, .ref t3, .ref d1])) L = some (.lst [.non, .str "returns", .ref l1, .ref t1, .ref t2, .ref t3, .ref d1]) := upd_same
    generalize upd Hd L (.lst [.non, .str "returns", .ref l1, .ref t1, .ref t2, .ref t3, .ref d1]) = He at se ee ⊢
    have vz : VW "zzzzzzzz" := ⟨by unfold Low; decide +kernel, by decide +kernel, by decide +kernel, by decide +kernel⟩
    have f1 := se _ _ (sd _ _ (sc _ _ (sb _ _ (sa _ _ e9))))
    have f2 := se _ _ (sd _ _ (sc _ _ (sb _ _ ea)))
    have f3 := se _ _ (sd _ _ (sc _ _ eb))
    have f4 := se _ _ (sd _ _ ec)
    have f5 := se _ _ ed
    have each : ∀ i : Nat, i < 7 → ∃ v, [V.non, .str "returns", .ref l1, .ref t1, .ref t2, .ref t3, .ref d1][i]? = some v ∧ ((∃ (q : Addr) (a : LfX.Act), v = .ref q ∧ He q = some (.tup (actVs a)) ∧ ActW a) ∨ ActV K He v false) := fun i hi => by
      match i, hi with
      | 0, _ => exact ⟨_, rfl, .inr (.no (.base .non) (kit_ty (by decide +kernel)))⟩
      | 1, _ => exact ⟨_, rfl, .inr (.no (.base (.str _)) (kit_ty (by decide +kernel)))⟩
      | 2, _ => exact ⟨_, rfl, .inr (.no (.base (.lst f1)) (kit_ty (by decide +kernel)))⟩
      | 3, _ => exact ⟨_, rfl, .inr (.len f2 (show (1 : Nat) ≠ 3 by decide) (show 1 ≤ 1000 by decide))⟩
      | 4, _ => exact ⟨_, rfl, .inl ⟨t2, _, rfl, f3, vz, (fun x e => by cases e), .inr rfl⟩⟩
      | 5, _ => exact ⟨_, rfl, .inr (.c1 f4 (.no (.base (.int _)) (kit_ty (by decide +kernel))))⟩
      | 6, _ => exact ⟨_, rfl, .inr (.no (.base (.dK f5)) (kit_ty (by decide +kernel)))⟩
      | n + 7, h => exact absurd h (by omega)
    have s7e := (((((s8.trans s9).trans sa).trans sb).trans sc).trans sd).trans se
    have Ae := A7.same s7e
    have g1e := s7e _ _ g17
    have hduee := s7e _ _ hdue7
    have DAe := DA7.mono fun b xs e => s7e _ _ e
    have hlae := s7e _ _ (s7 _ _ hla6)
    have ATe := AT6.mono fun b xs e => s7e _ _ (s7 _ _ e)
    have s0e := (s06.trans s7).trans s7e
    clear s8 s9 sa sb sc sd se e8 e9 ea eb ec ed f1 f2 f3 f4 f5 s7e A7 g17 hdue7 DA7 s7 hD7
    refine ⟨L, rfl, ⟨_, SqL.of ee⟩, ?_⟩
    refine for_list (K := K) (a := L) (xs := [.non, .str "returns", .ref l1, .ref t1, .ref t2, .ref t3, .ref d1]) (fun i σ Hc => ∃ v6 v7 v8 v9 : Option V, σ = [some v, some (.ref la), some (.ref due), some (.ref hl), some (.ref o1), some (.ref o2), v6, v7, v8, v9] ∧ Same He Hc) ?_ ?_ ?_ ?_
    · exact ⟨_, _, _, _, rfl, Same.refl _⟩
    · rintro i σ Hc _ ⟨v6, v7, v8, v9, rfl, sm⟩
      exact SqL.of (sm _ _ ee)
    · rintro i x σ Hc hx ⟨v6, v7, v8, v9, rfl, sm⟩
      obtain ⟨y, hy, k0⟩ := each i (List.getElem?_eq_some_iff.mp hx).1
      rw [hy] at hx
      cases hx
      rcases k0 with ⟨q, a, rfl, hq, wq⟩ | bad
      · refine ⟨_, rfl, _, rfl, o1, dx, _, rfl, sm _ _ g1e, o1, .ref q, _, rfl, Ae.same sm, .inl ⟨q, a, rfl, sm _ _ hq, wq, _, rfl, _, rfl, ?_⟩⟩
        by_cases hin : a ∈ lawSort as
        · rw [decide_eq_true hin]
          refine iteT ⟨_, rfl, _, rfl, actD a, (lawSort as).map actD, act_dp (sm _ _ hq), actsT_dp (sm _ _ hduee) (DAe.mono fun b xs e => sm _ _ e), actD_shaped wq.ok, actsD_lay _ (fun b hb => (wd b hb).ok), _, rfl, ?_⟩
          rw [if_pos rfl, any_act, decide_eq_true hin]
          exact iteF ⟨_, _, _, _, rfl, sm⟩
        · rw [decide_eq_false hin]
          exact iteF ⟨_, _, _, _, rfl, sm⟩
      · refine ⟨_, rfl, _, rfl, o1, dx, _, rfl, sm _ _ g1e, o1, _, _, rfl, Ae.same sm, .inr ⟨bad.same sm, _, rfl, _, rfl, iteF ?_⟩⟩
        exact ⟨_, _, _, _, rfl, sm⟩
    rintro σ Hf ⟨v6, v7, v8, v9, rfl, sf⟩
    have hlaf := sf _ _ hlae
    have ATf := ATe.mono fun b xs e => sf _ _ e
    have DAf := DAe.mono fun b xs e => sf _ _ e
    have dl : (dqs.map V.ref).length = (lawSort as).length := by rw [List.length_map]; exact DAe.1
    have ez : (lawSort as).drop 1 = lawSort ((lawSort as).drop 1) := (lawSort_tail wa).symm
    refine ⟨rfl, _, rfl, 1, rfl, due, _, rfl, sf _ _ hduee, fun t5 Hg sg ht5 => ?_⟩
    have cut1 : cutV (dqs.map V.ref) (some 1) none = (dqs.drop 1).map V.ref := by
      by_cases h0 : 1 ≤ (dqs.map V.ref).length
      · rw [show (1 : Int) = ((1 : Nat) : Int) from rfl, cutT_from h0, List.map_drop]
      · have : dqs = [] := by cases dqs with
          | nil => rfl
          | cons x y => simp at h0
        subst this
        rfl
    rw [cut1] at ht5
    refine ⟨t5, dqs.drop 1, (lawSort as).drop 1, rfl, .inl ht5, acts_drop (DAf.mono fun b xs e => sg _ _ e) 1, fun a ha => wd a (List.mem_of_mem_drop ha), by rw [List.length_drop]; omega, fun o3 Hh L3 sh => ?_⟩
    rw [← ez] at L3
    have sfh := sf.trans (sg.trans sh)
    have Ah := Ae.same sfh
    have g1h := sfh _ _ g1e
    have hlah := sfh _ _ hlae
    have ATh := ATe.mono fun b xs e => sfh _ _ e
    have hdueh := sfh _ _ hduee
    have DAh := DAe.mono fun b xs e => sfh _ _ e
    have s0h := s0e.trans sfh
    clear sf sg sh sfh hlaf ATf DAf
    have wl3 : AllW ((lawSort as).drop 1) := fun a ha => wd a (List.mem_of_mem_drop ha)
    -- two acts by themselves
    refine ⟨_, rfl, la, _, rfl, .inl (SqL.of hlah), _, _, rfl, rfl, _, rfl, ite2 (fun c1 => ?ca) (fun _ => ?cb)⟩
    case' ca =>
      have c1 : ((ts.map V.ref).length : Int) > 1 := of_decide_eq_true c1
      rw [tl] at c1
      obtain ⟨a0, a1, ar, ea⟩ : ∃ a0 a1 ar, as = a0 :: a1 :: ar := by
        match as, c1 with
        | a0 :: a1 :: ar, _ => exact ⟨a0, a1, ar, rfl⟩
        | [_], h => exact absurd h (by simp)
        | [], h => exact absurd h (by simp)
      obtain ⟨t0, t1', tr, et⟩ : ∃ t0 t1 tr, ts = t0 :: t1 :: tr := by
        have := AT.1
        rw [ea] at this
        match ts, this with
        | t0 :: t1 :: tr, _ => exact ⟨t0, t1, tr, rfl⟩
      have h0 : (ts.map V.ref)[0]? = some (.ref t0) := by rw [et]; rfl
      have h1 : (ts.map V.ref)[1]? = some (.ref t1') := by rw [et]; rfl
      refine ⟨_, rfl, la, _, _, _, rfl, rfl, SqL.of hlah, atI_nat (j := 0) h0, _, rfl, la, _, _, _, rfl, rfl, SqL.of hlah, atI_nat (j := 1) h1, ?_⟩
      refine fun o4 dy9 hy9 hdy9 hne9 => initAv (ts := [t0, t1']) (as := [a0, a1]) rfl ⟨rfl, fun j q a hj1 hj2 => ?_⟩ (fun a ha => wa a (by rw [ea]; simp only [List.mem_cons, List.not_mem_nil, or_false] at ha ⊢; rcases ha with h | h <;> simp [h])) (by show 2 ≤ 1000; decide) o4 dy9 hy9 hdy9 hne9 (fun Hi O4 si => ⟨rfl, ?_⟩)
      · match j, hj1, hj2 with
        | 0, hj1, hj2 => exact ATh.2 0 q a (by rw [et]; exact hj1) (by rw [ea]; exact hj2)
        | 1, hj1, hj2 => exact ATh.2 1 q a (by rw [et]; exact hj1) (by rw [ea]; exact hj2)
        | j + 2, hj1, hj2 => simp at hj1
      obtain ⟨dx4, d4, r4, xs4, qs4, i1, i2, i3, i4, i5⟩ := O4
      refine ⟨o4, C, dx4, _, _, rfl, i1, Y.cl, Y.nR, fldA_rows _ _, _, rfl, 2, rfl, la, _, rfl, SqL.of (si _ _ hlah), fun l6 hl6 => ?_⟩
      have cut2 : cutV (ts.map V.ref) none (some 2) = (ts.take 2).map V.ref := by
        rw [show (2 : Int) = ((2 : Nat) : Int) from rfl, cutT_upto (by rw [tl]; omega), List.map_take]
      rw [cut2]
      have s6 : Same Hi (upd Hi l6 (.lst ((ts.take 2).map V.ref))) := (Same.refl Hi).put hl6
      have e6 : (upd Hi l6 (.lst ((ts.take 2).map V.ref))) l6 = some (.lst ((ts.take 2).map V.ref)) := upd_same
      generalize upd Hi l6 (.lst ((ts.take 2).map V.ref)) = Hj at s6 e6 ⊢
      refine ⟨l6, ts.take 2, as.take 2, rfl, e6, acts_take (ATh.mono fun b xs e => s6 _ _ (si _ _ e)) 2, fun a ha => wa a (List.mem_of_mem_take ha), by rw [List.length_take]; omega, fun r7 q7 Hk h7 R7 s7 => ?_⟩
      have e2 : as.take 2 = [a0, a1] := by rw [ea]; rfl
      rw [e2] at R7
      have w2 : AllW (lawSort [a0, a1]) := lawSort_w fun a ha => wa a (List.mem_of_mem_take (by rw [e2]; exact ha))
      refine ⟨actsD (lawSort [a0, a1]), actsD (lawSort [a0, a1]), actsT_dp (s7 _ _ (s6 _ _ i4)) (i5.mono fun b xs e => s7 _ _ (s6 _ _ e)), actsT_dp h7 R7, actsD_shaped w2, actsD_shaped w2, _, rfl, ?_⟩
      rw [actsD_eqv2, decide_eq_true rfl]
      refine iteF ?_
      have shk := si.trans (s6.trans s7)
      replace Ah := Ah.same shk
      replace g1h := shk _ _ g1h
      replace hdueh := shk _ _ hdueh
      replace DAh := DAh.mono fun b xs e => shk _ _ e
      replace L3 := L3.same shk
      replace s0h := s0h.trans shk
      clear si s6 s7 shk
      generalize Hk = Hz at *
    case' cb => generalize Hh = Hz at *
    all_goals
      obtain ⟨dz, d3, r3, xs3, qs3, j1, j2, j3, j4, j5⟩ := id L3
      refine ⟨_, rfl, _, rfl, o3, dz, _, rfl, j1, ⟨_, Ah.ty Y.cl O, nfs⟩, o3, .ref o1, _, rfl, L3, wl3, .inl ⟨o1, _, rfl, Ah, wd, _, rfl, _, rfl, due, _, rfl, .inr (SqT.of hdueh), rfl, rfl, _, rfl, ?_⟩⟩
      have hb : decide ((lawSort as).drop 1 = lawSort as) = decide (V.int (((dqs.map V.ref).length : Nat) : Int) = V.int 0) := by
        rw [tail_same, dl]
        by_cases h0 : (lawSort as).length = 0
        · rw [h0]; rfl
        · rw [decide_eq_false h0, decide_eq_false]
          intro e
          have := V.int.inj e
          omega
      rw [hb, decide_eq_true rfl]
      refine iteT ?_
      refine ⟨_, rfl, o3, C, dz, _, _, rfl, j1, Y.cl, Y.nR, fldA_rows _ _, _, rfl, 1, rfl, due, _, rfl, hdueh, fun t9 H9 s9 h9 => ?_⟩
      rw [cut1] at h9
      refine ⟨actsD ((lawSort as).drop 1), actsD ((lawSort as).drop 1), actsT_dp (s9 _ _ j4) (j5.mono fun b xs e => s9 _ _ e), actsT_dp h9 (acts_drop (DAh.mono fun b xs e => s9 _ _ e) 1), actsD_shaped wl3, actsD_shaped wl3, _, rfl, ?_⟩
      rw [actsD_eqv2, decide_eq_true rfl]
      refine iteT ?_
      refine fun o5 dy5 hy5 hdy5 hne5 => initAv (ts := []) (as := []) rfl ⟨rfl, fun j q a h => by simp at h⟩ (fun a ha => by simp at ha) (Nat.zero_le _) o5 dy5 hy5 hdy5 hne5 fun H' AW s' => ⟨rfl, ?_⟩
      obtain ⟨dz5, fz5, iz5, _⟩ := AW.ins
      refine ⟨o5, dz5, fz5, rfl, iz5, o5, _, rfl, AW, 0, rfl, by decide, rfl, ?_⟩
      exact k _ (s0h.trans (s9.trans s'))
end
end K2
end
section
set_option Elab.async false
set_option maxRecDepth 100000
set_option linter.all false
/-! the pen, the law -/
namespace K2
open PySem L2 LfX PySem.Spec PyProof.Rows
abbrev sPen : Stmt := top 17
abbrev sLaw : Stmt := top 27
abbrev nLaw : List Str := ["_law_script", "_law_pen_here", "_law_turn", "_law_acts", "_law_some", "_law_at", "_law_later", "_law_place_here"]
def spPen (K : PySem.W.Frag) : Sp := fun vs H Q _ => ∃ (a : Addr) (ns : List Int), vs = [.ref a] ∧ SqL K H a (ns.map V.int) ∧ ns.length ≤ 63 ∧ ∀ (p c : Addr) (H' : Hp), Pen H' p c ns 0 → Same H H' → Q (.ref p) H'
def spLaw (K : PySem.W.Frag) : Sp := fun vs H Q _ => ∃ (a : Addr) (ns : List Int), vs = [.ref a] ∧ SqL K H a (ns.map V.int) ∧ ns.length ≤ 63 ∧ ∀ H', Q (.bl true) H'
theorem cut63 (ns : List Int) (h : ns.length ≤ 63) : cutV (ns.map V.int) none (some 63) = ns.map V.int := by
  unfold cutV
  rw [show (63 : Int) = ((63 : Nat) : Int) from rfl, HT.sIx_nat, HT.sIx_none, List.drop_zero, Nat.sub_zero, List.length_map, Nat.min_eq_right h]
  rw [List.take_of_length_le (by rw [List.length_map]; exact Nat.le_refl _)]
theorem ixN_nat {n j : Nat} (h : j < n) : ixN n (j : Int) = some j := by
  unfold ixN
  rw [if_pos (by omega), if_pos (by omega)]
  rfl
/-- a later act spoiled, or none -/
def tLt (K : PySem.W.Frag) : L2.TS := fun D σ H => ∃ (p c sl : Addr) (ns : List Int) (n at' later : Nat) (s0 s2 s3 s7 : Option V) (L : List V) (v : V) (M : List Addr) (cs : List LfX.Act), σ = [s0, some (.ref p), s2, s3, some (.ref sl), some (.int (at' : Int)), some (.int (later : Int)), s7] ∧
  Pen H p c ns n ∧ n + 50 ≤ 100000 ∧ H sl = some (.lst (L ++ v :: M.map V.ref)) ∧ sl ≠ p ∧ c ≠ sl ∧ L.length = at' ∧ ActsAt H M cs ∧ AllW cs ∧ cs.length ≤ 100 ∧ later < at' + 1 + M.length ∧ at' ≤ later ∧
  ∀ (more : List V) (H' : Hp), H' sl = some (.lst (L ++ v :: more)) → more.length = M.length → Tl H H' → Pen H' p c ns (n + 5) → D.nx [s0, some (.ref p), s2, s3, some (.ref sl), some (.int (at' : Int)), some (.int (later : Int)), s7] H'
section
variable {P : Program} {w : World} {K : PySem.W.Frag} {mg : Str → Option Value} {base : Heap}
theorem scPen : FnScope ["_law_script"] ["_law_script"] (defScope sPen) := ⟨rfl, rfl, rfl, by decide +kernel, rfl, by decide +kernel, by decide +kernel⟩
theorem scLaw : FnScope nLaw ["_law_script"] (defScope sLaw) := ⟨rfl, rfl, rfl, by decide +kernel, rfl, by decide +kernel, by decide +kernel⟩
theorem ok_pen {f : Addr} {fd : FuncData} (F : Fun K "_law_pen" "_law_pen" sPen f fd) (T : Bi mg) : FnOk P w K mg base CX0 1 f fd ["_law_script"] (spPen K) := by
  refine F.ok scPen (fun vs H Q E h => ?_) (fun cdv A outer s H vs Q E hr h => ?_)
  · obtain ⟨a, ns, rfl, _⟩ := h
    rfl
  · obtain ⟨a, ns, rfl, hS, hl, k⟩ := h
    refine ⟨_, (pss_one (ps_ret (pe_lst (pa_cons (pe_callTy call_list_of (by rfl) T.list (by decide +kernel) (pa_cons (pe_slice sl_list (pv 0) po_none (po_some pe_int)) pa_nil)) (pa_cons pe_int (pa_cons pe_int pa_nil)))))), ?_⟩
    refine ⟨_, rfl, _, rfl, a, _, rfl, hS, fun q hq => ⟨q, _, rfl, .inl (SqL.of upd_same), fun c hc => ⟨(by show 3 ≤ sizeLine; decide), fun p hp => ?_⟩⟩⟩
    rw [cut63 ns hl] at hc hp ⊢
    have hcp : c ≠ p := ne_of_none upd_same hp
    have s1 := ((Same.refl H).put (o := .lst (ns.map V.int)) hq)
    have s2 := s1.put (o := .lst (ns.map V.int)) (s1.free hc)
    exact k p c _ ⟨⟨0, 0, upd_same, by decide, by decide, by decide⟩, by rw [upd_ne hcp, upd_same], hl⟩ (s2.put (s2.free hp))
set_option maxHeartbeats 1000000 in
theorem ok_law {f fPn fD fDr fKe fRf fRs fSp : Addr} {fd fdPn fdD fdDr fdKe fdRf fdRs fdSp : FuncData} (F : Fun K "law" "law" sLaw f fd) (T : Bi mg) (tBool : mg "bool" = none)
    (PN : Df K mg "_law_pen" sPen fPn fdPn ["_law_script"]) (GPn : FnOk P w K mg base CX0 1 fPn fdPn ["_law_script"] (spPen K))
    (D : Df K mg "_law_draw" sDraw fD fdD ["_law_pen_here", "_law_many"]) (GD : FnOk P w K mg base CX0 1 fD fdD ["_law_pen_here", "_law_many"] spDraw)
    (DR : Df K mg "_law_drawn" sDr fDr fdDr ["_law_pen_here"]) (GDr : FnOk P w K mg base CX0 4 fDr fdDr ["_law_pen_here"] spDr)
    (KE : Df K mg "_law_kept" sKe fKe fdKe ["_law_pen_here", "_law_acts"]) (GKe : FnOk P w K mg base CX0 7 fKe fdKe ["_law_pen_here", "_law_acts"] spKe)
    (RF : Df K mg "_law_refused" sRf fRf fdRf ["_law_rows"]) (GRf : FnOk P w K mg base CX0 7 fRf fdRf ["_law_rows"] (spRf K))
    (RS : Df K mg "_law_refused_by_stars" sRs fRs fdRs ["_law_row"]) (GRs : FnOk P w K mg base CX0 6 fRs fdRs ["_law_row"] (spRs K))
    (SP : Df K mg "_law_spoiled" sSp fSp fdSp ["_law_pen_here", "_law_act"]) (GSp : FnOk P w K mg base CX0 2 fSp fdSp ["_law_pen_here", "_law_act"] (spSp K)) : FnG P w K mg base 8 f fd ["_law_script"] (spLaw K) := by
  refine okG F scLaw (fun vs H Q E h => ?_) (fun cdv A outer s H vs Q E hr gu h => ?_)
  · obtain ⟨a, ns, rfl, _⟩ := h
    rfl
  · obtain ⟨a, ns, rfl, hS, hl63, kQ⟩ := h
    have hr1 : Room 1 _ := hr.mono (by decide)
    have hr2 : Room 2 _ := hr.mono (by decide)
    have hr4 : Room 4 _ := hr.mono (by decide)
    have hr6 : Room 6 _ := hr.mono (by decide)
    have hr7 : Room 7 _ := hr
    refine ⟨_, (pss_cons (ps_set (i := 1) scLaw.nd rfl (Or.inl rfl) (pe_call GPn hr1 (by rfl) PN.m PN.F.kp PN.b .nil pass0 (pa_cons (pv 0) pa_nil)))
      (pss_cons (ps_for PassesOwn.never rfl (pi_range1 rfl T.range (pa_cons pe_int pa_nil)) (pg_name (i := 2) scLaw.nd rfl (Or.inl rfl))
      (pss_cons (ps_set (i := 3) scLaw.nd rfl (Or.inl rfl) (pe_call GDr hr4 (by rfl) DR.m DR.F.kp DR.b .nil pass0 (pa_cons (pv 1) pa_nil)))
        (pss_cons (ps_if (PW.pt (pw_or (pt_not (pt_val (pe_call GKe hr7 (by rfl) KE.m KE.F.kp KE.b .nil pass0 (pa_cons (pv 1) (pa_cons (pv 3) pa_nil))))) (pw_or1 (pt_cmpR op_notN (pe_call GRf hr7 (by rfl) RF.m RF.F.kp RF.b .nil pass0 (pa_cons (pv 3) pa_nil)) pe_non (nomark _)))))
        (pss_one (ps_ret pe_bl))
        pss_nil)
        (pss_cons (ps_set (i := 4) scLaw.nd rfl (Or.inl rfl) (pe_op op_cat (pv 3) (pe_lst (pa_cons (pe_tup (pa_cons pe_str (pa_cons pe_non (pa_cons pe_str pa_nil)))) pa_nil))))
        (pss_cons (ps_set (i := 5) scLaw.nd rfl (Or.inl rfl) (pe_call GD hr1 (by rfl) D.m D.F.kp D.b .nil pass0 (pa_cons (pv 1) (pa_cons (pe_callB call_len_seq (by rfl) T.len PySem.boot_len (pa_cons (pv 4) pa_nil)) pa_nil))))
        (pss_cons (ps_set (i := 6) scLaw.nd rfl (Or.inl rfl) (pe_op op_add (pv 5) (pe_call GD hr1 (by rfl) D.m D.F.kp D.b .nil pass0 (pa_cons (pv 1) (pa_cons (pe_op op_sub (pe_callB call_len_seq (by rfl) T.len PySem.boot_len (pa_cons (pv 4) pa_nil)) (pv 5)) pa_nil)))))
        (pss_cons (ps_asg (pe_call GSp hr2 (by rfl) SP.m SP.F.kp SP.b .nil pass0 (pa_cons (pv 1) (pa_cons (pe_ix ix_list (pv 4) (pv 5) (fun _ _ => rfl)) pa_nil))) (pg_sub (pv 4) (pv 5) set_list))
        (pss_cons (ps_impA (t' := tLt K) (ps_if (pt_cmpR op_gt (pv 6) (pv 5) (nomark _))
        (pss_one (ps_asg (pe_call GSp hr2 (by rfl) SP.m SP.F.kp SP.b .nil pass0 (pa_cons (pv 1) (pa_cons (pe_ix ix_list (pv 4) (pv 6) (fun _ _ => rfl)) pa_nil))) (pg_sub (pv 4) (pv 6) set_list)))
        pss_nil) (fun D σ H h => ?lt))
        (pss_cons (ps_if (PW.pt (pw_and (pt_cmpR op_eq (pv 5) pe_int (nomark _)) (pw_and1 (pt_cmpR op_ne (pe_call GRs hr6 (by rfl) RS.m RS.F.kp RS.b .nil pass0 (pa_cons (pe_ix ix_list (pv 4) pe_int (fun _ _ => rfl)) pa_nil)) pe_int (nomark _)))))
        (pss_one (ps_ret pe_bl))
        pss_nil)
        (pss_cons (ps_set (i := 7) scLaw.nd rfl (Or.inl rfl) (pe_call GRf hr7 (by rfl) RF.m RF.F.kp RF.b .nil pass0 (pa_cons (pv 4) pa_nil)))
        (pss_one (ps_if (PW.pt (pw_or (pt_not (pt_val (pe_callB call_isi (by rfl) T.isinstance (by decide +kernel) (pa_cons (pv 7) (pa_cons (pe_bltn (v := .ty "int") (by rfl) T.int (by decide +kernel) rfl) pa_nil))))) (pw_or (pt_val (pe_callB call_isi (by rfl) T.isinstance (by decide +kernel) (pa_cons (pv 7) (pa_cons (pe_bltn (v := .ty "bool") (by rfl) tBool (by decide +kernel) rfl) pa_nil)))) (pw_or1 (pt_cmpR op_ne (pv 7) (pv 5) (nomark _))))))
        (pss_one (ps_ret pe_bl))
        pss_nil))))))))))))
      (pss_one (ps_ret pe_bl)))), ?_⟩
    case lt =>
      obtain ⟨p, c, sl, ns, n, at', later, s0, s2, s3, s7, L, v, M, cs, rfl, P0, hn, hsl, nsl, ncs, lL, MA, wc, lc, h1, h2, k⟩ := h
      refine ⟨_, rfl, _, rfl, _, _, rfl, rfl, _, rfl, ite2 (fun g => ?_) (fun _ => k _ H hsl (by rw [List.length_map]) (Tl.refl _) (P0.mono (by omega)))⟩
      have g : (later : Int) > (at' : Int) := of_decide_eq_true g
      obtain ⟨j, rfl⟩ : ∃ j, later = at' + 1 + j := ⟨later - at' - 1, by omega⟩
      have hj : j < M.length := by omega
      have hMj : M[j]? = some M[j] := List.getElem?_eq_getElem hj
      have hcj : cs[j]? = some (cs[j]'(by rw [← MA.1]; exact hj)) := List.getElem?_eq_getElem _
      have hq := MA.2 j _ _ hMj hcj
      have wj := wc _ (List.mem_of_getElem? hcj)
      generalize cs[j]'(by rw [← MA.1]; exact hj) = a at hcj hq wj
      generalize M[j] = q at hMj hq
      have hix : (L ++ v :: M.map V.ref)[at' + 1 + j]? = some (.ref q) := by
        rw [List.getElem?_append_right (by omega), lL, show at' + 1 + j - at' = j + 1 by omega, List.getElem?_cons_succ, List.getElem?_map, hMj]
        rfl
      refine ⟨_, rfl, _, rfl, _, rfl, sl, _, _, _, rfl, rfl, SqL.of hsl, atI_nat (j := at' + 1 + j) hix, p, c, q, ns, n, a, rfl, P0, by omega, hq, wj, fun v2 H2 st k2 P2 => ?_⟩
      have hsl2 := k2 _ _ hsl nsl
      refine ⟨_, rfl, _, rfl, sl, _, _, at' + 1 + j, rfl, rfl, hsl2, ixN_nat (by rw [List.length_append, List.length_cons, List.length_map]; omega), ?_⟩
      have es : (L ++ v :: M.map V.ref).set (at' + 1 + j) v2 = L ++ v :: (M.map V.ref).set j v2 := by
        rw [List.set_append_right _ _ (by omega), lL, show at' + 1 + j - at' = j + 1 by omega, List.set_cons_succ]
      rw [es]
      exact k _ _ upd_same (by rw [List.length_set, List.length_map]) ((Tl.keep k2 P0 P2).trans (Tl.upd hsl2)) ((P2.upd' nsl.symm ncs).mono (by omega))
    refine ⟨_, rfl, a, ns, rfl, hS, hl63, fun p c H1 P1 s1 => ?_⟩
    refine ⟨3, rfl, by decide, by decide, for_range (lo := 0) (n := 3) (fun i σ Hc => ∃ v2 v3 v4 v5 v6 v7 : Option V, σ = [some (.ref a), some (.ref p), v2, v3, v4, v5, v6, v7] ∧ Pen Hc p c ns (1000 * i)) ?_ ?_ ?_⟩
    · exact ⟨_, _, _, _, _, _, rfl, P1⟩
    · rintro i σ Hc hi ⟨v2, v3, v4, v5, v6, v7, rfl, Pc⟩
      generalize hN : 1000 * i = n at Pc
      have hn : n ≤ 2000 := by omega
      refine ⟨_, rfl, p, c, ns, n, rfl, Pc, by omega, fun la ts as Ha hla AT wa na nla ka Pa => ?_⟩
      refine ⟨_, rfl, _, rfl, _, la, ts, as, rfl, hla, AT, wa, by omega, fun Hb sb => ⟨true, rfl, iteF ?_⟩⟩
      refine ⟨_, rfl, la, rfl, .inl ⟨ts, as, sb _ _ hla, AT.mono fun b xs e => sb _ _ e, wa, by omega, fun Hd sd => ⟨rfl, _, rfl, iteNS rfl ?_⟩⟩⟩
      have sbd := sb.trans sd
      have Pd := Pa.same sbd
      have hlad := sbd _ _ hla
      have ATd := AT.mono fun b xs e => sbd _ _ e
      refine ⟨_, rfl, (by show 3 ≤ sizeLine; decide), fun t0 ht0 => ⟨(by show 1 ≤ sizeLine; decide), fun l1 hl1 => ?_⟩⟩
      have s2 : Same Hd (upd Hd t0 (.tup [.str "a", .non, .str "b"])) := (Same.refl Hd).put ht0
      have e2 : (upd Hd t0 (.tup [.str "a", .non, .str "b"])) t0 = some (.tup (actVs ⟨"a", none, "b"⟩)) := upd_same
      generalize upd Hd t0 (.tup [.str "a", .non, .str "b"]) = He at s2 e2 hl1 ⊢
      have s3 : Same He (upd He l1 (.lst [V.ref t0])) := (Same.refl He).put hl1
      have e3 : (upd He l1 (.lst [V.ref t0])) l1 = some (.lst [V.ref t0]) := upd_same
      generalize upd He l1 (.lst [V.ref t0]) = Hf at s3 e3 ⊢
      have s23 := s2.trans s3
      refine ⟨la, l1, _, _, rfl, rfl, s23 _ _ hlad, e3, (by rw [List.length_map, AT.1]; show _ + 1 ≤ 16777216; omega), fun sl hsl0 => ?_⟩
      have Pf := Pd.same s23
      have nsl : sl ≠ p := (Pf.pne hsl0).symm
      have ncs : c ≠ sl := Pf.cne hsl0
      have s4 : Same Hf (upd Hf sl (.lst (ts.map V.ref ++ [V.ref t0]))) := (Same.refl Hf).put hsl0
      have hsl : (upd Hf sl (.lst (ts.map V.ref ++ [V.ref t0]))) sl = some (.lst (ts.map V.ref ++ [V.ref t0])) := upd_same
      generalize upd Hf sl (.lst (ts.map V.ref ++ [V.ref t0])) = Hg at s4 hsl ⊢
      rw [show ts.map V.ref ++ [V.ref t0] = (ts ++ [t0]).map V.ref by rw [List.map_append]; rfl] at hsl
      have Pg := Pf.same s4
      have wb : VW "a" ∧ VW "b" := ⟨⟨by unfold Low; decide +kernel, by decide +kernel, by decide +kernel, by decide +kernel⟩, ⟨by unfold Low; decide +kernel, by decide +kernel, by decide +kernel, by decide +kernel⟩⟩
      have AG : ActsAt Hg (ts ++ [t0]) (as ++ [⟨"a", none, "b"⟩]) := acts_snoc (ATd.mono fun b xs e => s4 _ _ (s23 _ _ e)) (s4 _ _ (s3 _ _ e2))
      have wG : AllW (as ++ [⟨"a", none, "b"⟩]) := app_w wa fun x hx => by
        rw [List.mem_singleton.mp hx]
        exact ⟨wb.1, (fun x e => by cases e), .inl wb.2⟩
      have lG : (ts ++ [t0]).length = as.length + 1 := by rw [List.length_append, AT.1]; rfl
      have lG2 : (as ++ [(⟨"a", none, "b"⟩ : LfX.Act)]).length = as.length + 1 := by rw [List.length_append]; rfl
      generalize ts ++ [t0] = us at hsl AG lG
      generalize as ++ [(⟨"a", none, "b"⟩ : LfX.Act)] = bs at AG wG lG2
      clear s2 s3 s23 s4 e2 e3 hlad ATd sbd sb sd
      refine ⟨_, rfl, _, rfl, sl, _, rfl, .inl (SqL.of hsl), p, c, ns, _, us.length, (by rw [List.length_map]; rfl), Pg, by omega, by omega, by omega, fun dv Hh d0 d1 kh Ph => ?_⟩
      obtain ⟨at', rfl⟩ : ∃ j : Nat, dv = (j : Int) := ⟨dv.toNat, (Int.toNat_of_nonneg d0).symm⟩
      have hslh := kh _ _ hsl nsl
      refine ⟨_, rfl, _, rfl, _, rfl, sl, _, rfl, .inl (SqL.of hslh), _, rfl, _, _, rfl, rfl, p, c, ns, _, us.length - at', (by rw [List.length_map]; show [V.ref p, V.int _] = _; rw [show ((us.length : Nat) : Int) - (at' : Int) = ((us.length - at' : Nat) : Int) by omega]), Ph, by omega, by omega, by omega, fun dw Hi w0 w1 ki Pi => ?_⟩
      obtain ⟨dl, rfl⟩ : ∃ j : Nat, dw = (j : Int) := ⟨dw.toNat, (Int.toNat_of_nonneg w0).symm⟩
      have hsli := ki _ _ hslh nsl
      have kgi := kh.trans ki
      have AI := AG.mono fun b xs e => kgi _ _ e (Pg.tup_ne e)
      refine ⟨_, _, rfl, rfl, ?_⟩
      have hau : at' < us.length := by omega
      have hua : us[at']? = some us[at'] := List.getElem?_eq_getElem hau
      have hba : bs[at']? = some (bs[at']'(by omega)) := List.getElem?_eq_getElem _
      have hqa := AI.2 at' _ _ hua hba
      have wqa := wG _ (List.mem_of_getElem? hba)
      generalize bs[at']'(by omega) = b0 at hba hqa wqa
      have hua2 : (us.map V.ref)[at']? = some (.ref us[at']) := by rw [List.getElem?_map, hua]; rfl
      generalize us[at'] = q0 at hua hqa hua2
      refine ⟨_, rfl, _, rfl, _, rfl, sl, _, _, _, rfl, rfl, SqL.of hsli, atI_nat (j := at') hua2, p, c, q0, ns, _, b0, rfl, Pi, by omega, hqa, wqa, fun v Hj st kj Pj => ?_⟩
      have hslj := kj _ _ hsli nsl
      refine ⟨_, rfl, _, rfl, sl, _, _, at', rfl, rfl, hslj, ixN_nat (by rw [List.length_map]; exact hau), ?_⟩
      have es : (us.map V.ref).set at' v = (us.take at').map V.ref ++ v :: (us.drop (at' + 1)).map V.ref := by
        rw [List.set_eq_take_append_cons_drop, if_pos (by rw [List.length_map]; exact hau), List.map_take, List.map_drop]
      rw [es]
      have T1 : Tl Hj (upd Hj sl (.lst ((us.take at').map V.ref ++ v :: (us.drop (at' + 1)).map V.ref))) := Tl.upd hslj
      have Pk := Pj.upd' (o := .lst ((us.take at').map V.ref ++ v :: (us.drop (at' + 1)).map V.ref)) nsl.symm ncs
      have hk : (upd Hj sl (.lst ((us.take at').map V.ref ++ v :: (us.drop (at' + 1)).map V.ref))) sl = some (.lst ((us.take at').map V.ref ++ v :: (us.drop (at' + 1)).map V.ref)) := upd_same
      generalize upd Hj sl (.lst ((us.take at').map V.ref ++ v :: (us.drop (at' + 1)).map V.ref)) = Hk at T1 Pk hk ⊢
      have TI := (Tl.keep kj Pi Pj).trans T1
      have AK := AI.mono TI.1
      have lt' : ((us.take at').map V.ref).length = at' := by rw [List.length_map, List.length_take]; omega
      refine ⟨p, c, sl, ns, _, at', at' + dl, _, _, _, _, _, v, us.drop (at' + 1), bs.drop (at' + 1), rfl, Pk, by omega, hk, nsl, ncs, lt', acts_drop AK _, fun x hx => wG x (List.mem_of_mem_drop hx), by rw [List.length_drop]; omega, by rw [List.length_drop]; omega, by omega, fun more Hl hl lm T2 Pl => ?_⟩
      have bad := st Hl (T1.trans T2)
      have AL := acts_take (AK.mono T2.1) at'
      have lxs : ((us.take at').map V.ref ++ v :: more).length ≤ 5000 := by rw [List.length_append, lt', List.length_cons, lm, List.length_drop]; omega
      have BA : BadA K Hl ((us.take at').map V.ref ++ v :: more) at' := ⟨us.take at', bs.take at', v, more, rfl, AL, fun x hx => wG x (List.mem_of_mem_take hx), by rw [List.length_take]; omega, by omega, bad⟩
      have fin : ∀ (X : Hp) (s7 : Option V), Same Hl X → ∃ v2 v3 v4 v5 v6 v7 : Option V, ([some (.ref a), some (.ref p), some (.int (0 + (i : Int))), some (.ref la), some (.ref sl), some (.int (at' : Int)), some (.int ((at' + dl : Nat) : Int)), s7] : L2.St) = [some (.ref a), some (.ref p), v2, v3, v4, v5, v6, v7] ∧ Pen X p c ns (1000 * (i + 1)) := fun X s7 sX => ⟨_, _, _, _, _, _, rfl, (Pl.same sX).mono (by omega)⟩
      have rest : ∀ (X : Hp), Same Hl X → True := fun _ _ => trivial
      refine ⟨_, rfl, rfl, _, rfl, ite2 (fun z => ?ca) (fun z => ?cb)⟩
      case' ca =>
        have z : at' = 0 := by have := V.int.inj (of_decide_eq_true z); omega
        subst z
        refine ⟨_, rfl, sl, _, _, v, rfl, rfl, SqL.of hl, atI_nat (j := 0) rfl, v, rfl, bad, fun Hm sm => ⟨rfl, _, rfl, iteNS rfl ?_⟩⟩
        replace hl := sm _ _ hl
        replace BA := BA.same sm
        replace Pl := Pl.same sm
        clear fin rest bad AL T2 lm
      all_goals
        refine ⟨_, rfl, sl, rfl, .inr ⟨_, _, hl, lxs, BA, fun Hn sn => ?_⟩⟩
        refine ⟨_, rfl, _, _, _, _, true, rfl, .ty _, .base (.int _), kit_ty (by decide +kernel), _, rfl, iteF ?_⟩
        refine ⟨_, rfl, _, _, _, _, false, rfl, .ty _, .base (.int _), kit_ty (by decide +kernel), _, rfl, iteF ?_⟩
        refine ⟨_, rfl, _, rfl, rfl, _, rfl, iteNS (by simp) ?_⟩
        exact ⟨_, _, _, _, _, _, rfl, (Pl.same sn).mono (by omega)⟩
    · rintro σ Hc ⟨v2, v3, v4, v5, v6, v7, rfl, Pc⟩
      exact kQ _
end
end K2
end
section
set_option Elab.async false
set_option maxRecDepth 100000
set_option linter.all false
namespace K2
open PySem L2 PySem.Spec PyProof.Rows
section
variable {P : Program} {w : World} {K : PySem.W.Frag} {mg mb : Str → Option Value} {k : Nat} {fa a : Addr} {fd : FuncData} {x : Str} {s : Shared} {us : List Value} {ns : List Int}
/-- the call from the claim's own caller, told of any heap of which nothing but the script is tracked -/
theorem call_core {sp : Sp} {H : Hp} (kin : K.In s.heap) (gl : s.heap.Ns mainGlobals mg) (bl : s.heap.Ns builtinsNs mb) (bb : ∀ y : Str, y ≠ "__name__" → mb y = bootBuiltins y) (lim : s.heap.NoLimit) (gn : s.gens = #[])
    (ha : s.heap.get? a = some { cls := .type "list", data := .seq us.toArray }) (hr : Room k callerA) (F : ∀ base : Heap, K.In base → base.Ns mainGlobals mg → FnG P w K mg base k fa fd [x] sp) (bind : ∀ (z : Shared) (u : Value), BindsTo z fd ⟨[u], []⟩ [(x, u)])
    (only : Only H) (ok : HOk P w H s.heap) (lone : ∀ b, H b ≠ none → b = a) (apart : H a ≠ none → K.lookup a = none) (hsp : sp [.ref a] H (fun v _ => v = .bl true) fun _ _ _ => False) :
    codeAny (model P w) callerA (.call (.ref fa) ⟨[.ref a], []⟩) (fun r z => r = .ok (.ret (.bool true)) ∧ OldK s.heap z.heap ∧ z.os = s.os ∧ AllBare z.gens) s := by
  have un_dict : ∀ {b : Addr} {o : Obj} {es : Array DictEntry} {ep : Nat}, s.heap.get? b = some o → o.data = .dict es ep → H b = none := fun {b o es ep} e d => by
    by_cases q : H b = none
    · exact q
    · have := lone b q
      subst this
      rw [ha] at e
      cases e
      exact absurd (show Data.seq us.toArray _ = Data.dict es ep from d) (fun z => nomatch z)
  have ns2 : ∀ {b : Addr} {m : Str → Option Value}, s.heap.Ns b m → (hidT s.heap H).Ns b m := fun ⟨o, es, ep, e, d, r⟩ => ⟨o, es, ep, hidT_get e (un_dict e d), d, r⟩
  have kin2 : K.In (hidT s.heap H) := fun b o e => hidT_get (kin b o e) (by
    by_cases q : H b = none
    · exact q
    · have := lone b q
      subst this
      rw [apart q] at e
      cases e)
  have e0 : Env0 P w K mg (hidT s.heap H) callerA [] s H := ⟨rfl, ⟨kin2, ns2 gl, ⟨mb, ns2 bl, bb⟩, let ⟨mc, h1, h2⟩ := lim; ⟨mc, ns2 h1, h2⟩⟩, fun b o e => of_hidT e, Nat.le_of_eq (hidT_size _ _), trivial, fun b (hb : b ∈ ([] : List Addr)) => (List.not_mem_nil hb).elim, ok, .of_eq gn⟩
  refine codeAny_mono ((F _ kin2 (ns2 gl)).run callerA [] s H ⟨[.ref a], []⟩ [.ref a] [.ref a] _ _ hr rfl e0 (bind s (.ref a)) (.cons rfl .nil) hsp) fun r z h => ?_
  cases r with
  | error e => exact h.elim
  | ok fl =>
    cases fl with
    | next => exact h.elim
    | brk => exact h.elim
    | cont => exact h.elim
    | ret u =>
      obtain ⟨v, H2, os, bare, un, ok2, rv, q⟩ := h
      have q : v = .bl true := q
      subst q
      obtain rfl : u = Value.bool true := rv
      refine ⟨rfl, OldK.of_keep fun b o e => ?_, os, bare⟩
      rcases only b with z1 | ⟨ob, xs, z1⟩
      · exact un.keep b o e z1 (fun z : b ∈ ([] : List Addr) => (List.not_mem_nil z).elim) (fun z => (List.not_mem_nil z).elim)
      · obtain ⟨e1, _⟩ := ok b _ z1
        obtain ⟨e2, _⟩ := ok2 b _ (un.frzs b ob _ z1)
        rw [e] at e1
        cases e1
        exact e2
theorem law_callG (kin : K.In s.heap) (gl : s.heap.Ns mainGlobals mg) (bl : s.heap.Ns builtinsNs mb) (bb : ∀ y : Str, y ≠ "__name__" → mb y = bootBuiltins y) (lim : s.heap.NoLimit) (gn : s.gens = #[])
    (ha : s.heap.get? a = some { cls := .type "list", data := .seq us.toArray }) (hi : IntsAre us ns) (hl : ns.length ≤ 63) (hr : Room k callerA) (F : ∀ base : Heap, K.In base → base.Ns mainGlobals mg → FnG P w K mg base k fa fd [x] (spLaw K)) (bind : ∀ (z : Shared) (u : Value), BindsTo z fd ⟨[u], []⟩ [(x, u)]) :
    codeAny (model P w) callerA (.call (.ref fa) ⟨[.ref a], []⟩) (fun r z => r = .ok (.ret (.bool true)) ∧ OldK s.heap z.heap ∧ z.os = s.os ∧ AllBare z.gens) s := by
  have rv := vals_ints hi
  have ll := hi.length
  have pr : ∀ H : Hp, SqL K H a (ns.map V.int) → spLaw K [.ref a] H (fun v _ => v = .bl true) fun _ _ _ => False := fun H hS => ⟨a, ns, rfl, hS, hl, fun _ => rfl⟩
  cases hk : K.lookup a with
  | some o =>
    have e := kin a o hk
    rw [ha] at e
    cases e
    exact call_core (H := fun _ => none) kin gl bl bb lim gn ha hr F bind (fun _ => .inl rfl) (fun b u z => nomatch (show (none : Option HO) = some u from z)) (fun b z => absurd rfl z) (fun z => absurd rfl z)
      (pr _ (.inr ⟨_, us.toArray, _, hk, rfl, rfl, rfl, by rw [List.size_toArray, ll]; exact Nat.le_trans hl (by decide), by simpa using rv⟩))
  | none =>
    have at_ : ∀ b, (fun b => if b = a then some (HO.frz { cls := .type "list", data := .seq us.toArray } (.lst (ns.map V.int))) else none : Hp) b ≠ none → b = a := fun b z => by
      by_cases hb : b = a
      · exact hb
      · exact absurd (if_neg hb) z
    refine call_core (H := fun b => if b = a then some (HO.frz { cls := .type "list", data := .seq us.toArray } (.lst (ns.map V.int))) else none) kin gl bl bb lim gn ha hr F bind (fun b => ?_) (fun b u z => ?_) at_ (fun _ => hk)
      (pr _ (.inl (.inr ⟨{ cls := .type "list", data := .seq us.toArray }, if_pos rfl⟩)))
    · by_cases hb : b = a
      · exact .inr ⟨_, _, if_pos hb⟩
      · exact .inl (if_neg hb)
    · have hb : b = a := at_ b (by rw [z]; simp)
      subst hb
      have z2 := (if_pos rfl).symm.trans z
      cases z2
      exact ⟨ha, by rw [List.length_map]; exact Nat.le_trans hl (by decide), us, _, rv, ha⟩
end
theorem walk_ofG {l : PySem.W.OpenLaw} {q : Program} {loose : List Str} {XP : (Str → Option Value) → Heap → Prop} {YP : World → Heap → Prop} {d : DefRec} {K : Params → PySem.W.Frag} {k : Nat} {x : Str} (hn : l.most = some 63) (hdf : d.params.defaults = []) (hr : Room k callerA)
    (hY : ∀ (w : World) (h : Heap), YP w h → (K w.params).In h) (F : ∀ (w : World) (mg : Str → Option Value) (fa : Addr) (h : Heap), (K w.params).In h → h.Ns mainGlobals mg → mg d.name = some (.ref fa) →
      ∃ fd : FuncData, (∀ (z : Shared) (u : Value), BindsTo z fd ⟨[u], []⟩ [(x, u)]) ∧ ∀ base : Heap, (K w.params).In base → base.Ns mainGlobals mg → FnG l.prog w (K w.params) mg base k fa fd [x] (spLaw (K w.params))) :
    PySem.W.WalkO q loose XP YP l.row.toRowW d [] (fun f vs => PySem.call f vs) := by
  refine Att.attach_call hn hdf fun w s0 s1 mg mb fa o pm cd doc a vs ns G Y ho hd hcd hmg hobj hints hlen hg => ?_
  obtain ⟨fd, hb, hF⟩ := F w mg fa _ (hY w _ Y) G.T.g hmg
  exact law_callG (hY w _ Y) G.T.g G.T.b G.T.builtins G.T.nolimit hg hobj hints hlen hr hF hb
end K2
end
section
set_option Elab.async false
set_option maxRecDepth 100000
set_option linter.all false
namespace K2
open PySem L2 LfX
theorem kit_no {K : PySem.W.Frag} {C : Addr} {T : String} {l : List String} (c : PySem.W.isClsIn K C = true) (t : PySem.W.typeIn K (.ref C) = some (.type "type")) (e : fastBuiltinMro T = some (l.map Value.type)) : PySem.W.kitOne K (.type T) (.ref C) = some false := by
  have q : PySem.W.kitCls K (.type T) (.ref C) = some false := by
    show (if ((PySem.W.clsIn K C).isSome && PySem.W.typeIn K (.ref C) == some (.type "type")) = true then PySem.W.subIn K (.type T) (.ref C) else none) = some false
    have c' : (PySem.W.clsIn K C).isSome = true := c
    rw [c', t, if_pos (by simp)]
    exact sub_ty e
  unfold PySem.W.kitOne
  rw [if_neg (by simp)]
  exact q
def chkS : List Str → List Value → Bool
  | [], [] => true
  | x :: xs, .str y _ :: us => decide (x = y) && chkS xs us
  | _, _ => false
theorem chk_vals : ∀ {xs : List Str} {us : List Value}, chkS xs us = true → Vals (xs.map V.str) us
  | [], [], _ => .nil
  | x :: xs, .str y t :: us, h => by
    have h2 := Bool.and_eq_true_iff.mp (show (decide (x = y) && chkS xs us) = true from h)
    have e := of_decide_eq_true h2.1
    subst e
    exact .cons ⟨t, rfl⟩ (chk_vals h2.2)
theorem kit_ref {K : PySem.W.Frag} {D C : Addr} {b : Bool} (ne : (D == C) = false) (c : PySem.W.isClsIn K C = true) (t : PySem.W.typeIn K (.ref C) = some (.type "type")) (s : PySem.W.subIn K (.ref D) (.ref C) = some b) : PySem.W.kitOne K (.ref D) (.ref C) = some b := by
  have q : PySem.W.kitCls K (.ref D) (.ref C) = some b := by
    show (if ((PySem.W.clsIn K C).isSome && PySem.W.typeIn K (.ref C) == some (.type "type")) = true then PySem.W.subIn K (.ref D) (.ref C) else none) = some b
    have c' : (PySem.W.clsIn K C).isSome = true := c
    rw [c', t, if_pos (by simp)]
    exact s
  unfold PySem.W.kitOne
  rw [if_neg ?_]
  · exact q
  · intro z
    have e : D = C := Value.ref.inj (beq_iff_eq.mp z)
    rw [e] at ne
    simp at ne
theorem kit_same {K : PySem.W.Frag} {D : Addr} : PySem.W.kitOne K (.ref D) (.ref D) = some true := by
  unfold PySem.W.kitOne
  rw [if_pos (by simp)]
theorem kit_ve {K : PySem.W.Frag} {D : Addr} (s : PySem.W.subIn K (.ref D) (.type "ValueError") = some true) : PySem.W.kitOne K (.ref D) (.type "ValueError") = some true := by
  have q : PySem.W.kitCls K (.ref D) (.type "ValueError") = some true := by
    show (if PySem.W.kitMeta "ValueError" = true then PySem.W.subIn K (.ref D) (.type "ValueError") else none) = some true
    rw [if_pos (by decide +kernel)]
    exact s
  unfold PySem.W.kitOne
  rw [if_neg (by simp)]
  exact q
theorem any_no {K : PySem.W.Frag} {t c : Value} {r : List Value} (h : PySem.W.kitOne K t c = some false) (k : PySem.W.kitAny K t r = some false) : PySem.W.kitAny K t (c :: r) = some false := by
  show (match PySem.W.kitOne K t c with | some true => some true | some false => PySem.W.kitAny K t r | none => none) = some false
  rw [h]
  exact k

set_option maxHeartbeats 4000000 in
theorem all_mk {l : PySem.W.OpenLaw} {w : World} {K : PySem.W.Frag} {h : Heap} {mg : Str → Option Value} {fa C pM aR CN LE A1 A2 A3 A4 : Addr} {nm_x q_x N_x bs_x bm_x sn_x sub_x ab_x col_x dd_x k0_x k1_x k2_x k3_x k5_x} {rest : List Value} {t1 : Tok} {ddR : Option Addr} {itsR : Array Value} {nR2 : Nat} {slR : Array (Option Value)} (X : K.In h) (G : h.Ns mainGlobals mg) (hfa : mg "law" = some (.ref fa))
    {fIW fIA fAO fPN fD fWO fPL fSO fDR fSP fRF fRS fKE fLW fIN fMA fLN fCO fEQ fNA : Addr} {odIW anIW odIA anIA odAO anAO odPN anPN odD anD odWO anWO odPL anPL odSO anSO odDR anDR odSP anSP odRF anRF odRS anRS odKE anKE odLW anLW odIN anIN odMA anMA odLN anLN odCO anCO odEQ anEQ odNA anNA : Option Addr} {slIW slIA slAO slPN slD slWO slPL slSO slDR slSP slRF slRS slKE slLW slIN slMA slLN slCO slEQ slNA : Array (Option Value)} {ocIW kVIW dcIW pmIW cdIW ctIW ocIA kVIA dcIA pmIA cdIA ctIA ocAO kVAO dcAO pmAO cdAO ctAO ocPN kVPN dcPN pmPN cdPN ctPN ocD kVD dcD pmD cdD ctD ocWO kVWO dcWO pmWO cdWO ctWO ocPL kVPL dcPL pmPL cdPL ctPL ocSO kVSO dcSO pmSO cdSO ctSO ocDR kVDR dcDR pmDR cdDR ctDR ocSP kVSP dcSP pmSP cdSP ctSP ocRF kVRF dcRF pmRF cdRF ctRF ocRS kVRS dcRS pmRS cdRS ctRS ocKE kVKE dcKE pmKE cdKE ctKE ocLW kVLW dcLW pmLW cdLW ctLW ocIN kVIN dcIN pmIN cdIN ctIN ocMA kVMA dcMA pmMA cdMA ctMA ocLN kVLN dcLN pmLN cdLN ctLN ocCO kVCO dcCO pmCO cdCO ctCO ocEQ kVEQ dcEQ pmEQ cdEQ ctEQ ocNA kVNA dcNA pmNA cdNA ctNA : Value}
    (aIW : PySem.W.nsIn K mainGlobals "is_word" = some (some (.ref fIW)))
    (aIA : PySem.W.nsIn K mainGlobals "is_act" = some (some (.ref fIA)))
    (aAO : PySem.W.nsIn K mainGlobals "act_order" = some (some (.ref fAO)))
    (aPN : PySem.W.nsIn K mainGlobals "_law_pen" = some (some (.ref fPN)))
    (aD : PySem.W.nsIn K mainGlobals "_law_draw" = some (some (.ref fD)))
    (aWO : PySem.W.nsIn K mainGlobals "_law_words" = some (some (.ref fWO)))
    (aPL : PySem.W.nsIn K mainGlobals "_law_place" = some (some (.ref fPL)))
    (aSO : PySem.W.nsIn K mainGlobals "_law_sorted" = some (some (.ref fSO)))
    (aDR : PySem.W.nsIn K mainGlobals "_law_drawn" = some (some (.ref fDR)))
    (aSP : PySem.W.nsIn K mainGlobals "_law_spoiled" = some (some (.ref fSP)))
    (aRF : PySem.W.nsIn K mainGlobals "_law_refused" = some (some (.ref fRF)))
    (aRS : PySem.W.nsIn K mainGlobals "_law_refused_by_stars" = some (some (.ref fRS)))
    (aKE : PySem.W.nsIn K mainGlobals "_law_kept" = some (some (.ref fKE)))
    (aLW : PySem.W.nsIn K mainGlobals "law" = some (some (.ref fLW)))
    (lIW : K.lookup fIW = some ⟨ocIW, odIW, .func (PySem.W.fnOf "is_word" "is_word" (defArgs sIsW) (defBody sIsW) (defScope sIsW) .none kVIW dcIW pmIW anIW cdIW ctIW), slIW⟩) (cIW : PySem.W.codeIn K cdIW "is_word" = true) (kIW : PySem.W.keepIn K (.ref fIW) = true)
    (lIA : K.lookup fIA = some ⟨ocIA, odIA, .func (PySem.W.fnOf "is_act" "is_act" (defArgs sIA) (defBody sIA) (defScope sIA) .none kVIA dcIA pmIA anIA cdIA ctIA), slIA⟩) (cIA : PySem.W.codeIn K cdIA "is_act" = true) (kIA : PySem.W.keepIn K (.ref fIA) = true)
    (lAO : K.lookup fAO = some ⟨ocAO, odAO, .func (PySem.W.fnOf "act_order" "act_order" (defArgs sAO) (defBody sAO) (defScope sAO) .none kVAO dcAO pmAO anAO cdAO ctAO), slAO⟩) (cAO : PySem.W.codeIn K cdAO "act_order" = true) (kAO : PySem.W.keepIn K (.ref fAO) = true)
    (lPN : K.lookup fPN = some ⟨ocPN, odPN, .func (PySem.W.fnOf "_law_pen" "_law_pen" (defArgs sPen) (defBody sPen) (defScope sPen) .none kVPN dcPN pmPN anPN cdPN ctPN), slPN⟩) (cPN : PySem.W.codeIn K cdPN "_law_pen" = true) (kPN : PySem.W.keepIn K (.ref fPN) = true)
    (lD : K.lookup fD = some ⟨ocD, odD, .func (PySem.W.fnOf "_law_draw" "_law_draw" (defArgs sDraw) (defBody sDraw) (defScope sDraw) .none kVD dcD pmD anD cdD ctD), slD⟩) (cD : PySem.W.codeIn K cdD "_law_draw" = true) (kD : PySem.W.keepIn K (.ref fD) = true)
    (lWO : K.lookup fWO = some ⟨ocWO, odWO, .func (PySem.W.fnOf "_law_words" "_law_words" (defArgs sWords) (defBody sWords) (defScope sWords) .none kVWO dcWO pmWO anWO cdWO ctWO), slWO⟩) (cWO : PySem.W.codeIn K cdWO "_law_words" = true) (kWO : PySem.W.keepIn K (.ref fWO) = true)
    (lPL : K.lookup fPL = some ⟨ocPL, odPL, .func (PySem.W.fnOf "_law_place" "_law_place" (defArgs sPl) (defBody sPl) (defScope sPl) .none kVPL dcPL pmPL anPL cdPL ctPL), slPL⟩) (cPL : PySem.W.codeIn K cdPL "_law_place" = true) (kPL : PySem.W.keepIn K (.ref fPL) = true)
    (lSO : K.lookup fSO = some ⟨ocSO, odSO, .func (PySem.W.fnOf "_law_sorted" "_law_sorted" (defArgs sSoB) (defBody sSoB) (defScope sSoB) .none kVSO dcSO pmSO anSO cdSO ctSO), slSO⟩) (cSO : PySem.W.codeIn K cdSO "_law_sorted" = true) (kSO : PySem.W.keepIn K (.ref fSO) = true)
    (lDR : K.lookup fDR = some ⟨ocDR, odDR, .func (PySem.W.fnOf "_law_drawn" "_law_drawn" (defArgs sDr) (defBody sDr) (defScope sDr) .none kVDR dcDR pmDR anDR cdDR ctDR), slDR⟩) (cDR : PySem.W.codeIn K cdDR "_law_drawn" = true) (kDR : PySem.W.keepIn K (.ref fDR) = true)
    (lSP : K.lookup fSP = some ⟨ocSP, odSP, .func (PySem.W.fnOf "_law_spoiled" "_law_spoiled" (defArgs sSp) (defBody sSp) (defScope sSp) .none kVSP dcSP pmSP anSP cdSP ctSP), slSP⟩) (cSP : PySem.W.codeIn K cdSP "_law_spoiled" = true) (kSP : PySem.W.keepIn K (.ref fSP) = true)
    (lRF : K.lookup fRF = some ⟨ocRF, odRF, .func (PySem.W.fnOf "_law_refused" "_law_refused" (defArgs sRf) (defBody sRf) (defScope sRf) .none kVRF dcRF pmRF anRF cdRF ctRF), slRF⟩) (cRF : PySem.W.codeIn K cdRF "_law_refused" = true) (kRF : PySem.W.keepIn K (.ref fRF) = true)
    (lRS : K.lookup fRS = some ⟨ocRS, odRS, .func (PySem.W.fnOf "_law_refused_by_stars" "_law_refused_by_stars" (defArgs sRs) (defBody sRs) (defScope sRs) .none kVRS dcRS pmRS anRS cdRS ctRS), slRS⟩) (cRS : PySem.W.codeIn K cdRS "_law_refused_by_stars" = true) (kRS : PySem.W.keepIn K (.ref fRS) = true)
    (lKE : K.lookup fKE = some ⟨ocKE, odKE, .func (PySem.W.fnOf "_law_kept" "_law_kept" (defArgs sKe) (defBody sKe) (defScope sKe) .none kVKE dcKE pmKE anKE cdKE ctKE), slKE⟩) (cKE : PySem.W.codeIn K cdKE "_law_kept" = true) (kKE : PySem.W.keepIn K (.ref fKE) = true)
    (lLW : K.lookup fLW = some ⟨ocLW, odLW, .func (PySem.W.fnOf "law" "law" (defArgs sLaw) (defBody sLaw) (defScope sLaw) .none kVLW dcLW pmLW anLW cdLW ctLW), slLW⟩) (cLW : PySem.W.codeIn K cdLW "law" = true) (kLW : PySem.W.keepIn K (.ref fLW) = true)
    (lIN : K.lookup fIN = some ⟨ocIN, odIN, .func (PySem.W.fnOf "__init__" "Acts.__init__" (defArgs sIn) (defBody sIn) (defScope sIn) .none kVIN dcIN pmIN anIN cdIN ctIN), slIN⟩) (cIN : PySem.W.codeIn K cdIN "Acts.__init__" = true) (kIN : PySem.W.keepIn K (.ref fIN) = true)
    (lMA : K.lookup fMA = some ⟨ocMA, odMA, .func (PySem.W.fnOf "made" "Acts.made" (defArgs sMd) (defBody sMd) (defScope sMd) .none kVMA dcMA pmMA anMA cdMA ctMA), slMA⟩) (cMA : PySem.W.codeIn K cdMA "Acts.made" = true) (kMA : PySem.W.keepIn K (.ref fMA) = true)
    (lLN : K.lookup fLN = some ⟨ocLN, odLN, .func (PySem.W.fnOf "__len__" "Acts.__len__" (defArgs sLn) (defBody sLn) (defScope sLn) .none kVLN dcLN pmLN anLN cdLN ctLN), slLN⟩) (cLN : PySem.W.codeIn K cdLN "Acts.__len__" = true) (kLN : PySem.W.keepIn K (.ref fLN) = true)
    (lCO : K.lookup fCO = some ⟨ocCO, odCO, .func (PySem.W.fnOf "__contains__" "Acts.__contains__" (defArgs sCo) (defBody sCo) (defScope sCo) .none kVCO dcCO pmCO anCO cdCO ctCO), slCO⟩) (cCO : PySem.W.codeIn K cdCO "Acts.__contains__" = true) (kCO : PySem.W.keepIn K (.ref fCO) = true)
    (lEQ : K.lookup fEQ = some ⟨ocEQ, odEQ, .func (PySem.W.fnOf "__eq__" "Acts.__eq__" (defArgs sQe) (defBody sQe) (defScope sQe) .none kVEQ dcEQ pmEQ anEQ cdEQ ctEQ), slEQ⟩) (cEQ : PySem.W.codeIn K cdEQ "Acts.__eq__" = true) (kEQ : PySem.W.keepIn K (.ref fEQ) = true)
    (lNA : K.lookup fNA = some ⟨ocNA, odNA, .func (PySem.W.fnOf "__init__" "NoAct.__init__" (defArgs sNA) (defBody sNA) (defScope sNA) .none kVNA dcNA pmNA anNA cdNA ctNA), slNA⟩) (cNA : PySem.W.codeIn K cdNA "NoAct.__init__" = true) (kNA : PySem.W.keepIn K (.ref fNA) = true)
    (aC : PySem.W.nsIn K mainGlobals "Acts" = some (some (.ref C)))
    (aCN : PySem.W.nsIn K mainGlobals "NoAct" = some (some (.ref CN)))
    (aLE : PySem.W.nsIn K mainGlobals "LeaveError" = some (some (.ref LE)))
    (aA1 : PySem.W.nsIn K mainGlobals "NoCase" = some (some (.ref A1)))
    (aA2 : PySem.W.nsIn K mainGlobals "NoClass" = some (some (.ref A2)))
    (aA3 : PySem.W.nsIn K mainGlobals "NoRecord" = some (some (.ref A3)))
    (aA4 : PySem.W.nsIn K mainGlobals "NoRow" = some (some (.ref A4)))
    (aIN : PySem.W.findIn K (.ref C) "__init__" = some (some (.ref fIN)))
    (iIN : PySem.W.isFn K (.ref fIN) = true)
    (aLN : PySem.W.findIn K (.ref C) "__len__" = some (some (.ref fLN)))
    (iLN : PySem.W.isFn K (.ref fLN) = true)
    (aCO : PySem.W.findIn K (.ref C) "__contains__" = some (some (.ref fCO)))
    (iCO : PySem.W.isFn K (.ref fCO) = true)
    (aEQ : PySem.W.findIn K (.ref C) "__eq__" = some (some (.ref fEQ)))
    (iEQ : PySem.W.isFn K (.ref fEQ) = true)
    (aNA : PySem.W.findIn K (.ref CN) "__init__" = some (some (.ref fNA)))
    (tNA : PySem.W.typeIn K (.ref fNA) = some (.type "function"))
    (isC : PySem.W.isClsIn K C = true)
    (tyC : PySem.W.typeIn K (.ref C) = some (.type "type"))
    (oK_x : K.lookup CN = some (excClassObj nm_x q_x CN N_x bs_x bm_x true sn_x sub_x ab_x col_x dd_x k0_x k1_x k2_x k3_x k5_x "ValueError.__new__"))
    (oR_x : PySem.HandSPX.refsVE bm_x = true)
    (x_sa : PySem.W.findIn K (.ref CN) "__setattr__" = some (some (.builtin "object.__setattr__")))
    (x_be : PySem.W.subIn K (.ref CN) (.type "BaseException") = some true)
    (x_ty : PySem.W.typeIn K (.ref CN) = some (.type "type"))
    (x_kp : PySem.W.keepIn K (.ref CN) = true)
    (x_pl : PySem.W.findIn K (.ref CN) "place" = some none)
    (x_ga : PySem.W.findIn K (.ref CN) "__getattribute__" = some (some (.builtin "BaseException.__getattribute__")))
    (x_gg : PySem.W.findIn K (.ref CN) "__getattr__" = some none)
    (x_hd : PySem.W.hasDictIn K CN = true)
    (x_cl : PySem.W.findIn K (.ref CN) "__class__" = some (some (.builtin "object.__class__")))
    (x_ob : PySem.W.mroIn K CN (.type "object") = some true)
    (x_se : PySem.W.subIn K (.ref CN) (.ref CN) = some true)
    (y_be : PySem.W.subIn K (.ref LE) (.type "BaseException") = some true)
    (y_hd : PySem.W.hasDictIn K LE = true)
    (y_ty : PySem.W.typeIn K (.ref LE) = some (.type "type"))
    (y_su : PySem.W.subIn K (.ref CN) (.ref LE) = some true)
    (n1 : (CN == A1) = false) (ic1 : PySem.W.isClsIn K A1 = true) (ty1 : PySem.W.typeIn K (.ref A1) = some (.type "type")) (su1 : PySem.W.subIn K (.ref CN) (.ref A1) = some false)
    (n2 : (CN == A2) = false) (ic2 : PySem.W.isClsIn K A2 = true) (ty2 : PySem.W.typeIn K (.ref A2) = some (.type "type")) (su2 : PySem.W.subIn K (.ref CN) (.ref A2) = some false)
    (n3 : (CN == A3) = false) (ic3 : PySem.W.isClsIn K A3 = true) (ty3 : PySem.W.typeIn K (.ref A3) = some (.type "type")) (su3 : PySem.W.subIn K (.ref CN) (.ref A3) = some false)
    (n4 : (CN == A4) = false) (ic4 : PySem.W.isClsIn K A4 = true) (ty4 : PySem.W.typeIn K (.ref A4) = some (.type "type")) (su4 : PySem.W.subIn K (.ref CN) (.ref A4) = some false)
    (ha : PySem.W.findIn K (.ref C) "__class__" = some (some (.builtin "object.__class__")))
    (hn : PySem.W.specialIn K (.builtin "object.__class__") "__get__" = some (some (.builtin "getset_descriptor.__get__")))
    (htk : PySem.W.takesIn K (.builtin "object.__class__") = some true)
    (hmo : PySem.W.mroIn K C (.type "object") = some true)
    (pg : PySem.W.plainGet K C Str.empty = true)
    (hd : PySem.W.hasDictIn K C = true)
    (po : PySem.W.plainOver K C = true)
    (sa : PySem.W.findIn K (.ref C) "__setattr__" = some (some (.builtin "object.__setattr__")))
    (mk : PySem.W.makesIn K C = true)
    (kc : PySem.W.keepIn K (.ref C) = true)
    (nR : PySem.W.findIn K (.ref C) "rows" = some none)
    (nK : PySem.W.findIn K (.ref C) "_known" = some none)
    (rd : PySem.W.readsIn K C (.type "type") = true)
    (ga : PySem.W.specialIn K (.ref C) "__getattribute__" = some (some (.builtin "type.__getattribute__")))
    (cm : PySem.W.findCls K (.ref C) (.type "type") "made" = some (.get (.builtin "classmethod.__get__") (.ref pM) .none (.ref C)))
    (rc : PySem.W.recIn K pM "classmethod" = some (.ref fMA :: rest))
    (fi : PySem.W.fnIn K fMA = true)
    (zL : PySem.W.nsIn K mainGlobals "LONGEST" = some (some (.int 8 t1)))
    (zR : PySem.W.nsIn K mainGlobals "RESERVED" = some (some (.ref aR)))
    (lR : K.lookup aR = some ⟨.type "tuple", ddR, .seq itsR nR2, slR⟩)
    (vR : chkS resd itsR.toList = true)
    (szR : itsR.size ≤ sizeLine)
    (b_len : PySem.W.nsIn K mainGlobals "len" = some none)
    (b_int : PySem.W.nsIn K mainGlobals "int" = some none)
    (b_abs : PySem.W.nsIn K mainGlobals "abs" = some none)
    (b_range : PySem.W.nsIn K mainGlobals "range" = some none)
    (b_list : PySem.W.nsIn K mainGlobals "list" = some none)
    (b_tuple : PySem.W.nsIn K mainGlobals "tuple" = some none)
    (b_enumerate : PySem.W.nsIn K mainGlobals "enumerate" = some none)
    (b_isinstance : PySem.W.nsIn K mainGlobals "isinstance" = some none)
    (b_str : PySem.W.nsIn K mainGlobals "str" = some none)
    (b_set : PySem.W.nsIn K mainGlobals "set" = some none)
    (b_all : PySem.W.nsIn K mainGlobals "all" = some none)
    (b_repr : PySem.W.nsIn K mainGlobals "repr" = some none)
    (b_sorted : PySem.W.nsIn K mainGlobals "sorted" = some none)
    (b_bool : PySem.W.nsIn K mainGlobals "bool" = some none)
    : ∃ fd : FuncData, (∀ (z : Shared) (u : Value), BindsTo z fd ⟨[u], []⟩ [("_law_script", u)]) ∧ ∀ base : Heap, K.In base → base.Ns mainGlobals mg → FnG l.prog w K mg base 8 fa fd ["_law_script"] (spLaw K) := by
  have e := hfa.symm.trans (PySem.W.mg_of X G aLW)
  cases e
  have T : Bi mg := ⟨PySem.W.mg_none_of X G b_len, PySem.W.mg_none_of X G b_int, PySem.W.mg_none_of X G b_abs, PySem.W.mg_none_of X G b_range, PySem.W.mg_none_of X G b_list, PySem.W.mg_none_of X G b_tuple, PySem.W.mg_none_of X G b_enumerate, PySem.W.mg_none_of X G b_isinstance, PySem.W.mg_none_of X G b_str, PySem.W.mg_none_of X G b_set, PySem.W.mg_none_of X G b_all, PySem.W.mg_none_of X G b_repr⟩
  have GB : Gb K mg aR t1 t1 := ⟨PySem.W.mg_of X G zL, PySem.W.mg_of X G zR, fun H => .inr ⟨_, itsR, nR2, lR, rfl, rfl, szR, chk_vals vR⟩⟩
  have Y : TxA K mg C := ⟨⟨pg, hd, po, sa⟩, nR, nK, PySem.W.mg_of X G aC⟩
  have FIW := fun_mk (st := sIsW) lIW cIW kIW
  have FIA := fun_mk (st := sIA) lIA cIA kIA
  have FAO := fun_mk (st := sAO) lAO cAO kAO
  have FPN := fun_mk (st := sPen) lPN cPN kPN
  have FD := fun_mk (st := sDraw) lD cD kD
  have FWO := fun_mk (st := sWords) lWO cWO kWO
  have FPL := fun_mk (st := sPl) lPL cPL kPL
  have FSO := fun_mk (st := sSoB) lSO cSO kSO
  have FDR := fun_mk (st := sDr) lDR cDR kDR
  have FSP := fun_mk (st := sSp) lSP cSP kSP
  have FRF := fun_mk (st := sRf) lRF cRF kRF
  have FRS := fun_mk (st := sRs) lRS cRS kRS
  have FKE := fun_mk (st := sKe) lKE cKE kKE
  have FLW := fun_mk (st := sLaw) lLW cLW kLW
  have FIN := fun_mk (st := sIn) lIN cIN kIN
  have FMA := fun_mk (st := sMd) lMA cMA kMA
  have FLN := fun_mk (st := sLn) lLN cLN kLN
  have FCO := fun_mk (st := sCo) lCO cCO kCO
  have FEQ := fun_mk (st := sQe) lEQ cEQ kEQ
  have FNA := fun_mk (st := sNA) lNA cNA kNA
  have DIW : Df K mg "is_word" sIsW fIW _ (["x"] : List Str) := ⟨FIW, PySem.W.mg_of X G aIW, FIW.binds (ps := ["x"]) fun _ _ _ _ _ _ us hl => match us, hl with | [_], _ => rfl⟩
  have DIA : Df K mg "is_act" sIA fIA _ (["x"] : List Str) := ⟨FIA, PySem.W.mg_of X G aIA, FIA.binds (ps := ["x"]) fun _ _ _ _ _ _ us hl => match us, hl with | [_], _ => rfl⟩
  have DAO : Df K mg "act_order" sAO fAO _ (["act"] : List Str) := ⟨FAO, PySem.W.mg_of X G aAO, FAO.binds (ps := ["act"]) fun _ _ _ _ _ _ us hl => match us, hl with | [_], _ => rfl⟩
  have DPN : Df K mg "_law_pen" sPen fPN _ (["_law_script"] : List Str) := ⟨FPN, PySem.W.mg_of X G aPN, FPN.binds (ps := ["_law_script"]) fun _ _ _ _ _ _ us hl => match us, hl with | [_], _ => rfl⟩
  have DD : Df K mg "_law_draw" sDraw fD _ (["_law_pen_here", "_law_many"] : List Str) := ⟨FD, PySem.W.mg_of X G aD, FD.binds (ps := ["_law_pen_here", "_law_many"]) fun _ _ _ _ _ _ us hl => match us, hl with | [_, _], _ => rfl⟩
  have DWO : Df K mg "_law_words" sWords fWO _ (["_law_pen_here", "_law_many"] : List Str) := ⟨FWO, PySem.W.mg_of X G aWO, FWO.binds (ps := ["_law_pen_here", "_law_many"]) fun _ _ _ _ _ _ us hl => match us, hl with | [_, _], _ => rfl⟩
  have DPL : Df K mg "_law_place" sPl fPL _ (["_law_act"] : List Str) := ⟨FPL, PySem.W.mg_of X G aPL, FPL.binds (ps := ["_law_act"]) fun _ _ _ _ _ _ us hl => match us, hl with | [_], _ => rfl⟩
  have DSO : Df K mg "_law_sorted" sSoB fSO _ (["_law_acts"] : List Str) := ⟨FSO, PySem.W.mg_of X G aSO, FSO.binds (ps := ["_law_acts"]) fun _ _ _ _ _ _ us hl => match us, hl with | [_], _ => rfl⟩
  have DDR : Df K mg "_law_drawn" sDr fDR _ (["_law_pen_here"] : List Str) := ⟨FDR, PySem.W.mg_of X G aDR, FDR.binds (ps := ["_law_pen_here"]) fun _ _ _ _ _ _ us hl => match us, hl with | [_], _ => rfl⟩
  have DSP : Df K mg "_law_spoiled" sSp fSP _ (["_law_pen_here", "_law_act"] : List Str) := ⟨FSP, PySem.W.mg_of X G aSP, FSP.binds (ps := ["_law_pen_here", "_law_act"]) fun _ _ _ _ _ _ us hl => match us, hl with | [_, _], _ => rfl⟩
  have DRF : Df K mg "_law_refused" sRf fRF _ (["_law_rows"] : List Str) := ⟨FRF, PySem.W.mg_of X G aRF, FRF.binds (ps := ["_law_rows"]) fun _ _ _ _ _ _ us hl => match us, hl with | [_], _ => rfl⟩
  have DRS : Df K mg "_law_refused_by_stars" sRs fRS _ (["_law_row"] : List Str) := ⟨FRS, PySem.W.mg_of X G aRS, FRS.binds (ps := ["_law_row"]) fun _ _ _ _ _ _ us hl => match us, hl with | [_], _ => rfl⟩
  have DKE : Df K mg "_law_kept" sKe fKE _ (["_law_pen_here", "_law_acts"] : List Str) := ⟨FKE, PySem.W.mg_of X G aKE, FKE.binds (ps := ["_law_pen_here", "_law_acts"]) fun _ _ _ _ _ _ us hl => match us, hl with | [_, _], _ => rfl⟩
  have BMA := FMA.binds (ps := ["cls", "rows"]) fun _ _ _ _ _ _ us hl => match us, hl with | [_, _], _ => rfl
  have BLN := FLN.binds (ps := ["self"]) fun _ _ _ _ _ _ us hl => match us, hl with | [_], _ => rfl
  have BCO := FCO.binds (ps := ["self", "x"]) fun _ _ _ _ _ _ us hl => match us, hl with | [_, _], _ => rfl
  have BEQ := FEQ.binds (ps := ["self", "other"]) fun _ _ _ _ _ _ us hl => match us, hl with | [_, _], _ => rfl
  have BNA := FNA.binds (ps := ["self", "place"]) fun _ _ _ _ _ _ us hl => match us, hl with | [_, _], _ => rfl
  have tSo := PySem.W.mg_none_of X G b_sorted
  have O : OwnA K C := ⟨ha, hn, htk, hmo⟩
  have M : Mk K C fIN := ⟨mk, aIN, iIN, kc⟩
  refine ⟨_, fun z u => .of_eq (fd := (PySem.W.fnOf "law" "law" (defArgs sLaw) (defBody sLaw) (defScope sLaw) .none kVLW dcLW pmLW anLW cdLW ctLW)) rfl, fun base _ _ => ?_⟩
  have GD := ok_draw (P := l.prog) (w := w) (base := base) FD T
  have GWo := (ok_wordsB FWO T DD GD).mono (k := 3) (by decide)
  have GIw := ok_iswG (P := l.prog) (w := w) (base := base) FIW T GB
  have tBo := PySem.W.mg_none_of X G b_bool
  have NAx : NAc K mg CN fNA := ⟨⟨⟨_, _, _, _, _, _, _, _, _, _, _, _, _, _, _, oK_x, oR_x⟩, x_sa, x_be, x_ty, x_kp⟩, x_pl, aNA, tNA, PySem.W.mg_of X G aCN⟩
  have OA : OfAct K CN LE A1 A2 A3 A4 := ⟨PySem.W.exm_ref y_be y_hd y_ty y_su, PySem.W.exm_ref x_be x_hd x_ty x_se, ⟨x_ga, x_gg, x_be, x_hd, x_cl, hn, htk, x_ob⟩, ⟨x_ga, x_gg, x_be, x_hd⟩, x_pl, kit_same, any_no (kit_ref n1 ic1 ty1 su1) (any_no (kit_ref n2 ic2 ty2 su2) (any_no (kit_ref n3 ic3 ty3 su3) (any_no (kit_ref n4 ic4 ty4 su4) rfl)))⟩
  have GNa := ok_na (P := l.prog) (w := w) (base := base) FNA NAx
  have GIa := ok_ia FIA T DIW GIw
  have GIg := ok_iaG FIA T DIW GIw
  have GAo := ok_ao (P := l.prog) (w := w) (mg := mg) (base := base) FAO
  have GIn := ok_in FIN Y T tSo DIA GIa DAO GAo
  have GIx := ok_inX (C := C) FIN Y T tSo DIA GIg DAO GAo NAx GNa BNA
  have GMt := ok_mdT FMA M GIn
  have GMx := ok_mdX FMA M GIx
  have GLn := ok_ln (P := l.prog) (w := w) (base := base) FLN Y T
  have GCo := ok_coG FCO Y DIA GIg
  have GEq := ok_qe (P := l.prog) (w := w) (base := base) FEQ Y T O
  have cR : ClX.CRead K C (.type "type") := ⟨rd, ga⟩
  have cM : ClX.CMet K C (.type "type") "made" pM fMA := ⟨cm, ⟨rest, rc⟩, fi⟩
  have GPl := ok_pl (P := l.prog) (w := w) (mg := mg) (base := base) FPL
  have GSo := ok_so FSO T DPL GPl
  have GDr := ok_dr FDR T DD GD DWO GWo
  have GSp := ok_sp FSP T DD GD
  have GPn := ok_pen (P := l.prog) (w := w) (base := base) FPN T
  have GRf := ok_rf FRF T Y (PySem.W.mg_of X G aCN) (PySem.W.mg_of X G aLE) (PySem.W.mg_of X G aA1) (PySem.W.mg_of X G aA2) (PySem.W.mg_of X G aA3) (PySem.W.mg_of X G aA4) OA cR cM GMt GMx BMA
  have GRs := ok_rs FRS Y (PySem.W.mg_of X G aCN) OA M GIx
  have GKe := ok_ke FKE T Y O (kit_no (l := ["tuple", "object"]) isC tyC (by decide +kernel)) (kit_no (l := ["list", "object"]) isC tyC (by decide +kernel)) cR cM GMt BMA M GIn GEq BEQ aEQ iEQ GLn BLN aLN iLN GCo BCO aCO iCO DSO GSo
  exact ok_law FLW T tBo DPN GPn DD GD DDR GDr DKE GKe DRF GRf DRS GRs DSP GSp
theorem walk {l : PySem.W.OpenLaw} {q : Program} {loose : List Str} {XP : (Str → Option Value) → Heap → Prop} {YP : World → Heap → Prop} {d : DefRec} {K : Params → PySem.W.Frag} (hn : l.most = some 63) (hdf : d.params.defaults = [])
    (hY : ∀ (w : World) (h : Heap), YP w h → (K w.params).In h)
    (F : ∀ (w : World) (mg : Str → Option Value) (fa : Addr) (h : Heap), (K w.params).In h → h.Ns mainGlobals mg → mg d.name = some (.ref fa) →
      ∃ fd : FuncData, (∀ (z : Shared) (u : Value), BindsTo z fd ⟨[u], []⟩ [("_law_script", u)]) ∧ ∀ base : Heap, (K w.params).In base → base.Ns mainGlobals mg → FnG l.prog w (K w.params) mg base 8 fa fd ["_law_script"] (spLaw (K w.params))) :
    PySem.W.WalkO q loose XP YP l.row.toRowW d [] (fun f vs => PySem.call f vs) := walk_ofG hn hdf ⟨rfl, by decide, by decide⟩ hY F
end K2
end
section
set_option Elab.async false
set_option maxRecDepth 100000
open PySem PySem.W PyProof.Rows
set_option maxRecDepth 100000 in
set_option maxHeartbeats 0 in
theorem PySem.Challenge.cw_whatleaves_k32_acts_kept_holds : PySem.Challenge.rw_whatleaves_k32_acts_kept.Holds := by
  w_on; o_law; k_head; (case hw => w_witness2)
  k_fill
  refine K2.walk (l := PySem.Challenge.rw_whatleaves_k32_acts_kept) rfl rfl (fun w h Y => PySem.W.kIn_of Y) ?F
  case F =>
    intro w mg fa h KX G hmg
    refine' K2.all_mk KX G hmg ?aIW ?aIA ?aAO ?aPN ?aD ?aWO ?aPL ?aSO ?aDR ?aSP ?aRF ?aRS ?aKE ?aLW ?lIW ?cIW ?kIW ?lIA ?cIA ?kIA ?lAO ?cAO ?kAO ?lPN ?cPN ?kPN ?lD ?cD ?kD ?lWO ?cWO ?kWO ?lPL ?cPL ?kPL ?lSO ?cSO ?kSO ?lDR ?cDR ?kDR ?lSP ?cSP ?kSP ?lRF ?cRF ?kRF ?lRS ?cRS ?kRS ?lKE ?cKE ?kKE ?lLW ?cLW ?kLW ?lIN ?cIN ?kIN ?lMA ?cMA ?kMA ?lLN ?cLN ?kLN ?lCO ?cCO ?kCO ?lEQ ?cEQ ?kEQ ?lNA ?cNA ?kNA ?aC ?aCN ?aLE ?aA1 ?aA2 ?aA3 ?aA4 ?aIN ?iIN ?aLN ?iLN ?aCO ?iCO ?aEQ ?iEQ ?aNA ?tNA ?isC ?tyC ?oK_x ?oR_x ?x_sa ?x_be ?x_ty ?x_kp ?x_pl ?x_ga ?x_gg ?x_hd ?x_cl ?x_ob ?x_se ?y_be ?y_hd ?y_ty ?y_su ?n1 ?ic1 ?ty1 ?su1 ?n2 ?ic2 ?ty2 ?su2 ?n3 ?ic3 ?ty3 ?su3 ?n4 ?ic4 ?ty4 ?su4 ?ha ?hn ?htk ?hmo ?pg ?hd ?po ?sa ?mk ?kc ?nR ?nK ?rd ?ga ?cm ?rc ?fi ?zL ?zR ?lR ?vR ?szR ?b_len ?b_int ?b_abs ?b_range ?b_list ?b_tuple ?b_enumerate ?b_isinstance ?b_str ?b_set ?b_all ?b_repr ?b_sorted ?b_bool
    (case aIW => k_is)
    (case aIA => k_is)
    (case aAO => k_is)
    (case aPN => k_is)
    (case aD => k_is)
    (case aWO => k_is)
    (case aPL => k_is)
    (case aSO => k_is)
    (case aDR => k_is)
    (case aSP => k_is)
    (case aRF => k_is)
    (case aRS => k_is)
    (case aKE => k_is)
    (case aLW => k_is)
    (case lIW => k_is)
    (case cIW => k_is)
    (case kIW => k_is)
    (case lIA => k_is)
    (case cIA => k_is)
    (case kIA => k_is)
    (case lAO => k_is)
    (case cAO => k_is)
    (case kAO => k_is)
    (case lPN => k_is)
    (case cPN => k_is)
    (case kPN => k_is)
    (case lD => k_is)
    (case cD => k_is)
    (case kD => k_is)
    (case lWO => k_is)
    (case cWO => k_is)
    (case kWO => k_is)
    (case lPL => k_is)
    (case cPL => k_is)
    (case kPL => k_is)
    (case lSO => k_is)
    (case cSO => k_is)
    (case kSO => k_is)
    (case lDR => k_is)
    (case cDR => k_is)
    (case kDR => k_is)
    (case lSP => k_is)
    (case cSP => k_is)
    (case kSP => k_is)
    (case lRF => k_is)
    (case cRF => k_is)
    (case kRF => k_is)
    (case lRS => k_is)
    (case cRS => k_is)
    (case kRS => k_is)
    (case lKE => k_is)
    (case cKE => k_is)
    (case kKE => k_is)
    (case lLW => k_is)
    (case cLW => k_is)
    (case kLW => k_is)
    (case aC => k_is)
    (case aCN => k_is)
    (case aLE => k_is)
    (case aA1 => k_is)
    (case aA2 => k_is)
    (case aA3 => k_is)
    (case aA4 => k_is)
    (case aIN => k_is)
    (case iIN => k_is)
    (case aLN => k_is)
    (case iLN => k_is)
    (case aCO => k_is)
    (case iCO => k_is)
    (case aEQ => k_is)
    (case iEQ => k_is)
    (case aNA => k_is)
    (case tNA => k_is)
    (case isC => k_is)
    (case tyC => k_is)
    (case oK_x => k_is)
    (case oR_x => decide +kernel)
    (case x_sa => k_is)
    (case x_be => k_is)
    (case x_ty => k_is)
    (case x_kp => k_is)
    (case x_pl => k_is)
    (case x_ga => k_is)
    (case x_gg => k_is)
    (case x_hd => k_is)
    (case x_cl => k_is)
    (case x_ob => k_is)
    (case x_se => k_is)
    (case y_be => k_is)
    (case y_hd => k_is)
    (case y_ty => k_is)
    (case y_su => k_is)
    (case n1 => decide)
    (case ic1 => k_is)
    (case ty1 => k_is)
    (case su1 => k_is)
    (case n2 => decide)
    (case ic2 => k_is)
    (case ty2 => k_is)
    (case su2 => k_is)
    (case n3 => decide)
    (case ic3 => k_is)
    (case ty3 => k_is)
    (case su3 => k_is)
    (case n4 => decide)
    (case ic4 => k_is)
    (case ty4 => k_is)
    (case su4 => k_is)
    (case ha => k_is)
    (case hn => k_is)
    (case htk => k_is)
    (case hmo => k_is)
    (case pg => k_is)
    (case hd => k_is)
    (case po => k_is)
    (case sa => k_is)
    (case mk => k_is)
    (case kc => k_is)
    (case nR => k_is)
    (case nK => k_is)
    (case rd => k_is)
    (case ga => k_is)
    (case cm => k_is)
    (case rc => k_is)
    (case lIN => k_is)
    (case cIN => k_is)
    (case kIN => k_is)
    (case lMA => k_is)
    (case cMA => k_is)
    (case kMA => k_is)
    (case lLN => k_is)
    (case cLN => k_is)
    (case kLN => k_is)
    (case lCO => k_is)
    (case cCO => k_is)
    (case kCO => k_is)
    (case lEQ => k_is)
    (case cEQ => k_is)
    (case kEQ => k_is)
    (case lNA => k_is)
    (case cNA => k_is)
    (case kNA => k_is)
    (case fi => k_is)
    (case zL => k_is)
    (case zR => k_is)
    (case lR => k_is)
    (case vR => decide +kernel)
    (case szR => decide +kernel)
    (case b_len => k_is)
    (case b_int => k_is)
    (case b_abs => k_is)
    (case b_range => k_is)
    (case b_list => k_is)
    (case b_tuple => k_is)
    (case b_enumerate => k_is)
    (case b_isinstance => k_is)
    (case b_str => k_is)
    (case b_set => k_is)
    (case b_all => k_is)
    (case b_repr => k_is)
    (case b_sorted => k_is)
    (case b_bool => k_is)
end
