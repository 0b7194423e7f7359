import PyProof.Rows.All
import Wide.All
import OpenK.AllK
import Wide.FinOn
import HandS.Base
import HandS.Call
import HandS.List
import HandS.Strs
import HandS.SetKeys
import HandS.ForMost
import HandS.Walk
import HandS.ForExc
import HandS.ExcInit
import HandS.ExcField
import HandS.ExcIs
import HandS.IsInst
import KE.KExcIs
import HandS.ExcValue
import KE.KExcInit
import HandS.Words
import HandS.Ends
import HandS.Property
import PyProof.InstNe
import PyProof.FactsAll.range_iterator_1
import HandS.NamedTupSort
import PyProof.ReprRoads
import HandS.IterNext
import HandS.TryMany
import HandS.OwnEq
import HandS.OwnIter
import HandS.IterVal
import KE.KOwnIter
import HandS.EndTab
import KE.KNest
import HandS.Conv
import HandS.MakeKwOnly
import HandS.Lambda
import HandS.DictComp
import HandS.DictTup
import HandS.TupLen
import HandS.Iter
import KE.KDictWalk
import KE.KDictCopyH
import KE.KDictKeyed
import KE.KDictPairs
import KE.KDictItemsList
import PyProof.P3Eq
import PySem.Challenge.RW_ownmarks_k83_whole_markers_left_out
import HandS.TupLe
import HandS.Style
import HandS.Dict
import HandS.TupSets
import HandS.Deep
import HandS.Defaults
import HandS.ClsMeth
import HandS.SortKw
import KE.DatumOrd
import HandS.DeepEq
import KE.GoesMore
import KE.GoesEnum
import HandS.SetBool
import HandS.Sort
import HandS.Keys
import KE.KSortTupAny
import KE.KTupSum
import HandS.WordsDict
import HandS.Finally
import HandS.Codes
import HandS.Small
import HandS.Star
import PyProof.ReprLen
import KE.KSortKeySt
set_option Elab.async false
set_option linter.all false
set_option maxRecDepth 100000
/-! Sets made of a list or a tuple of keys of any kind, however many: what is in them and how many there are. -/
namespace Km
open PySem PySem.Spec PyProof.Rows
section
variable {K : Type} [DecidableEq K]
def addU (l : List K) (k : K) : List K := if k ∈ l then l else l ++ [k]
def uniq (ks : List K) : List K := ks.foldl addU []
theorem uniq_snoc (ks : List K) (k : K) : uniq (ks ++ [k]) = addU (uniq ks) k := by
  unfold uniq
  rw [List.foldl_append]
  rfl
theorem mem_addU {l : List K} {k j : K} : j ∈ addU l k ↔ j ∈ l ∨ j = k := by
  unfold addU
  split
  · constructor
    · exact .inl
    · rintro (h | rfl) <;> assumption
  · simp
theorem rev_ind {P : List K → Prop} (h0 : P []) (h1 : ∀ l k, P l → P (l ++ [k])) (l : List K) : P l := by
  have h : ∀ r : List K, P r.reverse := by
    intro r
    induction r with
    | nil => exact h0
    | cons a r ih =>
      rw [List.reverse_cons]
      exact h1 _ _ ih
  have := h l.reverse
  rwa [List.reverse_reverse] at this
theorem mem_uniq (ks : List K) (j : K) : j ∈ uniq ks ↔ j ∈ ks := by
  induction ks using rev_ind with
  | h0 => simp [uniq]
  | h1 l k ih => rw [uniq_snoc, mem_addU, ih, List.mem_append, List.mem_singleton]
theorem uniq_le (ks : List K) : (uniq ks).length ≤ ks.length := by
  induction ks using rev_ind with
  | h0 => exact Nat.le_refl _
  | h1 l k ih =>
    rw [uniq_snoc, List.length_append, List.length_singleton]
    unfold addU
    split
    · omega
    · rw [List.length_append, List.length_singleton]
      omega
theorem uniq_full (ks : List K) : (uniq ks).length = ks.length ↔ ks.Nodup := by
  induction ks using rev_ind with
  | h0 => simp [uniq]
  | h1 l k ih =>
    have h2 := uniq_le l
    rw [uniq_snoc, List.length_append, List.length_singleton, List.nodup_append, ← ih]
    unfold addU
    by_cases h : k ∈ uniq l
    · rw [if_pos h]
      have h' := (mem_uniq l k).mp h
      constructor
      · intro e
        omega
      · rintro ⟨_, _, z⟩
        exact absurd rfl (z k h' k (List.mem_singleton.mpr rfl))
    · rw [if_neg h, List.length_append, List.length_singleton]
      have h' : k ∉ l := fun z => h ((mem_uniq l k).mpr z)
      constructor
      · intro e
        refine ⟨by omega, by simp, fun a ha b hb z => ?_⟩
        rw [List.mem_singleton.mp hb] at z
        exact h' (z ▸ ha)
      · rintro ⟨z, _⟩
        omega
theorem addU_len (l : List K) (k : K) : (addU l k).length = if decide (k ∈ l) = true then l.length else l.length + 1 := by
  unfold addU
  by_cases h : k ∈ l
  · rw [if_pos h, if_pos (decide_eq_true h)]
  · rw [if_neg h, if_neg (by simpa using h), List.length_append, List.length_singleton]
end
section
variable {prog : Program} {w : World} {K : Type} [DecidableEq K] {knd : KeyKind prog w K}
theorem setOf_eq {h : Heap} {a : Addr} {S T : K → Bool} {n m : Nat} (z : h.SetOf knd a S n) (e1 : ∀ k, S k = T k) (e2 : n = m) : h.SetOf knd a T m := by
  rw [← funext e1, ← e2]
  exact z
variable {A : Around} {R : Result → Shared → Prop} {I S : Addr} {fp wr : List Addr} {G : Array GenState → Array GenState → Prop} {n : Nat} {P : Nat → Value → Prop} {St : Nat → Shared → Prop}
def inU (ks : List K) (i : Nat) : K → Bool := fun k => decide (k ∈ uniq (ks.take i))
theorem inU_next {ks : List K} {i : Nat} {k : K} (hk : ks[i]? = some k) (j : K) : (inU ks i j || decide (j = k)) = inU ks (i + 1) j := by
  unfold inU
  rw [List.take_add_one, hk]
  show _ = decide (j ∈ uniq (ks.take i ++ [k]))
  rw [uniq_snoc, ← Bool.decide_or]
  exact decide_eq_decide.mpr mem_addU.symm
theorem cnt_next {ks : List K} {i : Nat} {k : K} (hk : ks[i]? = some k) : (if inU ks i k = true then (uniq (ks.take i)).length else (uniq (ks.take i)).length + 1) = (uniq (ks.take (i + 1))).length := by
  rw [List.take_add_one, hk]
  show _ = (uniq (ks.take i ++ [k])).length
  rw [uniq_snoc, addU_len]
  rfl
/-- the filling of a fresh set, from turn i on -/
theorem fill (W : WalksS prog w A.in1 I fp wr G n P St) (hS : S ∉ fp) (ks : List K) (hn : ks.length = n) (hroom : n + 1 < scanBound)
    (hval : ∀ i v, P i v → ∃ k, ks[i]? = some k ∧ knd.is k v = true ∧ v.scannable = true) :
    ∀ (left i : Nat) (s : Shared), left = n - i → i ≤ n → St i s → s.heap.SetOf knd S (inU ks i) (uniq (ks.take i)).length →
      (∀ s2, Moved (S :: wr) G s s2 → s2.heap.SetOf knd S (inU ks n) (uniq (ks.take n)).length → R (.ok (.ret .none)) s2) →
      codeAny (model prog w) A (.builtin "set.update.loop" ⟨[.ref S, .ref I], []⟩) R s
  | 0, i, s, hl, hi, st, z, hR => by
    have e : i = n := by omega
    rw [e] at st z
    refine codeAny_builtin PyProof.Rows.F.entry_set_update_loop ?_
    rw [Around.under_plainId PyProof.Rows.F.plain_set_update_loop _]
    refine wpAny_bind (W.done s _ _ st fun s2 mv => ?_)
    have hw : S ∉ wr := fun q => hS (W.sub _ q)
    refine wpAny_pure (hR s2 (mv.mono fun b hb => List.mem_cons_of_mem _ hb) ?_)
    obtain ⟨o, es, ep, t, ho, r⟩ := z
    exact ⟨o, es, ep, t, mv.heap S _ hw ho, r⟩
  | left + 1, i, s, hl, hi, st, z, hR => by
    have lt : i < n := by omega
    have hw : S ∉ wr := fun q => hS (W.sub _ q)
    refine codeAny_builtin PyProof.Rows.F.entry_set_update_loop ?_
    rw [Around.under_plainId PyProof.Rows.F.plain_set_update_loop _]
    refine wpAny_bind (W.item i s _ _ lt st fun v s1 hv st1 mv => ?_)
    obtain ⟨k, hk, his, hsc⟩ := hval i v hv
    have z1 : s1.heap.SetOf knd S (inU ks i) (uniq (ks.take i)).length := by
      obtain ⟨o, es, ep, t, ho, r⟩ := z
      exact ⟨o, es, ep, t, mv.heap S _ hw ho, r⟩
    refine wpAny_bind (wpAny_holding ?_)
    unfold setAdd
    refine wpAny_holding (wpAny_bind (knd.pyHash his ?_))
    have room : (uniq (ks.take i)).length + 1 < scanBound := by
      have h1 := uniq_le (ks.take i)
      have h2 : (ks.take i).length ≤ i := by
        rw [List.length_take]
        omega
      omega
    refine wpAny_setAddHashed_of (s := { s1 with toks := s1.toks + 1 }) his hsc z1 room fun h2 sb z2 => ?_
    have z3 : h2.SetOf knd S (inU ks (i + 1)) (uniq (ks.take (i + 1))).length := setOf_eq z2 (inU_next hk) (cnt_next hk)
    refine wpAny_pure ⟨plainId_quiet PyProof.Rows.F.plain_set_update_loop _, fill W hS ks hn hroom hval left (i + 1) _ (by omega) lt (W.frame _ s1 _ _ st1 (Nat.le_succ _) fun b hb o e => ?_) z3 fun s3 mv3 z4 => ?_⟩
    · have nb : b ≠ S := fun q => hS (q ▸ hb)
      rw [sb.2 b nb]
      exact e
    · refine hR s3 (Moved.trans W.gtrans ((mv.mono fun b hb => List.mem_cons_of_mem _ hb).then_heap (Nat.le_succ _) fun b o hb e => ?_) mv3) z4
      have nb : b ≠ S := fun q => hb (q ▸ List.mem_cons_self)
      rw [sb.2 b nb]
      exact e
end
end Km
namespace Km
open PySem PySem.Spec PyProof.Rows
section
variable {prog : Program} {w : World} {A : Around} {E : Value → Shared → Prop} {s : Shared} {K : Type} [DecidableEq K] {knd : KeyKind prog w K}
def fresh (led : Bool) : Obj := { cls := .type "set", dict := none, data := .set #[] 0 (.fresh 0 0 led) }
/-- what __init__ is to leave: all of keys in the set at D, what stood before stands -/
def Left (knd : KeyKind prog w K) (s : Shared) (ks : List K) (s2 : Shared) : Prop :=
  ∃ h2 tk, s2 = { s with heap := h2, toks := tk } ∧ h2.SetOf knd s.heap.objs.size (inU ks ks.length) (uniq ks).length ∧ ∀ b o, s.heap.get? b = some o → h2.get? b = some o
/-- set(x), given what its __init__ does with the fresh set -/
theorem set_of_init {x : Value} {ks : List K} {Q : Value → Shared → Prop}
    (hinit : ∀ (led : Bool) (B : Around), (A.handled = none → B.handled = none) → wpAny (model prog w) B (Builtin.«set.__init__» ⟨[.ref s.heap.objs.size, x], []⟩)
      (fun r s2 => r = .done (.ret .none) ∧ Left knd s ks s2) E { s with heap := s.heap.push (fresh led) })
    (h : ∀ s2, Left knd s ks s2 → Q (.ref s.heap.objs.size) s2) : wpAny (model prog w) A (call (.type "set") [x]) Q E s := by
  obtain ⟨c, tl, hmro⟩ := PySem.F.called_set.mro
  have a1 := PySem.F.called_set.made
  have a2 := PySem.F.called_set.sub
  refine wpAny_call (codeAny_of_tree ?_)
  refine wpAny_pure ⟨Code.quiet_builtin _ (by decide +kernel), codeAny_builtin PySem.F.entry_type_call ?_⟩
  rw [Around.under_plain (weight_type_call_type "set" [x] []) rfl]
  have a3 := PySem.F.called_set.notType
  have a4 := PySem.F.called_set.canCreate
  have a5 := PySem.F.typeCall_set_1 x
  repeat (any_goals (first | assumption | wp_step))
  refine codeAny_mono (code_set_new_1 x (E := E) (Q₁ := fun o s1 => ∃ led : Bool, o = .ref s.heap.objs.size ∧ s1 = { s with heap := s.heap.push (fresh led) }) fun led => ⟨led, rfl, rfl⟩) fun r s1 hr => ?_
  cases r with
  | error e => exact hr
  | ok fl =>
    cases fl with
    | ret o =>
      obtain ⟨led, rfl, rfl⟩ := hr
      have at1 : (s.heap.push (fresh led)).get? s.heap.objs.size = some (fresh led) := Heap.get?_push_size _ rfl
      have ty1 : Shared.TypeIs { s with heap := s.heap.push (fresh led) } (.ref s.heap.objs.size) "set" := ⟨_, at1, rfl⟩
      have a6 := PySem.F.called_set.init.lookup
      have a7 := PySem.F.called_set.init.bind (.ref s.heap.objs.size)
      repeat (any_goals (first | assumption | wp_step))
      refine codeAny_mono (codeAny_call_builtin (R := wants (fun r s2 => r = .none ∧ Left knd s ks s2) E) PySem.F.called_set.init.plain PySem.F.entry_set_init (check_set_init_1 ty1 ?_)) fun r2 s2 hr2 => ?_
      · refine wpAny_mono (hinit led _ fun q => ?_) (fun r s2 z => ?_) (fun _ _ z => z)
        · simp [q]
        · obtain ⟨rfl, z⟩ := z
          exact ⟨rfl, z⟩
      · cases r2 with
        | error e => exact hr2
        | ok f2 =>
          cases f2 with
          | ret r =>
            obtain ⟨rfl, z⟩ := hr2
            repeat (any_goals (first | assumption | wp_step))
            exact h _ z
          | _ => exact hr2.elim
    | _ => exact hr.elim
/-- set.__init__ over a list -/
theorem init_list {l : Addr} {items : Array Value} {ks : List K} (led : Bool) (hh : A.handled = none) (hl : s.heap.IsList l items) (hn : ks.length = items.size) (hroom : items.size + 1 < scanBound)
    (hval : ∀ (i : Nat) (v : Value), items[i]? = some v → ∃ k, ks[i]? = some k ∧ knd.is k v = true ∧ v.scannable = true) :
    wpAny (model prog w) A (Builtin.«set.__init__» ⟨[.ref s.heap.objs.size, .ref l], []⟩) (fun r s2 => r = .done (.ret .none) ∧ Left knd s ks s2) E { s with heap := s.heap.push (fresh led) } := by
  have at1 : (s.heap.push (fresh led)).get? s.heap.objs.size = some (fresh led) := Heap.get?_push_size _ rfl
  have ty1 : Shared.TypeIs { s with heap := s.heap.push (fresh led) } (.ref s.heap.objs.size) "set" := ⟨_, at1, rfl⟩
  obtain ⟨⟨oc, odict, od, osl⟩, ho, hc, nl, hd⟩ := hl
  simp only at hc hd
  subst hc hd
  have ho1 : (s.heap.push (fresh led)).get? l = some { cls := .type "list", dict := odict, data := .seq items nl, slots := osl } := Heap.get?_push_of_some _ ho
  have b1 := PySem.F.sub_list_set
  have b2 := PySem.F.sub_list_frozenset
  have b3 : (Value.type "list" == Value.type "dict") = false := by decide
  have hl1 : (s.heap.push (fresh led)).IsList l items := ⟨_, ho1, rfl, nl, rfl⟩
  unfold Builtin.«set.__init__» noKeywords Builtin.Frozenset.updateFrom
  generalize hPI : pyIter = PI
  wp_walk
  subst hPI
  refine wpAny_pyIter_list hl1 ?_
  refine wpAny_bind (wpAny_runValue ?_)
  have lS : l < s.heap.objs.size := Heap.lt_size ho
  have h1 : A.in1.handled = none := by simp [hh]
  have sz : (s.heap.push (fresh led)).objs.size = s.heap.objs.size + 1 := Heap.size_push ..
  have nI : l ≠ (s.heap.push (fresh led)).objs.size := by
    rw [sz]
    exact Nat.ne_of_lt (Nat.lt_succ_of_lt lS)
  have nf : s.heap.objs.size ∉ [(s.heap.push (fresh led)).objs.size, l] := by
    rw [sz]
    intro q
    rcases List.mem_cons.mp q with q | q
    · exact absurd q (Nat.ne_of_lt (Nat.lt_succ_self _))
    · exact absurd (List.mem_singleton.mp q) (Nat.ne_of_gt lS)
  refine fill (knd := knd) ((Walks.list h1 _ l nI items).toS) nf ks hn hroom hval (items.size - 0) 0 _ rfl (Nat.zero_le _) ⟨⟨_, Heap.get?_push_size _ rfl, rfl, rfl⟩, hl1.push _⟩ ?_ ?_
  · have at2 : ((s.heap.push (fresh led)).push { cls := .type "list_iterator", data := .fields #[.ref l, .int 0 0] }).get? s.heap.objs.size = some (fresh led) := Heap.get?_push_of_some _ at1
    exact setOf_eq ((PyProof.Rows.setObjOf_fresh (knd := knd) led).setOf at2 (by unfold scanBound; omega)) (fun _ => by simp [inU, uniq]) (by simp [uniq])
  · intro s2 mv z
    obtain ⟨h2, g2, d2, t2, o2⟩ := s2
    obtain rfl : g2 = s.gens := mv.gens
    obtain rfl : d2 = s.drawn := mv.drawn
    obtain rfl : o2 = s.os := mv.os
    refine wpAny_pure (wpAny_pure ⟨rfl, h2, t2, rfl, ?_, fun b o e => ?_⟩)
    · rw [← hn, List.take_length] at z
      exact z
    · have bS : b < s.heap.objs.size := Heap.lt_size e
      refine mv.heap b o (fun q => ?_) (Heap.get?_push_of_some _ (Heap.get?_push_of_some _ e))
      rcases List.mem_cons.mp q with q | q
      · exact absurd q (Nat.ne_of_lt bS)
      · have q' := List.mem_singleton.mp q
        rw [sz] at q'
        exact absurd q' (Nat.ne_of_lt (Nat.lt_succ_of_lt bS))
/-- set.__init__ over a tuple -/
theorem init_tuple {l : Addr} {items : Array Value} {ks : List K} (led : Bool) (hh : A.handled = none) (hl : s.heap.IsTuple l items) (hn : ks.length = items.size) (hroom : items.size + 1 < scanBound)
    (hval : ∀ (i : Nat) (v : Value), items[i]? = some v → ∃ k, ks[i]? = some k ∧ knd.is k v = true ∧ v.scannable = true) :
    wpAny (model prog w) A (Builtin.«set.__init__» ⟨[.ref s.heap.objs.size, .ref l], []⟩) (fun r s2 => r = .done (.ret .none) ∧ Left knd s ks s2) E { s with heap := s.heap.push (fresh led) } := by
  have at1 : (s.heap.push (fresh led)).get? s.heap.objs.size = some (fresh led) := Heap.get?_push_size _ rfl
  have ty1 : Shared.TypeIs { s with heap := s.heap.push (fresh led) } (.ref s.heap.objs.size) "set" := ⟨_, at1, rfl⟩
  obtain ⟨⟨oc, odict, od, osl⟩, ho, hc, nl, hd⟩ := hl
  simp only at hc hd
  subst hc hd
  have ho1 : (s.heap.push (fresh led)).get? l = some { cls := .type "tuple", dict := odict, data := .seq items nl, slots := osl } := Heap.get?_push_of_some _ ho
  have b1 := PySem.F.sub_tuple_set
  have b2 := PySem.F.sub_tuple_frozenset
  have b3 : (Value.type "tuple" == Value.type "dict") = false := by decide
  have hl1 : (s.heap.push (fresh led)).IsTuple l items := ⟨_, ho1, rfl, nl, rfl⟩
  unfold Builtin.«set.__init__» noKeywords Builtin.Frozenset.updateFrom
  generalize hPI : pyIter = PI
  wp_walk
  subst hPI
  refine wpAny_pyIter_tuple hl1 ?_
  refine wpAny_bind (wpAny_runValue ?_)
  have lS : l < s.heap.objs.size := Heap.lt_size ho
  have h1 : A.in1.handled = none := by simp [hh]
  have sz : (s.heap.push (fresh led)).objs.size = s.heap.objs.size + 1 := Heap.size_push ..
  have nI : l ≠ (s.heap.push (fresh led)).objs.size := by
    rw [sz]
    exact Nat.ne_of_lt (Nat.lt_succ_of_lt lS)
  have nf : s.heap.objs.size ∉ [(s.heap.push (fresh led)).objs.size, l] := by
    rw [sz]
    intro q
    rcases List.mem_cons.mp q with q | q
    · exact absurd q (Nat.ne_of_lt (Nat.lt_succ_self _))
    · exact absurd (List.mem_singleton.mp q) (Nat.ne_of_gt lS)
  refine fill (knd := knd) ((Walks.tuple h1 _ l nI items).toS) nf ks hn hroom hval (items.size - 0) 0 _ rfl (Nat.zero_le _) ⟨⟨_, Heap.get?_push_size _ rfl, rfl, rfl⟩, hl1.push _⟩ ?_ ?_
  · have at2 : ((s.heap.push (fresh led)).push { cls := .type "tuple_iterator", data := .fields #[.ref l, .int 0 0] }).get? s.heap.objs.size = some (fresh led) := Heap.get?_push_of_some _ at1
    exact setOf_eq ((PyProof.Rows.setObjOf_fresh (knd := knd) led).setOf at2 (by unfold scanBound; omega)) (fun _ => by simp [inU, uniq]) (by simp [uniq])
  · intro s2 mv z
    obtain ⟨h2, g2, d2, t2, o2⟩ := s2
    obtain rfl : g2 = s.gens := mv.gens
    obtain rfl : d2 = s.drawn := mv.drawn
    obtain rfl : o2 = s.os := mv.os
    refine wpAny_pure (wpAny_pure ⟨rfl, h2, t2, rfl, ?_, fun b o e => ?_⟩)
    · rw [← hn, List.take_length] at z
      exact z
    · have bS : b < s.heap.objs.size := Heap.lt_size e
      refine mv.heap b o (fun q => ?_) (Heap.get?_push_of_some _ (Heap.get?_push_of_some _ e))
      rcases List.mem_cons.mp q with q | q
      · exact absurd q (Nat.ne_of_lt bS)
      · have q' := List.mem_singleton.mp q
        rw [sz] at q'
        exact absurd q' (Nat.ne_of_lt (Nat.lt_succ_of_lt bS))
end
end Km

set_option Elab.async false
set_option linter.all false
set_option maxRecDepth 100000
set_option maxHeartbeats 2000000
namespace L2
open PySem PySem.Spec PyProof.Rows
/-- set(x), x a list or a tuple of ints and texts -/
def rSetK (P : Program) (w : World) (K : PySem.W.Frag) : List V → Hp → VK → Prop := fun xs H Q => ∃ (l : Addr) (ks : List Key), xs = [.ref l] ∧ (SqL K H l (ks.map kV) ∨ SqT K H l (ks.map kV)) ∧ ks.length ≤ 1000 ∧
  ∀ p, H p = none → Q (.ref p) (upd H p (SetK P w p (Km.inU ks ks.length) (Km.uniq ks).length))
section
variable {X : Cx}
theorem km_keys_at {P : Program} {w : World} {ks : List Key} {its : List Value} (r : Vals (ks.map kV) its) (i : Nat) (v : Value) (h : its.toArray[i]? = some v) : ∃ k, ks[i]? = some k ∧ (mixKind P w).is k v = true ∧ v.scannable = true := by
  have h2 : its[i]? = some v := by simpa using h
  have hl : i < ks.length := by
    have e := r.length
    rw [List.length_map] at e
    rw [e]
    exact (List.getElem?_eq_some_iff.mp h2).1
  obtain ⟨u, hu, ru⟩ := r.get (i := i) (x := kV ks[i]) (by simp [hl])
  rw [h2] at hu
  cases hu
  exact ⟨ks[i], List.getElem?_eq_getElem hl, kV_is ru, key_scan ru⟩
theorem cr_setK (hc : X.calm = true) : CallR X (.type "set") (rSetK X.prog X.w X.K) := by
  intro pins s σ H xs us Q I r h
  obtain ⟨l, ks, rfl, hq, hroom, q⟩ := h
  rw [Vals.ref1 r]
  have hd := I.ok.hd hc
  have fin : ∀ s2, Km.Left (mixKind X.prog X.w) s ks s2 → EP X pins σ Q (.ref s.heap.objs.size) s2 := fun s2 ⟨h2, tk, e, z, k⟩ => by
    subst e
    exact ⟨.ref _, _, I.laid (t' := tk) k (Nat.le_refl _) (setK_new z), rfl, q _ (I.hok.fresh (Nat.le_refl _))⟩
  rcases hq with hq | hq
  · obtain ⟨its, rr, pl, hz⟩ := I.list hq
    have hn : ks.length = its.toArray.size := by rw [List.size_toArray, ← rr.length, List.length_map]
    exact Km.set_of_init (knd := mixKind X.prog X.w) (ks := ks) (fun led B hB => Km.init_list led (hB hd) pl.isList hn (by unfold scanBound; omega) (km_keys_at rr)) fin
  · obtain ⟨its, rr, pl, hz⟩ := I.tuple hq
    have hn : ks.length = its.toArray.size := by rw [List.size_toArray, ← rr.length, List.length_map]
    exact Km.set_of_init (knd := mixKind X.prog X.w) (ks := ks) (fun led B hB => Km.init_tuple led (hB hd) pl hn (by unfold scanBound; omega) (km_keys_at rr)) fin
/-- len(S) -/
def rLenK (P : Program) (w : World) : List V → Hp → VK → Prop := fun xs H Q => ∃ (a : Addr) (S : Key → Bool) (n : Nat), xs = [.ref a] ∧ H a = some (SetK P w a S n) ∧ n ≤ 1000 ∧ Q (.int n) H
theorem cr_lenK : CallR X (.builtin "len") (rLenK X.prog X.w) := by
  intro pins s σ H xs us Q I r h
  obtain ⟨a, S, n, rfl, ha, hn, q⟩ := h
  rw [Vals.ref1 r]
  obtain ⟨o, es, ep, t, ho, hex, hd, _, _, _, hf, hz⟩ := setK_get I ha
  refine call_len_set ho hex hd hf (by rw [hz]; omega) ⟨.int n, H, I.tok _, ⟨_, by rw [hz]⟩, q⟩
end
end L2
namespace L2
open PySem PySem.Spec PyProof.Rows
theorem same_new {H : Hp} {p : Addr} {o : HO} (h : H p = none) : Same H (upd H p o) := fun b x e => by
  rw [upd_ne (ne_of_none e h)]
  exact e
/-- a new object: from then on the heap is a letter -/
theorem newH {H : Hp} {p : Addr} {o : HO} (n : H p = none) {P : Hp → Prop} (h : ∀ H2, Same H H2 → H2 p = some o → P H2) : P (upd H p o) := h _ (same_new n) upd_same
section
variable {J : It} {n : Nat} {G : Hp → Prop}
/-- a comprehension without a test whose element keeps what was tracked -/
theorem lc_map {xs ys : List V} (w : Walk J n G (YAt xs)) (hy : ys.length = n) (hsz : n < sizeLine) {slot : Nat} {te : TE} {vs : List Nat} {σ : St} {H1 : Hp} {D : Addr} {Qd : Hp → Prop} (hD : H1 D = none)
    (hG : ∀ H, Same H1 H → G H) (hw : ∀ x, wipe ((wipe σ vs).set slot (some x)) vs = wipe σ vs)
    (hs : ∀ (i : Nat) (x y : V) (H : Hp) (Q : VK), xs[i]? = some x → ys[i]? = some y → Same H1 H → (∀ H4, Same H H4 → Q y H4) → te ((wipe σ vs).set slot (some x)) H Q)
    (hd : ∀ H, Same H1 H → H D = some (.lst ys) → Qd H) :
    ∃ W : Nat → Nat → Hp → Prop, (∃ m, W 0 m (upd H1 D (.lst []))) ∧ ∀ i m H, W i m H →
      (J.stop i H ∧ Qd H) ∨ (J.go i H ∧ ∃ Nx : Hp → Prop, (∀ H', Nx H' → ∃ m', m' < m ∧ W (i + 1) m' H') ∧ ∀ x H', J.yld i H x H' → gName slot x (wipe σ vs) H' fun σ2 H2 => wipe σ2 vs = wipe σ vs ∧ tYes σ2 H2 fun b H3 =>
        if b = true then te σ2 H3 fun y H4 => ∃ acc, H4 D = some (.lst acc) ∧ acc.length < sizeLine ∧ Nx (upd H4 D (.lst (acc ++ [y]))) else Nx H3) := by
  refine lc_it w (fun i H => Same H1 H ∧ H D = some (.lst (ys.take i))) ⟨same_new hD, upd_same⟩ (fun i H _ h => hG H h.1) (fun i x H H' hi h y => ?_) (fun H h => hd H h.1 (by rw [h.2, ← hy, List.take_length]))
  obtain ⟨s1, hl⟩ := h
  obtain ⟨rfl, hx⟩ := y
  have hyi : ys[i]? = some (ys[i]'(by omega)) := List.getElem?_eq_getElem (by omega)
  refine ⟨hw x, ?_⟩
  unfold tYes
  dsimp only
  rw [if_pos rfl]
  refine hs i x _ H' _ hx hyi s1 fun H4 s4 => ⟨ys.take i, s4 _ _ hl, ?_, ?_, ?_⟩
  · rw [List.length_take]
    omega
  · intro b o e
    rw [upd_ne (ne_of_none e hD)]
    exact s4 _ _ (s1 _ _ e)
  · rw [upd_same, List.take_add_one, hyi]
    rfl
end
section
variable {X : Cx} {CX : CXT} {k : Nat} {f C : Addr} {fd : FuncData} {ps : List Str} {sp : Sp} {E : St → XK} {x : Str} {p pos : Pos} {e : Expr} {es : List Expr} {t : TA}
/-- C(e, ..) where what its __init__ raises is wished for at the caller's slots -/
def tMakeS (C : Addr) (sp : Sp) (E : St → XK) (t : TA) : TE := fun σ H Q => t σ H fun vs H1 => ∀ x dx, H1 x = none → H1 dx = none → dx ≠ x → sp (.ref x :: vs) (upd (upd H1 dx (.own x)) x (.ins C dx [])) (fun v H2 => v = .non ∧ Q (.ref x) H2) (E σ)
theorem pe_makeS (M : Mk X.K C f) (F : FnOk X.prog X.w X.K X.mg X.base CX k f fd ps sp) (hr : Room (k + 1) X.A) (hg : Gl X x) (hm : X.mg x = some (.ref C)) (hb : Binds X.K fd ps []) (hx : ∀ σ, PassesAt CX X σ (E σ))
    (ha : PA X (e :: es) t) (hdb : (x == ("__debug__" : Str)) = false := by decide) (he : starEach (e :: es) X.env = (false, eval e X.env) :: starEach es X.env := by rfl) (hpl : (backTo pos (starEach es X.env)).any (·.1) = false := by rfl) :
    PE X (.Call (.Name x p) (e :: es) [] pos) (tMakeS C sp E t) := by
  constructor
  intro pins s σ H Q I h
  refine wpAny_Call_Name_kw (ld_glob I hg hm ?_ hdb)
  refine PySem.W.callWith_K (h₀ := X.base) I.ok.mod.kin M.kp (thn (ha.run pos pins s σ H _ I h) fun us s1 q0 => ?_) he hpl
  obtain ⟨vs, H1, I1, r, q⟩ := q0
  refine ⟨I1.kIn, ?_⟩
  have q1 := q (s1.heap.objs.size + 1) s1.heap.objs.size (I1.hok.fresh (Nat.le_succ _)) (I1.hok.fresh (Nat.le_refl _)) (Nat.ne_of_lt (Nat.lt_succ_self _))
  have I2 := Inv.made (C := C) I1
  have r2 : Vals (V.ref (s1.heap.objs.size + 1) :: vs) (Value.ref (s1.heap.objs.size + 1) :: us) := .cons rfl r
  have hl : (Value.ref (s1.heap.objs.size + 1) :: us).length = ps.length := by
    rw [← r2.length]
    exact F.len _ _ _ _ q1
  have b := hb _ (Value.ref (s1.heap.objs.size + 1) :: us) I2.kIn (by rw [List.append_nil]; exact hl)
  rw [List.append_nil] at b
  refine wpAny_call (make_map (f := f) I1.kIn M.makes M.init (beq_iff_eq.mp M.fn) (codeAny_mono (F.run _ X.stack _ _ ⟨_ :: us, []⟩ _ _ _ (E σ) (hr.make C us []) (I2.env0.make C us []) b r2 q1) fun z s2 hz => ?_))
  cases z with
  | error err => exact hx σ pins _ _ err s2 I2 hz
  | ok fl =>
    cases fl with
    | ret u =>
      obtain ⟨v, H3, I3, rv, ev, q3⟩ := I2.after hz
      subst ev
      exact ⟨rv, V.ref _, H3, I3, rfl, q3⟩
    | next => exact False.elim hz
    | brk => exact False.elim hz
    | cont => exact False.elim hz
end
/-- isinstance(e, c), e the exception that the suite holds, with its own dict or without -/
def rIsX (K : PySem.W.Frag) (D a : Addr) (cls : Value) (d : Option Addr) : List V → Hp → VK → Prop := fun xs H Q => ∃ (c : V) (cv : Value) (b : Bool), xs = [.ref a, c] ∧ (∀ u, RelV c u → u = cv) ∧ cls = .ref D ∧ (∀ dx, d = some dx → ∃ fs, H dx = some (.xd fs)) ∧ PySem.W.kitOne K (.ref D) cv = some b ∧ Q (.bl b) H
theorem call_isX {X : Cx} {a D : Addr} {oe : Obj} {cls : Value} {d : Option Addr} {pn : List (Addr × Obj)} (C : ExcC X.K D) (hz : Zc cls d oe) (hf : ∃ vs, oe.data = .fields vs) :
    CallR (X.suite a ((a, oe) :: pn)) (.builtin "isinstance") (rIsX X.K D a cls d) := by
  intro pins s σ H xs us Q I r h
  obtain ⟨c, cv, b, rfl, hcv, ecl, hd, e, q⟩ := h
  obtain ⟨u1, u2, rfl, r1, r2⟩ := vals2 r
  cases r1
  obtain rfl := hcv _ r2
  obtain ⟨hget, _⟩ := I.pin (a, oe) (List.mem_append.mpr (.inl List.mem_cons_self))
  obtain ⟨vs, hv⟩ := hf
  obtain ⟨h1, h2⟩ := hz
  have hcl : (PySem.W.clsIn X.K D).isSome = true := by
    obtain ⟨cd, hc, _⟩ := PySem.W.any_some C.hd
    rw [hc] <;> rfl
  have nc : PySem.W.notCls oe = true := by
    unfold PySem.W.notCls
    rw [hv] <;> rfl
  rw [ecl] at h1
  have J : ∃ od, PySem.W.InstAt s.heap a oe D od := by
    cases d with
    | none => exact ⟨none, hget, h1, nc, by rw [h2]; trivial⟩
    | some dx =>
      obtain ⟨fs, hx⟩ := hd dx rfl
      have z : ObjOk X.prog X.w H s.heap dx (.xd fs) := I.hok dx _ hx
      obtain ⟨mA, hns, _⟩ := z
      obtain ⟨od, ho, _⟩ := lookIn_ns hns
      exact ⟨some od, hget, h1, nc, by rw [h2]; exact ho⟩
  obtain ⟨od, J⟩ := J
  exact PySem.W.kia_one (PySem.W.kitx_exc hcl C.hg C.hk C.hs C.ha C.hn C.ht C.hm) I.kIn J e (fun z => nomatch z) fun tk => ⟨.bl b, H, I.kept (t' := tk) fun _ _ z => z, rfl, q⟩
end L2
namespace L2
open PySem PySem.Spec PyProof.Rows
section
variable {X : Cx} {e : Expr} {t : TE} {st : Stmt} {u : TS}
/-- an expression by a contract: ways meet -/
def tCut (P : St → Hp → V → Hp → Prop) (t : TE) : TE := fun σ H Q => t σ H (P σ H) ∧ ∀ v H', P σ H v H' → Q v H'
theorem pe_cut (P : St → Hp → V → Hp → Prop) (h : PE X e t) : PE X e (tCut P t) := ⟨fun pins s σ H Q I z => thn (h.run pins s σ H _ I z.1) fun _ _ q => by
  obtain ⟨x, H1, I1, r, p⟩ := q
  exact ⟨x, H1, I1, r, z.2 x H1 p⟩⟩
end
/-! the pool of the laws: two numbers -/
def Pool (H : Hp) (a : Addr) : Prop := ∃ g q : Int, H a = some (.lst [.int g, .int q]) ∧ 0 ≤ g ∧ 0 ≤ q ∧ q < 2147483647
/-- all but what stands at a is as it was -/
def But (a : Addr) (H H' : Hp) : Prop := ∀ b o, b ≠ a → H b = some o → H' b = some o
theorem But.of_same {a : Addr} {H H' : Hp} (s : Same H H') : But a H H' := fun b o _ e => s b o e
theorem But.upd {a : Addr} {H : Hp} {o : HO} : But a H (upd H a o) := fun b _ n e => by
  rw [upd_ne n]
  exact e
theorem But.trans {a : Addr} {H H1 H2 : Hp} (x : But a H H1) (y : But a H1 H2) : But a H H2 := fun b o n e => y b o n (x b o n e)
theorem But.same {a : Addr} {H H1 : Hp} (x : But a H H1) (n : H a = none) : Same H H1 := fun b o e => x b o (ne_of_none e n) e
theorem perm_pop {α : Type} : ∀ {l : List α} {k : Nat} {y : α}, l[k]? = some y → (y :: l.eraseIdx k).Perm l
  | [], _, _, h => by simp at h
  | a :: l, 0, y, h => by
    have e : a = y := Option.some.inj h
    rw [e]
    exact .refl _
  | a :: l, k + 1, y, h => (List.Perm.swap a y _).trans ((perm_pop (l := l) h).cons a)
theorem eraseIdx_map {α β : Type} (f : α → β) : ∀ (l : List α) (k : Nat), (l.map f).eraseIdx k = (l.eraseIdx k).map f
  | [], _ => rfl
  | _ :: _, 0 => rfl
  | a :: l, k + 1 => congrArg (f a :: ·) (eraseIdx_map f l k)
def names8 : List Str := ["ann", "bo", "cy", "dee", "eve", "fay", "gus", "z"]
theorem names8_nd : names8.Nodup := by decide +kernel
def spOpened (K : PySem.W.Frag) : Sp := fun vs H Q _ => ∃ (a : Addr) (ns : List Int) (k : Nat), vs = [.ref a, .int k] ∧ SqL K H a (ns.map V.int) ∧ k ≤ 62 ∧
  ∀ H' p, Same H H' → H p = none → Pool H' p → Q (.ref p) H'
def spDraw : Sp := fun vs H Q _ => ∃ (a : Addr) (m : Int), vs = [.ref a, .int m] ∧ Pool H a ∧ 1 ≤ m ∧ m ≤ 1000 ∧ ∀ (r : Int) H', 0 ≤ r → r < m → Pool H' a → But a H H' → Q (.int r) H'
def spPeople : Sp := fun vs H Q _ => ∃ (a : Addr) (m : Nat), vs = [.ref a, .int m] ∧ Pool H a ∧ m ≤ 8 ∧
  ∀ H' p (xs : List Str), Pool H' a → But a H H' → H p = none → H' p = some (.lst (xs.map V.str)) → xs.length = m → xs.Nodup → (∀ x ∈ xs, x ∈ names8) → Q (.ref p) H'
end L2
namespace L2
open PySem PySem.Spec PyProof.Rows
/-! types of any values -/
def knownT : List String := ["NoneType", "bool", "int", "str", "list", "tuple", "dict"]
def TyN (K : PySem.W.Frag) (H : Hp) (v : V) (T : String) : Prop := TyX K H v (.type T) ∧ T ∈ knownT
section
variable {K : PySem.W.Frag} {H H' : Hp} {v : V} {T : String}
theorem TyX.same {t : Value} (s : Same H H') (h : TyX K H v t) : TyX K H' v t := by
  cases h with
  | base b =>
    refine .base ?_
    cases b with
    | non => exact .non
    | bl x => exact .bl x
    | int i => exact .int i
    | str x => exact .str x
    | flt x => exact .flt x
    | lst e => exact .lst (s _ _ e)
    | frz e => exact .frz (s _ _ e)
    | tup e => exact .tup (s _ _ e)
    | dK e => exact .dK (s _ _ e)
    | dT e => exact .dT (s _ _ e)
    | ins e cl ha hn htk hm => exact .ins (s _ _ e) cl ha hn htk hm
  | byt b => exact .byt b
  | set e => exact .set (s _ _ e)
  | kList e c => exact .kList e c
  | kTuple e c => exact .kTuple e c
  | kDict e c => exact .kDict e c
  | fTuple e => exact .fTuple (s _ _ e)
  | fDict e => exact .fDict (s _ _ e)
theorem TyN.same (s : Same H H') (h : TyN K H v T) : TyN K H' v T := ⟨TyX.same s h.1, h.2⟩
theorem kit_str (h : T ∈ knownT) : kitB T "str" = some (decide (T = "str")) := by
  simp only [knownT, List.mem_cons, List.not_mem_nil, or_false] at h
  rcases h with rfl | rfl | rfl | rfl | rfl | rfl | rfl <;> decide +kernel
theorem kit_bool (h : T ∈ knownT) : kitB T "bool" = some (decide (T = "bool")) := by
  simp only [knownT, List.mem_cons, List.not_mem_nil, or_false] at h
  rcases h with rfl | rfl | rfl | rfl | rfl | rfl | rfl <;> decide +kernel
theorem kit_int (h : T ∈ knownT) : kitB T "int" = some (decide (T = "int") || decide (T = "bool")) := by
  simp only [knownT, List.mem_cons, List.not_mem_nil, or_false] at h
  rcases h with rfl | rfl | rfl | rfl | rfl | rfl | rfl <;> decide +kernel
theorem kit_list (h : T ∈ knownT) : kitB T "list" = some (decide (T = "list")) := by
  simp only [knownT, List.mem_cons, List.not_mem_nil, or_false] at h
  rcases h with rfl | rfl | rfl | rfl | rfl | rfl | rfl <;> decide +kernel
theorem kit_tuple (h : T ∈ knownT) : kitB T "tuple" = some (decide (T = "tuple")) := by
  simp only [knownT, List.mem_cons, List.not_mem_nil, or_false] at h
  rcases h with rfl | rfl | rfl | rfl | rfl | rfl | rfl <;> decide +kernel
theorem kit_listTuple (h : T ∈ knownT) : PySem.W.kitAny K (.type T) [.type "list", .type "tuple"] = some (decide (T = "list") || decide (T = "tuple")) := by
  refine kitAny_cons (kit_ty (kit_list h)) (fun e => ?_) fun e => ?_
  · rw [e, Bool.false_or]
    exact kitAny_cons (kit_ty (kit_tuple h)) (fun e => by rw [e]; exact kitAny_nil) fun e => e
  · rw [e]
    rfl
theorem ty_str' {t : Value} (h : TyX K H v t) (e : t = .type "str") : ∃ z, v = .str z := by
  cases h with
  | base b =>
    cases b with
    | str x => exact ⟨x, rfl⟩
    | ins e2 cl ha hn htk hm => cases e
    | _ =>
      injection e with e
      exact absurd e (by decide)
  | _ =>
    injection e with e
    exact absurd e (by decide)
theorem ty_str (h : TyX K H v (.type "str")) : ∃ z, v = .str z := ty_str' h rfl
theorem ty_int' {t : Value} (h : TyX K H v t) (e : t = .type "int") : ∃ z, v = .int z := by
  cases h with
  | base b =>
    cases b with
    | int x => exact ⟨x, rfl⟩
    | ins e2 cl ha hn htk hm => cases e
    | _ =>
      injection e with e
      exact absurd e (by decide)
  | _ =>
    injection e with e
    exact absurd e (by decide)
theorem ty_int (h : TyX K H v (.type "int")) : ∃ z, v = .int z := ty_int' h rfl
theorem str_ty {z : Str} (h : TyX K H (.str z) (.type T)) : T = "str" := by
  cases h with
  | base b => cases b with
    | str x => rfl
theorem int_ty {i : Int} (h : TyX K H (.int i) (.type T)) : T = "int" := by
  cases h with
  | base b => cases b with
    | int x => rfl
end
/-! words -/
def letters : Str := "abcdefghijklmnopqrstuvwxyz"
def wordB (z : Str) : Bool := (decide (1 ≤ z.length) && decide (z.length ≤ 8)) && z.cps.toList.all fun c => decide (c ∈ letters.cps.toList)
def isW : V → Bool
  | .str z => wordB z
  | _ => false
def peopleB (xs : List V) : Bool := (decide (1 ≤ xs.length) && decide (xs.length ≤ 8)) && (xs.all isW && decide xs.Nodup)
def markB (lo hi : Int) : V → Bool
  | .int i => decide (lo ≤ i) && decide (i ≤ hi)
  | _ => false
/-- an item that may stand in what is given for people -/
def ItemOk (K : PySem.W.Frag) (H : Hp) (x : V) : Prop := (∃ T, TyN K H x T) ∧ ∀ z, x = .str z → z.length ≤ 1000
theorem ItemOk.same {K : PySem.W.Frag} {H H' : Hp} {x : V} (s : Same H H') (h : ItemOk K H x) : ItemOk K H' x := by
  obtain ⟨⟨T, t⟩, z⟩ := h
  exact ⟨⟨T, t.same s⟩, z⟩
/-- any value given for people: whether it is people, and its items -/
inductive ArgP (K : PySem.W.Frag) (H : Hp) : V → Bool → List V → Prop where
  | no {v : V} {T : String} (t : TyN K H v T) (h1 : T ≠ "list") (h2 : T ≠ "tuple") : ArgP K H v false []
  | lst {a : Addr} {xs : List V} (e : H a = some (.lst xs)) (h : ∀ x ∈ xs, ItemOk K H x) (hl : xs.length ≤ 1000) : ArgP K H (.ref a) (peopleB xs) xs
  | tup {a : Addr} {xs : List V} (e : H a = some (.tup xs)) (h : ∀ x ∈ xs, ItemOk K H x) (hl : xs.length ≤ 1000) : ArgP K H (.ref a) (peopleB xs) xs
theorem ArgP.same {K : PySem.W.Frag} {H H' : Hp} {v : V} {b : Bool} {xs : List V} (s : Same H H') (h : ArgP K H v b xs) : ArgP K H' v b xs := by
  cases h with
  | no t h1 h2 => exact .no (t.same s) h1 h2
  | lst e h hl => exact .lst (s _ _ e) (fun x hx => (h x hx).same s) hl
  | tup e h hl => exact .tup (s _ _ e) (fun x hx => (h x hx).same s) hl
def spIsInteger (K : PySem.W.Frag) : Sp := fun vs H Q _ => ∃ (v : V) (T : String), vs = [v] ∧ TyN K H v T ∧ Q (.bl (decide (T = "int"))) H
def spWithin (K : PySem.W.Frag) : Sp := fun vs H Q _ => ∃ (v : V) (lo hi : Int), vs = [v, .int lo, .int hi] ∧ (∃ T, TyN K H v T) ∧ Q (.bl (markB lo hi v)) H
def spIsWord (K : PySem.W.Frag) : Sp := fun vs H Q _ => ∃ v : V, vs = [v] ∧ ItemOk K H v ∧ ∀ H', Same H H' → Q (.bl (isW v)) H'
def spArePeople (K : PySem.W.Frag) : Sp := fun vs H Q _ => ∃ (v : V) (b : Bool) (xs : List V), vs = [v] ∧ ArgP K H v b xs ∧ ∀ H', Same H H' → Q (.bl b) H'
end L2
namespace L2
open PySem PySem.Spec PyProof.Rows
def kmSigns (z : Str) : List V := z.cps.toList.map fun c => V.str ⟨#[c]⟩
theorem walk_kmSigns {z : Str} : Walk (Its z) (kmSigns z).length (fun _ => True) (YAt (kmSigns z)) := by
  have e : (kmSigns z).length = z.cps.size := by
    unfold kmSigns
    rw [List.length_map, Array.length_toList]
  rw [e]
  refine walk_str.mono (fun _ h => h) fun i H x H' _ _ y => ?_
  obtain ⟨h, c, hc, hx⟩ := y
  refine ⟨h, ?_⟩
  unfold kmSigns
  rw [List.getElem?_map, Array.getElem?_toList, hc, hx]
  rfl
theorem all_bl (bs : List Bool) : (bs.map V.bl).length = bs.length := List.length_map ..
end L2
namespace L2
open PySem PySem.Spec PyProof.Rows
/-! an own error with one field -/
structure Er (K : PySem.W.Frag) (mg : Str → Option Value) (x : Str) (C : Addr) : Prop where
  g : mg x = some (.ref C)
  ox : OexC K C
  xf : XfC K C
  ec : ExcC K C
  exm : PySem.W.exmOne K (.ref C) (.ref C) = some true
def spErrInit (K : PySem.W.Frag) (C : Addr) (f : Str) : Sp := fun vs H Q _ => ∃ (a : Addr) (v : V), vs = [.ref a, v] ∧ OexC K C ∧ PySem.W.findIn K (.ref C) f = some none ∧ H a = some (exo a C none) ∧
  ∀ d, H d = none → d ≠ a → Q .non (upd (upd H d (exd d [(f, v)])) a (exo a C (some d)))
/-- what a raise of such an error leaves -/
def Raised (H H' : Hp) (d : Addr) (f : Str) (v : V) : Prop := Same H H' ∧ H d = none ∧ H' d = some (.xd [(f, v)])
theorem raised_mk {H : Hp} {a d C : Addr} {f : Str} {v : V} (na : H a = none) (nd : H d = none) (nda : d ≠ a) :
    Raised H (upd (del (upd (upd (upd H a (exo a C none)) d (exd d [(f, v)])) a (exo a C (some d))) a) d (.xd [(f, v)])) d f v := by
  refine ⟨fun b o e => ?_, nd, upd_same⟩
  rw [upd_ne (ne_of_none e nd), del_ne (ne_of_none e na), upd_ne (ne_of_none e na), upd_ne (ne_of_none e nd), upd_ne (ne_of_none e na)]
  exact e
theorem strs_of_isW : ∀ {xs : List V}, xs.all isW = true → ∃ zs : List Str, xs = zs.map V.str
  | [], _ => ⟨[], rfl⟩
  | x :: xs, h => by
    rw [List.all_cons, Bool.and_eq_true] at h
    obtain ⟨zs, rfl⟩ := strs_of_isW h.2
    cases x with
    | str z => exact ⟨z :: zs, rfl⟩
    | _ => cases h.1
theorem keys_of_strs (zs : List Str) : zs.map V.str = (zs.map (Sum.inr : Str → Key)).map kV := by
  rw [List.map_map]
  rfl
theorem nodup_map_inj {α β : Type} {f : α → β} (hf : ∀ a b, f a = f b → a = b) {l : List α} : (l.map f).Nodup ↔ l.Nodup := by
  induction l with
  | nil => simp
  | cons a l ih =>
    rw [List.map_cons, List.nodup_cons, List.nodup_cons, ih, List.mem_map]
    constructor
    · rintro ⟨h1, h2⟩
      exact ⟨fun h => h1 ⟨a, h, rfl⟩, h2⟩
    · rintro ⟨h1, h2⟩
      exact ⟨fun ⟨b, hb, e⟩ => h1 (hf _ _ e ▸ hb), h2⟩
theorem uniq_strs (zs : List Str) : decide (V.int ((Km.uniq (zs.map (Sum.inr : Str → Key))).length : Nat) = V.int ((zs.map V.str).length : Nat)) = decide (zs.map V.str).Nodup := by
  refine decide_eq_decide.mpr ?_
  have h1 := Km.uniq_full (zs.map (Sum.inr : Str → Key))
  rw [nodup_map_inj (f := (Sum.inr : Str → Key)) (fun _ _ e => Sum.inr.inj e), List.length_map] at h1
  rw [nodup_map_inj (f := V.str) (fun _ _ e => V.str.inj e), ← h1, List.length_map]
  constructor
  · intro e
    have := V.int.inj e
    omega
  · intro e
    rw [e]
end L2
namespace L2
open PySem PySem.Spec PyProof.Rows
/-- what a crowd's instance holds -/
def crowdFs (p : Addr) (m : Int) : List (Str × V) := [("_people", V.ref p), ("most", V.int m)]
def CrowdAt (H : Hp) (C x : Addr) (xs : List V) (m : Int) : Prop := ∃ dx p, H x = some (.ins C dx (crowdFs p m)) ∧ H p = some (.lst xs)
theorem CrowdAt.same {H H' : Hp} {C x : Addr} {xs : List V} {m : Int} (s : Same H H') (h : CrowdAt H C x xs m) : CrowdAt H' C x xs m := by
  obtain ⟨dx, p, h1, h2⟩ := h
  exact ⟨dx, p, s _ _ h1, s _ _ h2⟩
def spCrowdInit (K : PySem.W.Frag) (C CB : Addr) : Sp := fun vs H Q E => ∃ (x dx : Addr) (v m : V) (b : Bool) (xs : List V), vs = [.ref x, v, m] ∧ H x = some (.ins C dx []) ∧ ArgP K H v b xs ∧ (∃ T, TyN K H m T) ∧
  (b = false → ∀ H' d, Raised H H' d "part" (.str "people") → E (.ref CB) (some d) H') ∧
  (b = true → markB 1 10 m = false → ∀ H' d, Raised H H' d "part" (.str "most") → E (.ref CB) (some d) H') ∧
  (b = true → ∀ i, m = .int i → markB 1 10 m = true → ∀ H', But x H H' → CrowdAt H' C x xs i → Q .non H')
theorem putF_new {f : Str} {v : V} : putF f v [] = [(f, v)] := rfl
theorem crowd_put {p : Addr} {m : Int} : putF "most" (.int m) [(("_people" : Str), V.ref p)] = crowdFs p m := by
  show (if (("_people" : Str)) = "most" then _ else _) = _
  rw [if_neg (by decide +kernel)]
  rfl
end L2
namespace L2
open PySem PySem.Spec PyProof.Rows
theorem ArgP.seq {K : PySem.W.Frag} {H : Hp} {v : V} {b : Bool} {xs : List V} (h : ArgP K H v b xs) (e : b = true) : ∃ l, v = .ref l ∧ (SqL K H l xs ∨ SqT K H l xs) := by
  cases h with
  | no t h1 h2 => cases e
  | lst e1 h hl => exact ⟨_, rfl, .inl (SqL.of e1)⟩
  | tup e1 h hl => exact ⟨_, rfl, .inr (SqT.of e1)⟩
/-- what the law's own look at a making tells: taken, or the part -/
def toldP (b m : Bool) : Option Str := if b = false then some "people" else if m = false then some "most" else none
def spTold (K : PySem.W.Frag) : Sp := fun vs H Q _ => ∃ (v m : V) (b : Bool) (xs : List V), vs = [v, m] ∧ ArgP K H v b xs ∧ (∃ T, TyN K H m T) ∧
  (∀ H' p z, toldP b (markB 1 10 m) = some z → Same H H' → H' p = some (.lst [.str z, .bl true]) → Q (.ref p) H') ∧
  (toldP b (markB 1 10 m) = none → ∀ H', Same H H' → Q (.str "taken") H')
end L2
namespace L2
open PySem PySem.Spec PyProof.Rows
theorem rng_le (l c : Int) (hc : 1 ≤ c) : 1 ≤ (if (if c < l then c else l) > 1 then (if c < l then c else l) else (1 : Int)) ∧ (if (if c < l then c else l) > 1 then (if c < l then c else l) else (1 : Int)) ≤ c := by
  by_cases h : c < l
  · rw [if_pos h]
    split <;> omega
  · rw [if_neg h]
    split <;> omega
theorem names8_ok : ∀ z ∈ names8, wordB z = true ∧ z.length ≤ 8 := by decide +kernel
abbrev BadP (K : PySem.W.Frag) (H : Hp) (v : V) : Prop := ∃ xs, ArgP K H v false xs
theorem BadP.same {K : PySem.W.Frag} {H H' : Hp} {v : V} (s : Same H H') (h : BadP K H v) : BadP K H' v := by
  obtain ⟨xs, h⟩ := h
  exact ⟨xs, h.same s⟩
theorem ArgP.lst' {K : PySem.W.Frag} {H : Hp} {a : Addr} {xs : List V} {b : Bool} (e : H a = some (.lst xs)) (h : ∀ x ∈ xs, ItemOk K H x) (hl : xs.length ≤ 1000) (hb : peopleB xs = b) : ArgP K H (.ref a) b xs := by
  subst hb
  exact .lst e h hl
theorem ArgP.tup' {K : PySem.W.Frag} {H : Hp} {a : Addr} {xs : List V} {b : Bool} (e : H a = some (.tup xs)) (h : ∀ x ∈ xs, ItemOk K H x) (hl : xs.length ≤ 1000) (hb : peopleB xs = b) : ArgP K H (.ref a) b xs := by
  subst hb
  exact .tup e h hl
section
variable {K : PySem.W.Frag} {H : Hp}
theorem item_str {z : Str} (h : z.length ≤ 1000) : ItemOk K H (.str z) := ⟨⟨"str", .base (.str z), by decide⟩, fun y e => by
  rw [← V.str.inj e]
  exact h⟩
theorem item_non : ItemOk K H .non := ⟨⟨"NoneType", .base .non, by decide⟩, fun y e => by cases e⟩
theorem item_int {i : Int} : ItemOk K H (.int i) := ⟨⟨"int", .base (.int i), by decide⟩, fun y e => by cases e⟩
theorem item_bl {i : Bool} : ItemOk K H (.bl i) := ⟨⟨"bool", .base (.bl i), by decide⟩, fun y e => by cases e⟩
theorem item_lst {a : Addr} {xs : List V} (h : H a = some (.lst xs)) : ItemOk K H (.ref a) := ⟨⟨"list", .base (.lst h), by decide⟩, fun y e => by cases e⟩
/-- people as the laws draw them -/
structure Drawn8 (zs : List Str) : Prop where
  nd : zs.Nodup
  mem : ∀ z ∈ zs, z ∈ names8
theorem Drawn8.items {zs : List Str} (d : Drawn8 zs) : ∀ x ∈ zs.map V.str, ItemOk K H x := by
  intro x hx
  obtain ⟨z, hz, rfl⟩ := List.mem_map.mp hx
  exact item_str (Nat.le_trans (names8_ok z (d.mem z hz)).2 (by decide))
theorem Drawn8.allW {zs : List Str} (d : Drawn8 zs) : (zs.map V.str).all isW = true := by
  rw [List.all_eq_true]
  intro x hx
  obtain ⟨z, hz, rfl⟩ := List.mem_map.mp hx
  exact (names8_ok z (d.mem z hz)).1
theorem Drawn8.people {zs : List Str} (d : Drawn8 zs) (h1 : 1 ≤ zs.length) (h2 : zs.length ≤ 8) : peopleB (zs.map V.str) = true := by
  show ((decide (1 ≤ (zs.map V.str).length) && decide ((zs.map V.str).length ≤ 8)) && ((zs.map V.str).all isW && decide (zs.map V.str).Nodup)) = true
  rw [d.allW, List.length_map, decide_eq_true h1, decide_eq_true h2, decide_eq_true ((nodup_map_inj (f := V.str) (fun _ _ e => V.str.inj e)).mpr d.nd)]
  rfl
theorem not_people_of_isW {xs : List V} {y : V} (h : isW y = false) : peopleB (xs ++ [y]) = false := by
  show (_ && ((xs ++ [y]).all isW && _)) = false
  rw [List.all_append, List.all_cons, h, Bool.false_and, Bool.and_false, Bool.false_and, Bool.and_false]
theorem not_people_of_twice {x : V} {xs : List V} : peopleB ((x :: xs) ++ [x]) = false := by
  show (_ && (_ && decide ((x :: xs) ++ [x]).Nodup)) = false
  have : ¬ ((x :: xs) ++ [x]).Nodup := fun h => by
    rw [List.cons_append, List.nodup_cons] at h
    exact h.1 (List.mem_append_right _ (List.mem_singleton.mpr rfl))
  rw [decide_eq_false this, Bool.and_false, Bool.and_false]
theorem bad_append {a : Addr} {xs : List V} {y : V} (e : H a = some (.lst (xs ++ [y]))) (hx : ∀ x ∈ xs, ItemOk K H x) (hl : xs.length ≤ 8) (hy : ItemOk K H y) (h : isW y = false) : BadP K H (.ref a) :=
  ⟨_, .lst' e (fun x hm => by
    rcases List.mem_append.mp hm with hm | hm
    · exact hx x hm
    · rw [List.mem_singleton.mp hm]
      exact hy) (by rw [List.length_append, List.length_singleton]; omega) (not_people_of_isW h)⟩
end
section
variable {σ : St} {H : Hp} {Q : VK}
/-- l + [e] -/
theorem rd_cat1 {i : Nat} {l : Addr} {xs : List V} {te : TE} (y : V) (h : σ[i]? = some (some (.ref l))) (hl : H l = some (.lst xs)) (hx : xs.length ≤ 8)
    (hte : ∀ Q' : VK, (∀ H1, Same H H1 → Q' y H1) → te σ H Q') (k : ∀ H' p, Same H H' → H' p = some (.lst (xs ++ [y])) → Q (.ref p) H') : tOp rCat (tVar i) (tLst (tCons te tNil)) σ H Q := by
  refine ⟨_, h, hte _ fun H1 s1 => ⟨(by show 1 ≤ sizeLine; decide), fun b nb => ⟨l, b, xs, [y], rfl, rfl, same_new nb _ _ (s1 _ _ hl), upd_same, ?_, fun p np => ?_⟩⟩⟩
  · rw [List.length_singleton]
    exact Nat.le_of_lt (small1000 (by omega))
  · exact k _ p ((s1.trans (same_new nb)).trans (same_new np)) upd_same
theorem dp_told {K : PySem.W.Frag} {p : Addr} {z : Str} (h : H p = some (.lst [.str z, .bl true])) : Dp K H (.ref p) (.list [.str z, .bool true]) := .lst (SqL.of h) (.cons (.str z) (.cons (.bl true) .nil))
end
end L2
namespace L2
open PySem PySem.Spec PyProof.Rows
theorem shaped_taken : SeqAt.shaped (.str "taken") = true := by decide +kernel
theorem eqv_taken : PyData.eqv (.str "taken") (.str "taken") = true := by decide +kernel
theorem shaped_people : SeqAt.shaped (.list [.str "people", .bool true]) = true := by decide +kernel
theorem shaped_most : SeqAt.shaped (.list [.str "most", .bool true]) = true := by decide +kernel
theorem eqv_people : PyData.eqv (.list [.str "people", .bool true]) (.list [.str "people", .bool true]) = true := by decide +kernel
theorem eqv_most : PyData.eqv (.list [.str "most", .bool true]) (.list [.str "most", .bool true]) = true := by decide +kernel
end L2
namespace L2
open PySem PySem.Spec PyProof.Rows
theorem toldP_most {m : Bool} (h : m = false) : toldP true m = some "most" := by
  rw [h]
  rfl
theorem toldP_taken {m : Bool} (h : m = true) : toldP true m = none := by
  rw [h]
  rfl
end L2

set_option Elab.async false
set_option linter.all false
set_option maxRecDepth 100000
set_option maxHeartbeats 4000000
/-! Own errors over any built-in base, with an own __init__ that stores: made as values or raised, their fields. -/
namespace L2
open PySem PySem.Spec PyProof.Rows
structure EcC (K : PySem.W.Frag) (C : Addr) : Prop where
  base : ∃ (B newId initId : String) (bmB : List Value), PySem.ExcBaseFacts B newId initId bmB ∧ PySem.StoreFacts B bmB "object.__setattr__" "object" ∧ PySem.W.excInitIn K C bmB newId = true ∧ PySem.W.excOver K C bmB = true
  sa : PySem.W.findIn K (.ref C) "__setattr__" = some (some (.builtin "object.__setattr__"))
  hd : PySem.W.hasDictIn K C = true
  exC : PySem.W.subIn K (.ref C) (.type "BaseException") = some true
  tyC : PySem.W.typeIn K (.ref C) = some (.type "type")
  kC : PySem.W.keepIn K (.ref C) = true
section
variable {X : Cx} {pins : List (Addr × Obj)} {σ : St} {H : Hp} {s : Shared} {a C : Addr} {f : Str} {y : V} {u : Value} {Q : Unit → Shared → Prop} {E : Value → Shared → Prop} {A : Around}
/-- self.f = y, the first field -/
theorem ec_store (T : EcC X.K C) (I : Inv X pins σ H s) (e : H a = some (exo a C none)) (hno : PySem.W.findIn X.K (.ref C) f = some none) (ry : RelV y u)
    (h : ∀ dx s', H dx = none → dx ≠ a → Inv X pins σ (upd (upd H dx (exd dx [(f, y)])) a (exo a C (some dx))) s' → Q () s') : wpAny (model X.prog X.w) A (setAttr (.ref a) f u) Q E s := by
  obtain ⟨B, newId, initId, bmB, FB, SF, hin, hov⟩ := T.base
  obtain ⟨t1, ho⟩ := exo_at I.hok e
  obtain ⟨hp, g, d, t, os⟩ := s
  have J0 : PySem.W.InstAt hp a { cls := .ref C, dict := none, data := .fields #[.ref t1, .none, .none, .none, .bool false, .none] } C none := ⟨ho, rfl, rfl, trivial⟩
  have tk : PySem.W.takerIn X.K C f = some none := by
    unfold PySem.W.takerIn
    rw [hno]
    rfl
  have lt : a < hp.objs.size := Heap.lt_size ho
  refine PySem.W.set_plain I.kIn J0 T.sa ?_
  refine PySem.W.osa_openX SF I.kIn J0 hov tk fun b => ?_
  obtain ⟨cd, hcd, hhd⟩ := PySem.W.any_some T.hd
  have L := PySem.W.looks_clsIn (M := model X.prog X.w) I.kIn hcd
  show wpAny _ _ (Builtin.ObjectAttr.storeInOwnDict (.ref a) (.ref C) (.str f _) f u b) _ _ _
  unfold Builtin.ObjectAttr.storeInOwnDict Builtin.ObjectAttr.ownDictForStores
  obtain ⟨cnm, cbs, cmro, cns, cqn, chd, csn, csb, cab, ccol, cdel⟩ := cd
  dsimp only at hhd
  subst hhd
  have xs : a ≠ hp.objs.size := Nat.ne_of_lt lt
  repeat (first
    | with_reducible refine PySem.HandSPX.store_in_new ?_ ?_
    | with_reducible refine wpAny_loadPart_at ho ?_
    | with_reducible refine L.at ?_
    | wp_step)
  · exact ⟨_, #[], _, (Heap.get?_update_ne _ _ _ _ xs.symm).trans (Heap.get?_push_at rfl rfl), rfl, fun e he => absurd he (by simp), fun _ => rfl⟩
  intro h' tk' hn hsb
  have old : ∀ b o, b ≠ a → hp.get? b = some o → h'.get? b = some o := fun b o nb q => by
    rw [hsb.2 b (Nat.ne_of_lt (Heap.lt_size q)), Heap.get?_update_ne _ _ _ _ nb]
    exact Heap.get?_push_of_some _ q
  have own : h'.get? a = some { cls := .ref C, dict := some hp.objs.size, data := .fields #[.ref t1, .none, .none, .none, .bool false, .none] } := by
    rw [hsb.2 a xs]
    exact Heap.get?_update_self _ (Heap.get?_push_of_some _ ho) rfl
  have nd : H hp.objs.size = none := I.hok.fresh (Nat.le_refl _)
  have lts : ∀ {b o}, hp.get? b = some o → b ≠ hp.objs.size := fun q => Nat.ne_of_lt (Heap.lt_size q)
  have free1 : ∀ {b}, H b = none → b ≠ a := fun n z => by
    rw [z, e] at n
    cases n
  have un : Un X.fs [] H (upd (upd H hp.objs.size (exd hp.objs.size [(f, y)])) a (exo a C (some hp.objs.size))) hp h' := by
    refine ⟨fun b o q n _ _ => old b o (free1 n) q, fun b o q n _ _ => ⟨o.slots, old b o (free1 n) q⟩, fun b o q n _ => ?_, fun b o q _ => ?_, fun b xs q => ?_, fun b o v q => ?_, fun b ps q => ?_⟩
    · rw [upd_ne (free1 n), upd_ne (lts q)]
      exact n
    · by_cases z : b = a
      · rw [z]
        exact ⟨_, own⟩
      · exact ⟨o, old b o z q⟩
    · rw [upd_ne (at_ne e q exo_tup), upd_ne (ne_of_none q nd)]
      exact q
    · rw [upd_ne (at_ne e q exo_frz), upd_ne (ne_of_none q nd)]
      exact q
    · refine ⟨#[], ?_⟩
      rw [upd_ne (at_ne e q exo_tbl), upd_ne (ne_of_none q nd), q]
      simp
  refine h hp.objs.size _ nd xs.symm (I.un (t' := tk') un fun b o q => ?_)
  by_cases z : b = a
  · rw [z, upd_same] at q
    rw [z, ← Option.some.inj q]
    exact exo_ok own
  · rw [upd_ne z] at q
    by_cases z2 : b = hp.objs.size
    · rw [z2, upd_same] at q
      rw [z2, ← Option.some.inj q]
      exact exd_ok hn (relO_put (fs := []) ry fun _ => trivial)
    · rw [upd_ne z2] at q
      refine (I.hok b o q).stay (fun c v hc k => old c v ?_ k) (fun c hc => ?_) fun c xs hc => ?_
      · rcases hc with hc | hc
        · rw [hc]
          exact z
        · exact at_ne e hc exo_own
      · rw [upd_ne (at_ne e hc exo_own), upd_ne (ne_of_none hc nd)]
        exact hc
      · rw [upd_ne (at_ne e hc exo_tup), upd_ne (ne_of_none hc nd)]
        exact hc
end
end L2
namespace L2
open PySem PySem.Spec PyProof.Rows
/-- self.f = e in an error's own __init__ -/
def tEcS (K : PySem.W.Frag) (f : Str) (to te : TE) : TS := fun D σ H => te σ H fun y H1 => to σ H1 fun x H2 => ∃ a C : Addr, x = .ref a ∧ EcC K C ∧ PySem.W.findIn K (.ref C) f = some none ∧ H2 a = some (exo a C none) ∧
  ∀ dx, H2 dx = none → dx ≠ a → D.nx σ (upd (upd H2 dx (exd dx [(f, y)])) a (exo a C (some dx)))
section
variable {X : Cx} {o e : Expr} {es : List Expr} {to te : TE} {ta : TA} {f : Str} {p p' pos : Pos}
theorem ps_ec (ho : PE X o to) (he : PE X e te) (hs : swapsWith e (some (.Attribute o f p')) pos.line X.env = pure false := by rfl) : PS X (.Assign [.Attribute o f p'] e pos) (tEcS X.K f to te) := by
  constructor
  intro pins s σ H D I h
  refine plainObj_wpAny_Assign_Attribute (thn (he.run pins s σ H _ I h) fun v s1 q0 => ?_) hs
  obtain ⟨y, H1, I1, r1, q1⟩ := q0
  refine thn (ho.run pins s1 σ H1 _ I1 q1) fun u s2 q2 => ?_
  obtain ⟨x, H2, I2, r2, a, C, ex, T, hno, ea, q⟩ := q2
  subst ex
  obtain rfl : u = Value.ref a := r2
  exact ec_store T I2 ea hno r1 fun dx s3 n ne J => ⟨σ, _, J, q dx n ne⟩
def spEcInit (K : PySem.W.Frag) (C : Addr) (f : Str) : Sp := fun vs H Q _ => ∃ (a : Addr) (v : V), vs = [.ref a, v] ∧ EcC K C ∧ PySem.W.findIn K (.ref C) f = some none ∧ H a = some (exo a C none) ∧
  ∀ d, H d = none → d ≠ a → Q .non (upd (upd H d (exd d [(f, v)])) a (exo a C (some d)))
/-- the call C(u, ..) of such a class: its __init__ at the fresh error -/
theorem ec_call {CX : CXT} {C fI : Addr} {k : Nat} {fd : FuncData} {ps : List Str} {sp : Sp} {pins : List (Addr × Obj)} {s : Shared} {σ : St} {H : Hp} {us : List Value} {vs : List V} {E : XK} {Q : Addr → VK} {R : Value → Shared → Prop} (T : EcC X.K C)
    (iC : PySem.W.findIn X.K (.ref C) "__init__" = some (some (.ref fI))) (tI : PySem.W.typeIn X.K (.ref fI) = some (.type "function")) (F : FnOk X.prog X.w X.K X.mg X.base CX k fI fd ps sp) (hr : Room (k + 1) X.A) (hb : Binds X.K fd ps []) (hx : Passes CX X E)
    (I : Inv X pins σ H s) (r : Vals vs us) (hl : vs.length ≤ 1000) (q : ∀ a, H a = none → sp (.ref a :: vs) (upd H a (exo a C none)) (Q a) E)
    (fin : ∀ (a : Addr) (hp2 : Heap) (v : V) (H2 : Hp) (s2 : Shared), s.heap.objs.size ≤ a → (∀ b o, s.heap.get? b = some o → hp2.get? b = some o) → Inv X pins σ H2 s2 → Un (frs X.stack) [] (upd H a (exo a C none)) H2 hp2 s2.heap →
      HOk X.prog X.w H2 s2.heap → s2.os = s.os → AllBare s2.gens → Q a v H2 → v = .non ∧ R (.ref a) s2) : wpAny (model X.prog X.w) X.A (call (.ref C) us) R X.xe s := by
  obtain ⟨B, newId, initId, bmB, FB, SF, hin, hov⟩ := T.base
  obtain ⟨nm, N, qn, bs, bm, hdct, sn, sub, ab, col, dd, k0, k1, k2, k3, k5, hC, hT⟩ := PySem.W.excInit_of I.kIn hin
  obtain ⟨hp, g, dr, tk, os⟩ := s
  have fresh1 : H (hp.objs.size + 1) = none := I.hok.fresh (Nat.le_succ _)
  have q1 := q _ fresh1
  have kept : ∀ b o, hp.get? b = some o → ((hp.push (PySem.W.kdv_tup us)).push (PySem.HandSPX.excO C hp.objs.size)).get? b = some o := fun b o z => Heap.get?_push_of_some _ (Heap.get?_push_of_some _ z)
  have there : ((hp.push (PySem.W.kdv_tup us)).push (PySem.HandSPX.excO C hp.objs.size)).get? (hp.objs.size + 1) = some (PySem.HandSPX.excO C hp.objs.size) := by heap_get
  have J : Inv X pins σ (upd H (hp.objs.size + 1) (exo (hp.objs.size + 1) C none)) ⟨(hp.push (PySem.W.kdv_tup us)).push (PySem.HandSPX.excO C hp.objs.size), g, dr, tk, os⟩ :=
    I.laid (t' := tk) (a := hp.objs.size + 1) (h' := (hp.push (PySem.W.kdv_tup us)).push (PySem.HandSPX.excO C hp.objs.size)) kept (Nat.le_succ _) (exo_ok there)
  have r2 : Vals (V.ref (hp.objs.size + 1) :: vs) (Value.ref (hp.objs.size + 1) :: us) := .cons rfl r
  have len2 : (Value.ref (hp.objs.size + 1) :: us).length = ps.length := by
    rw [← r2.length]
    exact F.len _ _ _ _ q1
  have b := hb ⟨_, g, dr, tk, os⟩ (Value.ref (hp.objs.size + 1) :: us) J.kIn (by rw [List.append_nil]; exact len2)
  rw [List.append_nil] at b
  have room : us.length ≤ sizeLine := by
    rw [← r.length, sizeLine_eq]
    omega
  refine wpAny_call (PySem.HandSPX.call_own FB hT hC (PySem.W.looks_findIn I.kIn iC) (fun self => PySem.W.bind_fn I.kIn self tI) room (codeAny_mono (F.run _ X.stack _ _ ⟨_ :: us, []⟩ _ _ _ E (hr.make C us []) (J.env0.make C us []) b r2 q1) fun z s2 hz => ?_))
  cases z with
  | error er => exact hx pins σ _ _ er s2 J hz
  | ok fl =>
    cases fl with
    | ret u =>
      obtain ⟨v, H2, os2, bare2, un2, hok2, rv, q2⟩ := hz
      obtain ⟨hh, g2, d2, t2, o2⟩ := s2
      obtain rfl : o2 = os := os2
      have I2 : Inv X pins σ H2 ⟨hh, g2, d2, t2, o2⟩ := J.call (h' := hh) (g' := g2) (d' := d2) (t' := t2) (ch := []) un2 hok2 bare2 (fun b z => absurd z (by simp))
      obtain ⟨ev, z⟩ := fin (hp.objs.size + 1) _ v H2 ⟨hh, g2, d2, t2, o2⟩ (Nat.le_succ _) kept I2 un2 hok2 rfl bare2 q2
      subst ev
      exact ⟨rv, z⟩
    | next => exact False.elim hz
    | brk => exact False.elim hz
    | cont => exact False.elim hz
/-- C(e, ..) as a value -/
def tEcV (C : Addr) (sp : Sp) (E : XK) (ta : TA) : TE := fun σ H Q => ta σ H fun vs H1 => vs.length ≤ 1000 ∧ ∀ a, H1 a = none → sp (.ref a :: vs) (upd H1 a (exo a C none)) (fun v H2 => v = .non ∧ Q (.ref a) H2) E
variable {CX : CXT} {x : Str} {C fI : Addr} {k : Nat} {fd : FuncData} {ps : List Str} {sp : Sp} {E : XK}
theorem pe_ecv (T : EcC X.K C) (iC : PySem.W.findIn X.K (.ref C) "__init__" = some (some (.ref fI))) (tI : PySem.W.typeIn X.K (.ref fI) = some (.type "function")) (F : FnOk X.prog X.w X.K X.mg X.base CX k fI fd ps sp) (hr : Room (k + 1) X.A)
    (hb : Binds X.K fd ps []) (hx : Passes CX X E) (hg : Gl X x) (hm : X.mg x = some (.ref C)) (ha : PA X (e :: es) ta) (hdb : (x == ("__debug__" : Str)) = false := by decide)
    (he : starEach (e :: es) X.env = (false, eval e X.env) :: starEach es X.env := by rfl) (hpl : (backTo pos (starEach es X.env)).any (·.1) = false := by rfl) : PE X (.Call (.Name x p) (e :: es) [] pos) (tEcV C sp E ta) := by
  constructor
  intro pins s σ H Q I h
  refine wpAny_Call_Name_kw (ld_glob I hg hm ?_ hdb)
  refine PySem.W.callWith_K (h₀ := X.base) I.ok.mod.kin T.kC (thn (ha.run pos pins s σ H _ I h) fun us s1 q0 => ?_) he hpl
  obtain ⟨vs, H1, I1, r1, hl, q1⟩ := q0
  refine ⟨I1.kIn, ec_call (Q := fun a v H2 => v = .non ∧ Q (.ref a) H2) T iC tI F hr hb hx I1 r1 hl q1 fun a hp2 v H2 s2 _ _ I2 _ _ _ _ q2 => ⟨q2.1, ?_⟩⟩
  exact ⟨.ref a, H2, I2, rfl, q2.2⟩
/-- C(e, ..) to be raised -/
def tEcR (C : Addr) (sp : Sp) (ta : TA) : St → Hp → XK → Prop := fun σ H Q => ta σ H fun vs H1 => vs.length ≤ 1000 ∧ ∀ a, H1 a = none → sp (.ref a :: vs) (upd H1 a (exo a C none))
  (fun v H2 => v = .non ∧ ∃ (d : Addr) (fs : List (Str × V)), H2 a = some (exo a C (some d)) ∧ H2 d = some (exd d fs) ∧ H1 d = none ∧ Q (.ref C) (some d) (upd (del H2 a) d (.xd fs))) (fun _ _ _ => False)
theorem pmk_ec (T : EcC X.K C) (iC : PySem.W.findIn X.K (.ref C) "__init__" = some (some (.ref fI))) (tI : PySem.W.typeIn X.K (.ref fI) = some (.type "function")) (F : FnOk X.prog X.w X.K X.mg X.base CX k fI fd ps sp) (hr : Room (k + 1) X.A)
    (hb : Binds X.K fd ps []) (hx : Passes CX X (fun _ _ _ => False)) (hg : Gl X x) (hm : X.mg x = some (.ref C)) (ha : PA X (e :: es) ta) (hdb : (x == ("__debug__" : Str)) = false := by decide)
    (he : starEach (e :: es) X.env = (false, eval e X.env) :: starEach es X.env := by rfl) (hpl : (backTo pos (starEach es X.env)).any (·.1) = false := by rfl) : PMk X (.Call (.Name x p) (e :: es) [] pos) (tEcR C sp ta) := by
  intro pins s σ H Q I h
  refine wpAny_Call_Name_kw (ld_glob I hg hm ?_ hdb)
  refine PySem.W.callWith_K (h₀ := X.base) I.ok.mod.kin T.kC (thn (ha.run pos pins s σ H _ I h) fun us s1 q0 => ?_) he hpl
  obtain ⟨vs, H1, I1, r1, hl, q1⟩ := q0
  obtain ⟨hp, g, dr, tk, os⟩ := s1
  refine ⟨I1.kIn, ec_call (Q := fun a v H2 => v = .non ∧ ∃ (d : Addr) (fs : List (Str × V)), H2 a = some (exo a C (some d)) ∧ H2 d = some (exd d fs) ∧ H1 d = none ∧ Q (.ref C) (some d) (upd (del H2 a) d (.xd fs))) T iC tI F hr hb hx I1 r1 hl q1
    fun a hp2 v H2 s2 ha2 kept I2 un hok ho bare q2 => ⟨q2.1, ?_⟩⟩
  obtain ⟨_, d, fs, ea, ed, hd1, q3⟩ := q2
  obtain ⟨h2, g2, d2, t2, o2⟩ := s2
  exact mk_end (raises_own T.exC T.tyC) I1 ha2 kept un hok ho bare ea ed hd1 q3
/-- e.f, e an error that is held as a value -/
def tEcF (K : PySem.W.Frag) (te : TE) (f : Str) : TE := fun σ H Q => te σ H fun x H1 => ∃ (a C d : Addr) (fs : List (Str × V)) (v : V), x = .ref a ∧ XfC K C ∧ PySem.W.findIn K (.ref C) f = some none ∧ H1 a = some (exo a C (some d)) ∧ H1 d = some (exd d fs) ∧ fs.lookup f = some v ∧ Q v H1
theorem pe_ecf (he : PE X e te) (hb : attributeBase e f X.env (eval e X.env) = eval e X.env := by rfl) : PE X (.Attribute e f pos) (tEcF X.K te f) := by
  constructor
  intro pins s σ H Q I h
  refine attr_of hb (thn (he.run pins s σ H _ I h) fun u s1 q0 => ?_)
  obtain ⟨y, H1, I1, r1, a, C, d, fs, v, rfl, T, no, ea, ed, l, q⟩ := q0
  obtain rfl : u = Value.ref a := r1
  obtain ⟨t1, ho⟩ := exo_at I1.hok ea
  obtain ⟨mA, hns, rel⟩ := exd_at I1.hok ed
  obtain ⟨od, hod, hl⟩ := lookIn_ns hns
  have rr := rel f
  rw [l] at rr
  obtain ⟨w, hw, rw'⟩ := RelO.some_of (v := v) (o := mA f) rr
  have J : PySem.W.InstAt s1.heap a { cls := .ref C, dict := some d, data := .fields #[.ref t1, .none, .none, .none, .bool false, .none] } C (some od) := ⟨ho, rfl, rfl, hod⟩
  exact HandSPX.exc_get I1.kIn J T.ga T.gg T.exC (PySem.W.findObj_own T.hdC no rfl (by rw [hl, hw])) (handed_of rw') ⟨v, H1, I1.tok _, rw', q⟩
/-- isinstance(x, c), x an error that is held as a value -/
def rIsV (K : PySem.W.Frag) : List V → Hp → VK → Prop := fun xs H Q => ∃ (a C : Addr) (d : Option Addr) (c : V) (cv : Value) (b : Bool), xs = [.ref a, c] ∧ ClsV c cv ∧ ExcC K C ∧ H a = some (exo a C d) ∧ (∀ dx, d = some dx → ∃ fs, H dx = some (exd dx fs)) ∧ PySem.W.kitOne K (.ref C) cv = some b ∧ Q (.bl b) H
theorem call_isV : CallR X (.builtin "isinstance") (rIsV X.K) := by
  intro pins s σ H xs us Q I r h
  obtain ⟨a, C, d, c, cv, b, rfl, hc, T, ea, hd, ek, q⟩ := h
  obtain ⟨u1, u2, rfl, r1, r2⟩ := vals2 r
  cases r1
  obtain rfl := hc.eq r2
  obtain ⟨t1, ho⟩ := exo_at I.hok ea
  have hcl : (PySem.W.clsIn X.K C).isSome = true := by
    obtain ⟨cd, hc, _⟩ := PySem.W.any_some T.hd
    rw [hc] <;> rfl
  have J : ∃ od, PySem.W.InstAt s.heap a { cls := .ref C, dict := d, data := .fields #[.ref t1, .none, .none, .none, .bool false, .none] } C od := by
    cases d with
    | none => exact ⟨none, ho, rfl, rfl, trivial⟩
    | some dx =>
      obtain ⟨fs, hx⟩ := hd dx rfl
      obtain ⟨mA, hns, _⟩ := exd_at I.hok hx
      obtain ⟨od, hod, _⟩ := lookIn_ns hns
      exact ⟨some od, ho, rfl, rfl, hod⟩
  obtain ⟨od, J⟩ := J
  exact PySem.W.kia_one (PySem.W.kitx_exc hcl T.hg T.hk T.hs T.ha T.hn T.ht T.hm) I.kIn J ek (fun z => nomatch z) fun tk => ⟨.bl b, H, I.kept (t' := tk) fun _ _ z => z, rfl, q⟩
end
end L2

set_option Elab.async false
set_option linter.all false
set_option maxRecDepth 100000
set_option maxHeartbeats 4000000
/-! Promises of defs for callers beneath which no guarded built-in runs: what repr of containers asks. -/
namespace L2
open PySem PySem.Spec PyProof.Rows
structure FnG (P : Program) (w : World) (K : PySem.W.Frag) (mg : Str → Option Value) (base : Heap) (CX : CXT) (k : Nat) (f : Addr) (fd : FuncData) (ps : List Str) (sp : Sp) : Prop where
  len : ∀ vs H Q E, sp vs H Q E → vs.length = ps.length
  go : ∀ (A : Around) (outer : List Env) (s : Shared) (H : Hp) (args : Args) (us : List Value) (vs : List V) (Q : VK) (E : XK), A.guards = some [] → Room k A → Env0 P w K mg base A outer s H →
    BindsTo s fd args (ps.zip us) → Vals vs us → sp vs H Q E → codeAny (model P w) A (.call (.ref f) args) (CR CX outer P w H s Q E) s
section
variable {P : Program} {w : World} {K : PySem.W.Frag} {mg : Str → Option Value} {base : Heap} {CX : CXT} {k : Nat} {f : Addr} {fd : FuncData} {ps : List Str} {sp : Sp}
theorem FnOk.g (F : FnOk P w K mg base CX k f fd ps sp) : FnG P w K mg base CX k f fd ps sp :=
  { len := F.len, go := fun A outer s H args us vs Q E _ => F.run A outer s H args us vs Q E }
theorem FnG.up {j : Nat} (F : FnG P w K mg base CX j f fd ps sp) (h : j ≤ k) : FnG P w K mg base CX k f fd ps sp :=
  { len := F.len, go := fun A outer s H args us vs Q E hg hr => F.go A outer s H args us vs Q E hg (hr.mono h) }
theorem Fun.okG {x qual : Str} {st : Stmt} {N : List Str} (F : Fun K x qual st f fd) (S : FnScope N ps (defScope st)) (len : ∀ vs H Q E, sp vs H Q E → vs.length = ps.length)
    (body : ∀ (cdv : Value) (A : Around) (outer : List Env) (s : Shared) (H : Hp) (vs : List V) (Q : VK) (E : XK), (A.deeper (envOfC qual (defScope st) s.heap.objs.size f cdv)).guards = some [] →
      Room k (A.deeper (envOfC qual (defScope st) s.heap.objs.size f cdv)) → sp vs H Q E →
      ∃ t, PSs (cxOf CX0 P w K mg base N qual (defScope st) f cdv A outer s H E).nox (defBody st) t ∧ t { nx := fun _ H' => Q .non H', rt := Q } (start N vs) H) : FnG P w K mg base CX0 (k + 1) f fd ps sp := by
  obtain ⟨oc, od, kV, doc, pm, an, cdv, ct, osl, rfl, lk, hcd⟩ := F.ex
  refine { len := len, go := fun A outer s H args us vs Q E hg hr e0 hb r hsp => ?_ }
  have up := fun b o e => (e0.bs b o e).1
  refine Att.call_fn (e0.mod.kin.keeps up) (e0.mod.nolimit.keeps up) lk hcd hr.depth hb ?_ (fun s1 ic => ?_) S.co S.gen S.kind
  · refine List.all_eq_true.mpr fun y hy => ?_
    obtain ⟨n, v⟩ := y
    rcases S.par n (List.of_mem_zip hy).1 with q | q <;> (dsimp only; rw [q]; rfl)
  · obtain ⟨t, ht, hq⟩ := body cdv A outer s H vs Q E hg (hr.deeper _) hsp
    have I := inv_start (CX := CX0) (E := E) S hr.hd e0 (len _ _ _ _ hsp) r ic
    refine wpAny_mono (ht.nox.run [] s1 _ H _ I hq) (fun fl s2 h => ?_) fun _ _ h => h
    cases fl with
    | ret u =>
      obtain ⟨v, _, H2, J, rv, h⟩ := h
      exact ⟨v, H2, J.os, J.bare, J.base, J.hok, rv, h⟩
    | next =>
      obtain ⟨_, H2, J, h⟩ := h
      exact ⟨.non, H2, J.os, J.bare, J.base, J.hok, rfl, h⟩
    | brk => obtain ⟨_, _, _, h⟩ := h; exact h.elim
    | cont => obtain ⟨_, _, _, h⟩ := h; exact h.elim
end
/-- the abstract heap of the script alone -/
theorem script_heap {P : Program} {w : World} {K : PySem.W.Frag} {h : Heap} {a : Addr} {vs : List Value} {ns : List Int} (X : K.In h) (ha : h.get? a = some { cls := .type "list", data := .seq vs.toArray }) (hi : IntsAre vs ns) (hl : ns.length ≤ sizeLine) :
    ∃ H : Hp, SqL K H a (ns.map V.int) ∧ HOk P w H h ∧ ∀ b u, H b = some u → b = a ∧ K.lookup a = none ∧ ∃ o xs, u = .frz o (.lst xs) := by
  have rv := vals_ints hi
  by_cases n : K.lookup a = none
  · refine ⟨fun b => if b = a then some (.frz { cls := .type "list", data := .seq vs.toArray } (.lst (ns.map V.int))) else none, .inl (.inr ⟨_, if_pos rfl⟩), fun b u z => ?_, fun b u z => ?_⟩
    all_goals
      dsimp only at z
      split at z
      case isFalse => cases z
      rename_i eb
      cases z
    · subst eb
      exact ⟨ha, by rw [List.length_map]; exact hl, vs, 0, rv, ha⟩
    · exact ⟨eb, n, _, _, rfl⟩
  · obtain ⟨o, ho⟩ := Option.ne_none_iff_exists'.mp n
    have e := (X a o ho).symm.trans ha
    cases e
    exact ⟨fun _ => none, .inr ⟨_, vs.toArray, _, ho, rfl, rfl, rfl, by rw [List.size_toArray, hi.length]; exact hl, rv⟩, fun _ _ z => (nomatch z), fun _ _ z => (nomatch z)⟩
/-- the law's def, called on the script -/
theorem law_callG {P : Program} {w : World} {K : PySem.W.Frag} {mg mb : Str → Option Value} {k : Nat} {fa a : Addr} {fd : FuncData} {x : Str} {sp : Sp} {s1 : Shared} {vs : List Value} {ns : List Int} (KX : K.In s1.heap) (hns : s1.heap.Ns mainGlobals mg)
    (hb : s1.heap.Ns builtinsNs mb ∧ ∀ y : Str, y ≠ "__name__" → mb y = bootBuiltins y) (hlim : s1.heap.NoLimit) (hg : s1.gens = #[]) (ha : s1.heap.get? a = some { cls := .type "list", data := .seq vs.toArray }) (hi : IntsAre vs ns) (hl : ns.length ≤ sizeLine)
    (hr : Room k callerA) (F : ∀ b0 : Heap, K.In b0 → b0.Ns mainGlobals mg → FnG P w K mg b0 CX0 k fa fd [x] sp) (bind : ∀ (s : Shared) (u : Value), BindsTo s fd ⟨[u], []⟩ [(x, u)])
    (hsp : ∀ H : Hp, Only H → SqL K H a (ns.map V.int) → sp [.ref a] H (fun v _ => v = .bl true) fun _ _ _ => False) (noX : ∀ H e s', CX0 [] H s1 (fun _ _ _ => False) e s' → False) :
    codeAny (model P w) callerA (.call (.ref fa) ⟨[.ref a], []⟩) (fun r s' => r = .ok (.ret (.bool true)) ∧ OldK s1.heap s'.heap ∧ s'.os = s1.os ∧ AllBare s'.gens) s1 := by
  obtain ⟨H, hS, hok, hA⟩ := script_heap (P := P) (w := w) KX ha hi hl
  have tell : ∀ b, H b = none ∨ b = a ∧ K.lookup a = none ∧ ∃ o xs, H b = some (.frz o (.lst xs)) := fun b => by
    cases q : H b with
    | none => exact .inl rfl
    | some u =>
      obtain ⟨e1, e2, o, xs, e3⟩ := hA b u q
      exact .inr ⟨e1, e2, o, xs, by rw [e3]⟩
  have only : Only H := fun b => (tell b).imp id fun z => z.2.2
  have low : ∀ {b : Addr} {m : Str → Option Value}, s1.heap.Ns b m → (hidT s1.heap H).Ns b m := fun {b m} n => by
    obtain ⟨o, es, ep, e, d, r⟩ := n
    refine ⟨o, es, ep, hidT_get e ?_, d, r⟩
    rcases tell b with z | ⟨z, _⟩
    · exact z
    · rw [z, ha] at e
      cases e
      cases d
  have kin : K.In (hidT s1.heap H) := fun b o e => hidT_get (KX b o e) ((tell b).elim id fun z => by
    rw [z.1, z.2.1] at e
    cases e)
  obtain ⟨mc, l1, l2⟩ := hlim
  have e0 : Env0 P w K mg (hidT s1.heap H) callerA [] s1 H :=
    { frames := rfl, mod := { kin := kin, glob := low hns, blt := ⟨mb, low hb.1, hb.2⟩, nolimit := ⟨mc, low l1, l2⟩ }, bs := fun _ _ e => of_hidT e, bsz := Nat.le_of_eq (hidT_size _ _), funs := trivial, frf := fun _ z => (nomatch z), hok := hok, bare := .of_eq hg }
  refine codeAny_mono ((F _ kin (low hns)).go callerA [] s1 H _ [.ref a] [.ref a] _ _ rfl hr e0 (bind s1 (.ref a)) (.cons rfl .nil) (hsp H only hS)) fun r s2 h => ?_
  rcases r with e | fl
  · exact (noX H e s2 h).elim
  rcases fl with _ | _ | _ | u <;> try exact False.elim h
  obtain ⟨v, H2, os, bare, un, ok2, rv, q⟩ := h
  cases (q : v = .bl true)
  cases (rv : u = Value.bool true)
  refine ⟨rfl, OldK.of_keep fun b o e => ?_, os, bare⟩
  rcases tell b with z | ⟨_, _, ob, xs, z⟩
  · exact un.keep b o e z (fun y => by cases y) fun y => by cases y
  · have k1 := (hok b _ z).1
    rw [← e, k1] at *
    exact (ok2 b _ (un.frzs b ob _ z)).1
theorem walk_ofG {l : PySem.W.OpenLaw} {n k : Nat} {q : Program} {loose : List Str} {XP : (Str → Option Value) → Heap → Prop} {YP : World → Heap → Prop} {d : DefRec} {K : Params → PySem.W.Frag} {sp : PySem.W.Frag → Sp} {x : Str} (hn : l.most = some n) (hn2 : n ≤ sizeLine)
    (hdf : d.params.defaults = []) (hr : Room k callerA) (hY : ∀ (w : World) (h : Heap), YP w h → (K w.params).In h)
    (F : ∀ (w : World) (mg : Str → Option Value) (fa : Addr) (h : Heap), (K w.params).In h → h.Ns mainGlobals mg → mg d.name = some (.ref fa) → ∃ fd : FuncData, (∀ (s : Shared) (u : Value), BindsTo s fd ⟨[u], []⟩ [(x, u)]) ∧
      ∀ b0 : Heap, (K w.params).In b0 → b0.Ns mainGlobals mg → FnG l.prog w (K w.params) mg b0 CX0 k fa fd [x] (sp (K w.params)))
    (hsp : ∀ (K : PySem.W.Frag) (H : Hp) (a : Addr) (ns : List Int), ns.length ≤ n → Only H → SqL K H a (ns.map V.int) → sp K [.ref a] H (fun v _ => v = .bl true) fun _ _ _ => False)
    (noX : ∀ (H : Hp) (s : Shared) (e : Value) (s' : Shared), CX0 [] H s (fun _ _ _ => False) e s' → False) : PySem.W.WalkO q loose XP YP l.row.toRowW d [] (fun f vs => PySem.call f vs) := by
  refine Att.attach_call hn hdf fun w s0 s1 mg mb fa o pm cd doc a vs ns G Y _ _ _ hmg hobj hints hlen hg => ?_
  obtain ⟨fd, hb, hF⟩ := F w mg fa _ (hY w _ Y) G.T.g hmg
  exact law_callG (hY w _ Y) G.T.g ⟨G.T.b, G.T.builtins⟩ G.T.nolimit hg hobj hints (Nat.le_trans hlen hn2) hr hF hb (fun H => hsp _ H a ns hlen) fun H => noX H s1
end L2

set_option Elab.async false
set_option linter.all false
set_option maxRecDepth 100000
set_option maxHeartbeats 4000000
/-! Own `in`, `len`, `==` of an own class whose instances have a dict; calls of defs that ask for no guarded built-in beneath. -/
namespace L2
open PySem PySem.Spec PyProof.Rows
section
variable {X : Cx} {CX : CXT} {k : Nat} {f C : Addr} {fd : FuncData} {ps : List Str} {sp : Sp} {E : XK}
theorem run_in1 {pins : List (Addr × Obj)} {σ : St} {H : Hp} {s : Shared} {Q : VK} {us : List Value} {vs : List V} (F : FnOk X.prog X.w X.K X.mg X.base CX k f fd ps sp) (hr : Room (k + 1) X.A) (hb : Binds X.K fd ps []) (hx : Passes CX X E)
    (I : Inv X pins σ H s) (r : Vals vs us) (h : sp vs H Q E) : wpAny (model X.prog X.w) X.A.in1 (call (.ref f) us) (EP X pins σ Q) X.xe s := by
  have len : us.length = ps.length := r.length.symm.trans (F.len _ _ _ _ h)
  have b := hb s us I.kIn (by rw [List.append_nil]; exact len)
  rw [List.append_nil] at b
  refine wpAny_call (codeAny_mono (F.run X.A.in1 X.stack s H ⟨us, []⟩ us vs Q E hr.in1 I.env0.in1 b r h) fun z s2 q => ?_)
  rcases z with e | fl
  · exact hx pins σ H s e s2 I q
  · rcases fl with _ | _ | _ | u <;> first | exact False.elim q | exact I.after q
theorem truthy_bl {M : Model} {A : Around} {E' : Value → Shared → Prop} {s : Shared} {b : Bool} {Q : Bool → Shared → Prop} (q : Q b s) : wpAny M A (truthy (.bool b)) Q E' s := by
  wp_walk
  exact q
/-- x in o, o an instance with an own __contains__ -/
def rInOwn (C : Addr) (sp : Sp) (E : XK) (neg : Bool) : R2 := fun x y H Q => ∃ (a dx : Addr) (fs : List (Str × V)), y = .ref a ∧ H a = some (.ins C dx fs) ∧ sp [.ref a, x] H (fun v H2 => ∃ b, v = .bl b ∧ Q (.bl (b != neg)) H2) E
theorem op_inOwn (hs : PySem.W.findIn X.K (.ref C) "__contains__" = some (some (.ref f))) (hf : PySem.W.isFn X.K (.ref f) = true) (F : FnOk X.prog X.w X.K X.mg X.base CX k f fd ps sp) (hr : Room k X.A) (hb : Binds X.K fd ps []) (hx : Passes CX X E) :
    OpR X (compareOp .In) (rInOwn C sp E false) := by
  intro pins s σ H x y v u Q I rx ry h
  obtain ⟨a, dx, fs, rfl, ea, q⟩ := h
  cases ry
  obtain ⟨mA, O, _, _, _, _⟩ := ins_get I.hok ea
  obtain ⟨od, J, _⟩ := O.look
  obtain ⟨m, hF⟩ := I.fr
  refine PySem.W.in_K hF I.ok.mod.kin J hs hf (wpAny_mono (run_fn (ds := []) (dvs := []) (vs := [.ref a, x]) (us := [.ref a, v]) F hr hb .nil hx I (.cons rfl (.cons rx .nil)) q) (fun r s2 z => ?_) fun _ _ z => z)
  obtain ⟨w', H2, I2, rw', b, rfl, q2⟩ := z
  cases rw'
  rw [Bool.bne_false] at q2
  exact truthy_bl ⟨.bl b, H2, I2, rfl, q2⟩
theorem op_notInOwn (hs : PySem.W.findIn X.K (.ref C) "__contains__" = some (some (.ref f))) (hf : PySem.W.isFn X.K (.ref f) = true) (F : FnOk X.prog X.w X.K X.mg X.base CX k f fd ps sp) (hr : Room k X.A) (hb : Binds X.K fd ps []) (hx : Passes CX X E) :
    OpR X (compareOp .NotIn) (rInOwn C sp E true) := by
  intro pins s σ H x y v u Q I rx ry h
  obtain ⟨a, dx, fs, rfl, ea, q⟩ := h
  cases ry
  obtain ⟨mA, O, _, _, _, _⟩ := ins_get I.hok ea
  obtain ⟨od, J, _⟩ := O.look
  obtain ⟨m, hF⟩ := I.fr
  refine PySem.W.notIn_K hF I.ok.mod.kin J hs hf (wpAny_mono (run_fn (ds := []) (dvs := []) (vs := [.ref a, x]) (us := [.ref a, v]) F hr hb .nil hx I (.cons rfl (.cons rx .nil)) q) (fun r s2 z => ?_) fun _ _ z => z)
  obtain ⟨w', H2, I2, rw', b, rfl, q2⟩ := z
  cases rw'
  rw [Bool.bne_true] at q2
  exact truthy_bl ⟨.bl (!b), H2, I2, rfl, q2⟩
/-- len(o), o an instance with an own __len__ -/
def rLenOwn (C : Addr) (sp : Sp) (E : XK) : List V → Hp → VK → Prop := fun xs H Q => ∃ (a dx : Addr) (fs : List (Str × V)), xs = [.ref a] ∧ H a = some (.ins C dx fs) ∧ sp [.ref a] H (fun v H2 => ∃ n : Nat, v = .int n ∧ n ≤ 1000000 ∧ Q (.int n) H2) E
theorem call_lenOwn (hs : PySem.W.findIn X.K (.ref C) "__len__" = some (some (.ref f))) (hf : PySem.W.isFn X.K (.ref f) = true) (F : FnOk X.prog X.w X.K X.mg X.base CX k f fd ps sp) (hr : Room (k + 1) X.A) (hb : Binds X.K fd ps []) (hx : Passes CX X E) :
    CallR X (.builtin "len") (rLenOwn C sp E) := by
  intro pins s σ H xs us Q I r h
  obtain ⟨a, dx, fs, rfl, ea, q⟩ := h
  obtain ⟨u, rfl, ru⟩ := vals1 r
  cases ru
  obtain ⟨mA, O, _, _, _, _⟩ := ins_get I.hok ea
  obtain ⟨od, J, _⟩ := O.look
  obtain ⟨m, hF⟩ := I.fr
  refine PySem.W.len_K hF I.ok.mod.kin J hs hf (wpAny_mono (run_in1 (vs := [.ref a]) (us := [.ref a]) F hr hb hx I (.cons rfl .nil) q) (fun r s2 z => ?_) fun _ _ z => z)
  obtain ⟨w', H2, I2, rw', n, rfl, hn, q2⟩ := z
  obtain ⟨t, rfl⟩ := rw'
  exact ⟨⟨by omega, by omega⟩, .int n, H2, I2.tok _, ⟨_, rfl⟩, q2⟩
/-- how an object's class is known: an instance with a dict, or a list -/
inductive ClsOf (H : Hp) (b : Addr) : Value → Prop where
  | ins {C dx : Addr} {fs : List (Str × V)} (e : H b = some (.ins C dx fs)) : ClsOf H b (.ref C)
  | lst {xs : List V} (e : H b = some (.lst xs)) : ClsOf H b (.type "list")
theorem ClsOf.looks {pins : List (Addr × Obj)} {σ : St} {H : Hp} {s : Shared} {b : Addr} {tb : Value} (I : Inv X pins σ H s) (c : ClsOf H b tb) : PySem.W.Looks (model X.prog X.w) s.heap (typeOf (.ref b)) tb := by
  cases c with
  | ins e =>
    obtain ⟨mA, O, _, _, _, _⟩ := ins_get I.hok e
    obtain ⟨od, J, _⟩ := O.look
    exact J.type
  | lst e =>
    obtain ⟨_, its, n, _, ho⟩ := I.hok b _ e
    exact fun A Q E s k q => wpAny_typeOf_ref (k _ _ ho) q
/-- x == y, x an instance with an own __eq__ -/
def rEqOwn (K : PySem.W.Frag) (C : Addr) (sp : Sp) (E : XK) : R2 := fun x y H Q => ∃ (a dx b : Addr) (fs : List (Str × V)) (tb : Value), x = .ref a ∧ y = .ref b ∧ H a = some (.ins C dx fs) ∧ ClsOf H b tb ∧ PySem.W.notFirst K C tb = true ∧ sp [.ref a, .ref b] H (fun v H2 => ∃ c, v = .bl c ∧ Q (.bl c) H2) E
theorem op_eqOwn (hs : PySem.W.findIn X.K (.ref C) "__eq__" = some (some (.ref f))) (hf : PySem.W.isFn X.K (.ref f) = true) (F : FnOk X.prog X.w X.K X.mg X.base CX k f fd ps sp) (hr : Room k X.A) (hb : Binds X.K fd ps []) (hx : Passes CX X E) :
    OpR X (compareOp .Eq) (rEqOwn X.K C sp E) := by
  intro pins s σ H x y v u Q I rx ry h
  obtain ⟨a, dx, b, fs, tb, rfl, rfl, ea, cb, nf, q⟩ := h
  cases rx
  cases ry
  obtain ⟨mA, O, _, _, _, _⟩ := ins_get I.hok ea
  obtain ⟨od, J, _⟩ := O.look
  obtain ⟨m, hF⟩ := I.fr
  refine PySem.W.cmp_K (op := .Eq) (tb := tb) hr.units0 hF I.ok.mod.kin J (cb.looks I) nf hs hf ?_
  refine wpAny_mono (run_fn (ds := []) (dvs := []) (vs := [.ref a, .ref b]) (us := [.ref a, .ref b]) F hr hb .nil hx I (.cons rfl (.cons rfl .nil)) q) (fun w' s2 z => ?_) fun _ _ z => z
  obtain ⟨w2, H2, I2, rw', c, rfl, q2⟩ := z
  cases rw'
  exact ⟨.bl c, H2, I2, rfl, q2⟩
end
section
variable {X : Cx} {CX : CXT} {k : Nat} {f : Addr} {fd : FuncData} {ps : List Str} {sp : Sp} {E : St → XK} {x : Str} {p pos : Pos} {e : Expr} {es : List Expr} {t : TA}
/-- f(e, ..), f a def that asks that no guarded built-in runs beneath -/
def tCallG (sp : Sp) (E : St → XK) (t : TA) : TE := fun σ H Q => t σ H fun vs H1 => sp vs H1 Q (E σ)
theorem pe_callG (F : FnG X.prog X.w X.K X.mg X.base CX k f fd ps sp) (hgd : X.A.guards = some []) (hr : Room k X.A) (hg : Gl X x) (hm : X.mg x = some (.ref f)) (hk : PySem.W.keepIn X.K (.ref f) = true) (hb : Binds X.K fd ps []) (hx : ∀ σ, Passes CX X (E σ))
    (ha : PA X (e :: es) t) (hdb : (x == ("__debug__" : Str)) = false := by decide) (he : starEach (e :: es) X.env = (false, eval e X.env) :: starEach es X.env := by rfl) (hpl : (backTo pos (starEach es X.env)).any (·.1) = false := by rfl) :
    PE X (.Call (.Name x p) (e :: es) [] pos) (tCallG sp E t) := by
  constructor
  intro pins s σ H Q I h
  refine wpAny_Call_Name_kw (ld_glob I hg hm ?_ hdb)
  refine PySem.W.callWith_K (h₀ := X.base) I.ok.mod.kin hk (thn (ha.run pos pins s σ H _ I h) fun us s1 q0 => ?_) he hpl
  obtain ⟨vs, H1, I1, r, q⟩ := q0
  have len : us.length = ps.length := r.length.symm.trans (F.len _ _ _ _ q)
  have b := hb s1 us I1.kIn (by rw [List.append_nil]; exact len)
  rw [List.append_nil] at b
  refine ⟨I1.kIn, wpAny_call (codeAny_mono (F.go X.A X.stack s1 H1 ⟨us, []⟩ us vs Q (E σ) hgd hr I1.env0 b r q) fun z s2 q2 => ?_)⟩
  rcases z with er | fl
  · exact hx σ pins σ H1 s1 er s2 I1 q2
  · rcases fl with _ | _ | _ | u <;> first | exact False.elim q2 | exact I1.after q2
end
end L2
namespace L2
open PySem PySem.Spec PyProof.Rows
section
variable {X : Cx} {CX : CXT} {k : Nat} {f C : Addr} {fd : FuncData} {ps : List Str} {sp : Sp} {E : XK}
/-- object.__ne__ of an instance with an own __eq__ -/
theorem ne_entry {A : Around} {E' : Value → Shared → Prop} {s : Shared} {x : Addr} {b : Value} {ox : Obj} {od : Option Obj} {Q : Fin → Shared → Prop} (XK : X.K.In s.heap) (J : PySem.W.InstAt s.heap x ox C od) (hu : A.units < cLine)
    (hs : PySem.W.findIn X.K (.ref C) "__eq__" = some (some (.ref f))) (hf : PySem.W.isFn X.K (.ref f) = true)
    (h : wpAny (model X.prog X.w) A (call (.ref f) [.ref x, b]) (fun v s2 => ∃ c, v = .bool c ∧ Q (.done (.ret (.bool (!c)))) s2) E' s) : wpAny (model X.prog X.w) A (Builtin.«object.__ne__» ⟨[.ref x, b], []⟩) Q E' s := by
  have one : wpAny (model X.prog X.w) A (callSpecialIfBound? (.ref x) "__eq__" [b]) (fun r s2 => ∃ c, r = some (.bool c) ∧ Q (.done (.ret (.bool (!c)))) s2) E' s :=
    PySem.W.ifBound_K XK J hs hf (wpAny_mono h (fun v s2 hv => by obtain ⟨c, e, q⟩ := hv; exact ⟨c, by rw [e], q⟩) fun _ _ z => z)
  unfold Builtin.«object.__ne__»
  repeat (first
    | with_reducible refine wpAny_cRoomFor hu ?_
    | refine wpAny_bind (m := callSpecialIfBound? (.ref x) (Str.ofString "__eq__") [b]) (wpAny_mono one (fun r s2 hr => ?_) fun _ _ z => z)
    | wp_step)
  obtain ⟨c, rfl, q⟩ := hr
  repeat (first | exact q | exact wpAny_pure q | refine wpAny_bind (m := truthy (.bool _)) (truthy_bl ?_) | wp_step)
/-- x != y, two instances of a class with an own __eq__ and no own __ne__ -/
def rNeOwn (C : Addr) (sp : Sp) (E : XK) : R2 := fun x y H Q => ∃ (a dx b dy : Addr) (fs gs : List (Str × V)), x = .ref a ∧ y = .ref b ∧ H a = some (.ins C dx fs) ∧ H b = some (.ins C dy gs) ∧ sp [.ref a, .ref b] H (fun v H2 => ∃ c, v = .bl c ∧ Q (.bl (!c)) H2) E
theorem op_neOwn (hs : PySem.W.findIn X.K (.ref C) "__eq__" = some (some (.ref f))) (hn : PySem.W.findIn X.K (.ref C) "__ne__" = some (some (.builtin "object.__ne__"))) (hm : PySem.W.mroIn X.K C (.type "object") = some true)
    (hf : PySem.W.isFn X.K (.ref f) = true) (F : FnOk X.prog X.w X.K X.mg X.base CX k f fd ps sp) (hr : Room (k + 1) X.A) (hb : Binds X.K fd ps []) (hx : Passes CX X E) : OpR X (compareOp .NotEq) (rNeOwn C sp E) := by
  intro pins s σ H x y v u Q I rx ry h
  obtain ⟨a, dx, b, dy, fs, gs, rfl, rfl, ea, eb, q⟩ := h
  cases rx
  cases ry
  obtain ⟨mA, O, _, _, _, _⟩ := ins_get I.hok ea
  obtain ⟨od, J, _⟩ := O.look
  obtain ⟨mB, O2, _, _, _, _⟩ := ins_get I.hok eb
  obtain ⟨od2, J2, _⟩ := O2.look
  have un := hr.un
  have inst : PySem.W.Looks (model X.prog X.w) s.heap (isInstance (.ref a) (.type "object")) true := J.type.andThen (PySem.W.looks_mroIn I.kIn hm)
  have look : PySem.W.Looks (model X.prog X.w) s.heap (specialOf (.ref a) "__ne__") (some (.builtin "object.__ne__")) := J.type.andThen (PySem.W.looks_findIn I.kIn hn)
  have body : wpAny (model X.prog X.w) X.A (call (.builtin "object.__ne__") [.ref a, .ref b]) (fun v s2 => ∃ c, v = .bool c ∧ EP X pins σ Q (.bool c) s2) X.xe s := by
    refine wpAny_call (codeAny_call_builtin (by decide +kernel) PySem.F.cmpEntry_ne (PySem.W.check_slot PySem.F.cmpKind_ne PySem.F.cmpSplit_ne inst (PySem.F.cmpArgs_ne _ _) ?_))
    refine ne_entry (A := X.A.in1) I.kIn J (by show X.A.units + 1 < cLine; omega) hs hf (wpAny_mono (run_in1 (vs := [.ref a, .ref b]) (us := [.ref a, .ref b]) F hr hb hx I (.cons rfl (.cons rfl .nil)) q) (fun w2 s2 z => ?_) fun _ _ z => z)
    obtain ⟨w3, H2, I2, rw3, c, rfl, q2⟩ := z
    cases rw3
    exact ⟨c, rfl, !c, rfl, .bl (!c), H2, I2, rfl, q2⟩
  have asked : wpAny (model X.prog X.w) X.A (tryCompare (.ref a) "__ne__" (.ref b)) (fun r s2 => ∃ c, r = some (.bool c) ∧ EP X pins σ Q (.bool c) s2) X.xe s := by
    unfold tryCompare
    refine wpAny_bind (NtL.csib look (PySem.F.slot_range_iterator_ne.bind _) (wpAny_mono body (fun v s2 hv => ?_) fun _ _ z => z))
    obtain ⟨c, rfl, q2⟩ := hv
    exact wpAny_pure ⟨c, rfl, q2⟩
  unfold compareOp
  clear body q
  unfold richCompare
  simp only [oneThing_ref]
  refine wpAny_holding (wpAny_bind (wpAny_cRoomFor (by omega) ?_))
  rw [cmpInfo_NotEq]
  refine wpAny_bind (J.type.here (wpAny_bind (J2.type.here ?_)))
  rw [if_neg (by simp : ¬ (Value.ref C != Value.ref C) = true)]
  refine wpAny_bind (wpAny_pure ?_)
  rw [if_neg Bool.false_ne_true]
  refine wpAny_bind (wpAny_mono asked (fun r s2 hr2 => ?_) fun _ _ z => z)
  obtain ⟨c, rfl, q2⟩ := hr2
  exact wpAny_pure q2
end
end L2

set_option Elab.async false
set_option linter.all false
set_option maxRecDepth 100000
set_option maxHeartbeats 4000000
/-! repr of a list of data. -/
namespace L2
open PySem PySem.Spec PyProof.Rows
def keyD : Key → PyData
  | .inl i => .int i
  | .inr x => .str x
theorem pairs_data {P : Program} {w : World} {h : Heap} : ∀ {es : List DictEntry} {vs : List (Key × Value)} {kvs : List (Key × Int)}, Pairs (mixKind P w) es vs → KV (kvs.map fun p => (p.1, V.int p.2)) vs →
    ReadsAll h (es.map (·.key)) (kvs.map fun p => keyD p.1) [] ∧ ReadsAll h (es.map (·.val)) (kvs.map fun p => PyData.int p.2) []
  | _, _, [], p, r => by
    cases r
    cases p
    exact ⟨.nil, .nil⟩
  | _, _, (k, i) :: l, p, r => by
    cases r with
    | cons r1 r2 =>
      cases p with
      | cons p1 p2 p3 =>
        obtain ⟨e1, t, e2⟩ := r1
        obtain ⟨q1, q2⟩ := pairs_data p3 r2
        dsimp only at e1 e2
        refine ⟨.cons (as := []) (bs := []) ?_ q1, .cons (as := []) (bs := []) ?_ q2⟩
        · rw [← e1] at p1
          rcases keyIs_shape p1 with ⟨j, u, ek, ev⟩ | ⟨y, u, ek, ev⟩
          · dsimp only
            rw [ev, show k = _ from ek]
            exact .int j u
          · dsimp only
            rw [ev, show k = _ from ek]
            exact .str y u
        · dsimp only
          rw [p2, e2]
          exact .int i t
/-- data: without dicts, or one dict of whole numbers -/
def Dd (K : PySem.W.Frag) (H : Hp) (v : V) (d : PyData) : Prop := (Dp K H v d ∧ d.hasDict = false) ∨
  ∃ (b : Addr) (kvs : List (Key × Int)), v = .ref b ∧ H b = some (.dK (kvs.map fun p => (p.1, V.int p.2))) ∧ d = .dict ((kvs.map fun p => keyD p.1).zip (kvs.map fun p => PyData.int p.2))
section
variable {X : Cx} {pins : List (Addr × Obj)} {σ : St} {H : Hp} {s : Shared}
theorem Dd.reads {v : V} {d : PyData} {u : Value} (I : Inv X pins σ H s) (D : Dd X.K H v d) (r : RelV v u) : ∃ as, Reads s.heap u d as ∧ (d.hasDict = true → sysModules ∉ as) := by
  rcases D with ⟨D, n⟩ | ⟨b, kvs, rfl, e, rfl⟩
  · obtain ⟨as, q⟩ := Dp.reads I d v u D r
    exact ⟨as, q, fun z => by rw [n] at z; cases z⟩
  · cases r
    obtain ⟨_, ns, vs, kv, o, es, ep, ho, hx, hd, _, pr, _⟩ := I.hok b _ e
    obtain ⟨q1, q2⟩ := pairs_data (h := s.heap) pr kv
    refine ⟨b :: [] ++ [], Reads.dict ho hx.1 hd ?_ ?_, fun _ z => ?_⟩
    · rw [List.map_fst_zip (by simp)]
      exact q1
    · rw [List.map_snd_zip (by simp)]
      exact q2
    · simp only [List.append_nil, List.mem_singleton] at z
      rw [← z] at ns
      simp at ns
theorem dd_all {d : PyData} (I : Inv X pins σ H s) : ∀ {vs : List V} {us : List Value}, (∀ v ∈ vs, Dd X.K H v d) → Vals vs us → ∃ as, ReadsAll s.heap us (List.replicate vs.length d) as ∧ (d.hasDict = true → sysModules ∉ as)
  | _, _, _, .nil => ⟨[], .nil, fun _ z => nomatch z⟩
  | _, _, D, .cons r1 r2 => by
    obtain ⟨as, q1, n1⟩ := (D _ (List.mem_cons_self ..)).reads I r1
    obtain ⟨bs, q2, n2⟩ := dd_all I (fun v hv => D v (List.mem_cons_of_mem _ hv)) r2
    exact ⟨as ++ bs, .cons q1 q2, fun z => by rw [List.mem_append]; exact fun y => y.elim (n1 z) (n2 z)⟩
/-- repr(xs), a list whose items all are the same data -/
def rReprL (K : PySem.W.Frag) : List V → Hp → VK → Prop := fun xs H Q => ∃ (a : Addr) (ys : List V) (d : PyData), xs = [.ref a] ∧ H a = some (.lst ys) ∧ ys ≠ [] ∧ (∀ y ∈ ys, Dd K H y d) ∧ d.showable = true ∧ PyData.depthAll (List.replicate ys.length d) ≤ 100 ∧
  (listText (PyData.shownAll (List.replicate ys.length d))).length ≤ sizeLine ∧ Q (.str (listText (PyData.shownAll (List.replicate ys.length d)))) H
theorem show_rep (d : PyData) : ∀ n, PyData.showableAll (List.replicate n d) = true ∨ d.showable = false
  | 0 => .inl rfl
  | n + 1 => by
    cases e : d.showable with
    | false => exact .inr rfl
    | true =>
      rcases show_rep d n with z | z
      · exact .inl (by rw [List.replicate_succ, PyData.showableAll, e, z]; rfl)
      · rw [e] at z
        cases z
theorem dict_rep (d : PyData) : ∀ n, PyData.hasDictAll (List.replicate n d) = true → d.hasDict = true
  | 0, h => by cases h
  | n + 1, h => by
    rw [List.replicate_succ, PyData.hasDictAll, Bool.or_eq_true] at h
    exact h.elim id (dict_rep d n)
theorem call_reprL (hg : X.A.guards = some []) (hu : X.A.units + 200 < cLine) : CallR X (.builtin "repr") (rReprL X.K) := by
  intro pins s σ H xs us Q I r h
  obtain ⟨a, ys, d, rfl, e, hne, hd, hs, hdep, hz, q⟩ := h
  obtain ⟨u, rfl, ru⟩ := vals1 r
  cases ru
  obtain ⟨_, its, n, rv, ho⟩ := I.hok a _ e
  obtain ⟨as, ra, ns⟩ := dd_all I hd rv
  have sh : PyData.showableAll (List.replicate ys.length d) = true := (show_rep d _).resolve_right (by rw [hs]; simp)
  obtain ⟨bs, hb, hk⟩ := ReprAllK.of_readsAll (prog := X.prog) (w := X.w) ra sh (fun z => ns (dict_rep d _ z)) fun t ht => Nat.le_trans (listText_mem_le ht) hz
  have hna : a ∉ bs := not_mem_of_deeper (Reads.list ho rfl rfl (by exact ra)) (by simp only [PyData.depth]; omega) hb
  have ty : s.TypeIs (.ref a) "list" := ⟨_, ho, rfl⟩
  refine call_repr_slot (by omega) ty F.slot_list_repr.toG ?_
  cases its with
  | nil =>
    cases rv
    exact (hne rfl).elim
  | cons x l =>
    exact call_list_reprK ho rfl rfl hna hk.length_eq (fun i y z => hk.item i y (by simpa using z)) hg (fun b _ => Clear.nil b) (by show X.A.units + 1 + _ < cLine; omega) (fun _ _ z => z)
      (fun h' u tk k => ⟨_, _, rfl, .str _, H, I.kept (t' := tk) k, ⟨_, rfl⟩, q⟩) hz
end
end L2
namespace L2
open PySem PySem.Spec PyProof.Rows
section
variable {X : Cx}
/-- repr(x), x data without dicts -/
def rReprD (K : PySem.W.Frag) : List V → Hp → VK → Prop := fun xs H Q => ∃ (x : V) (d : PyData), xs = [x] ∧ Dp K H x d ∧ d.hasDict = false ∧ d.showable = true ∧ d.depth ≤ 100 ∧ d.shown.length ≤ sizeLine ∧ Q (.str d.shown) H
theorem call_reprD (hg : X.A.guards = some []) (hu : X.A.units + 200 < cLine) : CallR X (.builtin "repr") (rReprD X.K) := by
  intro pins s σ H xs us Q I r h
  obtain ⟨x, d, rfl, D, nd, sh, dep, hz, q⟩ := h
  obtain ⟨u, rfl, ru⟩ := vals1 r
  have whole : ∀ a, u = .ref a → wpAny (model X.prog X.w) X.A (call (.builtin "repr") [u]) (EP X pins σ Q) X.xe s := fun a e => by
    subst e
    obtain ⟨as, ra⟩ := Dp.reads I d x _ D ru
    exact repr_of_reads' ra sh (fun z => by rw [nd] at z; cases z) hg (by omega) (fun _ _ z => z) (fun h2 t tk k => ⟨.str d.shown, H, I.kept (t' := tk) k, ⟨_, rfl⟩, q⟩) hz
  cases D with
  | non =>
    cases ru
    simp only [PyData.shown] at q
    exact PySem.P.repr_of_none ⟨.str _, H, I.tok _, ⟨_, rfl⟩, q⟩
  | bl b =>
    cases ru
    simp only [PyData.shown] at q
    exact PySem.P.repr_of_bool ⟨.str _, H, I.tok _, ⟨_, rfl⟩, q⟩
  | int i =>
    obtain ⟨t, rfl⟩ := ru
    simp only [PyData.shown] at q
    exact PySem.P.repr_of_int (of_decide_eq_true (by simpa [PyData.showable] using sh)) ⟨.str _, H, I.tok _, ⟨_, rfl⟩, q⟩
  | str z =>
    obtain ⟨t, rfl⟩ := ru
    simp only [PyData.shown] at q hz
    exact PySem.P.repr_of_str ⟨.str _, H, I.tok _, ⟨_, rfl⟩, q⟩ hz
  | lst _ _ => exact whole _ ru
  | tup _ _ => exact whole _ ru
end
end L2

set_option Elab.async false
set_option linter.all false
set_option maxRecDepth 100000
set_option maxHeartbeats 4000000
/-! What the methods of a crowd promise. -/
namespace L2
open PySem PySem.Spec PyProof.Rows
def hasB (v : V) (zs : List Str) : Bool := match v with
  | .str z => decide (z ∈ zs)
  | _ => false
theorem inV_strs (z : Str) : ∀ zs : List Str, inV (.str z) (zs.map V.str) = decide (z ∈ zs)
  | [] => rfl
  | y :: zs => by
    have e := inV_strs z zs
    unfold inV at e ⊢
    rw [List.map_cons, List.any_cons, e]
    show ((y == z) || _) = _
    rw [Bool.eq_iff_iff]
    simp only [Bool.or_eq_true, beq_iff_eq, decide_eq_true_eq, List.mem_cons]
    exact or_congr_left eq_comm
theorem all_flat_strs (zs : List Str) : (zs.map V.str).all flatV = true := by
  rw [List.all_map]
  exact List.all_eq_true.mpr fun _ _ => rfl
theorem eqvAll_strs : ∀ zs ys : List Str, PyData.eqvAll (zs.map .str) (ys.map .str) = decide (zs = ys)
  | [], [] => rfl
  | [], _ :: _ => rfl
  | _ :: _, [] => rfl
  | z :: zs, y :: ys => by
    show PyData.eqvAll (PyData.str z :: _) (PyData.str y :: _) = _
    rw [PyData.eqvAll, eqvAll_strs zs ys, PyData.eqv, Bool.eq_iff_iff]
    simp
theorem eqv_strs (zs ys : List Str) : PyData.eqv (.list (zs.map .str)) (.list (ys.map .str)) = decide (zs = ys) := by
  rw [PyData.eqv, eqvAll_strs]
theorem lay_strs : ∀ {zs : List Str}, (∀ z ∈ zs, PyData.strOk z = true) → PyData.canLayAll0 (zs.map .str) = true
  | [], _ => rfl
  | z :: zs, h => by
    show PyData.canLayAll0 (PyData.str z :: _) = true
    rw [PyData.canLayAll0, PyData.canLay0, h z (List.mem_cons_self ..), lay_strs fun y hy => h y (List.mem_cons_of_mem _ hy)]
    rfl
theorem depth_strs : ∀ zs : List Str, PyData.depthAll (zs.map .str) ≤ 1
  | [] => by simp [PyData.depthAll]
  | z :: zs => by
    have := depth_strs zs
    simp only [List.map_cons, PyData.depthAll, PyData.depth]
    omega
theorem shaped_strs {zs : List Str} (h : ∀ z ∈ zs, PyData.strOk z = true) : SeqAt.shaped (.list (zs.map .str)) = true := by
  have := depth_strs zs
  unfold SeqAt.shaped
  rw [PyData.canLay0, lay_strs h, Bool.true_and]
  refine decide_eq_true ?_
  rw [PyData.depth]
  omega
theorem dp_strs {K : PySem.W.Frag} {H : Hp} : ∀ zs : List Str, DpAll K H (zs.map V.str) (zs.map PyData.str)
  | [] => .nil
  | z :: zs => .cons (.str z) (dp_strs zs)
structure Folk (zs : List Str) : Prop where
  ok : ∀ z ∈ zs, PyData.strOk z = true
  nd : zs.Nodup
  one : 1 ≤ zs.length
  most : zs.length ≤ 8
def CrowdOf (H : Hp) (C x : Addr) (zs : List Str) (m : Int) : Prop := CrowdAt H C x (zs.map V.str) m
theorem CrowdOf.same {H H2 : Hp} {C x : Addr} {zs : List Str} {m : Int} (s : Same H H2) (h : CrowdOf H C x zs m) : CrowdOf H2 C x zs m := CrowdAt.same s h
def spCrowdPeople (C : Addr) : Sp := fun vs H Q _ => ∃ (x : Addr) (zs : List Str) (m : Int), vs = [.ref x] ∧ CrowdOf H C x zs m ∧ zs.length ≤ 1000 ∧ ∀ H2 p, Same H H2 → H p = none → H2 p = some (.lst (zs.map V.str)) → Q (.ref p) H2
def spCrowdLen (C : Addr) : Sp := fun vs H Q _ => ∃ (x : Addr) (zs : List Str) (m : Int), vs = [.ref x] ∧ CrowdOf H C x zs m ∧ Q (.int zs.length) H
def spCrowdHas (K : PySem.W.Frag) (C : Addr) : Sp := fun vs H Q _ => ∃ (x : Addr) (v : V) (zs : List Str) (m : Int) (T : String), vs = [.ref x, v] ∧ CrowdOf H C x zs m ∧ TyN K H v T ∧ Q (.bl (hasB v zs)) H
def spCrowdEq (K : PySem.W.Frag) (C : Addr) : Sp := fun vs H Q _ => ∃ (x y : Addr) (zs : List Str) (m : Int), vs = [.ref x, .ref y] ∧ CrowdOf H C x zs m ∧ (∀ z ∈ zs, PyData.strOk z = true) ∧
  ((∃ ys n, CrowdOf H C y ys n ∧ (∀ z ∈ ys, PyData.strOk z = true) ∧ Q (.bl (decide (m = n) && decide (zs = ys))) H) ∨ ((∃ ys, H y = some (.lst ys)) ∧ Q (.bl false) H))
/-- a word that is asked for: it is there, or NotThere -/
def spNeed (K : PySem.W.Frag) (C CN : Addr) : Sp := fun vs H Q E => ∃ (x : Addr) (v : V) (zs : List Str) (m : Int) (T : String), vs = [.ref x, v] ∧ CrowdOf H C x zs m ∧ TyN K H v T ∧
  (hasB v zs = true → Q .non H) ∧ (hasB v zs = false → ∀ H2 d, Raised H H2 d "word" v → E (.ref CN) (some d) H2)
def spPlace (K : PySem.W.Frag) (C CN : Addr) : Sp := fun vs H Q E => ∃ (x : Addr) (v : V) (zs : List Str) (m : Int) (T : String), vs = [.ref x, v] ∧ CrowdOf H C x zs m ∧ TyN K H v T ∧
  (∀ i z, v = .str z → zs.idxOf z = i → z ∈ zs → Q (.int (i : Nat)) H) ∧ (hasB v zs = false → ∀ H2 d, Raised H H2 d "word" v → E (.ref CN) (some d) H2)
end L2
namespace L2
open PySem PySem.Spec PyProof.Rows
/-- an own class whose instances isinstance asks for -/
structure IsOwn (K : PySem.W.Frag) (C : Addr) : Prop where
  cl : Cls K C
  ha : PySem.W.findIn K (.ref C) "__class__" = some (some (.builtin "object.__class__"))
  hn : PySem.W.specialIn K (.builtin "object.__class__") "__get__" = some (some (.builtin "getset_descriptor.__get__"))
  ht : PySem.W.takesIn K (.builtin "object.__class__") = some true
  hm : PySem.W.mroIn K C (.type "object") = some true
theorem IsOwn.ty {K : PySem.W.Frag} {H : Hp} {a C dx : Addr} {fs : List (Str × V)} (i : IsOwn K C) (e : H a = some (.ins C dx fs)) : TyX K H (.ref a) (.ref C) := .base (.ins e i.cl i.ha i.hn i.ht i.hm)
theorem hasB_ty {K : PySem.W.Frag} {H : Hp} {v : V} {T : String} {zs : List Str} (t : TyN K H v T) (h : ¬ T = "str") : hasB v zs = false := by
  obtain ⟨ty, _⟩ := t
  cases v with
  | str z =>
    cases ty with
    | base b => cases b; exact absurd rfl h
  | _ => rfl
end L2
namespace L2
open PySem PySem.Spec PyProof.Rows
def isPairB (a b : V) (zs : List Str) : Bool := hasB a zs && (hasB b zs && !decide (a = b))
/-- a value that is asked whether it is a pair, and the answer -/
inductive PairArg (K : PySem.W.Frag) (H : Hp) (zs : List Str) : V → Bool → Prop where
  | no {v : V} {T : String} (t : TyN K H v T) (h : ¬ T = "tuple") : PairArg K H zs v false
  | len {p : Addr} {xs : List V} (e : H p = some (.tup xs)) (h : ¬ xs.length = 2) : PairArg K H zs (.ref p) false
  | two {p : Addr} {a b : V} {S T : String} (e : H p = some (.tup [a, b])) (s : TyN K H a S) (t : TyN K H b T) : PairArg K H zs (.ref p) (isPairB a b zs)
def spIsPair (K : PySem.W.Frag) (C : Addr) : Sp := fun vs H Q _ => ∃ (x : Addr) (v : V) (zs : List Str) (m : Int) (b : Bool), vs = [.ref x, v] ∧ CrowdOf H C x zs m ∧ PairArg K H zs v b ∧ Q (.bl b) H
end L2
namespace L2
open PySem PySem.Spec PyProof.Rows
def spCrowdIter (C : Addr) : Sp := fun vs H Q _ => ∃ (x dx l : Addr) (xs : List V) (m : Int), vs = [.ref x] ∧ H x = some (.ins C dx (crowdFs l m)) ∧ H l = some (.lst xs) ∧ ∀ it, H it = none → Q (.ref it) (upd H it (ItO l it 0))
end L2

set_option Elab.async false
set_option linter.all false
set_option maxRecDepth 100000
set_option maxHeartbeats 4000000
/-! A walk whose turns are anything, for comprehensions within comprehensions; the pairs of a crowd. -/
namespace L2
open PySem PySem.Spec PyProof.Rows
theorem nest_it {J : It} {n : Nat} {G : Hp → Prop} {Y : Nat → Hp → V → Hp → Prop} (w : Walk J n G Y) {B : V → Hp → (Hp → Prop) → Prop} {H0 : Hp} {Qd : Hp → Prop} (Pv : Nat → Hp → Prop) (h0 : Pv 0 H0) (hG : ∀ i H, i ≤ n → Pv i H → G H)
    (hs : ∀ i x H H', i < n → Pv i H → Y i H x H' → B x H' (Pv (i + 1))) (hd : ∀ H, Pv n H → Qd H) :
    ∃ W : Nat → Nat → Hp → Prop, (∃ m, W 0 m H0) ∧ ∀ i m H, W i m H → (J.stop i H ∧ Qd H) ∨ (J.go i H ∧ ∃ Nx : Hp → Prop, (∀ H', Nx H' → ∃ m', m' < m ∧ W (i + 1) m' H') ∧ ∀ x H', J.yld i H x H' → B x H' Nx) := by
  refine ⟨fun i m H => m = n - i ∧ i ≤ n ∧ Pv i H, ⟨n, rfl, Nat.zero_le _, h0⟩, fun i m H h => ?_⟩
  obtain ⟨rfl, hi, p⟩ := h
  rcases Nat.lt_or_ge i n with lt | ge
  · refine .inr ⟨w.goes i H lt (hG i H hi p), Pv (i + 1), fun H2 q => ⟨n - (i + 1), by omega, rfl, lt, q⟩, fun x H2 y => hs i x H H2 lt p (w.yields i H x H2 lt (hG i H hi p) y)⟩
  · obtain rfl : i = n := Nat.le_antisymm hi ge
    exact .inl ⟨w.stops H (hG i H hi p), hd H p⟩
def rowOf (zs : List Str) (a : Str) : List (Str × Str) := (zs.filter fun b => a ≠ b).map fun b => (a, b)
def pairsOf (zs : List Str) : List (Str × Str) := zs.flatMap (rowOf zs)
/-- a list of new tuples of two words, apart from D -/
def Tups (D : Addr) (H : Hp) (acc : List V) (ps : List (Str × Str)) : Prop := acc.length = ps.length ∧ ∀ (j : Nat) (y : V) (q : Str × Str), acc[j]? = some y → ps[j]? = some q → ∃ t, y = .ref t ∧ t ≠ D ∧ H t = some (.tup [.str q.1, .str q.2])
theorem Tups.but {D : Addr} {H H2 : Hp} {acc : List V} {ps : List (Str × Str)} (t : Tups D H acc ps) (b : But D H H2) : Tups D H2 acc ps := ⟨t.1, fun j y q h1 h2 => by
  obtain ⟨p, e, n, h⟩ := t.2 j y q h1 h2
  exact ⟨p, e, n, b _ _ n h⟩⟩
theorem Tups.add {D p : Addr} {H : Hp} {acc : List V} {ps : List (Str × Str)} {a b : Str} (t : Tups D H acc ps) (n : p ≠ D) (h : H p = some (.tup [.str a, .str b])) : Tups D H (acc ++ [.ref p]) (ps ++ [(a, b)]) := by
  refine ⟨by rw [List.length_append, List.length_append, t.1]; rfl, fun j y q h1 h2 => ?_⟩
  rcases Nat.lt_trichotomy j acc.length with c | c | c
  · rw [List.getElem?_append_left c] at h1
    rw [List.getElem?_append_left (by rw [← t.1]; exact c)] at h2
    exact t.2 j y q h1 h2
  · subst c
    rw [List.getElem?_append_right (Nat.le_refl _), Nat.sub_self] at h1
    rw [t.1, List.getElem?_append_right (Nat.le_refl _), Nat.sub_self] at h2
    cases h1
    cases h2
    exact ⟨p, rfl, n, h⟩
  · rw [List.getElem?_eq_none (by rw [List.length_append, List.length_singleton]; omega)] at h1
    cases h1
theorem pairs_take (zs : List Str) (i : Nat) (a : Str) (h : zs[i]? = some a) : (zs.take (i + 1)).flatMap (rowOf zs) = (zs.take i).flatMap (rowOf zs) ++ rowOf zs a := by
  rw [List.take_add_one, h, List.flatMap_append]
  simp
theorem row_take (zs : List Str) (a b : Str) (j : Nat) (h : zs[j]? = some b) : ((zs.take (j + 1)).filter fun c => a ≠ c) = ((zs.take j).filter fun c => a ≠ c) ++ (if a ≠ b then [b] else []) := by
  rw [List.take_add_one, h, List.filter_append]
  congr 1
  by_cases e : a = b
  · subst e
    simp
  · simp [e]
def spCrowdPairs (C : Addr) : Sp := fun vs H Q _ => ∃ (x : Addr) (zs : List Str) (m : Int), vs = [.ref x] ∧ CrowdOf H C x zs m ∧ zs.length ≤ 8 ∧ ∀ H2 p ys, Same H H2 → H p = none → H2 p = some (.lst ys) → Tups p H2 ys (pairsOf zs) → Q (.ref p) H2
theorem pairs_len {zs : List Str} (h : zs.length ≤ 8) : ∀ {ys : List Str}, ys.length ≤ 8 → (ys.flatMap (rowOf zs)).length ≤ 64 := fun {ys} hy => by
  have key : ∀ l : List Str, (l.flatMap (rowOf zs)).length ≤ 8 * l.length := fun l => by
    induction l with
    | nil => simp
    | cons a l ih =>
      rw [List.flatMap_cons, List.length_append, List.length_cons]
      have : (rowOf zs a).length ≤ 8 := by
        unfold rowOf
        rw [List.length_map]
        exact Nat.le_trans (List.length_filter_le _ _) h
      omega
  have := key ys
  omega
end L2
namespace L2
open PySem PySem.Spec PyProof.Rows
/-- a list of tuples of two words -/
def Tps (H : Hp) (acc : List V) (ps : List (Str × Str)) : Prop := acc.length = ps.length ∧ ∀ (j : Nat) (y : V) (q : Str × Str), acc[j]? = some y → ps[j]? = some q → ∃ t, y = .ref t ∧ H t = some (.tup [.str q.1, .str q.2])
theorem Tups.tps {D : Addr} {H : Hp} {acc : List V} {ps : List (Str × Str)} (t : Tups D H acc ps) : Tps H acc ps := ⟨t.1, fun j y q h1 h2 => by
  obtain ⟨p, e, _, h⟩ := t.2 j y q h1 h2
  exact ⟨p, e, h⟩⟩
theorem Tps.same {H H2 : Hp} {acc : List V} {ps : List (Str × Str)} (t : Tps H acc ps) (s : Same H H2) : Tps H2 acc ps := ⟨t.1, fun j y q h1 h2 => by
  obtain ⟨p, e, h⟩ := t.2 j y q h1 h2
  exact ⟨p, e, s _ _ h⟩⟩
theorem Tps.append {H : Hp} {a1 a2 : List V} {p1 p2 : List (Str × Str)} (t1 : Tps H a1 p1) (t2 : Tps H a2 p2) : Tps H (a1 ++ a2) (p1 ++ p2) := by
  refine ⟨by rw [List.length_append, List.length_append, t1.1, t2.1], fun j y q h1 h2 => ?_⟩
  rcases Nat.lt_or_ge j a1.length with c | c
  · rw [List.getElem?_append_left c] at h1
    rw [List.getElem?_append_left (by rw [← t1.1]; exact c)] at h2
    exact t1.2 j y q h1 h2
  · rw [List.getElem?_append_right c] at h1
    rw [List.getElem?_append_right (by rw [← t1.1]; exact c), ← t1.1] at h2
    exact t2.2 _ y q h1 h2
def spLawPairs (K : PySem.W.Frag) : Sp := fun vs H Q _ => ∃ (l : Addr) (zs : List Str), vs = [.ref l] ∧ H l = some (.lst (zs.map V.str)) ∧ zs.length ≤ 8 ∧ ∀ H2 p ys, Same H H2 → H p = none → H2 p = some (.lst ys) → Tps H2 ys (pairsOf zs) → Q (.ref p) H2
end L2

set_option Elab.async false
set_option linter.all false
set_option maxRecDepth 100000
set_option maxHeartbeats 4000000
/-! Several clauses «except X as e», all by one name. -/
namespace L2
open PySem PySem.Spec PyProof.Rows
def offEnds (i : Nat) (D : Ends) : Ends := { nx := fun σ H => D.nx (σ.set i none) H, rt := D.rt, bk := fun σ H => D.bk (σ.set i none) H, ct := fun σ H => D.ct (σ.set i none) H }
def wAll (K : PySem.W.Frag) (i : Nat) (Wout : WX) (D : Ends) : List (Value × (Addr → Value → Option Addr → TS)) → WX
  | [] => Wout
  | p :: r => fun cls d σ H => ∃ b, PySem.W.exmOne K cls p.1 = some b ∧ (b = true → ∀ a, H a = none → p.2 a cls d (offEnds i D) (σ.set i (some (.ref a))) H) ∧ (b = false → wAll K i Wout D r cls d σ H)
inductive AllAs (X : Cx) (n : Str) : List ExceptHandler → List (Value × (Addr → Value → Option Addr → TS)) → Prop
  | nil : AllAs X n [] []
  | cons {x : Str} {c : Value} {ts : Addr → Value → Option Addr → TS} {b0 : Stmt} {rest : List Stmt} {p1 p2 : Pos} {hs : List ExceptHandler} {l : List (Value × (Addr → Value → Option Addr → TS))} (names : Names X x c)
      (suite : ∀ (a : Addr) (o : Obj) (cls : Value) (d : Option Addr) (pn : List (Addr × Obj)), Zc cls d o → (∃ vs, o.data = .fields vs) → PSs (X.suite a ((a, o) :: pn)) (b0 :: rest) (ts a cls d)) (more : AllAs X n hs l) :
      AllAs X n (.ExceptHandler (some (.Name x p1)) (some n) (b0 :: rest) p2 :: hs) ((c, ts) :: l)
section
variable {X : Cx} {n : Str} {i : Nat} {Wout : WX} {D : Ends} {pins : List (Addr × Obj)} {σ : St} {H : Hp} {sI : Shared} {a : Addr} {B : Heap} {cls : Value} {d : Option Addr}
theorem no_frame {L : List Env} {h : Heap} {o : Obj} {vs : Array Value} (ff : h.FunFrames B L) (e : h.get? a = some o) (q : o.data = .fields vs) : a ∉ frs L := fun m => by
  obtain ⟨_, o2, e2, no⟩ := ff.mem m
  cases e.symm.trans e2
  exact no _ q
/-- the clauses are looked at, one after another, while the exception is held -/
theorem look_all (hs : X.stack = X.env :: X.outer) (hf : X.env.frame = some X.env.locals) (hN : X.N.Nodup) (hi : X.N[i]? = some n) (hln : X.env.kindOf n = some .local) (tk : Takes X Wout) {s2 : Shared} {h3 : Heap} (J : Inv X pins σ H sI)
    (nb : ∀ b o, sI.heap.get? b = some o → b ∉ frs X.stack → B.get? b = some o) (os : s2.os = sI.os) (ag : AllBare s2.gens) (na : H a = none) (fl : HandSPX.FlyingZ B (X.env :: X.outer) a (Zc cls d) h3) (up : sI.heap.UpToSlots h3)
    {hds : List ExceptHandler} {l : List (Value × (Addr → Value → Option Addr → TS))} (cl : AllAs X n hds l) (w : wAll X.K i Wout D l cls d σ H) :
    wpAny (model X.prog X.w) X.A (handleBy (.ref a) X.env hds) (SP X pins D) X.xe { s2 with heap := h3 } := by
  have onground : ∀ {h : Heap}, HandSPX.FlyingZ B (X.env :: X.outer) a (Zc cls d) h → sI.heap.UpToSlots h → Inv X pins σ H { s2 with heap := h } := fun {h} f u => J.landed nb f.1 u os ag
  obtain ⟨o3, v3, e3, z3, q3⟩ := fl.there
  have nfr := no_frame fl.2.2.1 e3 q3
  have nL : a ≠ X.env.locals := fun z => nfr (List.mem_filterMap.mpr ⟨X.env, List.mem_cons_self, by rw [hf, z]⟩)
  have nF : a ∉ X.fs := fun m => by
    obtain ⟨v, hv, q⟩ := List.mem_filterMap.mp m
    exact nfr (List.mem_filterMap.mpr ⟨v, List.mem_cons_of_mem _ hv, q⟩)
  have J3 := onground fl up
  have T3 := J3.suite e3 q3 na nL nF
  induction cl with
  | nil =>
    obtain ⟨_, _, _, o, vs, T, oT, ts, eo, _, qo, one, _⟩ := id fl
    have out : wpAny (model X.prog X.w) X.A (setFlight (.ref a) X.env.frame) (fun _ s4 => wpAny (model X.prog X.w) X.A (throw (.ref a) : Sem Flow) (SP X pins D) X.xe s4) X.xe { s2 with heap := h3 } := by
      rw [hf]
      refine HandSPX.setFlight_upZ fl fun h4 f4 u4 => wpAny_throw (tk _ _ ⟨a, B, sI, pins, σ, H, cls, d, rfl, J, nb, up.trans u4, ?_, na, os, ag, w⟩)
      rw [hs]
      exact .inr (.inr f4)
    refine wpAny_handleBy_nil ?_
    unfold PySem.passOn
    refine wpAny_bind (wpAny_field eo qo one ?_)
    rw [if_neg (by simp : ¬ ((Value.ref T == Value.none) = true))]
    first | exact wpAny_bind out | exact wpAny_bind (wpAny_pure (wpAny_bind out))
  | @cons x c ts b0 rest p1 p2 hds l names suite more ih =>
    obtain ⟨b, hb, yes, no⟩ := w
    have meets := PySem.W.exm_one (M := model X.prog X.w) J3.kIn (fun A Q E s k q => wpAny_typeOf_ref (k _ _ e3) (by rw [z3.1]; exact q)) hb
    have named : ∀ {Q : Value → Shared → Prop} {E : Value → Shared → Prop}, Q c { s2 with heap := h3 } → wpAny (model X.prog X.w) (X.A.mark (some (.ref a))) (eval (.Name x p1) X.env) Q E { s2 with heap := h3 } := fun {Q E} q => by
      rcases names with ⟨gl, db, hm | ⟨hm, hv, hn⟩⟩
      · exact ld_glob (X := X.suite a ((a, o3) :: (X.pn ++ pins))) T3 gl hm q db
      · exact ld_blt (X := X.suite a ((a, o3) :: (X.pn ++ pins))) T3 gl hm hv q hn db
    refine wpAny_handleBy_cons (codeAny_handlers_test (named (meets.here ?_))) (fun z => by cases z)
    cases b with
    | false => exact ih (no rfl)
    | true =>
      refine codeAny_handlers_suite_as (HandSPX.lands_againZ fl fun h4 f4 u4 => ?_)
      obtain ⟨o4, v4, e4, z4, q4⟩ := f4.there
      have T4 := (onground f4 (up.trans u4)).suite e4 q4 na nL nF
      refine store_ok (X := X.suite a ((a, o4) :: (X.pn ++ pins))) (v := .ref a) T4 hN hi (.inl hln) rfl (fun s5 T5 => ?_) (.inr hln)
      refine wpAny_mono ((suite a o4 cls d (X.pn ++ pins) z4 ⟨_, q4⟩).run [] s5 _ H _ T5 (yes rfl a na)) (fun f s6 h6 => ?_) fun _ _ z => z.elim
      have last : ∀ {τ : St} {G : Hp} {Q : Shared → Prop}, Inv (X.suite a ((a, o4) :: (X.pn ++ pins))) [] τ G s6 → (∀ s7, Inv X pins (τ.set i none) G s7 → Q s7) →
          wpAny (model X.prog X.w) X.A (do bindName X.env n .none; unbindBehindTheSuite X.env n p2) (fun _ s7 => Q s7) X.xe s6 := fun {τ G Q} T6 q => gone_ok (T6.unsuite J.ok) hN hi hln q
      cases f with
      | ret u =>
        obtain ⟨_, _, _, T6, r6, q6⟩ := h6
        exact last T6 fun _ J7 => ⟨_, _, _, J7, r6, q6⟩
      | next => obtain ⟨_, _, T6, q6⟩ := h6; exact last T6 fun _ J7 => ⟨_, _, J7, q6⟩
      | brk => obtain ⟨_, _, T6, q6⟩ := h6; exact last T6 fun _ J7 => ⟨_, _, J7, q6⟩
      | cont => obtain ⟨_, _, T6, q6⟩ := h6; exact last T6 fun _ J7 => ⟨_, _, J7, q6⟩
/-- try: .. / except X as e: .. / except Y as e: .. -/
theorem ps_try_all {body : List Stmt} {h0 : ExceptHandler} {hds : List ExceptHandler} {l : List (Value × (Addr → Value → Option Addr → TS))} {pos : Pos} {tb : WX → TS} (hs : X.stack = X.env :: X.outer) (hf : X.env.frame = some X.env.locals) (hN : X.N.Nodup)
    (hi : X.N[i]? = some n) (hln : X.env.kindOf n = some .local) (tk : Takes X Wout) (hb : ∀ (W : WX) (pn : List (Addr × Obj)) (xe : Value → Shared → Prop), Takes (X.tr pn xe) W → PassesOwn (model X.prog X.w) X.A X.env xe → PSs (X.tr pn xe) body (tb W))
    (cl : AllAs X n (h0 :: hds) l) : PS X (.Try body (h0 :: hds) [] [] pos) (fun D σ H => tb (wAll X.K i Wout D l) D σ H) := by
  constructor
  intro pins s σ H D I h
  have fr : X.A.frames = some (X.env :: X.outer) := I.ok.frames.trans (by rw [hs])
  refine wpAny_Try_except (wpAny_mono ((hb (wAll X.K i Wout D l) (X.pn ++ pins) (fun e s1 => wpAny (model X.prog X.w) X.A (noteFrame e X.env) (fun _ s2 => wpAny (model X.prog X.w) X.A (setFlight e none)
    (fun _ s3 => wpAny (model X.prog X.w) X.A (handleBy e X.env (h0 :: hds)) (SP X pins D) X.xe s3) X.xe s2) X.xe s1) (fun u s2 z => ?_) PassesOwn.looking).run [] s σ H D (I.toTry _) h) (fun f s1 q => ?_) fun _ _ z => z)
  · obtain ⟨a, B, sI, ps, τ, G, cls, d, rfl, J, nb, up, sky, na, os, ag, w⟩ := z
    rw [show (X.tr (X.pn ++ pins) _).stack = X.env :: X.outer from hs] at sky
    exact Sky.land Zc.steady fr hf sky fun h3 f3 u3 => look_all hs hf hN hi hln tk (J.ofTry I.ok) nb os ag na f3 (up.trans u3) cl w
  · cases f with
    | next => obtain ⟨τ, G, J, q⟩ := q; exact wpAny_execs_nil ⟨τ, G, J.ofTry I.ok, q⟩
    | ret u => obtain ⟨v, τ, G, J, r, q⟩ := q; exact ⟨v, τ, G, J.ofTry I.ok, r, q⟩
    | brk => obtain ⟨τ, G, J, q⟩ := q; exact ⟨τ, G, J.ofTry I.ok, q⟩
    | cont => obtain ⟨τ, G, J, q⟩ := q; exact ⟨τ, G, J.ofTry I.ok, q⟩
end
end L2
namespace L2
open PySem PySem.Spec PyProof.Rows
theorem takes_len {X : Cx} {W : WX} (t : Takes X W) : Takes X (fun c d σ H => σ.length = X.N.length → W c d σ H) := fun u s2 x => by
  obtain ⟨a, B, sI, ps, σ, H, cls, d, e, I, nb, up, sky, na, os, ag, w⟩ := x
  exact t u s2 ⟨a, B, sI, ps, σ, H, cls, d, e, I, nb, up, sky, na, os, ag, w I.len⟩
/-- what a clause «except C as e: return [w, repr(e.f)]» asks -/
def askOne (K : PySem.W.Frag) (C : Addr) (f w : Str) (cls : Value) (d : Option Addr) (H : Hp) (Q : VK) : Prop := cls = .ref C ∧ ∃ (dx : Addr) (v : V) (D : PyData), d = some dx ∧ H dx = some (.xd [(f, v)]) ∧ Dp K H v D ∧ D.hasDict = false ∧ D.showable = true ∧ D.depth ≤ 100 ∧
  D.shown.length ≤ sizeLine ∧ ∀ G p, Same H G → H p = none → G p = some (.lst [.str w, .str D.shown]) → Q (.ref p) G
def asks (K : PySem.W.Frag) : List (Addr × Str × Str) → Value → Option Addr → Hp → VK → Prop
  | [], _, _, _, _ => False
  | p :: r, cls, d, H, Q => ∃ b, PySem.W.exmOne K cls (.ref p.1) = some b ∧ (b = true → askOne K p.1 p.2.1 p.2.2 cls d H Q) ∧ (b = false → asks K r cls d H Q)
/-- try: call() / except C as e: return [w, repr(e.f)] .. / return ["none"] -/
def TTref (K : PySem.W.Frag) (l : List (Addr × Str × Str)) : (XK → Hp → VK → Prop) → Hp → VK → Prop := fun tl H Q => tl (fun cls d G => asks K l cls d G Q) H (fun _ G => ([V.str "none"] : List V).length ≤ sizeLine ∧ ∀ p, G p = none → Q (.ref p) (upd G p (.lst [.str "none"])))
structure Ef (K : PySem.W.Frag) (mg : Str → Option Value) (name f : Str) (C : Addr) : Prop where
  g : mg name = some (.ref C)
  xf : XfC K C
  no : PySem.W.findIn K (.ref C) f = some none
end L2
namespace L2
open PySem PySem.Spec PyProof.Rows
def tAsk (K : PySem.W.Frag) (C : Addr) (f w : Str) : Addr → Value → Option Addr → TS := fun a cls d => tRet (tLst (tCons (tC (.str w)) (tCons (tCB (rReprD K) (tCons (tXf a cls d C f (tVar 1)) tNil)) tNil)))
theorem ask_ret {K : PySem.W.Frag} {C a : Addr} {f w : Str} {cls : Value} {d : Option Addr} {H : Hp} {Q : VK} {D : Ends} {σ : St} (len : σ.length = 2) (hQ : D.rt = Q) (h : askOne K C f w cls d H Q) : tAsk K C f w a cls d (offEnds 1 D) (σ.set 1 (some (.ref a))) H := by
  obtain ⟨rfl, dx, v, dd, rfl, hx, dp, nd, sh, de, sz, q⟩ := h
  refine ⟨.ref a, by rw [List.getElem?_set_self (by omega)], rfl, rfl, dx, _, v, rfl, hx, by simp, v, dd, rfl, dp, nd, sh, de, sz, (by show 2 ≤ sizeLine; decide), fun p np => ?_⟩
  show D.rt _ _
  rw [hQ]
  exact q _ p (same_new np) np upd_same
theorem asks_all {K : PySem.W.Frag} {cls : Value} {d : Option Addr} {H : Hp} {Q : VK} {D : Ends} {σ : St} (len : σ.length = 2) (hQ : D.rt = Q) : ∀ {l : List (Addr × Str × Str)}, asks K l cls d H Q →
    wAll K 1 (fun _ _ _ _ => False) D (l.map fun p => (Value.ref p.1, tAsk K p.1 p.2.1 p.2.2)) cls d σ H
  | [], h => h
  | p :: l, h => by
    obtain ⟨b, e, yes, no⟩ := h
    exact ⟨b, e, fun hb a na => ask_ret len hQ (yes hb), fun hb => asks_all len hQ (no hb)⟩
end L2

set_option Elab.async false
set_option linter.all false
set_option maxRecDepth 100000
set_option maxHeartbeats 4000000
/-! list(o), o an instance whose own __iter__ gives a list's iterator and that has an own __len__. -/
namespace L2
open PySem PySem.Spec PyProof.Rows
section
variable {prog : Program} {w : World} {A : Around} {E' : Value → Shared → Prop} {s : Shared} {it l : Addr} {i : Nat} {items : Array Value}
theorem next_one {x : Value} {Q : Option Value → Shared → Prop} (ho : s.heap.get? it = some (GNX.itObj l i)) (hl : s.heap.IsList l items) (hx : items[i]? = some x)
    (hQ : ∀ h2, h2.get? it = some (GNX.itObj l (i + 1)) → Heap.SameBut it s.heap h2 → Q (some x) { s with heap := h2 }) : wpAny (model prog w) A (pyNext (.ref it)) Q E' s := by
  have ty : s.TypeIs (.ref it) "list_iterator" := ⟨_, ho, rfl⟩
  unfold pyNext
  refine wpAny_bind (wpAny_attempt (wpAny_callSpecial?_slot (name := Str.ofString "__next__") ty slot_listiter_next (wpAny_call_entry slot_listiter_next ty entry_listiter_next ?_ (args_listiter_next _))))
  refine wpAny_mono (GNX.next_item (Q := fun v s2 => v = x ∧ Q (some x) s2) ho hl hx fun h2 e sb => ⟨rfl, hQ h2 e sb⟩) (fun f s2 q => ?_) fun _ _ z => z
  obtain ⟨v, rfl, rfl, q⟩ := q
  exact ⟨v, rfl, wpAny_pure q⟩
theorem next_over {Q : Option Value → Shared → Prop} (hh : A.handled = none) (ho : s.heap.get? it = some (GNX.itObj l i)) (hl : s.heap.IsList l items) (hx : items[i]? = none)
    (hQ : ∀ h1 h2, h1.get? it = some (GNX.itEnd i) → Heap.SameBut it s.heap h1 → (∀ b o, h1.get? b = some o → h2.get? b = some o) → Q none { s with heap := h2 }) : wpAny (model prog w) A (pyNext (.ref it)) Q E' s := by
  have ty : s.TypeIs (.ref it) "list_iterator" := ⟨_, ho, rfl⟩
  unfold pyNext
  refine wpAny_bind (wpAny_attempt (wpAny_callSpecial?_slot (name := Str.ofString "__next__") ty slot_listiter_next (wpAny_call_entry slot_listiter_next ty entry_listiter_next ?_ (args_listiter_next _))))
  refine wpAny_mono (GNX.next_end (Q := fun _ _ => False) hh ho hl hx fun h1 h2 e vs e1 sb k _ he _ => ?_) (fun f s2 q => ?_) fun _ _ z => z
  · refine wpAny_bind (wpAny_isInstance (T := "StopIteration") (b := true) ⟨_, he, rfl⟩ isSubtype_stop ?_)
    exact wpAny_pure (hQ h1 h2 e1 sb k)
  · obtain ⟨_, _, z⟩ := q
    exact z.elim
end
section
variable {X : Cx} {pins : List (Addr × Obj)} {σ : St} {H : Hp} {s : Shared} {A A1 : Around} {CX : CXT} {k : Nat} {f : Addr} {fd : FuncData} {ps : List Str} {sp : Sp} {E : XK}
theorem run_sub (sb : Sub X k A) (F : FnOk X.prog X.w X.K X.mg X.base CX k f fd ps sp) (hb : Binds X.K fd ps []) (hx : Passes CX X E) {Q : VK} {us : List Value} {vs : List V} (I : Inv X pins σ H s) (r : Vals vs us) (h : sp vs H Q E) :
    wpAny (model X.prog X.w) A (call (.ref f) us) (EP X pins σ Q) X.xe s := by
  have len : us.length = ps.length := r.length.symm.trans (F.len _ _ _ _ h)
  have b := hb s us I.kIn (by rw [List.append_nil]; exact len)
  rw [List.append_nil] at b
  have e0 : Env0 X.prog X.w X.K X.mg X.base A X.stack s H := { I.env0 with frames := by rw [sb.fr]; exact I.env0.frames }
  refine wpAny_call (codeAny_mono (F.run A X.stack s H ⟨us, []⟩ us vs Q E sb.room e0 b r h) fun z s2 q => ?_)
  rcases z with e | fl
  · exact hx pins σ H s e s2 I q
  · rcases fl with _ | _ | _ | u <;> first | exact False.elim q | exact I.after q
/-- the list at q takes the rest of the list at l -/
theorem it_fill {q it l : Addr} {xs : List V} {H0 : Hp} {Rs : Result → Shared → Prop} (hh : A1.in1.handled = none) (hl : H0 l = some (.lst xs)) (lq : l ≠ q) (li : l ≠ it) (iq : it ≠ q) (hsz : xs.length < sizeLine)
    (fin : ∀ H2 s2, Inv X pins σ H2 s2 → H2 q = some (.lst xs) → (∀ b o, b ≠ q → b ≠ it → H0 b = some o → H2 b = some o) → Rs (.ok (.ret .none)) s2) :
    ∀ (k i : Nat) (H : Hp) (s : Shared), i + k = xs.length → Inv X pins σ H s → H q = some (.lst (xs.take i)) → H it = some (ItO l it i) → (∀ b o, b ≠ q → b ≠ it → H0 b = some o → H b = some o) →
      codeAny (model X.prog X.w) A1 (.builtin "list.extend.loop" ⟨[.ref q, .ref it, .none], []⟩) Rs s := by
  intro k
  induction k with
  | zero =>
    intro i H s hi I hq hit hk
    have ei : i = xs.length := hi
    subst ei
    rw [List.take_length] at hq
    refine codeAny_builtin PySem.F.entry_extend_loop ?_
    rw [Around.under_plainId PySem.F.plain_extend_loop _]
    obtain ⟨its, rv, pl, _⟩ := I.list (SqL.of (hk _ _ lq li hl))
    have mu : Mut (H it) := by rw [hit]; exact True.intro
    have z : its.toArray[xs.length]? = none := by rw [List.getElem?_toArray]; exact List.getElem?_eq_none (Nat.le_of_eq rv.length.symm)
    show wpAny _ A1.in1 (pyNext (.ref it) >>= _) _ _ s
    refine wpAny_bind (next_over hh (itO_get I hit) pl.isList z fun h1 h2 e1 sb kp => ?_)
    have I1 : Inv X pins σ (upd H it (ItE it xs.length)) { s with heap := h1 } := I.write (x := it) (e := it) (t' := s.toks) mu (.inl rfl) (fun b o nb e => (sb.2 b nb).trans e) ⟨_, e1⟩ (itE_ok e1)
    refine wpAny_pure (fin (upd H it (ItE it xs.length)) { s with heap := h2 } (I1.kept (t' := s.toks) kp) ?_ fun b o b1 b2 e => ?_)
    · rw [upd_ne (Ne.symm iq)]
      exact hq
    · rw [upd_ne b2]
      exact hk b o b1 b2 e
  | succ k ih =>
    intro i H s hi I hq hit hk
    have lt : i < xs.length := by omega
    refine codeAny_builtin PySem.F.entry_extend_loop ?_
    rw [Around.under_plainId PySem.F.plain_extend_loop _]
    obtain ⟨its, rv, pl, _⟩ := I.list (SqL.of (hk _ _ lq li hl))
    have mu : Mut (H it) := by rw [hit]; exact True.intro
    obtain ⟨u, hu, ru⟩ := rv.get (List.getElem?_eq_getElem lt)
    show wpAny _ A1.in1 (pyNext (.ref it) >>= _) _ _ s
    refine wpAny_bind (next_one (x := u) (itO_get I hit) pl.isList (by rw [List.getElem?_toArray]; exact hu) fun h2 e2 sb => ?_)
    have I1 : Inv X pins σ (upd H it (ItO l it (i + 1))) { s with heap := h2 } := I.write (x := it) (e := it) (t' := s.toks) mu (.inl rfl) (fun b o nb e => (sb.2 b nb).trans e) ⟨_, e2⟩ (itO_ok e2)
    have hq1 : upd H it (ItO l it (i + 1)) q = some (.lst (xs.take i)) := by rw [upd_ne (Ne.symm iq)]; exact hq
    obtain ⟨_, its2, c2, r2, len2, e3⟩ := I1.lstM hq1
    have l2 : its2.length = i := by rw [← r2.length, List.length_take]; omega
    refine wpAny_bind (m := updateSeq q (·.push u)) (wpAny_updateSeq e3 rfl ?_ (by rw [List.size_toArray]; omega) (by show (its2.toArray.push u).size ≤ sizeLine + 1; rw [Array.size_push, List.size_toArray]; omega))
    refine wpAny_pure ⟨plainId_quiet PySem.F.plain_extend_loop _, ih (i + 1) _ _ (by omega) (I1.lset (its' := its2 ++ [u]) (ys := xs.take i ++ [xs[i]]) (t' := s.toks) hq1 e3 (by simp) (r2.append (.cons ru .nil)) ?_) ?_ ?_ fun b o b1 b2 e => ?_⟩
    · rw [List.length_append, List.length_singleton, List.length_take]
      omega
    · rw [upd_same, List.take_add_one, List.getElem?_eq_getElem lt]
      rfl
    · rw [upd_ne iq, upd_same]
    · rw [upd_ne b1, upd_ne b2]
      exact hk b o b1 b2 e
end
end L2

set_option Elab.async false
set_option linter.all false
set_option maxRecDepth 100000
set_option maxHeartbeats 4000000
namespace L2
open PySem PySem.Spec PyProof.Rows
section
variable {X : Cx} {pins : List (Addr × Obj)} {σ : St} {H : Hp} {s : Shared} {A A1 : Around}
variable {kL : Nat} {fl C a dx : Addr} {fs : List (Str × V)} {fdL : FuncData} {psL : List Str} {spL : Sp} {EL : XK}
theorem run_sub0 {k : Nat} {f : Addr} {fd : FuncData} {ps : List Str} {sp : Sp} {E : XK} (sb : Sub X k A) (F : FnOk X.prog X.w X.K X.mg X.base CX0 k f fd ps sp) (hb : Binds X.K fd ps []) {Q : VK} {us : List Value} {vs : List V} (I : Inv X pins σ H s) (r : Vals vs us)
    (h : sp vs H Q E) : wpAny (model X.prog X.w) A (call (.ref f) us) (EP X pins σ Q) (fun _ _ => False) s := by
  have len : us.length = ps.length := r.length.symm.trans (F.len _ _ _ _ h)
  have b := hb s us I.kIn (by rw [List.append_nil]; exact len)
  rw [List.append_nil] at b
  have e0 : Env0 X.prog X.w X.K X.mg X.base A X.stack s H := { I.env0 with frames := by rw [sb.fr]; exact I.env0.frames }
  refine wpAny_call (codeAny_mono (F.run A X.stack s H ⟨us, []⟩ us vs Q E sb.room e0 b r h) fun z s2 q => ?_)
  rcases z with e | fl
  · exact q
  · rcases fl with _ | _ | _ | u <;> first | exact False.elim q | exact I.after q
theorem hint_own (sb : Sub X (kL + 1) A) (hs : PySem.W.findIn X.K (.ref C) "__len__" = some (some (.ref fl))) (hf : PySem.W.isFn X.K (.ref fl) = true) (FL : FnOk X.prog X.w X.K X.mg X.base CX0 kL fl fdL psL spL) (bL : Binds X.K fdL psL [])
    (I : Inv X pins σ H s) (ha : H a = some (.ins C dx fs)) (hsp : spL [.ref a] H (fun v H2 => ∃ n : Nat, v = .int n ∧ n ≤ 100000 ∧ H2 = H) EL) {Q : Bool → Shared → Prop} {E' : Value → Shared → Prop} (q : ∀ b s2, Inv X pins σ H s2 → Q b s2) :
    wpAny (model X.prog X.w) A (Builtin.List.listLengthHint (.ref a)) Q E' s := by
  obtain ⟨mA, O, _, _, _, _⟩ := ins_get I.hok ha
  obtain ⟨od, J, _⟩ := O.look
  obtain ⟨m, hF⟩ := I.fr
  have said : wpAny (model X.prog X.w) A (call (.builtin "len") [.ref a]) (fun r s2 => ∃ (n : Nat) (t : Tok), r = .int n t ∧ n ≤ 100000 ∧ Inv X pins σ H s2) (fun _ _ => False) s := by
    refine PySem.W.len_K hF I.ok.mod.kin J hs hf (wpAny_mono (run_sub0 (vs := [.ref a]) (us := [.ref a]) (Sub.in1 sb) FL bL I (.cons rfl .nil) hsp) (fun r s2 z => ?_) fun _ _ z => z)
    obtain ⟨w2, H2, I2, rw2, n, rfl, hn, rfl⟩ := z
    obtain ⟨t, rfl⟩ := rw2
    exact ⟨⟨by omega, by omega⟩, n, _, rfl, hn, I2.tok _⟩
  unfold Builtin.List.listLengthHint
  refine wpAny_bind (wpAny_bind (J.type.here ((PySem.W.looks_findIn I.kIn hs).here ?_)))
  refine PySem.W.KFB.if_not rfl ?_
  refine wpAny_ite_split (fun _ => ?_) (fun z => absurd rfl z)
  refine wpAny_bind (wpAny_rule ?_)
  refine wpAny_bind (wpAny_attempt (wpAny_mono said (fun r s2 z => ?_) fun _ _ z => z.elim))
  obtain ⟨n, t, rfl, hn, I2⟩ := z
  refine wpAny_bind (wpAny_of_eq (a := some (n : Int)) rfl ?_)
  refine PySem.W.KFB.if_not ?_ (wpAny_pure (q _ _ I2))
  exact notLongL (by show n ≤ sizeLine; rw [sizeLine_eq]; omega)
theorem upd_self {q : Addr} {o : HO} (h : H q = some o) : upd H q o = H := by
  funext b
  by_cases e : b = q
  · rw [e, upd_same, h]
  · rw [upd_ne e]
/-- room is made in an empty list -/
theorem touch_own {q : Addr} {E' : Value → Shared → Prop} {Q : Unit → Shared → Prop} (I : Inv X pins σ H s) (hq : H q = some (.lst [])) (h : ∀ s2, Inv X pins σ H s2 → Q () s2) :
    wpAny (model X.prog X.w) A (updateSeq q (·.push .none) >>= fun _ => updateSeq q (·.pop)) Q E' s := by
  obtain ⟨_, its, c, r, _, e⟩ := I.lstM hq
  cases r
  have one : 1 ≤ sizeLine := by rw [sizeLine_eq]; decide
  have I1 := I.lset (f := (·.push Value.none)) (its' := [Value.none]) (ys := [.non]) (t' := s.toks) hq e (by simp) (.cons rfl .nil) one
  refine wpAny_bind (wpAny_updateSeq e rfl ?_)
  obtain ⟨_, its2, c2, r2, _, e2⟩ := I1.lstM upd_same
  obtain ⟨v, rfl, _⟩ := vals1 r2
  have I2 := I1.lset (f := (·.pop)) (its := [v]) (its' := []) (ys := []) (t' := s.toks) upd_same e2 (by rfl) .nil (Nat.zero_le _)
  rw [upd_upd, upd_self hq] at I2
  exact wpAny_updateSeq e2 rfl (h _ I2) one (Nat.zero_le _)
variable {kI : Nat} {fi l q : Addr} {fdI : FuncData} {psI : List Str} {spI : Sp} {EI : XK} {xs : List V} {Rs : Result → Shared → Prop}
theorem extend_own (sbL : Sub X (kL + 1) A1.in1) (sbI : Sub X kI A1.in1) (hs : PySem.W.findIn X.K (.ref C) "__len__" = some (some (.ref fl))) (hf : PySem.W.isFn X.K (.ref fl) = true) (FL : FnOk X.prog X.w X.K X.mg X.base CX0 kL fl fdL psL spL) (bL : Binds X.K fdL psL [])
    (hi : PySem.W.findIn X.K (.ref C) "__iter__" = some (some (.ref fi))) (hfi : PySem.W.isFn X.K (.ref fi) = true) (FI : FnOk X.prog X.w X.K X.mg X.base CX0 kI fi fdI psI spI) (bI : Binds X.K fdI psI [])
    (hh : A1.in1.handled = none) (I : Inv X pins σ H s) (ha : H a = some (.ins C dx fs)) (hq : H q = some (.lst [])) (hl : H l = some (.lst xs)) (lq : l ≠ q) (hsz : xs.length < sizeLine)
    (qI : spI [.ref a] H (fun v H2 => ∃ it, v = .ref it ∧ H it = none ∧ H2 = upd H it (ItO l it 0)) EI)
    (qL : ∀ H2, H2 a = some (.ins C dx fs) → H2 l = some (.lst xs) → (∀ b o, H b = some o → H2 b = some o) → spL [.ref a] H2 (fun v H3 => ∃ n : Nat, v = .int n ∧ n ≤ 100000 ∧ H3 = H2) EL)
    (fin : ∀ H2 s2, Inv X pins σ H2 s2 → H2 q = some (.lst xs) → (∀ b o, b ≠ q → H b = some o → H2 b = some o) → Rs (.ok (.ret .none)) s2) :
    wpAny (model X.prog X.w) A1.in1 (Builtin.List.listExtendWith (.ref q) (.ref a) .none) (fun f s2 => match f with | .done r => Rs (.ok r) s2 | .again c => c.quiet = true ∧ codeAny (model X.prog X.w) A1 c Rs s2) (fun e s2 => Rs (.error e) s2) s := by
  have qa : q ≠ a := ne_of hq ha fun z => by cases z
  obtain ⟨mA, O, _, _, _, _⟩ := ins_get I.hok ha
  obtain ⟨od, J, _⟩ := O.look
  obtain ⟨m, hF⟩ := I.fr
  unfold Builtin.List.listExtendWith
  refine wpAny_bind (J.type.here ?_)
  have g1 : Builtin.List.listSameRef (.ref q) (.ref a) = false := by simp [Builtin.List.listSameRef, qa]
  have g2 : (Value.ref C == Value.type "list" || Value.ref C == Value.type "tuple") = false := rfl
  refine PySem.W.KFB.if_not (by rw [g1]; exact g2) ?_
  refine wpAny_bind (PySem.W.owit_iter hF I.ok.mod.kin J hi hfi (wpAny_mono (run_sub0 (vs := [.ref a]) (us := [.ref a]) sbI FI bI I (.cons rfl .nil) qI) (fun r s2 z => ?_) fun _ _ z => z.elim))
  obtain ⟨w2, H2, I2, rw2, it, rfl, nit, rfl⟩ := z
  cases rw2
  have hit : upd H it (ItO l it 0) it = some (ItO l it 0) := upd_same
  have old : ∀ b o, H b = some o → upd H it (ItO l it 0) b = some o := fun b o e => by
    rw [upd_ne (ne_of_none e nit)]
    exact e
  have ty : s2.TypeIs (.ref it) "list_iterator" := ⟨_, itO_get I2 hit, rfl⟩
  unfold PySem.W.OwitIt
  refine wpAny_specialOf (name := Str.ofString "__next__") ty slot_listiter_next.lookup ?_
  refine wpAny_bind (wpAny_holding (hint_own sbL hs hf FL bL I2 (old _ _ ha) (qL _ (old _ _ ha) (old _ _ hl) old) fun b s3 I3 => ?_))
  · have loop : ∀ s4, Inv X pins σ (upd H it (ItO l it 0)) s4 → codeAny (model X.prog X.w) A1 (.builtin "list.extend.loop" ⟨[.ref q, .ref it, .none], []⟩) Rs s4 := fun s4 I4 =>
      it_fill (H0 := H) hh hl lq (ne_of_none hl nit) (Ne.symm (ne_of_none hq nit)) hsz (fun H5 s5 I5 h5 k5 => fin H5 s5 I5 h5 fun b o nb e => k5 b o nb (ne_of_none e nit) e) xs.length 0 _ s4 (Nat.zero_add _) I4 (old _ _ hq) hit fun b o _ _ e => old b o e
    refine wpAny_ite_split (fun _ => ?_) (fun _ => wpAny_pure ⟨plainId_quiet PySem.F.plain_extend_loop _, loop _ I3⟩)
    refine wpAny_bind (wpAny_rule ?_)
    refine wpAny_bind (touch_own I3 (old _ _ hq) fun s4 I4 => ?_)
    exact wpAny_pure ⟨plainId_quiet PySem.F.plain_extend_loop _, loop _ I4⟩
/-- list(o) -/
def rListOwn (C : Addr) (spI spL : Sp) (EI EL : XK) : List V → Hp → VK → Prop := fun vs H Q => ∃ (a dx l : Addr) (fs : List (Str × V)) (xs : List V), vs = [.ref a] ∧ H a = some (.ins C dx fs) ∧ H l = some (.lst xs) ∧ xs.length < sizeLine ∧
  (∀ G, (∀ b o, H b = some o → G b = some o) → spI [.ref a] G (fun v H2 => ∃ it, v = .ref it ∧ G it = none ∧ H2 = upd G it (ItO l it 0)) EI) ∧
  (∀ G, (∀ b o, H b = some o → G b = some o) → spL [.ref a] G (fun v H3 => ∃ n : Nat, v = .int n ∧ n ≤ 100000 ∧ H3 = G) EL) ∧
  ∀ G q, Same H G → H q = none → G q = some (.lst xs) → Q (.ref q) G
theorem call_listIt (hs : PySem.W.findIn X.K (.ref C) "__len__" = some (some (.ref fl))) (hf : PySem.W.isFn X.K (.ref fl) = true) (FL : FnOk X.prog X.w X.K X.mg X.base CX0 kL fl fdL psL spL) (bL : Binds X.K fdL psL [])
    (hi : PySem.W.findIn X.K (.ref C) "__iter__" = some (some (.ref fi))) (hfi : PySem.W.isFn X.K (.ref fi) = true) (FI : FnOk X.prog X.w X.K X.mg X.base CX0 kI fi fdI psI spI) (bI : Binds X.K fdI psI [])
    (hrL : Room (kL + 3) X.A) (hrI : Room (kI + 2) X.A) : CallR X (.type "list") (rListOwn C spI spL EI EL) := by
  intro pins s σ H vs us Q I rv h
  obtain ⟨a, dx, l, fs, xs, rfl, ha, hl, hz, qI, qL, q⟩ := h
  obtain ⟨u, rfl, ru⟩ := vals1 rv
  cases ru
  have sbL : Sub X (kL + 1) X.A.in1.in1 := Sub.in1 (Sub.in1 ⟨hrL, rfl⟩)
  have sbI : Sub X kI X.A.in1.in1 := Sub.in1 (Sub.in1 ⟨hrI, rfl⟩)
  refine callType_codes (Q₁ := fun o s1 => o = .ref s.heap.objs.size ∧ s1 = { s with heap := s.heap.push { cls := .type "list", data := .seq #[] } }) PySem.F.called_list (PySem.F.typeCall_list_1 _) PySem.F.entry_list_init (code_list_new _ ⟨rfl, rfl⟩) fun o s1 h1 => ?_
  obtain ⟨rfl, rfl⟩ := h1
  have there : (s.heap.push { cls := .type "list", data := .seq #[] }).get? s.heap.objs.size = some { cls := .type "list", data := .seq #[] } := Heap.get?_push_size _ rfl
  refine ⟨⟨_, there, rfl⟩, PySem.F.args_list_init_2 _ _, ?_⟩
  have nq : H s.heap.objs.size = none := I.hok.fresh (Nat.le_refl _)
  have old : ∀ b o, H b = some o → upd H s.heap.objs.size (.lst []) b = some o := same_new nq
  have I1 : Inv X pins σ (upd H s.heap.objs.size (.lst [])) { s with heap := s.heap.push { cls := .type "list", data := .seq #[] } } := I.lnew (its := []) (t' := s.toks) .nil (Nat.zero_le _)
  show wpAny _ _ (Builtin.List.listItems (.ref s.heap.objs.size) >>= fun z => updateSeq s.heap.objs.size (fun _ => #[]) >>= fun _ => letGo z.toList.reverse >>= fun _ => Builtin.List.listExtendWith (.ref s.heap.objs.size) (.ref a) .none) _ _ _
  refine wpAny_bind (m := Builtin.List.listItems _) ?_
  unfold Builtin.List.listItems
  refine wpAny_bind (wpAny_seqItems there rfl (wpAny_pure (wpAny_bind (wpAny_updateSeq there rfl (wpAny_bind (wpAny_letGo ?_))))))
  have I2 := I1.lset (f := fun _ => #[]) (its := []) (its' := []) (ys := []) (t' := s.toks) upd_same there rfl .nil (Nat.zero_le _)
  rw [upd_upd] at I2
  exact extend_own (A1 := X.A.in1) (l := l) (xs := xs) (spI := spI) (spL := spL) (EI := EI) (EL := EL) (Rs := wants (fun r s2 => r = .none ∧ EP X pins σ Q (.ref s.heap.objs.size) s2) X.xe) sbL sbI hs hf FL bL hi hfi FI bI hrL.hd I2 (old _ _ ha) upd_same (old _ _ hl) (ne_of_none hl nq) hz
    (qI _ old) (fun G h1 h2 h3 => qL G fun b o e => h3 b o (old b o e)) fun G s2 J hq k => ⟨rfl, .ref s.heap.objs.size, G, J, rfl, q G _ (fun b o e => k b o (ne_of_none e nq) (old b o e)) nq hq⟩
end
end L2

set_option Elab.async false
set_option linter.all false
set_option maxRecDepth 100000
set_option maxHeartbeats 4000000
/-! The end of a law whose defs make lambdas and ask that no guarded built-in runs beneath. -/
namespace L2
open PySem PySem.Spec PyProof.Rows
/-- the abstract heap of the script and of tables of code objects -/
theorem script_heapT {P : Program} {w : World} {K : PySem.W.Frag} {h : Heap} {a : Addr} {vs : List Value} {ns : List Int} {T : List Addr} (X : K.In h) (ha : h.get? a = some { cls := .type "list", data := .seq vs.toArray }) (hi : IntsAre vs ns) (hl : ns.length ≤ sizeLine)
    (hT : ∀ p ∈ T, h.get? p = some { cls := .none, data := .fields #[] }) :
    ∃ H : Hp, SqL K H a (ns.map V.int) ∧ HOk P w H h ∧ (∀ p ∈ T, H p = some (.tbl #[])) ∧ ∀ b, H b = none ∨ (b ∈ T ∧ H b = some (.tbl #[])) ∨ (b = a ∧ K.lookup a = none ∧ ∃ o xs, H b = some (.frz o (.lst xs))) := by
  obtain ⟨H0, hS, hok, hA⟩ := script_heap (P := P) (w := w) X ha hi hl
  have aT : a ∉ T := fun z => by
    have e := (hT a z).symm.trans ha
    cases e
  have out : ∀ b, b ∉ T → (if b ∈ T then some (HO.tbl #[]) else H0 b) = H0 b := fun b n => if_neg n
  refine ⟨fun b => if b ∈ T then some (.tbl #[]) else H0 b, ?_, fun b u z => ?_, fun p hp => if_pos hp, fun b => ?_⟩
  · unfold SqL Rd at hS ⊢
    simp only [if_neg aT]
    exact hS
  · by_cases hb : b ∈ T
    · cases (if_pos hb).symm.trans z
      exact hT b hb
    · have z2 := (if_neg hb).symm.trans z
      obtain ⟨_, _, o, xs, rfl⟩ := hA b u z2
      exact hok b _ z2
  · by_cases hb : b ∈ T
    · exact .inr (.inl ⟨hb, if_pos hb⟩)
    · dsimp only
      rw [if_neg hb]
      cases q : H0 b with
      | none => exact .inl rfl
      | some u =>
        obtain ⟨e1, e2, o, xs, rfl⟩ := hA b u q
        exact .inr (.inr ⟨e1, e2, o, xs, rfl⟩)
theorem law_callGT {P : Program} {w : World} {K : PySem.W.Frag} {mg mb : Str → Option Value} {k : Nat} {fa a : Addr} {cs : List (Addr × Addr)} {fd : FuncData} {x : Str} {sp : Sp} {s1 : Shared} {vs : List Value} {ns : List Int} (KX : K.In s1.heap) (hns : s1.heap.Ns mainGlobals mg)
    (hb : s1.heap.Ns builtinsNs mb ∧ ∀ y : Str, y ≠ "__name__" → mb y = bootBuiltins y) (hlim : s1.heap.NoLimit) (hg : s1.gens = #[]) (hT : ∀ p ∈ cs, s1.heap.get? p.2 = some { cls := .none, data := .fields #[] }) (nT : ∀ p ∈ cs, K.lookup p.2 = none) (hC : ∀ p ∈ cs, PySem.W.CodeHd s1.heap p.1 p.2)
    (hm : ∃ (bm : Addr) (ob : Obj), mg "__builtins__" = some (.ref bm) ∧ bm ≠ builtinsNs ∧ s1.heap.get? bm = some ob ∧ ob.cls = .type "module" ∧ ob.dict = some builtinsNs ∧ ob.data = .plain) (ha : s1.heap.get? a = some { cls := .type "list", data := .seq vs.toArray }) (hi : IntsAre vs ns) (hl : ns.length ≤ sizeLine)
    (hr : Room k callerA) (F : ∀ b0 : Heap, K.In b0 → b0.Ns mainGlobals mg → (∀ p ∈ cs, LamX.TabB b0 mg p.1 p.2) → FnG P w K mg b0 CX0 k fa fd [x] sp) (bind : ∀ (s : Shared) (u : Value), BindsTo s fd ⟨[u], []⟩ [(x, u)])
    (hsp : ∀ H : Hp, (∀ p ∈ cs, H p.2 = some (.tbl #[])) → SqL K H a (ns.map V.int) → sp [.ref a] H (fun v _ => v = .bl true) fun _ _ _ => False) (noX : ∀ H e s', CX0 [] H s1 (fun _ _ _ => False) e s' → False) :
    codeAny (model P w) callerA (.call (.ref fa) ⟨[.ref a], []⟩) (fun r s' => r = .ok (.ret (.bool true)) ∧ OldK s1.heap s'.heap ∧ s'.os = s1.os ∧ AllBare s'.gens) s1 := by
  have inT : ∀ {b}, b ∈ cs.map (·.2) → s1.heap.get? b = some { cls := .none, data := .fields #[] } := fun {b} m => by
    obtain ⟨p, hp, e⟩ := List.mem_map.mp m
    exact e ▸ hT p hp
  obtain ⟨H, hS, hok, hH, tell⟩ := script_heapT (P := P) (w := w) (T := cs.map (·.2)) KX ha hi hl fun _ m => inT m
  have tabs : ∀ p ∈ cs, H p.2 = some (.tbl #[]) := fun p hp => hH _ (List.mem_map.mpr ⟨p, hp, rfl⟩)
  -- what is neither the script nor a table is in the ground
  have base1 : ∀ {b : Addr} {o : Obj}, s1.heap.get? b = some o → (∀ v n, o.data ≠ .seq v n) → o.data ≠ .fields #[] → (hidT s1.heap H).get? b = some o := fun {b o} e n1 n2 => hidT_get e (by
    rcases tell b with z | ⟨m, _⟩ | ⟨z, _⟩
    · exact z
    · cases e.symm.trans (inT m)
      exact (n2 rfl).elim
    · rw [z, ha] at e
      cases e
      exact (n1 _ _ rfl).elim)
  have low : ∀ {b : Addr} {m : Str → Option Value}, s1.heap.Ns b m → (hidT s1.heap H).Ns b m := fun {b m} n => by
    obtain ⟨o, es, ep, e, d, r⟩ := n
    exact ⟨o, es, ep, base1 e (fun v n z => by rw [d] at z; cases z) (fun z => by rw [d] at z; cases z), d, r⟩
  have kin : K.In (hidT s1.heap H) := fun b o e => hidT_get (KX b o e) (by
    rcases tell b with z | ⟨m, _⟩ | ⟨z, y, _⟩
    · exact z
    · obtain ⟨p, hp, ep⟩ := List.mem_map.mp m
      rw [← ep, nT p hp] at e
      cases e
    · rw [z, y] at e
      cases e)
  have tb : ∀ p ∈ cs, LamX.TabB (hidT s1.heap H) mg p.1 p.2 := fun p hp => by
    have hp2 := hT p hp
    obtain ⟨og, eg, pg, gg, dg, _⟩ := hns
    refine ⟨?_, ?_, fun z => by rw [z, hp2] at gg; cases gg; cases dg⟩
    · obtain ⟨o, v, c3, c4, c5, c6, c7, c8, c9, e1, e2, e3, e4, rest⟩ := hC p hp
      exact ⟨o, v, c3, c4, c5, c6, c7, c8, c9, base1 e1 (fun v n z => by rw [e3] at z; cases z) (fun z => by rw [e3] at z; cases z; simp at e4), e2, e3, e4, rest⟩
    · obtain ⟨bm, ob, b1, b2, b3, b4, b5, b6⟩ := hm
      refine ⟨bm, ob, b1, b2, fun z => ?_, fun z => ?_, base1 b3 (fun v n z => by rw [b6] at z; cases z) (fun z => by rw [b6] at z; cases z), b4, b5, b6⟩
      · rw [z, gg] at b3
        cases b3
        rw [dg] at b6
        cases b6
      · rw [z, hp2] at b3
        cases b3
        cases b6
  obtain ⟨mc, l1, l2⟩ := hlim
  have e0 : Env0 P w K mg (hidT s1.heap H) callerA [] s1 H :=
    { frames := rfl, mod := { kin := kin, glob := low hns, blt := ⟨mb, low hb.1, hb.2⟩, nolimit := ⟨mc, low l1, l2⟩ }, bs := fun _ _ e => of_hidT e, bsz := Nat.le_of_eq (hidT_size _ _), funs := trivial, frf := fun _ z => (nomatch z), hok := hok, bare := .of_eq hg }
  refine codeAny_mono ((F _ kin (low hns) tb).go callerA [] s1 H _ [.ref a] [.ref a] _ _ rfl hr e0 (bind s1 (.ref a)) (.cons rfl .nil) (hsp H tabs hS)) fun r s2 h => ?_
  rcases r with e | fl
  · exact (noX H e s2 h).elim
  rcases fl with _ | _ | _ | u <;> try exact False.elim h
  obtain ⟨v, H2, os, bare, un, ok2, rv, q⟩ := h
  cases (q : v = .bl true)
  cases (rv : u = Value.bool true)
  have grown : ∀ p ∈ cs, ∃ more : Array Value, s2.heap.get? p.2 = some { cls := .none, data := .fields more } := fun p hp => by
    obtain ⟨more, z⟩ := un.tbls p.2 #[] (tabs p hp)
    exact ⟨_, ok2 p.2 _ z⟩
  have rest : ∀ b o, b ∉ cs.map (·.2) → s1.heap.get? b = some o → s2.heap.get? b = some o := fun b o n e => by
    rcases tell b with z | ⟨m, _⟩ | ⟨_, _, ob, xs, z⟩
    · exact un.keep b o e z (fun y => by cases y) fun y => by cases y
    · exact (n m).elim
    · have k1 := (hok b _ z).1
      rw [← e, k1] at *
      exact (ok2 b _ (un.frzs b ob _ z)).1
  refine ⟨rfl, ⟨fun b o e => ?_, fun b o e => ?_⟩, os, bare⟩
  · by_cases m : b ∈ cs.map (·.2)
    · obtain ⟨p, hp, rfl⟩ := List.mem_map.mp m
      obtain ⟨more, hm2⟩ := grown p hp
      cases e.symm.trans (hT p hp)
      exact .inr (.inl ⟨((hC p hp).tab (hT p hp)).isCodeTable, rfl, #[], more, rfl, by rw [Array.empty_append]; exact hm2⟩)
    · exact .inl (rest b o m e)
  · by_cases m : b ∈ cs.map (·.2)
    · obtain ⟨p, hp, rfl⟩ := List.mem_map.mp m
      obtain ⟨more, hm2⟩ := grown p hp
      exact ⟨_, hm2⟩
    · exact ⟨o, rest b o m e⟩
/-- what is known of the law's promise at the head's heap h, tables among it -/
def LawAtG (l : PySem.W.OpenLaw) (w : World) (K : PySem.W.Frag) (k n : Nat) (x : Str) (mg : Str → Option Value) (fa : Addr) (h : Heap) : Prop :=
  ∃ (fd : FuncData) (cs : List (Addr × Addr)) (sp : Sp), (∀ p ∈ cs, h.get? p.2 = some { cls := .none, data := .fields #[] } ∧ K.lookup p.2 = none ∧ PySem.W.CodeHd h p.1 p.2) ∧ (∀ (s : Shared) (u : Value), BindsTo s fd ⟨[u], []⟩ [(x, u)]) ∧
    (∀ (H : Hp) (a : Addr) (ns : List Int), ns.length ≤ n → (∀ p ∈ cs, H p.2 = some (.tbl #[])) → SqL K H a (ns.map V.int) → sp [.ref a] H (fun v _ => v = .bl true) fun _ _ _ => False) ∧
    ∀ b0 : Heap, K.In b0 → b0.Ns mainGlobals mg → (∀ p ∈ cs, LamX.TabB b0 mg p.1 p.2) → FnG l.prog w K mg b0 CX0 k fa fd [x] sp
theorem walk_ofGT {l : PySem.W.OpenLaw} {n k : Nat} {q : Program} {loose : List Str} {XP : (Str → Option Value) → Heap → Prop} {YP : World → Heap → Prop} {d : DefRec} {K : Params → PySem.W.Frag} {x : Str} (hn : l.most = some n) (hn2 : n ≤ sizeLine)
    (hdf : d.params.defaults = []) (hr : Room k callerA) (hY : ∀ (w : World) (h : Heap), YP w h → (K w.params).In h)
    (F : ∀ (w : World) (mg : Str → Option Value) (fa : Addr) (h : Heap), YP w h → (K w.params).In h → h.Ns mainGlobals mg → mg d.name = some (.ref fa) →
      (∀ (e : DefRec) (y : Str) (c p : Addr), (recsOf q).find? (fun r => r.name == y) = some e → PySem.W.tabIn (K w.params) y = some (c, p) → PySem.W.CodeHd h c p ∧ h.get? p = some { cls := .none, data := .fields #[] }) → LawAtG l w (K w.params) k n x mg fa h)
    (noX : ∀ (H : Hp) (s : Shared) (e : Value) (s' : Shared), CX0 [] H s (fun _ _ _ => False) e s' → False) : PySem.W.WalkO q loose XP YP l.row.toRowW d [] (fun f vs => PySem.call f vs) := by
  refine Att.attach_call hn hdf fun w s0 s1 mg mb fa o pm cd doc a vs ns G Y _ _ _ hmg hobj hints hlen hg => ?_
  obtain ⟨fd, cs, sp, hT, hb, hsp, hF⟩ := F w mg fa _ Y (hY w _ Y) G.T.g hmg fun _ _ _ _ e1 e2 => PySem.W.tab_of G.T (hY w _ Y) e1 e2
  exact law_callGT (hY w _ Y) G.T.g ⟨G.T.b, G.T.builtins⟩ G.T.nolimit hg (fun p hp => (hT p hp).1) (fun p hp => (hT p hp).2.1) (fun p hp => (hT p hp).2.2) G.T.bmain hobj hints (Nat.le_trans hlen hn2) hr hF hb (fun H => hsp H a ns hlen) fun H => noX H s1
/-- as Fun.okG, the code object being known (a def that makes lambdas) -/
theorem okGC {P : Program} {w : World} {K : PySem.W.Frag} {mg : Str → Option Value} {base : Heap} {k : Nat} {f c : Addr} {ps : List Str} {sp : Sp} {x qual : Str} {st : Stmt} {N : List Str} {oc kV doc pm ct : Value} {od an : Option Addr} {osl : Array (Option Value)}
    (lk : K.lookup f = some ⟨oc, od, .func (PySem.W.fnOf x qual (defArgs st) (defBody st) (defScope st) .none kV doc pm an (.ref c) ct), osl⟩) (hcd : PySem.W.codeIn K (.ref c) qual = true) (S : FnScope N ps (defScope st)) (len : ∀ vs H Q E, sp vs H Q E → vs.length = ps.length)
    (body : ∀ (A : Around) (outer : List Env) (s : Shared) (H : Hp) (vs : List V) (Q : VK) (E : XK), (A.deeper (envOfC qual (defScope st) s.heap.objs.size f (.ref c))).guards = some [] →
      Room k (A.deeper (envOfC qual (defScope st) s.heap.objs.size f (.ref c))) → sp vs H Q E →
      ∃ t, PSs (cxOf CX0 P w K mg base N qual (defScope st) f (.ref c) A outer s H E).nox (defBody st) t ∧ t { nx := fun _ H' => Q .non H', rt := Q } (start N vs) H) :
    FnG P w K mg base CX0 (k + 1) f (PySem.W.fnOf x qual (defArgs st) (defBody st) (defScope st) .none kV doc pm an (.ref c) ct) ps sp := by
  refine { len := len, go := fun A outer s H args us vs Q E hg hr e0 hb r hsp => ?_ }
  have up := fun b o e => (e0.bs b o e).1
  refine Att.call_fn (e0.mod.kin.keeps up) (e0.mod.nolimit.keeps up) lk hcd hr.depth hb ?_ (fun s1 ic => ?_) S.co S.gen S.kind
  · refine List.all_eq_true.mpr fun y hy => ?_
    obtain ⟨n, v⟩ := y
    rcases S.par n (List.of_mem_zip hy).1 with q | q <;> (dsimp only; rw [q]; rfl)
  · obtain ⟨t, ht, hq⟩ := body A outer s H vs Q E hg (hr.deeper _) hsp
    have I := inv_start (CX := CX0) (E := E) S hr.hd e0 (len _ _ _ _ hsp) r ic
    refine wpAny_mono (ht.nox.run [] s1 _ H _ I hq) (fun fl s2 h => ?_) fun _ _ h => h
    cases fl with
    | ret u =>
      obtain ⟨v, _, H2, J, rv, h⟩ := h
      exact ⟨v, H2, J.os, J.bare, J.base, J.hok, rv, h⟩
    | next =>
      obtain ⟨_, H2, J, h⟩ := h
      exact ⟨.non, H2, J.os, J.bare, J.base, J.hok, rfl, h⟩
    | brk => obtain ⟨_, _, _, h⟩ := h; exact h.elim
    | cont => obtain ⟨_, _, _, h⟩ := h; exact h.elim
end L2

set_option Elab.async false
set_option linter.all false
set_option maxRecDepth 100000
set_option maxHeartbeats 4000000
/-! How long the text of a list of pairs of short words is. -/
namespace L2
open PySem PySem.Spec PyProof.Rows
theorem from_len : ∀ (ts : List Str) (k m : Nat) (acc : Str), (∀ t ∈ ts, t.length ≤ m) → (textFrom k acc ts).length ≤ acc.length + ts.length * (m + 2)
  | [], k, m, acc, _ => by
    show acc.length ≤ _
    omega
  | t :: ts, k, m, acc, h => by
    have ih := from_len ts (k + 1) m (acc ++ (if k > 0 then ", " else "" : String) ++ t) fun u hu => h u (List.mem_cons_of_mem _ hu)
    have h1 := h t (List.mem_cons_self ..)
    have h2 : (Str.ofString (if k > 0 then ", " else "")).length ≤ 2 := by
      split <;> decide
    show (textFrom (k + 1) (acc ++ (if k > 0 then ", " else "" : String) ++ t) ts).length ≤ _
    rw [Str.length_append, Str.length_append] at ih
    rw [List.length_cons, Nat.succ_mul]
    omega
def pairD (p : Str × Str) : PyData := .tuple [.str p.1, .str p.2]
theorem pair_text {p : Str × Str} (h1 : (reprText p.1).length ≤ 12) (h2 : (reprText p.2).length ≤ 12) : (pairD p).shown.length ≤ 30 := by
  unfold pairD
  simp only [PyData.shown, PyData.shownAll]
  have e := join_length_add [reprText p.1, reprText p.2] (by simp)
  rw [piled_cons, piled_cons, piled_nil] at e
  unfold tupleText
  rw [Str.length_append, Str.length_append]
  have c1 : (Str.ofString "(").length = 1 := by decide
  have c2 : (Str.ofString (if ([reprText p.1, reprText p.2].length == 1) = true then ",)" else ")")).length ≤ 2 := by
    split <;> decide
  omega
theorem pairs_data_ok : ∀ ps : List (Str × Str), PyData.showableAll (ps.map pairD) = true ∧ PyData.hasDictAll (ps.map pairD) = false ∧ PyData.depthAll (ps.map pairD) ≤ 2
  | [] => ⟨rfl, rfl, by simp [PyData.depthAll]⟩
  | p :: ps => by
    obtain ⟨h1, h2, h3⟩ := pairs_data_ok ps
    refine ⟨?_, ?_, ?_⟩
    · rw [List.map_cons, PyData.showableAll, h1]
      rfl
    · rw [List.map_cons, PyData.hasDictAll, h2]
      rfl
    · simp only [List.map_cons, PyData.depthAll]
      have : (pairD p).depth ≤ 2 := by
        unfold pairD
        simp [PyData.depth, PyData.depthAll]
      omega
theorem pairs_shown : ∀ {ps : List (Str × Str)}, (∀ p ∈ ps, (reprText p.1).length ≤ 12 ∧ (reprText p.2).length ≤ 12) → ∀ t ∈ PyData.shownAll (ps.map pairD), t.length ≤ 30
  | [], _, t, h => by cases h
  | p :: ps, hp, t, h => by
    rw [List.map_cons, PyData.shownAll] at h
    rcases List.mem_cons.mp h with e | e
    · rw [e]
      obtain ⟨h1, h2⟩ := hp p (List.mem_cons_self ..)
      exact pair_text h1 h2
    · exact pairs_shown (fun q hq => hp q (List.mem_cons_of_mem _ hq)) t e
theorem shownAll_len : ∀ ds : List PyData, (PyData.shownAll ds).length = ds.length
  | [] => rfl
  | d :: ds => by
    rw [PyData.shownAll, List.length_cons, List.length_cons, shownAll_len ds]
/-- repr of a list of pairs: all that rReprD asks -/
theorem pairs_repr {ps : List (Str × Str)} (hp : ∀ p ∈ ps, (reprText p.1).length ≤ 12 ∧ (reprText p.2).length ≤ 12) (hl : ps.length ≤ 64) :
    (PyData.list (ps.map pairD)).hasDict = false ∧ (PyData.list (ps.map pairD)).showable = true ∧ (PyData.list (ps.map pairD)).depth ≤ 100 ∧ (PyData.list (ps.map pairD)).shown.length ≤ sizeLine := by
  obtain ⟨h1, h2, h3⟩ := pairs_data_ok ps
  refine ⟨by rw [PyData.hasDict]; exact h2, by rw [PyData.showable]; exact h1, by rw [PyData.depth]; omega, ?_⟩
  rw [PyData.shown]
  unfold listText
  rw [Str.length_append]
  have h4 := from_len (PyData.shownAll (ps.map pairD)) 0 30 "[" (pairs_shown hp)
  rw [shownAll_len, List.length_map] at h4
  have c1 : (Str.ofString "[").length = 1 := by decide
  have c2 : (Str.ofString "]").length = 1 := by decide
  have h5 : ps.length * (30 + 2) ≤ 64 * 32 := Nat.mul_le_mul_right _ hl
  rw [sizeLine_eq]
  omega
theorem Tps.dp {K : PySem.W.Frag} {H : Hp} : ∀ {ys : List V} {ps : List (Str × Str)}, Tps H ys ps → DpAll K H ys (ps.map pairD)
  | [], [], _ => .nil
  | y :: ys, p :: ps, t => by
    obtain ⟨q, rfl, h⟩ := t.2 0 y p rfl rfl
    exact .cons (.tup (SqT.of h) (.cons (.str _) (.cons (.str _) .nil))) (Tps.dp ⟨Nat.succ.inj t.1, fun j z r h1 h2 => t.2 (j + 1) z r (by simpa using h1) (by simpa using h2)⟩)
  | [], _ :: _, t => by cases t.1
  | _ :: _, [], t => by cases t.1
theorem names_short : ∀ z ∈ names8, (reprText z).length ≤ 12 ∧ PyData.strOk z = true := by decide +kernel
theorem strOk_app {a b : Str} (h1 : PyData.strOk a = true) (h2 : PyData.strOk b = true) : PyData.strOk (a ++ b) = true := by
  unfold PyData.strOk at *
  show (a.cps ++ b.cps).all _ = true
  rw [Array.all_append, h1, h2]
  rfl
theorem strOk_from : ∀ {ts : List Str} {k : Nat} {acc : Str}, PyData.strOk acc = true → (∀ t ∈ ts, PyData.strOk t = true) → PyData.strOk (textFrom k acc ts) = true
  | [], _, _, h, _ => h
  | t :: ts, k, acc, h, ht => by
    refine strOk_from (ts := ts) (strOk_app (strOk_app h ?_) (ht t (List.mem_cons_self ..))) fun u hu => ht u (List.mem_cons_of_mem _ hu)
    split <;> decide +kernel
theorem strOk_list {ts : List Str} (h : ∀ t ∈ ts, PyData.strOk t = true) : PyData.strOk (listText ts) = true := strOk_app (strOk_from (by decide +kernel) h) (by decide +kernel)
theorem strOk_one {t : Str} (h : PyData.strOk t = true) : PyData.strOk (tupleText [t]) = true := by
  show PyData.strOk ((("(" : Str) ++ t) ++ ((if ([t] : List Str).length == 1 then ",)" else ")" : String) : Str)) = true
  exact strOk_app (strOk_app (by decide +kernel) h) (by show PyData.strOk (Str.ofString ",)") = true; decide +kernel)
theorem names_text : ∀ z ∈ names8, PyData.strOk (reprText z) = true := by decide +kernel
theorem eqvAll_bls : ∀ bs : List Bool, PyData.eqvAll (bs.map .bool) (bs.map .bool) = true
  | [] => rfl
  | b :: bs => by
    rw [List.map_cons, PyData.eqvAll, eqvAll_bls bs, PyData.eqv]
    simp
theorem lay_bls : ∀ bs : List Bool, PyData.canLayAll0 (bs.map .bool) = true ∧ PyData.depthAll (bs.map .bool) ≤ 1
  | [] => ⟨rfl, by simp [PyData.depthAll]⟩
  | b :: bs => by
    obtain ⟨h1, h2⟩ := lay_bls bs
    refine ⟨by rw [List.map_cons, PyData.canLayAll0, h1]; rfl, ?_⟩
    simp only [List.map_cons, PyData.depthAll, PyData.depth]
    omega
theorem bls_ok (bs : List Bool) : SeqAt.shaped (.list (bs.map .bool)) = true ∧ PyData.eqv (.list (bs.map .bool)) (.list (bs.map .bool)) = true := by
  obtain ⟨h1, h2⟩ := lay_bls bs
  refine ⟨?_, by rw [PyData.eqv, eqvAll_bls]⟩
  unfold SeqAt.shaped
  rw [PyData.canLay0, h1, Bool.true_and, PyData.depth]
  exact decide_eq_true (by omega)
theorem eqvAll_ints : ∀ ns : List Int, PyData.eqvAll (ns.map .int) (ns.map .int) = true
  | [] => rfl
  | n :: ns => by
    rw [List.map_cons, PyData.eqvAll, eqvAll_ints ns, PyData.eqv]
    simp
theorem lay_ints : ∀ ns : List Int, PyData.canLayAll0 (ns.map .int) = true ∧ PyData.depthAll (ns.map .int) ≤ 1
  | [] => ⟨rfl, by simp [PyData.depthAll]⟩
  | n :: ns => by
    obtain ⟨h1, h2⟩ := lay_ints ns
    refine ⟨by rw [List.map_cons, PyData.canLayAll0, h1]; rfl, ?_⟩
    simp only [List.map_cons, PyData.depthAll, PyData.depth]
    omega
theorem ints_ok (ns : List Int) : SeqAt.shaped (.list (ns.map .int)) = true ∧ PyData.eqv (.list (ns.map .int)) (.list (ns.map .int)) = true := by
  obtain ⟨h1, h2⟩ := lay_ints ns
  refine ⟨?_, by rw [PyData.eqv, eqvAll_ints]⟩
  unfold SeqAt.shaped
  rw [PyData.canLay0, h1, Bool.true_and, PyData.depth]
  exact decide_eq_true (by omega)
theorem dp_ints {K : PySem.W.Frag} {H : Hp} : ∀ ns : List Int, DpAll K H (ns.map V.int) (ns.map PyData.int)
  | [] => .nil
  | n :: ns => .cons (.int n) (dp_ints ns)
theorem small_int : ∀ k : Nat, k ≤ 10 → (PyData.int k).showable = true ∧ (PyData.int k).shown.length ≤ sizeLine := by decide +kernel
theorem mem_pairs {zs : List Str} {p : Str × Str} (h : p ∈ pairsOf zs) : p.1 ∈ zs ∧ p.2 ∈ zs ∧ p.1 ≠ p.2 := by
  obtain ⟨a, ha, hp⟩ := List.mem_flatMap.mp h
  obtain ⟨b, hb, rfl⟩ := List.mem_map.mp hp
  obtain ⟨h1, h2⟩ := List.mem_filter.mp hb
  exact ⟨ha, h1, of_decide_eq_true h2⟩
theorem rgV0 (n : Nat) : rgV 0 (n : Int) = ((List.range n).map fun i : Nat => (i : Int)).map V.int := by
  unfold rgV
  rw [List.map_map]
  have e : ((n : Int) - 0).toNat = n := by omega
  rw [e]
  refine List.map_congr_left fun i _ => ?_
  show V.int (0 + (i : Int)) = V.int (i : Int)
  rw [Int.zero_add]
theorem isPair_true {zs : List Str} {p : Str × Str} (h : p ∈ pairsOf zs) : isPairB (.str p.1) (.str p.2) zs = true := by
  obtain ⟨h1, h2, h3⟩ := mem_pairs h
  unfold isPairB
  show (decide (p.1 ∈ zs) && (decide (p.2 ∈ zs) && !decide (V.str p.1 = V.str p.2))) = true
  rw [decide_eq_true h1, decide_eq_true h2, decide_eq_false fun z => h3 (V.str.inj z)]
  rfl
theorem shown_words : ∀ zs : List Str, PyData.shownAll (zs.map .str) = zs.map reprText
  | [] => rfl
  | z :: zs => by
    rw [List.map_cons, PyData.shownAll, shown_words zs, PyData.shown]
    rfl
theorem words_flat : ∀ zs : List Str, PyData.showableAll (zs.map .str) = true ∧ PyData.hasDictAll (zs.map .str) = false
  | [] => ⟨rfl, rfl⟩
  | z :: zs => by
    obtain ⟨h1, h2⟩ := words_flat zs
    exact ⟨by rw [List.map_cons, PyData.showableAll, h1]; rfl, by rw [List.map_cons, PyData.hasDictAll, h2]; rfl⟩
/-- all that repr asks of data, and that its text can be laid -/
def ReprOk (D : PyData) : Prop := D.hasDict = false ∧ D.showable = true ∧ D.depth ≤ 100 ∧ D.shown.length ≤ sizeLine ∧ PyData.strOk D.shown = true
theorem words_repr {zs : List Str} (h : ∀ z ∈ zs, (reprText z).length ≤ 12 ∧ PyData.strOk (reprText z) = true) (hl : zs.length ≤ 8) : ReprOk (.list (zs.map .str)) := by
  obtain ⟨h1, h2⟩ := words_flat zs
  have h3 := depth_strs zs
  refine ⟨by rw [PyData.hasDict]; exact h2, by rw [PyData.showable]; exact h1, by rw [PyData.depth]; omega, ?_, ?_⟩
  · rw [PyData.shown, shown_words]
    unfold listText
    rw [Str.length_append]
    have h4 := from_len (zs.map reprText) 0 12 "[" (fun t ht => by
      obtain ⟨z, hz, rfl⟩ := List.mem_map.mp ht
      exact (h z hz).1)
    rw [List.length_map] at h4
    have c1 : (Str.ofString "[").length = 1 := by decide
    have c2 : (Str.ofString "]").length = 1 := by decide
    have h5 : zs.length * (12 + 2) ≤ 8 * 14 := Nat.mul_le_mul_right _ hl
    rw [sizeLine_eq]
    omega
  · rw [PyData.shown, shown_words]
    exact strOk_list fun t ht => by
      obtain ⟨z, hz, rfl⟩ := List.mem_map.mp ht
      exact (h z hz).2
theorem one_repr : ∀ z ∈ names8, ReprOk (.tuple [.str z]) := by
  unfold ReprOk
  decide +kernel
theorem odd_repr : ReprOk .none ∧ ReprOk (.int 5) ∧ ReprOk (.str "") ∧ ReprOk (.str "nobody") ∧ ReprOk (.str "A") ∧ ReprOk (.bool true) := by
  unfold ReprOk
  decide +kernel
theorem names_not : ∀ z ∈ names8, z ≠ "" ∧ z ≠ "nobody" ∧ z ≠ "A" ∧ z ≠ "ab" := by decide +kernel
theorem tyN_ext {K : PySem.W.Frag} {H : Hp} : True := trivial
end L2

set_option Elab.async false
set_option linter.all false
set_option maxRecDepth 100000
set_option maxHeartbeats 4000000
/-! An own error made by its field's name. -/
namespace Km
open PySem PySem.W PySem.Calls PySem.HandSPX
section
variable {prog : Program} {w : World} {A : Around} {E : Value → Shared → Prop} {R : Result → Shared → Prop} {h : Heap} {g : Array GenState} {d : Drawn} {t : Nat} {os : OsState}
variable {nm q : Str} {C N : Addr} {bs bm bmB : List Value} {hdct : Bool} {sn : List Str} {sub : List Value} {ab : Bool} {col : Option Bool} {dd : Option Addr} {k0 k1 k2 k3 k5 : Option Value} {B newId initId : String} {kw : List (Str × Value)}
theorem kw_check {M : Model} (F : ExcBaseFacts B newId initId bmB) (hT : ∀ X : String, bm.contains (.type X) = bmB.contains (.type X)) {Q : Unit → Shared → Prop}
    (hC : h.get? C = some (excClassObj nm q C N bs bm hdct sn sub ab col dd k0 k1 k2 k3 k5 newId)) (hq : Q () ⟨h, g, d, t, os⟩) :
    wpAny M A (checkBuiltinCall newId ⟨[.ref C], kw⟩) Q E ⟨h, g, d, t, os⟩ := by
  have inB : (Value.ref C :: bm).contains (.type B) = true := by rw [List.contains_cons, hT, F.hasB, Bool.or_true]
  have star := F.noStar
  simp only [checkBuiltinCall, F.newKind, F.newSplit, F.newRow]
  repeat (first
    | refine wpAny_loadPart_at hC ?_
    | (refine wpAny_isSubtype_exc hC ?_; rw [inB])
    | refine wpAny_staticBase_exc hC ?_
    | refine wpAny_madeBy_exc hC ?_
    | simp only [bne_self_eq_false, Bool.false_eq_true, if_false]
    | wp_step)
  exact hq
theorem kw_new (F : ExcBaseFacts B newId initId bmB) (hT : ∀ X : String, bm.contains (.type X) = bmB.contains (.type X))
    (hC : h.get? C = some (excClassObj nm q C N bs bm hdct sn sub ab col dd k0 k1 k2 k3 k5 newId))
    (hq : R (.ok (.ret (.ref (h.objs.size + 1)))) ⟨(h.push (kdv_tup [])).push (excO C h.objs.size), g, d, t, os⟩) :
    codeAny (model prog w) A (.builtin newId ⟨[.ref C], kw⟩) R ⟨h, g, d, t, os⟩ := by
  have ends := F.ends
  have inB : (Value.ref C :: bm).contains (.type B) = true := by rw [List.contains_cons, hT, F.hasB, Bool.or_true]
  have inA : (Value.ref C :: bm).contains (.type "AttributeError") = false := by rw [List.contains_cons, hT, F.noAttr]; rfl
  have inN : (Value.ref C :: bm).contains (.type "NameError") = false := by rw [List.contains_cons, hT, F.noName]; rfl
  refine codeAny_builtinAt F.entry ?_
  unfold Builtin.«BaseException.__new__»
  refine PySem.wpAt_bind ?_
  refine PySem.wpAt_bind (PySem.wpAt_stack fun p below => PySem.wpAt_of_wpAny ?_)
  wp_walk
  refine PySem.wpAt_of_wpAny ?_
  rw [F.owner]
  repeat (first
    | with_reducible refine wpAny_madeHere_exc F.canon hC ?_
    | with_reducible refine wpAny_loadPart_at hC ?_
    | (with_reducible refine wpAny_isSubtype_exc hC ?_; first | rw [inB] | rw [inA] | rw [inN])
    | wp_step)
  show R _ _
  rw [Heap.size_push]
  exact hq
theorem kw_type (F : ExcBaseFacts B newId initId bmB) (hT : ∀ X : String, bm.contains (.type X) = bmB.contains (.type X)) {fI : Addr} {Q : PySem.Fin → Shared → Prop}
    (hC : h.get? C = some (excClassObj nm q C N bs bm hdct sn sub ab col dd k0 k1 k2 k3 k5 newId))
    (hi : W.Looks (model prog w) h (typeLookup (.ref C) "__init__") (some (.ref fI))) (hb : ∀ self, W.Looks (model prog w) h (bindSpecial (.ref fI) self) (.ref fI, [self]))
    (hq : codeAny (model prog w) A (.call (.ref fI) ⟨[.ref (h.objs.size + 1)], kw⟩)
      (fun r s2 => match r with
        | .ok (.ret v) => v = .none ∧ Q (.done (.ret (.ref (h.objs.size + 1)))) s2
        | .ok _ => False
        | .error e => E e s2) ⟨(h.push (kdv_tup [])).push (excO C h.objs.size), g, d, t, os⟩) :
    wpAny (model prog w) A (Builtin.«type.__call__» ⟨[.ref C], kw⟩) Q E ⟨h, g, d, t, os⟩ := by
  repeat (first
    | with_reducible refine wpAny_loadPart_at hC ?_
    | with_reducible refine wpAny_madeBy_exc hC ?_
    | wp_step)
  refine codeAny_call_builtin_code (Code.quiet_builtin _ F.quiet) (kw_check F hT hC ?_)
  refine kw_new F hT hC ?_
  show wpAny _ _ _ _ _ _
  have kept : ∀ b o, h.get? b = some o → ((h.push (kdv_tup [])).push (excO C h.objs.size)).get? b = some o := fun b o z => Heap.get?_push_of_some _ (Heap.get?_push_of_some _ z)
  have hC1 := kept _ _ hC
  have there : ((h.push (kdv_tup [])).push (excO C h.objs.size)).get? (h.objs.size + 1) = some (excO C h.objs.size) := by heap_get
  have inC : (Value.ref C :: bm).contains (.ref C) = true := by simp
  have i1 := hi.keeps kept
  have b1 := (hb (.ref (h.objs.size + 1))).keeps kept
  unfold isInstance
  repeat (first
    | with_reducible refine wpAny_loadPart_at there ?_
    | (with_reducible refine wpAny_isSubtype_exc hC1 ?_; rw [inC])
    | wp_step)
  refine i1.at ?_
  refine wpAny_holding (wpAny_bind (b1.at ?_))
  refine wpAny_bind (wpAny_call (codeAny_mono hq fun r s2 z => ?_))
  cases r with
  | error e => exact z
  | ok fl =>
    cases fl with
    | ret v =>
      obtain ⟨rfl, z⟩ := z
      first
        | exact wpAny_pure (wpAny_pure z)
        | (wp_walk; exact z)
    | _ => exact z.elim
theorem kw_call (F : ExcBaseFacts B newId initId bmB) (hT : ∀ X : String, bm.contains (.type X) = bmB.contains (.type X)) {fI : Addr}
    (hC : h.get? C = some (excClassObj nm q C N bs bm hdct sn sub ab col dd k0 k1 k2 k3 k5 newId))
    (hi : W.Looks (model prog w) h (typeLookup (.ref C) "__init__") (some (.ref fI))) (hb : ∀ self, W.Looks (model prog w) h (bindSpecial (.ref fI) self) (.ref fI, [self]))
    (hq : codeAny (model prog w) (A.under (.builtin "type.__call__" ⟨[.ref C], kw⟩)) (.call (.ref fI) ⟨[.ref (h.objs.size + 1)], kw⟩) (W.InitBack (h.objs.size + 1) R)
      ⟨(h.push (kdv_tup [])).push (excO C h.objs.size), g, d, t, os⟩) : codeAny (model prog w) A (.call (.ref C) ⟨[], kw⟩) R ⟨h, g, d, t, os⟩ := by
  have f1 := tc_lookup
  have f2 := tc_bind (.ref C)
  have ty : (⟨h, g, d, t, os⟩ : Shared).TypeIs (.ref C) "type" := ⟨_, hC, rfl⟩
  refine codeAny_of_tree ?_
  show wpAny _ _ (callAny (.ref C) _) _ _ _
  repeat (any_goals (first
    | assumption
    | with_reducible refine wpAny_loadPart_at hC ?_
    | wp_step))
  refine ⟨rfl, ?_⟩
  refine codeAny_call_builtin_at (Code.quiet_builtin _ (by decide +kernel)) entry_typeCall (wpAny_check_type_call_sub hC (kw_type F hT hC hi hb (codeAny_mono hq fun r s2 z => ?_)))
  cases r with
  | error e => exact z
  | ok fl =>
    cases fl with
    | ret v => exact z
    | _ => exact z
end
end Km


set_option Elab.async false
set_option linter.all false
set_option maxRecDepth 100000
set_option maxHeartbeats 4000000
/-! Errors made by their field's name; errors without an own __init__; isinstance of either. -/
namespace L2
open PySem PySem.Spec PyProof.Rows
section
variable {X : Cx} {CX : CXT} {x f : Str} {C fI : Addr} {k : Nat} {fd : FuncData} {ps : List Str} {sp : Sp} {E : XK} {e : Expr} {te : TE} {p pos kpos : Pos}
/-- C(f=e), of one parameter beside self -/
def tEcK (C : Addr) (sp : Sp) (E : XK) (tk : TA) : TE := fun σ H Q => tk σ H fun zs H1 => ∃ v, zs = [v] ∧ ∀ a, H1 a = none → sp [.ref a, v] (upd H1 a (exo a C none)) (fun w H2 => w = .non ∧ Q (.ref a) H2) E
theorem pe_eck (T : EcC X.K C) (iC : PySem.W.findIn X.K (.ref C) "__init__" = some (some (.ref fI))) (tI : PySem.W.typeIn X.K (.ref fI) = some (.type "function")) (F : FnOk X.prog X.w X.K X.mg X.base CX k fI fd ps sp) (hr : Room (k + 1) X.A)
    (hb : ∀ (s : Shared) (a u : Value), BindsTo s fd ⟨[a], [(f, u)]⟩ (ps.zip [a, u])) (hx : Passes CX X E) (hg : Gl X x) (hm : X.mg x = some (.ref C)) (he : PE X e te) (hdb : (x == ("__debug__" : Str)) = false := by decide)
    (hall : (backToKw pos (keywordEach [⟨some f, e, kpos⟩] X.env)).all (·.1.isSome) = true := by rfl) (hks : (backToKw pos (keywordEach [⟨some f, e, kpos⟩] X.env)).filterMap (·.1) = [f] := by rfl)
    (hpl : ((backTo pos (starEach [] X.env)).any (·.1) || (backToKw pos (keywordEach [⟨some f, e, kpos⟩] X.env)).any (·.1.isNone)) = false := by rfl) : PE X (.Call (.Name x p) [] [⟨some f, e, kpos⟩] pos) (tEcK C sp E (tCons te tNil)) := by
  constructor
  intro pins s σ H Q I h
  refine wpAny_Call_Name_kw (ld_glob I hg hm ?_ hdb)
  refine PySem.W.callWith_KW0 (h₀ := X.base) I.ok.mod.kin T.kC hall ?_ hpl
  refine thn ((pk_cons (nm := some f) (kpos := kpos) he pk_nil).run pos pins s σ H _ I h) fun ws s1 q0 => ?_
  obtain ⟨zs, H1, I1, r1, v, rfl, q1⟩ := q0
  obtain ⟨u, rfl, ru⟩ := vals1 r1
  rw [hks]
  refine ⟨I1.kIn, ?_⟩
  show wpAny _ _ (call (.ref C) [] [(f, u)]) _ _ _
  obtain ⟨B, newId, initId, bmB, FB, SF, hin, hov⟩ := T.base
  obtain ⟨nm, N, qn, bs, bm, hdct, sn, sub, ab, col, dd, k0, k1, k2, k3, k5, hC, hT⟩ := PySem.W.excInit_of I1.kIn hin
  obtain ⟨hp, g, dr, tk, os⟩ := s1
  have n1 : H1 (hp.objs.size + 1) = none := I1.hok.fresh (Nat.le_succ _)
  have q2 := q1 _ n1
  have kept : ∀ b o, hp.get? b = some o → ((hp.push (PySem.W.kdv_tup [])).push (PySem.HandSPX.excO C hp.objs.size)).get? b = some o := fun b o z => Heap.get?_push_of_some _ (Heap.get?_push_of_some _ z)
  have there : ((hp.push (PySem.W.kdv_tup [])).push (PySem.HandSPX.excO C hp.objs.size)).get? (hp.objs.size + 1) = some (PySem.HandSPX.excO C hp.objs.size) := by heap_get
  have J : Inv X pins σ (upd H1 (hp.objs.size + 1) (exo (hp.objs.size + 1) C none)) ⟨(hp.push (PySem.W.kdv_tup [])).push (PySem.HandSPX.excO C hp.objs.size), g, dr, tk, os⟩ :=
    I1.laid (t' := tk) (a := hp.objs.size + 1) (h' := (hp.push (PySem.W.kdv_tup [])).push (PySem.HandSPX.excO C hp.objs.size)) kept (Nat.le_succ _) (exo_ok there)
  have r2 : Vals [V.ref (hp.objs.size + 1), v] [Value.ref (hp.objs.size + 1), u] := .cons rfl (.cons ru .nil)
  refine wpAny_call (Km.kw_call FB hT hC (PySem.W.looks_findIn I1.kIn iC) (fun self => PySem.W.bind_fn I1.kIn self tI) (codeAny_mono (F.run _ X.stack _ _ ⟨[.ref (hp.objs.size + 1)], [(f, u)]⟩ [.ref (hp.objs.size + 1), u] _ _ E (hr.make C [] [(f, u)]) (J.env0.make C [] [(f, u)]) (hb _ _ _) r2 q2) fun z s2 hz => ?_))
  cases z with
  | error er => exact hx pins σ _ _ er s2 J hz
  | ok fl =>
    cases fl with
    | ret w =>
      obtain ⟨v2, H2, os2, bare2, un2, hok2, rv, e2, q3⟩ := hz
      obtain ⟨hh, g2, d2, t2, o2⟩ := s2
      obtain rfl : o2 = os := os2
      subst e2
      exact ⟨rv, .ref (hp.objs.size + 1), H2, J.call (h' := hh) (g' := g2) (d' := d2) (t' := t2) (ch := []) un2 hok2 bare2 (fun b z => absurd z (by simp)), rfl, q3⟩
    | next => exact False.elim hz
    | brk => exact False.elim hz
    | cont => exact False.elim hz
/-- an error, made by an own __init__ or without one, not raised -/
def Held (H : Hp) (a C : Addr) : Prop := (∃ d : Option Addr, H a = some (exo a C d) ∧ ∀ dx, d = some dx → ∃ fs, H dx = some (exd dx fs)) ∨ H a = some (ExO (.ref C) a)
/-- isinstance(x, c), x an error that is held -/
def rIsH (K : PySem.W.Frag) : List V → Hp → VK → Prop := fun xs H Q => ∃ (a C : Addr) (c : V) (cv : Value) (b : Bool), xs = [.ref a, c] ∧ ClsV c cv ∧ ExcC K C ∧ Held H a C ∧ PySem.W.kitOne K (.ref C) cv = some b ∧ Q (.bl b) H
theorem call_isH : CallR X (.builtin "isinstance") (rIsH X.K) := by
  intro pins s σ H xs us Q I r h
  obtain ⟨a, C, c, cv, b, rfl, hc, T, hh, ek, q⟩ := h
  rcases hh with ⟨d, ea, hd⟩ | ea
  · exact call_isV pins s σ H _ us Q I r ⟨a, C, d, c, cv, b, rfl, hc, T, ea, hd, ek, q⟩
  obtain ⟨u1, u2, rfl, r1, r2⟩ := vals2 r
  cases r1
  obtain rfl := hc.eq r2
  obtain ⟨⟨oe, fs, ho, hz, hdat, _, _, _⟩, _, _⟩ := I.hok a _ ea
  have hcl : (PySem.W.clsIn X.K C).isSome = true := by
    obtain ⟨cd, hc, _⟩ := PySem.W.any_some T.hd
    rw [hc] <;> rfl
  have J : PySem.W.InstAt s.heap a oe C none := ⟨ho, hz.1, by rw [PySem.W.notCls, hdat], by rw [hz.2]; trivial⟩
  exact PySem.W.kia_one (PySem.W.kitx_exc hcl T.hg T.hk T.hs T.ha T.hn T.ht T.hm) I.kIn J ek (fun z => nomatch z) fun tk => ⟨.bl b, H, I.kept (t' := tk) fun _ _ z => z, rfl, q⟩
/-- X(), an own error class without own __init__ -/
theorem pe_exc0 {bmB : List Value} {B newId initId : String} (F : ExcBaseFacts B newId initId bmB) (q : PySem.W.excIn X.K C bmB newId = true) (gC : X.mg x = some (.ref C)) (kC : PySem.W.keepIn X.K (.ref C) = true) (hg : Gl X x) (hdb : (x == ("__debug__" : Str)) = false := by decide) :
    PE X (.Call (.Name x p) [] [] pos) (fun σ H Q => ∀ a, H a = none → Q (.ref a) (upd H a (ExO (.ref C) a))) := by
  constructor
  intro pins s σ H Q I h
  refine wpAny_Call_Name_kw (ld_glob I hg gC ?_ hdb)
  refine PySem.W.callWith_K0 I.kIn kC ?_
  obtain ⟨bm, N, nm, qn, bs, hdct, sn, sub, ab, col, dd, k0, k1, k2, k3, k5, mN, hC, hN, hni, T⟩ := exc_obj I.kIn q
  refine wpAny_call_exc_subT (rest := []) F T hC hN hni (fun h2 a hm => ?_) (Nat.zero_le _)
  obtain ⟨t, ht, _⟩ := hm.there
  exact ⟨.ref a, upd H a (ExO (.ref C) a), I.laidN hm.keeps hm.new (I.hok.gone hm.new) (exO_ok ht ⟨rfl, rfl⟩ rfl rfl rfl (show 4 < 6 by decide)), rfl, h a (I.hok.gone hm.new)⟩
end
end L2

set_option Elab.async false
set_option linter.all false
set_option maxRecDepth 100000
set_option maxHeartbeats 4000000
/-! An error class with one field, all that is asked of it; comprehensions with new objects as items. -/
namespace L2
open PySem PySem.Spec PyProof.Rows
structure Ek (P : Program) (w : World) (K : PySem.W.Frag) (mg : Str → Option Value) (base : Heap) (name f : Str) (C : Addr) : Prop where
  g : mg name = some (.ref C)
  ec : EcC K C
  xf : XfC K C
  xc : ExcC K C
  no : PySem.W.findIn K (.ref C) f = some none
  init : ∃ (fI : Addr) (fd : FuncData), PySem.W.findIn K (.ref C) "__init__" = some (some (.ref fI)) ∧ PySem.W.typeIn K (.ref fI) = some (.type "function") ∧ FnOk P w K mg base CX0 1 fI fd ["self", f] (spEcInit K C f) ∧
    Binds K fd ["self", f] [] ∧ ∀ (s : Shared) (a u : Value), BindsTo s fd ⟨[a], [(f, u)]⟩ ((["self", f] : List Str).zip [a, u])
/-- e is a held error of the class at C whose field f is v -/
def Er1 (H : Hp) (C : Addr) (f : Str) (v e : V) : Prop := ∃ a d, e = .ref a ∧ H a = some (exo a C (some d)) ∧ H d = some (exd d [(f, v)])
theorem Er1.same {H H2 : Hp} {C : Addr} {f : Str} {v e : V} (r : Er1 H C f v e) (s : Same H H2) : Er1 H2 C f v e := by
  obtain ⟨a, d, e1, h1, h2⟩ := r
  exact ⟨a, d, e1, s _ _ h1, s _ _ h2⟩
def tMade (C : Addr) (f : Str) (i : Nat) : TE := fun σ H Q => ∃ v, σ[i]? = some (some v) ∧ ∀ e H2, Same H H2 → Er1 H2 C f v e → Q e H2
section
variable {X : Cx} {name f : Str} {C : Addr} {e : Expr} {i : Nat} {p pos kpos : Pos}
theorem made_of {K : PySem.W.Frag} {H : Hp} {v : V} {Q : VK} {E : XK} (T : EcC K C) (no : PySem.W.findIn K (.ref C) f = some none) (q : ∀ e H2, Same H H2 → Er1 H2 C f v e → Q e H2) {a : Addr} (na : H a = none) :
    spEcInit K C f [.ref a, v] (upd H a (exo a C none)) (fun w H2 => w = .non ∧ Q (.ref a) H2) E := by
  refine ⟨a, v, rfl, T, no, upd_same, fun d nd ne => ⟨rfl, q _ _ (fun b o z => ?_) ⟨a, d, rfl, upd_same, by rw [upd_ne ne, upd_same]⟩⟩⟩
  have ba := ne_of_none z na
  have nd1 : H d = none := by
    rw [upd_ne ne] at nd
    exact nd
  rw [upd_ne ba, upd_ne (ne_of_none z nd1), upd_ne ba]
  exact z
theorem pe_mkP (E : Ek X.prog X.w X.K X.mg X.base name f C) (hr : Room 2 X.A) (hg : Gl X name) (he : PE X e (tVar i)) (hdb : (name == ("__debug__" : Str)) = false := by decide)
    (hs : starEach [e] X.env = (false, eval e X.env) :: starEach [] X.env := by rfl) : PE X (.Call (.Name name p) [e] [] pos) (tMade C f i) := by
  obtain ⟨fI, fd, ii, tt, F, b, _⟩ := E.init
  constructor
  intro pins s σ H Q I h
  obtain ⟨v, hv, q⟩ := h
  exact (pe_ecv (E := fun _ _ _ => False) E.ec ii tt F hr b pass0 hg E.g (pa_cons he pa_nil (hs := hs)) hdb hs rfl).run pins s σ H Q I ⟨v, hv, (by show 1 ≤ 1000; decide), fun a na => made_of E.ec E.no q na⟩
theorem pe_mkN (E : Ek X.prog X.w X.K X.mg X.base name f C) (hr : Room 2 X.A) (hg : Gl X name) (he : PE X e (tVar i)) (hdb : (name == ("__debug__" : Str)) = false := by decide)
    (hall : (backToKw pos (keywordEach [⟨some f, e, kpos⟩] X.env)).all (·.1.isSome) = true := by rfl) (hks : (backToKw pos (keywordEach [⟨some f, e, kpos⟩] X.env)).filterMap (·.1) = [f] := by rfl)
    (hpl : ((backTo pos (starEach [] X.env)).any (·.1) || (backToKw pos (keywordEach [⟨some f, e, kpos⟩] X.env)).any (·.1.isNone)) = false := by rfl) : PE X (.Call (.Name name p) [] [⟨some f, e, kpos⟩] pos) (tMade C f i) := by
  obtain ⟨fI, fd, ii, tt, F, _, b⟩ := E.init
  constructor
  intro pins s σ H Q I h
  obtain ⟨v, hv, q⟩ := h
  exact (pe_eck (E := fun _ _ _ => False) E.ec ii tt F hr b pass0 hg E.g he hdb hall hks hpl).run pins s σ H Q I ⟨v, hv, v, rfl, fun a na => made_of E.ec E.no q na⟩
end
section
variable {J : It} {n : Nat} {G : Hp → Prop}
/-- a comprehension without a test whose items are known by what is true of them, apart from the list that grows -/
theorem lc_rel {xs : List V} (w : Walk J n G (YAt xs)) (hsz : n < sizeLine) {slot : Nat} {te : TE} {vs : List Nat} {σ : St} {H1 : Hp} {D : Addr} {Qd : Hp → Prop} (R : Nat → V → Hp → Prop) (hR : ∀ i y H H', R i y H → But D H H' → R i y H') (hD : H1 D = none)
    (hG : ∀ H, Same H1 H → G H) (hw : ∀ x, wipe ((wipe σ vs).set slot (some x)) vs = wipe σ vs)
    (hs : ∀ (i : Nat) (x : V) (H : Hp) (Q : VK), xs[i]? = some x → Same H1 H → (∃ o, H D = some o) → (∀ y H4, Same H H4 → R i y H4 → Q y H4) → te ((wipe σ vs).set slot (some x)) H Q)
    (hd : ∀ (H : Hp) (ys : List V), Same H1 H → H D = some (.lst ys) → ys.length = n → (∀ (i : Nat) (y : V), ys[i]? = some y → R i y H) → Qd H) :
    ∃ W : Nat → Nat → Hp → Prop, (∃ m, W 0 m (upd H1 D (.lst []))) ∧ ∀ i m H, W i m H →
      (J.stop i H ∧ Qd H) ∨ (J.go i H ∧ ∃ Nx : Hp → Prop, (∀ H', Nx H' → ∃ m', m' < m ∧ W (i + 1) m' H') ∧ ∀ x H', J.yld i H x H' → gName slot x (wipe σ vs) H' fun σ2 H2 => wipe σ2 vs = wipe σ vs ∧ tYes σ2 H2 fun b H3 =>
        if b = true then te σ2 H3 fun y H4 => ∃ acc, H4 D = some (.lst acc) ∧ acc.length < sizeLine ∧ Nx (upd H4 D (.lst (acc ++ [y]))) else Nx H3) := by
  refine lc_it w (fun i H => Same H1 H ∧ ∃ acc : List V, H D = some (.lst acc) ∧ acc.length = i ∧ ∀ (j : Nat) (y : V), acc[j]? = some y → R j y H) ⟨same_new hD, [], upd_same, rfl, fun j y z => by simp at z⟩ (fun i H _ h => hG H h.1) (fun i x H H' hi h y => ?_) (fun H h => by
    obtain ⟨s, acc, h1, h2, h3⟩ := h
    exact hd H acc s h1 h2 h3)
  obtain ⟨s1, acc, hl, len, ha⟩ := h
  obtain ⟨rfl, hx⟩ := y
  refine ⟨hw x, ?_⟩
  unfold tYes
  dsimp only
  rw [if_pos rfl]
  refine hs i x _ _ hx s1 ⟨_, hl⟩ fun y H4 s4 hy => ⟨acc, s4 _ _ hl, by omega, fun b o e => ?_, acc ++ [y], upd_same, by rw [List.length_append, len]; rfl, fun j z hz => ?_⟩
  · rw [upd_ne (ne_of_none e hD)]
    exact s4 _ _ (s1 _ _ e)
  · rcases Nat.lt_or_ge j acc.length with q | q
    · rw [List.getElem?_append_left q] at hz
      exact hR _ _ _ _ (hR _ _ _ _ (ha j z hz) (But.of_same s4)) But.upd
    · rw [List.getElem?_append_right q] at hz
      have ej : j - acc.length = 0 := by
        rcases Nat.eq_zero_or_pos (j - acc.length) with z | z
        · exact z
        · rw [List.getElem?_eq_none (by rw [List.length_singleton]; exact z)] at hz
          cases hz
      rw [ej] at hz
      obtain rfl : y = z := by simpa using hz
      obtain rfl : j = i := by omega
      exact hR _ _ _ _ hy But.upd
theorem dp_list {K : PySem.W.Frag} {H : Hp} : ∀ {ys : List V} {ds : List PyData}, ys.length = ds.length → (∀ (i : Nat) (y : V) (d : PyData), ys[i]? = some y → ds[i]? = some d → Dp K H y d) → DpAll K H ys ds
  | [], [], _, _ => .nil
  | y :: ys, d :: ds, l, h => .cons (h 0 y d rfl rfl) (dp_list (Nat.succ.inj l) fun i z e a b => h (i + 1) z e (by simpa using a) (by simpa using b))
  | [], _ :: _, l, _ => by cases l
  | _ :: _, [], l, _ => by cases l
theorem dp_bls {K : PySem.W.Frag} {H : Hp} : ∀ bs : List Bool, DpAll K H (bs.map V.bl) (bs.map PyData.bool)
  | [] => .nil
  | b :: bs => .cons (.bl b) (dp_bls bs)
end
end L2

set_option Elab.async false
set_option linter.all false
set_option maxRecDepth 100000
set_option maxHeartbeats 4000000
/-! A crowd that is made, its own list new; comparisons of crowds; tests whose ways meet; slices. -/
namespace L2
open PySem PySem.Spec PyProof.Rows
section
variable {X : Cx} {e : Expr} {t : TT}
/-- a test by a contract: ways meet -/
def tCutT (P : St → Hp → Bool → Hp → Prop) (t : TT) : TT := fun σ H Q => t σ H (P σ H) ∧ ∀ c H', P σ H c H' → Q c H'
theorem pt_cut (P : St → Hp → Bool → Hp → Prop) (h : PT X e t) : PT X e (tCutT P t) := ⟨fun pins s σ H Q I z => thn (h.run pins s σ H _ I z.1) fun _ _ q => by
  obtain ⟨H1, I1, p⟩ := q
  exact ⟨H1, I1, z.2 _ H1 p⟩⟩
end
/-- Crowd.__init__, the list that it keeps being new -/
def spCrowdNew (K : PySem.W.Frag) (C CB : Addr) : Sp := fun vs H Q E => ∃ (x dx : Addr) (v m : V) (b : Bool) (xs : List V), vs = [.ref x, v, m] ∧ H x = some (.ins C dx []) ∧ ArgP K H v b xs ∧ (∃ T, TyN K H m T) ∧
  (b = false → ∀ H' d, Raised H H' d "part" (.str "people") → E (.ref CB) (some d) H') ∧
  (b = true → markB 1 10 m = false → ∀ H' d, Raised H H' d "part" (.str "most") → E (.ref CB) (some d) H') ∧
  (b = true → ∀ i, m = .int i → markB 1 10 m = true → ∀ H' dx p, But x H H' → H p = none → H' x = some (.ins C dx (crowdFs p i)) → H' p = some (.lst xs) → Q .non H')
section
variable {K : PySem.W.Frag} {σ : St} {H : Hp} {Q : VK}
theorem rd_made {C CB : Addr} {m : Int} {xs : List V} {t : TA} (hm : markB 1 10 (.int m) = true) (ht : ∀ Q' : List V → Hp → Prop, (∀ H1 v, Same H H1 → ArgP K H1 v true xs → Q' [v, .int m] H1) → t σ H Q')
    (k : ∀ H' x dx p, Same H H' → H x = none → H p = none → H' x = some (.ins C dx (crowdFs p m)) → H' p = some (.lst xs) → Q (.ref x) H') : tMake C (spCrowdNew K C CB) [] (fun _ _ _ => False) t σ H Q := by
  refine ht _ fun H1 v s1 ha => ?_
  intro x dx nx ndx nex
  have s2 : Same H1 (upd (upd H1 dx (.own x)) x (.ins C dx [])) := fun c o e => by
    rw [upd_ne (ne_of_none e nx), upd_ne (ne_of_none e ndx)]
    exact e
  refine ⟨x, dx, v, .int m, true, xs, rfl, upd_same, ha.same s2, ⟨"int", .base (.int m), by decide⟩, fun z => (nomatch z), fun _ z => ?_, fun _ i hi _ H' dx2 p hB np h1 h2 => ?_⟩
  · rw [hm] at z
    cases z
  · cases V.int.inj hi
    exact ⟨rfl, k H' x dx2 p (s1.trans fun c o e => hB c o (ne_of_none e nx) (s2 _ _ e)) (s1.free nx) (s1.free (s2.free np)) h1 h2⟩
variable {C a b : Addr} {zs ys : List Str} {m n : Int} {E : XK}
theorem rd_eqC (nf : PySem.W.notFirst K C (.ref C) = true) (ha : CrowdOf H C a zs m) (hb : CrowdOf H C b ys n) (oz : ∀ z ∈ zs, PyData.strOk z = true) (oy : ∀ z ∈ ys, PyData.strOk z = true) (q : Q (.bl (decide (m = n) && decide (zs = ys))) H) :
    rEqOwn K C (spCrowdEq K C) E (.ref a) (.ref b) H Q := by
  obtain ⟨dx, p, h1, h2⟩ := id ha
  obtain ⟨dy, p2, h3, h4⟩ := id hb
  exact ⟨a, dx, b, _, _, rfl, rfl, h1, .ins h3, nf, a, b, zs, m, rfl, ha, oz, .inl ⟨ys, n, hb, oy, _, rfl, q⟩⟩
theorem rd_eqL {xs : List V} (nf : PySem.W.notFirst K C (.type "list") = true) (ha : CrowdOf H C a zs m) (hb : H b = some (.lst xs)) (oz : ∀ z ∈ zs, PyData.strOk z = true) (q : Q (.bl false) H) :
    rEqOwn K C (spCrowdEq K C) E (.ref a) (.ref b) H Q := by
  obtain ⟨dx, p, h1, h2⟩ := id ha
  exact ⟨a, dx, b, _, _, rfl, rfl, h1, .lst hb, nf, a, b, zs, m, rfl, ha, oz, .inr ⟨⟨_, hb⟩, _, rfl, q⟩⟩
theorem rd_neC (ha : CrowdOf H C a zs m) (hb : CrowdOf H C b ys n) (oz : ∀ z ∈ zs, PyData.strOk z = true) (oy : ∀ z ∈ ys, PyData.strOk z = true) (q : Q (.bl (!(decide (m = n) && decide (zs = ys)))) H) :
    rNeOwn C (spCrowdEq K C) E (.ref a) (.ref b) H Q := by
  obtain ⟨dx, p, h1, h2⟩ := id ha
  obtain ⟨dy, p2, h3, h4⟩ := id hb
  exact ⟨a, dx, b, dy, _, _, rfl, rfl, h1, h3, a, b, zs, m, rfl, ha, oz, .inl ⟨ys, n, hb, oy, _, rfl, q⟩⟩
end
section
variable {i j : Nat} {ta : TE} {tr t : TA} {T U : TS} {D : Ends} {v : V} {σ : St} {H : Hp} {Q : List V → Hp → Prop} {R : St → Hp → Prop}
theorem st_name (h : R (List.set σ i (some v)) H) : gName i v σ H R := h
theorem st_seq (h : T { nx := U D, rt := D.rt, bk := D.bk, ct := D.ct } σ H) : tSeq T U D σ H := h
theorem st_par (h : t σ H fun vs H1 => ∃ v w, vs = [v, w] ∧ D.nx ((List.set σ i (some v)).set j (some w)) H1) : tPar i j t D σ H := h
theorem st_cons (h : ta σ H fun x H1 => tr σ H1 fun xs H2 => Q (x :: xs) H2) : tCons ta tr σ H Q := h
end
theorem km_take {xs : List V} (k : Nat) : cutV xs none (some (k : Int)) = xs.take k := by
  unfold cutV
  rw [HT.sIx_none, HT.sIx_nat, List.drop_zero, Nat.sub_zero]
  rcases Nat.le_total k xs.length with h | h
  · rw [Nat.min_eq_left h]
  · rw [Nat.min_eq_right h, List.take_of_length_le h, List.take_of_length_le (Nat.le_refl _)]
theorem km_drop {xs : List V} (k : Nat) : cutV xs (some (k : Int)) none = xs.drop k := by
  unfold cutV
  rw [HT.sIx_none, HT.sIx_nat]
  rcases Nat.le_total k xs.length with h | h
  · rw [Nat.min_eq_left h, List.take_of_length_le (by rw [List.length_drop]; exact Nat.le_refl _)]
  · rw [Nat.min_eq_right h, List.drop_of_length_le h, List.drop_of_length_le (Nat.le_refl _), List.take_nil]
theorem extN_sq {K : PySem.W.Frag} {H G : Hp} {a : Addr} {xs : List V} (e : LamX.ExtN H G) (h : SqL K H a xs) : SqL K G a xs := by
  unfold SqL Rd at h ⊢
  rcases h with (h | ⟨o, h⟩) | h
  · exact .inl (.inl (e _ _ h fun ps z => (nomatch z)))
  · exact .inl (.inr ⟨o, e _ _ h fun ps z => (nomatch z)⟩)
  · exact .inr h
theorem CrowdAt.extN {H G : Hp} {C x : Addr} {xs : List V} {m : Int} (e : LamX.ExtN H G) (h : CrowdAt H C x xs m) : CrowdAt G C x xs m := by
  obtain ⟨dx, p, h1, h2⟩ := h
  exact ⟨dx, p, e _ _ h1 fun ps z => (nomatch z), e _ _ h2 fun ps z => (nomatch z)⟩
theorem more_word : wordB "more" = true ∧ ("more" : Str) ∉ names8 ∧ PyData.strOk "more" = true ∧ ("more" : Str).length ≤ 1000 := by decide +kernel
theorem Drawn8.more {zs : List Str} (d : Drawn8 zs) (h : zs.length < 8) : peopleB ((zs ++ [("more" : Str)]).map V.str) = true := by
  show ((decide (1 ≤ ((zs ++ [("more" : Str)]).map V.str).length) && decide (((zs ++ [("more" : Str)]).map V.str).length ≤ 8)) && (((zs ++ [("more" : Str)]).map V.str).all isW && decide ((zs ++ [("more" : Str)]).map V.str).Nodup)) = true
  have nd : (zs ++ [("more" : Str)]).Nodup := by
    rw [List.nodup_append]
    refine ⟨d.nd, by simp, fun a ha b hb e => ?_⟩
    rw [List.mem_singleton] at hb
    subst hb
    subst e
    exact more_word.2.1 (d.mem _ ha)
  have al : ((zs ++ [("more" : Str)]).map V.str).all isW = true := by
    rw [List.map_append, List.all_append, d.allW]
    show (true && (wordB "more" && true)) = true
    rw [more_word.1]
    rfl
  rw [al, List.length_map, List.length_append, List.length_singleton, decide_eq_true (show 1 ≤ zs.length + 1 by omega), decide_eq_true (show zs.length + 1 ≤ 8 by omega), decide_eq_true ((nodup_map_inj (f := V.str) (fun _ _ e => V.str.inj e)).mpr nd)]
  rfl
theorem Drawn8.sub {zs ys : List Str} (d : Drawn8 zs) (h : ys.Sublist zs) : Drawn8 ys := ⟨d.nd.sublist h, fun z hz => d.mem z (h.subset hz)⟩
theorem Drawn8.perm {zs ys : List Str} (d : Drawn8 zs) (h : ys.Perm zs) : Drawn8 ys := ⟨h.nodup_iff.mpr d.nd, fun z hz => d.mem z (h.mem_iff.mp hz)⟩
theorem rev_ne {zs : List Str} (nd : zs.Nodup) (h : 1 < zs.length) : zs.reverse ≠ zs := fun e => by
  match zs, nd, h with
  | a :: b :: zr, nd, h =>
    have e1 : (a :: b :: zr).reverse.getLast? = (a :: b :: zr).getLast? := by rw [e]
    rw [List.getLast?_reverse] at e1
    have e2 : (a :: b :: zr).getLast? = some a := e1.symm
    have e3 : a ∈ b :: zr := by
      rw [List.getLast?_cons_cons] at e2
      exact List.mem_of_getLast? e2
    exact (List.nodup_cons.mp nd).1 e3
  | [a], nd, h => exact absurd h (Nat.lt_irrefl 1)
  | [], nd, h => exact absurd h (by decide)
end L2

set_option Elab.async false
set_option linter.all false
set_option maxRecDepth 100000
set_option maxHeartbeats 4000000
/-! Dicts whose keys are tuples: their values and items walked, comprehensions that make them. -/
namespace L2
open PySem PySem.Spec PyProof.Rows
section
variable {X : Cx} {pins : List (Addr × Obj)} {σ : St} {H : Hp} {s : Shared} {d : Addr} {o : Obj}
theorem Inv.frzTV {kvs : List (List Key × V)} (I : Inv X pins σ H s) (h : H d = some (.frz o (.dT kvs))) :
    (d == sysModules) = false ∧ ∃ (es : Array DictEntry) (ep : Nat), s.heap.DictRaw d es ep ∧ o.data = .dict es ep ∧ es.size = kvs.length ∧
      ∀ (i : Nat) (k : List Key) (v : V), kvs[i]? = some (k, v) → ∃ (hi : i < es.size) (q : Addr), es[i].key = .ref q ∧ H q = some (.tup (k.map kV)) ∧ RelV v es[i].val := by
  obtain ⟨hd, z, hs, xs, pr, o', es, ep, ho, hx, hdt, he, _⟩ := I.hok d _ h
  rw [hd] at ho
  cases ho
  have l1 : es.size = xs.length := size_of_entries he
  have l2 : kvs.length = xs.length := Paired.length pr
  refine ⟨hs, es, ep, ⟨o, hd, hx, hdt⟩, hdt, by omega, fun i k v e => ?_⟩
  obtain ⟨b, hb, e1, e2, e3⟩ := paired_get pr e
  have hi : i < es.size := by
    have := (List.getElem?_eq_some_iff.mp e).1
    omega
  have q := entry_at he i
  rw [hb, Array.getElem?_eq_getElem hi, Option.map_some] at q
  have q2 := Option.some.inj q
  exact ⟨hi, b.2.1, by rw [q2]; rfl, e2, by rw [q2]; exact e3⟩
end
theorem raw_noDict {h : Heap} {d : Addr} {es : Array DictEntry} {ep : Nat} (r : h.DictRaw d es ep) : ∀ b, Value.ref d = .ref b → ∃ ob, h.get? b = some ob ∧ ob.dict = none := fun b e => by
  cases e
  obtain ⟨o, ho, hc, _⟩ := r
  exact ⟨o, ho, hc.2.1⟩
/-- the values of the locked dict at d, its keys tuples -/
def Itvt (d : Addr) (o : Obj) (kvs : List (List Key × V)) : It :=
  ⟨fun i H => H d = some (.frz o (.dT kvs)) ∧ i < kvs.length, fun i H x H' => H' = H ∧ ∃ k, kvs[i]? = some (k, x), fun i H => H d = some (.frz o (.dT kvs)) ∧ kvs.length ≤ i⟩
/-- the pairs, each a new tuple of the key's own tuple and the value -/
def Itit (d : Addr) (o : Obj) (kvs : List (List Key × V)) : It :=
  ⟨fun i H => H d = some (.frz o (.dT kvs)) ∧ i < kvs.length, fun i H x H' => ∃ T k v q, kvs[i]? = some (k, v) ∧ x = .ref T ∧ H T = none ∧ H q = some (.tup (k.map kV)) ∧ H' = upd H T (.tup [.ref q, v]), fun i H => H d = some (.frz o (.dT kvs)) ∧ kvs.length ≤ i⟩
section
variable {P : Program} {w : World} {K : PySem.W.Frag} {tg : Expr} {d : Addr} {o : Obj} {es : Array DictEntry} {ep : Nat}
theorem turn_valsT {kvs : List (List Key × V)} (it : Addr) (hod : o.data = .dict es ep) : Turn P w K tg (Itvt d o kvs) [it] it (fun i h => h.IsValIter it d i kvs.length ep) where
  mem := by simp
  obj := fun i h st b hb => by
    have e : b = it := by simpa using hb
    subst e
    obtain ⟨oi, e, c, dd⟩ := st
    exact ⟨oi, e, fun v z => by rw [dd] at z; cases z⟩
  keep := fun i h h' st k => st.at fun oi e => k it (by simp) oi e
  item := by
    intro X hP hw hK hc i pins s σ H E I hf st hg
    subst hP hw hK
    obtain ⟨hd, hi⟩ := hg
    obtain ⟨f0, f1, f2, f3, f4, f5⟩ := hf it (by simp)
    obtain ⟨hs, es', ep', hr, hdt, hsz, ent⟩ := I.frzTV hd
    obtain ⟨rfl, rfl⟩ := dict_ep hod hdt
    obtain ⟨⟨k, v⟩, hkv⟩ : ∃ p, kvs[i]? = some p := ⟨kvs[i], List.getElem?_eq_getElem hi⟩
    obtain ⟨hie, q, hkey, hq, rv⟩ := ent i k v hkv
    rw [← hsz] at st
    refine PySem.wpAny_pyNext_values_item_raw st hr hie fun h' st' sb => ?_
    have I1 : Inv X pins σ H { s with heap := h' } := I.turned (t' := s.toks) (fun b ob hb e => (sb.2 b hb).trans e) f0 f1 f3 f4 f5
    obtain ⟨oi, e, c, dd⟩ := id st'
    refine ⟨_, rfl, go_of (s := { s with heap := h' }) e c dd (by decide) ⟨v, H, I1, rv, ⟨rfl, k, hkv⟩, ?_, fun b hb => (hf b hb).1⟩⟩
    show h'.IsValIter it d (i + 1) kvs.length _
    rw [← hsz]
    exact st'
  done := by
    intro X hP hw hK hc i pins s σ H E I hf st hg
    subst hP hw hK
    obtain ⟨hd, hi⟩ := hg
    obtain ⟨f0, f1, f2, f3, f4, f5⟩ := hf it (by simp)
    obtain ⟨hs, es', ep', hr, hdt, hsz, ent⟩ := I.frzTV hd
    obtain ⟨rfl, rfl⟩ := dict_ep hod hdt
    rw [← hsz] at st
    exact PySem.wpAny_pyNext_values_end_raw (I.ok.hd hc) st hr (by omega) fun h' eb => ⟨rfl, I.turned (t' := s.toks) (fun b ob hb e => eb b ob hb e) f0 f1 f3 f4 f5⟩
  self := fun A i s Q E st h => wpAny_pyIter_valiter st h
theorem turn_itemsT {kvs : List (List Key × V)} {elts : List Expr} {kk : Nat} {tpos : Pos} (it : Addr) (hod : o.data = .dict es ep) :
    Turn P w K (.Tuple elts kk tpos) (Itit d o kvs) [it] it (fun i h => ∃ ok ov, IsItemIter h it d i kvs.length ep ok ov) where
  mem := by simp
  obj := fun i h st b hb => by
    have e : b = it := by simpa using hb
    subst e
    obtain ⟨ok, ov, e⟩ := st
    exact ⟨_, e, fun v z => nomatch z⟩
  keep := fun i h h' st k => let ⟨ok, ov, e⟩ := st; ⟨ok, ov, k it (by simp) _ e⟩
  item := by
    intro X hP hw hK hc i pins s σ H E I hf st hg
    subst hP hw hK
    obtain ⟨hd, hi⟩ := hg
    obtain ⟨hs, es', ep', hr, hdt, hsz, ent⟩ := I.frzTV hd
    obtain ⟨rfl, rfl⟩ := dict_ep hod hdt
    obtain ⟨⟨k, v⟩, hkv⟩ : ∃ p, kvs[i]? = some p := ⟨kvs[i], List.getElem?_eq_getElem hi⟩
    obtain ⟨hie, q, hkey, hq, rv⟩ := ent i k v hkv
    obtain ⟨ok, ov, he⟩ := st
    rw [← hsz] at he
    have hlt : it < s.heap.objs.size := Heap.lt_size he
    refine PySem.wpAny_pyNext_items_item_raw he hr hie fun h' ho hT hz hk => ?_
    refine ⟨_, rfl, wpAny_letOwnedTupleGo_items (s := { s with heap := h' }) ho fun h'' he' sb => ?_⟩
    have hT2 : h''.get? s.heap.objs.size = some { cls := .type "tuple", data := .seq #[es'[i].key, es'[i].val] } := (sb.2 _ (Nat.ne_of_gt hlt)).trans hT
    have new : ObjOk X.prog X.w (upd H s.heap.objs.size (.tup [.ref q, v])) h'' s.heap.objs.size (.tup [.ref q, v]) :=
      ⟨by show 2 ≤ sizeLine; decide, [es'[i].key, es'[i].val], .cons (by rw [hkey]; rfl) (.cons rv .nil), ⟨_, hT2, rfl, _, rfl⟩⟩
    have I1 : Inv X pins σ (upd H s.heap.objs.size (.tup [.ref q, v])) { s with heap := h'' } :=
      I.turnedNew (t' := s.toks) (ch := [it]) (fun b ob hb e => (sb.2 b (by simpa using hb)).trans (hk b ob (by simpa using hb) e)) hf (Nat.le_refl _) new
    refine ⟨.ref s.heap.objs.size, _, I1, rfl, ⟨_, k, v, q, hkv, rfl, I.hok.fresh (Nat.le_refl _), hq, rfl⟩, ⟨es'[i].key, es'[i].val, ?_⟩, fun b hb => ?_⟩
    · rw [← hsz]; exact he'
    · have e : b = it := by simpa using hb
      rw [e, upd_ne (Nat.ne_of_lt hlt)]
      exact (hf it (by simp)).1
  done := by
    intro X hP hw hK hc i pins s σ H E I hf st hg
    subst hP hw hK
    obtain ⟨hd, hi⟩ := hg
    obtain ⟨f0, f1, f2, f3, f4, f5⟩ := hf it (by simp)
    obtain ⟨hs, es', ep', hr, hdt, hsz, ent⟩ := I.frzTV hd
    obtain ⟨rfl, rfl⟩ := dict_ep hod hdt
    obtain ⟨ok, ov, he⟩ := st
    rw [← hsz] at he
    exact PySem.wpAny_pyNext_items_end_raw (I.ok.hd hc) he hr (by omega) fun h' eb => ⟨rfl, I.turned (t' := s.toks) (fun b ob hb e => eb b ob hb e) f0 f1 f3 f4 f5⟩
  self := fun A i s Q E st h => let ⟨_, _, e⟩ := st; PySem.W.kcp_self e h
end
def iValsT (td : TE) : TI := fun σ H R => td σ H fun x H1 => ∃ d o kvs, x = .ref d ∧ H1 d = some (.frz o (.dT kvs)) ∧ R (Itvt d o kvs) H1
def iItemsT (td : TE) : TI := fun σ H R => td σ H fun x H1 => ∃ d o kvs, x = .ref d ∧ H1 d = some (.frz o (.dT kvs)) ∧ R (Itit d o kvs) H1
section
variable {X : Cx} {tg e : Expr} {td : TE} {apos cpos : Pos}
theorem pi_valuesT (he : PE X e td) (hbase : attributeBase e "values" X.env (eval e X.env) = eval e X.env := by rfl) (hline : (apos.endLine == cpos.line) = true := by rfl) : PI X tg (.Call (.Attribute e "values" apos) [] [] cpos) (iValsT td) := by
  refine ⟨fun pins s σ H R I h => ?_⟩
  refine wpAny_Call_method (T := "dict") (id := "dict.values") hbase rfl hline F.plainAttrs_dict F.slot_dict_values F.type_dict_values (thn (he.run pins s σ H _ I h) fun u s1 ⟨x, H1, I1, rx, d, o, kvs, ex, hd, q⟩ => ?_)
  subst ex
  obtain rfl : u = Value.ref d := rx
  obtain ⟨hs, es, ep, hr, hdt, hsz, ent⟩ := I1.frzTV hd
  refine ⟨hr.typeIs, raw_noDict hr, ?_⟩
  have I2 : Inv X pins σ H1 { s1 with heap := s1.heap.push { cls := .type "dict_values", data := .fields #[.ref d] } } := I1.kept (t' := s1.toks) fun b ob q => Heap.get?_push_of_some _ q
  have fin : wpAny (model X.prog X.w) X.A (pyIter (.ref s1.heap.objs.size)) (PIE X pins σ tg R) X.xe { s1 with heap := s1.heap.push { cls := .type "dict_values", data := .fields #[.ref d] } } := by
    refine PySem.wpAny_pyIter_values_raw (d := d) ⟨_, Heap.get?_push_size _ rfl, rfl, rfl⟩ (hr.push _) (pi_one (tk := s1.toks) I2 _ (turn_valsT _ hdt) ⟨_, Heap.get?_push_size _ rfl, rfl, ?_⟩ q)
    rw [hsz] <;> rfl
  show wpAny _ _ (callWith cpos (.builtin "dict.values") [.ref d] [] []) _ X.xe s1
  exact method_meetsIn F.slot_dict_values F.entry_dict_values rfl (PySem.evalArgs_none ⟨rfl, hr.typeIs, F.args_dict_values_1 _, _, PySem.meets_dict_values_raw d hs, ⟨_, _, hr⟩, fin⟩)
theorem pi_itemsT {elts : List Expr} {kk : Nat} {tpos : Pos} (he : PE X e td) (hbase : attributeBase e "items" X.env (eval e X.env) = eval e X.env := by rfl) (hline : (apos.endLine == cpos.line) = true := by rfl) :
    PI X (.Tuple elts kk tpos) (.Call (.Attribute e "items" apos) [] [] cpos) (iItemsT td) := by
  refine ⟨fun pins s σ H R I h => ?_⟩
  refine wpAny_Call_method (T := "dict") (id := "dict.items") hbase rfl hline F.plainAttrs_dict F.slot_dict_items F.type_dict_items (thn (he.run pins s σ H _ I h) fun u s1 ⟨x, H1, I1, rx, d, o, kvs, ex, hd, q⟩ => ?_)
  subst ex
  obtain rfl : u = Value.ref d := rx
  obtain ⟨hs, es, ep, hr, hdt, hsz, ent⟩ := I1.frzTV hd
  refine ⟨hr.typeIs, raw_noDict hr, ?_⟩
  have I2 : Inv X pins σ H1 { s1 with heap := s1.heap.push { cls := .type "dict_items", data := .fields #[.ref d] } } := I1.kept (t' := s1.toks) fun b ob q => Heap.get?_push_of_some _ q
  have fin : wpAny (model X.prog X.w) X.A (pyIter (.ref s1.heap.objs.size)) (PIE X pins σ (.Tuple elts kk tpos) R) X.xe { s1 with heap := s1.heap.push { cls := .type "dict_items", data := .fields #[.ref d] } } := by
    refine PySem.wpAny_pyIter_items_raw (d := d) ⟨_, Heap.get?_push_size _ rfl, rfl, rfl⟩ (hr.push _) (pi_one (tk := s1.toks) I2 _ (turn_itemsT _ hdt) ⟨.none, .none, ?_⟩ q)
    rw [← hsz]
    exact Heap.get?_push_size _ rfl
  show wpAny _ _ (callWith cpos (.builtin "dict.items") [.ref d] [] []) _ X.xe s1
  exact method_meetsIn F.slot_dict_items F.entry_dict_items rfl (PySem.evalArgs_none ⟨rfl, hr.typeIs, F.args_dict_items_1 _, _, PySem.meets_dict_items_raw d hs, ⟨_, _, hr⟩, fin⟩)
end
theorem walk_valuesT {d : Addr} {o : Obj} {kvs : List (List Key × V)} : Walk (Itvt d o kvs) kvs.length (fun H => H d = some (.frz o (.dT kvs))) (fun i H x H' => H' = H ∧ ∃ k, kvs[i]? = some (k, x)) :=
  { goes := fun _ _ hi q => ⟨q, hi⟩, stops := fun _ q => ⟨q, Nat.le_refl _⟩, yields := fun _ _ _ _ _ _ y => y }
theorem walk_itemsT {d : Addr} {o : Obj} {kvs : List (List Key × V)} : Walk (Itit d o kvs) kvs.length (fun H => H d = some (.frz o (.dT kvs)))
    (fun i H x H' => ∃ T k v q, kvs[i]? = some (k, v) ∧ x = .ref T ∧ H T = none ∧ H q = some (.tup (k.map kV)) ∧ H' = upd H T (.tup [.ref q, v])) :=
  { goes := fun _ _ hi q => ⟨q, hi⟩, stops := fun _ q => ⟨q, Nat.le_refl _⟩, yields := fun _ _ _ _ _ _ y => y }
end L2

set_option Elab.async false
set_option linter.all false
set_option maxRecDepth 100000
set_option maxHeartbeats 4000000
/-! {k: v for target in iter if ..} with tuple keys. -/
namespace L2
open PySem PySem.Spec PyProof.Rows
/-- one entry more, by a comprehension -/
theorem dT_set {X : Cx} {pins : List (Addr × Obj)} {σ : St} {H : Hp} {s : Shared} {E : Value → Shared → Prop} {D b : Addr} {kvs : List (List Key × V)} {k : List Key} {v : V} {u r : Value} {Q : Unit → Shared → Prop}
    (hu : X.A.units + 1 < cLine) (I : Inv X pins σ H s) (hD : H D = some (.dT kvs)) (hb : H b = some (.tup (k.map kV))) (hz : kvs.length < sizeLine) (ry : RelV (.ref b) u) (rv : RelV v r)
    (h : ∀ s', Inv X pins σ (upd H D (.dT (putK kvs k v))) s' → Q () s') : wpAny (model X.prog X.w) X.A (dictSet D u r) Q E s := by
  cases (show u = Value.ref b from ry)
  obtain ⟨z, low, xs, rel, dd⟩ := dt_of I.hok hD
  have lx : xs.length ≤ sizeLine := (Paired.length rel) ▸ z
  have lp : (putK kvs k v).length ≤ sizeLine := Nat.le_trans (length_putK kvs k v) hz
  refine PySem.wpAny_dictSet_heap (hsz := lx) (by show X.A.units < cLine; omega) (key_of I.hok hb) dd fun h' dd' hs => h _ ?_
  obtain ⟨q, es, ep, hq, a2, a3, a4, _, a5⟩ := dd'
  have keep : ∀ c ys, H c = some (.tup ys) → upd H D (.dT (putK kvs k v)) c = some (.tup ys) := fun c ys ec => (upd_ne (ne_of ec hD (fun z => nomatch z))).trans ec
  exact d_write I (by rw [hD]; exact True.intro) hs ⟨q, hq⟩ ⟨lp, low, _, (rel.put k hb rv).keeps keep, q, es, ep, hq, a2, a3, a4, a5⟩
/-- what one turn asks: the new dict stands at D -/
def dcTurn (D : Addr) (tt : TT) (tk tv : TE) (Nx : Hp → Prop) : St → Hp → Prop := fun σ H => tt σ H fun b H3 => if b = true then tk σ H3 fun y H4 => tv σ H4 fun z H5 =>
  ∃ kvs k c, y = .ref c ∧ H5 c = some (.tup (k.map kV)) ∧ H5 D = some (.dT kvs) ∧ kvs.length < sizeLine ∧ Nx (upd H5 D (.dT (putK kvs k z))) else Nx H3
def tDcT (wi : TI) (g : TG) (tt : TT) (tk tv : TE) (vs : List Nat) : TE := fun σ H Q => wi σ H fun J H1 => ∀ D, H1 D = none → ∃ W : Nat → Nat → Hp → Prop, (∃ m, W 0 m (upd H1 D (.dT []))) ∧ ∀ i m H, W i m H →
  (J.stop i H ∧ Q (.ref D) H) ∨ (J.go i H ∧ ∃ Nx : Hp → Prop, (∀ H', Nx H' → ∃ m', m' < m ∧ W (i + 1) m' H') ∧ ∀ x H', J.yld i H x H' → g x (wipe σ vs) H' fun σ2 H2 => wipe σ2 vs = wipe σ vs ∧ dcTurn D tt tk tv Nx σ2 H2)
section
variable {X : Cx}
theorem dcT_core {kx vx tg iter : Expr} {ifs : List Expr} {scope : Scope} {own : List (Str × Nat)} {pos : Pos} {wi : TI} {g : TG} {tt : TT} {tk tv : TE} {pins : List (Addr × Obj)} {s : Shared} {σ : St} {H : Hp} {Q : VK} {pos' : Pos} {use : Option (Value → Sem Unit)} {Qf : Value → Shared → Prop} (I : Inv X pins σ H s) (hu : X.A.units + 1 < cLine) (hc : X.calm = true) (hN : X.N.Nodup) (hi : PI X tg iter wi) (ok : BlkOk X.N X.env.scope scope own)
    (hg : ∀ (s : Shared) (H : Hp) (C : Addr) (cl : List (Str × Addr)) (fp : List Addr), PG (X.blk s H scope (compEnvC scope cl C X.env) fp) tg g)
    (ht : ∀ (s : Shared) (H : Hp) (C : Addr) (cl : List (Str × Addr)) (fp : List Addr), PTs (X.blk s H scope (compEnvC scope cl C X.env) fp) ifs tt)
    (hk : ∀ (s : Shared) (H : Hp) (C : Addr) (cl : List (Str × Addr)) (fp : List Addr), PE (X.blk s H scope (compEnvC scope cl C X.env) fp) kx tk)
    (he : ∀ (s : Shared) (H : Hp) (C : Addr) (cl : List (Str × Addr)) (fp : List Addr), PE (X.blk s H scope (compEnvC scope cl C X.env) fp) vx tv)
    (hs : ∀ x, foldedSetIterable iter X.env x = pure x) (h : tDcT wi g tt tk tv (own.map (·.2)) σ H Q)
    (hRR : ∀ D C s' m H', Inv X pins σ H' s' → Q (.ref D) H' → s'.heap.Ns C m → FpOk X pins H' C → compPost (model X.prog X.w) X.A X.xe use Qf (.ref D) C (.ok .next) s') :
    wpAny (model X.prog X.w) X.A (comprehension (.DictComp kx vx [⟨tg, iter, ifs, 0⟩] scope pos) scope X.env pos' newDict false (eval iter X.env) use) Qf X.xe s := by
  have cells : ∀ y ∈ scope.names, y.2 = .free → ∃ c, X.env.cells.lookup y.1 = some c := fun y hy e => (ok.free y hy e).elim (fun k => I.ok.has _ (.inl k)) fun k => I.ok.has _ (.inr k)
  refine wpAny_comprehension_free (use := use) rfl hs (closure_ok cells) ok.kind (fun y hy e => by rw [ok.uniq y hy, e]) (thn (hi.run pins s σ H _ I h) fun xv s1 hx => thn hx fun itv s2 h2 => ?_)
  obtain ⟨it, fp, tn, J, H2, rfl, I2, T, st2, f2, q⟩ := h2
  refine wpAny_newObj_type (newEnv_comp ?_)
  generalize eD : s2.heap.objs.size = D
  obtain ⟨W, ⟨m0, w0⟩, turn⟩ := q D (I2.hok.fresh (Nat.le_of_eq eD))
  generalize e3 : ({ s2 with heap := s2.heap.push { cls := .type "dict", data := .dict #[] } } : Shared) = s3
  have up3 : s3.heap = s2.heap.push { cls := .type "dict", data := .dict #[] } := by rw [← e3]
  have I3 : Inv X pins σ (upd H2 D (.dT [])) s3 := by
    rw [← e3, ← eD]
    exact I2.laid (t' := s2.toks) (fun b o e => Heap.get?_push_of_some _ e) (Nat.le_refl _) (dt_empty s2.heap I2.big)
  have grown : ∀ {b o}, s2.heap.get? b = some o → s3.heap.get? b = some o := fun e => by rw [up3]; exact Heap.get?_push_of_some _ e
  have f3 : ∀ b ∈ fp, FpOk X pins (upd H2 D (.dT [])) b ∧ b < s3.heap.objs.size := fun b hb => by
    obtain ⟨o, e, _⟩ := T.obj _ _ st2 b hb
    have lt := Heap.lt_size e
    refine ⟨⟨?_, (f2 b hb).2⟩, by rw [up3, Heap.size_push]; exact Nat.lt_succ_of_lt lt⟩
    rw [upd_ne (by rw [← eD]; exact Nat.ne_of_lt lt)]
    exact (f2 b hb).1
  have I4 := block_start I3 ok hN f3
  have pg := hg s3 (upd H2 D (.dT [])) s3.heap.objs.size (cellsFrom (s3.heap.objs.size + 1) scope.names (cloFrom X.env.cells scope.names [])) fp
  have pt := ht s3 (upd H2 D (.dT [])) s3.heap.objs.size (cellsFrom (s3.heap.objs.size + 1) scope.names (cloFrom X.env.cells scope.names [])) fp
  have pk := hk s3 (upd H2 D (.dT [])) s3.heap.objs.size (cellsFrom (s3.heap.objs.size + 1) scope.names (cloFrom X.env.cells scope.names [])) fp
  have pv := he s3 (upd H2 D (.dT [])) s3.heap.objs.size (cellsFrom (s3.heap.objs.size + 1) scope.names (cloFrom X.env.cells scope.names [])) fp
  show codeAny (model X.prog X.w) X.A (.compStart (.DictComp kx vx [⟨tg, iter, ifs, 0⟩] scope pos) 0 (.ref it) (.ref D) (compEnvC scope (cellsFrom (s3.heap.objs.size + 1) scope.names (cloFrom X.env.cells scope.names [])) s3.heap.objs.size X.env))
    (compPost (model X.prog X.w) X.A X.xe use Qf (.ref D) s3.heap.objs.size) { s3 with heap := pushCells (s3.heap.push { cls := .type "dict", data := .dict #[] }) scope.names }
  generalize ec : compEnvC scope (cellsFrom (s3.heap.objs.size + 1) scope.names (cloFrom X.env.cells scope.names [])) s3.heap.objs.size X.env = ce at I4 pg pt pk pv ⊢
  have cl : ce.locals = s3.heap.objs.size := by rw [← ec]; rfl
  generalize e4 : ({ s3 with heap := pushCells (s3.heap.push { cls := .type "dict", data := .dict #[] }) scope.names } : Shared) = s4 at I4 ⊢
  generalize eH : upd H2 D (.dT []) = H3 at I3 I4 pg pt pk pv w0 f3
  have st4 : tn 0 s4.heap := T.keep _ _ _ st2 fun b _ o e => by
    rw [← e4]
    exact pushCells_keeps _ _ _ _ (Heap.get?_push_of_some _ (grown e))
  have foot : ∀ {σ' : St} {H' : Hp} {s' : Shared}, Inv (X.blk s3 H3 scope ce fp) [] σ' H' s' → (∀ b ∈ fp, H' b = none) → ∀ b ∈ fp, FpOk (X.blk s3 H3 scope ce fp) [] H' b := fun J' hn b hb =>
    ⟨hn b hb, (J'.ok.exf b hb).1, J'.ok.exfs b hb, .inl hb, fun x c e => (J'.ok.exf b hb).2 x c e, fun p hp => absurd (show p ∈ ([] : List (Addr × Obj)) ++ [] from hp) (by simp)⟩
  have loop : codeAny (model X.prog X.w) X.A (.compLoop (.DictComp kx vx [⟨tg, iter, ifs, 0⟩] scope pos) 0 (.ref it) (.ref D) ce)
      (compPost (model X.prog X.w) X.A X.xe use Qf (.ref D) s3.heap.objs.size) s4 := by
    refine compLoop_anyD (fun n s' => ∃ i H', Inv (X.blk s3 H3 scope ce fp) [] (wipe σ (own.map (·.2))) H' s' ∧ tn i s'.heap ∧ (∀ b ∈ fp, H' b = none) ∧ W i n H') ?_ m0 ⟨0, H3, I4, st4, fun b hb => (f3 b hb).1.1, w0⟩
    rintro n s5 ⟨i, H5, I5, st5, n5, w5⟩
    rcases turn i n H5 w5 with ⟨stop, qq⟩ | ⟨go, Nx, hNx, step⟩
    · refine thnF (T.done (X.blk s3 H3 scope ce fp) rfl rfl rfl hc i [] s5 _ H5 (fun _ _ => False) I5 (foot I5 n5) st5 stop) fun r s6 z => ?_
      obtain ⟨rfl, I6⟩ := z
      have I7 : Inv X pins σ H5 s6 := I3.call' (ch := fp) I6.os I6.base I6.hok I6.bare fun b hb => ⟨(f3 b hb).1.2.2.2.1, (f3 b hb).1.2.1, (f3 b hb).1.2.2.2.2.1, (f3 b hb).1.2.2.2.2.2⟩
      obtain ⟨m, hn, _⟩ := I6.loc
      have free : H5 s3.heap.objs.size = none := cl ▸ (show H5 ce.locals = none from I6.free)
      exact hRR D s3.heap.objs.size s6 m H5 I7 qq (cl ▸ (show s6.heap.Ns ce.locals m from hn)) (I3.fpOk (Nat.le_refl _) free)
    · refine thnF (T.item (X.blk s3 H3 scope ce fp) rfl rfl rfl hc i [] s5 _ H5 (fun _ _ => False) I5 (foot I5 n5) st5 go) fun r s6 z => ?_
      obtain ⟨u, rfl, h6⟩ := z
      refine thnF h6 fun _ s7 z7 => ?_
      obtain ⟨x, H7, I7, r7, y7, st7, n7⟩ := z7
      refine thnF (pg.run _ s7 _ H7 x u _ (I7.pinned (foot I7 n7) (T.obj _ _ st7)) r7 (step x H7 y7)) fun _ s8 z8 => ?_
      obtain ⟨σ8, H8, I8, hw8, q8⟩ := z8
      refine thnF (pt.run _ s8 σ8 H8 _ I8 q8) fun b s9 z9 => ?_
      obtain ⟨H9, I9, q9⟩ := z9
      have close : ∀ {s' : Shared} {H' : Hp}, Inv (X.blk s3 H3 scope ce fp) ([] ++ pinsAt fp s7.heap) σ8 H' s' → Nx H' → ∃ m, m < n ∧ ∃ i H', Inv (X.blk s3 H3 scope ce fp) [] (wipe σ (own.map (·.2))) H' s' ∧ tn i s'.heap ∧ (∀ b ∈ fp, H' b = none) ∧ W i m H' := fun {s' H'} I' nx => by
        obtain ⟨m', lt, w'⟩ := hNx H' nx
        have pin : ∀ b ∈ fp, ∀ o, s7.heap.get? b = some o → s'.heap.get? b = some o ∧ H' b = none := fun b hb o e =>
          let z := I'.pin (b, o) (List.mem_append_right _ (List.mem_append_right _ (mem_pinsAt hb e)))
          ⟨z.1, z.2.1⟩
        refine ⟨m', lt, i + 1, H', (I'.unpinned (pins := [])).weak (by rw [← hw8, wipe_length]) (fun j v e => ?_), T.keep _ _ _ st7 fun b hb o e => (pin b hb o e).1, fun b hb => ?_, w'⟩
        · exact (wipe_some (hw8.symm ▸ e)).1
        · obtain ⟨o, e, _⟩ := T.obj _ _ st7 b hb
          exact (pin b hb o e).2
      cases b with
      | false => exact close I9 q9
      | true =>
        refine thnF (pk.run _ s9 σ8 H9 _ I9 q9) fun z s10 z10 => ?_
        obtain ⟨yk, H10, I10, r10, q10⟩ := z10
        refine thnF (pv.run _ s10 σ8 H10 _ I10 q10) fun z2 s11 z11 => ?_
        obtain ⟨yv, H11, I11, r11, kvs, k, c, rfl, hcK, hD, hz, nx⟩ := z11
        exact dT_set (X := X.blk s3 H3 scope ce fp) hu I11 hD hcK hz r10 r11 fun s12 I12 => close I12 nx
  exact codeAny_compStart_dict loop (T.self X.A 0 _ _ _ st4 loop)

theorem pe_dcT {kx vx tg iter : Expr} {ifs : List Expr} {scope : Scope} {own : List (Str × Nat)} {pos : Pos} {wi : TI} {g : TG} {tt : TT} {tk tv : TE} (hu : X.A.units + 1 < cLine) (hc : X.calm = true) (hN : X.N.Nodup) (hi : PI X tg iter wi) (ok : BlkOk X.N X.env.scope scope own)
    (hg : ∀ (s : Shared) (H : Hp) (C : Addr) (cl : List (Str × Addr)) (fp : List Addr), PG (X.blk s H scope (compEnvC scope cl C X.env) fp) tg g)
    (ht : ∀ (s : Shared) (H : Hp) (C : Addr) (cl : List (Str × Addr)) (fp : List Addr), PTs (X.blk s H scope (compEnvC scope cl C X.env) fp) ifs tt)
    (hk : ∀ (s : Shared) (H : Hp) (C : Addr) (cl : List (Str × Addr)) (fp : List Addr), PE (X.blk s H scope (compEnvC scope cl C X.env) fp) kx tk)
    (he : ∀ (s : Shared) (H : Hp) (C : Addr) (cl : List (Str × Addr)) (fp : List Addr), PE (X.blk s H scope (compEnvC scope cl C X.env) fp) vx tv)
    (hs : ∀ x, foldedSetIterable iter X.env x = pure x := by intro _; rfl) : PE X (.DictComp kx vx [⟨tg, iter, ifs, 0⟩] scope pos) (tDcT wi g tt tk tv (own.map (·.2))) := by
  refine ⟨fun pins s σ H Q I h => ?_⟩
  rw [arm_eval_DictComp]
  refine dcT_core I hu hc hN hi ok hg ht hk he hs h fun D C s' m H' I' q hn f => ⟨m, hn, fun h'' sb => ?_⟩
  obtain ⟨g0, g1, _, g3, g4, g5⟩ := f
  exact ⟨.ref D, H', I'.turned (t' := s'.toks) (fun b o hb e => (sb.2 b hb).trans e) g0 g1 g3 g4 g5, rfl, q⟩
theorem swD_true {scope : Scope} {pos py : Pos} {kx vx : Expr} {gs : List Comprehension} {y : Str} {l : Nat} {env : Env} (hk : env.scope.kind = .function) (hy : env.scope.names.lookup y = some .local) (hl : (py.line == pos.line) = true)
    (ha : (scope.names.any fun (n, k) => n == y && (k == .local || k == .cell)) = false) : swapsWith (.DictComp kx vx gs scope pos) (some (.Name y py)) l env = pure true := by
  have b1 : env.kindOf y = some .local := hy
  have b2 : env.blockKind = .function := by
    unfold Env.blockKind
    rw [hk]
    rfl
  unfold swapsWith
  simp only [b1, b2, ha, Expr.pos, hl]
  rfl
/-- name = {..} on one line -/
theorem ps_setDcT {kx vx tg iter : Expr} {ifs : List Expr} {scope : Scope} {own : List (Str × Nat)} {pos : Pos} {wi : TI} {g : TG} {tt : TT} {tk tv : TE} {i : Nat} {y : Str} {py spos : Pos} (hu : X.A.units + 1 < cLine) (hc : X.calm = true) (hN : X.N.Nodup) (hy : X.N[i]? = some y) (hyl : X.env.scope.names.lookup y = some .local) (hsw : swapsWith (.DictComp kx vx [⟨tg, iter, ifs, 0⟩] scope pos) (some (.Name y py)) spos.line X.env = pure true)
    (hi : PI X tg iter wi) (ok : BlkOk X.N X.env.scope scope own)
    (hg : ∀ (s : Shared) (H : Hp) (C : Addr) (cl : List (Str × Addr)) (fp : List Addr), PG (X.blk s H scope (compEnvC scope cl C X.env) fp) tg g)
    (ht : ∀ (s : Shared) (H : Hp) (C : Addr) (cl : List (Str × Addr)) (fp : List Addr), PTs (X.blk s H scope (compEnvC scope cl C X.env) fp) ifs tt)
    (hk : ∀ (s : Shared) (H : Hp) (C : Addr) (cl : List (Str × Addr)) (fp : List Addr), PE (X.blk s H scope (compEnvC scope cl C X.env) fp) kx tk)
    (he : ∀ (s : Shared) (H : Hp) (C : Addr) (cl : List (Str × Addr)) (fp : List Addr), PE (X.blk s H scope (compEnvC scope cl C X.env) fp) vx tv) (hs : ∀ x, foldedSetIterable iter X.env x = pure x := by intro _; rfl) : PS X (.Assign [.Name y py] (.DictComp kx vx [⟨tg, iter, ifs, 0⟩] scope pos) spos) (tAsg (tDcT wi g tt tk tv (own.map (·.2))) (gName i)) := by
  refine ⟨fun pins s σ H D I h => ?_⟩
  rw [exec_Assign_Name_used _ _ _ _ hsw]
  refine wpAny_bind (wpAny_standAt (wpAny_bind ?_))
  show wpAny _ X.A (do let _ ← comprehension (.DictComp kx vx [⟨tg, iter, ifs, 0⟩] scope pos) scope X.env (firstIterPos [⟨tg, iter, ifs, 0⟩] pos) newDict false (eval iter X.env) (some (assign (.Name y py) X.env))) _ _ s
  have z : tDcT wi g tt tk tv (own.map (·.2)) σ H (fun x H1 => gName i x σ H1 D.nx) := h
  refine wpAny_bind (thn (dcT_core (Qf := fun _ s' => SP X pins D .next s') I hu hc hN hi ok hg ht hk he hs z fun L C s' m H' I' q hn f => ?_) fun _ s' hq => wpAny_pure (wpAny_pure hq))
  obtain ⟨g0, g1, _, g3, g4, g5⟩ := f
  show wpAny _ _ (assign (.Name y py) X.env (.ref L)) _ _ _
  refine wpAny_assign_Name (store_ok2 (v := V.ref L) I' hN hy (.inl hyl) rfl (fun s2 I2 st => ?_) (.inr hyl))
  obtain ⟨a, sb, ha⟩ := st
  have apart : C ≠ a := ha.elim (fun z => z ▸ g1) fun z e => g4 y a z e.symm
  exact ⟨m, hn.sameBut sb apart, fun h3 sb3 => ⟨_, H', I2.turned (t' := s2.toks) (fun b o hb e => (sb3.2 b hb).trans e) g0 g1 g3 g4 g5, q⟩⟩
end
end L2

set_option Elab.async false
set_option linter.all false
set_option maxRecDepth 100000
set_option maxHeartbeats 4000000
/-! Dicts with tuple keys: d.clear(), list(d.values()), dict(list of pairs). -/
namespace L2
open PySem PySem.Spec PyProof.Rows
theorem vals_at : ∀ {xs : List V} {us : List Value}, xs.length = us.length → (∀ (j : Nat) x u, xs[j]? = some x → us[j]? = some u → RelV x u) → Vals xs us
  | [], [], _, _ => .nil
  | [], _ :: _, h, _ => by cases h
  | _ :: _, [], h, _ => by cases h
  | x :: xs, u :: us, h, r => .cons (r 0 x u rfl rfl) (vals_at (Nat.succ.inj h) fun j a b h1 h2 => r (j + 1) a b h1 h2)
section
variable {X : Cx}
/-- the entries of a dict with tuple keys -/
theorem Inv.rawT {pins : List (Addr × Obj)} {σ : St} {H : Hp} {s : Shared} {d : Addr} {kvs : List (List Key × V)} (I : Inv X pins σ H s) (h : H d = some (.dT kvs)) :
    (d == sysModules) = false ∧ ∃ (es : Array DictEntry) (ep : Nat), s.heap.DictRaw d es ep ∧ es.size = kvs.length ∧ kvs.length ≤ sizeLine ∧
      ∀ (i : Nat) (k : List Key) (v : V), kvs[i]? = some (k, v) → ∃ (hi : i < es.size) (q : Addr), es[i].key = .ref q ∧ H q = some (.tup (k.map kV)) ∧ RelV v es[i].val := by
  obtain ⟨z, low, xs, pr, o, es, ep, ho, hx, hdt, he, _⟩ := (show ObjOk X.prog X.w H s.heap d (.dT kvs) from I.hok d _ h)
  have l1 : es.size = xs.length := size_of_entries he
  have l2 : kvs.length = xs.length := Paired.length pr
  refine ⟨low, es, ep, ⟨o, ho, hx, hdt⟩, by omega, z, fun i k v e => ?_⟩
  obtain ⟨b, hb, _, e2, e3⟩ := paired_get pr e
  have hi : i < es.size := by
    have := (List.getElem?_eq_some_iff.mp e).1
    omega
  have q := entry_at he i
  rw [hb, Array.getElem?_eq_getElem hi, Option.map_some] at q
  have q2 := Option.some.inj q
  exact ⟨hi, b.2.1, by rw [q2]; rfl, e2, by rw [q2]; exact e3⟩
def rClearT : V → List V → Hp → VK → Prop := fun x xs H Q => ∃ (a : Addr) (kvs : List (List Key × V)), x = .ref a ∧ xs = [] ∧ H a = some (.dT kvs) ∧ Q .non (upd H a (.dT []))
theorem mt_clearT : MtR X "dict.clear" rClearT := by
  intro pins s σ H x xs v us Q I rx rxs h
  obtain ⟨a, kvs, rfl, rfl, ha, q⟩ := h
  cases rx
  cases rxs
  obtain ⟨low, es, ep, hr, hsz, z, _⟩ := I.rawT ha
  refine call_meetsIn PySem.F.slot_dict_clear hr.typeIs PySem.F.entry_dict_clear (PySem.F.args_dict_clear_1 _) (meets_dict_clear_raw a) ⟨es, ep, hr, by omega, fun h' hr' hs' => ?_⟩
  obtain ⟨o, ho, hc, hdat⟩ := hr'
  exact ⟨.non, _, d_write (t' := s.toks) (ob := .dT []) I (by rw [ha]; exact True.intro) hs' ⟨o, ho⟩ (show ObjOk X.prog X.w _ _ _ (.dT []) from ⟨Nat.zero_le _, low, [], .nil, o, #[], ep + 1, ho, hc, hdat, rfl, List.nodup_nil⟩), rfl, q⟩
/-- the view d.values() at p -/
def valsO (p d : Addr) : HO := .ext fun h => h.IsValuesView p d
def rValuesT : V → List V → Hp → VK → Prop := fun x xs H Q => ∃ (a : Addr) (kvs : List (List Key × V)), x = .ref a ∧ xs = [] ∧ H a = some (.dT kvs) ∧ ∀ p, H p = none → Q (.ref p) (upd H p (valsO p a))
theorem mt_valuesT : MtR X "dict.values" rValuesT := by
  intro pins s σ H x xs v us Q I rx rxs h
  obtain ⟨a, kvs, rfl, rfl, ha, q⟩ := h
  cases rx
  cases rxs
  obtain ⟨low, es, ep, hr, hsz, z, _⟩ := I.rawT ha
  refine call_meetsIn PySem.F.slot_dict_values hr.typeIs PySem.F.entry_dict_values (PySem.F.args_dict_values_1 _) (meets_dict_values_raw a low) ⟨⟨es, ep, hr⟩, ?_⟩
  have e : (s.heap.push { cls := .type "dict_values", data := .fields #[.ref a] }).get? s.heap.objs.size = some { cls := .type "dict_values", data := .fields #[.ref a] } := Heap.get?_push_size _ rfl
  refine ⟨.ref s.heap.objs.size, upd H s.heap.objs.size (valsO s.heap.objs.size a), I.laid (t' := s.toks) (fun b u e => Heap.get?_push_of_some _ e) (Nat.le_refl _) ?_, rfl, q _ (I.hok.fresh (Nat.le_refl _))⟩
  exact ⟨⟨_, e, rfl, rfl⟩, ⟨_, e⟩, fun h1 h2 x k => let ⟨o, ho, r⟩ := x; ⟨o, k o ho, r⟩⟩
/-- list(d.values()) -/
theorem call_list_vals (hc : X.calm = true) : CallR X (.type "list") (fun xs H Q => ∃ p d kvs, xs = [V.ref p] ∧ H p = some (valsO p d) ∧ H d = some (.dT kvs) ∧ ∀ l, H l = none → Q (.ref l) (upd H l (.lst (kvs.map (·.2))))) := by
  intro pins s σ H xs us Q I r h
  obtain ⟨p, d, kvs, rfl, hp, hd, q⟩ := h
  obtain ⟨u, rfl, rx⟩ := r.one
  cases rx
  obtain ⟨low, es, ep, hr, hsz, z, ent⟩ := I.rawT hd
  have hv : s.heap.IsValuesView p d := (show ObjOk X.prog X.w H s.heap p (valsO p d) from I.hok p _ hp).1
  refine PySem.W.kdl_call (KdlSrc.rawValues (r := p) (d := d) (es := es) (ep := ep)) (I.ok.hd hc) ⟨hv, hr⟩ (by omega) fun h' tk acc' c' kp e it => ?_
  have len : acc'.toList.length = kvs.length := by rw [Array.length_toList, it.1, hsz]
  have rv : Vals (kvs.map (·.2)) acc'.toList := vals_at (by rw [List.length_map, len]) fun j x u hx hu => by
    rw [List.getElem?_map] at hx
    cases hj : kvs[j]? with
    | none =>
      rw [hj] at hx
      cases hx
    | some kv =>
      rw [hj] at hx
      obtain rfl := Option.some.inj hx
      obtain ⟨hi, q, _, _, r2⟩ := ent j kv.1 kv.2 hj
      obtain ⟨hi2, e2⟩ := it.2 j u (by rw [← Array.getElem?_toList]; exact hu)
      rw [e2]
      exact r2
  refine ⟨.ref s.heap.objs.size, _, I.laid (t' := tk) (o := .lst (kvs.map (·.2))) kp (Nat.le_refl _) ?_, rfl, q _ (I.hok.fresh (Nat.le_refl _))⟩
  exact ⟨by rw [List.length_map]; exact z, acc'.toList, c', rv, by rw [Array.toArray_toList]; exact e⟩
end
end L2

set_option Elab.async false
set_option linter.all false
set_option maxRecDepth 100000
set_option maxHeartbeats 4000000
/-! dict(list of pairs), the first of each a tuple, all unlike. -/
namespace L2
open PySem PySem.Spec PyProof.Rows
/-- the pairs of a list that makes a dict with tuple keys: p a tuple of the key's tuple and the value -/
def IsPairT (H : Hp) (p : Addr) (kv : List Key × V) : Prop := ∃ q, H p = some (.tup [.ref q, kv.2]) ∧ H q = some (.tup (kv.1.map kV))
section
variable {X : Cx}
theorem pairsT_of {pins : List (Addr × Obj)} {σ : St} {H : Hp} {s : Shared} (I : Inv X pins σ H s) : ∀ {ps : List Addr} {kvs : List (List Key × V)}, Paired (IsPairT H) ps kvs →
    ∃ xs : List (List Key × Addr × Value), KT H kvs xs ∧ xs.length = ps.length ∧ ∀ (j : Nat) (x : List Key × Addr × Value), xs[j]? = some x → ∃ b, ps[j]? = some b ∧ s.heap.IsTuple b #[.ref x.2.1, x.2.2] ∧ H x.2.1 = some (.tup (x.1.map kV))
  | _, _, .nil => ⟨[], .nil, rfl, fun j x e => by simp at e⟩
  | _, _, .cons (a := p) (b := kv) h t => by
    obtain ⟨xs, r, hl, hp⟩ := pairsT_of I t
    obtain ⟨q, h1, h2⟩ := h
    obtain ⟨_, its, rv, ht⟩ := (show ObjOk X.prog X.w H s.heap p (.tup [.ref q, kv.2]) from I.hok p _ h1)
    obtain ⟨u, y, rfl, ru, ry⟩ := vals2 rv
    cases ru
    refine ⟨(kv.1, q, y) :: xs, .cons ⟨rfl, h2, ry⟩ r, by rw [List.length_cons, List.length_cons, hl], fun j x e => ?_⟩
    cases j with
    | zero =>
      obtain rfl := Option.some.inj e
      exact ⟨p, rfl, by obtain ⟨o, a, b, n, c⟩ := ht; exact ⟨o, a, b, n, c⟩, h2⟩
    | succ j => exact hp j x e
theorem call_dictT (hc : X.calm = true) (hu : X.A.units + 2 < cLine) : CallR X (.type "dict") (fun xs H Q => ∃ (a : Addr) (ps : List Addr) (kvs : List (List Key × V)), xs = [.ref a] ∧ H a = some (.lst (ps.map V.ref)) ∧ Paired (IsPairT H) ps kvs ∧ (kvs.map (·.1)).Nodup ∧
    ∀ p, H p = none → Q (.ref p) (upd H p (.dT kvs))) := by
  intro pins s σ H xs us Q I r h
  obtain ⟨a, ps, kvs, rfl, ha, hp, nd, q⟩ := h
  obtain ⟨u, rfl, rx⟩ := r.one
  cases rx
  obtain ⟨z, its, n, rv, ho⟩ := (show ObjOk X.prog X.w H s.heap a (.lst (ps.map V.ref)) from I.hok a _ ha)
  obtain rfl := refs_at rv
  rw [List.length_map] at z
  obtain ⟨ys, rel, hl, at_⟩ := pairsT_of I hp
  have lk : kvs.length = ys.length := Paired.length rel
  have keys : ys.map (·.1) = kvs.map (·.1) := by
    clear at_ hl lk nd q hp
    induction rel with
    | nil => rfl
    | cons h t ih => rw [List.map_cons, List.map_cons, ih, h.1]
  have ndy : (ys.map (·.1)).Nodup := keys ▸ nd
  let Ts : Nat → Addr := fun j => (ps[j]?).getD 0
  let prs : List (Value × Value) := ys.map fun x => (Value.ref x.2.1, x.2.2)
  have lp : prs.length = ys.length := List.length_map ..
  have items : PairItems s.heap (ps.map Value.ref).toArray Ts prs := by
    refine ⟨by rw [List.size_toArray, List.length_map, lp, hl], fun j k v e => ?_⟩
    rw [List.getElem?_map] at e
    cases hj : ys[j]? with
    | none =>
      rw [hj] at e
      cases e
    | some x =>
      rw [hj] at e
      cases e
      obtain ⟨b, hb, ht, _⟩ := at_ j x hj
      have eT : Ts j = b := by show (ps[j]?).getD 0 = b; rw [hb]; rfl
      rw [eT]
      exact ⟨by rw [List.getElem?_toArray, List.getElem?_map, hb]; rfl, .inl ht⟩
  have stay : ∀ h', (∀ b o, b ≠ s.heap.objs.size → b ∉ ([] : List Addr) → s.heap.get? b = some o → h'.get? b = some o) → ∀ x ∈ ys, (tupleKind (mixKind X.prog X.w)).is h' x.1 x.2.1 := fun h' hk x hx => by
    obtain ⟨j, hj⟩ := List.mem_iff_getElem?.mp hx
    obtain ⟨b, _, _, hq⟩ := at_ j x hj
    obtain ⟨o, arr, m, k1, k2, k3, k4⟩ := key_of I.hok hq
    exact ⟨o, arr, m, hk _ _ (Nat.ne_of_lt (Heap.lt_size k1)) (by simp) k1, k2, k3, k4⟩
  refine call_dict_pairsH (knd := tupleKind (mixKind X.prog X.w)) (ps := ys) (PairArg.list a (ps.map Value.ref).toArray Ts prs) (I.ok.hd hc) (by show X.A.units + 1 + 1 < cLine; exact hu) ⟨⟨_, n, ho, rfl, rfl, rfl⟩, items⟩ ⟨lp.symm, fun i key v e => ?_⟩ stay (by omega) fun h' tk hd' hk => ?_
  · have e2 : (ys.map fun x => (Value.ref x.2.1, x.2.2))[i]? = some (key, v) := e
    rw [List.getElem?_map] at e2
    cases hj : ys[i]? with
    | none =>
      rw [hj] at e2
      cases e2
    | some x =>
      rw [hj] at e2
      cases e2
      exact ⟨x.1, x.2.1, rfl, rfl⟩
  · rw [storedAllH_nil_of_nodup ys ndy] at hd'
    have low : (s.heap.objs.size == sysModules) = false := beq_eq_false_iff_ne.mpr (Nat.ne_of_gt I.big)
    obtain ⟨o, es, ep, g1, g2, g3, g4, _, g5⟩ := hd'
    have new : ∀ c zs, H c = some (.tup zs) → upd H s.heap.objs.size (.dT kvs) c = some (.tup zs) := fun c zs e => (upd_ne (Nat.ne_of_lt (I.hok.lt e))).trans e
    refine ⟨.ref s.heap.objs.size, upd H s.heap.objs.size (.dT kvs), I.laid (t' := tk) (fun b o e => hk b o (by simp) e) (Nat.le_refl _) (show ObjOk X.prog X.w _ _ _ (.dT kvs) from ⟨by omega, low, ys, rel.keeps new, o, es, ep, g1, g2, g3, g4, g5⟩), rfl, q _ (I.hok.fresh (Nat.le_refl _))⟩
end
end L2

set_option Elab.async false
set_option linter.all false
set_option maxRecDepth 100000
set_option maxHeartbeats 4000000
/-! == and != of two dicts with tuple keys, their values None and integers. -/
namespace L2
open PySem PySem.Spec PyProof.Rows
/-- None, or an integer -/
def isMk : V → Bool
  | .non => true
  | .int _ => true
  | _ => false
theorem eqAt_mk {A : Around} {s : Shared} {v w : V} {u u' : Value} (hv : isMk v = true) (hw : isMk w = true) (r : RelV v u) (r' : RelV w u') : SeqAt.EqAt A s u u' (decide (v = w)) := by
  cases v with
  | non =>
    cases (show u = Value.none from r)
    cases w with
    | non =>
      cases (show u' = Value.none from r')
      exact SeqAt.EqAt.same _
    | int j =>
      obtain ⟨t, rfl⟩ := (show ∃ t, u' = Value.int j t from r')
      exact SeqAt.EqAt.none_int j t
    | _ => cases hw
  | int i =>
    obtain ⟨t, rfl⟩ := (show ∃ t, u = Value.int i t from r)
    cases w with
    | non =>
      cases (show u' = Value.none from r')
      exact SeqAt.EqAt.int_none i t
    | int j =>
      obtain ⟨t', rfl⟩ := (show ∃ t, u' = Value.int j t from r')
      have e : decide (V.int i = V.int j) = (i == j) := by
        by_cases h : i = j
        · subst h
          simp
        · rw [decide_eq_false (fun z => h (V.int.inj z))]
          simp [h]
      rw [e]
      exact SeqAt.EqAt.int_int i t j t'
    | _ => cases hw
  | _ => cases hv
theorem valV_mem {κ : Type} [DecidableEq κ] {kvs : List (κ × V)} {k : κ} {v : V} (h : valV kvs k = some v) : ∃ q ∈ kvs, q.2 = v := by
  unfold valV at h
  obtain ⟨q, hq, e⟩ := Option.map_eq_some_iff.mp h
  exact ⟨q, List.mem_of_find?_eq_some hq, e⟩
/-- the entries of ka are those of kb -/
def sameB (ka kb : List (List Key × V)) : Bool := decide (ka.length = kb.length) && ka.all fun p => decide (valV kb p.1 = some p.2)
section
variable {X : Cx} {pins : List (Addr × Obj)} {σ : St} {H : Hp} {s : Shared} {E : Value → Shared → Prop} {a b : Addr} {ka kb : List (List Key × V)}
theorem samePairsT {A : Around} {nm : String} {Q : Bool → Shared → Prop} (hu : A.units + 1 < cLine) (I : Inv X pins σ H s) (ha : H a = some (.dT ka)) (hb : H b = some (.dT kb)) (ma : ∀ p ∈ ka, isMk p.2 = true) (mb : ∀ p ∈ kb, isMk p.2 = true) (h : Q (sameB ka kb) s) :
    wpAny (model X.prog X.w) A (Builtin.Dict.samePairs nm a b) Q E s := by
  obtain ⟨za, lowa, xa, ra, oa, es, ep, hoa, _, hda, hea, hia, _⟩ := dt_of I.hok ha
  obtain ⟨zb, lowb, xb, rb, ob, es', ep', hob, _, hdb, heb, hib, hnb⟩ := dt_of I.hok hb
  have la : es.size = ka.length := (size_of_entries hea).trans (Paired.length ra).symm
  have lb : es'.size = kb.length := (size_of_entries heb).trans (Paired.length rb).symm
  have room : (tupleKind (mixKind X.prog X.w)).room A := by
    show A.units < cLine
    omega
  unfold Builtin.Dict.samePairs Builtin.Dict.showsAll
  rw [if_neg (by rw [lowa]; exact Bool.false_ne_true), if_neg (by rw [lowb]; exact Bool.false_ne_true)]
  refine wpAny_bind (wpAny_pure (wpAny_bind (wpAny_pure (wpAny_bind (wpAny_dictEntries hoa hda ?_)))))
  dsimp only
  refine wpAny_bind (wpAny_dictEntries hob hdb ?_)
  by_cases hsz : es.size = es'.size
  case neg =>
    have e : sameB ka kb = false := by
      unfold sameB
      rw [decide_eq_false (by omega), Bool.false_and]
    rw [e] at h
    rw [if_pos (by simpa using hsz)]
    exact wpAny_bind (wpAny_rule (wpAny_pure h))
  have e0 : sameB ka kb = ka.all fun p => decide (valV kb p.1 = some p.2) := by
    unfold sameB
    rw [decide_eq_true (by omega), Bool.true_and]
  rw [e0] at h
  rw [if_neg (by rw [hsz]; simp)]
  refine wpAny_bind (wpAny_dictEpoch hoa hda (wpAny_bind ?_))
  rw [Std.Legacy.Range.forIn_eq_forIn_range']
  simp only [Std.Legacy.Range.size, Nat.sub_zero, Nat.add_sub_cancel, Nat.div_one]
  refine wpAny_forIn_list _
    (fun rest q s' => s' = s ∧ q = (none, ()) ∧ ∃ i, rest = List.range' i (es.size - i) ∧ i ≤ es.size ∧ (ka.all fun p => decide (valV kb p.1 = some p.2)) = (ka.drop i).all fun p => decide (valV kb p.1 = some p.2))
    _ ?_ ?_ _ _ ⟨rfl, rfl, 0, by simp, Nat.zero_le _, rfl⟩
  · rintro x rest q s' ⟨rfl, rfl, i, hr, hi, pre⟩
    have hlt : i < es.size := Nat.lt_of_not_le fun z => by
      rw [Nat.sub_eq_zero_of_le z] at hr
      simp at hr
    obtain ⟨rfl, hrest⟩ : x = i ∧ rest = List.range' (i + 1) (es.size - (i + 1)) := by
      rw [show es.size - i = (es.size - (i + 1)) + 1 by omega, List.range'_succ] at hr
      injection hr with h1 h2
      exact ⟨h1, h2⟩
    refine wpAny_bind (wpAny_dictEntries hoa hda ?_)
    have hk : x < ka.length := by omega
    obtain ⟨y, hy, y1, y2, y3⟩ := paired_get ra (List.getElem?_eq_getElem hk)
    have en := entry_at hea x
    rw [hy] at en
    rw [en, Option.map_some]
    have drop : ka.drop x = ka[x] :: ka.drop (x + 1) := List.drop_eq_getElem_cons hk
    rw [drop, List.all_cons] at pre
    have mk1 : isMk ka[x].2 = true := ma _ (List.getElem_mem hk)
    have key : (tupleKind (mixKind X.prog X.w)).is s'.heap y.1 y.2.1 := hia _ (List.mem_of_getElem? hy)
    generalize ka[x] = p at y1 y2 y3 pre mk1
    refine wpAny_bind (wpAny_holding (wpAny_bind ?_))
    refine PySem.wpAny_dictFind_heap room key hob hdb heb hib hnb (fun none_ => ?_) fun j z hj => ?_
    · have miss : valV kb p.1 = none := by
        rw [y1]
        have this := rb.val y.1
        rw [atKey_none_of_get none_, Option.map_none] at this
        cases hv : valV kb y.1 with
        | none => rfl
        | some v =>
          rw [hv] at this
          cases this
      rw [miss, decide_eq_false (by simp), Bool.false_and] at pre
      rw [pre] at h
      refine wpAny_pure ?_
      show wpAny _ _ (if (!false) = true then _ else _) _ _ _
      rw [if_pos (by decide)]
      exact wpAny_pure (wpAny_pure h)
    · have enb := entry_at heb j
      rw [hj] at enb
      refine wpAny_bind (wpAny_dictEntries hob hdb ?_)
      rw [enb, Option.map_some]
      obtain ⟨v2, hv2, rv2, mk2⟩ : ∃ v2, valV kb p.1 = some v2 ∧ RelV v2 z.2 ∧ isMk v2 = true := by
        rw [y1]
        have hat : atKey xb y.1 = some z := atKey_of_get hnb hj
        have := rb.val y.1
        rw [hat, Option.map_some] at this
        cases hv : valV kb y.1 with
        | none =>
          rw [hv] at this
          cases this
        | some v2 =>
          rw [hv] at this
          refine ⟨v2, rfl, this, ?_⟩
          obtain ⟨q, hq, e⟩ := valV_mem hv
          rw [← e]
          exact mb q hq
      refine wpAny_holding (eqAt_mk mk1 mk2 y3 rv2 X.prog X.w _ _ ?_)
      rw [hv2] at pre
      have ed : decide (some v2 = some p.2) = decide (p.2 = v2) := by
        by_cases e : p.2 = v2
        · rw [e]
          simp
        · rw [decide_eq_false e, decide_eq_false (fun z => e (Option.some.inj z).symm)]
      rw [ed] at pre
      cases hd : decide (p.2 = v2) with
      | false =>
        rw [hd, Bool.false_and] at pre
        rw [pre] at h
        show wpAny _ _ (if (!false) = true then _ else _) _ _ _
        rw [if_pos (by decide)]
        exact wpAny_pure (wpAny_pure h)
      | true =>
        rw [hd, Bool.true_and] at pre
        show wpAny _ _ (if (!true) = true then _ else _) _ _ _
        rw [if_neg (by decide)]
        refine wpAny_bind (wpAny_dictEpoch hoa hda ?_)
        rw [if_neg (by simp)]
        exact wpAny_pure ⟨rfl, rfl, x + 1, hrest, hlt, pre⟩
  · rintro q s' ⟨rfl, rfl, i, hr, hi, pre⟩
    have all : es.size ≤ i := Nat.le_of_not_lt fun z => by
      rw [show es.size - i = (es.size - (i + 1)) + 1 by omega, List.range'_succ] at hr
      cases hr
    rw [List.drop_of_length_le (by omega), List.all_nil] at pre
    rw [pre] at h
    exact wpAny_pure h
end
end L2

set_option Elab.async false
set_option linter.all false
set_option maxRecDepth 100000
set_option maxHeartbeats 4000000
namespace L2
open PySem PySem.Spec PyProof.Rows
def rEqT (neg : Bool) : R2 := fun x y H Q => ∃ a b ka kb, x = .ref a ∧ y = .ref b ∧ H a = some (.dT ka) ∧ H b = some (.dT kb) ∧ (∀ p ∈ ka, isMk p.2 = true) ∧ (∀ p ∈ kb, isMk p.2 = true) ∧ Q (.bl (neg ^^ sameB ka kb)) H
section
variable {X : Cx}
theorem op_eqT (hu : X.A.units + 2 < cLine) : OpR X (compareOp .Eq) (rEqT false) := by
  intro pins s σ H x y v u Q I rx ry h
  obtain ⟨a, b, ka, kb, rfl, rfl, ha, hb, ma, mb, q⟩ := h
  cases rx
  cases ry
  obtain ⟨_, _, _, da, _, _, _⟩ := I.rawT ha
  obtain ⟨_, _, _, db, _, _, _⟩ := I.rawT hb
  refine wpAny_richCompare_same_room (op := .Eq) da.typeIs db.typeIs PySem.F.slot_dict_eq (wpAny_call_entry PySem.F.slot_dict_eq da.typeIs PySem.F.entry_dict_eq ?_ (PySem.F.args_dict_eq_2 _ _)) (by omega)
  refine wpAny_bind ?_
  unfold Builtin.Dict.dictSlotArgs
  refine wpAny_bind (wpAny_notOrdered_dict da.typeIs ?_)
  show wpAny _ _ (pure (Value.ref a, Value.ref b)) _ _ s
  refine wpAny_pure (wpAny_bind (wpAny_isInstance (T := "dict") db.typeIs PySem.F.sub_dict_dict ?_))
  simp only [Bool.not_true, Bool.false_eq_true, if_false]
  refine wpAny_bind (wpAny_pure (wpAny_bind (wpAny_pure (wpAny_bind (samePairsT (by show X.A.units + 1 + 1 < cLine; exact hu) I ha hb ma mb (wpAny_pure ⟨_, rfl, by simp, ?_⟩))))))
  rw [Bool.false_xor] at q
  exact ⟨.bl (sameB ka kb), H, I, by show Value.bool (sameB ka kb == true) = _; cases sameB ka kb <;> rfl, q⟩
theorem op_neT (hu : X.A.units + 2 < cLine) : OpR X (compareOp .NotEq) (rEqT true) := by
  intro pins s σ H x y v u Q I rx ry h
  obtain ⟨a, b, ka, kb, rfl, rfl, ha, hb, ma, mb, q⟩ := h
  cases rx
  cases ry
  obtain ⟨_, _, _, da, _, _, _⟩ := I.rawT ha
  obtain ⟨_, _, _, db, _, _, _⟩ := I.rawT hb
  refine wpAny_richCompare_same_room (op := .NotEq) da.typeIs db.typeIs PySem.F.slot_dict_ne (wpAny_call_entry PySem.F.slot_dict_ne da.typeIs PySem.F.entry_dict_ne ?_ (PySem.F.args_dict_ne_2 _ _)) (by omega)
  refine wpAny_bind ?_
  unfold Builtin.Dict.dictSlotArgs
  refine wpAny_bind (wpAny_notOrdered_dict da.typeIs ?_)
  show wpAny _ _ (pure (Value.ref a, Value.ref b)) _ _ s
  refine wpAny_pure (wpAny_bind (wpAny_isInstance (T := "dict") db.typeIs PySem.F.sub_dict_dict ?_))
  simp only [Bool.not_true, Bool.false_eq_true, if_false]
  refine wpAny_bind (wpAny_pure (wpAny_bind (wpAny_pure (wpAny_bind (samePairsT (by show X.A.units + 1 + 1 < cLine; exact hu) I ha hb ma mb (wpAny_pure ⟨_, rfl, by simp, ?_⟩))))))
  rw [Bool.true_xor] at q
  exact ⟨.bl (!sameB ka kb), H, I, by show Value.bool (sameB ka kb == false) = _; cases sameB ka kb <;> rfl, q⟩
end
end L2

set_option Elab.async false
set_option linter.all false
set_option maxRecDepth 100000
set_option maxHeartbeats 4000000
/-! Pages: a crowd, and a dict from its pairs to marks. -/
namespace L2
open PySem PySem.Spec PyProof.Rows
theorem unlock_same {H H' : Hp} {d : Addr} {u : HO} {od : Obj} (hd : H d = some u) (s : Same (upd H d (.frz od u)) H') : Same H (upd H' d u) := fun b o e => by
  by_cases h : b = d
  · subst h
    rw [upd_same, ← hd, e]
  · rw [upd_ne h]
    exact s _ _ (by rw [upd_ne h]; exact e)
theorem kit_dict {T : String} (h : T ∈ knownT) : kitB T "dict" = some (decide (T = "dict")) := by
  simp only [knownT, List.mem_cons, List.not_mem_nil, or_false] at h
  rcases h with rfl | rfl | rfl | rfl | rfl | rfl | rfl <;> decide +kernel
/-- the key of a pair -/
def key2 (p : Str × Str) : List Key := [.inr p.1, .inr p.2]
theorem key2_inj {p q : Str × Str} (h : key2 p = key2 q) : p = q := by
  unfold key2 at h
  injection h with h1 h2
  injection h2 with h2 _
  exact Prod.ext (Sum.inr.inj h1) (Sum.inr.inj h2)
theorem key2_val (p : Str × Str) : (key2 p).map kV = [V.str p.1, V.str p.2] := rfl
/-- the entries of a page, by what it has for each pair -/
def sheetOf (zs : List Str) (f : Str × Str → V) : List (List Key × V) := (pairsOf zs).map fun p => (key2 p, f p)
theorem sheet_keys (zs : List Str) (f : Str × Str → V) : (sheetOf zs f).map (·.1) = (pairsOf zs).map key2 := by
  unfold sheetOf
  rw [List.map_map]
  rfl
theorem pairs_nodup {zs : List Str} (h : zs.Nodup) : (pairsOf zs).Nodup := by
  have key : ∀ l : List Str, l.Nodup → (l.flatMap (rowOf zs)).Nodup := fun l hl => by
    induction l with
    | nil => exact List.nodup_nil
    | cons a l ih =>
      obtain ⟨ha, hl⟩ := List.nodup_cons.mp hl
      rw [List.flatMap_cons, List.nodup_append]
      refine ⟨?_, ih hl, fun x hx y hy e => ?_⟩
      · unfold rowOf
        exact (nodup_map_inj (f := fun b => (a, b)) (fun b c e => (Prod.mk.inj e).2)).mpr (h.filter _)
      · subst e
        unfold rowOf at hx
        obtain ⟨b, _, rfl⟩ := List.mem_map.mp hx
        obtain ⟨c, hc, hx2⟩ := List.mem_flatMap.mp hy
        unfold rowOf at hx2
        obtain ⟨b2, _, e2⟩ := List.mem_map.mp hx2
        exact ha ((Prod.mk.inj e2).1 ▸ hc)
  exact key zs h
theorem sheet_nodup {zs : List Str} (h : zs.Nodup) (f : Str × Str → V) : ((sheetOf zs f).map (·.1)).Nodup := by
  rw [sheet_keys]
  exact (nodup_map_inj (fun _ _ e => key2_inj e)).mpr (pairs_nodup h)
theorem valV_map2 {f : Str × Str → V} {p : Str × Str} : ∀ {l : List (Str × Str)}, p ∈ l → valV (l.map fun p => (key2 p, f p)) (key2 p) = some (f p)
  | a :: l, h => by
    by_cases e : a = p
    · subst e
      exact valV_pos rfl
    · rw [List.map_cons, valV_neg (fun z => e (key2_inj z))]
      rcases List.mem_cons.mp h with e2 | h
      · exact absurd e2.symm e
      · exact valV_map2 h
theorem valV_sheet {zs : List Str} {f : Str × Str → V} {p : Str × Str} (h : p ∈ pairsOf zs) : valV (sheetOf zs f) (key2 p) = some (f p) := valV_map2 h
theorem sheet_len {zs : List Str} {f : Str × Str → V} : (sheetOf zs f).length = (pairsOf zs).length := List.length_map ..
/-- a mark up to m, or None -/
def mkOk (m : Int) (v : V) : Bool := decide (v = .non) || markB 0 m v
theorem mkOk_isMk {m : Int} {v : V} (h : mkOk m v = true) : isMk v = true := by
  cases v with
  | non => rfl
  | int i => rfl
  | _ => cases h
theorem mkOk_ty {K : PySem.W.Frag} {H : Hp} {m : Int} {v : V} (h : mkOk m v = true) : ∃ T, TyN K H v T := by
  cases v with
  | non => exact ⟨"NoneType", .base .non, by decide⟩
  | int i => exact ⟨"int", .base (.int i), by decide⟩
  | _ => cases h
/-- what an instance of Page holds -/
def pageFs (c d : Addr) : List (Str × V) := [("crowd", V.ref c), ("_marks", V.ref d)]
def PageOf (H : Hp) (C CP x : Addr) (zs : List Str) (m : Int) (f : Str × Str → V) : Prop := ∃ dx c d, H x = some (.ins CP dx (pageFs c d)) ∧ CrowdOf H C c zs m ∧ H d = some (.dT (sheetOf zs f))
theorem PageOf.same {H H2 : Hp} {C CP x : Addr} {zs : List Str} {m : Int} {f : Str × Str → V} (s : Same H H2) (h : PageOf H C CP x zs m f) : PageOf H2 C CP x zs m f := by
  obtain ⟨dx, c, d, h1, h2, h3⟩ := h
  exact ⟨dx, c, d, s _ _ h1, h2.same s, s _ _ h3⟩
/-- a page made since H -/
def PageNew (H H2 : Hp) (C CP x : Addr) (zs : List Str) (m : Int) (f : Str × Str → V) : Prop := H x = none ∧ ∃ dx c d, H d = none ∧ H2 x = some (.ins CP dx (pageFs c d)) ∧ CrowdOf H2 C c zs m ∧ H2 d = some (.dT (sheetOf zs f))
theorem PageNew.of {H H2 : Hp} {C CP x : Addr} {zs : List Str} {m : Int} {f : Str × Str → V} (h : PageNew H H2 C CP x zs m f) : PageOf H2 C CP x zs m f := by
  obtain ⟨_, dx, c, d, _, h1, h2, h3⟩ := h
  exact ⟨dx, c, d, h1, h2, h3⟩
/-- the dict at sd is not the page's own -/
def NotOwn (H : Hp) (CP x sd : Addr) : Prop := ∀ dx c d, H x = some (.ins CP dx (pageFs c d)) → d ≠ sd
theorem PageNew.notOwn {H H2 : Hp} {C CP x sd : Addr} {zs : List Str} {m : Int} {f : Str × Str → V} {o : HO} (h : PageNew H H2 C CP x zs m f) (e : H sd = some o) : NotOwn H2 CP x sd := fun dx2 c2 d2 e2 => by
  obtain ⟨_, dx, c, d, n, h1, _⟩ := h
  rw [h1] at e2
  have e3 := Option.some.inj e2
  injection e3 with _ _ e3
  injection e3 with _ e3
  injection e3 with e3 _
  have e4 : d = d2 := V.ref.inj (Prod.mk.inj e3).2
  exact fun z => by
    rw [← e4] at z
    exact ne_of_none e n z.symm
def spIsMark (K : PySem.W.Frag) (C : Addr) : Sp := fun vs H Q _ => ∃ (c : Addr) (v : V) (zs : List Str) (m : Int), vs = [.ref c, v] ∧ CrowdOf H C c zs m ∧ (∃ T, TyN K H v T) ∧ Q (.bl (markB 0 m v)) H
def spIsMarkN (K : PySem.W.Frag) (C : Addr) : Sp := fun vs H Q _ => ∃ (c : Addr) (v : V) (zs : List Str) (m : Int), vs = [.ref c, v] ∧ CrowdOf H C c zs m ∧ (∃ T, TyN K H v T) ∧ Q (.bl (mkOk m v)) H
/-- marks for all pairs of a crowd -/
def MarksAt (H : Hp) (zs : List Str) (m : Int) (d : Addr) (kvs : List (List Key × V)) : Prop := H d = some (.dT kvs) ∧ kvs.length = (pairsOf zs).length ∧ ∀ e ∈ kvs, (∃ p ∈ pairsOf zs, e.1 = key2 p) ∧ mkOk m e.2 = true
def MarksAll (zs : List Str) (kvs : List (List Key × V)) : Prop := ∀ p ∈ pairsOf zs, ∃ v, valV kvs (key2 p) = some v
def spAreMarks (C : Addr) : Sp := fun vs H Q _ => ∃ (c d : Addr) (zs : List Str) (m : Int) (kvs : List (List Key × V)), vs = [.ref c, .ref d] ∧ CrowdOf H C c zs m ∧ zs.length ≤ 8 ∧ MarksAt H zs m d kvs ∧ ∀ H', Same H H' → Q (.bl true) H'
theorem put_take {E : List (List Key × V)} (nd : (E.map (·.1)).Nodup) {i : Nat} {k : List Key} {v : V} (h : E[i]? = some (k, v)) : putK (E.take i) k v = E.take (i + 1) := by
  have hi := (List.getElem?_eq_some_iff.mp h).1
  have none_ : valV (E.take i) k = none := by
    cases hv : valV (E.take i) k with
    | none => rfl
    | some w =>
      have m1 := valV_in hv
      have e : E = E.take i ++ E.drop i := (List.take_append_drop i E).symm
      rw [e, List.map_append, List.nodup_append] at nd
      have m2 : k ∈ (E.drop i).map (·.1) := by
        refine List.mem_map.mpr ⟨(k, v), ?_, rfl⟩
        rw [List.mem_iff_getElem?]
        exact ⟨0, by rw [List.getElem?_drop, Nat.add_zero]; exact h⟩
      exact absurd rfl (nd.2.2 _ m1 _ m2)
  rw [putK_new v none_, List.take_add_one, h]
  rfl
theorem sheet_at {zs : List Str} {f : Str × Str → V} {i : Nat} {p : Str × Str} (h : (pairsOf zs)[i]? = some p) : (sheetOf zs f)[i]? = some (key2 p, f p) := by
  unfold sheetOf
  rw [List.getElem?_map, h]
  rfl
def spNeedCrowd (C : Addr) : Sp := fun vs H Q _ => ∃ (c : Addr) (zs : List Str) (m : Int), vs = [.ref c] ∧ CrowdOf H C c zs m ∧ Q .non H
def spPageInit (C CP : Addr) : Sp := fun vs H Q _ => ∃ (x dx c d : Addr) (zs : List Str) (m : Int) (kvs : List (List Key × V)), vs = [.ref x, .ref c, .ref d] ∧ H x = some (.ins CP dx []) ∧ CrowdOf H C c zs m ∧ zs.length ≤ 8 ∧ zs.Nodup ∧ MarksAt H zs m d kvs ∧ MarksAll zs kvs ∧
  ∀ H' dx' e, But x H H' → H e = none → H' x = some (.ins CP dx' (pageFs c e)) → H' e = some (.dT (sheetOf zs fun p => (valV kvs (key2 p)).getD .non)) → Q .non H'
theorem page_put {c d : Addr} : putF "_marks" (V.ref d) (putF "crowd" (V.ref c) []) = pageFs c d := by
  show (if (("crowd" : Str)) = "_marks" then _ else _) = _
  rw [if_neg (by decide +kernel)]
  rfl
def spPageMarks (C CP : Addr) : Sp := fun vs H Q _ => ∃ (x : Addr) (zs : List Str) (m : Int) (f : Str × Str → V), vs = [.ref x] ∧ PageOf H C CP x zs m f ∧ zs.length ≤ 8 ∧ zs.Nodup ∧ ∀ H' p, Same H H' → H p = none → H' p = some (.dT (sheetOf zs f)) → Q (.ref p) H'
def fullB (zs : List Str) (f : Str × Str → V) : Bool := (pairsOf zs).all fun p => !decide (f p = .non)
def spPageFull (C CP : Addr) : Sp := fun vs H Q _ => ∃ (x : Addr) (zs : List Str) (m : Int) (f : Str × Str → V), vs = [.ref x] ∧ PageOf H C CP x zs m f ∧ zs.length ≤ 8 ∧ ∀ H', Same H H' → Q (.bl (fullB zs f)) H'
def spPageGet (C CP : Addr) : Sp := fun vs H Q _ => ∃ (x t : Addr) (zs : List Str) (m : Int) (f : Str × Str → V) (p : Str × Str), vs = [.ref x, .ref t] ∧ PageOf H C CP x zs m f ∧ p ∈ pairsOf zs ∧ H t = some (.tup [.str p.1, .str p.2]) ∧ Q (f p) H
def likeB (zs : List Str) (f g : Str × Str → V) : Bool := (pairsOf zs).all fun p => decide (f p = g p)
def spPageEq (C CP : Addr) : Sp := fun vs H Q _ => ∃ (x y : Addr) (zs : List Str) (m : Int) (f : Str × Str → V), vs = [.ref x, .ref y] ∧ PageOf H C CP x zs m f ∧ zs.Nodup ∧ (∀ z ∈ zs, PyData.strOk z = true) ∧ (∀ p ∈ pairsOf zs, isMk (f p) = true) ∧
  ((∃ ys n g, PageOf H C CP y ys n g ∧ (∀ z ∈ ys, PyData.strOk z = true) ∧ (∀ p ∈ pairsOf ys, isMk (g p) = true) ∧ Q (.bl (decide (m = n) && (decide (zs = ys) && likeB zs f g))) H) ∨ ((∃ kvs, H y = some (.dT kvs)) ∧ Q (.bl false) H) ∨ ((∃ ys n, CrowdOf H C y ys n) ∧ Q (.bl false) H))
theorem same_sheets {zs : List Str} (nd : zs.Nodup) (f g : Str × Str → V) : sameB (sheetOf zs f) (sheetOf zs g) = likeB zs f g := by
  unfold sameB likeB
  rw [sheet_len, sheet_len, decide_eq_true rfl, Bool.true_and]
  have key : ∀ l : List (Str × Str), (∀ p ∈ l, p ∈ pairsOf zs) → ((l.map fun p => (key2 p, f p)).all fun e => decide (valV (sheetOf zs g) e.1 = some e.2)) = l.all fun p => decide (f p = g p) := fun l => by
    induction l with
    | nil => intro _; rfl
    | cons p l ih =>
      intro h
      rw [List.map_cons, List.all_cons, List.all_cons, ih fun q hq => h q (List.mem_cons_of_mem _ hq)]
      dsimp only
      rw [valV_sheet (h p (List.mem_cons_self ..))]
      have e : decide (some (g p) = some (f p)) = decide (f p = g p) := by
        by_cases e : f p = g p
        · rw [e]
          simp
        · rw [decide_eq_false e, decide_eq_false (fun z => e (Option.some.inj z).symm)]
      rw [e]
  exact key (pairsOf zs) fun _ h => h
theorem sheet_mk {zs : List Str} {f : Str × Str → V} (h : ∀ p ∈ pairsOf zs, isMk (f p) = true) : ∀ e ∈ sheetOf zs f, isMk e.2 = true := fun e he => by
  unfold sheetOf at he
  obtain ⟨p, hp, rfl⟩ := List.mem_map.mp he
  exact h p hp
theorem valV_none {κ : Type} [DecidableEq κ] {kvs : List (κ × V)} {k : κ} (h : k ∉ kvs.map (·.1)) : valV kvs k = none := by
  cases hv : valV kvs k with
  | none => rfl
  | some v => exact absurd (valV_in hv) h
/-- the row of somebody: its marks for the others -/
def rowK (l : List Str) (f : Str × Str → V) (a : Str) : List (Key × V) := (l.filter fun b => a ≠ b).map fun b => (Sum.inr b, f (a, b))
theorem rowK_take (zs : List Str) (f : Str × Str → V) (a b : Str) (i : Nat) (h : zs[i]? = some b) : rowK (zs.take (i + 1)) f a = rowK (zs.take i) f a ++ (if a ≠ b then [(Sum.inr b, f (a, b))] else []) := by
  unfold rowK
  rw [row_take zs a b i h, List.map_append]
  congr 1
  split <;> rfl
theorem rowK_new {zs : List Str} (nd : zs.Nodup) (f : Str × Str → V) (a b : Str) (i : Nat) (h : zs[i]? = some b) : valV (rowK (zs.take i) f a) (Sum.inr b : Key) = none := by
  refine valV_none fun m => ?_
  unfold rowK at m
  rw [List.map_map] at m
  obtain ⟨c, hc, e⟩ := List.mem_map.mp m
  have e2 : c = b := Sum.inr.inj e
  subst e2
  have m1 := (List.mem_filter.mp hc).1
  have m2 : c ∈ zs.drop i := List.mem_iff_getElem?.mpr ⟨0, by rw [List.getElem?_drop, Nat.add_zero]; exact h⟩
  have e3 : zs = zs.take i ++ zs.drop i := (List.take_append_drop i zs).symm
  rw [e3, List.nodup_append] at nd
  exact absurd rfl (nd.2.2 _ m1 _ m2)
theorem rowK_len {l : List Str} {f : Str × Str → V} {a : Str} : (rowK l f a).length ≤ l.length := by
  unfold rowK
  rw [List.length_map]
  exact List.length_filter_le ..
def spPageRow (C CP : Addr) : Sp := fun vs H Q _ => ∃ (x : Addr) (zs : List Str) (m : Int) (f : Str × Str → V) (a : Str), vs = [.ref x, .str a] ∧ PageOf H C CP x zs m f ∧ zs.Nodup ∧ zs.length ≤ 8 ∧ a ∈ zs ∧ ∀ H' p, Same H H' → H p = none → H' p = some (.dK (rowK zs f a)) → Q (.ref p) H'
theorem mem_pairsOf {zs : List Str} {a b : Str} (ha : a ∈ zs) (hb : b ∈ zs) (h : a ≠ b) : (a, b) ∈ pairsOf zs := by
  unfold pairsOf
  refine List.mem_flatMap.mpr ⟨a, ha, ?_⟩
  unfold rowOf
  exact List.mem_map.mpr ⟨b, List.mem_filter.mpr ⟨hb, by simpa using h⟩, rfl⟩
theorem sheet_congr {zs : List Str} {f g : Str × Str → V} (h : ∀ p ∈ pairsOf zs, f p = g p) : sheetOf zs f = sheetOf zs g := by
  unfold sheetOf
  exact List.map_congr_left fun p hp => by rw [h p hp]
def withF (f : Str × Str → V) (q : Str × Str) (v : V) : Str × Str → V := fun p => if p = q then v else f p
theorem put_sheet {zs : List Str} {f : Str × Str → V} {q : Str × Str} {v : V} (h : q ∈ pairsOf zs) : putK (sheetOf zs f) (key2 q) v = sheetOf zs (withF f q v) := by
  unfold putK
  have any : ((sheetOf zs f).any fun kv => decide (kv.1 = key2 q)) = true := by
    rw [valV_any, valV_sheet h]
    rfl
  rw [if_pos any]
  unfold sheetOf
  rw [List.map_map]
  refine List.map_congr_left fun p hp => ?_
  show (if key2 p = key2 q then (key2 p, v) else (key2 p, f p)) = (key2 p, withF f q v p)
  unfold withF
  by_cases e : p = q
  · subst e
    rw [if_pos rfl, if_pos rfl]
  · rw [if_neg (fun z => e (key2_inj z)), if_neg e]
section
variable {σ : St} {H : Hp} {Q : VK} {C CP : Addr} {zs : List Str} {m : Int} {g : Str × Str → V}
theorem md_page {c d : Addr} {kvs : List (List Key × V)} {H1 : Hp} {R : VK} {E : XK} (s1 : Same H H1) (hc : CrowdOf H1 C c zs m) (z8 : zs.length ≤ 8) (nd : zs.Nodup) (hM : MarksAt H1 zs m d kvs) (hv : ∀ p ∈ pairsOf zs, valV kvs (key2 p) = some (g p))
    (k : ∀ H' x, Same H H' → PageNew H H' C CP x zs m g → R (.ref x) H') : ∀ x dx, H1 x = none → H1 dx = none → dx ≠ x → spPageInit C CP [.ref x, .ref c, .ref d] (upd (upd H1 dx (.own x)) x (.ins CP dx [])) (fun v H2 => v = .non ∧ R (.ref x) H2) E := by
  intro x dx nx ndx nex
  have s2 : Same H1 (upd (upd H1 dx (.own x)) x (.ins CP dx [])) := fun b o e => by
    rw [upd_ne (ne_of_none e nx), upd_ne (ne_of_none e ndx)]
    exact e
  obtain ⟨hd, hl, hk⟩ := hM
  refine ⟨x, dx, c, d, zs, m, kvs, rfl, upd_same, hc.same s2, z8, nd, ⟨s2 _ _ hd, hl, hk⟩, fun p hp => ⟨_, hv p hp⟩, fun H' dx2 e hB ne h1 h2 => ⟨rfl, k H' x (s1.trans fun b o z => hB b o (ne_of_none z nx) (s2 _ _ z)) ⟨s1.free nx, dx2, c, e, s1.free (s2.free ne), h1, ?_, ?_⟩⟩⟩
  · obtain ⟨dc, l, e1, e2⟩ := hc
    exact ⟨dc, l, hB _ _ (ne_of_none e1 nx) (s2 _ _ e1), hB _ _ (ne_of_none e2 nx) (s2 _ _ e2)⟩
  · rw [h2, sheet_congr (g := g) fun p hp => by rw [hv p hp]; rfl]
theorem rd_page {E : XK} {kvs : List (List Key × V)} {t : TA} (z8 : zs.length ≤ 8) (nd : zs.Nodup) (hl : kvs.length = (pairsOf zs).length) (hk : ∀ e ∈ kvs, (∃ p ∈ pairsOf zs, e.1 = key2 p) ∧ mkOk m e.2 = true) (hv : ∀ p ∈ pairsOf zs, valV kvs (key2 p) = some (g p))
    (ht : ∀ Q' : List V → Hp → Prop, (∀ H1 c d, Same H H1 → CrowdOf H1 C c zs m → H1 d = some (.dT kvs) → Q' [.ref c, .ref d] H1) → t σ H Q') (k : ∀ H' x, Same H H' → PageNew H H' C CP x zs m g → Q (.ref x) H') : tMake CP (spPageInit C CP) [] E t σ H Q := by
  refine ht _ fun H1 c d s1 hc hd => ?_
  exact md_page s1 hc z8 nd ⟨hd, hl, hk⟩ hv k
end
theorem sheet_marks {zs : List Str} {m : Int} {f : Str × Str → V} (mk : ∀ p ∈ pairsOf zs, mkOk m (f p) = true) : ∀ e ∈ sheetOf zs f, (∃ p ∈ pairsOf zs, e.1 = key2 p) ∧ mkOk m e.2 = true := fun e he => by
  unfold sheetOf at he
  obtain ⟨p, hp, rfl⟩ := List.mem_map.mp he
  exact ⟨⟨p, hp, rfl⟩, mk p hp⟩
def spWithMark (C CP : Addr) : Sp := fun vs H Q _ => ∃ (x t : Addr) (v : V) (zs : List Str) (m : Int) (f : Str × Str → V) (p : Str × Str), vs = [.ref x, .ref t, v] ∧ PageOf H C CP x zs m f ∧ zs.Nodup ∧ zs.length ≤ 8 ∧ (∀ z ∈ zs, PyData.strOk z = true) ∧
  (∀ p ∈ pairsOf zs, mkOk m (f p) = true) ∧ p ∈ pairsOf zs ∧ H t = some (.tup [.str p.1, .str p.2]) ∧ mkOk m v = true ∧ ∀ H' y, Same H H' → PageNew H H' C CP y zs m (withF f p v) → Q (.ref y) H'
def spFilled (C CP : Addr) : Sp := fun vs H Q _ => ∃ (c : Addr) (v : V) (zs : List Str) (m : Int), vs = [.ref c, v] ∧ CrowdOf H C c zs m ∧ zs.Nodup ∧ zs.length ≤ 8 ∧ mkOk m v = true ∧ ∀ H' y, Same H H' → PageNew H H' C CP y zs m (fun _ => v) → Q (.ref y) H'
theorem eqv_pairD (p q : Str × Str) : PyData.eqv (pairD p) (pairD q) = decide (p = q) := by
  show PyData.eqv (.tuple ([p.1, p.2].map .str)) (.tuple ([q.1, q.2].map .str)) = _
  rw [PyData.eqv, eqvAll_strs]
  refine decide_eq_decide.mpr ⟨fun h => ?_, fun h => by rw [h]⟩
  injection h with h1 h2
  injection h2 with h2 _
  exact Prod.ext h1 h2
theorem shaped_pairD {p : Str × Str} (h1 : PyData.strOk p.1 = true) (h2 : PyData.strOk p.2 = true) : SeqAt.shaped (pairD p) = true := by
  have ok : ∀ z ∈ [p.1, p.2], PyData.strOk z = true := fun z hz => by
    rcases List.mem_cons.mp hz with rfl | hz
    · exact h1
    · rw [List.mem_singleton.mp hz]
      exact h2
  have := depth_strs [p.1, p.2]
  show SeqAt.shaped (.tuple ([p.1, p.2].map .str)) = true
  unfold SeqAt.shaped
  rw [PyData.canLay0, lay_strs ok, Bool.true_and]
  refine decide_eq_true ?_
  rw [PyData.depth]
  omega
theorem dp_pair {K : PySem.W.Frag} {H : Hp} {t : Addr} {p : Str × Str} (h : H t = some (.tup [.str p.1, .str p.2])) : Dp K H (.ref t) (pairD p) := .tup (SqT.of h) (.cons (.str _) (.cons (.str _) .nil))
/-- a row that is given: words and marks -/
def rowD (es : List (Str × V)) : List (Key × V) := es.map fun e => (Sum.inr e.1, e.2)
def RowFor (zs : List Str) (m : Int) (a : Str) (es : List (Str × V)) : Prop := es.length + 1 = zs.length ∧ ∀ e ∈ es, e.1 ∈ zs ∧ e.1 ≠ a ∧ mkOk m e.2 = true
def spIsRow (C : Addr) : Sp := fun vs H Q _ => ∃ (c r : Addr) (a : Str) (zs : List Str) (m : Int) (es : List (Str × V)), vs = [.ref c, .str a, .ref r] ∧ CrowdOf H C c zs m ∧ zs.length ≤ 8 ∧ H r = some (.dK (rowD es)) ∧ RowFor zs m a es ∧ ∀ H', Same H H' → Q (.bl true) H'
def putRow (f : Str × Str → V) (a : Str) (es : List (Str × V)) : Str × Str → V := es.foldl (fun g e => withF g (a, e.1) e.2) f
theorem putRow_snoc (f : Str × Str → V) (a : Str) (es : List (Str × V)) (e : Str × V) : putRow f a (es ++ [e]) = withF (putRow f a es) (a, e.1) e.2 := by
  unfold putRow
  rw [List.foldl_append]
  rfl
theorem putRow_mk {m : Int} {a : Str} {ps : List (Str × Str)} : ∀ {es : List (Str × V)} {f : Str × Str → V}, (∀ e ∈ es, mkOk m e.2 = true) → (∀ p ∈ ps, mkOk m (f p) = true) → ∀ p ∈ ps, mkOk m (putRow f a es p) = true
  | [], _, _, h2 => h2
  | e :: es, f, h1, h2 => fun p hp => by
    refine putRow_mk (es := es) (f := withF f (a, e.1) e.2) (fun x hx => h1 x (List.mem_cons_of_mem _ hx)) (fun q hq => ?_) p hp
    unfold withF
    split
    · exact h1 e (List.mem_cons_self ..)
    · exact h2 q hq
def spWithRow (C CP : Addr) : Sp := fun vs H Q _ => ∃ (x r : Addr) (a : Str) (zs : List Str) (m : Int) (f : Str × Str → V) (es : List (Str × V)), vs = [.ref x, .str a, .ref r] ∧ PageOf H C CP x zs m f ∧ zs.Nodup ∧ zs.length ≤ 8 ∧ a ∈ zs ∧
  (∀ p ∈ pairsOf zs, mkOk m (f p) = true) ∧ H r = some (.dK (rowD es)) ∧ RowFor zs m a es ∧ ∀ H' y, Same H H' → PageNew H H' C CP y zs m (putRow f a es) → Q (.ref y) H'
/-- a law's plan of a crowd: its people and the greatest mark -/
def planK (l : Addr) (m : Int) : List (Key × V) := [(Sum.inr "people", V.ref l), (Sum.inr "most", V.int m)]
theorem plan_people {l : Addr} {m : Int} : valV (planK l m) (Sum.inr "people" : Key) = some (V.ref l) := valV_pos rfl
theorem plan_most {l : Addr} {m : Int} : valV (planK l m) (Sum.inr "most" : Key) = some (V.int m) := by
  unfold planK
  rw [valV_neg (fun z => absurd (Sum.inr.inj z) (by decide +kernel))]
  exact valV_pos rfl
theorem get_people {H : Hp} {pl l : Addr} {m : Int} (h : H pl = some (.dK (planK l m))) : DGet H pl (.str "people") (some (.ref l)) := .inl ⟨_, Sum.inr "people", .inl h, rfl, plan_people.symm⟩
theorem get_most {H : Hp} {pl l : Addr} {m : Int} (h : H pl = some (.dK (planK l m))) : DGet H pl (.str "most") (some (.int m)) := .inl ⟨_, Sum.inr "most", .inl h, rfl, plan_most.symm⟩
def spSheet (K : PySem.W.Frag) : Sp := fun vs H Q _ => ∃ (a pl l : Addr) (r : Int) (zs : List Str) (m : Int), vs = [.ref a, .ref pl, .int r] ∧ Pool H a ∧ H pl = some (.dK (planK l m)) ∧ H l = some (.lst (zs.map V.str)) ∧ zs.Nodup ∧ zs.length ≤ 8 ∧ 1 ≤ m ∧ m ≤ 10 ∧ r ≤ 100 ∧
  ∀ H' p f, Pool H' a → But a H H' → H p = none → H' p = some (.dT (sheetOf zs f)) → (∀ q ∈ pairsOf zs, mkOk m (f q) = true) → Q (.ref p) H'
theorem sheet_take_with {zs : List Str} (nd : zs.Nodup) {f : Str × Str → V} {q : Str × Str} {v : V} {i : Nat} (h : (pairsOf zs)[i]? = some q) : (sheetOf zs (withF f q v)).take i = (sheetOf zs f).take i := by
  unfold sheetOf
  rw [← List.map_take, ← List.map_take]
  refine List.map_congr_left fun p hp => ?_
  have ne : p ≠ q := fun e => by
    subst e
    have e2 : pairsOf zs = (pairsOf zs).take i ++ (pairsOf zs).drop i := (List.take_append_drop i _).symm
    have n := pairs_nodup nd
    rw [e2, List.nodup_append] at n
    exact absurd rfl (n.2.2 _ hp _ (List.mem_iff_getElem?.mpr ⟨0, by rw [List.getElem?_drop, Nat.add_zero]; exact h⟩))
  unfold withF
  rw [if_neg ne]
end L2

set_option Elab.async false
set_option linter.all false
set_option maxRecDepth 100000
set_option maxHeartbeats 4000000
/-! list(d.items()), the keys numbers or texts. -/
namespace L2
open PySem PySem.Spec PyProof.Rows
section
variable {X : Cx}
theorem Inv.rawK {pins : List (Addr × Obj)} {σ : St} {H : Hp} {s : Shared} {d : Addr} {kvs : List (Key × V)} (I : Inv X pins σ H s) (h : H d = some (.dK kvs)) :
    (d == sysModules) = false ∧ ∃ (es : Array DictEntry) (ep : Nat), s.heap.DictRaw d es ep ∧ es.size = kvs.length ∧ kvs.length ≤ sizeLine ∧
      ∀ (i : Nat) (k : Key) (v : V), kvs[i]? = some (k, v) → ∃ (hi : i < es.size), RelV (kV k) es[i].key ∧ RelV v es[i].val := by
  obtain ⟨z, low, vs, rel, dd⟩ := dk_of I.hok h
  obtain ⟨es, ep, hr, hs, he⟩ := dd.raw
  have l : kvs.length = vs.length := Paired.length rel
  refine ⟨low, es, ep, hr, by omega, z, fun i k v e => ?_⟩
  obtain ⟨u, hu, ru⟩ := kv_get rel e
  have hi : i < es.size := by
    have := (List.getElem?_eq_some_iff.mp e).1
    omega
  obtain ⟨e1, e2⟩ := he i hi k u hu
  exact ⟨hi, relV_key (show keyIs k es[i].key = true from e1), by rw [e2]; exact ru⟩
def rItemsK : V → List V → Hp → VK → Prop := fun x xs H Q => ∃ (a : Addr) (kvs : List (Key × V)), x = .ref a ∧ xs = [] ∧ H a = some (.dK kvs) ∧ ∀ p, H p = none → Q (.ref p) (upd H p (DX.itemsO p a))
theorem mt_itemsK : MtR X "dict.items" rItemsK := by
  intro pins s σ H x xs v us Q I rx rxs h
  obtain ⟨a, kvs, rfl, rfl, ha, q⟩ := h
  cases rx
  cases rxs
  obtain ⟨low, es, ep, hr, _⟩ := I.rawK ha
  refine call_meetsIn PySem.F.slot_dict_items hr.typeIs PySem.F.entry_dict_items (PySem.F.args_dict_items_1 _) (meets_dict_items_raw a low) ⟨⟨es, ep, hr⟩, ?_⟩
  exact ⟨.ref s.heap.objs.size, upd H s.heap.objs.size (DX.itemsO s.heap.objs.size a), I.laid (t' := s.toks) (fun b u e => Heap.get?_push_of_some _ e) (Nat.le_refl _) (DX.itemsO_ok (Heap.get?_push_size _ rfl)), rfl, q _ (I.hok.fresh (Nat.le_refl _))⟩
/-- new tuples of the entries of a dict -/
def ItemsK (H : Hp) (ts : List Addr) (kvs : List (Key × V)) : Prop := ts.length = kvs.length ∧ ∀ (j : Nat) (t : Addr) (kv : Key × V), ts[j]? = some t → kvs[j]? = some kv → H t = some (.tup [kV kv.1, kv.2])
theorem call_list_items (hc : X.calm = true) : CallR X (.type "list") (fun xs H Q => ∃ p d kvs, xs = [V.ref p] ∧ H p = some (DX.itemsO p d) ∧ H d = some (.dK kvs) ∧ ∀ H' l ts, Same H H' → H' l = some (.lst (ts.map V.ref)) → ItemsK H' ts kvs → Q (.ref l) H') := by
  intro pins s σ H xs us Q I r h
  obtain ⟨p, d, kvs, rfl, hp, hd, q⟩ := h
  obtain ⟨u, rfl, rx⟩ := r.one
  cases rx
  obtain ⟨low, es, ep, hr, hsz, z, ent⟩ := I.rawK hd
  have hv : s.heap.IsItemsView p d := (show ObjOk X.prog X.w H s.heap p (DX.itemsO p d) from I.hok p _ hp).1
  refine PySem.W.dil_call (es := es) (ep := ep) (I.ok.hd hc) hv hr (by omega) fun h' tk acc c as kp hl len G ea => ?_
  have free : H s.heap.objs.size = none := I.hok.fresh (Nat.le_refl _)
  have I1 : Inv X pins σ (upd H s.heap.objs.size (.lst (as.map V.ref))) { s with heap := h', toks := tk } := by
    refine I.laid (t' := tk) (o := .lst (as.map V.ref)) kp (Nat.le_refl _) ⟨by rw [List.length_map]; omega, acc.toList, c, ?_, by rw [Array.toArray_toList]; exact hl⟩
    rw [ea]
    exact vals_refs as
  have nd : as.Nodup := G.rise.imp fun h => Nat.ne_of_lt h
  obtain ⟨H2, I2, g, qt⟩ := DX.takeT (P := fun b vs => ∃ (j : Nat) (kv : Key × V), as[j]? = some b ∧ kvs[j]? = some kv ∧ vs = [kV kv.1, kv.2]) I as _ I1 nd fun b hb => by
    obtain ⟨j, hj⟩ := List.mem_iff_getElem?.mp hb
    obtain ⟨hje, hg⟩ := G.pairs j b hj
    have hk : j < kvs.length := by omega
    obtain ⟨_, r1, r2⟩ := ent j kvs[j].1 kvs[j].2 (List.getElem?_eq_getElem hk)
    have hbl := G.above b hb
    refine ⟨Nat.le_of_lt hbl, ?_, [kV kvs[j].1, kvs[j].2], ⟨j, kvs[j], hj, List.getElem?_eq_getElem hk, rfl⟩, fun H3 => ⟨by show 2 ≤ sizeLine; decide, [es[j].key, es[j].val], .cons r1 (.cons r2 .nil), ⟨_, hg, rfl, _, rfl⟩⟩⟩
    rw [upd_ne (Nat.ne_of_gt hbl)]
    exact I.hok.fresh (Nat.le_of_lt hbl)
  refine ⟨.ref s.heap.objs.size, H2, I2, rfl, q H2 _ as (fun b o e => g b o (by rw [upd_ne (ne_of_none e free)]; exact e)) (g _ _ upd_same) ⟨by omega, fun j t kv h1 h2 => ?_⟩⟩
  obtain ⟨vs, ⟨i, kv2, j1, j2, ev⟩, hH⟩ := qt t (List.mem_of_getElem? h1)
  have eij : j = i := (List.getElem?_inj (List.getElem?_eq_some_iff.mp h1).1 nd).mp (h1.trans j1.symm)
  subst eij
  obtain rfl := Option.some.inj (h2.symm.trans j2)
  rw [hH, ev]
end
end L2

set_option Elab.async false
set_option linter.all false
set_option maxRecDepth 100000
set_option maxHeartbeats 4000000
/-! Marks, and rows of marks, as data: their texts, and that they are equal to themselves. -/
namespace L2
open PySem PySem.Spec PyProof.Rows
/-- data of few signs -/
def Small (d : PyData) : Prop := d.hasDict = false ∧ d.showable = true ∧ d.depth ≤ 2 ∧ d.shown.length ≤ 30 ∧ d.canLay0 = true
theorem small_all : ∀ {ds : List PyData}, (∀ d ∈ ds, Small d) → PyData.hasDictAll ds = false ∧ PyData.showableAll ds = true ∧ PyData.depthAll ds ≤ 2 ∧ (∀ t ∈ PyData.shownAll ds, t.length ≤ 30) ∧ PyData.canLayAll0 ds = true
  | [], _ => ⟨rfl, rfl, by simp [PyData.depthAll], fun t h => (nomatch h), rfl⟩
  | d :: ds, h => by
    obtain ⟨h1, h2, h3, h4, h5⟩ := small_all fun e he => h e (List.mem_cons_of_mem _ he)
    obtain ⟨k1, k2, k3, k4, k5⟩ := h d (List.mem_cons_self ..)
    refine ⟨?_, ?_, ?_, fun t ht => ?_, ?_⟩
    · rw [PyData.hasDictAll, k1, h1]
      rfl
    · rw [PyData.showableAll, k2, h2]
      rfl
    · simp only [PyData.depthAll]
      omega
    · rw [PyData.shownAll] at ht
      rcases List.mem_cons.mp ht with e | e
      · rw [e]
        exact k4
      · exact h4 t e
    · rw [PyData.canLayAll0, k5, h5]
      rfl
theorem small_list {ds : List PyData} (h : ∀ d ∈ ds, Small d) (hl : ds.length ≤ 64) : (PyData.list ds).hasDict = false ∧ (PyData.list ds).showable = true ∧ (PyData.list ds).depth ≤ 100 ∧ (PyData.list ds).shown.length ≤ sizeLine := by
  obtain ⟨h1, h2, h3, h4, _⟩ := small_all h
  refine ⟨by rw [PyData.hasDict]; exact h1, by rw [PyData.showable]; exact h2, by rw [PyData.depth]; omega, ?_⟩
  rw [PyData.shown]
  unfold listText
  rw [Str.length_append]
  have k := from_len (PyData.shownAll ds) 0 30 "[" h4
  rw [shownAll_len] at k
  have c1 : (Str.ofString "[").length = 1 := by decide
  have c2 : (Str.ofString "]").length = 1 := by decide
  have h5 : ds.length * (30 + 2) ≤ 64 * 32 := Nat.mul_le_mul_right _ hl
  rw [sizeLine_eq]
  omega
theorem small_shaped {ds : List PyData} (h : ∀ d ∈ ds, Small d) : SeqAt.shaped (.list ds) = true := by
  obtain ⟨_, _, h3, _, h5⟩ := small_all h
  unfold SeqAt.shaped
  rw [PyData.canLay0, h5, Bool.true_and]
  refine decide_eq_true ?_
  rw [PyData.depth]
  omega
theorem small_eqv {ds : List PyData} (h : ∀ d ∈ ds, Small d) : PyData.eqv (.list ds) (.list ds) = true := by
  obtain ⟨_, _, _, _, h5⟩ := small_all h
  exact SeqAt.eqv_refl _ (by rw [PyData.canLay0]; exact h5)
def markD : V → PyData
  | .int i => .int i
  | _ => .none
theorem mark_cases {m : Int} {v : V} (h : mkOk m v = true) (hm : m ≤ 10) : v = .non ∨ ∃ k : Nat, k < 11 ∧ v = .int (k : Int) := by
  cases v with
  | non => exact .inl rfl
  | int i =>
    have e : (decide (0 ≤ i) && decide (i ≤ m)) = true := by
      have : (decide (V.int i = V.non) || (decide (0 ≤ i) && decide (i ≤ m))) = true := h
      simpa using this
    rw [Bool.and_eq_true] at e
    have e1 := of_decide_eq_true e.1
    have e2 := of_decide_eq_true e.2
    exact .inr ⟨i.toNat, by omega, by rw [Int.toNat_of_nonneg e1]⟩
  | _ => cases h
theorem small_none : Small .none := by
  unfold Small
  decide +kernel
theorem small_int11 : ∀ k < 11, Small (.int ((k : Nat) : Int)) := by
  unfold Small
  decide +kernel
theorem small_mark {m : Int} {v : V} (h : mkOk m v = true) (hm : m ≤ 10) : Small (markD v) := by
  rcases mark_cases h hm with rfl | ⟨k, hk, rfl⟩
  · exact small_none
  · exact small_int11 k hk
theorem dp_mark {K : PySem.W.Frag} {H : Hp} {m : Int} {v : V} (h : mkOk m v = true) : Dp K H v (markD v) := by
  cases v with
  | non => exact .non
  | int i => exact .int i
  | _ => cases h
theorem dp_marks {K : PySem.W.Frag} {H : Hp} {m : Int} : ∀ {vs : List V}, (∀ v ∈ vs, mkOk m v = true) → DpAll K H vs (vs.map markD)
  | [], _ => .nil
  | v :: vs, h => .cons (dp_mark (h v (List.mem_cons_self ..))) (dp_marks fun x hx => h x (List.mem_cons_of_mem _ hx))
/-- a word and a mark -/
def rowDat (b : Str) (v : V) : PyData := .tuple [.str b, markD v]
theorem small_rows : ∀ b ∈ names8, Small (rowDat b .non) ∧ ∀ k < 11, Small (rowDat b (.int ((k : Nat) : Int))) := by
  unfold Small rowDat
  decide +kernel
theorem small_row {m : Int} {v : V} {b : Str} (hb : b ∈ names8) (h : mkOk m v = true) (hm : m ≤ 10) : Small (rowDat b v) := by
  rcases mark_cases h hm with rfl | ⟨k, hk, rfl⟩
  · exact (small_rows b hb).1
  · exact (small_rows b hb).2 k hk
theorem small_pairs : ∀ a ∈ names8, ∀ b ∈ names8, Small (pairD (a, b)) := by
  unfold Small pairD
  decide +kernel
theorem dp_row {K : PySem.W.Frag} {H : Hp} {m : Int} {t : Addr} {b : Str} {v : V} (h : H t = some (.tup [.str b, v])) (hv : mkOk m v = true) : Dp K H (.ref t) (rowDat b v) := .tup (SqT.of h) (.cons (.str _) (.cons (dp_mark hv) .nil))
theorem small_bool : ∀ b : Bool, (PyData.bool b).hasDict = false ∧ (PyData.bool b).showable = true ∧ (PyData.bool b).depth ≤ 100 ∧ (PyData.bool b).shown.length ≤ sizeLine := by
  intro b
  rw [sizeLine_eq]
  cases b <;> decide +kernel
section
variable {te : TE} {g : TG} {D : Ends} {σ : St} {H : Hp}
theorem st_asg (h : te σ H fun x H1 => g x σ H1 D.nx) : tAsg te g D σ H := h
end
/-- a page as its plan and its sheet tell -/
structure Told (zs : List Str) (m : Int) (f : Str × Str → V) : Prop where
  mem : ∀ z ∈ zs, z ∈ names8
  nd : zs.Nodup
  one : 1 ≤ zs.length
  most : zs.length ≤ 8
  m1 : 1 ≤ m
  m10 : m ≤ 10
  marks : ∀ p ∈ pairsOf zs, mkOk m (f p) = true
def spPageRight (C CP : Addr) : Sp := fun vs H Q _ => ∃ (x pl l sd : Addr) (zs : List Str) (m : Int) (f : Str × Str → V), vs = [.ref x, .ref pl, .ref sd] ∧ PageOf H C CP x zs m f ∧ NotOwn H CP x sd ∧ H pl = some (.dK (planK l m)) ∧ H l = some (.lst (zs.map V.str)) ∧ H sd = some (.dT (sheetOf zs f)) ∧ Told zs m f ∧ ∀ G, Same H G → Q (.bl true) G
theorem eqv_none {m : Int} {v : V} (h : mkOk m v = true) : PyData.eqv (markD v) .none = decide (v = .non) := by
  cases v with
  | non => decide +kernel
  | int i =>
    rw [decide_eq_false (by intro z; cases z)]
    show PyData.eqv (.int i) .none = false
    simp [PyData.eqv]
  | _ => cases h
theorem none_in {m : Int} : ∀ {vs : List V}, (∀ v ∈ vs, mkOk m v = true) → ((vs.map markD).any fun z => PyData.eqv z .none) = vs.any fun v => decide (v = .non)
  | [], _ => rfl
  | v :: vs, h => by
    rw [List.map_cons, List.any_cons, List.any_cons, eqv_none (h v (List.mem_cons_self ..)), none_in fun x hx => h x (List.mem_cons_of_mem _ hx)]
theorem likeB_self (zs : List Str) (f : Str × Str → V) : likeB zs f f = true := by
  unfold likeB
  rw [List.all_eq_true]
  intro p _
  exact decide_eq_true rfl
theorem isKeys_same {H H2 : Hp} (s : Same H H2) {kvs : List (List Key × V)} {bs : List Addr} (h : IsKeys H kvs bs) : IsKeys H2 kvs bs := by
  unfold IsKeys at h ⊢
  induction h with
  | nil => exact .nil
  | cons h t ih => exact .cons (s _ _ h) ih
theorem isKeys_dp {K : PySem.W.Frag} {H : Hp} {f : Str × Str → V} : ∀ {l : List (Str × Str)} {bs : List Addr}, IsKeys H (l.map fun p => (key2 p, f p)) bs → DpAll K H (bs.map V.ref) (l.map pairD)
  | [], _, h => by
    cases h
    exact .nil
  | p :: l, _, h => by
    cases h with
    | cons h t => exact .cons (.tup (SqT.of h) (.cons (.str _) (.cons (.str _) .nil))) (isKeys_dp t)
theorem small_pairsOf {zs : List Str} (h : ∀ z ∈ zs, z ∈ names8) : ∀ d ∈ (pairsOf zs).map pairD, Small d := fun d hd => by
  obtain ⟨p, hp, rfl⟩ := List.mem_map.mp hd
  obtain ⟨h1, h2, _⟩ := mem_pairs hp
  exact small_pairs p.1 (h _ h1) p.2 (h _ h2)
theorem small_sheet {zs : List Str} {m : Int} {f : Str × Str → V} (t : Told zs m f) : ∀ d ∈ ((pairsOf zs).map f).map markD, Small d := fun d hd => by
  obtain ⟨v, hv, rfl⟩ := List.mem_map.mp hd
  obtain ⟨p, hp, rfl⟩ := List.mem_map.mp hv
  exact small_mark (t.marks p hp) t.m10
theorem full_none {zs : List Str} {m : Int} {f : Str × Str → V} (t : Told zs m f) : (!(((pairsOf zs).map f).map markD).any fun z => PyData.eqv z .none) = fullB zs f := by
  rw [none_in (m := m) fun v hv => by obtain ⟨p, hp, rfl⟩ := List.mem_map.mp hv; exact t.marks p hp]
  unfold fullB
  rw [List.any_map]
  induction pairsOf zs with
  | nil => rfl
  | cons p l ih =>
    rw [List.any_cons, List.all_cons, ← ih, Bool.not_or]
    rfl
theorem ItemsK.snoc {H : Hp} {ts : List Addr} {kvs : List (Key × V)} {t : Addr} {k : Key} {v : V} (h : ItemsK H ts kvs) (e : H t = some (.tup [kV k, v])) : ItemsK H (ts ++ [t]) (kvs ++ [(k, v)]) := by
  refine ⟨by rw [List.length_append, List.length_append, h.1]; rfl, fun j x kv h1 h2 => ?_⟩
  rcases Nat.lt_trichotomy j ts.length with c | c | c
  · rw [List.getElem?_append_left c] at h1
    rw [List.getElem?_append_left (by rw [← h.1]; exact c)] at h2
    exact h.2 j x kv h1 h2
  · subst c
    rw [List.getElem?_append_right (Nat.le_refl _), Nat.sub_self] at h1
    rw [h.1, List.getElem?_append_right (Nat.le_refl _), Nat.sub_self] at h2
    cases h1
    cases h2
    exact e
  · rw [List.getElem?_eq_none (by rw [List.length_append, List.length_singleton]; omega)] at h1
    cases h1
theorem ItemsK.keep {H H2 : Hp} {ts : List Addr} {kvs : List (Key × V)} (h : ItemsK H ts kvs) (k : ∀ t ∈ ts, ∀ o, H t = some o → H2 t = some o) : ItemsK H2 ts kvs := ⟨h.1, fun j t kv h1 h2 => k t (List.mem_of_getElem? h1) _ (h.2 j t kv h1 h2)⟩
theorem itemsK_dp {K : PySem.W.Frag} {H : Hp} {m : Int} : ∀ {es : List (Str × V)} {ts : List Addr}, ItemsK H ts (rowD es) → (∀ e ∈ es, mkOk m e.2 = true) → DpAll K H (ts.map V.ref) (es.map fun e => rowDat e.1 e.2)
  | [], [], _, _ => .nil
  | [], t :: ts, h, _ => by cases h.1
  | e :: es, [], h, _ => by cases h.1
  | e :: es, t :: ts, h, hm => .cons (dp_row (h.2 0 t _ rfl rfl) (hm e (List.mem_cons_self ..))) (itemsK_dp ⟨Nat.succ.inj h.1, fun j x kv h1 h2 => h.2 (j + 1) x kv h1 h2⟩ fun x hx => hm x (List.mem_cons_of_mem _ hx))
/-- the row of somebody, word by word -/
def rowEs (zs : List Str) (f : Str × Str → V) (a : Str) : List (Str × V) := (zs.filter fun b => a ≠ b).map fun b => (b, f (a, b))
theorem rowK_es (zs : List Str) (f : Str × Str → V) (a : Str) : rowK zs f a = rowD (rowEs zs f a) := by
  unfold rowK rowD rowEs
  rw [List.map_map]
  rfl
theorem mem_rowEs {zs : List Str} {f : Str × Str → V} {a : Str} {e : Str × V} (h : e ∈ rowEs zs f a) : e.1 ∈ zs ∧ e.1 ≠ a ∧ e.2 = f (a, e.1) := by
  unfold rowEs at h
  obtain ⟨b, hb, rfl⟩ := List.mem_map.mp h
  obtain ⟨h1, h2⟩ := List.mem_filter.mp hb
  exact ⟨h1, fun z => (of_decide_eq_true h2) z.symm, rfl⟩
theorem small_rowEs {zs : List Str} {m : Int} {f : Str × Str → V} (t : Told zs m f) {a : Str} (ha : a ∈ zs) : ∀ d ∈ (rowEs zs f a).map fun e => rowDat e.1 e.2, Small d := fun d hd => by
  obtain ⟨e, he, rfl⟩ := List.mem_map.mp hd
  obtain ⟨h1, h2, h3⟩ := mem_rowEs he
  rw [h3]
  exact small_row (t.mem _ h1) (t.marks _ (mem_pairsOf ha h1 h2.symm)) t.m10
end L2

set_option Elab.async false
set_option linter.all false
set_option maxRecDepth 100000
set_option maxHeartbeats 4000000
namespace K83
open PySem PySem.Spec PyProof.Rows L2
def topS (i : Nat) : Stmt := PySem.Challenge.pw_ownmarks_k83_whole_markers_left_out.main.body.getD i (.Pass ⟨0, 0, 0, 0⟩)
abbrev sIsInteger : Stmt := topS 11
theorem scIsInteger : FnScope ["value"] ["value"] (defScope sIsInteger) := ⟨rfl, rfl, rfl, by decide +kernel, rfl, by decide +kernel, by decide +kernel⟩
abbrev sIsIntegerWithin : Stmt := topS 12
theorem scIsIntegerWithin : FnScope ["value", "least", "most"] ["value", "least", "most"] (defScope sIsIntegerWithin) := ⟨rfl, rfl, rfl, by decide +kernel, rfl, by decide +kernel, by decide +kernel⟩
abbrev sNeedNumber : Stmt := topS 13
theorem scNeedNumber : FnScope ["number", "least", "most"] ["number", "least", "most"] (defScope sNeedNumber) := ⟨rfl, rfl, rfl, by decide +kernel, rfl, by decide +kernel, by decide +kernel⟩
abbrev sIsWord : Stmt := topS 14
theorem scIsWord : FnScope ["value", "sign"] ["value"] (defScope sIsWord) := ⟨rfl, rfl, rfl, by decide +kernel, rfl, by decide +kernel, by decide +kernel⟩
abbrev sBadCrowdInit : Stmt := inClass (topS 3) 0
theorem scBadCrowdInit : FnScope ["self", "part"] ["self", "part"] (defScope sBadCrowdInit) := ⟨rfl, rfl, rfl, by decide +kernel, rfl, by decide +kernel, by decide +kernel⟩
abbrev sArePeople : Stmt := topS 18
theorem scArePeople : FnScope ["value", "person"] ["value"] (defScope sArePeople) := ⟨rfl, rfl, rfl, by decide +kernel, rfl, by decide +kernel, by decide +kernel⟩
abbrev sCrowdInit : Stmt := inClass (topS 19) 0
theorem scCrowdInit : FnScope ["self", "people", "most"] ["self", "people", "most"] (defScope sCrowdInit) := ⟨rfl, rfl, rfl, by decide +kernel, rfl, by decide +kernel, by decide +kernel⟩
abbrev sCrowdPeople : Stmt := inClass (topS 19) 1
theorem scCrowdPeople : FnScope ["self"] ["self"] (defScope sCrowdPeople) := ⟨rfl, rfl, rfl, by decide +kernel, rfl, by decide +kernel, by decide +kernel⟩
abbrev sCrowdLen : Stmt := inClass (topS 19) 2
theorem scCrowdLen : FnScope ["self"] ["self"] (defScope sCrowdLen) := ⟨rfl, rfl, rfl, by decide +kernel, rfl, by decide +kernel, by decide +kernel⟩
abbrev sCrowdContains : Stmt := inClass (topS 19) 3
theorem scCrowdContains : FnScope ["self", "x"] ["self", "x"] (defScope sCrowdContains) := ⟨rfl, rfl, rfl, by decide +kernel, rfl, by decide +kernel, by decide +kernel⟩
abbrev sCrowdPairs : Stmt := inClass (topS 19) 7
theorem scCrowdPairs : FnScope ["self", "marker", "marked"] ["self"] (defScope sCrowdPairs) := ⟨rfl, rfl, rfl, by decide +kernel, rfl, by decide +kernel, by decide +kernel⟩
abbrev sCrowdIsPair : Stmt := inClass (topS 19) 8
theorem scCrowdIsPair : FnScope ["self", "value"] ["self", "value"] (defScope sCrowdIsPair) := ⟨rfl, rfl, rfl, by decide +kernel, rfl, by decide +kernel, by decide +kernel⟩
abbrev sNeedCrowd : Stmt := topS 20
theorem scNeedCrowd : FnScope ["crowd"] ["crowd"] (defScope sNeedCrowd) := ⟨rfl, rfl, rfl, by decide +kernel, rfl, by decide +kernel, by decide +kernel⟩
abbrev sIsMark : Stmt := topS 22
theorem scIsMark : FnScope ["crowd", "value"] ["crowd", "value"] (defScope sIsMark) := ⟨rfl, rfl, rfl, by decide +kernel, rfl, by decide +kernel, by decide +kernel⟩
abbrev sIsMarkOrNone : Stmt := topS 23
theorem scIsMarkOrNone : FnScope ["crowd", "value"] ["crowd", "value"] (defScope sIsMarkOrNone) := ⟨rfl, rfl, rfl, by decide +kernel, rfl, by decide +kernel, by decide +kernel⟩
abbrev sAreMarks : Stmt := topS 24
theorem scAreMarks : FnScope ["crowd", "value", "pair", "mark"] ["crowd", "value"] (defScope sAreMarks) := ⟨rfl, rfl, rfl, by decide +kernel, rfl, by decide +kernel, by decide +kernel⟩
abbrev sPageInit : Stmt := inClass (topS 25) 0
theorem scPageInit : FnScope ["self", "crowd", "marks", "pair"] ["self", "crowd", "marks"] (defScope sPageInit) := ⟨rfl, rfl, rfl, by decide +kernel, rfl, by decide +kernel, by decide +kernel⟩
abbrev sPageMarks : Stmt := inClass (topS 25) 1
theorem scPageMarks : FnScope ["self", "pair", "mark"] ["self"] (defScope sPageMarks) := ⟨rfl, rfl, rfl, by decide +kernel, rfl, by decide +kernel, by decide +kernel⟩
abbrev sNeedAnyPage : Stmt := topS 28
theorem scNeedAnyPage : FnScope ["page"] ["page"] (defScope sNeedAnyPage) := ⟨rfl, rfl, rfl, by decide +kernel, rfl, by decide +kernel, by decide +kernel⟩
abbrev sFoundClashes : Stmt := topS 29
theorem scFoundClashes : FnScope ["page", "spread", "people", "marks", "told", "at", "marker", "other", "marked", "mark", "more"] ["page", "spread"] (defScope sFoundClashes) := ⟨rfl, rfl, rfl, by decide +kernel, rfl, by decide +kernel, by decide +kernel⟩
abbrev sWithOneMore : Stmt := topS 30
theorem scWithOneMore : FnScope ["people", "lots", "told", "lot", "later", "person"] ["people", "lots"] (defScope sWithOneMore) := ⟨rfl, rfl, rfl, by decide +kernel, rfl, by decide +kernel, by decide +kernel⟩
abbrev sFoundLeast : Stmt := topS 31
theorem scFoundLeast : FnScope ["page", "spread", "people", "apart", "marker", "other", "_", "lots", "enough", "lot"] ["page", "spread"] (defScope sFoundLeast) := ⟨rfl, rfl, rfl, by decide +kernel, rfl, by decide +kernel, by decide +kernel⟩
abbrev sLeastLeftOut : Stmt := topS 32
theorem scLeastLeftOut : FnScope ["page", "spread"] ["page", "spread"] (defScope sLeastLeftOut) := ⟨rfl, rfl, rfl, by decide +kernel, rfl, by decide +kernel, by decide +kernel⟩
abbrev sAlwaysLeftOut : Stmt := topS 33
theorem scAlwaysLeftOut : FnScope ["page", "spread", "lots", "person", "lot"] ["page", "spread"] (defScope sAlwaysLeftOut) := ⟨rfl, rfl, rfl, by decide +kernel, rfl, by decide +kernel, by decide +kernel⟩
abbrev sNumbers : Stmt := topS 35
theorem scNumbers : FnScope ["_law_cell", "_law_salt", "_law_many", "_law_whole", "_law_left", "_law_result", "_law_k", "_law_one"] ["_law_cell", "_law_salt", "_law_many"] (defScope sNumbers) := ⟨rfl, rfl, rfl, by decide +kernel, rfl, by decide +kernel, by decide +kernel⟩
abbrev sOpened : Stmt := topS 36
theorem scOpened : FnScope ["_law_script", "_law_k", "_law_many", "_law_cell"] ["_law_script", "_law_k", "_law_many"] (defScope sOpened) := ⟨rfl, rfl, rfl, by decide +kernel, rfl, by decide +kernel, by decide +kernel⟩
abbrev sDraw : Stmt := topS 37
theorem scDraw : FnScope ["_law_pool", "_law_many", "_law_at"] ["_law_pool", "_law_many"] (defScope sDraw) := ⟨rfl, rfl, rfl, by decide +kernel, rfl, by decide +kernel, by decide +kernel⟩
abbrev sWords : Stmt := topS 38
theorem scWords : FnScope ["_law_pool", "_law_many"] ["_law_pool", "_law_many"] (defScope sWords) := ⟨rfl, rfl, rfl, by decide +kernel, rfl, by decide +kernel, by decide +kernel⟩
abbrev sPairs : Stmt := topS 39
theorem scPairs : FnScope ["_law_words_here", "_law_found", "_law_one", "_law_other"] ["_law_words_here"] (defScope sPairs) := ⟨rfl, rfl, rfl, by decide +kernel, rfl, by decide +kernel, by decide +kernel⟩
abbrev sMarks : Stmt := topS 40
theorem scMarks : FnScope ["_law_pool", "_law_game", "_law_missing", "_law_found", "_law_pair", "_law_is_none"] ["_law_pool", "_law_game", "_law_missing"] (defScope sMarks) := ⟨rfl, rfl, rfl, by decide +kernel, rfl, by decide +kernel, by decide +kernel⟩
abbrev sSets : Stmt := topS 41
theorem scSets : FnScope ["_law_words_here", "_law_found", "_law_word", "_law_one"] ["_law_words_here"] (defScope sSets) := ⟨rfl, rfl, rfl, by decide +kernel, rfl, by decide +kernel, by decide +kernel⟩
abbrev sIsEnough : Stmt := topS 42
theorem scIsEnough : FnScope ["_law_marks_here", "_law_words_here", "_law_spread", "_law_at", "_law_one", "_law_other", "_law_pair", "_law_first", "_law_last"] ["_law_marks_here", "_law_words_here", "_law_spread"] (defScope sIsEnough) := ⟨rfl, rfl, rfl, by decide +kernel, rfl, by decide +kernel, by decide +kernel⟩
abbrev sLaw : Stmt := topS 43
theorem scLaw : FnScope ["_law_script", "_law_k", "_law_pool", "_law_words_here", "_law_most", "_law_marks_here", "_law_page", "_law_spread", "_law_due", "_law_out", "_law_word", "_law_told", "_law_always"] ["_law_script"] (defScope sLaw) := ⟨rfl, rfl, rfl, by decide +kernel, rfl, by decide +kernel, by decide +kernel⟩
section
variable {P : Program} {w : World} {K : PySem.W.Frag} {mg : Str → Option Value} {base : Heap}
structure Bt (mg : Str → Option Value) : Prop where
  len : mg "len" = none
  max : mg "max" = none
  min : mg "min" = none
  int : mg "int" = none
  range : mg "range" = none
end
/-! ### the program: integers, words, people -/
structure Tx (mg : Str → Option Value) : Prop where
  isi : mg "isinstance" = none
  str : mg "str" = none
  bool : mg "bool" = none
  list : mg "list" = none
  tuple : mg "tuple" = none
  set : mg "set" = none
  all : mg "all" = none
  letters : ∃ t, mg "LETTERS" = some (.str letters t)
  longest : ∃ t, mg "LONGEST" = some (.int 8 t)
  mostP : ∃ t, mg "MOST_PEOPLE" = some (.int 8 t)
  greatest : ∃ t, mg "GREATEST_MARK" = some (.int 10 t)
section
variable {P : Program} {w : World} {K : PySem.W.Frag} {mg : Str → Option Value} {base : Heap}
theorem ok_isInteger {f : Addr} {fd : FuncData} (F : Fun K "is_integer" "is_integer" sIsInteger f fd) (B : Bt mg) (T : Tx mg) : FnOk P w K mg base CX0 1 f fd ["value"] (spIsInteger K) := by
  refine F.ok scIsInteger (fun vs H Q E h => ?_) (fun cdv A outer s H vs Q E hr h => ?_)
  · obtain ⟨v, T, rfl, _⟩ := h
    rfl
  · obtain ⟨v, N, rfl, ⟨ty, hk⟩, q⟩ := h
    refine ⟨_, pss_one (ps_ret (pe_and (pe_callB call_isi (by rfl) T.isi (by decide +kernel) (pa_cons (pv 0) (pa_cons (pe_bltn (v := .ty "int") (by rfl) B.int (by decide +kernel) rfl) pa_nil)))
      (pe_one (pe_not (pe_callB call_isi (by rfl) T.isi (by decide +kernel) (pa_cons (pv 0) (pa_cons (pe_bltn (v := .ty "bool") (by rfl) T.bool (by decide +kernel) rfl) pa_nil))))))), ?_⟩
    refine ⟨_, rfl, v, .ty "int", _, _, _, rfl, .ty "int", ty, kit_ty (kit_int hk), _, rfl, ite2 (fun c => ?_) (fun c => ?_)⟩
    · refine ⟨_, rfl, v, .ty "bool", _, _, _, rfl, .ty "bool", ty, kit_ty (kit_bool hk), _, rfl, ?_⟩
      have e : (!decide (N = "bool")) = decide (N = "int") := by
        by_cases h1 : N = "bool"
        · subst h1
          rfl
        · rw [decide_eq_false h1, Bool.or_false] at c
          rw [decide_eq_false h1, c]
          rfl
      rw [e]
      exact q
    · have e : decide (N = "int") = false := by
        cases h1 : decide (N = "int") with
        | false => rfl
        | true =>
          rw [h1] at c
          exact absurd rfl c
      rw [e] at q
      exact q
theorem ok_within {f fI : Addr} {fd fdI : FuncData} (F : Fun K "is_integer_within" "is_integer_within" sIsIntegerWithin f fd) (FI : Fun K "is_integer" "is_integer" sIsInteger fI fdI) (bI : Binds K fdI ["value"] []) (gI : mg "is_integer" = some (.ref fI)) (B : Bt mg) (T : Tx mg) :
    FnOk P w K mg base CX0 2 f fd ["value", "least", "most"] (spWithin K) := by
  have GI : FnOk P w K mg base CX0 1 fI fdI ["value"] (spIsInteger K) := ok_isInteger FI B T
  refine F.ok scIsIntegerWithin (fun vs H Q E h => ?_) (fun cdv A outer s H vs Q E hr h => ?_)
  · obtain ⟨v, lo, hi, rfl, _⟩ := h
    rfl
  · obtain ⟨v, lo, hi, rfl, ⟨N, ty⟩, q⟩ := h
    refine ⟨_, pss_one (ps_ret (pe_and (pe_call GI hr (by rfl) gI FI.kp bI .nil pass0 (pa_cons (pv 0) pa_nil)) (pe_one (pe_chain op_le op_le (pv 1) (pv 0) (pv 2))))), ?_⟩
    refine ⟨_, rfl, v, N, rfl, ty, _, rfl, ite2 (fun c => ?_) (fun c => ?_)⟩
    · have e : N = "int" := of_decide_eq_true c
      subst e
      obtain ⟨i, rfl⟩ := ty_int ty.1
      refine ⟨_, rfl, _, rfl, _, _, rfl, rfl, _, rfl, ite2 (fun c1 => ?_) (fun c1 => ?_)⟩
      · refine ⟨_, rfl, _, _, rfl, rfl, ?_⟩
        have e : markB lo hi (.int i) = decide (i ≤ hi) := by
          show (decide (lo ≤ i) && decide (i ≤ hi)) = _
          rw [show decide (lo ≤ i) = true from c1, Bool.true_and]
        rw [e] at q
        exact q
      · have e : markB lo hi (.int i) = false := by
          show (decide (lo ≤ i) && decide (i ≤ hi)) = _
          rw [show decide (lo ≤ i) = false from Bool.eq_false_iff.mpr c1, Bool.false_and]
        rw [e] at q
        exact q
    · have e : markB lo hi v = false := by
        cases v with
        | int i => exact absurd (decide_eq_true (int_ty ty.1)) c
        | _ => rfl
      rw [e] at q
      exact q
theorem ok_isWord {f : Addr} {fd : FuncData} (F : Fun K "is_word" "is_word" sIsWord f fd) (B : Bt mg) (T : Tx mg) : FnOk P w K mg base CX0 1 f fd ["value"] (spIsWord K) := by
  obtain ⟨t1, g1⟩ := T.letters
  obtain ⟨t2, g2⟩ := T.longest
  refine F.ok scIsWord (fun vs H Q E h => ?_) (fun cdv A outer s H vs Q E hr h => ?_)
  · obtain ⟨v, rfl, _⟩ := h
    rfl
  · obtain ⟨v, rfl, ⟨⟨N, ty, hk⟩, hz⟩, q⟩ := h
    refine ⟨_, pss_cons (ps_if (PW.pt (pw_or (pt_not (pt_val (pe_callB call_isi (by rfl) T.isi (by decide +kernel) (pa_cons (pv 0) (pa_cons (pe_bltn (v := .ty "str") (by rfl) T.str (by decide +kernel) rfl) pa_nil)))))
        (pw_or1 (pt_not (pt_chain op_le op_le pe_int (pe_callB call_len (by rfl) B.len PySem.boot_len (pa_cons (pv 0) pa_nil)) (pe_glob (v := .int 8) (by rfl) g2 ⟨_, rfl⟩)))))) (pss_one (ps_ret pe_bl)) pss_nil)
      (pss_one (ps_ret (pe_callB (cr_all rfl) (by rfl) T.all (by decide +kernel) (pa_cons (pe_lc (own := [("sign", 1)]) (g := gName 1) (by rfl) scIsWord.nd (pi_str (pv 0)) (blkOk_by (own := [("sign", 1)]) (N := ["value", "sign"]) (sc := defScope sIsWord) (by decide +kernel))
        (fun _ _ _ _ _ => pg_name (i := 1) scIsWord.nd rfl (Or.inl rfl)) (fun _ _ _ _ _ => pts_nil) (fun _ _ _ _ _ => pe_cmpR op_in_sign (pv 1) (pe_glob (v := .str letters) (by rfl) g1 ⟨_, rfl⟩) (by rfl))) pa_nil)))), ?_⟩
    refine ⟨_, rfl, v, .ty "str", _, _, _, rfl, .ty "str", ty, kit_ty (kit_str hk), _, rfl, ?_⟩
    by_cases hs : N = "str"
    · subst hs
      obtain ⟨z, rfl⟩ := ty_str ty
      have hl := hz z rfl
      refine iteF ?_
      refine ⟨_, rfl, _, z.length, rfl, ⟨Nat.le_trans hl (by decide), rfl⟩, _, _, rfl, rfl, _, rfl, ite2 (fun c1 => ?_) (fun c1 => ?_)⟩
      · have h1 : 1 ≤ z.length := by
          have := of_decide_eq_true c1
          omega
        refine ⟨_, _, rfl, rfl, _, rfl, ?_⟩
        by_cases h2 : z.length ≤ 8
        · have h2' : decide (((z.length : Nat) : Int) ≤ 8) = true := decide_eq_true (by omega)
          rw [h2']
          refine iteF ?_
          refine ⟨_, rfl, z, rfl, fun D nD => ?_⟩
          refine lc_map (ys := (z.cps.toList.map fun c => decide (c ∈ letters.cps.toList)).map V.bl) walk_kmSigns (by unfold kmSigns; simp) ?_ nD (fun _ _ => trivial) (fun _ => rfl) (fun i x y H1 Q1 hx hy s1 k => ?_) (fun H1 s1 hD => ?_)
          · have : (kmSigns z).length = z.length := by
              unfold kmSigns
              rw [List.length_map, Array.length_toList]
              rfl
            rw [this]
            exact small1000 hl
          · unfold kmSigns at hx
            rw [List.getElem?_map] at hx hy
            rw [List.getElem?_map] at hy
            cases hc : z.cps.toList[i]? with
            | none =>
              rw [hc] at hx
              cases hx
            | some c =>
              rw [hc] at hx hy
              obtain rfl := Option.some.inj hx
              obtain rfl := Option.some.inj hy
              exact ⟨_, rfl, c, letters, rfl, rfl, k H1 (Same.refl H1)⟩
          · refine ⟨D, _, rfl, SqL.of hD, ?_⟩
            have e : isW (.str z) = (z.cps.toList.map fun c => decide (c ∈ letters.cps.toList)).all id := by
              show ((decide (1 ≤ z.length) && decide (z.length ≤ 8)) && _) = _
              rw [decide_eq_true h1, decide_eq_true h2, Bool.true_and, Bool.true_and, List.all_map]
              rfl
            rw [← e]
            exact q H1 s1
        · have h2' : decide (((z.length : Nat) : Int) ≤ 8) = false := decide_eq_false (by omega)
          rw [h2']
          refine iteT ?_
          have e : isW (.str z) = false := by
            show ((decide (1 ≤ z.length) && decide (z.length ≤ 8)) && _) = false
            rw [decide_eq_false h2, Bool.and_false, Bool.false_and]
          rw [e] at q
          exact q H (Same.refl H)
      · have h1 : ¬ 1 ≤ z.length := fun h => c1 (decide_eq_true (by omega))
        refine ⟨_, rfl, iteT ?_⟩
        have e : isW (.str z) = false := by
          show ((decide (1 ≤ z.length) && decide (z.length ≤ 8)) && _) = false
          rw [decide_eq_false h1, Bool.false_and, Bool.false_and]
        rw [e] at q
        exact q H (Same.refl H)
    · have e : decide (N = "str") = false := decide_eq_false hs
      rw [e]
      refine iteT (iteT ?_)
      have e2 : isW v = false := by
        cases v with
        | str z => exact absurd (str_ty ty) hs
        | _ => rfl
      rw [e2] at q
      exact q H (Same.refl H)
end

section
variable {P : Program} {w : World} {K : PySem.W.Frag} {mg : Str → Option Value} {base : Heap}
/-- the law of a list's or a tuple's items, given how it is walked and measured -/
theorem ok_arePeople {f fW : Addr} {fd fdW : FuncData} (F : Fun K "are_people" "are_people" sArePeople f fd) (FW : Fun K "is_word" "is_word" sIsWord fW fdW) (bW : Binds K fdW ["value"] []) (gW : mg "is_word" = some (.ref fW)) (B : Bt mg) (T : Tx mg) :
    FnOk P w K mg base CX0 2 f fd ["value"] (spArePeople K) := by
  have GW : FnOk P w K mg base CX0 1 fW fdW ["value"] (spIsWord K) := ok_isWord FW B T
  obtain ⟨t1, g1⟩ := T.mostP
  refine F.ok scArePeople (fun vs H Q E h => ?_) (fun cdv A outer s H vs Q E hr h => ?_)
  · obtain ⟨v, b, xs, rfl, _⟩ := h
    rfl
  · obtain ⟨v, b, xs, rfl, ha, q⟩ := h
    cases ha with
    | @no _ N t h1 h2 =>
      refine ⟨_, pss_cons (ps_if (PW.pt (pw_or (pt_not (pt_val (pe_callB call_isiT (by rfl) T.isi (by decide +kernel) (pa_cons (pv 0) (pa_cons (pe_tup (pa_cons (pe_bltn (v := .ty "list") (by rfl) T.list (by decide +kernel) rfl) (pa_cons (pe_bltn (v := .ty "tuple") (by rfl) T.tuple (by decide +kernel) rfl) pa_nil))) pa_nil)))))
          (pw_or1 (pt_not (pt_chain op_le op_le pe_int (pe_callB call_len_seq (by rfl) B.len PySem.boot_len (pa_cons (pv 0) pa_nil)) (pe_glob (v := .int 8) (by rfl) g1 ⟨_, rfl⟩)))))) (pss_one (ps_ret pe_bl)) pss_nil)
        (pss_one ps_never), ?_⟩
      refine ⟨_, rfl, (by show 2 ≤ sizeLine; decide), fun p np => ?_⟩
      refine ⟨v, p, _, _, _, _, rfl, upd_same, .cons (.ty "list") (.cons (.ty "tuple") .nil), TyX.same (same_new np) t.1, kit_listTuple t.2, _, rfl, ?_⟩
      rw [decide_eq_false h1, decide_eq_false h2]
      exact iteT (iteT (q _ (same_new np)))
    | @lst a _ e hx hl =>
      refine ⟨_, pss_cons (ps_if (PW.pt (pw_or (pt_not (pt_val (pe_callB call_isiT (by rfl) T.isi (by decide +kernel) (pa_cons (pv 0) (pa_cons (pe_tup (pa_cons (pe_bltn (v := .ty "list") (by rfl) T.list (by decide +kernel) rfl) (pa_cons (pe_bltn (v := .ty "tuple") (by rfl) T.tuple (by decide +kernel) rfl) pa_nil))) pa_nil)))))
          (pw_or1 (pt_not (pt_chain op_le op_le pe_int (pe_callB call_len_seq (by rfl) B.len PySem.boot_len (pa_cons (pv 0) pa_nil)) (pe_glob (v := .int 8) (by rfl) g1 ⟨_, rfl⟩)))))) (pss_one (ps_ret pe_bl)) pss_nil)
        (pss_one (ps_ret (pe_and (pe_callB (cr_all rfl) (by rfl) T.all (by decide +kernel) (pa_cons (pe_lc (own := [("person", 1)]) (g := gName 1) (by rfl) scArePeople.nd (pi_list (pv 0)) (blkOk_by (own := [("person", 1)]) (N := ["value", "person"]) (sc := defScope sArePeople) (by decide +kernel))
            (fun _ _ _ _ _ => pg_name (i := 1) scArePeople.nd rfl (Or.inl rfl)) (fun _ _ _ _ _ => pts_nil) (fun _ _ _ _ _ => pe_call GW (by exact hr) (by rfl) gW FW.kp bW .nil pass0 (pa_cons (pv 1) pa_nil))) pa_nil))
          (pe_one (pe_cmpR op_eq (pe_callB cr_lenK (by rfl) B.len PySem.boot_len (pa_cons (pe_callTy (cr_setK rfl) (by rfl) T.set (by decide +kernel) (pa_cons (pv 0) pa_nil)) pa_nil)) (pe_callB call_len_seq (by rfl) B.len PySem.boot_len (pa_cons (pv 0) pa_nil)) (nomark _)))))), ?_⟩
      refine ⟨_, rfl, (by show 2 ≤ sizeLine; decide), fun p np => ?_⟩
      refine ⟨_, p, _, _, _, _, rfl, upd_same, .cons (.ty "list") (.cons (.ty "tuple") .nil), .base (.lst (same_new np _ _ e)), kit_listTuple (by decide), _, rfl, ?_⟩
      refine iteF ?_
      generalize e1 : upd H p _ = H1
      have s1 : Same H H1 := e1 ▸ same_new np
      have ha1 := s1 _ _ e
      refine ⟨_, rfl, a, xs, rfl, .inl (SqL.of ha1), _, _, rfl, rfl, _, rfl, ite2 (fun c1 => ?_) (fun c1 => ?_)⟩
      · have h1 : 1 ≤ xs.length := by
          have := of_decide_eq_true c1
          omega
        refine ⟨_, _, rfl, rfl, _, rfl, ?_⟩
        by_cases h2 : xs.length ≤ 8
        · rw [show decide (((xs.length : Nat) : Int) ≤ 8) = true from decide_eq_true (by omega)]
          refine iteF ?_
          refine ⟨_, rfl, a, rfl, ⟨xs, SqL.of ha1⟩, fun D nD => ?_⟩
          refine lc_map (ys := (xs.map isW).map V.bl) (w := walk_list (K := K) (a := a) (xs := xs)) (by simp) (small1000 hl) nD (fun H2 s2 => SqL.of (s2 _ _ ha1)) (fun _ => rfl) (fun i x y H2 Q2 hxi hyi s2 k => ?_) (fun H2 s2 hD => ?_)
          · rw [List.getElem?_map, List.getElem?_map, hxi] at hyi
            obtain rfl := Option.some.inj hyi
            exact ⟨_, rfl, x, rfl, (hx x (List.mem_of_getElem? hxi)).same (s1.trans s2), fun H3 s3 => k H3 s3⟩
          · refine ⟨D, xs.map isW, rfl, SqL.of hD, _, rfl, ite2 (fun c2 => ?_) (fun c2 => ?_)⟩
            · have c3 : xs.all isW = true := by
                rw [List.all_map] at c2
                exact c2
              obtain ⟨zs, rfl⟩ := strs_of_isW c3
              refine ⟨_, rfl, a, zs.map Sum.inr, rfl, .inl (by rw [← keys_of_strs]; exact SqL.of (s2 _ _ ha1)), (by rw [List.length_map] at hl ⊢; exact hl), fun r nr => ?_⟩
              refine ⟨r, _, _, rfl, upd_same, ?_, _, rfl, a, _, rfl, .inl (SqL.of (same_new nr _ _ (s2 _ _ ha1))), rfl, ?_⟩
              · have := Km.uniq_le (zs.map (Sum.inr : Str → Key))
                rw [List.length_map] at this hl
                omega
              · rw [uniq_strs]
                have e2 : peopleB (zs.map V.str) = decide (zs.map V.str).Nodup := by
                  show ((decide (1 ≤ (zs.map V.str).length) && decide ((zs.map V.str).length ≤ 8)) && ((zs.map V.str).all isW && _)) = _
                  rw [decide_eq_true h1, decide_eq_true h2, c3, Bool.true_and, Bool.true_and, Bool.true_and]
                rw [← e2]
                exact q _ ((s1.trans s2).trans (same_new nr))
            · have e2 : peopleB xs = false := by
                show ((decide (1 ≤ xs.length) && decide (xs.length ≤ 8)) && (xs.all isW && _)) = _
                have : xs.all isW = false := by
                  cases z : xs.all isW with
                  | false => rfl
                  | true =>
                    refine absurd ?_ c2
                    rw [List.all_map]
                    exact z
                rw [this, Bool.false_and, Bool.and_false]
              rw [e2] at q
              exact q H2 (s1.trans s2)
        · rw [show decide (((xs.length : Nat) : Int) ≤ 8) = false from decide_eq_false (by omega)]
          refine iteT ?_
          have e2 : peopleB xs = false := by
            show ((decide (1 ≤ xs.length) && decide (xs.length ≤ 8)) && _) = false
            rw [decide_eq_false h2, Bool.and_false, Bool.false_and]
          rw [e2] at q
          exact q H1 s1
      · have h1 : ¬ 1 ≤ xs.length := fun h => c1 (decide_eq_true (by omega))
        refine ⟨_, rfl, iteT ?_⟩
        have e2 : peopleB xs = false := by
          show ((decide (1 ≤ xs.length) && decide (xs.length ≤ 8)) && _) = false
          rw [decide_eq_false h1, Bool.false_and, Bool.false_and]
        rw [e2] at q
        exact q H1 s1
    | @tup a _ e hx hl =>
      refine ⟨_, pss_cons (ps_if (PW.pt (pw_or (pt_not (pt_val (pe_callB call_isiT (by rfl) T.isi (by decide +kernel) (pa_cons (pv 0) (pa_cons (pe_tup (pa_cons (pe_bltn (v := .ty "list") (by rfl) T.list (by decide +kernel) rfl) (pa_cons (pe_bltn (v := .ty "tuple") (by rfl) T.tuple (by decide +kernel) rfl) pa_nil))) pa_nil)))))
          (pw_or1 (pt_not (pt_chain op_le op_le pe_int (pe_callB call_len_seq (by rfl) B.len PySem.boot_len (pa_cons (pv 0) pa_nil)) (pe_glob (v := .int 8) (by rfl) g1 ⟨_, rfl⟩)))))) (pss_one (ps_ret pe_bl)) pss_nil)
        (pss_one (ps_ret (pe_and (pe_callB (cr_all rfl) (by rfl) T.all (by decide +kernel) (pa_cons (pe_lc (own := [("person", 1)]) (g := gName 1) (by rfl) scArePeople.nd (pi_tup (pv 0)) (blkOk_by (own := [("person", 1)]) (N := ["value", "person"]) (sc := defScope sArePeople) (by decide +kernel))
            (fun _ _ _ _ _ => pg_name (i := 1) scArePeople.nd rfl (Or.inl rfl)) (fun _ _ _ _ _ => pts_nil) (fun _ _ _ _ _ => pe_call GW (by exact hr) (by rfl) gW FW.kp bW .nil pass0 (pa_cons (pv 1) pa_nil))) pa_nil))
          (pe_one (pe_cmpR op_eq (pe_callB cr_lenK (by rfl) B.len PySem.boot_len (pa_cons (pe_callTy (cr_setK rfl) (by rfl) T.set (by decide +kernel) (pa_cons (pv 0) pa_nil)) pa_nil)) (pe_callB call_len_seq (by rfl) B.len PySem.boot_len (pa_cons (pv 0) pa_nil)) (nomark _)))))), ?_⟩
      refine ⟨_, rfl, (by show 2 ≤ sizeLine; decide), fun p np => ?_⟩
      refine ⟨_, p, _, _, _, _, rfl, upd_same, .cons (.ty "list") (.cons (.ty "tuple") .nil), .base (.tup (same_new np _ _ e)), kit_listTuple (by decide), _, rfl, ?_⟩
      refine iteF ?_
      generalize e1 : upd H p _ = H1
      have s1 : Same H H1 := e1 ▸ same_new np
      have ha1 := s1 _ _ e
      refine ⟨_, rfl, a, xs, rfl, .inr (SqT.of ha1), _, _, rfl, rfl, _, rfl, ite2 (fun c1 => ?_) (fun c1 => ?_)⟩
      · have h1 : 1 ≤ xs.length := by
          have := of_decide_eq_true c1
          omega
        refine ⟨_, _, rfl, rfl, _, rfl, ?_⟩
        by_cases h2 : xs.length ≤ 8
        · rw [show decide (((xs.length : Nat) : Int) ≤ 8) = true from decide_eq_true (by omega)]
          refine iteF ?_
          refine ⟨_, rfl, a, rfl, ⟨xs, SqT.of ha1⟩, fun D nD => ?_⟩
          refine lc_map (ys := (xs.map isW).map V.bl) (w := walk_tup (K := K) (a := a) (xs := xs)) (by simp) (small1000 hl) nD (fun H2 s2 => SqT.of (s2 _ _ ha1)) (fun _ => rfl) (fun i x y H2 Q2 hxi hyi s2 k => ?_) (fun H2 s2 hD => ?_)
          · rw [List.getElem?_map, List.getElem?_map, hxi] at hyi
            obtain rfl := Option.some.inj hyi
            exact ⟨_, rfl, x, rfl, (hx x (List.mem_of_getElem? hxi)).same (s1.trans s2), fun H3 s3 => k H3 s3⟩
          · refine ⟨D, xs.map isW, rfl, SqL.of hD, _, rfl, ite2 (fun c2 => ?_) (fun c2 => ?_)⟩
            · have c3 : xs.all isW = true := by
                rw [List.all_map] at c2
                exact c2
              obtain ⟨zs, rfl⟩ := strs_of_isW c3
              refine ⟨_, rfl, a, zs.map Sum.inr, rfl, .inr (by rw [← keys_of_strs]; exact SqT.of (s2 _ _ ha1)), (by rw [List.length_map] at hl ⊢; exact hl), fun r nr => ?_⟩
              refine ⟨r, _, _, rfl, upd_same, ?_, _, rfl, a, _, rfl, .inr (SqT.of (same_new nr _ _ (s2 _ _ ha1))), rfl, ?_⟩
              · have := Km.uniq_le (zs.map (Sum.inr : Str → Key))
                rw [List.length_map] at this hl
                omega
              · rw [uniq_strs]
                have e2 : peopleB (zs.map V.str) = decide (zs.map V.str).Nodup := by
                  show ((decide (1 ≤ (zs.map V.str).length) && decide ((zs.map V.str).length ≤ 8)) && ((zs.map V.str).all isW && _)) = _
                  rw [decide_eq_true h1, decide_eq_true h2, c3, Bool.true_and, Bool.true_and, Bool.true_and]
                rw [← e2]
                exact q _ ((s1.trans s2).trans (same_new nr))
            · have e2 : peopleB xs = false := by
                show ((decide (1 ≤ xs.length) && decide (xs.length ≤ 8)) && (xs.all isW && _)) = _
                have : xs.all isW = false := by
                  cases z : xs.all isW with
                  | false => rfl
                  | true =>
                    refine absurd ?_ c2
                    rw [List.all_map]
                    exact z
                rw [this, Bool.false_and, Bool.and_false]
              rw [e2] at q
              exact q H2 (s1.trans s2)
        · rw [show decide (((xs.length : Nat) : Int) ≤ 8) = false from decide_eq_false (by omega)]
          refine iteT ?_
          have e2 : peopleB xs = false := by
            show ((decide (1 ≤ xs.length) && decide (xs.length ≤ 8)) && _) = false
            rw [decide_eq_false h2, Bool.and_false, Bool.false_and]
          rw [e2] at q
          exact q H1 s1
      · have h1 : ¬ 1 ≤ xs.length := fun h => c1 (decide_eq_true (by omega))
        refine ⟨_, rfl, iteT ?_⟩
        have e2 : peopleB xs = false := by
          show ((decide (1 ≤ xs.length) && decide (xs.length ≤ 8)) && _) = false
          rw [decide_eq_false h1, Bool.false_and, Bool.false_and]
        rw [e2] at q
        exact q H1 s1
end

section
variable {P : Program} {w : World} {K : PySem.W.Frag} {mg : Str → Option Value} {base : Heap}
theorem ok_badCrowdInit {f C : Addr} {fd : FuncData} (F : Fun K "__init__" "BadCrowd.__init__" sBadCrowdInit f fd) : FnOk P w K mg base CX0 1 f fd ["self", "part"] (spErrInit K C "part") := by
  refine F.ok scBadCrowdInit (fun vs H Q E h => ?_) (fun cdv A outer s H vs Q E hr h => ?_)
  · obtain ⟨a, v, rfl, _⟩ := h
    rfl
  · obtain ⟨a, v, rfl, ox, nf, ha, q⟩ := h
    refine ⟨_, pss_one (ps_ost (f := "part") (pv 0) (pv 1)), ?_⟩
    exact ⟨_, rfl, _, rfl, a, C, rfl, ox, nf, .inl ⟨ha, fun d nd ne => q d nd ne⟩⟩
end
section
variable {P : Program} {w : World} {K : PySem.W.Frag} {mg : Str → Option Value} {base : Heap}
theorem ok_crowdNew {f fA fN fB C CB : Addr} {fd fdA fdN fdB : FuncData} (F : Fun K "__init__" "Crowd.__init__" sCrowdInit f fd)
    (GA : FnOk P w K mg base CX0 2 fA fdA ["value"] (spArePeople K)) (kA : PySem.W.keepIn K (.ref fA) = true) (bA : Binds K fdA ["value"] []) (gA : mg "are_people" = some (.ref fA))
    (GN : FnOk P w K mg base CX0 2 fN fdN ["value", "least", "most"] (spWithin K)) (kN : PySem.W.keepIn K (.ref fN) = true) (bN : Binds K fdN ["value", "least", "most"] []) (gN : mg "is_integer_within" = some (.ref fN))
    (GB : FnOk P w K mg base CX0 1 fB fdB ["self", "part"] (spErrInit K CB "part")) (bB : Binds K fdB ["self", "part"] []) (iB : PySem.W.findIn K (.ref CB) "__init__" = some (some (.ref fB))) (tB : PySem.W.typeIn K (.ref fB) = some (.type "function"))
    (EB : Er K mg "BadCrowd" CB) (nf : PySem.W.findIn K (.ref CB) "part" = some none) (cl : Cls K C) (n1 : NoAttr K C "_people") (n2 : NoAttr K C "most") (T : Tx mg) :
    FnOk P w K mg base (L2.CX P w) 3 f fd ["self", "people", "most"] (spCrowdNew K C CB) := by
  obtain ⟨t1, g1⟩ := T.greatest
  refine F.okX scCrowdInit (fun vs H Q E h => ?_) (fun cdv A outer s H vs Q E hr h => ?_)
  · obtain ⟨x, dx, v, m, b, xs, rfl, _⟩ := h
    rfl
  · obtain ⟨x, dx, v, m, b, xs, rfl, hx, ha, ⟨N, tm⟩, qp, qm, q⟩ := h
    refine ⟨_, pss_cons (ps_if (pt_not (pt_val (pe_call GA hr (by rfl) gA kA bA .nil pass0 (pa_cons (pv 1) pa_nil)))) (pss_one (ps_raise rfl (takes_of rfl rfl rfl rfl) (pmk_oex EB.ox iB tB GB hr bB .nil pass0 (by rfl) EB.g (pa_cons pe_str pa_nil)))) pss_nil)
      (pss_cons (ps_if (pt_not (pt_val (pe_call GN hr (by rfl) gN kN bN .nil pass0 (pa_cons (pv 2) (pa_cons pe_int (pa_cons (pe_glob (v := .int 10) (by rfl) g1 ⟨_, rfl⟩) pa_nil)))))) (pss_one (ps_raise rfl (takes_of rfl rfl rfl rfl) (pmk_oex EB.ox iB tB GB hr bB .nil pass0 (by rfl) EB.g (pa_cons pe_str pa_nil)))) pss_nil)
      (pss_cons (ps_fld (pv 0) (pe_callTy call_list_of (by rfl) T.list (by decide +kernel) (pa_cons (pv 1) pa_nil)) rfl)
      (pss_one (ps_fld (pv 0) (pv 2) rfl)))), ?_⟩
    refine ⟨_, rfl, v, b, xs, rfl, ha, fun H1 s1 => ⟨b, rfl, ?_⟩⟩
    cases b with
    | false =>
      refine iteT ⟨(by show 1 ≤ 1000; decide), fun a na => ⟨a, _, rfl, EB.ox, nf, upd_same, fun d nd nda => ?_⟩⟩
      have nd1 : H1 d = none := by
        rw [upd_ne nda] at nd
        exact nd
      refine ⟨rfl, d, _, upd_same, by rw [upd_ne nda, upd_same], nd1, ?_⟩
      obtain ⟨r1, r2, r3⟩ := raised_mk (C := CB) (f := "part") (v := V.str "people") na nd1 nda
      exact qp rfl _ d ⟨s1.trans r1, s1.free r2, r3⟩
    | true =>
      refine iteF ?_
      refine ⟨_, rfl, m, 1, 10, rfl, ⟨N, tm.same s1⟩, _, rfl, ?_⟩
      cases hm : markB 1 10 m with
      | false =>
        refine iteT ⟨(by show 1 ≤ 1000; decide), fun a na => ⟨a, _, rfl, EB.ox, nf, upd_same, fun d nd nda => ?_⟩⟩
        have nd1 : H1 d = none := by
          rw [upd_ne nda] at nd
          exact nd
        refine ⟨rfl, d, _, upd_same, by rw [upd_ne nda, upd_same], nd1, ?_⟩
        obtain ⟨r1, r2, r3⟩ := raised_mk (C := CB) (f := "part") (v := V.str "most") na nd1 nda
        exact qm rfl hm _ d ⟨s1.trans r1, s1.free r2, r3⟩
      | true =>
        refine iteF ?_
        obtain ⟨i, rfl⟩ : ∃ i, m = .int i := by
          cases m with
          | int i => exact ⟨i, rfl⟩
          | _ => cases hm
        obtain ⟨l, rfl, hl⟩ := (ha.same s1).seq rfl
        refine ⟨_, rfl, l, xs, rfl, hl, fun p np => ?_⟩
        generalize e2 : upd H1 p _ = H2
        have s2 : Same H1 H2 := e2 ▸ same_new np
        have hp : H2 p = some (.lst xs) := e2 ▸ upd_same
        have hx2 := s2 _ _ (s1 _ _ hx)
        have npx : p ≠ x := ne_of hp hx2 (by intro z; cases z)
        refine ⟨_, rfl, x, C, dx, [], rfl, hx2, cl, n1, (by show 0 < 1000; decide), ?_⟩
        refine ⟨_, rfl, _, rfl, x, C, dx, _, rfl, upd_same, cl, n2, (by show 1 < 1000; decide), ?_⟩
        refine q rfl i rfl hm _ dx p ?_ (s1.free np) (by rw [upd_same, putF_new, crowd_put]) (by rw [upd_ne npx, upd_ne npx]; exact hp)
        exact ((But.of_same (s1.trans s2)).trans But.upd).trans But.upd
end
/-! ### a crowd's methods -/
section
variable {P : Program} {w : World} {K : PySem.W.Frag} {mg : Str → Option Value} {base : Heap} {C CN : Addr}
theorem ok_crowdPeople {f : Addr} {fd : FuncData} (F : Fun K "people" "Crowd.people" sCrowdPeople f fd) (cl : Cls K C) (n1 : NoAttr K C "_people") (T : Tx mg) : FnOk P w K mg base CX0 1 f fd ["self"] (spCrowdPeople C) := by
  refine F.ok scCrowdPeople (fun vs H Q E h => ?_) (fun cdv A outer s H vs Q E hr h => ?_)
  · obtain ⟨x, zs, m, rfl, _⟩ := h
    rfl
  · obtain ⟨x, zs, m, rfl, ⟨dx, l, hx, hl⟩, len, q⟩ := h
    refine ⟨_, pss_one (ps_ret (pe_callTy call_list_of (by rfl) T.list (by decide +kernel) (pa_cons (pe_fld (pv 0) rfl) pa_nil))), ?_⟩
    exact ⟨_, rfl, x, C, dx, _, _, rfl, hx, cl, n1, rfl, l, _, rfl, .inl (SqL.of hl), fun p np => q _ p (same_new np) np upd_same⟩
theorem ok_crowdLen {f : Addr} {fd : FuncData} (F : Fun K "__len__" "Crowd.__len__" sCrowdLen f fd) (cl : Cls K C) (n1 : NoAttr K C "_people") (B : Bt mg) : FnOk P w K mg base CX0 1 f fd ["self"] (spCrowdLen C) := by
  refine F.ok scCrowdLen (fun vs H Q E h => ?_) (fun cdv A outer s H vs Q E hr h => ?_)
  · obtain ⟨x, zs, m, rfl, _⟩ := h
    rfl
  · obtain ⟨x, zs, m, rfl, ⟨dx, l, hx, hl⟩, q⟩ := h
    refine ⟨_, pss_one (ps_ret (pe_callB call_len_seq (by rfl) B.len PySem.boot_len (pa_cons (pe_fld (pv 0) rfl) pa_nil))), ?_⟩
    refine ⟨_, rfl, x, C, dx, _, _, rfl, hx, cl, n1, rfl, l, _, rfl, .inl (SqL.of hl), ?_⟩
    rw [List.length_map]
    exact q
theorem ok_crowdHas {f : Addr} {fd : FuncData} (F : Fun K "__contains__" "Crowd.__contains__" sCrowdContains f fd) (cl : Cls K C) (n1 : NoAttr K C "_people") (T : Tx mg) : FnOk P w K mg base CX0 1 f fd ["self", "x"] (spCrowdHas K C) := by
  refine F.ok scCrowdContains (fun vs H Q E h => ?_) (fun cdv A outer s H vs Q E hr h => ?_)
  · obtain ⟨x, v, zs, m, N, rfl, _⟩ := h
    rfl
  · obtain ⟨x, v, zs, m, N, rfl, ⟨dx, l, hx, hl⟩, ⟨ty, hk⟩, q⟩ := h
    refine ⟨_, pss_one (ps_ret (pe_and (pe_callB call_isi (by rfl) T.isi (by decide +kernel) (pa_cons (pv 1) (pa_cons (pe_bltn (v := .ty "str") (by rfl) T.str (by decide +kernel) rfl) pa_nil)))
      (pe_one (pe_cmpR op_in_seq (pv 1) (pe_fld (pv 0) rfl) (by rfl))))), ?_⟩
    refine ⟨_, rfl, v, .ty "str", _, _, _, rfl, .ty "str", ty, kit_ty (kit_str hk), _, rfl, ite2 (fun c => ?_) (fun c => ?_)⟩
    · obtain ⟨z, rfl⟩ := ty_str' ty (by rw [of_decide_eq_true c])
      refine ⟨_, rfl, _, rfl, x, C, dx, _, _, rfl, hx, cl, n1, rfl, l, _, rfl, .inl (SqL.of hl), rfl, all_flat_strs zs, ?_⟩
      show Q (.bl (inV _ _)) H
      rw [inV_strs]
      exact q
    · have e : hasB v zs = false := by
        cases v with
        | str z =>
          cases ty with
          | base b => cases b; exact absurd (decide_eq_true rfl) c
        | _ => rfl
      rw [e] at q
      exact q
theorem ok_crowdIsPair {f fH : Addr} {fd fdH : FuncData} (F : Fun K "is_pair" "Crowd.is_pair" sCrowdIsPair f fd) (GH : FnOk P w K mg base CX0 1 fH fdH ["self", "x"] (spCrowdHas K C)) (hs : PySem.W.findIn K (.ref C) "__contains__" = some (some (.ref fH)))
    (hf : PySem.W.isFn K (.ref fH) = true) (bH : Binds K fdH ["self", "x"] []) (B : Bt mg) (T : Tx mg) : FnOk P w K mg base CX0 2 f fd ["self", "value"] (spIsPair K C) := by
  refine F.ok scCrowdIsPair (fun vs H Q E h => ?_) (fun cdv A outer s H vs Q E hr h => ?_)
  · obtain ⟨x, v, zs, m, b, rfl, _⟩ := h
    rfl
  · obtain ⟨x, v, zs, m, b, rfl, hc, pa, q⟩ := h
    obtain ⟨dx, l, hx, hl⟩ := id hc
    refine ⟨_, pss_cons (ps_if (PW.pt (pw_or (pt_not (pt_val (pe_callB call_isi (by rfl) T.isi (by decide +kernel) (pa_cons (pv 1) (pa_cons (pe_bltn (v := .ty "tuple") (by rfl) T.tuple (by decide +kernel) rfl) pa_nil)))))
        (pw_or1 (pt_cmpR op_ne (pe_callB call_len_seq (by rfl) B.len PySem.boot_len (pa_cons (pv 1) pa_nil)) pe_int (nomark _))))) (pss_one (ps_ret pe_bl)) pss_nil)
      (pss_one (ps_ret (pe_and (pe_cmpR (op_inOwn (E := fun _ _ _ => False) hs hf GH hr bH pass0) (pe_ix ix_tup (pv 1) pe_int (fun _ _ => rfl)) (pv 0) (by rfl))
        (pe_and (pe_cmpR (op_inOwn (E := fun _ _ _ => False) hs hf GH hr bH pass0) (pe_ix ix_tup (pv 1) pe_int (fun _ _ => rfl)) (pv 0) (by rfl)) (pe_one (pe_cmpR op_ne (pe_ix ix_tup (pv 1) pe_int (fun _ _ => rfl)) (pe_ix ix_tup (pv 1) pe_int (fun _ _ => rfl)) (nomark _))))))), ?_⟩
    cases pa with
    | @no _ N ty h =>
      refine ⟨_, rfl, v, .ty "tuple", _, _, _, rfl, .ty "tuple", ty.1, kit_ty (kit_tuple ty.2), _, rfl, ?_⟩
      rw [decide_eq_false h]
      exact iteT (iteT q)
    | @len p xs e h =>
      refine ⟨_, rfl, .ref p, .ty "tuple", _, _, _, rfl, .ty "tuple", .base (.tup e), kit_ty (kit_tuple (by decide)), _, rfl, ?_⟩
      refine iteF ⟨_, rfl, p, xs, rfl, .inr (SqT.of e), rfl, _, rfl, ?_⟩
      rw [decide_eq_false (fun z => h (by have := V.int.inj z; omega))]
      exact iteT q
    | @two p a b S T2 e ts tt =>
      refine ⟨_, rfl, .ref p, .ty "tuple", _, _, _, rfl, .ty "tuple", .base (.tup e), kit_ty (kit_tuple (by decide)), _, rfl, ?_⟩
      refine iteF ⟨_, rfl, p, [a, b], rfl, .inr (SqT.of e), rfl, _, rfl, ?_⟩
      rw [show decide (V.int (([a, b] : List V).length : Nat) = V.int 2) = true from decide_eq_true rfl]
      refine iteF ?_
      refine ⟨_, rfl, p, [a, b], 0, a, rfl, rfl, SqT.of e, rfl, _, rfl, x, dx, _, rfl, hx, x, a, zs, m, S, rfl, hc, ts, _, rfl, _, rfl, ?_⟩
      unfold isPairB at q
      cases h1 : hasB a zs with
      | false =>
        rw [h1] at q
        exact iteF q
      | true =>
        rw [h1] at q
        refine iteT ⟨_, rfl, p, [a, b], 1, b, rfl, rfl, SqT.of e, rfl, _, rfl, x, dx, _, rfl, hx, x, b, zs, m, T2, rfl, hc, tt, _, rfl, _, rfl, ?_⟩
        cases h2 : hasB b zs with
        | false =>
          rw [h2] at q
          exact iteF q
        | true =>
          rw [h2] at q
          refine iteT ⟨_, rfl, p, [a, b], 0, a, rfl, rfl, SqT.of e, rfl, _, rfl, p, [a, b], 1, b, rfl, rfl, SqT.of e, rfl, ?_, q⟩
          cases a with
          | str z =>
            cases b with
            | str y => rfl
            | _ => cases h2
          | _ => cases h1
end

section
variable {P : Program} {w : World} {K : PySem.W.Frag} {mg : Str → Option Value} {base : Heap} {C : Addr}
theorem ok_crowdPairs {f : Addr} {fd : FuncData} (F : Fun K "pairs" "Crowd.pairs" sCrowdPairs f fd) (cl : Cls K C) (n1 : NoAttr K C "_people") : FnOk P w K mg base CX0 1 f fd ["self"] (spCrowdPairs C) := by
  refine F.ok scCrowdPairs (fun vs H Q E h => ?_) (fun cdv A outer s H vs Q E hr h => ?_)
  · obtain ⟨x, zs, m, rfl, _⟩ := h
    rfl
  · obtain ⟨x, zs, m, rfl, ⟨dx, l, hx, hl⟩, len, q⟩ := h
    refine ⟨_, pss_one (ps_ret (by
      refine' pe_lc2 (own := [("marker", 1), ("marked", 2)]) (vs1 := [2]) (wi1 := iList K (tFld K (tVar 0) "_people")) (g := gName 1) (g1 := gName 2) (by rfl) scCrowdPairs.nd ?h1 (blkOk_by (own := [("marker", 1), ("marked", 2)]) (N := ["self", "marker", "marked"]) (sc := defScope sCrowdPairs) (by decide +kernel)) (by decide) (fun _ _ _ _ _ => pg_name (i := 1) scCrowdPairs.nd rfl (Or.inl rfl)) (fun _ _ _ _ _ => pts_nil) ?h2 (fun _ _ _ _ _ => pg_name (i := 2) scCrowdPairs.nd rfl (Or.inl rfl)) ?h3 ?h4
      (case h1 => exact pi_list (pe_fld (pv 0) rfl))
      (case h2 => intro _ _ _ _ _; exact pi_list (pe_fld (pv 0) rfl))
      (case h3 => intro _ _ _ _ _; exact pts_one (pt_cmpR op_ne (pv 1) (pv 2) (nomark _)))
      (case h4 => intro _ _ _ _ _; exact pe_tup (pa_cons (pv 1) (pa_cons (pv 2) pa_nil))))), ?_⟩
    refine ⟨_, rfl, x, C, dx, _, _, rfl, hx, cl, n1, rfl, l, rfl, ⟨_, SqL.of hl⟩, fun D nD => ?_⟩
    refine nest_it (walk_list (K := K) (a := l) (xs := zs.map V.str)) (fun i G => Same H G ∧ ∃ acc, G D = some (.lst acc) ∧ Tups D G acc ((zs.take i).flatMap (rowOf zs))) ⟨same_new nD, [], upd_same, rfl, fun j y q h => by simp at h⟩ (fun i G _ h => SqL.of (h.1 _ _ hl)) ?_ ?_
    · rintro i z G G2 hi ⟨sG, acc, hD, tp⟩ ⟨rfl, hz⟩
      rw [List.getElem?_map] at hz
      rw [List.length_map] at hi
      rw [List.getElem?_eq_getElem hi] at hz
      obtain rfl := Option.some.inj hz
      have ha := List.getElem?_eq_getElem hi
      generalize zs[i] = a at ha
      refine ⟨rfl, ?_⟩
      unfold tYes
      dsimp only
      rw [if_pos rfl]
      refine ⟨_, rfl, x, C, dx, _, _, rfl, sG _ _ hx, cl, n1, rfl, l, rfl, ⟨_, SqL.of (sG _ _ hl)⟩, ?_⟩
      refine nest_it (walk_list (K := K) (a := l) (xs := zs.map V.str)) (fun j G => Same H G ∧ ∃ acc, G D = some (.lst acc) ∧ Tups D G acc ((zs.take i).flatMap (rowOf zs) ++ ((zs.take j).filter fun c => a ≠ c).map fun b => (a, b))) ⟨sG, acc, hD, by simpa using tp⟩ (fun j G _ h => SqL.of (h.1 _ _ hl)) ?_ ?_
      · rintro j z G3 G4 hj ⟨s3, acc3, hD3, tp3⟩ ⟨rfl, hz⟩
        rw [List.getElem?_map] at hz
        rw [List.length_map] at hj
        rw [List.getElem?_eq_getElem hj] at hz
        obtain rfl := Option.some.inj hz
        have hb := List.getElem?_eq_getElem hj
        generalize zs[j] = b at hb
        refine ⟨rfl, _, rfl, _, rfl, rfl, _, rfl, ?_⟩
        by_cases e : a = b
        · subst e
          rw [decide_eq_true (rfl : V.str a = V.str a)]
          refine iteF ?_
          rw [row_take zs a a j hb, if_neg (by simp), List.append_nil]
          exact ⟨s3, acc3, hD3, tp3⟩
        · rw [decide_eq_false (fun z => e (V.str.inj z) : ¬ V.str a = V.str b)]
          refine iteT ?_
          rw [row_take zs a b j hb, if_pos e, List.map_append, ← List.append_assoc]
          refine ⟨_, rfl, _, rfl, (by show 2 ≤ sizeLine; decide), fun p np => ?_⟩
          have pD : p ≠ D := fun z => by
            rw [z, hD3] at np
            cases np
          refine ⟨acc3, same_new np _ _ hD3, ?_, fun b o z => ?_, acc3 ++ [.ref p], upd_same, ?_⟩
          · rw [tp3.1, List.length_append, List.length_map]
            have k1 := pairs_len len (ys := zs.take i) (by rw [List.length_take]; omega)
            have k2 := List.length_filter_le (fun c => decide (a ≠ c)) (zs.take j)
            rw [List.length_take] at k2
            exact small1000 (by omega)
          · rw [upd_ne (ne_of_none z nD)]
            exact same_new np _ _ (s3 _ _ z)
          · refine ((tp3.but (But.of_same (same_new np))).but But.upd).add pD ?_
            rw [upd_ne pD, upd_same]
      · rintro G3 ⟨s3, acc3, hD3, tp3⟩
        refine ⟨s3, acc3, hD3, ?_⟩
        rw [pairs_take zs i a ha]
        rw [List.length_map, List.take_length] at tp3
        exact tp3
    · rintro G ⟨s3, acc3, hD3, tp3⟩
      rw [List.length_map, List.take_length] at tp3
      exact q G D acc3 s3 nD hD3 tp3
end

section
variable {P : Program} {w : World} {K : PySem.W.Frag} {mg : Str → Option Value} {base : Heap} {C : Addr}
theorem ok_lawPairs {f : Addr} {fd : FuncData} (F : Fun K "_law_pairs" "_law_pairs" sPairs f fd) : FnOk P w K mg base CX0 1 f fd ["_law_words_here"] (spLawPairs K) := by
  refine F.ok scPairs (fun vs H Q E h => ?_) (fun cdv A outer s H vs Q E hr h => ?_)
  · obtain ⟨l, zs, rfl, _⟩ := h
    rfl
  · obtain ⟨l, zs, rfl, hl, len, q⟩ := h
    refine ⟨_, pss_cons (ps_set (i := 1) scPairs.nd rfl (.inl rfl) (pe_lst pa_nil))
      (pss_cons (ps_for PassesOwn.never rfl (pi_list (pv 0)) (pg_name (i := 2) scPairs.nd rfl (.inr rfl))
        (pss_one (ps_set (i := 1) scPairs.nd rfl (.inl rfl) (pe_op op_cat (pv 1) (pe_lc (own := [("_law_other", 3)]) (g := gName 3) (by rfl) scPairs.nd (pi_list (pv 0)) (blkOk_by (own := [("_law_other", 3)]) (N := ["_law_words_here", "_law_found", "_law_one", "_law_other"]) (sc := defScope sPairs) (by decide +kernel))
          (fun _ _ _ _ _ => pg_name (i := 3) scPairs.nd rfl (Or.inl rfl)) (fun _ _ _ _ _ => pts_one (pt_cmpR op_ne (pv 3) (pv 2) (nomark _))) (fun _ _ _ _ _ => by exact pe_tup (pa_cons (pv 2) (pa_cons (pv 3) pa_nil))))))))
      (pss_one (ps_ret (pv 1)))), ?_⟩
    refine ⟨Nat.zero_le _, fun p0 np0 => ?_⟩
    generalize e0 : upd H p0 _ = H0
    have s0 : Same H H0 := e0 ▸ same_new np0
    have h0 : H0 p0 = some (.lst []) := e0 ▸ upd_same
    refine ⟨_, rfl, l, rfl, ⟨_, SqL.of (s0 _ _ hl)⟩, ?_⟩
    refine for_list (K := K) (a := l) (xs := zs.map V.str) (fun i σ G => ∃ p acc v2 v3, σ = [some (.ref l), some (.ref p), v2, v3] ∧ Same H G ∧ H p = none ∧ G p = some (.lst acc) ∧ Tps G acc ((zs.take i).flatMap (rowOf zs))) ⟨p0, [], _, _, rfl, s0, np0, h0, rfl, fun j y q h => by simp at h⟩ (fun i σ G _ h => by
      obtain ⟨_, _, _, _, _, s, _⟩ := h
      exact SqL.of (s _ _ hl)) ?_ ?_
    · rintro i x σ G hx ⟨p, acc, v2, v3, rfl, sG, np, hp, tp⟩
      have hi : i < zs.length := by
        have := (List.getElem?_eq_some_iff.mp hx).1
        rw [List.length_map] at this
        exact this
      rw [List.getElem?_map, List.getElem?_eq_getElem hi] at hx
      obtain rfl := Option.some.inj hx
      have ha := List.getElem?_eq_getElem hi
      generalize zs[i] = a at ha
      refine ⟨_, rfl, _, rfl, l, rfl, ⟨_, SqL.of (sG _ _ hl)⟩, fun D nD => ?_⟩
      refine nest_it (walk_list (K := K) (a := l) (xs := zs.map V.str)) (fun j G2 => Same G G2 ∧ ∃ ac, G2 D = some (.lst ac) ∧ Tups D G2 ac (((zs.take j).filter fun c => a ≠ c).map fun b => (a, b))) ⟨same_new nD, [], upd_same, rfl, fun j y q h => by simp at h⟩ (fun j G2 _ h => SqL.of (h.1 _ _ (sG _ _ hl))) ?_ ?_
      · rintro j z G3 G4 hj ⟨s3, ac, hD, t3⟩ ⟨rfl, hz⟩
        rw [List.getElem?_map] at hz
        rw [List.length_map] at hj
        rw [List.getElem?_eq_getElem hj] at hz
        obtain rfl := Option.some.inj hz
        have hb := List.getElem?_eq_getElem hj
        generalize zs[j] = b at hb
        refine ⟨rfl, _, rfl, _, rfl, rfl, _, rfl, ?_⟩
        by_cases e : a = b
        · subst e
          rw [decide_eq_true (rfl : V.str a = V.str a)]
          refine iteF ?_
          rw [row_take zs a a j hb, if_neg (by simp), List.append_nil]
          exact ⟨s3, ac, hD, t3⟩
        · rw [decide_eq_false (fun z => e (V.str.inj z).symm : ¬ V.str b = V.str a)]
          refine iteT ?_
          rw [row_take zs a b j hb, if_pos e, List.map_append]
          refine ⟨_, rfl, _, rfl, (by show 2 ≤ sizeLine; decide), fun t nt => ?_⟩
          have tD : t ≠ D := fun z => by
            rw [z, hD] at nt
            cases nt
          refine ⟨ac, same_new nt _ _ hD, ?_, fun c o z => ?_, ac ++ [.ref t], upd_same, ?_⟩
          · rw [t3.1, List.length_map]
            have k2 := List.length_filter_le (fun c => decide (a ≠ c)) (zs.take j)
            rw [List.length_take] at k2
            exact small1000 (by omega)
          · rw [upd_ne (ne_of_none z nD)]
            exact same_new nt _ _ (s3 _ _ z)
          · refine ((t3.but (But.of_same (same_new nt))).but But.upd).add tD ?_
            rw [upd_ne tD, upd_same]
      · rintro G3 ⟨s3, ac, hD, t3⟩
        rw [List.length_map, List.take_length] at t3
        refine ⟨p, D, acc, ac, rfl, rfl, s3 _ _ hp, hD, ?_, fun p2 np2 => ?_⟩
        · rw [tp.1, t3.1, List.length_map]
          have k1 := pairs_len len (ys := zs.take i) (by rw [List.length_take]; omega)
          have k2 := List.length_filter_le (fun c => decide (a ≠ c)) zs
          exact Nat.le_of_lt (small1000 (by omega))
        · have s4 := sG.trans s3
          refine ⟨p2, acc ++ ac, _, _, rfl, s4.trans (same_new np2), s4.free np2, upd_same, ?_⟩
          rw [pairs_take zs i a ha]
          exact ((tp.same s3).append t3.tps).same (same_new np2)
    · rintro σ G ⟨p, acc, v2, v3, rfl, sG, np, hp, tp⟩
      rw [List.length_map, List.take_length] at tp
      exact ⟨_, rfl, q G p acc sG np hp tp⟩
end

end K83

set_option Elab.async false
set_option linter.all false
set_option maxRecDepth 100000
set_option maxHeartbeats 4000000
/-! Lists of pairs of a page's pairs and their marks, made by a comprehension, for dict(..). -/
namespace L2
open PySem PySem.Spec PyProof.Rows
theorem paired_snoc {α β : Type} {R : α → β → Prop} {x : α} {y : β} : ∀ {xs : List α} {ys : List β}, Paired R xs ys → R x y → Paired R (xs ++ [x]) (ys ++ [y])
  | _, _, .nil, h => .cons h .nil
  | _, _, .cons a r, h => .cons a (paired_snoc r h)
theorem paired_imp {α β : Type} {R S : α → β → Prop} (f : ∀ x y, R x y → S x y) : ∀ {xs : List α} {ys : List β}, Paired R xs ys → Paired S xs ys
  | _, _, .nil => .nil
  | _, _, .cons a r => .cons (f _ _ a) (paired_imp f r)
theorem paired_len {α β : Type} {R : α → β → Prop} : ∀ {xs : List α} {ys : List β}, Paired R xs ys → xs.length = ys.length
  | _, _, .nil => rfl
  | _, _, .cons _ r => by rw [List.length_cons, List.length_cons, paired_len r]
theorem isPairT_same {H G : Hp} {u : Addr} {kv : List Key × V} (s : Same H G) (h : IsPairT H u kv) : IsPairT G u kv := by
  obtain ⟨q, a, b⟩ := h
  exact ⟨q, s _ _ a, s _ _ b⟩
theorem isPairT_upd {H : Hp} {u D : Addr} {kv : List Key × V} {xs ys : List V} (hD : H D = some (.lst xs)) (h : IsPairT H u kv) : IsPairT (upd H D (.lst ys)) u kv := by
  obtain ⟨q, a, b⟩ := h
  exact ⟨q, by rw [upd_ne (ne_of a hD (fun z => nomatch z))]; exact a, by rw [upd_ne (ne_of b hD (fun z => nomatch z))]; exact b⟩
theorem nest_pairs {J : It} {n : Nat} {Gd : Hp → Prop} {Y : Nat → Hp → V → Hp → Prop} (w : Walk J n Gd Y) {ps : List (Str × Str)} (hn : n = ps.length) (h64 : ps.length ≤ 64) {HL : Hp} {D : Addr} (nD : HL D = none)
    (hY : ∀ i x G G', Same HL G → Y i G x G' → G' = G ∧ ∃ p t, ps[i]? = some p ∧ x = .ref t ∧ G t = some (.tup [.str p.1, .str p.2])) (hG : ∀ G, Same HL G → Gd G) {B : V → Hp → (Hp → Prop) → Prop} (g : Str × Str → V)
    (hB : ∀ p t G Nx, p ∈ ps → Same HL G → G t = some (.tup [.str p.1, .str p.2]) → (∀ u G', Same G G' → G u = none → G' u = some (.tup [.ref t, g p]) → ∃ acc, G' D = some (.lst acc) ∧ acc.length < sizeLine ∧ Nx (upd G' D (.lst (acc ++ [.ref u])))) → B (.ref t) G Nx)
    {Qd : Hp → Prop} (hd : ∀ G us, Same HL G → G D = some (.lst (us.map V.ref)) → Paired (IsPairT G) us (ps.map fun p => (key2 p, g p)) → Qd G) :
    ∃ W : Nat → Nat → Hp → Prop, (∃ m, W 0 m (upd HL D (.lst []))) ∧ ∀ i m H, W i m H → (J.stop i H ∧ Qd H) ∨ (J.go i H ∧ ∃ Nx : Hp → Prop, (∀ H', Nx H' → ∃ m', m' < m ∧ W (i + 1) m' H') ∧ ∀ x H', J.yld i H x H' → B x H' Nx) := by
  refine nest_it w (fun i G => Same HL G ∧ ∃ us : List Addr, G D = some (.lst (us.map V.ref)) ∧ Paired (IsPairT G) us ((ps.take i).map fun p => (key2 p, g p))) ⟨same_new nD, [], upd_same, .nil⟩ (fun i G _ h => hG _ h.1) ?_ ?_
  · rintro i x G G' hi ⟨sG, us, hD, hus⟩ y
    obtain ⟨rfl, p, t, hp, rfl, ht⟩ := hY i x G G' sG y
    refine hB p t _ _ (List.mem_of_getElem? hp) sG ht fun u G2 s2 nu hu => ⟨_, s2 _ _ hD, ?_, fun b o e => ?_, us ++ [u], ?_, ?_⟩
    · rw [List.length_map, paired_len hus, List.length_map, List.length_take]
      exact Nat.lt_of_le_of_lt (Nat.min_le_left _ _) (small1000 (by omega))
    · rw [upd_ne (ne_of_none e nD)]
      exact s2 _ _ (sG _ _ e)
    · rw [upd_same, List.map_append]
      rfl
    · rw [List.take_add_one, hp, List.map_append]
      refine paired_snoc (paired_imp (fun _ _ z => isPairT_upd (s2 _ _ hD) (isPairT_same s2 z)) hus) ?_
      exact isPairT_upd (s2 _ _ hD) ⟨t, hu, s2 _ _ ht⟩
  · rintro G ⟨sG, us, hD, hus⟩
    rw [hn, List.take_length] at hus
    exact hd G us sG hD hus
/-- the keys of a sheet -/
theorem keys_sheet {zs : List Str} {f : Str × Str → V} {i : Nat} {x : V} {G G' : Hp} (h : G' = G ∧ ∃ (k : List Key) (v : V) (q : Addr), (sheetOf zs f)[i]? = some (k, v) ∧ x = .ref q ∧ G q = some (.tup (k.map kV))) :
    G' = G ∧ ∃ p t, (pairsOf zs)[i]? = some p ∧ x = .ref t ∧ G t = some (.tup [.str p.1, .str p.2]) := by
  obtain ⟨e, k, v, q, hk, hx, hq⟩ := h
  unfold sheetOf at hk
  rw [List.getElem?_map] at hk
  obtain ⟨p, hp, e2⟩ := Option.map_eq_some_iff.mp hk
  cases e2
  exact ⟨e, p, q, hp, hx, hq⟩
theorem nodup_keys2 {ps : List (Str × Str)} (h : ps.Nodup) (g : Str × Str → V) : ((ps.map fun p => (key2 p, g p)).map (·.1)).Nodup := by
  rw [List.map_map]
  refine List.Pairwise.map _ (fun a b n z => n (key2_inj z)) h
theorem merge_new {κ : List (Key × V)} : ∀ {kvs acc : List (Key × V)}, ((acc ++ kvs).map (·.1)).Nodup → mergeK acc kvs = acc ++ kvs
  | [], acc, _ => by rw [List.append_nil]; rfl
  | (k, v) :: r, acc, h => by
    have nk : k ∉ acc.map (·.1) := fun z => by
      rw [List.map_append, List.map_cons] at h
      exact (List.nodup_append.mp h).2.2 k z k (List.mem_cons_self ..) rfl
    have e : putK acc k v = acc ++ [(k, v)] := putK_new _ (valV_none nk)
    show mergeK (putK acc k v) r = _
    rw [e, merge_new (κ := κ) (kvs := r) (by rw [List.append_assoc]; exact h), List.append_assoc]
    rfl
theorem putRow_none {a b : Str} : ∀ {es : List (Str × V)} {f : Str × Str → V}, (∀ e ∈ es, e.1 ≠ b) → putRow f a es (a, b) = f (a, b)
  | [], _, _ => rfl
  | e :: es, f, h => by
    show putRow (withF f (a, e.1) e.2) a es (a, b) = _
    rw [putRow_none fun x hx => h x (List.mem_cons_of_mem _ hx)]
    unfold withF
    rw [if_neg fun z => h e (List.mem_cons_self ..) (Prod.mk.inj z).2.symm]
theorem putRow_else {a : Str} {p : Str × Str} (hp : p.1 ≠ a) : ∀ {es : List (Str × V)} {f : Str × Str → V}, putRow f a es p = f p
  | [], _ => rfl
  | e :: es, f => by
    show putRow (withF f (a, e.1) e.2) a es p = _
    rw [putRow_else hp]
    unfold withF
    rw [if_neg fun z => hp (by rw [z])]
theorem putRow_val {a b : Str} : ∀ {es : List (Str × V)} {f : Str × Str → V}, (es.map (·.1)).Nodup → b ∈ es.map (·.1) → valV (rowD es) (Sum.inr b : Key) = some (putRow f a es (a, b))
  | [], _, _, h => by cases h
  | e :: es, f, nd, h => by
    show valV ((Sum.inr e.1, e.2) :: rowD es) (Sum.inr b : Key) = some (putRow (withF f (a, e.1) e.2) a es (a, b))
    rw [List.map_cons, List.nodup_cons] at nd
    by_cases c : e.1 = b
    · subst c
      rw [valV_pos rfl, putRow_none fun x hx z => nd.1 (List.mem_map.mpr ⟨x, hx, z⟩)]
      unfold withF
      rw [if_pos rfl]
    · rw [List.map_cons] at h
      rcases List.mem_cons.mp h with z | z
      · exact absurd z.symm c
      · rw [valV_neg fun z => c (Sum.inr.inj z)]
        exact putRow_val nd.2 z
theorem isKeys_mem {H : Hp} {f : Str × Str → V} {b : Addr} : ∀ {l : List (Str × Str)} {bs : List Addr}, IsKeys H (l.map fun p => (key2 p, f p)) bs → b ∈ bs → ∃ p ∈ l, H b = some (.tup [.str p.1, .str p.2])
  | [], _, h, hb => by
    cases h
    cases hb
  | p :: l, _, h, hb => by
    cases h with
    | cons h t =>
      rcases List.mem_cons.mp hb with e | e
      · subst e
        exact ⟨p, List.mem_cons_self .., h⟩
      · obtain ⟨q, hq, k⟩ := isKeys_mem (l := l) t e
        exact ⟨q, List.mem_cons_of_mem _ hq, k⟩
theorem Told.put {zs : List Str} {m : Int} {f g : Str × Str → V} (t : Told zs m f) (h : ∀ p ∈ pairsOf zs, mkOk m (g p) = true) : Told zs m g := ⟨t.mem, t.nd, t.one, t.most, t.m1, t.m10, h⟩
theorem but_fresh {H G : Hp} {a p : Addr} {o : HO} (b : But a H G) (n : H p = none) : But a H (upd G p o) := fun c u nc e => by
  rw [upd_ne (ne_of_none e n)]
  exact b c u nc e
theorem Pool.lists {H : Hp} {a l : Addr} {zs : List Str} (h : Pool H a) (hl : H l = some (.lst (zs.map V.str))) (one : 1 ≤ zs.length) : l ≠ a := fun e => by
  obtain ⟨g, q, ha, _⟩ := h
  rw [e, ha] at hl
  cases zs with
  | nil => cases one
  | cons z zs => cases hl
theorem Pool.other {H : Hp} {a b : Addr} {o : HO} (h : Pool H a) (hb : H b = some o) (n : ∀ xs, o ≠ .lst xs) : b ≠ a := fun e => by
  obtain ⟨g, q, ha, _⟩ := h
  rw [e, ha] at hb
  exact n _ (Option.some.inj hb).symm
theorem PageOf.but {H G : Hp} {C CP x a : Addr} {zs : List Str} {m : Int} {f : Str × Str → V} (P : Pool H a) (b : But a H G) (one : 1 ≤ zs.length) (h : PageOf H C CP x zs m f) : PageOf G C CP x zs m f := by
  obtain ⟨dx, c, d, hx, ⟨dc, lc, hc, hl⟩, hd⟩ := h
  exact ⟨dx, c, d, b _ _ (P.other hx fun _ z => nomatch z) hx, ⟨dc, lc, b _ _ (P.other hc fun _ z => nomatch z) hc, b _ _ (P.lists hl one) hl⟩, b _ _ (P.other hd fun _ z => nomatch z) hd⟩
theorem Pool.same {H G : Hp} {a : Addr} (s : Same H G) (h : Pool H a) : Pool G a := by
  obtain ⟨g, q, ha, hb⟩ := h
  exact ⟨g, q, s _ _ ha, hb⟩
/-- a row of drawn marks -/
structure RowAt (a : Addr) (m : Int) (G : Hp) (us : List Addr) (es : List (Str × V)) (ks : List Str) : Prop where
  pool : Pool G a
  tups : Paired (fun u e => G u = some (.tup [.str e.1, e.2])) us es
  keys : es.map (·.1) = ks
  marks : ∀ e ∈ es, mkOk m e.2 = true
theorem nest_row {J : It} {n : Nat} {Gd : Hp → Prop} {Y : Nat → Hp → V → Hp → Prop} (w : Walk J n Gd Y) {ys : List Str} (hn : n = ys.length) (h8 : ys.length ≤ 8) {HL : Hp} {D a : Addr} {m : Int} {who : Str} (nD : HL D = none) (P : Pool HL a)
    (hY : ∀ i x G G', Y i G x G' → G' = G ∧ (ys.map V.str)[i]? = some x) (hG : ∀ G, But a HL G → Gd G) {B : V → Hp → (Hp → Prop) → Prop}
    (hB : ∀ b G Nx, b ∈ ys → Pool G a → But a HL G → (b = who → Nx G) → (b ≠ who → ∀ (r : Int) u G', 0 ≤ r → r ≤ m → Pool G' a → But a G G' → G' u = some (.tup [.str b, .int r]) → ∃ acc, G' D = some (.lst acc) ∧ acc.length < sizeLine ∧ Nx (upd G' D (.lst (acc ++ [.ref u])))) → B (.str b) G Nx)
    {Qd : Hp → Prop} (hd : ∀ G us es, But a HL G → G D = some (.lst (us.map V.ref)) → RowAt a m G us es (ys.filter fun b => b ≠ who) → Qd G) :
    ∃ W : Nat → Nat → Hp → Prop, (∃ m, W 0 m (upd HL D (.lst []))) ∧ ∀ i m H, W i m H → (J.stop i H ∧ Qd H) ∨ (J.go i H ∧ ∃ Nx : Hp → Prop, (∀ H', Nx H' → ∃ m', m' < m ∧ W (i + 1) m' H') ∧ ∀ x H', J.yld i H x H' → B x H' Nx) := by
  have nDa : D ≠ a := fun e => by
    obtain ⟨g, q, ha, _⟩ := P
    rw [e, ha] at nD
    cases nD
  refine nest_it w (fun i G => But a HL G ∧ ∃ (us : List Addr) (es : List (Str × V)), G D = some (.lst (us.map V.ref)) ∧ RowAt a m G us es ((ys.take i).filter fun b => b ≠ who)) ⟨But.of_same (same_new nD), [], [], upd_same, P.same (same_new nD), .nil, rfl, fun e he => by cases he⟩ (fun i G _ h => hG _ h.1) ?_ ?_
  · rintro i x G G' hi ⟨bG, us, es, hD, r⟩ y
    obtain ⟨rfl, hx⟩ := hY i x G G' y
    rw [List.getElem?_map] at hx
    obtain ⟨b, hb, rfl⟩ := Option.map_eq_some_iff.mp hx
    have tk : (ys.take (i + 1)).filter (fun b => b ≠ who) = ((ys.take i).filter fun b => b ≠ who) ++ ([b].filter fun b => b ≠ who) := by
      rw [List.take_add_one, hb, List.filter_append]
      rfl
    refine hB b _ _ (List.mem_of_getElem? hb) r.pool bG (fun e => ⟨bG, us, es, hD, r.pool, r.tups, ?_, r.marks⟩) fun ne rr u G2 h0 h1 P2 b2 hu => ⟨_, b2 _ _ nDa hD, ?_, fun c o nc e => ?_, us ++ [u], es ++ [(b, .int rr)], ?_, ?_, ?_, ?_, fun e he => ?_⟩
    · rw [tk, e, List.filter_cons_of_neg (by simp), List.filter_nil, List.append_nil]
      exact r.keys
    · rw [List.length_map, r.tups.length, ← List.length_map (f := (·.1)), r.keys]
      refine Nat.lt_of_le_of_lt (List.length_filter_le _ _) (small1000 ?_)
      rw [List.length_take]
      omega
    · rw [upd_ne (ne_of_none e nD)]
      exact b2 _ _ nc (bG _ _ nc e)
    · rw [upd_same, List.map_append]
      rfl
    · obtain ⟨g, q, ha, hq⟩ := P2
      exact ⟨g, q, by rw [upd_ne nDa.symm]; exact ha, hq⟩
    · refine Paired.snoc (Paired.mono (fun x e h => ?_) r.tups) ?_
      · rw [upd_ne (ne_of (b2 _ _ (r.pool.other h fun _ z => nomatch z) h) (b2 _ _ nDa hD) (fun z => nomatch z))]
        exact b2 _ _ (r.pool.other h fun _ z => nomatch z) h
      · rw [upd_ne (ne_of hu (b2 _ _ nDa hD) (fun z => nomatch z))]
        exact hu
    · rw [tk, List.map_append, r.keys, List.filter_cons_of_pos (by simpa using ne), List.filter_nil]
      rfl
    · rcases List.mem_append.mp he with h | h
      · exact r.marks e h
      · obtain rfl := List.mem_singleton.mp h
        show (decide (V.int rr = V.non) || (decide (0 ≤ rr) && decide (rr ≤ m))) = true
        rw [decide_eq_true h0, decide_eq_true h1]
        simp
  · rintro G ⟨bG, us, es, hD, r⟩
    rw [hn, List.take_length] at r
    exact hd G us es bG hD r
theorem isPairT_unl {H : Hp} {u d : Addr} {kv : List Key × V} {od : Obj} {o o' : HO} (hd : H d = some (.frz od o)) (h : IsPairT H u kv) : IsPairT (upd H d o') u kv := by
  obtain ⟨q, a, b⟩ := h
  exact ⟨q, by rw [upd_ne (ne_of a hd (fun z => nomatch z))]; exact a, by rw [upd_ne (ne_of b hd (fun z => nomatch z))]; exact b⟩
theorem paired_rowD {K : PySem.W.Frag} {G : Hp} : ∀ {us : List Addr} {es : List (Str × V)}, Paired (fun u e => G u = some (.tup [.str e.1, e.2])) us es → Paired (fun p kv => SqT K G p [kV kv.1, kv.2]) us (rowD es)
  | _, _, .nil => .nil
  | _, _, .cons h r => .cons (SqT.of h) (paired_rowD r)
theorem rowD_nodup {es : List (Str × V)} (h : (es.map (·.1)).Nodup) : ((rowD es).map (·.1)).Nodup := by
  unfold rowD
  rw [List.map_map]
  have : (es.map fun e => (Sum.inr e.1 : Key)) = (es.map (·.1)).map Sum.inr := by rw [List.map_map]; rfl
  show ((es.map fun e => (Sum.inr e.1 : Key))).Nodup
  rw [this]
  exact List.Pairwise.map _ (fun a b n z => n (Sum.inr.inj z)) h
theorem merge_row {es : List (Str × V)} (h : (es.map (·.1)).Nodup) : mergeK [] (rowD es) = rowD es := by
  rw [merge_new (κ := []) (by rw [List.nil_append]; exact rowD_nodup h), List.nil_append]
theorem len_filter_ne {zs : List Str} (nd : zs.Nodup) {a : Str} (h : a ∈ zs) : (zs.filter fun b => b ≠ a).length + 1 = zs.length := by
  induction zs with
  | nil => cases h
  | cons z zs ih =>
    rw [List.nodup_cons] at nd
    by_cases c : z = a
    · subst c
      rw [List.filter_cons_of_neg (by simp), List.length_cons]
      congr 1
      congr 1
      exact List.filter_eq_self.mpr fun b hb => by
        have : b ≠ z := fun e => nd.1 (e ▸ hb)
        simpa using this
    · rw [List.filter_cons_of_pos (by simpa using c), List.length_cons, List.length_cons, ih nd.2 ((List.mem_cons.mp h).resolve_left fun e => c e.symm)]
theorem rowFor_of {zs : List Str} {m : Int} {a : Str} {G : Hp} {pa : Addr} {us : List Addr} {es : List (Str × V)} (nd : zs.Nodup) (ha : a ∈ zs) (r : RowAt pa m G us es (zs.reverse.filter fun b => b ≠ a)) : RowFor zs m a es ∧ (es.map (·.1)).Nodup ∧ ∀ b ∈ zs, b ≠ a → b ∈ es.map (·.1) := by
  have nr : zs.reverse.Nodup := (List.reverse_perm zs).nodup_iff.mpr nd
  refine ⟨⟨?_, fun e he => ?_⟩, ?_, fun b hb n => ?_⟩
  · rw [← List.length_map (f := (·.1)), r.keys, len_filter_ne nr (List.mem_reverse.mpr ha), List.length_reverse]
  · have : e.1 ∈ es.map (·.1) := List.mem_map.mpr ⟨e, he, rfl⟩
    rw [r.keys] at this
    obtain ⟨h1, h2⟩ := List.mem_filter.mp this
    exact ⟨List.mem_reverse.mp h1, by simpa using h2, r.marks e he⟩
  · rw [r.keys]
    exact nr.filter _
  · rw [r.keys]
    exact List.mem_filter.mpr ⟨List.mem_reverse.mpr hb, by simpa using n⟩
theorem pairs_some {zs : List Str} (nd : zs.Nodup) (h : 2 ≤ zs.length) : 1 ≤ (pairsOf zs).length := by
  match zs, nd, h with
  | a :: b :: r, nd, _ =>
    have n : a ≠ b := fun e => by
      rw [e] at nd
      exact (List.nodup_cons.mp nd).1 (List.mem_cons_self ..)
    exact List.length_pos_of_mem (mem_pairsOf (List.mem_cons_self ..) (List.mem_cons_of_mem _ (List.mem_cons_self ..)) n)
end L2

set_option Elab.async false
set_option linter.all false
set_option maxRecDepth 100000
set_option maxHeartbeats 4000000
/-! Rules as plain data: reads, readers, lists in order. -/
namespace L2
open PySem PySem.Spec PyProof.Rows
abbrev Pr := Str × Str
structure RuleD where
  zs : List Str
  m : Int
  turn : Str
  gather : Str
  trim : Int
  prizes : Int
  reads : List Pr
  lists : List (List Str)
def readersOf (rs : List Pr) (p : Str) : List Str := (rs.filter fun q => decide (q.2 = p)).map (·.1)
/-- the pairs of the crowd that are among these -/
def pick (zs : List Str) (ps : List Pr) : List Pr := (pairsOf zs).filter fun p => decide (p ∈ ps)
/-- somebody of a list of two or more has at most 2 * trim readers -/
def shortB (rs : List Pr) (ls : List (List Str)) (trim : Int) : Bool := (ls.filter fun l => decide (1 < l.length)).flatten.any fun p => decide (((readersOf rs p).length : Int) ≤ 2 * trim)
def ordered (zs : List Str) (ls : List (List Str)) : List (List Str) := ls.map fun l => zs.filter fun p => decide (p ∈ l)
def inOrder (zs : List Str) (ls : List (List Str)) : List (List Str) := zs.flatMap fun f => (ordered zs ls).filter fun l => decide (l.head? = some f)
/-- a parting of the people -/
structure Parts (zs : List Str) (ls : List (List Str)) : Prop where
  ne : ∀ l ∈ ls, l ≠ []
  mem : ∀ l ∈ ls, ∀ p ∈ l, p ∈ zs
  nd : ls.flatten.Nodup
  len : ls.flatten.length = zs.length
/-- a parting into lists in order, by their first people -/
structure Straight (zs : List Str) (ls : List (List Str)) : Prop where
  parts : Parts zs ls
  sub : ∀ l ∈ ls, l.Sublist zs
  heads : (ls.map fun l => l.headD Str.empty).Sublist zs
theorem filter_sub : ∀ {r zs : List Str}, r.Sublist zs → zs.Nodup → (zs.filter fun b => decide (b ∈ r)) = r := fun {r zs} h => by
  induction h with
  | slnil => intro _; rfl
  | cons a h ih =>
    intro nd
    rw [List.nodup_cons] at nd
    rw [List.filter_cons_of_neg (by simpa using fun z => nd.1 (h.subset z))]
    exact ih nd.2
  | @cons_cons l1 l2 a h ih =>
    intro nd
    rw [List.nodup_cons] at nd
    rw [List.filter_cons_of_pos (by simp)]
    congr 1
    rw [← ih nd.2]
    refine List.filter_congr fun b hb => ?_
    rw [ih nd.2]
    have : b ≠ a := fun e => nd.1 (e ▸ hb)
    simp [this]
theorem ordered_id {zs : List Str} {ls : List (List Str)} (nd : zs.Nodup) (h : ∀ l ∈ ls, l.Sublist zs) : ordered zs ls = ls := by
  unfold ordered
  conv => rhs; rw [← List.map_id ls]
  exact List.map_congr_left fun l hl => filter_sub (h l hl) nd
theorem by_heads : ∀ (zs : List Str) (ls : List (List Str)), zs.Nodup → (∀ l ∈ ls, l ≠ []) → (ls.map fun l => l.headD Str.empty).Sublist zs → (zs.flatMap fun f => ls.filter fun l => decide (l.head? = some f)) = ls
  | [], ls, _, _, h => by
    have := List.eq_nil_of_sublist_nil h
    rw [List.map_eq_nil_iff] at this
    rw [this]
    rfl
  | z :: zs, ls, nd, ne, h => by
    rw [List.nodup_cons] at nd
    rw [List.flatMap_cons]
    match ls, ne, h with
    | [], _, _ =>
      rw [List.filter_nil, List.nil_append]
      exact by_heads zs [] nd.2 (fun l hl => (nomatch hl)) (List.nil_sublist _)
    | l0 :: ls, ne, h =>
      have n0 := ne l0 List.mem_cons_self
      obtain ⟨p, r, rfl⟩ : ∃ p r, l0 = p :: r := by
        cases l0 with
        | nil => exact absurd rfl n0
        | cons p r => exact ⟨p, r, rfl⟩
      rw [List.map_cons] at h
      have ne2 : ∀ l ∈ ls, l ≠ [] := fun l hl => ne l (List.mem_cons_of_mem _ hl)
      have hd : ∀ l ∈ ls, l.head? = some (l.headD Str.empty) := fun l hl => by
        cases l with
        | nil => exact absurd rfl (ne2 _ hl)
        | cons a b => rfl
      by_cases e : p = z
      · subst e
        have h2 : (ls.map fun l => l.headD Str.empty).Sublist zs := List.cons_sublist_cons.mp h
        have out : ls.filter (fun l => decide (l.head? = some p)) = [] := by
          rw [List.filter_eq_nil_iff]
          intro l hl c
          rw [decide_eq_true_eq, hd l hl] at c
          exact nd.1 (Option.some.inj c ▸ h2.subset (List.mem_map.mpr ⟨l, hl, rfl⟩))
        rw [List.filter_cons_of_pos (by simp), out]
        have rest : (zs.flatMap fun f => ((p :: r) :: ls).filter fun l => decide (l.head? = some f)) = zs.flatMap fun f => ls.filter fun l => decide (l.head? = some f) := by
          rw [List.flatMap_def, List.flatMap_def]
          congr 1
          refine List.map_congr_left fun f hf => ?_
          rw [List.filter_cons_of_neg]
          have : p ≠ f := fun q => nd.1 (q ▸ hf)
          simpa using this
        rw [rest, by_heads zs ls nd.2 ne2 h2]
        rfl
      · have h2 : ((p :: r).headD Str.empty :: ls.map fun l => l.headD Str.empty).Sublist zs := by
          cases h with
          | cons _ h => exact h
          | cons_cons _ h => exact absurd rfl e
        have out : ((p :: r) :: ls).filter (fun l => decide (l.head? = some z)) = [] := by
          rw [List.filter_eq_nil_iff]
          intro l hl c
          rw [decide_eq_true_eq] at c
          rcases List.mem_cons.mp hl with rfl | hl
          · exact e (Option.some.inj c)
          · rw [hd l hl] at c
            exact nd.1 (Option.some.inj c ▸ h2.subset (List.mem_cons_of_mem _ (List.mem_map.mpr ⟨l, hl, rfl⟩)))
        rw [out, List.nil_append]
        exact by_heads zs _ nd.2 ne h2
theorem inOrder_id {zs : List Str} {ls : List (List Str)} (nd : zs.Nodup) (s : Straight zs ls) : inOrder zs ls = ls := by
  unfold inOrder
  rw [ordered_id nd s.sub]
  exact by_heads zs ls nd s.parts.ne s.heads
theorem pick_id {zs : List Str} {ps : List Pr} (nd : (pairsOf zs).Nodup) (h : ps.Sublist (pairsOf zs)) : pick zs ps = ps := by
  unfold pick
  generalize pairsOf zs = al at nd h
  induction h with
  | slnil => rfl
  | cons a h ih =>
    rw [List.nodup_cons] at nd
    rw [List.filter_cons_of_neg (by simpa using fun z => nd.1 (h.subset z))]
    exact ih nd.2
  | @cons_cons l1 l2 a h ih =>
    rw [List.nodup_cons] at nd
    rw [List.filter_cons_of_pos (by simp)]
    congr 1
    refine Eq.trans (List.filter_congr fun b hb => ?_) (ih nd.2)
    have : b ≠ a := fun e => nd.1 (e ▸ hb)
    simp [this]
theorem straight_one {zs : List Str} (h : zs ≠ []) (nd : zs.Nodup) : Straight zs [zs] where
  parts := ⟨fun l hl => by rw [List.mem_singleton.mp hl]; exact h, fun l hl p hp => by rw [List.mem_singleton.mp hl] at hp; exact hp, by simpa using nd, by simp⟩
  sub := fun l hl => by rw [List.mem_singleton.mp hl]; exact List.Sublist.refl _
  heads := by
    cases zs with
    | nil => exact absurd rfl h
    | cons a b => simp
end L2

set_option Elab.async false
set_option linter.all false
set_option maxRecDepth 100000
set_option maxHeartbeats 4000000
/-! Walks of a list or a tuple alike; comprehensions that keep, map, flatten, or make new objects. -/
namespace L2
open PySem PySem.Spec PyProof.Rows
/-- a list or a tuple -/
def SqA (K : PySem.W.Frag) (H : Hp) (a : Addr) (xs : List V) : Prop := SqL K H a xs ∨ SqT K H a xs
def HSeq (H : Hp) (a : Addr) (xs : List V) : Prop := H a = some (.lst xs) ∨ H a = some (.tup xs)
theorem HSeq.sq {K : PySem.W.Frag} {H : Hp} {a : Addr} {xs : List V} (h : HSeq H a xs) : SqA K H a xs := h.elim (fun h => .inl (SqL.of h)) fun h => .inr (SqT.of h)
theorem HSeq.same {H H2 : Hp} {a : Addr} {xs : List V} (s : Same H H2) (h : HSeq H a xs) : HSeq H2 a xs := h.elim (fun h => .inl (s _ _ h)) fun h => .inr (s _ _ h)
theorem sqL_same {K : PySem.W.Frag} {H H2 : Hp} {a : Addr} {xs : List V} (s : Same H H2) (h : SqL K H a xs) : SqL K H2 a xs := by
  unfold SqL Rd at h ⊢
  rcases h with (h | ⟨o, h⟩) | h
  · exact .inl (.inl (s _ _ h))
  · exact .inl (.inr ⟨o, s _ _ h⟩)
  · exact .inr h
theorem sqT_same {K : PySem.W.Frag} {H H2 : Hp} {a : Addr} {xs : List V} (s : Same H H2) (h : SqT K H a xs) : SqT K H2 a xs := by
  unfold SqT Rd at h ⊢
  rcases h with (h | ⟨o, h⟩) | h
  · exact .inl (.inl (s _ _ h))
  · exact .inl (.inr ⟨o, s _ _ h⟩)
  · exact .inr h
theorem SqA.same {K : PySem.W.Frag} {H H2 : Hp} {a : Addr} {xs : List V} (s : Same H H2) (h : SqA K H a xs) : SqA K H2 a xs := h.elim (fun h => .inl (sqL_same s h)) fun h => .inr (sqT_same s h)
theorem SqA.or {K : PySem.W.Frag} {H : Hp} {a : Addr} {xs : List V} (h : SqA K H a xs) : SqL K H a xs ∨ SqT K H a xs := h
/-- what walks the items, of the list or tuple at a -/
def ItOf (K : PySem.W.Frag) (a : Addr) (xs : List V) (J : It) (H : Hp) : Prop := (J = Itl K a ∧ SqL K H a xs) ∨ (J = Itt K a ∧ SqT K H a xs)
theorem sqL_but {K : PySem.W.Frag} {H H2 : Hp} {a D : Addr} {xs : List V} (n : a ≠ D) (s : But D H H2) (h : SqL K H a xs) : SqL K H2 a xs := by
  unfold SqL Rd at h ⊢
  rcases h with (h | ⟨o, h⟩) | h
  · exact .inl (.inl (s _ _ n h))
  · exact .inl (.inr ⟨o, s _ _ n h⟩)
  · exact .inr h
theorem sqT_but {K : PySem.W.Frag} {H H2 : Hp} {a D : Addr} {xs : List V} (n : a ≠ D) (s : But D H H2) (h : SqT K H a xs) : SqT K H2 a xs := by
  unfold SqT Rd at h ⊢
  rcases h with (h | ⟨o, h⟩) | h
  · exact .inl (.inl (s _ _ n h))
  · exact .inl (.inr ⟨o, s _ _ n h⟩)
  · exact .inr h
theorem ItOf.walk {K : PySem.W.Frag} {a : Addr} {xs : List V} {J : It} {H : Hp} (h : ItOf K a xs J H) :
    ∃ G : Hp → Prop, Walk J xs.length G (YAt xs) ∧ G H ∧ (∀ H1 H2, G H1 → Same H1 H2 → G H2) ∧ ∀ D H1 H2, a ≠ D → G H1 → But D H1 H2 → G H2 := by
  rcases h with ⟨rfl, h⟩ | ⟨rfl, h⟩
  · exact ⟨_, walk_list (K := K) (a := a) (xs := xs), h, fun _ _ g s => sqL_same s g, fun _ _ _ n g s => sqL_but n s g⟩
  · exact ⟨_, walk_tup (K := K) (a := a) (xs := xs), h, fun _ _ g s => sqT_same s g, fun _ _ _ n g s => sqT_but n s g⟩
def iSeq (K : PySem.W.Frag) (tl : TE) : TI := fun σ H R => tl σ H fun x H1 => ∃ a xs, x = .ref a ∧ SqA K H1 a xs ∧ ∀ J, ItOf K a xs J H1 → R J H1
theorem pi_seq {X : Cx} {tg l : Expr} {tl : TE} (hl : PE X l tl) : PI X tg l (iSeq X.K tl) := by
  refine ⟨fun pins s σ H R I h => ?_⟩
  refine thn (hl.run pins s σ H _ I h) fun v s1 z => ?_
  obtain ⟨x, H1, I1, r1, a, xs, rfl, hq, q⟩ := z
  cases r1
  have fin : ∀ (J : It) (tn : Nat → Heap → Prop) (c : String), ItOf X.K a xs J H1 → Turn X.prog X.w X.K tg J [s1.heap.objs.size] s1.heap.objs.size tn →
      tn 0 (s1.heap.push { cls := .type c, data := .fields #[.ref a, .int 0 0] }) → PIE X pins σ tg R (.ref s1.heap.objs.size) { s1 with heap := s1.heap.push { cls := .type c, data := .fields #[.ref a, .int 0 0] } } := fun J tn c ji tu t0 => by
    refine ⟨s1.heap.objs.size, [s1.heap.objs.size], tn, J, H1, rfl, I1.kept (t' := s1.toks) fun b o e => Heap.get?_push_of_some _ e, tu, t0, fun b hb => ?_, q J ji⟩
    rw [List.mem_singleton.mp hb]
    exact I1.fpOk (Nat.le_refl _) (I1.hok.fresh (Nat.le_refl _))
  rcases hq with hq | hq
  · obtain ⟨its, rv, p, hz⟩ := I1.list hq
    exact wpAny_pyIter_list p.isList (fin _ _ "list_iterator" (.inl ⟨rfl, hq⟩) (turn_list a _) ⟨_, Heap.get?_push_size _ rfl, rfl, rfl⟩)
  · obtain ⟨its, rv, p, hz⟩ := I1.tuple hq
    exact wpAny_pyIter_tuple (show s1.heap.IsTuple a its.toArray from p) (fin _ _ "tuple_iterator" (.inr ⟨rfl, hq⟩) (turn_tuple a _) ⟨_, Heap.get?_push_size _ rfl, rfl, rfl⟩)
theorem small_of {n : Nat} (h : n ≤ 1000) : n < sizeLine := small1000 h
section
variable {J : It} {K : PySem.W.Frag} {a : Addr}
/-- [te for slot in .. if tt]: os tells for each item what is kept of it -/
theorem lc_fm {xs : List V} {os : List (Option V)} {H1 : Hp} (ji : ItOf K a xs J H1) (hl : os.length = xs.length) (hsz : xs.length ≤ 1000) {slot : Nat} {tt : TT} {te : TE} {vs : List Nat} {σ : St} {D : Addr} {Qd : Hp → Prop} (hD : H1 D = none)
    (hw : ∀ x, wipe ((wipe σ vs).set slot (some x)) vs = wipe σ vs)
    (hs : ∀ (i : Nat) (x : V) (o : Option V) (H : Hp) (N : VK) (M : Hp → Prop), xs[i]? = some x → os[i]? = some o → Same H1 H → (∀ y H2, o = some y → Same H H2 → N y H2) → (∀ H2, o = none → Same H H2 → M H2) →
      tt ((wipe σ vs).set slot (some x)) H fun b H2 => if b = true then te ((wipe σ vs).set slot (some x)) H2 N else M H2)
    (hd : ∀ H, Same H1 H → H D = some (.lst (os.filterMap id)) → Qd H) :
    ∃ W : Nat → Nat → Hp → Prop, (∃ m, W 0 m (upd H1 D (.lst []))) ∧ ∀ i m H, W i m H →
      (J.stop i H ∧ Qd H) ∨ (J.go i H ∧ ∃ Nx : Hp → Prop, (∀ H', Nx H' → ∃ m', m' < m ∧ W (i + 1) m' H') ∧ ∀ x H', J.yld i H x H' → gName slot x (wipe σ vs) H' fun σ2 H2 => wipe σ2 vs = wipe σ vs ∧ tt σ2 H2 fun b H3 =>
        if b = true then te σ2 H3 fun y H4 => ∃ acc, H4 D = some (.lst acc) ∧ acc.length < sizeLine ∧ Nx (upd H4 D (.lst (acc ++ [y]))) else Nx H3) := by
  obtain ⟨G, w, g0, gS, _⟩ := ji.walk
  have hG : ∀ H2, Same H1 H2 → G H2 := fun H2 s => gS _ _ g0 s
  refine nest_it w (B := fun x H' Nx => gName slot x (wipe σ vs) H' fun σ2 H2 => wipe σ2 vs = wipe σ vs ∧ tt σ2 H2 fun b H3 => if b = true then te σ2 H3 fun y H4 => ∃ acc, H4 D = some (.lst acc) ∧ acc.length < sizeLine ∧ Nx (upd H4 D (.lst (acc ++ [y]))) else Nx H3)
    (fun i H => Same H1 H ∧ H D = some (.lst ((os.take i).filterMap id))) ⟨same_new hD, upd_same⟩ (fun i H _ h => hG H h.1) ?_ fun H h => hd H h.1 (by rw [h.2, ← hl, List.take_length])
  rintro i x H H2 hi ⟨s1, hl1⟩ ⟨rfl, hx⟩
  have ho : os[i]? = some (os[i]'(by omega)) := List.getElem?_eq_getElem (by omega)
  refine ⟨hw x, hs i x _ H2 _ _ hx ho s1 (fun y H3 e s3 => ⟨_, s3 _ _ hl1, ?_, fun b o z => ?_, ?_⟩) fun H3 e s3 => ⟨s1.trans s3, ?_⟩⟩
  · refine small_of (Nat.le_trans (List.length_filterMap_le _ _) ?_)
    rw [List.length_take]
    omega
  · rw [upd_ne (ne_of_none z hD)]
    exact s3 _ _ (s1 _ _ z)
  · rw [upd_same, List.take_add_one, ho, e, List.filterMap_append]
    rfl
  · rw [s3 _ _ hl1, List.take_add_one, ho, e, List.filterMap_append]
    simp
/-- [te for slot in .. if tt], te making new objects: ds tells of each what it is, or that it is left out -/
theorem lc_new {α : Type} {xs : List V} {ds : List (Option α)} {F : Hp → V → α → Prop} {H1 : Hp} (ji : ItOf K a xs J H1) (hl : ds.length = xs.length) (hsz : xs.length ≤ 1000) {slot : Nat} {tt : TT} {te : TE} {vs : List Nat} {σ : St} {D : Addr} {Qd : Hp → Prop} (hD : H1 D = none)
    (mono : ∀ acc H H2 y a, H D = some (.lst acc) → y ≠ .ref D → But D H H2 → F H y a → F H2 y a)
    (hw : ∀ x, wipe ((wipe σ vs).set slot (some x)) vs = wipe σ vs)
    (hs : ∀ (i : Nat) (x : V) (o : Option α) (H : Hp) (N : VK) (M : Hp → Prop), xs[i]? = some x → ds[i]? = some o → Same H1 H → H D ≠ none → (∀ y a H2, o = some a → Same H H2 → y ≠ .ref D → F H2 y a → N y H2) → (∀ H2, o = none → Same H H2 → M H2) →
      tt ((wipe σ vs).set slot (some x)) H fun b H2 => if b = true then te ((wipe σ vs).set slot (some x)) H2 N else M H2)
    (hd : ∀ H ys, Same H1 H → H D = some (.lst ys) → Paired (fun y a => y ≠ .ref D ∧ F H y a) ys (ds.filterMap id) → Qd H) :
    ∃ W : Nat → Nat → Hp → Prop, (∃ m, W 0 m (upd H1 D (.lst []))) ∧ ∀ i m H, W i m H →
      (J.stop i H ∧ Qd H) ∨ (J.go i H ∧ ∃ Nx : Hp → Prop, (∀ H', Nx H' → ∃ m', m' < m ∧ W (i + 1) m' H') ∧ ∀ x H', J.yld i H x H' → gName slot x (wipe σ vs) H' fun σ2 H2 => wipe σ2 vs = wipe σ vs ∧ tt σ2 H2 fun b H3 =>
        if b = true then te σ2 H3 fun y H4 => ∃ acc, H4 D = some (.lst acc) ∧ acc.length < sizeLine ∧ Nx (upd H4 D (.lst (acc ++ [y]))) else Nx H3) := by
  obtain ⟨G, w, g0, gS, _⟩ := ji.walk
  have hG : ∀ H2, Same H1 H2 → G H2 := fun H2 s => gS _ _ g0 s
  refine nest_it w (B := fun x H' Nx => gName slot x (wipe σ vs) H' fun σ2 H2 => wipe σ2 vs = wipe σ vs ∧ tt σ2 H2 fun b H3 => if b = true then te σ2 H3 fun y H4 => ∃ acc, H4 D = some (.lst acc) ∧ acc.length < sizeLine ∧ Nx (upd H4 D (.lst (acc ++ [y]))) else Nx H3)
    (fun i H => Same H1 H ∧ ∃ ys, H D = some (.lst ys) ∧ Paired (fun y a => y ≠ .ref D ∧ F H y a) ys ((ds.take i).filterMap id)) ⟨same_new hD, [], upd_same, .nil⟩ (fun i H _ h => hG H h.1) ?_ ?_
  · rintro i x H H2 hi ⟨s1, ys, hl1, hp⟩ ⟨rfl, hx⟩
    have ho : ds[i]? = some (ds[i]'(by omega)) := List.getElem?_eq_getElem (by omega)
    refine ⟨hw x, hs i x _ H2 _ _ hx ho s1 (by rw [hl1]; exact fun z => nomatch z) (fun y a H3 e s3 ny fy => ⟨_, s3 _ _ hl1, ?_, fun b o z => ?_, ys ++ [y], upd_same, ?_⟩) fun H3 e s3 => ⟨s1.trans s3, ys, s3 _ _ hl1, ?_⟩⟩
    · refine small_of ?_
      rw [hp.length]
      refine Nat.le_trans (List.length_filterMap_le _ _) ?_
      rw [List.length_take]
      omega
    · rw [upd_ne (ne_of_none z hD)]
      exact s3 _ _ (s1 _ _ z)
    · rw [List.take_add_one, ho, e, List.filterMap_append]
      refine Paired.snoc (Paired.mono (fun y2 a2 z => ⟨z.1, mono ys H2 _ y2 a2 hl1 z.1 ((But.of_same s3).trans But.upd) z.2⟩) hp) ⟨ny, mono ys H3 _ y a (s3 _ _ hl1) ny But.upd fy⟩
    · rw [List.take_add_one, ho, e, List.filterMap_append]
      simp only [Option.toList, List.filterMap_cons, id, List.filterMap_nil, List.append_nil]
      exact Paired.mono (fun y2 a2 z => ⟨z.1, mono ys H2 _ y2 a2 hl1 z.1 (But.of_same s3) z.2⟩) hp
  · rintro H ⟨s1, ys, hl1, hp⟩
    rw [← hl, List.take_length] at hp
    exact hd H ys s1 hl1 hp
/-- [te for s in .. if tt for s1 in .. if tt1]: os tells for each item the items that are walked of it, and what is kept of each of them -/
theorem lc2_fm {xs : List V} {os : List (Option (List V × List (Option V)))} {H1 : Hp} (ji : ItOf K a xs J H1) (hl : os.length = xs.length) (hrow : ∀ p, some p ∈ os → p.2.length = p.1.length) (hsz : (os.flatMap fun o => (o.map (·.2)).getD []).length ≤ 1000) {slot slot1 : Nat} {tt tt1 : TT} {wi1 : TI} {te : TE} {vs vs1 : List Nat} {σ : St} {D : Addr} {Qd : Hp → Prop} (hD : H1 D = none)
    (hw : ∀ x, wipe ((wipe σ vs).set slot (some x)) vs = wipe σ vs)
    (hw1 : ∀ x y, wipe ((wipe ((wipe σ vs).set slot (some x)) vs1).set slot1 (some y)) vs1 = wipe ((wipe σ vs).set slot (some x)) vs1)
    (hs : ∀ (i : Nat) (x : V) (o : Option (List V × List (Option V))) (H : Hp) (R : It → Hp → Prop) (M : Hp → Prop), xs[i]? = some x → os[i]? = some o → Same H1 H → (∀ p a1 J1 H2, o = some p → Same H H2 → a1 ≠ D → ItOf K a1 p.1 J1 H2 → R J1 H2) → (∀ H2, o = none → Same H H2 → M H2) →
      tt ((wipe σ vs).set slot (some x)) H fun b H2 => if b = true then wi1 ((wipe σ vs).set slot (some x)) H2 R else M H2)
    (hs1 : ∀ (i j : Nat) (x y : V) (p : List V × List (Option V)) (o : Option V) (H : Hp) (N : VK) (M : Hp → Prop), xs[i]? = some x → os[i]? = some (some p) → p.1[j]? = some y → p.2[j]? = some o → Same H1 H → (∀ z H2, o = some z → Same H H2 → N z H2) → (∀ H2, o = none → Same H H2 → M H2) →
      tt1 ((wipe ((wipe σ vs).set slot (some x)) vs1).set slot1 (some y)) H fun b H2 => if b = true then te ((wipe ((wipe σ vs).set slot (some x)) vs1).set slot1 (some y)) H2 N else M H2)
    (hd : ∀ H, Same H1 H → H D = some (.lst (os.flatMap fun o => ((o.map (·.2)).getD []).filterMap id)) → Qd H) :
    ∃ W : Nat → Nat → Hp → Prop, (∃ m, W 0 m (upd H1 D (.lst []))) ∧ ∀ i m H, W i m H →
      (J.stop i H ∧ Qd H) ∨ (J.go i H ∧ ∃ Nx : Hp → Prop, (∀ H', Nx H' → ∃ m', m' < m ∧ W (i + 1) m' H') ∧ ∀ x H', J.yld i H x H' → gName slot x (wipe σ vs) H' fun σ2 H2 => wipe σ2 vs = wipe σ vs ∧ tt σ2 H2 fun b H3 =>
        if b = true then wi1 σ2 H3 fun J1 H4 => ∃ W1 : Nat → Nat → Hp → Prop, (∃ m, W1 0 m H4) ∧ ∀ j k H, W1 j k H →
          (J1.stop j H ∧ Nx H) ∨ (J1.go j H ∧ ∃ Nx1 : Hp → Prop, (∀ H', Nx1 H' → ∃ k', k' < k ∧ W1 (j + 1) k' H') ∧ ∀ x H', J1.yld j H x H' → gName slot1 x (wipe σ2 vs1) H' fun σ3 H5 => wipe σ3 vs1 = wipe σ2 vs1 ∧ tt1 σ3 H5 fun b H6 =>
            if b = true then te σ3 H6 fun y H7 => ∃ acc, H7 D = some (.lst acc) ∧ acc.length < sizeLine ∧ Nx1 (upd H7 D (.lst (acc ++ [y]))) else Nx1 H6)
        else Nx H3) := by
  obtain ⟨G, w, g0, gS, _⟩ := ji.walk
  have hG : ∀ H2, Same H1 H2 → G H2 := fun H2 s => gS _ _ g0 s
  have len_le : ∀ i j p, os[i]? = some (some p) → j < p.2.length → ((os.take i).flatMap fun o => ((o.map (·.2)).getD []).filterMap id).length + ((p.2.take j).filterMap id).length < sizeLine := fun i j p ho hj => by
    have e : os = os.take i ++ some p :: os.drop (i + 1) := by
      obtain ⟨h1, h2⟩ := List.getElem?_eq_some_iff.mp ho
      rw [← h2, ← List.drop_eq_getElem_cons h1, List.take_append_drop]
    rw [e, List.flatMap_append, List.flatMap_cons, List.length_append, List.length_append] at hsz
    have le : ∀ l : List (Option (List V × List (Option V))), (l.flatMap fun o => ((o.map (·.2)).getD []).filterMap id).length ≤ (l.flatMap fun o => (o.map (·.2)).getD []).length := fun l => by
      induction l with
      | nil => exact Nat.le_refl _
      | cons o l ih =>
        rw [List.flatMap_cons, List.flatMap_cons, List.length_append, List.length_append]
        have := List.length_filterMap_le id ((o.map (·.2)).getD [])
        omega
    have h1 := le (os.take i)
    have h2 := List.length_filterMap_le id (p.2.take j)
    rw [List.length_take] at h2
    have h3 : ((some p : Option (List V × List (Option V))).map (·.2)).getD [] = p.2 := rfl
    rw [h3] at hsz
    exact small_of (by omega)
  refine nest_it w (B := fun x H' Nx => gName slot x (wipe σ vs) H' fun σ2 H2 => wipe σ2 vs = wipe σ vs ∧ tt σ2 H2 fun b H3 =>
        if b = true then wi1 σ2 H3 fun J1 H4 => ∃ W1 : Nat → Nat → Hp → Prop, (∃ m, W1 0 m H4) ∧ ∀ j k H, W1 j k H →
          (J1.stop j H ∧ Nx H) ∨ (J1.go j H ∧ ∃ Nx1 : Hp → Prop, (∀ H', Nx1 H' → ∃ k', k' < k ∧ W1 (j + 1) k' H') ∧ ∀ x H', J1.yld j H x H' → gName slot1 x (wipe σ2 vs1) H' fun σ3 H5 => wipe σ3 vs1 = wipe σ2 vs1 ∧ tt1 σ3 H5 fun b H6 =>
            if b = true then te σ3 H6 fun y H7 => ∃ acc, H7 D = some (.lst acc) ∧ acc.length < sizeLine ∧ Nx1 (upd H7 D (.lst (acc ++ [y]))) else Nx1 H6)
        else Nx H3)
    (fun i H => Same H1 H ∧ H D = some (.lst ((os.take i).flatMap fun o => ((o.map (·.2)).getD []).filterMap id))) ⟨same_new hD, upd_same⟩ (fun i H _ h => hG H h.1) ?_ fun H h => hd H h.1 (by rw [h.2, ← hl, List.take_length])
  rintro i x H H2 hi ⟨s1, hl1⟩ ⟨rfl, hx⟩
  have ho : os[i]? = some (os[i]'(by omega)) := List.getElem?_eq_getElem (by omega)
  generalize os[i]'(by omega) = o at ho
  refine ⟨hw x, hs i x o H2 _ _ hx ho s1 (fun p a1 J1 H3 e s3 na j1 => ?_) fun H3 e s3 => ⟨s1.trans s3, ?_⟩⟩
  · subst e
    obtain ⟨G1, w1, g1, _, gB⟩ := j1.walk
    have rl := hrow p (List.mem_of_getElem? ho)
    have hl3 := s3 _ _ hl1
    refine nest_it w1 (B := fun x1 H' Nx1 => gName slot1 x1 (wipe ((wipe σ vs).set slot (some x)) vs1) H' fun σ3 H5 => wipe σ3 vs1 = wipe ((wipe σ vs).set slot (some x)) vs1 ∧ tt1 σ3 H5 fun b H6 => if b = true then te σ3 H6 fun y H7 => ∃ acc, H7 D = some (.lst acc) ∧ acc.length < sizeLine ∧ Nx1 (upd H7 D (.lst (acc ++ [y]))) else Nx1 H6)
      (fun j Hj => But D H3 Hj ∧ Same H1 Hj ∧ G1 Hj ∧ Hj D = some (.lst (((os.take i).flatMap fun o => ((o.map (·.2)).getD []).filterMap id) ++ (p.2.take j).filterMap id)))
      ⟨But.of_same (Same.refl _), s1.trans s3, g1, by rw [hl3, List.take_zero, List.filterMap_nil, List.append_nil]⟩ (fun j Hj _ h => h.2.2.1) ?_ fun Hj h => ⟨h.2.1, ?_⟩
    · rintro j y Hj H4 hj ⟨bj, sj, gj, hlj⟩ ⟨rfl, hy⟩
      have ho1 : p.2[j]? = some (p.2[j]'(by omega)) := List.getElem?_eq_getElem (by omega)
      generalize p.2[j]'(by omega) = o1 at ho1
      refine ⟨hw1 x y, hs1 i j x y p o1 H4 _ _ hx ho hy ho1 sj (fun z H5 e s5 => ⟨_, s5 _ _ hlj, ?_, ?_, fun b o z => ?_, ?_, ?_⟩) fun H5 e s5 => ⟨bj.trans (But.of_same s5), sj.trans s5, gB D _ _ na gj (But.of_same s5), ?_⟩⟩
      · rw [List.length_append]
        exact len_le i j p ho (by omega)
      · exact (bj.trans (But.of_same s5)).trans But.upd
      · rw [upd_ne (ne_of_none z hD)]
        exact s5 _ _ (sj _ _ z)
      · exact gB D _ _ na gj ((But.of_same s5).trans But.upd)
      · rw [upd_same, List.take_add_one, ho1, e, List.filterMap_append, List.append_assoc]
        rfl
      · rw [s5 _ _ hlj, List.take_add_one, ho1, e, List.filterMap_append]
        simp
    · rw [h.2.2.2, ← rl, List.take_length, List.take_add_one, ho, List.flatMap_append]
      simp
  · subst e
    rw [s3 _ _ hl1, List.take_add_one, ho, List.flatMap_append]
    simp
end
theorem rd_yes {te : TE} {σ : St} {H : Hp} {N : VK} {M : Hp → Prop} (h : te σ H N) : tYes σ H fun b H2 => if b = true then te σ H2 N else M H2 := by
  show (if true = true then te σ H N else M H)
  rw [if_pos rfl]
  exact h
theorem rd_yesI {wi : TI} {σ : St} {H : Hp} {N : It → Hp → Prop} {M : Hp → Prop} (h : wi σ H N) : tYes σ H fun b H2 => if b = true then wi σ H2 N else M H2 := by
  show (if true = true then wi σ H N else M H)
  rw [if_pos rfl]
  exact h
theorem fm_some {α β : Type} (f : α → β) : ∀ l : List α, (l.map fun a => some (f a)).filterMap id = l.map f
  | [] => rfl
  | a :: l => by
    rw [List.map_cons, List.filterMap_cons_some (show id (some (f a)) = some (f a) from rfl), fm_some f l, List.map_cons]
theorem fm_if {α β : Type} (p : α → Bool) (f : α → β) : ∀ l : List α, (l.map fun a => if p a = true then some (f a) else none).filterMap id = (l.filter p).map f
  | [] => rfl
  | a :: l => by
    rw [List.map_cons]
    cases h : p a with
    | true => rw [if_pos rfl, List.filterMap_cons_some (show id (some (f a)) = some (f a) from rfl), fm_if p f l, List.filter_cons_of_pos h, List.map_cons]
    | false => rw [if_neg (by decide), List.filterMap_cons_none (show id (none : Option β) = none from rfl), fm_if p f l, List.filter_cons_of_neg (by rw [h]; decide)]
def rLenS (K : PySem.W.Frag) : List V → Hp → VK → Prop := fun xs H Q => ∃ p ys, xs = [.ref p] ∧ (SqL K H p ys ∨ SqT K H p ys) ∧ Q (.int ys.length) H
theorem call_lenS {X : Cx} : CallR X (.builtin "len") (rLenS X.K) := call_len_seq
section
variable {J : It} {K : PySem.W.Frag} {a : Addr}
def wordsD (zs : List Str) (ys : List V) : List (Key × V) := (zs.zip ys).map fun p => (Sum.inr p.1, p.2)
theorem wordsD_new {zs : List Str} {ys : List V} {z : Str} (h : z ∉ zs) : valV (wordsD zs ys) (Sum.inr z) = none := by
  unfold valV
  rw [List.find?_eq_none.mpr]
  · rfl
  · intro q hq
    obtain ⟨p, hp, rfl⟩ := List.mem_map.mp hq
    rw [decide_eq_true_eq]
    intro e
    exact h (Sum.inr.inj e ▸ (List.of_mem_zip hp).1)
theorem wordsD_snoc {zs : List Str} {ys : List V} {z : Str} {y : V} (h : zs.length = ys.length) : wordsD (zs ++ [z]) (ys ++ [y]) = wordsD zs ys ++ [(Sum.inr z, y)] := by
  unfold wordsD
  rw [List.zip_append h, List.map_append]
  rfl
/-- {word: tv for slot in ..}: ds tells of each value what it is -/
theorem dc_words {α : Type} {zs : List Str} {ds : List α} {F : Hp → V → α → Prop} {H1 : Hp} (nd : zs.Nodup) (ji : ItOf K a (zs.map V.str) J H1) (hl : ds.length = zs.length) (hsz : zs.length ≤ 1000) {slot : Nat} {tk tv : TE} {vs : List Nat} {σ : St} {D : Addr} {Qd : Hp → Prop} (hD : H1 D = none)
    (mono : ∀ kvs H H2 y d, H D = some (.dK kvs) → y ≠ .ref D → But D H H2 → F H y d → F H2 y d)
    (hw : ∀ x, wipe ((wipe σ vs).set slot (some x)) vs = wipe σ vs)
    (hs : ∀ (i : Nat) (z : Str) (d : α) (H : Hp) (N : V → V → Hp → Prop), zs[i]? = some z → ds[i]? = some d → Same H1 H → H D ≠ none → (∀ y H2, Same H H2 → y ≠ .ref D → F H2 y d → N (.str z) y H2) →
      tk ((wipe σ vs).set slot (some (.str z))) H fun k H2 => tv ((wipe σ vs).set slot (some (.str z))) H2 fun v H3 => N k v H3)
    (hd : ∀ H ys, Same H1 H → H D = some (.dK (wordsD zs ys)) → Paired (fun y d => y ≠ .ref D ∧ F H y d) ys ds → Qd H) :
    ∃ W : Nat → Nat → Hp → Prop, (∃ m, W 0 m (upd H1 D (.dK []))) ∧ ∀ i m H, W i m H →
      (J.stop i H ∧ Qd H) ∨ (J.go i H ∧ ∃ Nx : Hp → Prop, (∀ H', Nx H' → ∃ m', m' < m ∧ W (i + 1) m' H') ∧ ∀ x H', J.yld i H x H' → gName slot x (wipe σ vs) H' fun σ2 H2 => wipe σ2 vs = wipe σ vs ∧ tYes σ2 H2 fun b H3 =>
        if b = true then tk σ2 H3 fun y H4 => tv σ2 H4 fun z H5 => ∃ kvs k, y = kV k ∧ H5 D = some (.dK kvs) ∧ kvs.length < sizeLine ∧ Nx (upd H5 D (.dK (putK kvs k z))) else Nx H3) := by
  obtain ⟨G, w, g0, gS, _⟩ := ji.walk
  have hG : ∀ H2, Same H1 H2 → G H2 := fun H2 s => gS _ _ g0 s
  refine nest_it w (B := fun x H' Nx => gName slot x (wipe σ vs) H' fun σ2 H2 => wipe σ2 vs = wipe σ vs ∧ tYes σ2 H2 fun b H3 =>
        if b = true then tk σ2 H3 fun y H4 => tv σ2 H4 fun z H5 => ∃ kvs k, y = kV k ∧ H5 D = some (.dK kvs) ∧ kvs.length < sizeLine ∧ Nx (upd H5 D (.dK (putK kvs k z))) else Nx H3)
    (fun i H => Same H1 H ∧ ∃ ys, H D = some (.dK (wordsD (zs.take i) ys)) ∧ Paired (fun y d => y ≠ .ref D ∧ F H y d) ys (ds.take i)) ⟨same_new hD, [], upd_same, .nil⟩ (fun i H _ h => hG H h.1) ?_ ?_
  · rintro i x H H2 hi ⟨s1, ys, hl1, hp⟩ ⟨rfl, hx⟩
    rw [List.getElem?_map] at hx
    obtain ⟨z, hz, rfl⟩ := Option.map_eq_some_iff.mp hx
    rw [List.length_map] at hi
    have ho : ds[i]? = some (ds[i]'(by omega)) := List.getElem?_eq_getElem (by omega)
    have ly : ys.length = i := by
      rw [hp.length, List.length_take]
      omega
    refine ⟨hw _, ?_⟩
    unfold tYes
    dsimp only
    rw [if_pos rfl]
    refine hs i z _ H2 _ hz ho s1 (by rw [hl1]; exact fun q => nomatch q) fun y H3 s3 ny fy => ⟨_, Sum.inr z, rfl, s3 _ _ hl1, ?_, fun b o q => ?_, ys ++ [y], ?_, ?_⟩
    · unfold wordsD
      rw [List.length_map, List.length_zip, List.length_take]
      exact small_of (by omega)
    · rw [upd_ne (ne_of_none q hD)]
      exact s3 _ _ (s1 _ _ q)
    · have nz : z ∉ zs.take i := fun q => by
        obtain ⟨h1, h2⟩ := List.getElem?_eq_some_iff.mp hz
        have e : zs = zs.take i ++ z :: zs.drop (i + 1) := by
          rw [← h2, ← List.drop_eq_getElem_cons h1, List.take_append_drop]
        rw [e] at nd
        exact (List.nodup_append.mp nd).2.2 z q z List.mem_cons_self rfl
      rw [upd_same, putK_new _ (wordsD_new nz), List.take_add_one, hz]
      have := wordsD_snoc (zs := zs.take i) (ys := ys) (z := z) (y := y) (by rw [List.length_take]; omega)
      exact congrArg (fun q => some (HO.dK q)) this.symm
    · rw [List.take_add_one, ho]
      exact Paired.snoc (Paired.mono (fun y2 a2 q => ⟨q.1, mono _ H2 _ y2 a2 hl1 q.1 ((But.of_same s3).trans But.upd) q.2⟩) hp) ⟨ny, mono _ H3 _ y _ (s3 _ _ hl1) ny But.upd fy⟩
  · rintro H ⟨s1, ys, hl1, hp⟩
    rw [List.length_map] at hl1 hp
    rw [← hl, List.take_length] at hp
    rw [List.take_length] at hl1
    exact hd H ys s1 hl1 hp
end
end L2

set_option Elab.async false
set_option linter.all false
set_option maxRecDepth 100000
set_option maxHeartbeats 2000000
/-! Sets of tuples of ints and texts, up to 75 unlike ones: what is in them, how many there are. -/
namespace Km
open PySem PySem.Spec PyProof.Rows L2
section
variable {P : Program} {w : World} {A : Around} {E : Value → Shared → Prop} {s : Shared}
abbrev Tk := List Key
abbrev hsh (P : Program) (w : World) (k : Tk) : Int := tupleKeyHash (mixKind P w) k
/-- at a stands the tuple of these keys -/
abbrev At (P : Program) (w : World) (h : Heap) (k : Tk) (a : Addr) : Prop := IsTupleKey (mixKind P w) h k a
theorem flat_items {k : Tk} {vs : List Value} (h : ItemsAre (mixKind P w) k vs) : ∀ v ∈ vs, v.scannable = true := by
  induction h with
  | nil =>
    intro v hv
    cases hv
  | @cons k0 v0 ks us h1 _ ih =>
    intro v hv
    rcases List.mem_cons.mp hv with rfl | hv
    · rcases keyIs_shape h1 with ⟨i, t, rfl, rfl⟩ | ⟨x, t, rfl, rfl⟩ <;> rfl
    · exact ih v hv
theorem cls_flat (n : Nat) {v : Value} (h : v.scannable = true) : ofAClassStatement n v = pure false := by
  cases v <;> first | (cases h; done) | (cases n <;> rfl)
/-- no class of the program's own is in a tuple of keys -/
theorem cls_tuple {k : Tk} {b : Addr} {Q : Bool → Shared → Prop} (hk : At P w s.heap k b) (h : Q false s) : wpAny (model P w) A (ofAClassStatement 8 (.ref b)) Q E s := by
  have ty := hk.typeIs
  obtain ⟨o, its, n, ho, _, hd, hi⟩ := hk
  unfold ofAClassStatement
  refine wpAny_bind (wpAny_typeOf ty ?_)
  dsimp only
  rw [show (("tuple" : String) == "tuple") = true by decide]
  simp only [if_true, Bool.not_true, Bool.false_eq_true, if_false]
  try refine wpAny_bind (wpAny_pure ?_)
  try simp only [Bool.not_true, Bool.false_eq_true, if_false]
  show wpAny _ _ (seqItems? (.ref b) >>= _) _ _ s
  refine wpAny_bind (wpAny_seqItems ho hd ?_)
  dsimp only
  refine wpAny_bind ?_
  show wpAny _ _ (forIn its _ _) _ _ s
  rw [← Array.forIn_toList]
  refine wpAny_forIn_list _ (fun left r s2 => r.1 = none ∧ s2 = s ∧ ∀ v ∈ left, v.scannable = true) _ ?_ ?_ _ _ ⟨rfl, rfl, flat_items hi⟩
  · rintro v left r s2 ⟨_, rfl, all⟩
    rw [cls_flat _ (all v List.mem_cons_self)]
    refine wpAny_bind (wpAny_pure ?_)
    simp only [Bool.false_eq_true, if_false]
    exact wpAny_pure ⟨rfl, rfl, fun u hu => all u (List.mem_cons_of_mem _ hu)⟩
  · rintro ⟨r1, r2⟩ s2 ⟨hr, rfl, _⟩
    cases hr
    exact wpAny_pure h
/-- whether a tuple of keys has its hash by value: one or the other -/
theorem byv_tuple {k : Tk} {b : Addr} {Q : Bool → Shared → Prop} (hk : At P w s.heap k b) (h : ∀ c, Q c s) : wpAny (model P w) A (hashByValue 8 (.ref b)) Q E s := by
  have ty := hk.typeIs
  obtain ⟨o, its, n, ho, _, hd, hi⟩ := hk
  unfold hashByValue
  refine wpAny_bind (wpAny_specialOf ty F.slot_tuple_hash.lookup ?_)
  show wpAny _ _ (seqItems? (.ref b) >>= _) _ _ s
  refine wpAny_bind (wpAny_seqItems ho hd ?_)
  refine wpAny_bind ?_
  show wpAny _ _ (forIn its _ _) _ _ s
  rw [← Array.forIn_toList]
  refine wpAny_forIn_list _ (fun left r s2 => r.1 = none ∧ s2 = s ∧ ∀ v ∈ left, v.scannable = true) _ ?_ ?_ _ _ ⟨rfl, rfl, flat_items hi⟩
  · rintro v left r s2 ⟨_, rfl, all⟩
    rw [hashByValue_scannable _ (all v List.mem_cons_self)]
    refine wpAny_bind (wpAny_pure ?_)
    by_cases c : plainKind v = true
    · refine wp_if_neg (by rw [c]; decide) ?_
      exact wpAny_pure ⟨rfl, rfl, fun u hu => all u (List.mem_cons_of_mem _ hu)⟩
    · refine wp_if_pos (by simpa using c) ?_
      exact wpAny_pure (wpAny_pure (h false))
  · rintro ⟨r1, r2⟩ s2 ⟨hr, rfl, _⟩
    cases hr
    exact wpAny_pure (h true)
/-- to look for a tuple among tuples shows nothing -/
theorem quiet_look {k : Tk} {b : Addr} {Q : Bool → Shared → Prop} (hk : At P w s.heap k b) {ys : List Value} (hy : ∀ y ∈ ys, ∃ j c, y = Value.ref c ∧ At P w s.heap j c) (h : Q false s) :
    wpAny (model P w) A (searchCouldBeSeen (.ref b) ys) Q E s := by
  unfold searchCouldBeSeen
  refine wpAny_bind ?_
  refine wpAny_forIn_list _ (fun left r s2 => r.1 = none ∧ s2 = s ∧ ∀ y ∈ left, ∃ j c, y = Value.ref c ∧ At P w s.heap j c) _ ?_ ?_ _ _ ⟨rfl, rfl, hy⟩
  · rintro v left r s2 ⟨_, rfl, all⟩
    obtain ⟨j, c, rfl, hc⟩ := all v List.mem_cons_self
    have more : ∀ y ∈ left, ∃ j c, y = Value.ref c ∧ At P w s2.heap j c := fun u hu => all u (List.mem_cons_of_mem _ hu)
    dsimp only
    by_cases z : (b == c || (carriedByValue (.ref b) && carriedByValue (.ref c))) = true
    · exact wp_if_pos z (wpAny_pure ⟨rfl, rfl, more⟩)
    · refine wp_if_neg z (wpAny_bind (wpAny_eqIsQuiet_tuple hk ?_))
      simp only [Bool.not_true, Bool.false_eq_true, if_false]
      refine wpAny_bind (wpAny_eqIsQuiet_tuple hc ?_)
      simp only [Bool.not_true, Bool.false_eq_true, if_false]
      refine wpAny_bind (cls_tuple hk ?_)
      simp only [Bool.false_eq_true, if_false]
      refine wpAny_bind (cls_tuple hc ?_)
      simp only [Bool.false_eq_true, if_false]
      exact wpAny_pure ⟨rfl, rfl, more⟩
  · rintro ⟨r1, r2⟩ s2 ⟨hr, rfl, _⟩
    cases hr
    exact wpAny_pure h
end
/-! the table's rows -/
section
variable {P : Program} {w : World} {A : Around} {E : Value → Shared → Prop} {s : Shared}
abbrev Ent := Addr × Tk
def rowOf (P : Program) (w : World) (p : Ent) : Int × Value := (hsh P w p.2, Value.ref p.1)
structure Tab (P : Program) (w : World) (h : Heap) (a : Addr) (L : List Ent) (es : Array (Int × Value)) (ep : Nat) (t : SetTable) : Prop where
  ob : ∃ o, h.get? a = some o ∧ o.ExactSet ∧ o.data = .set es ep t
  rows : es.toList = L.map (rowOf P w)
  tab : TabOk t (L.map fun p => hsh P w p.2)
  nd : (L.map (·.2)).Nodup
  tup : ∀ p ∈ L, At P w h p.2 p.1
  room : L.length * 5 < t.mask * 3
variable {a : Addr} {L : List Ent} {es : Array (Int × Value)} {ep : Nat} {t : SetTable}
theorem rows_size (h : es.toList = L.map (rowOf P w)) : es.size = L.length := by
  rw [← Array.length_toList, h, List.length_map]
theorem rows_get (hr : es.toList = L.map (rowOf P w)) {i : Nat} {p : Ent} (h : L[i]? = some p) : es[i]? = some (rowOf P w p) := by
  rw [← Array.getElem?_toList, hr, List.getElem?_map, h]
  rfl
theorem fits_of (hp : t.place.size = es.size) (hd : t.dummies = #[]) (hm : es.size ≤ t.mask) : t.fits es.size = true := by
  unfold SetTable.fits SetTable.fill
  rw [hd, Bool.and_eq_true, beq_iff_eq, decide_eq_true_eq]
  exact ⟨hp, (by show t.place.size + 0 ≤ t.mask; omega)⟩
theorem Tab.places (R : Tab P w s.heap a L es ep t) : t.place.size = es.size := by
  have := R.tab.sz
  rw [List.length_map] at this
  rw [this, rows_size R.rows]
theorem Tab.fits (R : Tab P w s.heap a L es ep t) : t.fits es.size = true := by
  have := R.room
  exact fits_of R.places R.tab.dm (by rw [rows_size R.rows]; omega)
theorem Tab.odd (R : Tab P w s.heap a L es ep t) : ¬ t.gaveWay = true := by
  unfold SetTable.gaveWay
  rw [mask_odd R.tab.mok]
  decide
/-- the c-th probe for a hash -/
abbrev prb (m : Nat) (h : Int) (c : Nat) : SetTable.Probe := nth m (runAt m (SetTable.bits h % (m + 1)) (SetTable.bits h)) c
theorem prb_clean (m : Nat) (h : Int) (c : Nat) : (prb m h c).dummy = none := by
  have key : ∀ (n : Nat) (p : SetTable.Probe), p.dummy = none → (nth m p n).dummy = none := by
    intro n
    induction n with
    | zero => exact fun _ e => e
    | succ n ih =>
      intro p e
      refine ih (adv m p) ?_
      unfold adv
      split <;> exact e
  exact key c _ rfl
theorem prb_on (m : Nat) (h : Int) (c q : Nat) : nth m (prb m h c) q = prb m h (c + q) := (nth_add m c _ q).symm
theorem prb_way (m : Nat) (h : Int) (c q : Nat) : (nth m (prb m h c) q).j = way m h (c + q) := congrArg SetTable.Probe.j (prb_on m h c q)
end
/-! the search -/
section
variable {P : Program} {w : World} {A : Around} {E : Value → Shared → Prop} {s : Shared} {a : Addr} {L : List Ent} {es : Array (Int × Value)} {ep : Nat} {t : SetTable}
/-- from the c-th probe on, f probes at most; z is the first empty place's number -/
theorem look_from (R : Tab P w s.heap a L es ep t) {x : Addr} {k : Tk} (hx : At P w s.heap k x) (hu : A.units < cLine) {z : Nat} (hz : z < 10 * SetTable.turns t.mask) (free : way t.mask (hsh P w k) z ∉ t.place.toList)
    (full : ∀ c, c < z → way t.mask (hsh P w k) c ∈ t.place.toList) {Q : SetFound → Shared → Prop} (yes : k ∈ L.map (·.2) → Q (.there none) s) (no : k ∉ L.map (·.2) → Q (.free (way t.mask (hsh P w k) z) false) s) :
    ∀ (f c : Nat) (at_ : Option SetTable.Probe), at_.getD (t.probeStart (hsh P w k)) = prb t.mask (hsh P w k) c → c ≤ z → z - c < f →
      (∀ (i : Nat) (p : Ent), L[i]? = some p → p.2 = k → ∃ d, c ≤ d ∧ d < z ∧ t.place.toList[i]? = some (way t.mask (hsh P w k) d)) →
      wpAny (model P w) A (setSearchFrom a (.ref x) (hsh P w k) true f at_) Q E s
  | 0, _, _, _, _, q, _ => absurd q (Nat.not_lt_zero _)
  | f + 1, c, at_, e0, cz, fz, ahead => by
    obtain ⟨o, ho, ex, hd⟩ := R.ob
    have fit := R.fits
    rw [setSearchFrom_succ]
    refine wpAny_bind (wpAny_setState_of ho hd fit ?_)
    dsimp only
    refine wp_if_neg R.odd ?_
    try refine wpAny_bind (wpAny_pure ?_)
    have hash_at : ∀ (i : Nat) (p : Ent), L[i]? = some p → (es[i]?.map (·.1)).getD 0 = hsh P w p.2 := fun i p hp => by
      rw [rows_get R.rows hp]
      rfl
    -- nothing of the key is passed by: where it stands ahead, its number is at least d's
    have probe := go_spec t R.tab.ris R.tab.dm (fun i => (es[i]?.map (·.1)).getD 0) (hsh P w k) (10 * SetTable.turns t.mask) (z - c) _ (prb_clean t.mask (hsh P w k) c) (by omega)
      (fun q hq => by rw [prb_way]; exact full (c + q) (by omega)) (by rw [prb_way, show c + (z - c) = z by omega]; exact free)
    rcases probe with ⟨q, i, hq, hi, _, before, hp⟩ | ⟨none_, hp⟩
    · rw [prb_way] at hi
      have hp2 : t.probe (fun i => (es[i]?.map (·.1)).getD 0) (hsh P w k) (at_.getD (t.probeStart (hsh P w k))) = some (.candidate (way t.mask (hsh P w k) (c + q)) i (prb t.mask (hsh P w k) (c + (q + 1)))) := by
        rw [e0, ← prb_way, ← prb_on]
        exact hp
      rw [hp2]
      dsimp only
      have il : i < L.length := by
        have h1 := (List.getElem?_eq_some_iff.mp hi).1
        rw [Array.length_toList, R.places, rows_size R.rows] at h1
        exact h1
      obtain ⟨p, lp⟩ : ∃ p, L[i]? = some p := ⟨_, List.getElem?_eq_getElem il⟩
      have pm := List.mem_of_getElem? lp
      have ent := rows_get R.rows lp
      have behind : wpAny (model P w) A (searchRest a (.ref x) (hsh P w k) true f es t (way t.mask (hsh P w k) (c + q)) i (prb t.mask (hsh P w k) (c + (q + 1)))) Q E s := by
        unfold searchRest
        rw [ent]
        dsimp only [rowOf]
        refine wpAny_bind (wpAny_holding (wpAny_eqBool_tuple hu (R.tup p pm) hx ?_))
        refine wpAny_bind (wpAny_setState_of ho hd fit ?_)
        dsimp only
        by_cases same : p.2 = k
        · refine wp_if_pos (by rw [decide_eq_true same]; rfl) (wpAny_pure (yes ?_))
          exact List.mem_map.mpr ⟨p, pm, same⟩
        · have nb : ¬ (true && decide (p.2 = k)) = true := by
            rw [decide_eq_false same]
            decide
          refine wp_if_neg nb ?_
          try refine wpAny_bind (wpAny_pure ?_)
          rw [sameMem]
          dsimp only
          have sl : t.slot (way t.mask (hsh P w k) (c + q)) = .live i := slot_live R.tab.ris hi
          simp only [if_true, sl, ent, rowOf]
          refine wpAny_bind (wpAny_isSame_ref_self (wpAny_bind (wpAny_pure ?_)))
          simp only [if_true]
          refine wp_if_neg (by rw [decide_eq_false same]; decide) ?_
          refine look_from R hx hu hz free full yes no f (c + (q + 1)) _ rfl (by omega) (by omega) fun i2 p2 l2 k2 => ?_
          obtain ⟨d, d1, d2, d3⟩ := ahead i2 p2 l2 k2
          refine ⟨d, ?_, d2, d3⟩
          by_cases g1 : d < c + q
          · refine absurd ?_ (before (d - c) i2 (by omega) (by rw [prb_way, show c + (d - c) = d by omega]; exact d3))
            exact (hash_at i2 p2 l2).trans (congrArg (hsh P w) k2)
          · by_cases g2 : d = c + q
            · rw [g2] at d3
              have s2 := slot_live R.tab.ris d3
              rw [sl] at s2
              injection s2 with s2
              rw [← s2, lp] at l2
              exact absurd ((congrArg Prod.snd (Option.some.inj l2)).trans k2) same
            · omega
      by_cases led : t.led = true
      · refine wp_if_neg (by rw [led]; decide) ?_
        try refine wpAny_bind (wpAny_pure ?_)
        exact behind
      · refine wp_if_pos (by simpa using led) (wpAny_bind (quiet_look hx (fun y hy => ?_) ?_))
        · obtain ⟨e, he, rfl⟩ := List.mem_map.mp hy
          have h1 : e ∈ es.toList := by
            have : e ∈ es ∧ e.1 = hsh P w k := by simpa using he
            simpa using this.1
          rw [R.rows] at h1
          obtain ⟨p2, hp2, rfl⟩ := List.mem_map.mp h1
          exact ⟨p2.2, p2.1, rfl, R.tup p2 hp2⟩
        · refine wp_if_neg (by decide) ?_
          try refine wpAny_bind (wpAny_pure ?_)
          exact behind
    · have hp2 : t.probe (fun i => (es[i]?.map (·.1)).getD 0) (hsh P w k) (at_.getD (t.probeStart (hsh P w k))) = some (.empty (way t.mask (hsh P w k) z) none) := by
        have e2 : way t.mask (hsh P w k) z = (nth t.mask (prb t.mask (hsh P w k) c) (z - c)).j := by
          rw [prb_way, show c + (z - c) = z by omega]
        rw [e0, e2]
        exact hp
      rw [hp2]
      refine wpAny_pure (no fun hm => ?_)
      obtain ⟨p, pm, pk⟩ := List.mem_map.mp hm
      obtain ⟨i, hi, ei⟩ := List.getElem_of_mem pm
      have lp : L[i]? = some p := by rw [List.getElem?_eq_getElem hi, ei]
      obtain ⟨d, d1, d2, d3⟩ := ahead i p lp pk
      exact none_ (d - c) i (by omega) (by rw [prb_way, show c + (d - c) = d by omega]; exact d3) ((hash_at i p lp).trans (congrArg (hsh P w) pk))
theorem look (R : Tab P w s.heap a L es ep t) {x : Addr} {k : Tk} (hx : At P w s.heap k x) (hu : A.units < cLine) {Q : SetFound → Shared → Prop} (yes : k ∈ L.map (·.2) → Q (.there none) s)
    (no : ∀ z, k ∉ L.map (·.2) → way t.mask (hsh P w k) z ∉ t.place.toList → (∀ c, c < z → way t.mask (hsh P w k) c ∈ t.place.toList) → Q (.free (way t.mask (hsh P w k) z) false) s) :
    wpAny (model P w) A (setSearch a (.ref x) (hsh P w k) true) Q E s := by
  have hr := R.room
  obtain ⟨z, hz, free, full⟩ := R.tab.first (by rw [List.length_map]; omega) (hsh P w k)
  have top : 10 * SetTable.turns t.mask ≤ 1420 := by
    unfold SetTable.turns
    rcases R.tab.mok with e | e | e <;> omega
  unfold setSearch
  refine look_from R hx hu hz free full yes (fun hn => no z hn free full) 100000 0 none rfl (Nat.zero_le _) (by omega) fun i p lp pk => ?_
  have hi : (L.map fun p => hsh P w p.2)[i]? = some (hsh P w k) := by
    rw [List.getElem?_map, lp, ← pk]
    rfl
  have il : i < t.place.toList.length := by
    rw [Array.length_toList, R.places, rows_size R.rows]
    exact (List.getElem?_eq_some_iff.mp lp).1
  obtain ⟨d, hd, ed⟩ := R.tab.before free hi (List.getElem?_eq_getElem il)
  exact ⟨d, Nat.zero_le _, hd, by rw [ed]; exact List.getElem?_eq_getElem il⟩
end
/-! adding -/
section
variable {P : Program} {w : World} {A : Around} {E : Value → Shared → Prop} {s : Shared} {a : Addr} {L : List Ent} {es : Array (Int × Value)} {ep : Nat} {t : SetTable}
theorem At.other {h h2 : Heap} {k : Tk} {b : Addr} {o : Obj} (x : At P w h k b) (ho : h.get? a = some o) (hd : o.data = .set es ep t) (sb : Heap.SameBut a h h2) : At P w h2 k b := by
  obtain ⟨o2, its, n, e, hc, d2, hi⟩ := x
  have ne : b ≠ a := by
    rintro rfl
    rw [ho] at e
    cases e
    rw [hd] at d2
    cases d2
  exact ⟨o2, its, n, by rw [sb.2 b ne]; exact e, hc, d2, hi⟩
/-- the rows in another order -/
theorem rows_perm (hr : es.toList = L.map (rowOf P w)) {order : Array Nat} (hp : order.toList.Perm (List.range L.length)) :
    ∃ L2 : List Ent, (order.filterMap (es[·]?)).toList = L2.map (rowOf P w) ∧ L2.Perm L ∧ (L2.map fun p => hsh P w p.2) = order.toList.map fun i => (es.map (·.1)).getD i 0 := by
  have each : ∀ is : List Nat, (∀ i ∈ is, i < L.length) → is.filterMap (fun i => es[i]?) = (is.filterMap fun i => L[i]?).map (rowOf P w) ∧ ((is.filterMap fun i => L[i]?).map fun p => hsh P w p.2) = is.map fun i => (es.map (·.1)).getD i 0 := by
    intro is
    induction is with
    | nil => exact fun _ => ⟨rfl, rfl⟩
    | cons i is ih =>
      intro hl
      obtain ⟨h1, h2⟩ := ih fun j hj => hl j (List.mem_cons_of_mem _ hj)
      have e := List.getElem?_eq_getElem (hl i List.mem_cons_self)
      have e2 := rows_get hr e
      have e3 : (es.map (·.1)).getD i 0 = hsh P w (L[i]'(hl i List.mem_cons_self)).2 := by
        rw [Array.getD_eq_getD_getElem?, Array.getElem?_map, e2]
        rfl
      constructor
      · rw [List.filterMap_cons_some e2, List.filterMap_cons_some e, h1]
        rfl
      · rw [List.filterMap_cons_some e, List.map_cons, List.map_cons, h2, e3]
  have whole : ∀ n, n ≤ L.length → (List.range n).filterMap (fun i => L[i]?) = L.take n := by
    intro n
    induction n with
    | zero => exact fun _ => rfl
    | succ n ih =>
      intro hn
      have e := List.getElem?_eq_getElem (show n < L.length from hn)
      rw [List.range_succ, List.filterMap_append, ih (Nat.le_of_lt hn), List.take_add_one, e, List.filterMap_cons_some e]
      rfl
  obtain ⟨h1, h2⟩ := each order.toList fun i hi => List.mem_range.mp (hp.mem_iff.mp hi)
  refine ⟨_, ?_, ?_, h2⟩
  · rw [Array.toList_filterMap]
    exact h1
  · have := hp.filterMap fun i => L[i]?
    rw [whole _ (Nat.le_refl _), List.take_length] at this
    exact this
/-- the table laid anew for as many as wanted -/
theorem relay {o : Obj} (ho : s.heap.get? a = some o) (ex : o.ExactSet) (hd : o.data = .set es ep t) (hr : es.toList = L.map (rowOf P w)) (hsz : t.place.size = es.size) (hdm : t.dummies = #[]) (hm : es.size ≤ t.mask)
    (nd : (L.map (·.2)).Nodup) (tup : ∀ p ∈ L, At P w s.heap p.2 p.1) {wanted M : Nat} (hw : SetTable.sizeAbove wanted - 1 = M) (hM : MaskOk M) (small : SetTable.sizeAbove wanted ≤ 128) (room : L.length * 5 < M * 3) {Q : Unit → Shared → Prop}
    (hQ : ∀ h2 L2 es2 ep2 t2, Heap.SameBut a s.heap h2 → Tab P w h2 a L2 es2 ep2 t2 → L2.Perm L → t2.led = t.led → Q () { s with heap := h2 }) : wpAny (model P w) A (setRelay a wanted) Q E s := by
  have sz := rows_size hr
  obtain ⟨t2, order, e, perm, T, em, eled, _, ed⟩ := relaid_ok t (hs := es.map (·.1)) (wanted := wanted) hw hM (by rw [Array.size_map, sz]; omega)
  rw [Array.size_map, sz] at perm
  obtain ⟨L2, r1, r2, r3⟩ := rows_perm hr perm
  rw [← r3] at T
  have sz2 : (order.filterMap (es[·]?)).size = es.size := by
    rw [rows_size r1, sz]
    exact r2.length_eq
  rw [setRelay_eq]
  refine wpAny_bind (wpAny_setState_of ho hd (fits_of hsz hdm hm) ?_)
  dsimp only
  refine wp_if_neg (by rw [sizeLine_eq]; omega) ?_
  try refine wpAny_bind (wpAny_pure ?_)
  rw [e]
  dsimp only
  refine wpAny_bind (wp_if_neg (by rw [sz2]; simp) ?_)
  try refine wpAny_bind (wpAny_pure ?_)
  refine wpAny_pure ?_
  dsimp only
  have l2 : L.length < 128 := by
    rcases hM with e | e | e <;> omega
  refine wpAny_storeSet_of ho hd ?_ (by rw [sz2, sz, sizeLine_eq]; omega)
  have sb : Heap.SameBut a s.heap (s.heap.update a (Obj.putSet (order.filterMap (es[·]?)) t2)) := Heap.SameBut.update ..
  refine hQ _ L2 _ (ep + 1) t2 sb ⟨⟨_, store_at ho hd, ⟨ex.1, ex.2.1, ex.2.2⟩, rfl⟩, r1, T, ?_, fun p hp => (tup p (r2.mem_iff.mp hp)).other ho hd sb, ?_⟩ r2 ?_
  · exact (r2.map (·.2)).nodup_iff.mpr nd
  · rw [r2.length_eq, em]
    exact room
  · exact eled
theorem add (R : Tab P w s.heap a L es ep t) {x : Addr} {k : Tk} (hx : At P w s.heap k x) (hu : A.units < cLine) (few : L.length + 1 ≤ 75) {Q : Bool → Shared → Prop}
    (hQ : ∀ b h2 L2 es2 ep2 t2, Heap.SameBut a s.heap h2 → Tab P w h2 a L2 es2 ep2 t2 → (k ∈ L.map (·.2) → L2 = L) → (k ∉ L.map (·.2) → L2.Perm ((x, k) :: L)) → t2.led = t.led → Q b { s with heap := h2 }) :
    wpAny (model P w) A (setAddHashed a (.ref x) (hsh P w k)) Q E s := by
  obtain ⟨o, ho, ex, hd⟩ := R.ob
  have fit := R.fits
  have sz := rows_size R.rows
  have room := R.room
  unfold setAddHashed
  refine wpAny_holding ?_
  rw [show (100000 : Nat) = 99999 + 1 from rfl, setAddHashedIn_succ]
  refine wpAny_bind (wpAny_setState_of ho hd fit ?_)
  dsimp only
  refine wp_if_neg (by simp [byScan, Value.scannable]) ?_
  try refine wpAny_bind (wpAny_pure ?_)
  refine wpAny_bind (look R hx hu (fun hm => ?_) fun z hm free full => ?_)
  · exact wpAny_pure (hQ false s.heap L es ep t (Heap.SameBut.refl a s.heap) R (fun _ => rfl) (fun q => absurd hm q) rfl)
  dsimp only
  refine wpAny_bind (wpAny_setState_of ho hd fit ?_)
  dsimp only
  obtain ⟨q1, _, T1, mask1, led1, _, _, _, fill1⟩ := R.tab.put free full
  generalize t.put (way t.mask (hsh P w k) z) = pt at q1 T1 mask1 led1 fill1 ⊢
  obtain ⟨t1, at1⟩ := pt
  dsimp only at q1 T1 mask1 led1 fill1 ⊢
  rw [← q1] at T1
  have rows1 : (SetTable.insertAt es at1 (hsh P w k, Value.ref x)).toList = (L.take at1 ++ (x, k) :: L.drop at1).map (rowOf P w) := by
    rw [SetTable.toList_insertAt, R.rows, List.map_append, List.map_cons, List.map_take, List.map_drop]
    rfl
  have pm := put_perm L at1 (x, k)
  have hs1 : (L.take at1 ++ (x, k) :: L.drop at1).map (fun p => hsh P w p.2) = (L.map fun p => hsh P w p.2).take at1 ++ hsh P w k :: (L.map fun p => hsh P w p.2).drop at1 := by
    rw [List.map_append, List.map_cons, List.map_take, List.map_drop]
  rw [← hs1] at T1
  generalize L.take at1 ++ (x, k) :: L.drop at1 = L1 at pm rows1 T1
  have len1 : L1.length = L.length + 1 := pm.length_eq
  have nd1 : (L1.map (·.2)).Nodup := by
    refine (pm.map (·.2)).nodup_iff.mpr ?_
    rw [List.map_cons, List.nodup_cons]
    exact ⟨hm, R.nd⟩
  generalize SetTable.insertAt es at1 (hsh P w k, Value.ref x) = es1 at rows1 ⊢
  have sz1 : es1.size = L.length + 1 := by rw [rows_size rows1, len1]
  -- the rest, whatever is told of the hash
  have rest : ∀ t2 : SetTable, t2.place = t1.place → t2.dummies = t1.dummies → t2.mask = t1.mask → t2.led = t1.led →
      wpAny (model P w) A (do
        storeSet a es1 t2
        if t2.tooFull then setRelay a (SetTable.grown (es.size + 1))
        return true) Q E s := fun t2 ep_ ed_ em_ el_ => by
    have T2 : TabOk t2 (L1.map fun p => hsh P w p.2) := by
      refine ⟨by rw [ep_]; exact T1.ris, by rw [ed_]; exact T1.dm, by rw [ep_]; exact T1.sz, by rw [em_]; exact T1.mok, by rw [ep_, em_]; exact T1.bd, ?_⟩
      rw [ep_, em_]
      exact T1.reach
    have m2 : t2.mask = t.mask := em_.trans mask1
    have f2 : t2.fill = L.length + 1 := by
      have := fill1
      rw [List.length_map] at this
      unfold SetTable.fill at this ⊢
      rw [ep_, ed_]
      exact this
    refine wpAny_bind (wpAny_storeSet_of ho hd ?_ (by rw [sz1, sizeLine_eq]; omega))
    have sb : Heap.SameBut a s.heap (s.heap.update a (Obj.putSet es1 t2)) := Heap.SameBut.update ..
    have ho1 := store_at (es' := es1) (t' := t2) ho hd
    generalize s.heap.update a (Obj.putSet es1 t2) = h1 at sb ho1 ⊢
    have tup1 : ∀ p ∈ L1, At P w h1 p.2 p.1 := fun p hp => by
      rcases List.mem_cons.mp (pm.mem_iff.mp hp) with rfl | hp
      · exact hx.other ho hd sb
      · exact (R.tup p hp).other ho hd sb
    by_cases full2 : t2.tooFull = true
    · have bound : (L.length + 1) * 5 ≥ t.mask * 3 := by
        have := full2
        unfold SetTable.tooFull at this
        rw [decide_eq_true_eq, f2, m2] at this
        exact this
      have go : ∀ M, SetTable.sizeAbove (SetTable.grown (L.length + 1)) - 1 = M → MaskOk M → SetTable.sizeAbove (SetTable.grown (L.length + 1)) ≤ 128 → (L.length + 1) * 5 < M * 3 →
          wpAny (model P w) A (setRelay a (SetTable.grown (L.length + 1))) (fun _ s2 => wpAny (model P w) A (pure true) Q E s2) E { s with heap := h1 } := fun M hw hM hsm hro => by
        refine relay (s := { s with heap := h1 }) ho1 ⟨ex.1, ex.2.1, ex.2.2⟩ rfl rows1 ?_ T2.dm ?_ nd1 tup1 hw hM hsm (by rw [len1]; exact hro) fun h2 L2 es2 ep2 t3 sb2 R2 pm2 el3 => ?_
        · have := T2.sz
          rw [List.length_map, len1] at this
          rw [this, sz1]
        · rw [sz1, m2]
          rcases R.tab.mok with e | e | e <;> omega
        · exact wpAny_pure (hQ true h2 L2 es2 ep2 t3 (sb.trans sb2) R2 (fun q => absurd q hm) (fun _ => pm2.trans pm) (el3.trans (el_.trans led1)))
      have two : (t.mask = 7 ∧ L.length = 4) ∨ (t.mask = 31 ∧ L.length = 18) := by
        rcases R.tab.mok with e | e | e <;> rw [e] at bound room
        · exact .inl ⟨e, by omega⟩
        · exact .inr ⟨e, by omega⟩
        · omega
      rw [sz]
      first
        | (refine wpAny_bind ?_; refine wp_if_pos full2 ?_)
        | (refine wp_if_pos full2 ?_; refine wpAny_bind ?_)
      rcases two with ⟨_, e⟩ | ⟨_, e⟩
      · exact go 31 (by rw [e, size_20]) (.inr (.inl rfl)) (by rw [e, size_20]; decide) (by omega)
      · exact go 127 (by rw [e, size_76]) (.inr (.inr rfl)) (by rw [e, size_76]; decide) (by omega)
    · first
        | refine wp_if_neg full2 ?_
        | (refine wpAny_bind ?_; refine wp_if_neg full2 ?_; refine wpAny_pure ?_)
      refine wpAny_pure (hQ true h1 L1 es1 (ep + 1) t2 sb ⟨⟨_, ho1, ⟨ex.1, ex.2.1, ex.2.2⟩, rfl⟩, rows1, T2, nd1, tup1, ?_⟩ (fun q => absurd q hm) (fun _ => pm) (el_.trans led1))
      have := full2
      unfold SetTable.tooFull at this
      rw [decide_eq_true_eq, f2] at this
      rw [len1]
      omega
  have step : ∀ c : Bool, wpAny (model P w) A (do
        storeSet a es1 (if c then t1 else { t1 with plain := false })
        if !false && (if c then t1 else { t1 with plain := false }).tooFull then setRelay a (SetTable.grown (es.size + 1))
        return true) Q E s := fun c => by
    rw [show (!false) = true from rfl]
    simp only [Bool.true_and]
    cases c
    · exact rest { t1 with plain := false } rfl rfl rfl rfl
    · exact rest t1 rfl rfl rfl rfl
  by_cases pl : t1.plain = true
  · first
      | (refine wpAny_bind ?_; refine wp_if_pos pl ?_; exact byv_tuple hx step)
      | exact wp_if_pos pl (wpAny_bind (byv_tuple hx step))
  · first
      | (refine wpAny_bind ?_; refine wp_if_neg pl ?_; exact wpAny_pure (step true))
      | exact wp_if_neg pl (wpAny_bind (wpAny_pure (step true)))
end
/-! filling -/
section
variable {P : Program} {w : World} {A : Around} {E : Value → Shared → Prop} {s : Shared}
/-- of the first i: each of what is there is one of them, each of them has its like there -/
structure Has (ks : List Ent) (i : Nat) (L : List Ent) : Prop where
  sub : ∀ p ∈ L, p ∈ ks.take i
  all : ∀ p ∈ ks.take i, p.2 ∈ L.map (·.2)
theorem Has.next {ks L L2 : List Ent} {i : Nat} {x : Ent} (g : Has ks i L) (h : ks[i]? = some x) (old : x.2 ∈ L.map (·.2) → L2 = L) (new : x.2 ∉ L.map (·.2) → L2.Perm (x :: L)) : Has ks (i + 1) L2 := by
  have e : ks.take (i + 1) = ks.take i ++ [x] := by
    rw [List.take_add_one, h]
    rfl
  by_cases c : x.2 ∈ L.map (·.2)
  · rw [old c]
    refine ⟨fun p hp => by rw [e]; exact List.mem_append_left _ (g.sub p hp), fun p hp => ?_⟩
    rw [e] at hp
    rcases List.mem_append.mp hp with hp | hp
    · exact g.all p hp
    · rw [List.mem_singleton.mp hp]
      exact c
  · have pm := new c
    refine ⟨fun p hp => ?_, fun p hp => ?_⟩
    · rw [e]
      rcases List.mem_cons.mp (pm.mem_iff.mp hp) with rfl | hp
      · exact List.mem_append_right _ (List.mem_singleton.mpr rfl)
      · exact List.mem_append_left _ (g.sub p hp)
    · rw [(pm.map (·.2)).mem_iff, List.map_cons]
      rw [e] at hp
      rcases List.mem_append.mp hp with hp | hp
      · exact List.mem_cons_of_mem _ (g.all p hp)
      · rw [List.mem_singleton.mp hp]
        exact List.mem_cons_self
theorem Has.keys {ks L : List Ent} {i : Nat} (g : Has ks i L) (k : Tk) : k ∈ L.map (·.2) ↔ k ∈ uniq ((ks.take i).map (·.2)) := by
  rw [mem_uniq]
  constructor
  · intro h
    obtain ⟨p, hp, rfl⟩ := List.mem_map.mp h
    exact List.mem_map.mpr ⟨p, g.sub p hp, rfl⟩
  · intro h
    obtain ⟨p, hp, rfl⟩ := List.mem_map.mp h
    exact g.all p hp
theorem nodup_le {α : Type} [DecidableEq α] : ∀ {l d : List α}, l.Nodup → (∀ x ∈ l, x ∈ d) → l.length ≤ d.length
  | [], _, _, _ => Nat.zero_le _
  | x :: l, d, nd, h => by
    have hx := h x List.mem_cons_self
    rw [List.nodup_cons] at nd
    have := nodup_le (l := l) (d := d.erase x) nd.2 fun y hy => (List.mem_erase_of_ne fun e : y = x => nd.1 (by rw [← e]; exact hy)).mpr (h y (List.mem_cons_of_mem _ hy))
    rw [List.length_erase_of_mem hx] at this
    have : 0 < d.length := List.length_pos_of_mem hx
    rw [List.length_cons]
    omega
theorem addU_nd {K : Type} [DecidableEq K] {l : List K} {k : K} (h : l.Nodup) : (addU l k).Nodup := by
  unfold addU
  split
  · exact h
  · rename_i c
    exact List.nodup_append.mpr ⟨h, by simp, fun a ha b hb e => c (by rw [List.mem_singleton.mp hb] at e; exact e ▸ ha)⟩
theorem uniq_nd {K : Type} [DecidableEq K] (ks : List K) : (uniq ks).Nodup := by
  induction ks using rev_ind with
  | h0 => exact List.nodup_nil
  | h1 l k ih =>
    rw [uniq_snoc]
    exact addU_nd ih
theorem Has.len {ks L : List Ent} {i : Nat} (g : Has ks i L) (nd : (L.map (·.2)).Nodup) : L.length = (uniq ((ks.take i).map (·.2))).length := by
  have := ((List.perm_ext_iff_of_nodup nd (uniq_nd _)).mpr g.keys).length_eq
  rw [List.length_map] at this
  exact this
theorem At.keep {h h2 : Heap} {k : Tk} {b : Addr} (x : At P w h k b) (m : ∀ c o, h.get? c = some o → h2.get? c = some o) : At P w h2 k b := by
  obtain ⟨o, its, n, ho, r⟩ := x
  exact ⟨o, its, n, m b o ho, r⟩
theorem Tab.keep {h h2 : Heap} {a : Addr} {L : List Ent} {es : Array (Int × Value)} {ep : Nat} {t : SetTable} (R : Tab P w h a L es ep t) (m : ∀ o, h.get? a = some o → h2.get? a = some o) (tup : ∀ p ∈ L, At P w h2 p.2 p.1) : Tab P w h2 a L es ep t := by
  obtain ⟨o, ho, r⟩ := R.ob
  exact ⟨⟨o, m o ho, r⟩, R.rows, R.tab, R.nd, tup, R.room⟩
theorem tab_fresh {h : Heap} {a : Addr} {led : Bool} (ho : h.get? a = some (fresh led)) : Tab P w h a [] #[] 0 (.fresh 0 0 led) where
  ob := ⟨_, ho, ⟨rfl, rfl, rfl⟩, rfl⟩
  rows := rfl
  tab := ⟨List.Pairwise.nil, rfl, rfl, .inl rfl, fun x hx => (by cases hx), fun i h j hi => (by simp at hi)⟩
  nd := List.nodup_nil
  tup := fun p hp => (by cases hp)
  room := (by show 0 * 5 < 7 * 3; decide)
variable {R : Result → Shared → Prop} {I S : Addr} {fp wr : List Addr} {G : Array GenState → Array GenState → Prop} {n : Nat} {Pi : Nat → Value → Prop} {St : Nat → Shared → Prop}
theorem fillT (W : WalksS P w A.in1 I fp wr G n Pi St) (hS : S ∉ fp) (ks : List Ent) (hn : ks.length = n) (few : (uniq (ks.map (·.2))).length ≤ 74) (hval : ∀ i v, Pi i v → ∃ p, ks[i]? = some p ∧ v = .ref p.1)
    (h0 : Heap) (hk : ∀ p ∈ ks, At P w h0 p.2 p.1) (nS : h0.get? S = none) (nw : ∀ b ∈ wr, h0.get? b = none) (hu : A.in1.units < cLine) :
    ∀ (left i : Nat) (s : Shared), left = n - i → i ≤ n → St i s → (∀ b o, h0.get? b = some o → s.heap.get? b = some o) → (∃ L es ep t, Tab P w s.heap S L es ep t ∧ Has ks i L) →
      (∀ s2 L es ep t, Moved (S :: wr) G s s2 → Tab P w s2.heap S L es ep t → Has ks n L → (∀ b o, h0.get? b = some o → s2.heap.get? b = some o) → R (.ok (.ret .none)) s2) →
      codeAny (model P w) A (.builtin "set.update.loop" ⟨[.ref S, .ref I], []⟩) R s := by
  have hw : S ∉ wr := fun q => hS (W.sub _ q)
  have more : ∀ b ∈ wr, b ∈ S :: wr := fun b hb => List.mem_cons_of_mem _ hb
  have still : ∀ {s s2 : Shared}, Moved wr G s s2 → (∀ b o, h0.get? b = some o → s.heap.get? b = some o) → ∀ b o, h0.get? b = some o → s2.heap.get? b = some o := fun mv m b o e =>
    mv.heap b o (fun hb => by rw [nw b hb] at e; cases e) (m b o e)
  intro left
  induction left with
  | zero =>
    intro i s hl hi st m ⟨L, es, ep, t, T, g⟩ hR
    obtain rfl : i = n := by omega
    refine codeAny_builtin PyProof.Rows.F.entry_set_update_loop ?_
    rw [Around.under_plainId PyProof.Rows.F.plain_set_update_loop _]
    refine wpAny_bind (W.done s _ _ st fun s2 mv => ?_)
    have m2 := still mv m
    exact wpAny_pure (hR s2 L es ep t (mv.mono more) (T.keep (fun o e => mv.heap S o hw e) fun p hp => (hk p (List.mem_of_mem_take (g.sub p hp))).keep m2) g m2)
  | succ left ih =>
    intro i s hl hi st m ⟨L, es, ep, t, T, g⟩ hR
    have lt : i < n := by omega
    refine codeAny_builtin PyProof.Rows.F.entry_set_update_loop ?_
    rw [Around.under_plainId PyProof.Rows.F.plain_set_update_loop _]
    refine wpAny_bind (W.item i s _ _ lt st fun v s1 hv st1 mv => ?_)
    obtain ⟨p, hp, rfl⟩ := hval i v hv
    have m1 := still mv m
    have T1 : Tab P w s1.heap S L es ep t := T.keep (fun o e => mv.heap S o hw e) fun q hq => (hk q (List.mem_of_mem_take (g.sub q hq))).keep m1
    have hx : At P w s1.heap p.2 p.1 := (hk p (List.mem_of_getElem? hp)).keep m1
    refine wpAny_bind (wpAny_holding ?_)
    unfold setAdd
    refine wpAny_holding (wpAny_bind (wpAny_pyHash_tuple hu hx ?_))
    have le : L.length ≤ 74 := by
      refine Nat.le_trans ?_ few
      rw [g.len T.nd]
      -- what is unlike among the first is unlike among all
      have sub : ∀ k ∈ uniq ((ks.take i).map (·.2)), k ∈ uniq (ks.map (·.2)) := fun k hk2 => by
        rw [mem_uniq] at hk2 ⊢
        obtain ⟨q, hq, rfl⟩ := List.mem_map.mp hk2
        exact List.mem_map.mpr ⟨q, List.mem_of_mem_take hq, rfl⟩
      exact nodup_le (uniq_nd _) sub
    refine add (s := { s1 with toks := s1.toks + (p.2.length + 1) }) T1 hx hu (by omega) fun b h2 L2 es2 ep2 t2 sb T2 c1 c2 _ => ?_
    have m2 : ∀ b o, h0.get? b = some o → h2.get? b = some o := fun b o e => by
      rw [sb.2 b fun z => by rw [z, nS] at e; cases e]
      exact m1 b o e
    refine wpAny_pure ⟨plainId_quiet PyProof.Rows.F.plain_set_update_loop _, ih (i + 1) _ (by omega) lt (W.frame _ s1 _ _ st1 (Nat.le_add_right _ _) fun b hb o e => ?_) m2 ⟨L2, es2, ep2, t2, T2, g.next hp c1 c2⟩ fun s3 L3 es3 ep3 t3 mv3 T3 g3 m3 => ?_⟩
    · rw [sb.2 b fun q => hS (q ▸ hb)]
      exact e
    · refine hR s3 L3 es3 ep3 t3 (Moved.trans W.gtrans ((mv.mono more).then_heap (Nat.le_add_right _ _) fun b o hb e => ?_) mv3) T3 g3 m3
      rw [sb.2 b fun q => hb (q ▸ List.mem_cons_self)]
      exact e
/-- what set(..) of tuples is to leave -/
def LeftT (P : Program) (w : World) (s : Shared) (ks : List Ent) (s2 : Shared) : Prop :=
  ∃ h2 tk L es ep t, s2 = { s with heap := h2, toks := tk } ∧ Tab P w h2 s.heap.objs.size L es ep t ∧ Has ks ks.length L ∧ ∀ b o, s.heap.get? b = some o → h2.get? b = some o
/-- set(x), given what its __init__ does with the new set -/
theorem set_by_init {x : Value} {Z : Shared → Prop} {Q : Value → Shared → Prop}
    (hinit : ∀ (led : Bool) (B : Around), (A.handled = none → B.handled = none) → B.units ≤ A.units + 8 → wpAny (model P w) B (Builtin.«set.__init__» ⟨[.ref s.heap.objs.size, x], []⟩)
      (fun r s2 => r = .done (.ret .none) ∧ Z s2) E { s with heap := s.heap.push (fresh led) })
    (h : ∀ s2, Z s2 → Q (.ref s.heap.objs.size) s2) : wpAny (model P w) A (call (.type "set") [x]) Q E s := by
  obtain ⟨c, tl, hmro⟩ := PySem.F.called_set.mro
  have a1 := PySem.F.called_set.made
  have a2 := PySem.F.called_set.sub
  refine wpAny_call (codeAny_of_tree ?_)
  refine wpAny_pure ⟨Code.quiet_builtin _ (by decide +kernel), codeAny_builtin PySem.F.entry_type_call ?_⟩
  rw [Around.under_plain (weight_type_call_type "set" [x] []) rfl]
  have a3 := PySem.F.called_set.notType
  have a4 := PySem.F.called_set.canCreate
  have a5 := PySem.F.typeCall_set_1 x
  repeat (any_goals (first | assumption | wp_step))
  refine codeAny_mono (code_set_new_1 x (E := E) (Q₁ := fun o s1 => ∃ led : Bool, o = .ref s.heap.objs.size ∧ s1 = { s with heap := s.heap.push (fresh led) }) fun led => ⟨led, rfl, rfl⟩) fun r s1 hr => ?_
  cases r with
  | error e => exact hr
  | ok fl =>
    cases fl with
    | ret o =>
      obtain ⟨led, rfl, rfl⟩ := hr
      have at1 : (s.heap.push (fresh led)).get? s.heap.objs.size = some (fresh led) := Heap.get?_push_size _ rfl
      have ty1 : Shared.TypeIs { s with heap := s.heap.push (fresh led) } (.ref s.heap.objs.size) "set" := ⟨_, at1, rfl⟩
      have a6 := PySem.F.called_set.init.lookup
      have a7 := PySem.F.called_set.init.bind (.ref s.heap.objs.size)
      repeat (any_goals (first | assumption | wp_step))
      refine codeAny_mono (codeAny_call_builtin (R := wants (fun r s2 => r = .none ∧ Z s2) E) PySem.F.called_set.init.plain PySem.F.entry_set_init (check_set_init_1 ty1 ?_)) fun r2 s2 hr2 => ?_
      · refine wpAny_mono (hinit led _ (fun q => ?_) ?_) (fun r s2 z => ?_) (fun _ _ z => z)
        · simp [q]
        · simp [Around.units]
        · obtain ⟨rfl, z⟩ := z
          exact ⟨rfl, z⟩
      · cases r2 with
        | error e => exact hr2
        | ok f2 =>
          cases f2 with
          | ret r =>
            obtain ⟨rfl, z⟩ := hr2
            repeat (any_goals (first | assumption | wp_step))
            exact h _ z
          | _ => exact hr2.elim
    | _ => exact hr.elim
end
end Km
namespace Km
open PySem PySem.Spec PyProof.Rows L2
section
variable {P : Program} {w : World} {A : Around} {E : Value → Shared → Prop} {s : Shared}
theorem none_from {h : Heap} (b : Addr) (hb : h.objs.size ≤ b) : h.get? b = none := by
  cases q : h.get? b with
  | none => rfl
  | some o => exact absurd (Nat.lt_of_lt_of_le (Heap.lt_size q) hb) (Nat.lt_irrefl _)
theorem ents_at {items : Array Value} {ks : List Ent} (e : items.toList = ks.map fun p => Value.ref p.1) (i : Nat) (v : Value) (hv : items[i]? = some v) : ∃ p, ks[i]? = some p ∧ v = .ref p.1 := by
  rw [← Array.getElem?_toList, e, List.getElem?_map] at hv
  cases hq : ks[i]? with
  | none =>
    rw [hq] at hv
    cases hv
  | some p =>
    rw [hq] at hv
    exact ⟨p, rfl, (Option.some.inj hv).symm⟩
/-- set.__init__ over a list of tuples -/
theorem initT_list {l : Addr} {items : Array Value} {ks : List Ent} (led : Bool) (hh : A.handled = none) (hu : A.units + 2 < cLine) (hl : s.heap.IsList l items) (hit : items.toList = ks.map fun p => Value.ref p.1)
    (hk : ∀ p ∈ ks, At P w s.heap p.2 p.1) (few : (uniq (ks.map (·.2))).length ≤ 74) :
    wpAny (model P w) A (Builtin.«set.__init__» ⟨[.ref s.heap.objs.size, .ref l], []⟩) (fun r s2 => r = .done (.ret .none) ∧ LeftT P w s ks s2) E { s with heap := s.heap.push (fresh led) } := by
  have at1 : (s.heap.push (fresh led)).get? s.heap.objs.size = some (fresh led) := Heap.get?_push_size _ rfl
  have ty1 : Shared.TypeIs { s with heap := s.heap.push (fresh led) } (.ref s.heap.objs.size) "set" := ⟨_, at1, rfl⟩
  obtain ⟨⟨oc, odict, od, osl⟩, ho, hc, nl, hd⟩ := hl
  simp only at hc hd
  subst hc hd
  have ho1 : (s.heap.push (fresh led)).get? l = some { cls := .type "list", dict := odict, data := .seq items nl, slots := osl } := Heap.get?_push_of_some _ ho
  have b1 := PySem.F.sub_list_set
  have b2 := PySem.F.sub_list_frozenset
  have b3 : (Value.type "list" == Value.type "dict") = false := by decide
  have hl1 : (s.heap.push (fresh led)).IsList l items := ⟨_, ho1, rfl, nl, rfl⟩
  have hn : ks.length = items.size := by
    rw [← Array.length_toList, hit, List.length_map]
  unfold Builtin.«set.__init__» noKeywords Builtin.Frozenset.updateFrom
  generalize hPI : pyIter = PI
  wp_walk
  subst hPI
  refine wpAny_pyIter_list hl1 ?_
  refine wpAny_bind (wpAny_runValue ?_)
  have lS : l < s.heap.objs.size := Heap.lt_size ho
  have h1 : A.in1.handled = none := by simp [hh]
  have sz : (s.heap.push (fresh led)).objs.size = s.heap.objs.size + 1 := Heap.size_push ..
  have nI : l ≠ (s.heap.push (fresh led)).objs.size := by
    rw [sz]
    exact Nat.ne_of_lt (Nat.lt_succ_of_lt lS)
  have nf : s.heap.objs.size ∉ [(s.heap.push (fresh led)).objs.size, l] := by
    rw [sz]
    intro q
    rcases List.mem_cons.mp q with q | q
    · exact absurd q (Nat.ne_of_lt (Nat.lt_succ_self _))
    · exact absurd (List.mem_singleton.mp q) (Nat.ne_of_gt lS)
  refine fillT ((Walks.list h1 _ l nI items).toS) nf ks hn few (ents_at hit) s.heap hk (none_from _ (Nat.le_refl _)) (fun b hb => none_from b (by
    rw [List.mem_singleton.mp hb, sz]
    exact Nat.le_succ _)) (by simp [Around.units] at hu ⊢; omega) (items.size - 0) 0 _ rfl (Nat.zero_le _) ⟨⟨_, Heap.get?_push_size _ rfl, rfl, rfl⟩, hl1.push _⟩ (fun b o e => Heap.get?_push_of_some _ (Heap.get?_push_of_some _ e)) ?_ ?_
  · have at2 : ((s.heap.push (fresh led)).push { cls := .type "list_iterator", data := .fields #[.ref l, .int 0 0] }).get? s.heap.objs.size = some (fresh led) := Heap.get?_push_of_some _ at1
    exact ⟨[], #[], 0, _, tab_fresh at2, ⟨fun p h => (by cases h), fun p h => (by simp at h)⟩⟩
  · intro s2 L es ep t mv T g m
    obtain ⟨h2, g2, d2, t2, o2⟩ := s2
    obtain rfl : g2 = s.gens := mv.gens
    obtain rfl : d2 = s.drawn := mv.drawn
    obtain rfl : o2 = s.os := mv.os
    rw [← hn] at g
    exact wpAny_pure (wpAny_pure ⟨rfl, h2, t2, L, es, ep, t, rfl, T, g, m⟩)
/-- set.__init__ over a tuple of tuples -/
theorem initT_tuple {l : Addr} {items : Array Value} {ks : List Ent} (led : Bool) (hh : A.handled = none) (hu : A.units + 2 < cLine) (hl : s.heap.IsTuple l items) (hit : items.toList = ks.map fun p => Value.ref p.1)
    (hk : ∀ p ∈ ks, At P w s.heap p.2 p.1) (few : (uniq (ks.map (·.2))).length ≤ 74) :
    wpAny (model P w) A (Builtin.«set.__init__» ⟨[.ref s.heap.objs.size, .ref l], []⟩) (fun r s2 => r = .done (.ret .none) ∧ LeftT P w s ks s2) E { s with heap := s.heap.push (fresh led) } := by
  have at1 : (s.heap.push (fresh led)).get? s.heap.objs.size = some (fresh led) := Heap.get?_push_size _ rfl
  have ty1 : Shared.TypeIs { s with heap := s.heap.push (fresh led) } (.ref s.heap.objs.size) "set" := ⟨_, at1, rfl⟩
  obtain ⟨⟨oc, odict, od, osl⟩, ho, hc, nl, hd⟩ := hl
  simp only at hc hd
  subst hc hd
  have ho1 : (s.heap.push (fresh led)).get? l = some { cls := .type "tuple", dict := odict, data := .seq items nl, slots := osl } := Heap.get?_push_of_some _ ho
  have b1 := PySem.F.sub_tuple_set
  have b2 := PySem.F.sub_tuple_frozenset
  have b3 : (Value.type "tuple" == Value.type "dict") = false := by decide
  have hl1 : (s.heap.push (fresh led)).IsTuple l items := ⟨_, ho1, rfl, nl, rfl⟩
  have hn : ks.length = items.size := by
    rw [← Array.length_toList, hit, List.length_map]
  unfold Builtin.«set.__init__» noKeywords Builtin.Frozenset.updateFrom
  generalize hPI : pyIter = PI
  wp_walk
  subst hPI
  refine wpAny_pyIter_tuple hl1 ?_
  refine wpAny_bind (wpAny_runValue ?_)
  have lS : l < s.heap.objs.size := Heap.lt_size ho
  have h1 : A.in1.handled = none := by simp [hh]
  have sz : (s.heap.push (fresh led)).objs.size = s.heap.objs.size + 1 := Heap.size_push ..
  have nI : l ≠ (s.heap.push (fresh led)).objs.size := by
    rw [sz]
    exact Nat.ne_of_lt (Nat.lt_succ_of_lt lS)
  have nf : s.heap.objs.size ∉ [(s.heap.push (fresh led)).objs.size, l] := by
    rw [sz]
    intro q
    rcases List.mem_cons.mp q with q | q
    · exact absurd q (Nat.ne_of_lt (Nat.lt_succ_self _))
    · exact absurd (List.mem_singleton.mp q) (Nat.ne_of_gt lS)
  refine fillT ((Walks.tuple h1 _ l nI items).toS) nf ks hn few (ents_at hit) s.heap hk (none_from _ (Nat.le_refl _)) (fun b hb => none_from b (by
    rw [List.mem_singleton.mp hb, sz]
    exact Nat.le_succ _)) (by simp [Around.units] at hu ⊢; omega) (items.size - 0) 0 _ rfl (Nat.zero_le _) ⟨⟨_, Heap.get?_push_size _ rfl, rfl, rfl⟩, hl1.push _⟩ (fun b o e => Heap.get?_push_of_some _ (Heap.get?_push_of_some _ e)) ?_ ?_
  · have at2 : ((s.heap.push (fresh led)).push { cls := .type "tuple_iterator", data := .fields #[.ref l, .int 0 0] }).get? s.heap.objs.size = some (fresh led) := Heap.get?_push_of_some _ at1
    exact ⟨[], #[], 0, _, tab_fresh at2, ⟨fun p h => (by cases h), fun p h => (by simp at h)⟩⟩
  · intro s2 L es ep t mv T g m
    obtain ⟨h2, g2, d2, t2, o2⟩ := s2
    obtain rfl : g2 = s.gens := mv.gens
    obtain rfl : d2 = s.drawn := mv.drawn
    obtain rfl : o2 = s.os := mv.os
    rw [← hn] at g
    exact wpAny_pure (wpAny_pure ⟨rfl, h2, t2, L, es, ep, t, rfl, T, g, m⟩)
/-- the set at a, without the tuples themselves -/
def Tab0 (P : Program) (w : World) (h : Heap) (a : Addr) (L : List Ent) : Prop :=
  ∃ es ep t, (∃ o, h.get? a = some o ∧ o.ExactSet ∧ o.data = .set es ep t) ∧ es.toList = L.map (rowOf P w) ∧ TabOk t (L.map fun p => hsh P w p.2) ∧ (L.map (·.2)).Nodup ∧ L.length * 5 < t.mask * 3
theorem Tab.lean {h : Heap} {a : Addr} {L : List Ent} {es : Array (Int × Value)} {ep : Nat} {t : SetTable} (R : Tab P w h a L es ep t) : Tab0 P w h a L := ⟨es, ep, t, R.ob, R.rows, R.tab, R.nd, R.room⟩
end
end Km
namespace L2
open PySem PySem.Spec PyProof.Rows Km
/-- a set of tuples, as an object -/
def TupSetO (P : Program) (w : World) (a : Addr) (L : List Ent) : HO := .ext fun h => Tab0 P w h a L
theorem tupSet_new {P : Program} {w : World} {H : Hp} {h : Heap} {a : Addr} {L : List Ent} (R : Tab0 P w h a L) : ObjOk P w H h a (TupSetO P w a L) := by
  have ⟨es, ep, t, ⟨o, ho, r⟩, q⟩ := R
  refine ⟨R, ⟨o, ho⟩, fun h1 h2 p m => ?_⟩
  have ⟨es2, ep2, t2, ⟨o2, ho2, r2⟩, q2⟩ := p
  exact ⟨es2, ep2, t2, ⟨o2, m o2 ho2, r2⟩, q2⟩
theorem keyItems {P : Program} {w : World} : ∀ {k : Tk} {us : List Value}, Vals (k.map kV) us → ItemsAre (mixKind P w) k us
  | [], _, .nil => .nil
  | n :: k, _, .cons r t => .cons (kV_is r) (keyItems t)
theorem refs_are : ∀ {ks : List Ent} {us : List Value}, Vals (ks.map fun p => V.ref p.1) us → us = ks.map fun p => Value.ref p.1
  | [], _, .nil => rfl
  | p :: ks, _, .cons r t => by
    cases r
    rw [refs_are t]
    rfl
section
variable {X : Cx}
theorem Inv.tupAt {pins : List (Addr × Obj)} {σ : St} {H : Hp} {s : Shared} {b : Addr} {k : Tk} (I : Inv X pins σ H s) (h : SqT X.K H b (k.map kV)) : At X.prog X.w s.heap k b := by
  obtain ⟨its, r, ⟨o, ho, hc, n, hd⟩, _⟩ := I.tuple h
  exact ⟨o, its.toArray, n, ho, hc, hd, by simpa using keyItems r⟩
/-- set(x), x a list or a tuple of tuples of ints and texts -/
def rSetTup (K : PySem.W.Frag) (P : Program) (w : World) : List V → Hp → VK → Prop := fun xs H Q => ∃ (l : Addr) (ks : List Ent), xs = [V.ref l] ∧ (SqL K H l (ks.map fun p => V.ref p.1) ∨ SqT K H l (ks.map fun p => V.ref p.1)) ∧
  (∀ p ∈ ks, SqT K H p.1 (p.2.map kV)) ∧ (uniq (ks.map (·.2))).length ≤ 74 ∧
  ∀ a L, H a = none → (∀ p ∈ L, p ∈ ks) → (∀ p ∈ ks, p.2 ∈ L.map (·.2)) → (L.map (·.2)).Nodup → L.length = (uniq (ks.map (·.2))).length → Q (.ref a) (upd H a (TupSetO P w a L))
theorem cr_setTup (hc : X.calm = true) (hu : X.A.units + 64 < cLine) : CallR X (.type "set") (rSetTup X.K X.prog X.w) := by
  intro pins s σ H xs us Q I r h
  obtain ⟨l, ks, rfl, hl, hk, few, q⟩ := h
  rw [Vals.ref1 r]
  have hn : H s.heap.objs.size = none := I.hok.fresh (Nat.le_refl _)
  have hd := I.ok.hd hc
  have fin : ∀ s2, LeftT X.prog X.w s ks s2 → EP X pins σ Q (.ref s.heap.objs.size) s2 := fun s2 ⟨h2, tk, L, es, ep, t, e, T, g, m⟩ => by
    subst e
    have ln := g.len T.nd
    rw [List.take_length] at ln
    refine ⟨.ref _, upd H s.heap.objs.size (TupSetO X.prog X.w s.heap.objs.size L), I.laid (t' := tk) m (Nat.le_refl _) (tupSet_new T.lean), rfl, q _ L hn (fun p hp => List.mem_of_mem_take (g.sub p hp)) (fun p hp => g.all p (by rw [List.take_length]; exact hp)) T.nd ln⟩
  rcases hl with hl | hl
  · obtain ⟨its, rv, pl, hz⟩ := I.list hl
    exact set_by_init (Z := LeftT X.prog X.w s ks) (fun led B hB hU => initT_list led (hB hd) (by omega) pl.isList (by simpa using refs_are rv) (fun p hp => I.tupAt (hk p hp)) few) fin
  · obtain ⟨its, rv, pl, hz⟩ := I.tuple hl
    exact set_by_init (Z := LeftT X.prog X.w s ks) (fun led B hB hU => initT_tuple led (hB hd) (by omega) pl (by simpa using refs_are rv) (fun p hp => I.tupAt (hk p hp)) few) fin
/-- len(S), S a set of tuples -/
def rLenTup (P : Program) (w : World) : List V → Hp → VK → Prop := fun xs H Q => ∃ (a : Addr) (L : List Ent), xs = [.ref a] ∧ H a = some (TupSetO P w a L) ∧ Q (.int L.length) H
theorem cr_lenTup : CallR X (.builtin "len") (rLenTup X.prog X.w) := by
  intro pins s σ H xs us Q I r h
  obtain ⟨a, L, rfl, ha, q⟩ := h
  rw [Vals.ref1 r]
  have oa : ObjOk X.prog X.w H s.heap a (TupSetO X.prog X.w a L) := I.hok a _ ha
  have ⟨T, _, _⟩ := oa
  obtain ⟨es, ep, t, ⟨o, ho, hex, hd⟩, h2, h3, h4, h5⟩ := (show Tab0 X.prog X.w s.heap a L from T)
  have sz := rows_size h2
  have pz := h3.sz
  rw [List.length_map] at pz
  have few : L.length ≤ 76 := by
    have h5 : L.length * 5 < t.mask * 3 := h5
    rcases h3.mok with e | e | e <;> omega
  have h5 : L.length * 5 < t.mask * 3 := h5
  refine call_len_set ho hex hd (fits_of (by rw [pz, sz]) h3.dm (by rw [sz]; omega)) (by rw [sz]; omega) ⟨.int L.length, H, I.tok _, ⟨_, by rw [sz]⟩, q⟩
end
end L2

set_option Elab.async false
set_option linter.all false
set_option maxRecDepth 100000
set_option maxHeartbeats 4000000
/-! What the parts of a rule promise. -/
namespace L2
open PySem PySem.Spec PyProof.Rows
/-- a written tuple of words -/
def KTup (K : PySem.W.Frag) (a : Addr) (zs : List Str) : Prop := ∃ (o : Obj) (its : Array Value) (n : Nat), K.lookup a = some o ∧ o.cls = .type "tuple" ∧ o.data = .seq its n ∧ its.size ≤ sizeLine ∧ Vals (zs.map V.str) its.toList
theorem KTup.sq {K : PySem.W.Frag} {a : Addr} {zs : List Str} (h : KTup K a zs) (H : Hp) : SqT K H a (zs.map V.str) := .inr h
def turns : List Str := ["plain", "centred", "placed"]
def gathers : List Str := ["sum", "mean", "median", "trim", "least", "greatest"]
def gathersT : List Str := ["sum", "mean"]
structure Ru (K : PySem.W.Frag) (mg : Str → Option Value) : Prop where
  turns : ∃ a, mg "TURNS" = some (.ref a) ∧ KTup K a turns
  gathers : ∃ a, mg "GATHERS" = some (.ref a) ∧ KTup K a gathers
  gathersT : ∃ a, mg "GATHERS_OF_TURNED_ROWS" = some (.ref a) ∧ KTup K a gathersT
  trim : ∃ t, mg "GREATEST_TRIM" = some (.int 3 t)
  prizes : ∃ t, mg "MOST_PRIZES" = some (.int 8 t)
  any : mg "any" = none
def turnB : V → Bool
  | .str z => decide (z ∈ turns)
  | _ => false
def gatherB (t : Str) : V → Bool
  | .str g => decide (g ∈ gathers) && (decide (t = "plain") || decide (g ∈ gathersT))
  | _ => false
def trimB (g : Str) (v : V) : Bool := if g = "trim" then markB 1 3 v else decide (v = .int 0)
def spIsTurn (K : PySem.W.Frag) : Sp := fun vs H Q _ => ∃ (v : V) (T : String), vs = [v] ∧ TyN K H v T ∧ Q (.bl (turnB v)) H
def spIsGather (K : PySem.W.Frag) : Sp := fun vs H Q _ => ∃ (t : Str) (v : V) (T : String), vs = [.str t, v] ∧ TyN K H v T ∧ Q (.bl (gatherB t v)) H
def spIsTrim (K : PySem.W.Frag) : Sp := fun vs H Q _ => ∃ (g : Str) (v : V) (T : String), vs = [.str g, v] ∧ TyN K H v T ∧ Q (.bl (trimB g v)) H
theorem ty_seq {K : PySem.W.Frag} {H : Hp} {a : Addr} {xs : List V} (h : HSeq H a xs) : ∃ T, TyN K H (.ref a) T ∧ (T = "list" ∨ T = "tuple") := by
  rcases h with h | h
  · exact ⟨"list", ⟨.base (.lst h), by decide⟩, .inl rfl⟩
  · exact ⟨"tuple", ⟨.base (.tup h), by decide⟩, .inr rfl⟩
/-- any value given for reads: whether it is a list or tuple of unlike pairs -/
inductive ReadsArg (K : PySem.W.Frag) (H : Hp) (zs : List Str) : V → Bool → List Pr → Prop where
  | no {v : V} {T : String} (t : TyN K H v T) (h1 : T ≠ "list") (h2 : T ≠ "tuple") : ReadsArg K H zs v false []
  | odd {a : Addr} {xs : List V} {bs : List Bool} (e : HSeq H a xs) (hl : xs.length ≤ 1000) (h : Paired (PairArg K H zs) xs bs) (hb : bs.all id = false) : ReadsArg K H zs (.ref a) false []
  | seq {a : Addr} {xs : List V} {ps : List Pr} (e : HSeq H a xs) (hl : xs.length ≤ 1000) (h : Tps H xs ps) (hp : ∀ p ∈ ps, p ∈ pairsOf zs) : ReadsArg K H zs (.ref a) (decide ps.Nodup) ps
theorem PairArg.same {K : PySem.W.Frag} {H H2 : Hp} {zs : List Str} {v : V} {b : Bool} (s : Same H H2) (h : PairArg K H zs v b) : PairArg K H2 zs v b := by
  cases h with
  | no t h => exact .no (t.same s) h
  | len e h => exact .len (s _ _ e) h
  | two e t1 t2 => exact .two (s _ _ e) (t1.same s) (t2.same s)
theorem ReadsArg.same {K : PySem.W.Frag} {H H2 : Hp} {zs : List Str} {v : V} {b : Bool} {ps : List Pr} (s : Same H H2) (h : ReadsArg K H zs v b ps) : ReadsArg K H2 zs v b ps := by
  cases h with
  | no t h1 h2 => exact .no (t.same s) h1 h2
  | odd e hl h hb => exact .odd (e.same s) hl (Paired.mono (fun _ _ z => z.same s) h) hb
  | seq e hl h hp => exact .seq (e.same s) hl (h.same s) hp
def spAreReads (K : PySem.W.Frag) (C : Addr) : Sp := fun vs H Q _ => ∃ (c : Addr) (v : V) (zs : List Str) (m : Int) (b : Bool) (ps : List Pr), vs = [.ref c, v] ∧ CrowdOf H C c zs m ∧ zs.length ≤ 8 ∧ ReadsArg K H zs v b ps ∧ ∀ H2, Same H H2 → Q (.bl b) H2
/-- a pair as a key -/
theorem tps_ents {H : Hp} : ∀ {xs : List V} {ps : List Pr}, Tps H xs ps → ∃ ks : List Km.Ent, xs = ks.map (fun p => V.ref p.1) ∧ ks.map (·.2) = ps.map key2 ∧ ∀ p ∈ ks, H p.1 = some (.tup (p.2.map kV))
  | [], [], _ => ⟨[], rfl, rfl, fun p h => nomatch h⟩
  | [], _ :: _, t => by
    have := t.1
    cases this
  | _ :: _, [], t => by
    have := t.1
    cases this
  | x :: xs, p :: ps, t => by
    have t2 : Tps H xs ps := ⟨by have := t.1; simpa using this, fun j y q h1 h2 => t.2 (j + 1) y q h1 h2⟩
    obtain ⟨ks, rfl, e2, h3⟩ := tps_ents t2
    obtain ⟨u, rfl, hu⟩ := t.2 0 x p rfl rfl
    refine ⟨(u, key2 p) :: ks, rfl, by rw [List.map_cons, List.map_cons, e2], fun q hq => ?_⟩
    rcases List.mem_cons.mp hq with rfl | hq
    · exact hu
    · exact h3 q hq
theorem pr_get {α β : Type} {F : α → β → Prop} {xs : List α} {ys : List β} (h : Paired F xs ys) : ∀ {i : Nat} {x : α} {y : β}, xs[i]? = some x → ys[i]? = some y → F x y := by
  induction h with
  | nil => intro i x y h; simp at h
  | cons h0 t ih =>
    intro i x y h1 h2
    cases i with
    | zero =>
      cases h1
      cases h2
      exact h0
    | succ i => exact ih h1 h2
theorem uniq_pairs {ps : List Pr} : decide (V.int ((Km.uniq (ps.map key2)).length : Nat) = V.int (ps.length : Nat)) = decide ps.Nodup := by
  refine decide_eq_decide.mpr ?_
  have h1 := Km.uniq_full (ps.map key2)
  rw [nodup_map_inj (f := key2) (fun _ _ e => key2_inj e), List.length_map] at h1
  rw [← h1]
  constructor
  · intro e
    have := V.int.inj e
    omega
  · intro e
    rw [e]
theorem uniq_few {zs : List Str} {ps : List Pr} (h : ∀ p ∈ ps, p ∈ pairsOf zs) (h8 : zs.length ≤ 8) : (Km.uniq (ps.map key2)).length ≤ 74 := by
  have : (Km.uniq (ps.map key2)).length ≤ ((pairsOf zs).map key2).length := Km.nodup_le (Km.uniq_nd _) fun k hk => by
    rw [Km.mem_uniq] at hk
    obtain ⟨p, hp, rfl⟩ := List.mem_map.mp hk
    exact List.mem_map.mpr ⟨p, h p hp, rfl⟩
  rw [List.length_map] at this
  have h64 : (pairsOf zs).length ≤ 64 := pairs_len h8 h8
  omega
/-- a member of what is given for lists: its items, where it is a list or a tuple -/
inductive MemArg (K : PySem.W.Frag) (H : Hp) : V → Option (List V) → Prop where
  | no {v : V} {T : String} (t : TyN K H v T) (h1 : T ≠ "list") (h2 : T ≠ "tuple") : MemArg K H v none
  | seq {a : Addr} {xs : List V} (e : HSeq H a xs) (h : ∀ x ∈ xs, ∃ T, TyN K H x T) (hl : xs.length ≤ 100) : MemArg K H (.ref a) (some xs)
def memOk : Option (List V) → Bool
  | some (_ :: _) => true
  | _ => false
def flatO (os : List (Option (List V))) : List V := os.flatMap fun o => o.getD []
def listsB (zs : List Str) (os : List (Option (List V))) : Bool := os.all memOk && (decide ((flatO os).length = zs.length) && ((flatO os).all (fun v => hasB v zs) && decide (flatO os).Nodup))
inductive ListsArg (K : PySem.W.Frag) (H : Hp) : V → Option (List (Option (List V))) → Prop where
  | no {v : V} {T : String} (t : TyN K H v T) (h1 : T ≠ "list") (h2 : T ≠ "tuple") : ListsArg K H v none
  | seq {a : Addr} {xs : List V} {os : List (Option (List V))} (e : HSeq H a xs) (hl : xs.length ≤ 10) (h : Paired (MemArg K H) xs os) : ListsArg K H (.ref a) (some os)
theorem MemArg.same {K : PySem.W.Frag} {H H2 : Hp} {v : V} {o : Option (List V)} (s : Same H H2) (h : MemArg K H v o) : MemArg K H2 v o := by
  cases h with
  | no t h1 h2 => exact .no (t.same s) h1 h2
  | seq e h hl => exact .seq (e.same s) (fun x hx => (h x hx).elim fun T t => ⟨T, t.same s⟩) hl
theorem ListsArg.same {K : PySem.W.Frag} {H H2 : Hp} {v : V} {o : Option (List (Option (List V)))} (s : Same H H2) (h : ListsArg K H v o) : ListsArg K H2 v o := by
  cases h with
  | no t h1 h2 => exact .no (t.same s) h1 h2
  | seq e hl h => exact .seq (e.same s) hl (Paired.mono (fun _ _ z => z.same s) h)
def argB (zs : List Str) : Option (List (Option (List V))) → Bool
  | none => false
  | some os => listsB zs os
def spAreLists (K : PySem.W.Frag) (C : Addr) : Sp := fun vs H Q _ => ∃ (c : Addr) (v : V) (zs : List Str) (m : Int) (o : Option (List (Option (List V)))), vs = [.ref c, v] ∧ CrowdOf H C c zs m ∧ zs.length ≤ 8 ∧ ListsArg K H v o ∧ ∀ H2, Same H H2 → Q (.bl (argB zs o)) H2
/-- a list or tuple of lists or tuples of words -/
def LL (H : Hp) (a : Addr) (ls : List (List Str)) : Prop := ∃ us : List Addr, HSeq H a (us.map V.ref) ∧ Paired (fun u l => HSeq H u (l.map V.str)) us ls
theorem LL.same {H H2 : Hp} {a : Addr} {ls : List (List Str)} (s : Same H H2) (h : LL H a ls) : LL H2 a ls := by
  obtain ⟨us, h1, h2⟩ := h
  exact ⟨us, h1.same s, Paired.mono (fun _ _ z => z.same s) h2⟩
/-- new lists of words -/
def Rows (H : Hp) (us : List Addr) (ls : List (List Str)) : Prop := Paired (fun u l => H u = some (.lst (l.map V.str))) us ls
theorem Rows.same {H H2 : Hp} {us : List Addr} {ls : List (List Str)} (s : Same H H2) (h : Rows H us ls) : Rows H2 us ls := Paired.mono (fun _ _ z => s _ _ z) h
def spInOrder (C : Addr) : Sp := fun vs H Q _ => ∃ (c l : Addr) (zs : List Str) (m : Int) (ls : List (List Str)), vs = [.ref c, .ref l] ∧ CrowdOf H C c zs m ∧ zs.length ≤ 8 ∧ LL H l ls ∧ Parts zs ls ∧
  ∀ H2 p us, Same H H2 → H p = none → H2 p = some (.lst (us.map V.ref)) → Rows H2 us (inOrder zs ls) → Q (.ref p) H2
/-- the dict of the readers -/
def ReadersAt (H : Hp) (d : Addr) (zs : List Str) (rs : List Pr) : Prop := ∃ us : List Addr, H d = some (.dK ((zs.zip us).map fun p => (Sum.inr p.1, V.ref p.2))) ∧ Paired (fun u z => H u = some (.lst ((readersOf rs z).map V.str))) us zs
theorem ReadersAt.same {H H2 : Hp} {d : Addr} {zs : List Str} {rs : List Pr} (s : Same H H2) (h : ReadersAt H d zs rs) : ReadersAt H2 d zs rs := by
  obtain ⟨us, h1, h2⟩ := h
  exact ⟨us, s _ _ h1, Paired.mono (fun _ _ z => s _ _ z) h2⟩
def spShort : Sp := fun vs H Q _ => ∃ (d l : Addr) (zs : List Str) (rs : List Pr) (ls : List (List Str)) (us : List Addr) (trim : Int), vs = [.ref d, .ref l, .int trim] ∧ ReadersAt H d zs rs ∧ zs.Nodup ∧ H l = some (.lst (us.map V.ref)) ∧ Rows H us ls ∧ (∀ l ∈ ls, ∀ p ∈ l, p ∈ zs) ∧ ls.flatten.length ≤ 1000 ∧ 0 ≤ trim ∧ trim ≤ 3 ∧
  ∀ H2, Same H H2 → Q (.bl (shortB rs ls trim)) H2
/-- what a rule's instance holds -/
def ruleFs (c r l d : Addr) (R : RuleD) : List (Str × V) := [("crowd", .ref c), ("turn", .str R.turn), ("gather", .str R.gather), ("trim", .int R.trim), ("prizes", .int R.prizes), ("_reads", .ref r), ("_lists", .ref l), ("_readers", .ref d)]
structure RuleAt (H : Hp) (CR CC x c r l d : Addr) (ys : List V) (us : List Addr) (R : RuleD) : Prop where
  ob : ∃ dx, H x = some (.ins CR dx (ruleFs c r l d R))
  crowd : CrowdOf H CC c R.zs R.m
  rd : H r = some (.lst ys)
  tps : Tps H ys R.reads
  ls : H l = some (.lst (us.map V.ref))
  rows : Rows H us R.lists
  rds : ReadersAt H d R.zs R.reads
def RuleOf (H : Hp) (CR CC x : Addr) (R : RuleD) : Prop := ∃ c r l d ys us, RuleAt H CR CC x c r l d ys us R
theorem RuleAt.same {H H2 : Hp} {CR CC x c r l d : Addr} {ys : List V} {us : List Addr} {R : RuleD} (s : Same H H2) (h : RuleAt H CR CC x c r l d ys us R) : RuleAt H2 CR CC x c r l d ys us R := by
  obtain ⟨⟨dx, h1⟩, h2, h3, h4, h5, h6, h7⟩ := h
  exact ⟨⟨dx, s _ _ h1⟩, h2.same s, s _ _ h3, h4.same s, s _ _ h5, h6.same s, h7.same s⟩
theorem RuleOf.same {H H2 : Hp} {CR CC x : Addr} {R : RuleD} (s : Same H H2) (h : RuleOf H CR CC x R) : RuleOf H2 CR CC x R := by
  obtain ⟨c, r, l, d, ys, us, h⟩ := h
  exact ⟨c, r, l, d, ys, us, h.same s⟩
/-- reads that are given, or None: all pairs -/
inductive ReadsOpt (K : PySem.W.Frag) (H : Hp) (zs : List Str) : V → Bool → List Pr → Prop where
  | non : ReadsOpt K H zs .non true (pairsOf zs)
  | some {v : V} {b : Bool} {ps : List Pr} (h : ReadsArg K H zs v b ps) (nn : v ≠ .non) (lst : b = true → ∃ a xs, v = .ref a ∧ H a = some (.lst xs)) : ReadsOpt K H zs v b (pick zs ps)
/-- lists that are given, or None: one of all -/
inductive ListsOpt (K : PySem.W.Frag) (H : Hp) (zs : List Str) : V → Bool → List (List Str) → Prop where
  | non : ListsOpt K H zs .non true [zs]
  | bad {v : V} {o : Option (List (Option (List V)))} (h : ListsArg K H v o) (nn : v ≠ .non) (hb : argB zs o = false) : ListsOpt K H zs v false []
  | good {a : Addr} {ls : List (List Str)} (h : LL H a ls) (hp : Parts zs ls) (hl : ls.length ≤ 10) : ListsOpt K H zs (.ref a) true (inOrder zs ls)
/-- the first part that cannot be so -/
def firstWrong (t r g m l s p : Bool) : Option Str := if t = false then some "turn" else if r = false then some "reads" else if g = false then some "gather" else if m = false then some "trim" else if l = false then some "lists" else if s = true then some "lists" else if p = false then some "prizes" else none
theorem shaped_pairs {ps : List Pr} (h : ∀ p ∈ ps, PyData.strOk p.1 = true ∧ PyData.strOk p.2 = true) : SeqAt.shaped (.list (ps.map pairD)) = true := by
  have key : ∀ {ps : List Pr}, (∀ p ∈ ps, PyData.strOk p.1 = true ∧ PyData.strOk p.2 = true) → PyData.canLayAll0 (ps.map pairD) = true ∧ PyData.depthAll (ps.map pairD) ≤ 2 := fun {ps} => by
    induction ps with
    | nil => exact fun _ => ⟨rfl, by simp [PyData.depthAll]⟩
    | cons p ps ih =>
      intro h
      obtain ⟨h1, h2⟩ := ih fun q hq => h q (List.mem_cons_of_mem _ hq)
      obtain ⟨o1, o2⟩ := h p List.mem_cons_self
      have c : PyData.canLay0 (pairD p) = true := SeqAt.canLay_of_shaped (shaped_pairD o1 o2)
      have d : (pairD p).depth ≤ 2 := by
        show (PyData.tuple ([p.1, p.2].map .str)).depth ≤ 2
        have := depth_strs [p.1, p.2]
        rw [PyData.depth]
        omega
      constructor
      · rw [List.map_cons, PyData.canLayAll0, c, h1]
        rfl
      · simp only [List.map_cons, PyData.depthAll]
        omega
  obtain ⟨h1, h2⟩ := key h
  unfold SeqAt.shaped
  rw [PyData.canLay0, h1, Bool.true_and]
  refine decide_eq_true ?_
  rw [PyData.depth]
  omega
theorem any_pairs (ps : List Pr) (p : Pr) : ((ps.map pairD).any fun z => PyData.eqv z (pairD p)) = decide (p ∈ ps) := by
  induction ps with
  | nil => rfl
  | cons q ps ih =>
    rw [List.map_cons, List.any_cons, ih, eqv_pairD, ← Bool.decide_or]
    exact decide_eq_decide.mpr ⟨fun h => h.elim (fun e => by rw [e]; exact List.mem_cons_self) (List.mem_cons_of_mem _), fun h => (List.mem_cons.mp h).elim (fun e => .inl e.symm) .inr⟩
theorem pairsOf_mem {zs : List Str} {p : Pr} (h : p ∈ pairsOf zs) : p.1 ∈ zs ∧ p.2 ∈ zs := by
  obtain ⟨a, ha, hr⟩ := List.mem_flatMap.mp h
  unfold rowOf at hr
  obtain ⟨b, hb, rfl⟩ := List.mem_map.mp hr
  exact ⟨ha, (List.mem_filter.mp hb).1⟩
theorem ReadsOpt.same {K : PySem.W.Frag} {H H2 : Hp} {zs : List Str} {v : V} {b : Bool} {ps : List Pr} (s : Same H H2) (h : ReadsOpt K H zs v b ps) : ReadsOpt K H2 zs v b ps := by
  cases h with
  | non => exact .non
  | some h nn lst => exact .some (h.same s) nn fun e => (lst e).elim fun a z => z.elim fun xs z => ⟨a, xs, z.1, s _ _ z.2⟩
theorem ListsOpt.same {K : PySem.W.Frag} {H H2 : Hp} {zs : List Str} {v : V} {b : Bool} {ls : List (List Str)} (s : Same H H2) (h : ListsOpt K H zs v b ls) : ListsOpt K H2 zs v b ls := by
  cases h with
  | non => exact .non
  | bad h nn hb => exact .bad (h.same s) nn hb
  | good h hp hl => exact .good (h.same s) hp hl
/-- a good parting, as what is judged -/
theorem good_arg {K : PySem.W.Frag} {H : Hp} {a : Addr} {ls : List (List Str)} {zs : List Str} (h : LL H a ls) (hp : Parts zs ls) (hl : ls.length ≤ 10) (z8 : zs.length ≤ 8) : ∃ os, ListsArg K H (.ref a) (some os) ∧ listsB zs os = true := by
  obtain ⟨us, h1, h2⟩ := h
  refine ⟨ls.map fun l => some (l.map V.str), .seq h1 ?_ ?_, ?_⟩
  · rw [List.length_map, h2.length]
    exact hl
  · have short : ∀ l ∈ ls, l.length ≤ 100 := fun l hl => by
      have := (List.sublist_flatten_of_mem hl).length_le
      rw [hp.len] at this
      omega
    have : ∀ {us : List Addr} {ls : List (List Str)}, Paired (fun u l => HSeq H u (l.map V.str)) us ls → (∀ l ∈ ls, l.length ≤ 100) → Paired (MemArg K H) (us.map V.ref) (ls.map fun l => some (l.map V.str)) := fun h => by
      induction h with
      | nil => exact fun _ => .nil
      | cons h0 t ih =>
        intro sh
        refine .cons (.seq h0 (fun x hx => ?_) ?_) (ih fun l hl => sh l (List.mem_cons_of_mem _ hl))
        · obtain ⟨z, _, rfl⟩ := List.mem_map.mp hx
          exact ⟨"str", .base (.str _), by decide⟩
        · rw [List.length_map]
          exact sh _ List.mem_cons_self
    exact this h2 short
  · have fl : flatO (ls.map fun l => some (l.map V.str)) = ls.flatten.map V.str := by
      unfold flatO
      rw [List.flatMap_map, List.map_flatten, List.flatMap_def]
      rfl
    unfold listsB
    rw [fl, List.length_map]
    have h3 : (ls.map fun l => some (l.map V.str)).all memOk = true := by
      rw [List.all_map, List.all_eq_true]
      intro l hl
      cases l with
      | nil => exact absurd rfl (hp.ne _ hl)
      | cons a b => rfl
    have h4 : (ls.flatten.map V.str).all (fun v => hasB v zs) = true := by
      rw [List.all_map, List.all_eq_true]
      intro z hz
      obtain ⟨l, hl, hz⟩ := List.mem_flatten.mp hz
      exact decide_eq_true (hp.mem l hl z hz)
    rw [h3, h4, decide_eq_true hp.len, decide_eq_true ((nodup_map_inj (f := V.str) (fun _ _ e => V.str.inj e)).mpr hp.nd)]
    rfl
theorem same_at {x : Addr} {H0 H : Hp} {o : HO} (s : Same H0 H) (nx : H0 x = none) : Same H0 (upd H x o) := fun b u e => by
  rw [upd_ne (ne_of_none e nx)]
  exact s _ _ e
/-- Rule.__init__: H0 is the heap without the instance -/
def spRuleInit (K : PySem.W.Frag) (C CR CB : Addr) : Sp := fun vs H Q E => ∃ (H0 : Hp) (x dx c : Addr) (zs : List Str) (m : Int) (tv rv gv mv lv pv : V) (rB lB : Bool) (rs : List Pr) (ls : List (List Str)) (T1 T2 T3 T4 : String),
  vs = [.ref x, .ref c, tv, rv, gv, mv, lv, pv] ∧ Same H0 H ∧ H0 x = none ∧ H x = some (.ins CR dx []) ∧ CrowdOf H0 C c zs m ∧ Folk zs ∧ TyN K H0 tv T1 ∧ ReadsOpt K H0 zs rv rB rs ∧ TyN K H0 gv T2 ∧ TyN K H0 mv T3 ∧ ListsOpt K H0 zs lv lB ls ∧ TyN K H0 pv T4 ∧
  (∀ z, (∀ t g mi, tv = .str t → gv = .str g → mv = .int mi → firstWrong (turnB tv) rB (gatherB t gv) (trimB g mv) lB (shortB rs ls mi) (markB 0 8 pv) = some z) → ∀ H' d, Raised H0 H' d "part" (.str z) → E (.ref CB) (some d) H') ∧
  (∀ t g mi p, tv = .str t → gv = .str g → mv = .int mi → pv = .int p → firstWrong (turnB tv) rB (gatherB t gv) (trimB g mv) lB (shortB rs ls mi) (markB 0 8 pv) = none →
    ∀ H' r l d ys us, Same H0 H' → H0 r = none → H0 l = none → H0 d = none → RuleAt H' CR C x c r l d ys us ⟨zs, m, t, g, mi, p, rs, ls⟩ → Q .non H')
def rule5 (c : Addr) (t g : Str) (mi : Int) (p : V) : List (Str × V) := [("crowd", .ref c), ("turn", .str t), ("gather", .str g), ("trim", .int mi), ("prizes", p)]
def rule6 (c r : Addr) (t g : Str) (mi : Int) (p : V) : List (Str × V) := [("crowd", .ref c), ("turn", .str t), ("gather", .str g), ("trim", .int mi), ("prizes", p), ("_reads", .ref r)]
def rule7 (c r l : Addr) (t g : Str) (mi : Int) (p : V) : List (Str × V) := [("crowd", .ref c), ("turn", .str t), ("gather", .str g), ("trim", .int mi), ("prizes", p), ("_reads", .ref r), ("_lists", .ref l)]
def rule8 (c r l d : Addr) (t g : Str) (mi : Int) (p : V) : List (Str × V) := [("crowd", .ref c), ("turn", .str t), ("gather", .str g), ("trim", .int mi), ("prizes", p), ("_reads", .ref r), ("_lists", .ref l), ("_readers", .ref d)]
theorem rule_put5 {c : Addr} {t g : Str} {mi : Int} {p : V} : putF "prizes" p (putF "trim" (.int mi) (putF "gather" (.str g) (putF "turn" (.str t) (putF "crowd" (.ref c) [])))) = rule5 c t g mi p := by kernel_rfl
theorem rule_put6 {c r : Addr} {t g : Str} {mi : Int} {p : V} : putF "_reads" (.ref r) (rule5 c t g mi p) = rule6 c r t g mi p := by kernel_rfl
theorem rule_put7 {c r l : Addr} {t g : Str} {mi : Int} {p : V} : putF "_lists" (.ref l) (rule6 c r t g mi p) = rule7 c r l t g mi p := by kernel_rfl
theorem rule_put8 {c r l d : Addr} {t g : Str} {mi : Int} {p : V} : putF "_readers" (.ref d) (rule7 c r l t g mi p) = rule8 c r l d t g mi p := by kernel_rfl
end L2

set_option Elab.async false
set_option linter.all false
set_option maxRecDepth 100000
set_option maxHeartbeats 4000000
/-! o.m(k = v, ..), also where what is raised is wished for at the caller's slots. -/
namespace L2
open PySem PySem.Spec PyProof.Rows
def tMethK (C : Addr) (m : Str) (n : Nat) (sp : Sp) (gV : List V → List V → List V) (E : St → XK) (ta : TE) (tk : TA) : TE := fun σ H Q => ta σ H fun x H1 => ∃ a dx fs, x = .ref a ∧ H1 a = some (.ins C dx fs) ∧ fs.lookup m = none ∧ tk σ H1 fun zs H2 => zs.length = n ∧ sp (gV [.ref a] zs) H2 Q (E σ)
section
variable {X : Cx} {CX : CXT} {k : Nat} {C f : Addr} {m : Str} {fd : FuncData} {ps ks : List Str} {sp : Sp} {E : St → XK} {o : Expr} {apos pos : Pos} {kws : List Keyword} {ta : TE} {tk : TA} {g : List Value → List Value → List Value} {gV : List V → List V → List V}
theorem pe_methK {pl : Sem Bool} (he : PE X o ta) (c : Cls X.K C) (hm : Meth X.K C m f) (F : FnOk X.prog X.w X.K X.mg X.base CX k f fd ps sp) (hr : Room k X.A) (hb : KBn X.K fd ps 1 ks g gV) (hx : ∀ σ, PassesAt CX X σ (E σ)) (hkw : PK X kws tk)
    (hall : (backToKw pos (keywordEach kws X.env)).all (·.1.isSome) = true := by rfl) (hks : (backToKw pos (keywordEach kws X.env)).filterMap (·.1) = ks := by rfl)
    (hpl : ((backTo pos (starEach [] X.env)).any (·.1) || (backToKw pos (keywordEach kws X.env)).any (·.1.isNone)) = false := by rfl)
    (ht : eval (.Call (.Attribute o m apos) [] kws pos) X.env = (do
      let ov ← eval o X.env
      standAt apos.atName
      let (f, first) ← holding [ov] (getMethod ov m pl)
      callWith pos f first (backTo pos (starEach [] X.env)) (backToKw pos (keywordEach kws X.env))) := by rfl) :
    PE X (.Call (.Attribute o m apos) [] kws pos) (tMethK C m ks.length sp gV E ta tk) := by
  constructor
  intro pins s σ H Q I h
  refine PySem.W.methodCall_KW (pl := pl) (thn (he.run pins s σ H _ I h) fun u s1 z => ?_) ht
  obtain ⟨x, H1, I1, rx, a, dx, fs, rfl, ea, l, q⟩ := z
  cases rx
  refine getmeth_ok I1 ea c hm l ?_
  refine PySem.W.callWith_KW0 (first := [.ref a]) (h₀ := X.base) I.ok.mod.kin hm.kp hall (thn (hkw.run pos pins s1 σ H1 _ I1 q) fun ws s2 z => ?_) hpl
  obtain ⟨zs, H2, I2, rz, l2, q2⟩ := z
  refine ⟨I2.kIn, ?_⟩
  rw [hks]
  have r1 : Vals [V.ref a] [Value.ref a] := .cons rfl .nil
  refine wpAny_call (codeAny_mono (F.run X.A X.stack s2 H2 ⟨[.ref a], ks.zip ws⟩ (g [.ref a] ws) (gV [.ref a] zs) Q (E σ) hr I2.env0 (hb.to s2 [.ref a] ws I2.kIn rfl (rz.length.symm.trans l2)) (hb.rel r1 rz) q2) fun r s3 hq => ?_)
  cases r with
  | error e => exact hx σ pins H2 s2 e s3 I2 hq
  | ok fl =>
    cases fl with
    | ret u => exact I2.after hq
    | next => exact False.elim hq
    | brk => exact False.elim hq
    | cont => exact False.elim hq
end
end L2

set_option Elab.async false
set_option linter.all false
set_option maxRecDepth 100000
set_option maxHeartbeats 4000000
/-! What a rule's methods promise, and the functions that look at rules. -/
namespace L2
open PySem PySem.Spec PyProof.Rows
structure RuleD.Ok (R : RuleD) : Prop where
  folk : Folk R.zs
  turn : turnB (.str R.turn) = true
  gather : gatherB R.turn (.str R.gather) = true
  trim : trimB R.gather (.int R.trim) = true
  prizes : markB 0 8 (.int R.prizes) = true
  reads : R.reads.Sublist (pairsOf R.zs)
  lists : Straight R.zs R.lists
  full : shortB R.reads R.lists R.trim = false
def RuleD.listOf (R : RuleD) (p : Str) : List Str := (R.lists.filter fun l => decide (p ∈ l)).flatten
def RuleD.ownReads (R : RuleD) (p : Str) : List Pr := R.reads.filter fun q => decide (q.1 = p) && decide (q.2 ∈ R.listOf p)
def RuleD.safe (R : RuleD) : List Str := R.zs.filter fun p => decide ((R.ownReads p).length = 0)
def within (rs : List Pr) (ls : List (List Str)) : List Pr := rs.filter fun q => ls.any fun l => decide (q.1 ∈ l) && decide (q.2 ∈ l)
def rListOf (K : PySem.W.Frag) : List V → Hp → VK → Prop := fun xs H Q => ∃ p ys, xs = [.ref p] ∧ (SqL K H p ys ∨ SqT K H p ys) ∧ ∀ l, H l = none → Q (.ref l) (upd H l (.lst ys))
theorem call_listS {X : Cx} : CallR X (.type "list") (rListOf X.K) := call_list_of
def spNeedRule (C CR : Addr) : Sp := fun vs H Q _ => ∃ (x : Addr) (R : RuleD), vs = [.ref x] ∧ RuleOf H CR C x R ∧ Q .non H
def spNeedPlain (C CR : Addr) : Sp := fun vs H Q _ => ∃ (x : Addr) (R : RuleD), vs = [.ref x] ∧ RuleOf H CR C x R ∧ R.turn = "plain" ∧ Q .non H
def spRuleReads (C CR : Addr) : Sp := fun vs H Q _ => ∃ (x : Addr) (R : RuleD), vs = [.ref x] ∧ RuleOf H CR C x R ∧ ∀ H2 p ys, Same H H2 → H p = none → H2 p = some (.lst ys) → Tps H2 ys R.reads → Q (.ref p) H2
def spRuleLists (C CR : Addr) : Sp := fun vs H Q _ => ∃ (x : Addr) (R : RuleD), vs = [.ref x] ∧ RuleOf H CR C x R ∧ R.lists.length ≤ 100 ∧ ∀ H2 p us, Same H H2 → H p = none → H2 p = some (.lst (us.map V.ref)) → Rows H2 us R.lists → Q (.ref p) H2
def spRuleLen (C CR : Addr) : Sp := fun vs H Q _ => ∃ (x : Addr) (R : RuleD), vs = [.ref x] ∧ RuleOf H CR C x R ∧ Q (.int R.reads.length) H
def spListOf (C CR : Addr) : Sp := fun vs H Q _ => ∃ (x : Addr) (p : Str) (R : RuleD), vs = [.ref x, .str p] ∧ RuleOf H CR C x R ∧ p ∈ R.zs ∧ R.lists.length ≤ 100 ∧ R.lists.flatten.length ≤ 1000 ∧ ∀ H2 l, Same H H2 → H l = none → H2 l = some (.lst ((R.listOf p).map V.str)) → Q (.ref l) H2
def spOwnReads (C CR : Addr) : Sp := fun vs H Q _ => ∃ (x : Addr) (p : Str) (R : RuleD), vs = [.ref x, .str p] ∧ RuleOf H CR C x R ∧ p ∈ R.zs ∧ R.lists.length ≤ 100 ∧ R.lists.flatten.length ≤ 1000 ∧ R.reads.length ≤ 64 ∧ ∀ H2 l ys, Same H H2 → H l = none → H2 l = some (.lst ys) → Tps H2 ys (R.ownReads p) → Q (.ref l) H2
def spSafePeople (C CR : Addr) : Sp := fun vs H Q _ => ∃ (x : Addr) (R : RuleD), vs = [.ref x] ∧ RuleOf H CR C x R ∧ R.zs.length ≤ 8 ∧ R.lists.length ≤ 100 ∧ R.lists.flatten.length ≤ 1000 ∧ R.reads.length ≤ 64 ∧ ∀ H2 l, Same H H2 → H l = none → H2 l = some (.lst (R.safe.map V.str)) → Q (.ref l) H2
def spIsSafe (C CR : Addr) : Sp := fun vs H Q _ => ∃ (x : Addr) (R : RuleD), vs = [.ref x] ∧ RuleOf H CR C x R ∧ R.Ok ∧ ∀ H2, Same H H2 → Q (.bl (decide (R.safe = R.zs))) H2
def spPairsWithin : Sp := fun vs H Q _ => ∃ (a b : Addr) (ys : List V) (rs : List Pr) (ls : List (List Str)), vs = [.ref a, .ref b] ∧ H a = some (.lst ys) ∧ Tps H ys rs ∧ LL H b ls ∧ rs.length ≤ 64 ∧ ls.length ≤ 100 ∧ ∀ H2 l zs, Same H H2 → H l = none → H2 l = some (.lst zs) → Tps H2 zs (within rs ls) → Q (.ref l) H2
theorem RuleD.Ok.few {R : RuleD} (o : R.Ok) : R.zs.length ≤ 8 ∧ R.lists.length ≤ 8 ∧ R.lists.flatten.length ≤ 8 ∧ R.reads.length ≤ 64 := by
  have h := o.folk.most
  refine ⟨h, ?_, by rw [o.lists.parts.len]; exact h, ?_⟩
  · have key : ∀ l : List (List Str), (∀ x ∈ l, x ≠ []) → l.length ≤ l.flatten.length := fun l => by
      induction l with
      | nil => intro _; exact Nat.le_refl _
      | cons x l ih =>
        intro h
        rw [List.flatten_cons, List.length_append, List.length_cons]
        have h1 := ih fun y hy => h y (List.mem_cons_of_mem _ hy)
        have h2 : 0 < x.length := List.length_pos_iff.mpr (h x List.mem_cons_self)
        omega
    have := key R.lists o.lists.parts.ne
    rw [o.lists.parts.len] at this
    omega
  · have h1 := o.reads.length_le
    have h2 : (pairsOf R.zs).length ≤ 64 := pairs_len h h
    omega
theorem LL.of_rows {H : Hp} {a : Addr} {us : List Addr} {ls : List (List Str)} (h : H a = some (.lst (us.map V.ref))) (r : Rows H us ls) : LL H a ls := ⟨us, .inl h, Paired.mono (fun _ _ z => .inl z) r⟩
end L2

set_option Elab.async false
set_option linter.all false
set_option maxRecDepth 100000
set_option maxHeartbeats 4000000
/-! Rules compared, changed, made safe. -/
namespace L2
open PySem PySem.Spec PyProof.Rows
/-- two rules that are equal but for reads -/
structure Alike (R S : RuleD) : Prop where
  zs : R.zs = S.zs
  m : R.m = S.m
  turn : R.turn = S.turn
  gather : R.gather = S.gather
  trim : R.trim = S.trim
  prizes : R.prizes = S.prizes
  lists : R.lists = S.lists
theorem Alike.eq {R S : RuleD} (a : Alike R S) (h : R.reads = S.reads) : R = S := by
  cases R
  cases S
  obtain ⟨h1, h2, h3, h4, h5, h6, h7⟩ := a
  dsimp only at *
  subst h1 h2 h3 h4 h5 h6 h7 h
  rfl
theorem eqvAll_pairs : ∀ ps qs : List Pr, PyData.eqvAll (ps.map pairD) (qs.map pairD) = decide (ps = qs)
  | [], [] => rfl
  | [], _ :: _ => rfl
  | _ :: _, [] => rfl
  | p :: ps, q :: qs => by
    rw [List.map_cons, List.map_cons, PyData.eqvAll, eqvAll_pairs ps qs, eqv_pairD, ← Bool.decide_and]
    exact decide_eq_decide.mpr ⟨fun h => by rw [h.1, h.2], fun h => by injection h with h1 h2; exact ⟨h1, h2⟩⟩
theorem eqv_pairs (ps qs : List Pr) : PyData.eqv (.list (ps.map pairD)) (.list (qs.map pairD)) = decide (ps = qs) := by
  rw [PyData.eqv, eqvAll_pairs]
/-- two crowds with the same people and the same greatest mark -/
def SameCrowd (C : Addr) (a b : Addr) (H : Hp) : Prop := ∃ zs m, CrowdOf H C a zs m ∧ CrowdOf H C b zs m ∧ ∀ z ∈ zs, PyData.strOk z = true
def partD (C : Addr) : Eqv := fun x y H => (DFlat x y H ∨ DIns C (SameCrowd C) x y H) ∨ DList (DList DFlat) x y H
theorem mon_partD (C : Addr) : Mon (partD C) := Mon.or (Mon.or mon_flat (mon_ins fun a b H H2 e r => by
  obtain ⟨zs, m, h1, h2, h3⟩ := r
  exact ⟨zs, m, h1.same e, h2.same e, h3⟩)) (mon_list (mon_list mon_flat))
theorem eqV_word (z : Str) : eqV (.str z) (.str z) = true := by
  show (z == z) = true
  exact beq_self_eq_true z
theorem rows_like {H : Hp} : ∀ {us vs : List Addr} {ls : List (List Str)}, Rows H us ls → Rows H vs ls → Prs (DList DFlat) (us.map V.ref) (vs.map V.ref) H
  | [], [], _, _, _ => Prs.nil
  | [], _ :: _, _, h1, h2 => by
    cases h1
    cases h2
  | _ :: _, [], _, h1, h2 => by
    cases h1
    cases h2
  | u :: us, v :: vs, _, .cons h1 t1, .cons h2 t2 => by
    refine Prs.cons ⟨u, v, _, _, rfl, rfl, h1, h2, rfl, fun i x y hx hy => ?_⟩ (rows_like t1 t2)
    rw [hx] at hy
    obtain rfl := Option.some.inj hy
    rw [List.getElem?_map] at hx
    obtain ⟨z, _, rfl⟩ := Option.map_eq_some_iff.mp hx
    exact ⟨rfl, rfl, eqV_word z⟩
def spParts (C CR : Addr) : Sp := fun vs H Q _ => ∃ (x c r l d : Addr) (ys : List V) (us : List Addr) (R : RuleD), vs = [.ref x] ∧ RuleAt H CR C x c r l d ys us R ∧ R.lists.length ≤ 100 ∧
  ∀ H2 t l2 us2, Same H H2 → H t = none → H2 t = some (.tup [.ref c, .str R.turn, .str R.gather, .int R.trim, .ref l2, .int R.prizes]) → H2 l2 = some (.lst (us2.map V.ref)) → Rows H2 us2 R.lists → Q (.ref t) H2
def spLike (C CR : Addr) : Sp := fun vs H Q _ => ∃ (x y : Addr) (R S : RuleD), vs = [.ref x, .ref y] ∧ RuleOf H CR C x R ∧ RuleOf H CR C y S ∧ R.Ok ∧ Alike R S ∧ ∀ H2, Same H H2 → Q (.bl true) H2
def spRuleEq (C CR : Addr) : Sp := fun vs H Q _ => ∃ (x y : Addr) (R S : RuleD), vs = [.ref x, .ref y] ∧ RuleOf H CR C x R ∧ RuleOf H CR C y S ∧ R.Ok ∧ S.Ok ∧ Alike R S ∧ ∀ H2, Same H H2 → Q (.bl (decide (R.reads = S.reads))) H2
def spRuleHas (C CR : Addr) : Sp := fun vs H Q _ => ∃ (x t : Addr) (p : Pr) (R : RuleD), vs = [.ref x, .ref t] ∧ RuleOf H CR C x R ∧ R.Ok ∧ H t = some (.tup [.str p.1, .str p.2]) ∧ p ∈ pairsOf R.zs ∧ Q (.bl (decide (p ∈ R.reads))) H
def spIsWithin (C CR : Addr) : Sp := fun vs H Q _ => ∃ (x y : Addr) (R S : RuleD), vs = [.ref x, .ref y] ∧ RuleOf H CR C x R ∧ RuleOf H CR C y S ∧ R.Ok ∧ S.Ok ∧ Alike R S ∧ ∀ H2, Same H H2 → Q (.bl (R.reads.all fun p => decide (p ∈ S.reads))) H2
/-- what is given, or what the rule has -/
def given (v w : V) : V := if v = .non then w else v
def spChanged (K : PySem.W.Frag) (C CR CB : Addr) : Sp := fun vs H Q E => ∃ (x : Addr) (R : RuleD) (tv rv gv mv lv pv : V) (rB lB : Bool) (rs : List Pr) (ls : List (List Str)),
  vs = [.ref x, tv, rv, gv, mv, lv, pv] ∧ RuleOf H CR C x R ∧ R.Ok ∧ (∃ T, TyN K H tv T) ∧ ((rv = .non ∧ rB = true ∧ rs = R.reads) ∨ (rv ≠ .non ∧ ReadsOpt K H R.zs rv rB rs)) ∧ (∃ T, TyN K H gv T) ∧ (∃ T, TyN K H mv T) ∧
  ((lv = .non ∧ lB = true ∧ ls = R.lists) ∨ (lv ≠ .non ∧ ListsOpt K H R.zs lv lB ls)) ∧ (∃ T, TyN K H pv T) ∧
  (∀ z, (∀ t g mi, given tv (.str R.turn) = .str t → given gv (.str R.gather) = .str g → given mv (.int R.trim) = .int mi → firstWrong (turnB (given tv (.str R.turn))) rB (gatherB t (given gv (.str R.gather))) (trimB g (given mv (.int R.trim))) lB (shortB rs ls mi) (markB 0 8 (given pv (.int R.prizes))) = some z) → ∀ H' d, Raised H H' d "part" (.str z) → E (.ref CB) (some d) H') ∧
  (∀ t g mi p, given tv (.str R.turn) = .str t → given gv (.str R.gather) = .str g → given mv (.int R.trim) = .int mi → given pv (.int R.prizes) = .int p → firstWrong (turnB (given tv (.str R.turn))) rB (gatherB t (given gv (.str R.gather))) (trimB g (given mv (.int R.trim))) lB (shortB rs ls mi) (markB 0 8 (given pv (.int R.prizes))) = none →
    ∀ H' y, Same H H' → H y = none → RuleOf H' CR C y ⟨R.zs, R.m, t, g, mi, p, rs, ls⟩ → Q (.ref y) H')
/-- the rule with other reads -/
def RuleD.withReads (R : RuleD) (rs : List Pr) : RuleD := { R with reads := rs }
def RuleD.lessInner (R : RuleD) : List Pr := R.reads.filter fun p => !decide (p ∈ within R.reads R.lists)
def spMadeSafe (C CR : Addr) : Sp := fun vs H Q _ => ∃ (x : Addr) (R : RuleD), vs = [.ref x] ∧ RuleOf H CR C x R ∧ R.Ok ∧ R.turn = "plain" ∧
  (shortB R.lessInner R.lists R.trim = true → ∀ H2, Same H H2 → Q .non H2) ∧
  (shortB R.lessInner R.lists R.trim = false → ∀ H2 y, Same H H2 → H y = none → RuleOf H2 CR C y (R.withReads R.lessInner) → Q (.ref y) H2)
def spCost (C CR : Addr) : Sp := fun vs H Q _ => ∃ (x a : Addr) (R : RuleD) (ls : List (List Str)), vs = [.ref x, .ref a] ∧ RuleOf H CR C x R ∧ R.Ok ∧ R.turn = "plain" ∧ LL H a ls ∧ Parts R.zs ls ∧ ls.length ≤ 10 ∧ ∀ H2, Same H H2 → Q (.int (within R.reads ls).length) H2
end L2

set_option Elab.async false
set_option linter.all false
set_option maxRecDepth 100000
set_option maxHeartbeats 4000000
/-! The laws' own drawn rules: a pool of numbers, words, pairs, a parting, a rule as a dict. -/
namespace L2
open PySem PySem.Spec PyProof.Rows
/-! heaps without the pool -/
theorem del_le {H : Hp} {a : Addr} : Same (del H a) H := fun b o e => by
  by_cases c : b = a
  · subst c
    rw [del_same] at e
    cases e
  · rwa [del_ne c] at e
theorem del_but {H H2 : Hp} {a : Addr} (b : But a H H2) : Same (del H a) (del H2 a) := fun c o e => by
  by_cases q : c = a
  · subst q
    rw [del_same] at e
    cases e
  · rw [del_ne q] at e ⊢
    exact b c o q e
theorem del_mono {H H2 : Hp} {a : Addr} (s : Same H H2) : Same (del H a) (del H2 a) := del_but (But.of_same s)
theorem del_at {H : Hp} {a b : Addr} {o : HO} (n : b ≠ a) (e : H b = some o) : del H a b = some o := by
  rw [del_ne n]
  exact e
theorem del_none {H : Hp} {a b : Addr} (e : H b = none) : del H a b = none := by
  by_cases q : b = a
  · subst q
    exact del_same
  · rw [del_ne q]
    exact e
/-- the pool: a list of numbers, and how many are drawn -/
def PoolC (H : Hp) (a : Addr) : Prop := ∃ (n : Addr) (ns : List Int) (i : Nat), H a = some (.lst [.ref n, .int (i : Int)]) ∧ n ≠ a ∧ H n = some (.lst (ns.map V.int)) ∧ (∀ k ∈ ns, 0 ≤ k) ∧ ns.length ≤ 1000 ∧ 1 ≤ ns.length
theorem PoolC.same {H H2 : Hp} {a : Addr} (p : PoolC H a) (s : Same H H2) : PoolC H2 a := by
  obtain ⟨n, ns, i, h1, h2, h3, h4⟩ := p
  exact ⟨n, ns, i, s _ _ h1, h2, s _ _ h3, h4⟩
theorem PoolC.ne {H : Hp} {a b : Addr} (p : PoolC H a) (e : H b = none) : b ≠ a := fun q => by
  obtain ⟨n, ns, i, h1, _⟩ := p
  rw [q, h1] at e
  cases e
theorem PoolC.some {H : Hp} {a : Addr} (p : PoolC H a) : H a ≠ none := fun q => by
  obtain ⟨n, ns, i, h1, _⟩ := p
  rw [h1] at q
  cases q
theorem PoolC.put {H : Hp} {a p : Addr} {xs : List V} {o : HO} (P : PoolC H a) (np : p ≠ a) (h : H p = Option.some (.lst xs)) (hx : ∀ j : Int, V.int j ∉ xs) : PoolC (upd H p o) a := by
  obtain ⟨n, ns, i, h1, h2, h3, h4, h5, h6⟩ := P
  refine ⟨n, ns, i, by rw [upd_ne (Ne.symm np)]; exact h1, h2, ?_, h4, h5, h6⟩
  rw [upd_ne]
  · exact h3
  · rintro rfl
    rw [h] at h3
    have e : xs = ns.map V.int := HO.lst.inj (Option.some.inj h3)
    cases ns with
    | nil => simp at h6
    | cons k ks => exact hx k (by rw [e]; simp)
def spNumbers : Sp := fun vs H Q _ => ∃ (z : Int) (k m : Nat), vs = [.int z, .int (k : Int), .int (m : Int)] ∧ k ≤ 62 ∧ m ≤ 1000 ∧ ∀ H' p (ns : List Int), Same H H' → H p = none → H' p = some (.lst (ns.map V.int)) → ns.length = m → (∀ n ∈ ns, 0 ≤ n) → Q (.ref p) H'
def spOpenedC (K : PySem.W.Frag) : Sp := fun vs H Q _ => ∃ (a : Addr) (ns : List Int) (k m : Nat), vs = [.ref a, .int (k : Int), .int (m : Int)] ∧ SqL K H a (ns.map V.int) ∧ ns.length ≤ 63 ∧ k ≤ 62 ∧ (ns ≠ [] → k < ns.length) ∧ m ≤ 1000 ∧ 1 ≤ m ∧ ∀ H' p, Same H H' → H p = none → PoolC H' p → Q (.ref p) H'
def spDrawC : Sp := fun vs H Q _ => ∃ (a : Addr) (m : Int), vs = [.ref a, .int m] ∧ PoolC H a ∧ 1 ≤ m ∧ ∀ (r : Int) H', 0 ≤ r → r < m → PoolC H' a → But a H H' → Q (.int r) H'
def spPickC : Sp := fun vs H Q _ => ∃ (a l : Addr) (xs : List V), vs = [.ref a, .ref l] ∧ PoolC H a ∧ H l = some (.lst xs) ∧ l ≠ a ∧ 1 ≤ xs.length ∧ ∀ x H', x ∈ xs → PoolC H' a → But a H H' → Q x H'
def namesC : List Str := ["cy", "ann", "di", "bo", "flo", "ed"]
theorem namesC_ok : ∀ z ∈ namesC, isW (.str z) = true ∧ PyData.strOk z = true ∧ z.length ≤ 1000 ∧ z.length ≤ 8 := by decide +kernel
theorem namesC_nd : namesC.Nodup := by decide +kernel
structure WordsC (zs : List Str) : Prop where
  sub : zs.Sublist namesC
  one : 1 ≤ zs.length
theorem WordsC.nd {zs : List Str} (w : WordsC zs) : zs.Nodup := namesC_nd.sublist w.sub
theorem WordsC.six {zs : List Str} (w : WordsC zs) : zs.length ≤ 6 := w.sub.length_le
theorem WordsC.ok {zs : List Str} (w : WordsC zs) : ∀ z ∈ zs, PyData.strOk z = true := fun z hz => (namesC_ok z (w.sub.subset hz)).2.1
theorem WordsC.folk {zs : List Str} (w : WordsC zs) : Folk zs := ⟨w.ok, w.nd, w.one, by have := w.six; omega⟩
theorem WordsC.people {zs : List Str} (w : WordsC zs) : peopleB (zs.map V.str) = true := by
  show ((decide (1 ≤ (zs.map V.str).length) && decide ((zs.map V.str).length ≤ 8)) && ((zs.map V.str).all isW && decide (zs.map V.str).Nodup)) = true
  have h1 : (zs.map V.str).all isW = true := by
    rw [List.all_map]
    exact List.all_eq_true.mpr fun z hz => (namesC_ok z (w.sub.subset hz)).1
  have h2 := w.one
  have h3 := w.six
  rw [h1, List.length_map, decide_eq_true h2, decide_eq_true (show zs.length ≤ 8 by omega), decide_eq_true ((nodup_map_inj (f := V.str) (fun _ _ e => V.str.inj e)).mpr w.nd)]
  rfl
theorem WordsC.items {K : PySem.W.Frag} {H : Hp} {zs : List Str} (w : WordsC zs) : ∀ x ∈ zs.map V.str, ItemOk K H x := fun x hx => by
  obtain ⟨z, hz, rfl⟩ := List.mem_map.mp hx
  exact item_str (namesC_ok z (w.sub.subset hz)).2.2.1
theorem wordsC_cut {r m : Nat} (hr : r ≤ 2) (h1 : 1 ≤ m) : WordsC ((namesC.drop r).take m) := by
  refine ⟨(List.take_sublist _ _).trans (List.drop_sublist _ _), ?_⟩
  rw [List.length_take, List.length_drop]
  show 1 ≤ min m (6 - r)
  omega
def spWordsC : Sp := fun vs H Q _ => ∃ (a : Addr) (m : Nat), vs = [.ref a, .int (m : Int)] ∧ PoolC H a ∧ 1 ≤ m ∧ m ≤ 6 ∧ ∀ H' p zs, WordsC zs → PoolC H' a → Same (del H a) (del H' a) → H p = none → H' p = some (.lst (zs.map V.str)) → Q (.ref p) H'
/-! partings -/
theorem straight_nil {zs : List Str} (h : zs = []) : Straight zs [] := by
  subst h
  exact ⟨⟨(fun l h => nomatch h), (fun l h => nomatch h), List.nodup_nil, rfl⟩, (fun l h => nomatch h), List.nil_sublist _⟩
theorem straight_new {zs : List Str} {ls : List (List Str)} {z : Str} (s : Straight zs ls) (nz : z ∉ zs) : Straight (zs ++ [z]) (ls ++ [[z]]) where
  parts := by
    refine ⟨fun l hl => ?_, fun l hl p hp => ?_, ?_, ?_⟩
    · rcases List.mem_append.mp hl with hl | hl
      · exact s.parts.ne l hl
      · rw [List.mem_singleton.mp hl]
        exact List.cons_ne_nil _ _
    · rcases List.mem_append.mp hl with hl | hl
      · exact List.mem_append_left _ (s.parts.mem l hl p hp)
      · rw [List.mem_singleton.mp hl] at hp
        exact List.mem_append_right _ hp
    · rw [List.flatten_append, List.nodup_append]
      refine ⟨s.parts.nd, by simp, fun a ha b hb e => ?_⟩
      have hb2 : b = z := by simpa using hb
      obtain ⟨l, hl, hal⟩ := List.mem_flatten.mp ha
      exact nz (hb2 ▸ e ▸ s.parts.mem l hl a hal)
    · rw [List.flatten_append, List.length_append, List.length_append, s.parts.len]
      rfl
  sub := fun l hl => by
    rcases List.mem_append.mp hl with hl | hl
    · exact (s.sub l hl).trans (List.sublist_append_left _ _)
    · rw [List.mem_singleton.mp hl]
      exact List.sublist_append_right _ _
  heads := by
    rw [List.map_append]
    exact s.heads.append (List.Sublist.refl _)
theorem straight_more {zs : List Str} {l1 l2 : List (List Str)} {l : List Str} {z : Str} (s : Straight zs (l1 ++ l :: l2)) (nz : z ∉ zs) : Straight (zs ++ [z]) (l1 ++ (l ++ [z]) :: l2) where
  parts := by
    have fl : (l1 ++ (l ++ [z]) :: l2).flatten.Perm ((l1 ++ l :: l2).flatten ++ [z]) := by
      rw [List.flatten_append, List.flatten_append, List.flatten_cons, List.flatten_cons, List.append_assoc, List.append_assoc, List.append_assoc]
      exact ((List.perm_append_comm (l₁ := [z])).append_left l).append_left l1.flatten
    refine ⟨fun k hk => ?_, fun k hk p hp => ?_, ?_, ?_⟩
    · rcases List.mem_append.mp hk with hk | hk
      · exact s.parts.ne k (List.mem_append_left _ hk)
      · rcases List.mem_cons.mp hk with rfl | hk
        · exact List.append_ne_nil_of_right_ne_nil _ (List.cons_ne_nil _ _)
        · exact s.parts.ne k (List.mem_append_right _ (List.mem_cons_of_mem _ hk))
    · rcases List.mem_append.mp hk with hk | hk
      · exact List.mem_append_left _ (s.parts.mem k (List.mem_append_left _ hk) p hp)
      · rcases List.mem_cons.mp hk with rfl | hk
        · rcases List.mem_append.mp hp with hp | hp
          · exact List.mem_append_left _ (s.parts.mem l (List.mem_append_right _ List.mem_cons_self) p hp)
          · exact List.mem_append_right _ hp
        · exact List.mem_append_left _ (s.parts.mem k (List.mem_append_right _ (List.mem_cons_of_mem _ hk)) p hp)
    · refine fl.nodup_iff.mpr (List.nodup_append.mpr ⟨s.parts.nd, by simp, fun a ha b hb e => ?_⟩)
      have hb2 : b = z := List.mem_singleton.mp hb
      obtain ⟨k, hk, hak⟩ := List.mem_flatten.mp ha
      exact nz (hb2 ▸ e ▸ s.parts.mem k hk a hak)
    · rw [fl.length_eq, List.length_append, List.length_append, s.parts.len]
  sub := fun k hk => by
    rcases List.mem_append.mp hk with hk | hk
    · exact (s.sub k (List.mem_append_left _ hk)).trans (List.sublist_append_left _ _)
    · rcases List.mem_cons.mp hk with rfl | hk
      · exact (s.sub l (List.mem_append_right _ List.mem_cons_self)).append (List.Sublist.refl _)
      · exact (s.sub k (List.mem_append_right _ (List.mem_cons_of_mem _ hk))).trans (List.sublist_append_left _ _)
  heads := by
    have nl := s.parts.ne l (List.mem_append_right _ List.mem_cons_self)
    have e : (l1 ++ (l ++ [z]) :: l2).map (fun l => l.headD Str.empty) = (l1 ++ l :: l2).map fun l => l.headD Str.empty := by
      rw [List.map_append, List.map_append, List.map_cons, List.map_cons]
      cases l with
      | nil => exact absurd rfl nl
      | cons a b => rfl
    rw [e]
    exact s.heads.trans (List.sublist_append_left _ _)
theorem paired_cut {α β : Type} {F : α → β → Prop} : ∀ {us : List α} {ls : List β}, Paired F us ls → ∀ k, k < ls.length → ∃ u1 u u2 l1 l l2, us = u1 ++ u :: u2 ∧ ls = l1 ++ l :: l2 ∧ u1.length = k ∧ F u l ∧ ∀ F' : α → β → Prop, (∀ u l, F u l → F' u l) → ∀ u' l', F' u' l' → Paired F' (u1 ++ u' :: u2) (l1 ++ l' :: l2)
  | _, _, .nil, k, h => absurd h (Nat.not_lt_zero _)
  | _, _, .cons (a := a) (b := b) (l₁ := l₁) (l₂ := l₂) r t, 0, _ => ⟨[], a, l₁, [], b, l₂, rfl, rfl, rfl, r, fun F' m u' l' h => .cons h (Paired.mono m t)⟩
  | _, _, .cons (a := a) (b := b) r t, k + 1, h => by
    obtain ⟨u1, u, u2, l1, l, l2, rfl, rfl, hk, hf, put⟩ := paired_cut t k (Nat.lt_of_succ_lt_succ h)
    exact ⟨a :: u1, u, u2, b :: l1, l, l2, rfl, rfl, by rw [List.length_cons, hk], hf, fun F' m u' l' h => .cons (m _ _ r) (put F' m u' l' h)⟩
def spPartingC : Sp := fun vs H Q _ => ∃ (a w : Addr) (zs : List Str), vs = [.ref a, .ref w] ∧ PoolC H a ∧ w ≠ a ∧ H w = some (.lst (zs.map V.str)) ∧ zs.Nodup ∧ 1 ≤ zs.length ∧ zs.length ≤ 8 ∧
  ∀ H' p us ls, Straight zs ls → PoolC H' a → Same (del H a) (del H' a) → H p = none → (del H' a) p = some (.lst (us.map V.ref)) → Rows (del H' a) us ls → Q (.ref p) H'
/-! the drawn rule, as a dict -/
def gameK (w l r : Addr) (R : RuleD) : List (Key × V) := [(.inr "words", .ref w), (.inr "most", .int R.m), (.inr "turn", .str R.turn), (.inr "trim", .int R.trim), (.inr "gather", .str R.gather), (.inr "prizes", .int R.prizes), (.inr "lists", .ref l), (.inr "reads", .ref r)]
def gameK4 (w : Addr) (m : Int) (t : Str) (tr : Int) : List (Key × V) := [(.inr "words", .ref w), (.inr "most", .int m), (.inr "turn", .str t), (.inr "trim", .int tr)]
def gameK6 (w : Addr) (m : Int) (t : Str) (tr : Int) (ga : Str) (pr : Int) : List (Key × V) := gameK4 w m t tr ++ [(.inr "gather", .str ga), (.inr "prizes", .int pr)]
def gameK7 (w : Addr) (m : Int) (t : Str) (tr : Int) (ga : Str) (pr : Int) (l : Addr) : List (Key × V) := gameK6 w m t tr ga pr ++ [(.inr "lists", .ref l)]
def gameK8 (w : Addr) (m : Int) (t : Str) (tr : Int) (ga : Str) (pr : Int) (l r : Addr) : List (Key × V) := gameK7 w m t tr ga pr l ++ [(.inr "reads", .ref r)]
theorem gameK_eq {w l r : Addr} {R : RuleD} : gameK w l r R = gameK8 w R.m R.turn R.trim R.gather R.prizes l r := rfl
theorem merge4 {w : Addr} {m : Int} {t : Str} {tr : Int} : mergeK [] (gameK4 w m t tr) = gameK4 w m t tr := by
  rw [merge_new (κ := []) (by show ([Sum.inr "words", Sum.inr "most", Sum.inr "turn", Sum.inr "trim"] : List Key).Nodup; decide +kernel), List.nil_append]
theorem put4 {w : Addr} {m : Int} {t : Str} {tr : Int} {ga : Str} {pr : Int} : putK (putK (gameK4 w m t tr) (.inr "gather") (.str ga)) (.inr "prizes") (.int pr) = gameK6 w m t tr ga pr := rfl
theorem put6t {w : Addr} {m : Int} {t : Str} {tr : Int} {ga : Str} {pr x : Int} : putK (gameK6 w m t tr ga pr) (.inr "trim") (.int x) = gameK6 w m t x ga pr := rfl
theorem put6 {w : Addr} {m : Int} {t : Str} {tr : Int} {ga : Str} {pr : Int} {l : Addr} : putK (gameK6 w m t tr ga pr) (.inr "lists") (.ref l) = gameK7 w m t tr ga pr l := rfl
theorem put7 {w : Addr} {m : Int} {t : Str} {tr : Int} {ga : Str} {pr : Int} {l r : Addr} : putK (gameK7 w m t tr ga pr l) (.inr "reads") (.ref r) = gameK8 w m t tr ga pr l r := rfl
theorem put8r {w : Addr} {m : Int} {t : Str} {tr : Int} {ga : Str} {pr : Int} {l r r2 : Addr} : putK (gameK8 w m t tr ga pr l r) (.inr "reads") (.ref r2) = gameK8 w m t tr ga pr l r2 := rfl
theorem put8g {w : Addr} {m : Int} {t : Str} {tr x : Int} {ga gb : Str} {pr : Int} {l r : Addr} : putK (putK (gameK8 w m t tr ga pr l r) (.inr "gather") (.str gb)) (.inr "trim") (.int x) = gameK8 w m t x gb pr l r := rfl
structure GameAt (H : Hp) (g w l r : Addr) (us : List Addr) (ys : List V) (R : RuleD) : Prop where
  ob : H g = some (.dK (gameK w l r R))
  words : H w = some (.lst (R.zs.map V.str))
  ls : H l = some (.lst (us.map V.ref))
  rows : Rows H us R.lists
  rd : H r = some (.lst ys)
  tps : Tps H ys R.reads
def GameOf (H : Hp) (g : Addr) (R : RuleD) : Prop := ∃ w l r us ys, GameAt H g w l r us ys R
theorem GameAt.same {H H2 : Hp} {g w l r : Addr} {us : List Addr} {ys : List V} {R : RuleD} (s : Same H H2) (h : GameAt H g w l r us ys R) : GameAt H2 g w l r us ys R :=
  ⟨s _ _ h.ob, s _ _ h.words, s _ _ h.ls, h.rows.same s, s _ _ h.rd, h.tps.same s⟩
theorem GameOf.same {H H2 : Hp} {g : Addr} {R : RuleD} (s : Same H H2) (h : GameOf H g R) : GameOf H2 g R := by
  obtain ⟨w, l, r, us, ys, h⟩ := h
  exact ⟨w, l, r, us, ys, h.same s⟩
theorem GameAt.gWords {H : Hp} {g w l r : Addr} {us : List Addr} {ys : List V} {R : RuleD} (h : GameAt H g w l r us ys R) : DGet H g (.str "words") (some (.ref w)) := DGet.k (k := .inr "words") h.ob
theorem GameAt.gMost {H : Hp} {g w l r : Addr} {us : List Addr} {ys : List V} {R : RuleD} (h : GameAt H g w l r us ys R) : DGet H g (.str "most") (some (.int R.m)) := DGet.k (k := .inr "most") h.ob
theorem GameAt.gTurn {H : Hp} {g w l r : Addr} {us : List Addr} {ys : List V} {R : RuleD} (h : GameAt H g w l r us ys R) : DGet H g (.str "turn") (some (.str R.turn)) := DGet.k (k := .inr "turn") h.ob
theorem GameAt.gTrim {H : Hp} {g w l r : Addr} {us : List Addr} {ys : List V} {R : RuleD} (h : GameAt H g w l r us ys R) : DGet H g (.str "trim") (some (.int R.trim)) := DGet.k (k := .inr "trim") h.ob
theorem GameAt.gGather {H : Hp} {g w l r : Addr} {us : List Addr} {ys : List V} {R : RuleD} (h : GameAt H g w l r us ys R) : DGet H g (.str "gather") (some (.str R.gather)) := DGet.k (k := .inr "gather") h.ob
theorem GameAt.gPrizes {H : Hp} {g w l r : Addr} {us : List Addr} {ys : List V} {R : RuleD} (h : GameAt H g w l r us ys R) : DGet H g (.str "prizes") (some (.int R.prizes)) := DGet.k (k := .inr "prizes") h.ob
theorem GameAt.gLists {H : Hp} {g w l r : Addr} {us : List Addr} {ys : List V} {R : RuleD} (h : GameAt H g w l r us ys R) : DGet H g (.str "lists") (some (.ref l)) := DGet.k (k := .inr "lists") h.ob
theorem GameAt.gReads {H : Hp} {g w l r : Addr} {us : List Addr} {ys : List V} {R : RuleD} (h : GameAt H g w l r us ys R) : DGet H g (.str "reads") (some (.ref r)) := DGet.k (k := .inr "reads") h.ob
def rowsD (ls : List (List Str)) : List PyData := ls.map fun l => .list (l.map .str)
theorem rows_dp {K : PySem.W.Frag} {H : Hp} {us : List Addr} {ls : List (List Str)} (h : Rows H us ls) : DpAll K H (us.map V.ref) (rowsD ls) := by
  induction h with
  | nil => exact .nil
  | cons e t ih => exact .cons (.lst (SqL.of e) (dp_strs _)) ih
theorem shaped_rows {ls : List (List Str)} (h : ∀ l ∈ ls, ∀ p ∈ l, PyData.strOk p = true) : SeqAt.shaped (.list (rowsD ls)) = true := by
  have key : ∀ {ls : List (List Str)}, (∀ l ∈ ls, ∀ p ∈ l, PyData.strOk p = true) → PyData.canLayAll0 (rowsD ls) = true ∧ PyData.depthAll (rowsD ls) ≤ 2 := fun {ls} => by
    induction ls with
    | nil => exact fun _ => ⟨rfl, by simp [rowsD, PyData.depthAll]⟩
    | cons l ls ih =>
      intro h
      obtain ⟨h1, h2⟩ := ih fun k hk => h k (List.mem_cons_of_mem _ hk)
      have c : PyData.canLay0 (.list (l.map .str)) = true := SeqAt.canLay_of_shaped (shaped_strs (h l List.mem_cons_self))
      have d : (PyData.list (l.map .str)).depth ≤ 2 := by
        have := depth_strs l
        rw [PyData.depth]
        omega
      show PyData.canLayAll0 (.list (l.map .str) :: rowsD ls) = true ∧ PyData.depthAll (.list (l.map .str) :: rowsD ls) ≤ 2
      constructor
      · rw [PyData.canLayAll0, c, h1]
        rfl
      · simp only [PyData.depthAll]
        omega
  obtain ⟨h1, h2⟩ := key h
  unfold SeqAt.shaped
  rw [PyData.canLay0, h1, Bool.true_and]
  refine decide_eq_true ?_
  rw [PyData.depth]
  omega
theorem eqv_nilC (ds : List PyData) : PyData.eqv (.list ds) (.list []) = decide (ds.length = 0) := by
  rw [PyData.eqv]
  cases ds with
  | nil => rfl
  | cons d ds => rfl
/-- somebody of a list of two or more who has too few readers -/
def RuleD.lacks (R : RuleD) (z : Str) : Bool := (R.lists.any fun l => decide (z ∈ l) && decide (1 < l.length)) && decide (((readersOf R.reads z).length : Int) ≤ 2 * R.trim)
theorem short_lacks {R : RuleD} (mem : ∀ l ∈ R.lists, ∀ p ∈ l, p ∈ R.zs) : shortB R.reads R.lists R.trim = R.zs.any R.lacks := by
  rw [Bool.eq_iff_iff, shortB, List.any_eq_true, List.any_eq_true]
  constructor
  · rintro ⟨z, hz, h⟩
    obtain ⟨l, hl, hzl⟩ := List.mem_flatten.mp hz
    obtain ⟨hl1, hl2⟩ := List.mem_filter.mp hl
    refine ⟨z, mem l hl1 z hzl, ?_⟩
    unfold RuleD.lacks
    rw [Bool.and_eq_true, List.any_eq_true]
    exact ⟨⟨l, hl1, by rw [decide_eq_true hzl, hl2]; rfl⟩, h⟩
  · rintro ⟨z, hz, h⟩
    unfold RuleD.lacks at h
    rw [Bool.and_eq_true, List.any_eq_true] at h
    obtain ⟨⟨l, hl, h1⟩, h2⟩ := h
    rw [Bool.and_eq_true] at h1
    exact ⟨z, List.mem_flatten.mpr ⟨l, List.mem_filter.mpr ⟨hl, h1.2⟩, of_decide_eq_true h1.1⟩, h2⟩
def spLacksC : Sp := fun vs H Q _ => ∃ (g : Addr) (z : Str) (R : RuleD), vs = [.ref g, .str z] ∧ GameOf H g R ∧ (∀ l ∈ R.lists, ∀ p ∈ l, PyData.strOk p = true) ∧ R.lists.length ≤ 100 ∧ (∀ l ∈ R.lists, l.length ≤ 100) ∧ R.reads.length ≤ 64 ∧ 0 ≤ R.trim ∧ R.trim ≤ 3 ∧ ∀ H2, Same H H2 → Q (.bl (R.lacks z)) H2
theorem gather_plain {g : Str} (h : g ∈ gathers) : gatherB "plain" (.str g) = true := by
  show (decide (g ∈ gathers) && (decide (("plain" : Str) = "plain") || decide (g ∈ gathersT))) = true
  rw [decide_eq_true h, decide_eq_true rfl]
  rfl
theorem gather_turned {t g : Str} (h : g ∈ gathersT) : gatherB t (.str g) = true := by
  show (decide (g ∈ gathers) && (decide (t = "plain") || decide (g ∈ gathersT))) = true
  rw [decide_eq_true h, decide_eq_true (show g ∈ gathers from List.mem_of_mem_take (i := 2) h), Bool.or_true]
  rfl
/-- the reads, and all of one more word -/
def fillC (zs : List Str) (rs : List Pr) (z : Str) : List Pr := (pairsOf zs).filter fun p => decide (p ∈ rs) || decide (p.2 = z)
def NeedsC (ls : List (List Str)) (z : Str) : Prop := ∃ l ∈ ls, z ∈ l ∧ 1 < l.length
theorem fill_grow {zs : List Str} {rs : List Pr} {z : Str} (h : rs.Sublist (pairsOf zs)) : ∀ p ∈ rs, p ∈ fillC zs rs z := fun p hp => by
  refine List.mem_filter.mpr ⟨h.subset hp, ?_⟩
  rw [decide_eq_true hp]
  rfl
theorem fill_read {zs : List Str} {ls : List (List Str)} {rs : List Pr} {z : Str} (nd : zs.Nodup) (st : Straight zs ls) (n : NeedsC ls z) : ∃ p ∈ fillC zs rs z, p.2 = z := by
  obtain ⟨l, hl, hz, big⟩ := n
  have ndl := nd.sublist (st.sub l hl)
  obtain ⟨y, hy, ne⟩ : ∃ y ∈ l, y ≠ z := by
    refine Classical.byContradiction fun c => ?_
    have all : ∀ y ∈ l, y = z := fun y hy => Classical.byContradiction fun e => c ⟨y, hy, e⟩
    cases l with
    | nil => cases hz
    | cons a l =>
      cases l with
      | nil => simp at big
      | cons b l =>
        have e1 := all a List.mem_cons_self
        have e2 := all b (List.mem_cons_of_mem _ List.mem_cons_self)
        rw [e1, e2] at ndl
        exact (List.nodup_cons.mp ndl).1 List.mem_cons_self
  have ys := (st.sub l hl).subset hy
  have zz := (st.sub l hl).subset hz
  refine ⟨(y, z), List.mem_filter.mpr ⟨List.mem_flatMap.mpr ⟨y, ys, ?_⟩, ?_⟩, rfl⟩
  · unfold rowOf
    exact List.mem_map.mpr ⟨z, List.mem_filter.mpr ⟨zz, decide_eq_true ne⟩, rfl⟩
  · rw [decide_eq_true (rfl : (y, z).2 = z), Bool.or_true]
theorem readers_some {rs : List Pr} {z : Str} : (∃ p ∈ rs, p.2 = z) ↔ 0 < (readersOf rs z).length := by
  unfold readersOf
  rw [List.length_map, List.length_pos_iff_exists_mem]
  exact ⟨fun ⟨p, h1, h2⟩ => ⟨p, List.mem_filter.mpr ⟨h1, decide_eq_true h2⟩⟩, fun ⟨p, h⟩ => ⟨p, (List.mem_filter.mp h).1, of_decide_eq_true (List.mem_filter.mp h).2⟩⟩
theorem needs_any {ls : List (List Str)} {z : Str} (n : NeedsC ls z) : (ls.any fun l => decide (z ∈ l) && decide (1 < l.length)) = true := by
  obtain ⟨l, hl, h1, h2⟩ := n
  rw [List.any_eq_true]
  exact ⟨l, hl, by rw [decide_eq_true h1, decide_eq_true h2]; rfl⟩
theorem lacks_read {R : RuleD} {z : Str} (h : R.lacks z = false) (t : 0 ≤ R.trim) (n : NeedsC R.lists z) : ∃ p ∈ R.reads, p.2 = z := by
  unfold RuleD.lacks at h
  rw [needs_any n, Bool.true_and, decide_eq_false_iff_not] at h
  exact readers_some.mpr (by omega)
theorem lacks_zero {R : RuleD} {z : Str} (t : R.trim = 0) (h : NeedsC R.lists z → ∃ p ∈ R.reads, p.2 = z) : R.lacks z = false := by
  unfold RuleD.lacks
  cases e : R.lists.any fun l => decide (z ∈ l) && decide (1 < l.length) with
  | false => rfl
  | true =>
    obtain ⟨l, hl, h1⟩ := List.any_eq_true.mp e
    rw [Bool.and_eq_true, decide_eq_true_eq, decide_eq_true_eq] at h1
    have := readers_some.mp (h ⟨l, hl, h1.1, h1.2⟩)
    rw [t, Bool.true_and, decide_eq_false_iff_not]
    omega
theorem nolack_full {R : RuleD} (mem : ∀ l ∈ R.lists, ∀ p ∈ l, p ∈ R.zs) (h : ∀ z ∈ R.zs, R.lacks z = false) : shortB R.reads R.lists R.trim = false := by
  rw [short_lacks mem, Bool.eq_false_iff]
  intro c
  obtain ⟨z, hz, e⟩ := List.any_eq_true.mp c
  rw [h z hz] at e
  cases e
theorem PoolC.putD {H : Hp} {a p : Addr} {kvs : List (Key × V)} {o : HO} (P : PoolC H a) (np : p ≠ a) (h : H p = Option.some (.dK kvs)) : PoolC (upd H p o) a := by
  obtain ⟨n, ns, i, h1, h2, h3, h4, h5, h6⟩ := P
  refine ⟨n, ns, i, by rw [upd_ne (Ne.symm np)]; exact h1, h2, ?_, h4, h5, h6⟩
  rw [upd_ne]
  · exact h3
  · rintro rfl
    rw [h] at h3
    cases h3
/-- all but the pool and the game itself -/
def del2 (G : Hp) (a g : Addr) : Hp := del (del G a) g
theorem del2_le {G : Hp} {a g : Addr} : Same (del2 G a g) (del G a) := del_le
theorem del2_upd {G : Hp} {a g : Addr} {o : HO} : del2 (upd G g o) a g = del2 G a g := by
  funext b
  unfold del2
  by_cases e : b = g
  · subst e
    rw [del_same, del_same]
  · rw [del_ne e, del_ne e]
    by_cases e2 : b = a
    · subst e2
      rw [del_same, del_same]
    · rw [del_ne e2, del_ne e2, upd_ne e]
theorem del2_up {G : Hp} {a g b : Addr} {o o2 : HO} (h : del G a b = some o) (hg : G g = some o2) (n : o ≠ o2) : del2 G a g b = some o := by
  refine del_at (fun e => ?_) h
  subst e
  have := del_le _ _ h
  rw [hg] at this
  exact n (Option.some.inj this).symm
theorem del2_mono {G G2 : Hp} {a g : Addr} (s : Same (del G a) (del G2 a)) : Same (del2 G a g) (del2 G2 a g) := del_mono s
theorem del2_at {G : Hp} {a g b : Addr} {o : HO} (n1 : b ≠ a) (n2 : b ≠ g) (e : G b = some o) : del2 G a g b = some o := del_at n2 (del_at n1 e)
theorem del2_of {G : Hp} {a g b : Addr} {o : HO} (e : del2 G a g b = some o) : G b = some o := del_le _ _ (del_le _ _ e)
theorem PoolC.del_at {H : Hp} {a b : Addr} {xs : List V} (P : PoolC H a) (h : H b = Option.some (.tup xs)) : del H a b = Option.some (.tup xs) := L2.del_at (fun e => by
  obtain ⟨n, ns, i, h1, _⟩ := P
  rw [e, h1] at h
  cases h) h
theorem paired_map {α β : Type} {F : α → β → Prop} : ∀ {qs : List (α × β)}, (∀ q ∈ qs, F q.1 q.2) → Paired F (qs.map (·.1)) (qs.map (·.2))
  | [], _ => .nil
  | q :: qs, h => .cons (h q List.mem_cons_self) (paired_map fun p hp => h p (List.mem_cons_of_mem _ hp))
theorem paired_zip {α β : Type} {F : α → β → Prop} : ∀ {xs : List α} {ys : List β}, Paired F xs ys → ∀ q ∈ xs.zip ys, F q.1 q.2
  | _, _, .nil, q, h => by cases h
  | _, _, .cons r t, q, h => by
    rw [List.zip_cons_cons] at h
    rcases List.mem_cons.mp h with rfl | h
    · exact r
    · exact paired_zip t q h
structure PartsAt (H : Hp) (w l r : Addr) (us : List Addr) (ys : List V) (zs : List Str) (ls : List (List Str)) (rs : List Pr) : Prop where
  words : H w = some (.lst (zs.map V.str))
  lsa : H l = some (.lst (us.map V.ref))
  rows : Rows H us ls
  rd : H r = some (.lst ys)
  tps : Tps H ys rs
theorem PartsAt.same {H H2 : Hp} {w l r : Addr} {us : List Addr} {ys : List V} {zs : List Str} {ls : List (List Str)} {rs : List Pr} (s : Same H H2) (h : PartsAt H w l r us ys zs ls rs) : PartsAt H2 w l r us ys zs ls rs :=
  ⟨s _ _ h.words, s _ _ h.lsa, h.rows.same s, s _ _ h.rd, h.tps.same s⟩
theorem PartsAt.game {G : Hp} {a g w l r : Addr} {us : List Addr} {ys : List V} {R : RuleD} (h : PartsAt (del2 G a g) w l r us ys R.zs R.lists R.reads) (n : g ≠ a) (ob : G g = some (.dK (gameK w l r R))) : GameAt (del G a) g w l r us ys R :=
  ⟨del_at n ob, (h.same del2_le).words, (h.same del2_le).lsa, (h.same del2_le).rows, (h.same del2_le).rd, (h.same del2_le).tps⟩
def spGameC : Sp := fun vs H Q _ => ∃ (a tl : Addr) (many most : Nat) (ts : List Str), vs = [.ref a, .int (many : Int), .int (most : Int), .ref tl] ∧ PoolC H a ∧ H tl = some (.lst (ts.map V.str)) ∧ tl ≠ a ∧ 1 ≤ ts.length ∧ (∀ t ∈ ts, t ∈ turns) ∧ 1 ≤ many ∧ many ≤ 6 ∧ 1 ≤ most ∧ most ≤ 10 ∧
  ∀ H' g R, R.Ok → WordsC R.zs → R.turn ∈ ts → 1 ≤ R.m → R.m ≤ (most : Int) → PoolC H' a → Same (del H a) (del H' a) → H g = none → g ≠ a → GameOf (del H' a) g R → Q (.ref g) H'
end L2

set_option Elab.async false
set_option linter.all false
set_option maxRecDepth 100000
set_option maxHeartbeats 4000000
/-! The laws' own crowd, rule and pairs of a drawn game. -/
namespace L2
open PySem PySem.Spec PyProof.Rows
/-- of a parting, somebody's list -/
theorem parts_one {zs : List Str} {ls : List (List Str)} (h : Parts zs ls) (nd : zs.Nodup) {z : Str} (hz : z ∈ zs) : ∃ l, (ls.filter fun l => decide (z ∈ l)) = [l] ∧ l ∈ ls ∧ z ∈ l := by
  have mem : z ∈ ls.flatten := by
    refine Classical.byContradiction fun n => ?_
    have := Km.nodup_le (l := z :: ls.flatten) (d := zs) (List.nodup_cons.mpr ⟨n, h.nd⟩) fun x hx => by
      rcases List.mem_cons.mp hx with rfl | hx
      · exact hz
      · obtain ⟨l, hl, hxl⟩ := List.mem_flatten.mp hx
        exact h.mem l hl x hxl
    rw [List.length_cons, h.len] at this
    omega
  have key : ∀ {ls : List (List Str)}, ls.flatten.Nodup → z ∈ ls.flatten → ∃ l, (ls.filter fun l => decide (z ∈ l)) = [l] ∧ l ∈ ls ∧ z ∈ l := fun {ls} => by
    induction ls with
    | nil => exact fun _ h => by cases h
    | cons l ls ih =>
      intro nd hm
      rw [List.flatten_cons, List.nodup_append] at nd
      rw [List.flatten_cons, List.mem_append] at hm
      by_cases e : z ∈ l
      · refine ⟨l, ?_, List.mem_cons_self, e⟩
        rw [List.filter_cons_of_pos (by simpa using e)]
        congr 1
        refine List.filter_eq_nil_iff.mpr fun k hk c => ?_
        exact nd.2.2 z e z (List.mem_flatten.mpr ⟨k, hk, of_decide_eq_true c⟩) rfl
      · obtain ⟨k, h1, h2, h3⟩ := ih nd.2.1 (hm.resolve_left e)
        refine ⟨k, ?_, List.mem_cons_of_mem _ h2, h3⟩
        rw [List.filter_cons_of_neg (by simpa using e)]
        exact h1
  exact key h.nd mem
theorem listOf_one {R : RuleD} {z : Str} {l : List Str} (h : (R.lists.filter fun l => decide (z ∈ l)) = [l]) : R.listOf z = l := by
  unfold RuleD.listOf
  rw [h]
  simp
/-- the pairs within a list, by the list of the one who is read -/
theorem within_one {R : RuleD} (h : Parts R.zs R.lists) (nd : R.zs.Nodup) {p : Pr} (hp : p.1 ∈ R.zs) : (R.lists.any fun l => decide (p.1 ∈ l) && decide (p.2 ∈ l)) = decide (p.2 ∈ R.listOf p.1) := by
  obtain ⟨l, e, _, _⟩ := parts_one h nd hp
  rw [listOf_one e, ← List.any_filter, e]
  simp
theorem within_listOf {R : RuleD} (ok : R.Ok) : within R.reads R.lists = R.reads.filter fun p => decide (p.2 ∈ R.listOf p.1) :=
  List.filter_congr fun p hp => within_one ok.lists.parts ok.folk.nd (pairsOf_mem (ok.reads.subset hp)).1
def spCrowdG (C : Addr) : Sp := fun vs H Q _ => ∃ (g : Addr) (R : RuleD), vs = [.ref g] ∧ GameOf H g R ∧ WordsC R.zs ∧ 1 ≤ R.m ∧ R.m ≤ 10 ∧ ∀ H' c, Same H H' → H c = none → CrowdOf H' C c R.zs R.m → Q (.ref c) H'
def spRuleG (C CR : Addr) : Sp := fun vs H Q _ => ∃ (g : Addr) (R : RuleD), vs = [.ref g] ∧ GameOf H g R ∧ R.Ok ∧ WordsC R.zs ∧ 1 ≤ R.m ∧ R.m ≤ 10 ∧ ∀ H' x, Same H H' → H x = none → RuleOf H' CR C x R → Q (.ref x) H'
/-- names of parts -/
def wordKeys (kvs : List (Key × V)) : Prop := (∀ kv ∈ kvs, ∃ z, kv.1 = Sum.inr z) ∧ (kvs.map (·.1)).Nodup
def spOtherG : Sp := fun vs H Q _ => ∃ (g : Addr) (kvs : List (Key × V)) (z : Str) (v : V), vs = [.ref g, .str z, v] ∧ H g = some (.dK kvs) ∧ wordKeys kvs ∧ kvs.length ≤ 100 ∧ ∀ H' p, Same H H' → H p = none → H' p = some (.dK (putK kvs (.inr z) v)) → Q (.ref p) H'
def spListG : Sp := fun vs H Q _ => ∃ (g : Addr) (z : Str) (R : RuleD), vs = [.ref g, .str z] ∧ GameOf H g R ∧ R.Ok ∧ z ∈ R.zs ∧ ∀ H' u, Same H H' → H' u = some (.lst ((R.listOf z).map V.str)) → Q (.ref u) H'
def spInnerG : Sp := fun vs H Q _ => ∃ (g : Addr) (R : RuleD), vs = [.ref g] ∧ GameOf H g R ∧ R.Ok ∧ ∀ H' p ys, Same H H' → H p = none → H' p = some (.lst ys) → Tps H' ys (within R.reads R.lists) → Q (.ref p) H'
/-- new pairs of a word and a value -/
def NamedAt (G : Hp) (us : List Addr) (kvs : List (Key × V)) : Prop := Paired (fun u kv => G u = some (.tup [kV kv.1, kv.2])) us kvs
theorem NamedAt.sq {K : PySem.W.Frag} {G : Hp} {us : List Addr} {kvs : List (Key × V)} (h : NamedAt G us kvs) : Paired (fun p kv => SqT K G p [kV kv.1, kv.2]) us kvs := Paired.mono (fun _ _ e => SqT.of e) h
theorem merge_nil {kvs : List (Key × V)} (h : (kvs.map (·.1)).Nodup) : mergeK [] kvs = kvs := by
  rw [merge_new (κ := []) (by rw [List.nil_append]; exact h), List.nil_append]
theorem valV_at {κ : Type} [DecidableEq κ] : ∀ {kvs : List (κ × V)} {i : Nat} {k : κ} {v : V}, (kvs.map (·.1)).Nodup → kvs[i]? = some (k, v) → valV kvs k = some v
  | [], _, _, _, _, h => by simp at h
  | p :: r, 0, k, v, _, h => by
    have e : p = (k, v) := by simpa using h
    rw [valV_pos (by rw [e]), e]
  | p :: r, i + 1, k, v, nd, h => by
    rw [List.map_cons, List.nodup_cons] at nd
    have h2 : r[i]? = some (k, v) := by simpa using h
    rw [valV_neg (fun e => nd.1 (by rw [e]; exact List.mem_map.mpr ⟨(k, v), List.mem_of_getElem? h2, rfl⟩))]
    exact valV_at nd.2 h2
theorem take_snocG {α : Type} {xs : List α} {i : Nat} {x : α} (h : xs[i]? = some x) : xs.take (i + 1) = xs.take i ++ [x] := by
  rw [List.take_add_one, h]
  rfl
theorem own_within {R : RuleD} (ok : R.Ok) {p : Pr} (hp : p ∈ R.reads) : p ∈ within R.reads R.lists ↔ p.2 ∈ R.listOf p.1 := by
  rw [within_listOf ok, List.mem_filter, decide_eq_true_eq]
  exact ⟨fun h => h.2, fun h => ⟨hp, h⟩⟩
/-- safe, if nobody reads of the own list -/
theorem safe_within {R : RuleD} (ok : R.Ok) : decide (R.safe = R.zs) = decide ((within R.reads R.lists).length = 0) := by
  refine decide_eq_decide.mpr ?_
  unfold RuleD.safe
  rw [List.filter_eq_self, List.length_eq_zero_iff, within_listOf ok, List.filter_eq_nil_iff]
  constructor
  · intro h p hp c
    have c := of_decide_eq_true c
    have m := pairsOf_mem (ok.reads.subset hp)
    have e := of_decide_eq_true (h p.1 m.1)
    have := List.eq_nil_of_length_eq_zero e
    unfold RuleD.ownReads at this
    have n := List.filter_eq_nil_iff.mp this p hp
    rw [decide_eq_true rfl, decide_eq_true c] at n
    exact n rfl
  · intro h z _
    refine decide_eq_true (List.length_eq_zero_iff.mpr (List.filter_eq_nil_iff.mpr fun p hp c => ?_))
    rw [Bool.and_eq_true, decide_eq_true_eq, decide_eq_true_eq] at c
    refine h p hp (decide_eq_true ?_)
    rw [c.1]
    exact c.2
theorem filter_len {α : Type} (f : α → Bool) : ∀ l : List α, (l.filter f).length + (l.filter fun a => !f a).length = l.length
  | [] => rfl
  | a :: l => by
    have := filter_len f l
    cases e : f a with
    | true =>
      rw [List.filter_cons_of_pos e, List.filter_cons_of_neg (by rw [e]; decide), List.length_cons, List.length_cons]
      omega
    | false =>
      rw [List.filter_cons_of_neg (by rw [e]; decide), List.filter_cons_of_pos (by rw [e]; rfl), List.length_cons, List.length_cons]
      omega
theorem less_sub {R : RuleD} (ok : R.Ok) : R.lessInner.Sublist (pairsOf R.zs) := List.Sublist.trans List.filter_sublist ok.reads
theorem less_eq {R : RuleD} (ok : R.Ok) : R.lessInner = R.reads.filter fun p => !decide (p.2 ∈ R.listOf p.1) := by
  refine List.filter_congr fun p hp => ?_
  congr 1
  exact decide_eq_decide.mpr (own_within ok hp)
theorem less_len {R : RuleD} (ok : R.Ok) : (R.reads.length : Int) - (R.lessInner.length : Int) = ((within R.reads R.lists).length : Int) := by
  have := filter_len (fun p => decide (p.2 ∈ R.listOf p.1)) R.reads
  rw [less_eq ok, within_listOf ok]
  omega
theorem less_ok {R : RuleD} (ok : R.Ok) (h : shortB R.lessInner R.lists R.trim = false) : (R.withReads R.lessInner).Ok :=
  ⟨ok.folk, ok.turn, ok.gather, ok.trim, ok.prizes, less_sub ok, ok.lists, h⟩
theorem less_safe {R : RuleD} (ok : R.Ok) (h : shortB R.lessInner R.lists R.trim = false) : decide ((R.withReads R.lessInner).safe = (R.withReads R.lessInner).zs) = true := by
  rw [safe_within (less_ok ok h), within_listOf (less_ok ok h)]
  refine decide_eq_true (List.length_eq_zero_iff.mpr (List.filter_eq_nil_iff.mpr fun p hp c => ?_))
  have hp2 : p ∈ R.lessInner := hp
  rw [less_eq ok] at hp2
  have := (List.mem_filter.mp hp2).2
  have c2 : p.2 ∈ R.listOf p.1 := of_decide_eq_true c
  rw [decide_eq_true c2] at this
  cases this
theorem less_all {R : RuleD} : (R.lessInner.all fun p => decide (p ∈ R.reads)) = true :=
  List.all_eq_true.mpr fun p hp => decide_eq_true (List.mem_filter.mp hp).1
theorem alike_less {R : RuleD} : Alike (R.withReads R.lessInner) R := ⟨rfl, rfl, rfl, rfl, rfl, rfl, rfl⟩
theorem alike_refl {R : RuleD} : Alike R R := ⟨rfl, rfl, rfl, rfl, rfl, rfl, rfl⟩
/-- some word lacks readers, without the inner pairs -/
theorem less_short {R : RuleD} (ok : R.Ok) : shortB R.lessInner R.lists R.trim = (R.zs.any (R.withReads R.lessInner).lacks) := short_lacks (R := R.withReads R.lessInner) ok.lists.parts.mem
/-- what is not of the pool, once the pool is drawn anew -/
theorem same_del {H H1 H2 : Hp} {a : Addr} (na : H a = none) (s : Same H H1) (d : Same (del H1 a) (del H2 a)) : Same H H2 := fun b o e => by
  have n : b ≠ a := fun z => by
    rw [z, na] at e
    cases e
  exact del_le _ _ (d _ _ (del_at n (s _ _ e)))
theorem gameK_words {w l r : Addr} {R : RuleD} : wordKeys (gameK w l r R) := by
  refine ⟨fun kv h => ?_, ?_⟩
  · unfold gameK at h
    simp only [List.mem_cons, List.not_mem_nil, or_false] at h
    rcases h with h | h | h | h | h | h | h | h <;> exact ⟨_, by rw [h]⟩
  · show ([Sum.inr "words", Sum.inr "most", Sum.inr "turn", Sum.inr "trim", Sum.inr "gather", Sum.inr "prizes", Sum.inr "lists", Sum.inr "reads"] : List Key).Nodup
    decide +kernel
theorem gameK_put {w l r r2 : Addr} {R : RuleD} {rs : List Pr} : putK (gameK w l r R) (.inr "reads") (.ref r2) = gameK w l r2 (R.withReads rs) := rfl
theorem any_len {α : Type} (f : α → Bool) (l : List α) : l.any f = !decide ((l.filter f).length = 0) := by
  rw [Bool.eq_iff_iff, List.any_eq_true, Bool.not_eq_true', decide_eq_false_iff_not, List.length_eq_zero_iff, List.filter_eq_nil_iff]
  constructor
  · rintro ⟨a, ha, h⟩ n
    exact n a ha h
  · intro n
    exact Classical.byContradiction fun c => n fun a ha h => c ⟨a, ha, h⟩
theorem trim_bounds {R : RuleD} (ok : R.Ok) : 0 ≤ R.trim ∧ R.trim ≤ 3 := by
  have h := ok.trim
  unfold trimB at h
  split at h
  · have h : (decide (1 ≤ R.trim) && decide (R.trim ≤ 3)) = true := h
    rw [Bool.and_eq_true, decide_eq_true_eq, decide_eq_true_eq] at h
    omega
  · have h := V.int.inj (of_decide_eq_true h)
    omega
theorem lists_short {R : RuleD} (ok : R.Ok) : R.lists.length ≤ 100 ∧ (∀ l ∈ R.lists, l.length ≤ 100) ∧ (∀ l ∈ R.lists, ∀ p ∈ l, PyData.strOk p = true) := by
  obtain ⟨f1, f2, f3, f4⟩ := ok.few
  refine ⟨by omega, fun l hl => ?_, fun l hl p hp => ok.folk.ok p (ok.lists.parts.mem l hl p hp)⟩
  have := (ok.lists.sub l hl).length_le
  omega
end L2

set_option Elab.async false
set_option linter.all false
set_option maxRecDepth 100000
set_option maxHeartbeats 4000000
/-! C.m(..), m a staticmethod of the class at C. -/
namespace L2
open PySem PySem.Spec PyProof.Rows
/-- C.m is a staticmethod: its record at p, its def at g -/
structure SMet (K : PySem.W.Frag) (C : Addr) (mc : Value) (m : Str) (p g : Addr) : Prop where
  look : PySem.W.findCls K (.ref C) mc m = some (.get (.builtin "staticmethod.__get__") (.ref p) .none (.ref C))
  rcd : ∃ rest, PySem.W.recIn K p "staticmethod" = some (.ref g :: rest)
  keep : PySem.W.keepIn K (.ref g) = true
def tStatic (C : Addr) (sp : Sp) (E : XK) (ta : TE) (t : TA) : TE := fun σ H Q => ta σ H fun x H1 => x = .ref C ∧ t σ H1 fun vs H2 => sp vs H2 Q E
section
variable {X : Cx} {CX : CXT} {k : Nat} {C p g : Addr} {mc : Value} {m : Str} {fd : FuncData} {ps : List Str} {sp : Sp} {E : XK} {apos pos : Pos} {o e : Expr} {es : List Expr} {ta : TE} {t : TA}
theorem pe_static {pl : Sem Bool} (he : PE X o ta) (r : ClX.CRead X.K C mc) (c : SMet X.K C mc m p g) (F : FnOk X.prog X.w X.K X.mg X.base CX k g fd ps sp) (hr : Room k X.A) (hb : Binds X.K fd ps []) (hx : Passes CX X E) (ha : PA X (e :: es) t)
    (hst : starEach (e :: es) X.env = (false, eval e X.env) :: starEach es X.env := by rfl) (hpl : (backTo pos (starEach es X.env)).any (·.1) = false := by rfl)
    (ht : eval (.Call (.Attribute o m apos) (e :: es) [] pos) X.env = (do
      let ov ← eval o X.env
      standAt apos.atName
      let (f, first) ← holding [ov] (getMethod ov m pl)
      callWith pos f first (backTo pos (starEach (e :: es) X.env)) (backToKw pos (keywordEach [] X.env))) := by rfl) :
    PE X (.Call (.Attribute o m apos) (e :: es) [] pos) (tStatic C sp E ta t) := by
  refine ⟨fun pins s σ H Q I h => ?_⟩
  refine PySem.W.methodCall_KW (pl := pl) (thn (he.run pins s σ H _ I h) fun u s1 z => ?_) ht
  obtain ⟨x, H1, I1, rx, rfl, q⟩ := z
  obtain rfl : u = Value.ref C := rx
  obtain ⟨rest, hp⟩ := c.rcd
  refine PySem.W.method_cls I1.kIn r.ga (PySem.W.cls_bind I1.kIn r.rd c.look (wpAny_call (PySem.W.sm_get (s := { s1 with toks := s1.toks + 1 }) I1.kIn hp (PySem.W.handed_on rfl ?_))))
  have I2 : Inv X pins σ H1 { s1 with toks := s1.toks + 1 } := I1.tok _
  refine PySem.W.callWith_K (first := []) (h₀ := X.base) I2.ok.mod.kin c.keep (thn (ha.run pos pins _ σ H1 _ I2 q) fun us s2 z => ?_) hst hpl
  obtain ⟨vs, H2, I3, rv, q2⟩ := z
  exact ⟨I3.kIn, run_fn (ds := []) (dvs := []) (us := us) (vs := vs) F hr hb .nil hx I3 rv (by rw [List.append_nil]; exact q2)⟩
end
end L2

set_option Elab.async false
set_option linter.all false
set_option maxRecDepth 100000
set_option maxHeartbeats 4000000
/-! o[i], o an instance with an own __getitem__. -/
namespace L2
open PySem PySem.Spec PyProof.Rows
def tIxOwn (C : Addr) (sp : Sp) (E : XK) (to ti : TE) : TE := fun σ H Q => to σ H fun x H1 => ti σ H1 fun y H2 => ∃ (a dx : Addr) (fs : List (Str × V)), x = .ref a ∧ H2 a = some (.ins C dx fs) ∧ sp [.ref a, y] H2 Q E
section
variable {X : Cx} {CX : CXT} {k : Nat} {f C : Addr} {fd : FuncData} {ps : List Str} {sp : Sp} {E : XK} {o i : Expr} {pos : Pos} {to ti : TE}
theorem pe_ixOwn (ho : PE X o to) (hi : PE X i ti) (hs : PySem.W.findIn X.K (.ref C) "__getitem__" = some (some (.ref f))) (hfn : PySem.W.fnIn X.K f = true) (hf : PySem.W.isFn X.K (.ref f) = true) (F : FnOk X.prog X.w X.K X.mg X.base CX k f fd ps sp) (hr : Room (k + 1) X.A) (hb : Binds X.K fd ps []) (hx : Passes CX X E)
    (hsl : ∀ x j, subscripted i true (.ref x) j = runValue (.builtin "lifetime.subscript" ⟨[.ref x, j], []⟩) := by intro _ _; with_unfolding_all rfl) : PE X (.Subscript o i pos) (tIxOwn C sp E to ti) := by
  refine ⟨fun pins s σ H Q I h => ?_⟩
  refine Subscript_ (thn (ho.run pins s σ H _ I h) fun u s1 z1 => ?_)
  obtain ⟨x, H1, I1, rx, q1⟩ := z1
  refine thn (hi.run pins s1 σ H1 _ I1 q1) fun v s2 z2 => ?_
  obtain ⟨y, H2, I2, ry, a, dx, fs, rfl, ea, q⟩ := z2
  obtain rfl : u = Value.ref a := rx
  obtain ⟨mA, O, _, _, _, _⟩ := ins_get I2.hok ea
  obtain ⟨od, J, _⟩ := O.look
  obtain ⟨m, hF⟩ := I2.fr
  exact PySem.W.sub_K hF I2.ok.mod.kin J hs hfn hf (run_in1 (vs := [.ref a, y]) (us := [.ref a, v]) F hr hb hx I2 (.cons rfl (.cons ry .nil)) q) (hsl a v)
end
end L2

set_option Elab.async false
set_option linter.all false
set_option maxRecDepth 100000
set_option maxHeartbeats 4000000
/-! max(list of ints, default=d). -/
namespace L2
open PySem PySem.Spec PyProof.Rows PySem.W
theorem holdAll_ints {h : Heap} : ∀ {vs : List Value} {ns : List Int}, IntsAre vs ns → HoldAll h vs ns
  | _, _, .nil => ⟨_, .nil⟩
  | _, _, .cons n t r => by
    obtain ⟨as, q⟩ := holdAll_ints (h := h) r
    exact ⟨_, .cons (.int n t) q⟩
theorem maxOf_int (x : Int) : ∀ (xs : List Int), (maxOf x xs ∈ x :: xs) ∧ ∀ y ∈ x :: xs, y ≤ maxOf x xs := by
  intro xs
  induction xs generalizing x with
  | nil => exact ⟨List.mem_cons_self .., fun y hy => by rw [List.mem_singleton.mp hy]; exact Int.le_refl _⟩
  | cons z xs ih =>
    show (maxOf (if DatumOrd.lt x z = true then z else x) xs ∈ x :: z :: xs) ∧ ∀ y ∈ x :: z :: xs, y ≤ maxOf (if DatumOrd.lt x z = true then z else x) xs
    have e : DatumOrd.lt x z = decide (x < z) := rfl
    rw [e]
    by_cases c : x < z
    · rw [decide_eq_true c, if_pos rfl]
      obtain ⟨h1, h2⟩ := ih z
      refine ⟨List.mem_cons_of_mem _ h1, fun y hy => ?_⟩
      rcases List.mem_cons.mp hy with rfl | hy
      · exact Int.le_trans (Int.le_of_lt c) (h2 z (List.mem_cons_self ..))
      · exact h2 y hy
    · rw [decide_eq_false c, if_neg (by decide)]
      obtain ⟨h1, h2⟩ := ih x
      refine ⟨?_, fun y hy => ?_⟩
      · rcases List.mem_cons.mp h1 with h | h
        · rw [h]
          exact List.mem_cons_self ..
        · exact List.mem_cons_of_mem _ (List.mem_cons_of_mem _ h)
      · rcases List.mem_cons.mp hy with rfl | hy
        · exact h2 y (List.mem_cons_self ..)
        rcases List.mem_cons.mp hy with rfl | hy
        · exact Int.le_trans (by omega) (h2 x (List.mem_cons_self ..))
        · exact h2 y (List.mem_cons_of_mem _ hy)
def rMaxDef (K : PySem.W.Frag) : List V → List V → Hp → VK → Prop := fun xs zs H Q => ∃ (a : Addr) (ns : List Int) (d : Int), xs = [.ref a] ∧ zs = [.int d] ∧ SqL K H a (ns.map V.int) ∧ (ns = [] → Q (.int d) H) ∧ ∀ m, m ∈ ns → (∀ y ∈ ns, y ≤ m) → Q (.int m) H
theorem cr_maxDef {X : Cx} (hc : X.calm = true) (hu : X.A.units + 1 < cLine) : CallRK X (.builtin "max") ["default"] (rMaxDef X.K) := by
  intro pins s σ H xs zs us ws Q I r rz h
  obtain ⟨a, ns, d, rfl, rfl, hs, q0, q⟩ := h
  obtain ⟨its, rv, hl, _⟩ := I.list hs
  rw [Vals.ref1 r]
  obtain ⟨u, rfl, ru⟩ := rz.one
  obtain ⟨t, rfl⟩ := ru
  have hh : HoldAll s.heap its.toArray.toList ns := holdAll_ints (by simpa using rv.ints)
  refine max_list_datum_default (I.ok.hd hc) hl.isList hh hu (fun e h' tk k => ⟨.int d, H, I.kept k, ⟨_, rfl⟩, q0 e⟩) fun y ys i v h' tk e hi hv k => ?_
  obtain ⟨as, rd⟩ := hv
  obtain ⟨h1, h2⟩ := maxOf_int y ys
  rw [← e] at h1 h2
  generalize maxOf y ys = m at rd h1 h2
  cases (show Reads h' v (.int m) as from rd)
  exact ⟨.int m, H, I.kept k, ⟨_, rfl⟩, q m h1 h2⟩
end L2

set_option Elab.async false
set_option linter.all false
set_option maxRecDepth 100000
set_option maxHeartbeats 4000000
/-! list(d.values()), d with ints or texts as keys. -/
namespace L2
open PySem PySem.Spec PyProof.Rows
section
variable {X : Cx}
def rValuesK : V → List V → Hp → VK → Prop := fun x xs H Q => ∃ (a : Addr) (kvs : List (Key × V)), x = .ref a ∧ xs = [] ∧ H a = some (.dK kvs) ∧ ∀ p, H p = none → Q (.ref p) (upd H p (valsO p a))
theorem mt_valuesK : MtR X "dict.values" rValuesK := by
  intro pins s σ H x xs v us Q I rx rxs h
  obtain ⟨a, kvs, rfl, rfl, ha, q⟩ := h
  cases rx
  cases rxs
  obtain ⟨low, es, ep, hr, hsz, z, _⟩ := I.rawK ha
  refine call_meetsIn PySem.F.slot_dict_values hr.typeIs PySem.F.entry_dict_values (PySem.F.args_dict_values_1 _) (meets_dict_values_raw a low) ⟨⟨es, ep, hr⟩, ?_⟩
  have e : (s.heap.push { cls := .type "dict_values", data := .fields #[.ref a] }).get? s.heap.objs.size = some { cls := .type "dict_values", data := .fields #[.ref a] } := Heap.get?_push_size _ rfl
  refine ⟨.ref s.heap.objs.size, upd H s.heap.objs.size (valsO s.heap.objs.size a), I.laid (t' := s.toks) (fun b u e => Heap.get?_push_of_some _ e) (Nat.le_refl _) ?_, rfl, q _ (I.hok.fresh (Nat.le_refl _))⟩
  exact ⟨⟨_, e, rfl, rfl⟩, ⟨_, e⟩, fun h1 h2 x k => let ⟨o, ho, r⟩ := x; ⟨o, k o ho, r⟩⟩
theorem call_list_valsK (hc : X.calm = true) : CallR X (.type "list") (fun xs H Q => ∃ p d kvs, xs = [V.ref p] ∧ H p = some (valsO p d) ∧ H d = some (.dK kvs) ∧ ∀ l, H l = none → Q (.ref l) (upd H l (.lst (kvs.map (·.2))))) := by
  intro pins s σ H xs us Q I r h
  obtain ⟨p, d, kvs, rfl, hp, hd, q⟩ := h
  obtain ⟨u, rfl, rx⟩ := r.one
  cases rx
  obtain ⟨low, es, ep, hr, hsz, z, ent⟩ := I.rawK hd
  have hv : s.heap.IsValuesView p d := (show ObjOk X.prog X.w H s.heap p (valsO p d) from I.hok p _ hp).1
  refine PySem.W.kdl_call (KdlSrc.rawValues (r := p) (d := d) (es := es) (ep := ep)) (I.ok.hd hc) ⟨hv, hr⟩ (by omega) fun h' tk acc' c' kp e it => ?_
  have len : acc'.toList.length = kvs.length := by rw [Array.length_toList, it.1, hsz]
  have rv : Vals (kvs.map (·.2)) acc'.toList := vals_at (by rw [List.length_map, len]) fun j x u hx hu => by
    rw [List.getElem?_map] at hx
    cases hj : kvs[j]? with
    | none =>
      rw [hj] at hx
      cases hx
    | some kv =>
      rw [hj] at hx
      obtain rfl := Option.some.inj hx
      obtain ⟨hi, _, r2⟩ := ent j kv.1 kv.2 hj
      obtain ⟨hi2, e2⟩ := it.2 j u (by rw [← Array.getElem?_toList]; exact hu)
      rw [e2]
      exact r2
  refine ⟨.ref s.heap.objs.size, _, I.laid (t' := tk) (o := .lst (kvs.map (·.2))) kp (Nat.le_refl _) ?_, rfl, q _ (I.hok.fresh (Nat.le_refl _))⟩
  exact ⟨by rw [List.length_map]; exact z, acc'.toList, c', rv, by rw [Array.toArray_toList]; exact e⟩
end
end L2

set_option Elab.async false
set_option linter.all false
set_option maxRecDepth 100000
set_option maxHeartbeats 4000000
/-! [x for x in xs if ..] of a list of words. -/
namespace L2
open PySem PySem.Spec PyProof.Rows
theorem nest_filter {J : It} {n : Nat} {Gd : Hp → Prop} {Y : Nat → Hp → V → Hp → Prop} (w : Walk J n Gd Y) {ms : List Str} (hn : n = ms.length) (h : ms.length ≤ 64) {HL : Hp} {D : Addr} (nD : HL D = none)
    (hY : ∀ i x G G', Y i G x G' → G' = G ∧ (ms.map V.str)[i]? = some x) (hG : ∀ G, Same HL G → Gd G) {B : V → Hp → (Hp → Prop) → Prop} (good : Str → Bool)
    (hB : ∀ b G Nx, b ∈ ms → Same HL G → (good b = true → ∀ G', Same G G' → ∃ acc, G' D = some (.lst acc) ∧ acc.length < sizeLine ∧ Nx (upd G' D (.lst (acc ++ [.str b])))) → (good b = false → ∀ G', Same G G' → Nx G') → B (.str b) G Nx)
    {Qd : Hp → Prop} (hd : ∀ G, Same HL G → G D = some (.lst ((ms.filter good).map V.str)) → Qd G) :
    ∃ W : Nat → Nat → Hp → Prop, (∃ m, W 0 m (upd HL D (.lst []))) ∧ ∀ i m H, W i m H → (J.stop i H ∧ Qd H) ∨ (J.go i H ∧ ∃ Nx : Hp → Prop, (∀ H', Nx H' → ∃ m', m' < m ∧ W (i + 1) m' H') ∧ ∀ x H', J.yld i H x H' → B x H' Nx) := by
  refine nest_it w (fun i G => Same HL G ∧ G D = some (.lst (((ms.take i).filter good).map V.str))) ⟨same_new nD, upd_same⟩ (fun i G _ h => hG _ h.1) ?_ ?_
  · rintro i x G G' hi ⟨sG, hD⟩ y
    obtain ⟨rfl, hx⟩ := hY i x G G' y
    rw [List.getElem?_map] at hx
    obtain ⟨b, hb, rfl⟩ := Option.map_eq_some_iff.mp hx
    have tk : (ms.take (i + 1)).filter good = ((ms.take i).filter good) ++ ([b].filter good) := by
      rw [List.take_add_one, hb, List.filter_append]
      rfl
    refine hB b _ _ (List.mem_of_getElem? hb) sG (fun gb G2 s2 => ⟨_, s2 _ _ hD, ?_, fun c o e => ?_, ?_⟩) fun gb G2 s2 => ⟨sG.trans s2, ?_⟩
    · rw [List.length_map]
      refine Nat.lt_of_le_of_lt (List.length_filter_le _ _) (small1000 ?_)
      rw [List.length_take]
      omega
    · rw [upd_ne (ne_of_none e nD)]
      exact s2 _ _ (sG _ _ e)
    · rw [upd_same, tk, List.filter_cons_of_pos gb, List.filter_nil, List.map_append]
      rfl
    · rw [tk, List.filter_cons_of_neg (by rw [gb]; decide), List.filter_nil, List.append_nil]
      exact s2 _ _ hD
  · rintro G ⟨sG, hD⟩
    rw [hn, List.take_length] at hD
    exact hd G sG hD
end L2

set_option Elab.async false
set_option linter.all false
set_option maxRecDepth 100000
set_option maxHeartbeats 4000000
/-! Marks drawn pair by pair; rotated people; sublists. -/
namespace L2
open PySem PySem.Spec PyProof.Rows
theorem isPairT_but {G G' : Hp} {a u : Addr} {kv : List Key × V} (P : Pool G a) (b : But a G G') (h : IsPairT G u kv) : IsPairT G' u kv := by
  obtain ⟨q, h1, h2⟩ := h
  exact ⟨q, b _ _ (P.other h1 fun _ z => nomatch z) h1, b _ _ (P.other h2 fun _ z => nomatch z) h2⟩
theorem nest_draws {J : It} {n : Nat} {Gd : Hp → Prop} {Y : Nat → Hp → V → Hp → Prop} (w : Walk J n Gd Y) {ps : List (Str × Str)} (hn : n = ps.length) (h64 : ps.length ≤ 64) (ndp : ps.Nodup) {HL : Hp} {D a : Addr} {m : Int} (nD : HL D = none) (P : Pool HL a)
    (hY : ∀ i x G G', But a HL G → Y i G x G' → G' = G ∧ ∃ p t, ps[i]? = some p ∧ x = .ref t ∧ G t = some (.tup [.str p.1, .str p.2])) (hG : ∀ G, But a HL G → Gd G) {B : V → Hp → (Hp → Prop) → Prop}
    (hB : ∀ p t G Nx, p ∈ ps → Pool G a → But a HL G → G t = some (.tup [.str p.1, .str p.2]) → (∀ (r : Int) u G', 0 ≤ r → r ≤ m → Pool G' a → But a G G' → G' u = some (.tup [.ref t, .int r]) → ∃ acc, G' D = some (.lst acc) ∧ acc.length < sizeLine ∧ Nx (upd G' D (.lst (acc ++ [.ref u])))) → B (.ref t) G Nx)
    {Qd : Hp → Prop} (hd : ∀ (G : Hp) (us : List Addr) (g : Str × Str → V), But a HL G → Pool G a → G D = some (.lst (us.map V.ref)) → (∀ p ∈ ps, ∃ i : Int, g p = .int i ∧ 0 ≤ i ∧ i ≤ m) → Paired (IsPairT G) us (ps.map fun p => (key2 p, g p)) → Qd G) :
    ∃ W : Nat → Nat → Hp → Prop, (∃ m, W 0 m (upd HL D (.lst []))) ∧ ∀ i m H, W i m H → (J.stop i H ∧ Qd H) ∨ (J.go i H ∧ ∃ Nx : Hp → Prop, (∀ H', Nx H' → ∃ m', m' < m ∧ W (i + 1) m' H') ∧ ∀ x H', J.yld i H x H' → B x H' Nx) := by
  have nDa : D ≠ a := fun e => by
    obtain ⟨g, q, ha, _⟩ := P
    rw [e, ha] at nD
    cases nD
  refine nest_it w (fun i G => But a HL G ∧ Pool G a ∧ ∃ (us : List Addr) (g : Str × Str → V), G D = some (.lst (us.map V.ref)) ∧ Paired (IsPairT G) us ((ps.take i).map fun p => (key2 p, g p)) ∧ ∀ p ∈ ps.take i, ∃ i : Int, g p = .int i ∧ 0 ≤ i ∧ i ≤ m) ⟨But.of_same (same_new nD), P.same (same_new nD), [], fun _ => .non, upd_same, .nil, fun p hp => by simp at hp⟩ (fun i G _ h => hG _ h.1) ?_ ?_
  · rintro i x G G' hi ⟨bG, PG, us, g, hD, hus, hg⟩ y
    obtain ⟨rfl, p, t, hp, rfl, ht⟩ := hY i x G G' bG y
    have np : p ∉ ps.take i := fun z => by
      obtain ⟨hi2, e⟩ := List.getElem?_eq_some_iff.mp hp
      have e2 : ps = ps.take i ++ p :: ps.drop (i + 1) := by
        rw [← e, ← List.drop_eq_getElem_cons hi2, List.take_append_drop]
      rw [e2] at ndp
      exact (List.nodup_append.mp ndp).2.2 p z p (List.mem_cons_self ..) rfl
    refine hB p t _ _ (List.mem_of_getElem? hp) PG bG ht fun r u G2 h0 h1 P2 b2 hu => ⟨_, b2 _ _ nDa hD, ?_, fun c o nc e => ?_, ?_, us ++ [u], withF g p (.int r), ?_, ?_, fun q hq => ?_⟩
    · rw [List.length_map, hus.length, List.length_map, List.length_take]
      exact Nat.lt_of_le_of_lt (Nat.min_le_left _ _) (small1000 (by omega))
    · rw [upd_ne (ne_of_none e nD)]
      exact b2 _ _ nc (bG _ _ nc e)
    · obtain ⟨g2, q2, ha, hq⟩ := P2
      exact ⟨g2, q2, by rw [upd_ne nDa.symm]; exact ha, hq⟩
    · rw [upd_same, List.map_append]
      rfl
    · have ht2 := b2 _ _ (PG.other ht fun _ z => nomatch z) ht
      rw [List.take_add_one, hp, List.map_append]
      refine Paired.snoc ?_ ?_
      · have e : ((ps.take i).map fun p' => (key2 p', withF g p (.int r) p')) = (ps.take i).map fun p => (key2 p, g p) := List.map_congr_left fun q hq => by
          show (key2 q, withF g p (.int r) q) = (key2 q, g q)
          unfold withF
          rw [if_neg (fun (z : q = p) => np (z ▸ hq))]
        rw [e]
        exact Paired.mono (fun _ _ z => isPairT_upd (b2 _ _ nDa hD) (isPairT_but PG b2 z)) hus
      · refine isPairT_upd (b2 _ _ nDa hD) ⟨t, ?_, ht2⟩
        show G2 u = some (.tup [.ref t, withF g p (.int r) p])
        unfold withF
        rw [if_pos rfl]
        exact hu
    · unfold withF
      rw [List.take_add_one, hp] at hq
      rcases List.mem_append.mp hq with hq | hq
      · rw [if_neg (fun (z : q = p) => np (z ▸ hq))]
        exact hg q hq
      · have e : q = p := List.mem_singleton.mp hq
        rw [if_pos e]
        exact ⟨r, rfl, h0, h1⟩
  · rintro G ⟨bG, PG, us, g, hD, hus, hg⟩
    rw [hn, List.take_length] at hus hg
    exact hd G us g bG PG hD hg hus
def names6 : List Str := ["ann", "bo", "cy", "di", "ed", "flo"]
theorem names6_ok : ∀ z ∈ names6, isW (.str z) = true ∧ PyData.strOk z = true ∧ z.length ≤ 1000 := by decide +kernel
theorem names6_nd : names6.Nodup := by decide +kernel
/-- people drawn from names6 -/
structure Rot (zs : List Str) : Prop where
  mem : ∀ z ∈ zs, z ∈ names6
  nd : zs.Nodup
  one : 1 ≤ zs.length
  most : zs.length ≤ 6
theorem Rot.people {zs : List Str} (r : Rot zs) : peopleB (zs.map V.str) = true := by
  show ((decide (1 ≤ (zs.map V.str).length) && decide ((zs.map V.str).length ≤ 8)) && ((zs.map V.str).all isW && decide (zs.map V.str).Nodup)) = true
  have h1 : (zs.map V.str).all isW = true := by
    rw [List.all_map]
    exact List.all_eq_true.mpr fun z hz => (names6_ok z (r.mem z hz)).1
  have h2 := r.one
  have h3 := r.most
  rw [h1, List.length_map, decide_eq_true h2, decide_eq_true (show zs.length ≤ 8 by omega), decide_eq_true ((nodup_map_inj (f := V.str) (fun _ _ e => V.str.inj e)).mpr r.nd)]
  rfl
theorem Rot.items {K : PySem.W.Frag} {H : Hp} {zs : List Str} (r : Rot zs) : ∀ x ∈ zs.map V.str, ItemOk K H x := fun x hx => by
  obtain ⟨z, hz, rfl⟩ := List.mem_map.mp hx
  exact ⟨⟨"str", .base (.str _), by decide⟩, fun z' e => by cases e; exact (names6_ok z (r.mem z hz)).2.2⟩
theorem Rot.strOk {zs : List Str} (r : Rot zs) : ∀ z ∈ zs, PyData.strOk z = true := fun z hz => (names6_ok z (r.mem z hz)).2.1
theorem rot_of {k at_ : Nat} (h1 : 1 ≤ k) (h2 : k ≤ 6) : Rot ((names6.take k).drop at_ ++ (names6.take k).take at_) := by
  have p : ((names6.take k).drop at_ ++ (names6.take k).take at_).Perm (names6.take k) := by
    refine List.perm_append_comm.trans ?_
    rw [List.take_append_drop]
  have l : (names6.take k).length = k := by
    rw [List.length_take]
    show min k 6 = k
    omega
  refine ⟨fun z hz => List.mem_of_mem_take (p.mem_iff.mp hz), p.nodup_iff.mpr (names6_nd.sublist (List.take_sublist _ _)), by rw [p.length_eq, l]; exact h1, by rw [p.length_eq, l]; exact h2⟩
theorem sub_filter : ∀ {r zs : List Str}, r.Sublist zs → zs.Nodup → (zs.filter fun b => decide (b ∈ r)) = r := fun {r zs} h => by
  induction h with
  | slnil => intro _; rfl
  | cons a h ih =>
    rename_i l1 l2
    intro nd
    rw [List.nodup_cons] at nd
    rw [List.filter_cons_of_neg (by simpa using fun z => nd.1 (h.subset z))]
    exact ih nd.2
  | cons_cons a h ih =>
    rename_i l1 l2
    intro nd
    rw [List.nodup_cons] at nd
    rw [List.filter_cons_of_pos (by simp)]
    congr 1
    rw [← ih nd.2] 
    refine List.filter_congr fun b hb => ?_
    rw [ih nd.2]
    have : b ≠ a := fun e => nd.1 (e ▸ hb)
    simp [this]
end L2

set_option Elab.async false
set_option linter.all false
set_option maxRecDepth 100000
set_option maxHeartbeats 4000000
/-! x == d, x an instance with an own __eq__, d a dict whose keys are tuples. -/
namespace L2
open PySem PySem.Spec PyProof.Rows
theorem looks_dT {X : Cx} {pins : List (Addr × Obj)} {σ : St} {H : Hp} {s : Shared} {b : Addr} {kvs : List (List Key × V)} (I : Inv X pins σ H s) (h : H b = some (.dT kvs)) : PySem.W.Looks (model X.prog X.w) s.heap (typeOf (.ref b)) (.type "dict") := by
  obtain ⟨_, es, ep, ⟨o, ho, hx, _⟩, _⟩ := I.rawT h
  intro A Q E s2 k q
  refine wpAny_typeOf_ref (k _ _ ho) ?_
  rw [hx.1]
  exact q
def rEqOwnD (C : Addr) (sp : Sp) (E : XK) : R2 := fun x y H Q => ∃ (a dx b : Addr) (fs : List (Str × V)) (kvs : List (List Key × V)), x = .ref a ∧ y = .ref b ∧ H a = some (.ins C dx fs) ∧ H b = some (.dT kvs) ∧ sp [.ref a, .ref b] H (fun v H2 => ∃ c, v = .bl c ∧ Q (.bl c) H2) E
section
variable {X : Cx} {CX : CXT} {k : Nat} {C f : Addr} {fd : FuncData} {ps : List Str} {sp : Sp} {E : XK}
theorem op_eqOwnD (hs : PySem.W.findIn X.K (.ref C) "__eq__" = some (some (.ref f))) (hf : PySem.W.isFn X.K (.ref f) = true) (nf : PySem.W.notFirst X.K C (.type "dict") = true) (F : FnOk X.prog X.w X.K X.mg X.base CX k f fd ps sp) (hr : Room k X.A) (hb : Binds X.K fd ps []) (hx : Passes CX X E) :
    OpR X (compareOp .Eq) (rEqOwnD C sp E) := by
  intro pins s σ H x y v u Q I rx ry h
  obtain ⟨a, dx, b, fs, kvs, rfl, rfl, ea, eb, q⟩ := h
  cases rx
  cases ry
  obtain ⟨mA, O, _, _, _, _⟩ := ins_get I.hok ea
  obtain ⟨od, J, _⟩ := O.look
  obtain ⟨m, hF⟩ := I.fr
  refine PySem.W.cmp_K (op := .Eq) (tb := .type "dict") hr.units0 hF I.ok.mod.kin J (looks_dT I eb) nf hs hf ?_
  refine wpAny_mono (run_fn (ds := []) (dvs := []) (vs := [.ref a, .ref b]) (us := [.ref a, .ref b]) F hr hb .nil hx I (.cons rfl (.cons rfl .nil)) q) (fun w' s2 z => ?_) fun _ _ z => z
  obtain ⟨w2, H2, I2, rw', c, rfl, q2⟩ := z
  cases rw'
  exact ⟨.bl c, H2, I2, rfl, q2⟩
end
/-! the keys of a sheet, the other way round -/
theorem paired_rev {α β : Type} {R : α → β → Prop} : ∀ {xs : List α} {ys : List β}, Paired R xs ys → Paired R xs.reverse ys.reverse
  | _, _, .nil => .nil
  | _, _, .cons a r => by
    rw [List.reverse_cons, List.reverse_cons]
    exact Paired.snoc (paired_rev r) a
theorem paired_at {α β : Type} {R : α → β → Prop} : ∀ {xs : List α} {ys : List β} {i : Nat} {y : β}, Paired R xs ys → ys[i]? = some y → ∃ x, xs[i]? = some x ∧ R x y
  | _, _, i, y, .nil, h => by simp at h
  | _, _, 0, y, .cons a r, h => by
    cases h
    exact ⟨_, rfl, a⟩
  | _, _, i + 1, y, .cons a r, h => paired_at (i := i) r h
end L2

set_option Elab.async false
set_option linter.all false
set_option maxRecDepth 100000
set_option maxHeartbeats 4000000
namespace L2
open PySem PySem.Spec PyProof.Rows
theorem keys_rev {H G : Hp} {zs : List Str} {f : Str × Str → V} {bs : List Addr} (hbs : IsKeys H (sheetOf zs f) bs) (s : Same H G) {i : Nat} {x : V} (h : (bs.map V.ref).reverse[i]? = some x) : ∃ p t, (pairsOf zs).reverse[i]? = some p ∧ x = .ref t ∧ G t = some (.tup [.str p.1, .str p.2]) := by
  rw [← List.map_reverse, List.getElem?_map] at h
  obtain ⟨b, hb, rfl⟩ := Option.map_eq_some_iff.mp h
  obtain ⟨kv, hkv, hh⟩ := paired_at (paired_rev hbs) hb
  unfold sheetOf at hkv
  rw [← List.map_reverse, List.getElem?_map] at hkv
  obtain ⟨p, hp, rfl⟩ := Option.map_eq_some_iff.mp hkv
  exact ⟨p, b, hp, rfl, s _ _ hh⟩
theorem notOwn_new {H G : Hp} {C CP x sd : Addr} {zs : List Str} {m : Int} {f : Str × Str → V} (h : PageOf H C CP x zs m f) (n : H sd = none) (s : Same H G) : NotOwn G CP x sd := fun dx2 c2 d2 e => by
  obtain ⟨dx, c, d, hx, _, hd⟩ := h
  rw [s _ _ hx] at e
  cases e
  exact ne_of_none hd n
theorem notOwn_keep {H G : Hp} {C CP x sd : Addr} {zs : List Str} {m : Int} {f : Str × Str → V} (h : PageOf H C CP x zs m f) (k : ∀ o, H x = some o → G x = some o) (n : NotOwn H CP x sd) : NotOwn G CP x sd := fun dx2 c2 d2 e => by
  obtain ⟨dx, c, d, hx, _, _⟩ := h
  rw [k _ hx] at e
  cases e
  exact n _ _ _ hx
theorem same_fresh {H G : Hp} {p : Addr} {o : HO} (s : Same H G) (n : H p = none) : Same H (upd G p o) := fun c u e => by
  rw [upd_ne (ne_of_none e n)]
  exact s c u e
theorem mkOk_more {m : Int} {v : V} (h : mkOk m v = true) : mkOk (m + 1) v = true := by
  cases v with
  | non => rfl
  | int i =>
    have e : (decide (0 ≤ i) && decide (i ≤ m)) = true := by
      have : (decide (V.int i = V.non) || (decide (0 ≤ i) && decide (i ≤ m))) = true := h
      simpa using this
    rw [Bool.and_eq_true] at e
    have e1 := of_decide_eq_true e.1
    have e2 := of_decide_eq_true e.2
    show (decide (V.int i = V.non) || (decide (0 ≤ i) && decide (i ≤ m + 1))) = true
    rw [decide_eq_true e1, decide_eq_true (show i ≤ m + 1 by omega)]
    simp
  | _ => cases h
theorem plan_merge {l : Addr} {m : Int} : mergeK [] (planK l m) = planK l m := by
  rw [merge_new (κ := []) (by show ([Sum.inr "people", Sum.inr "most"] : List Key).Nodup; decide +kernel), List.nil_append]
theorem nobody_word : ("nobody" : Str) ∉ names8 ∧ PyData.strOk "nobody" = true ∧ peopleB [V.str "nobody"] = true ∧ ("nobody" : Str).length ≤ 1000 := by decide +kernel
end L2

set_option Elab.async false
set_option linter.all false
set_option maxRecDepth 100000
set_option maxHeartbeats 4000000
/-! == and != of two dicts with ints or texts as keys and the same data as values. -/
namespace L2
open PySem PySem.Spec PyProof.Rows
/-- the same flat value, or objects of the same data -/
def EqDt (K : PySem.W.Frag) (H : Hp) (x y : V) : Prop := (x = y ∧ flatB x = true) ∨ ∃ a b d e, x = .ref a ∧ y = .ref b ∧ Dp K H x d ∧ Dp K H y e ∧ SeqAt.shaped d = true ∧ SeqAt.shaped e = true ∧ PyData.eqv d e = true
def rSameK (K : PySem.W.Frag) (neg : Bool) : R2 := fun x y H Q => ∃ a b ks ls, x = .ref a ∧ y = .ref b ∧ H a = some (.dK ks) ∧ H b = some (.dK ls) ∧ ks.length = ls.length ∧ (∀ p ∈ ks, ∃ u, valV ls p.1 = some u ∧ EqDt K H p.2 u) ∧ Q (.bl (!neg)) H
section
variable {X : Cx}
theorem eqDt_run {pins : List (Addr × Obj)} {σ : St} {H : Hp} {s : Shared} (I : Inv X pins σ H s) {A : Around} (hu : A.units + 64 < cLine) (x y : V) (v u : Value) (h : EqDt X.K H x y) (rx : RelV x v) (ry : RelV y u) : SeqAt.EqP X.prog X.w A s v u true := by
  rcases h with ⟨rfl, f⟩ | ⟨a, b, d, e, rfl, rfl, hd, he, sd, se, q⟩
  · exact (eqAt_same rx ry f).eqP
  · obtain ⟨as, r1⟩ := Dp.reads I d _ v hd rx
    obtain ⟨bs, r2⟩ := Dp.reads I e _ u he ry
    cases (show v = Value.ref a from rx)
    cases (show u = Value.ref b from ry)
    by_cases e : a = b
    · subst e
      exact (SeqAt.EqAt.same _).eqP
    · refine SeqAt.eqP_refs e fun E Q z => ?_
      exact SeqAt.compareEq_shaped r1 r2 sd se hu (by rw [q]; exact z)
theorem op_sameK (hu : X.A.units + 66 < cLine) : OpR X (compareOp .Eq) (rSameK X.K false) := by
  intro pins s σ H x y v u Q I rx ry h
  obtain ⟨a, b, ks, ls, rfl, rfl, ha, hb, hl, hp, q⟩ := h
  cases (show v = Value.ref a from rx)
  cases (show u = Value.ref b from ry)
  obtain ⟨_, ya, va, ra, da⟩ := (show ObjOk X.prog X.w H s.heap a (.dK ks) from I.hok a _ ha)
  obtain ⟨_, yb, vb, rb, db⟩ := (show ObjOk X.prog X.w H s.heap b (.dK ls) from I.hok b _ hb)
  refine PySem.W.rcP_dicts (knd := mixKind X.prog X.w) (r := true) ya yb da db (by omega) (fun _ => hits_run (fun x y v u h r1 r2 => eqDt_run I (by show X.A.units + 1 + 64 < cLine; omega) x y v u h r1 r2) rb ra hp) _ _ ?_
  have e : va.length = vb.length := by rw [← ra.length, ← rb.length]; exact hl
  rw [show (va.length == vb.length && true) = true from by rw [e]; simp]
  exact ⟨.bl true, H, I, rfl, q⟩
theorem op_notSameK (hu : X.A.units + 66 < cLine) : OpR X (compareOp .NotEq) (rSameK X.K true) := by
  intro pins s σ H x y v u Q I rx ry h
  obtain ⟨a, b, ks, ls, rfl, rfl, ha, hb, hl, hp, q⟩ := h
  cases (show v = Value.ref a from rx)
  cases (show u = Value.ref b from ry)
  obtain ⟨_, ya, va, ra, da⟩ := (show ObjOk X.prog X.w H s.heap a (.dK ks) from I.hok a _ ha)
  obtain ⟨_, yb, vb, rb, db⟩ := (show ObjOk X.prog X.w H s.heap b (.dK ls) from I.hok b _ hb)
  have e : va.length = vb.length := by rw [← ra.length, ← rb.length]; exact hl
  refine wpAny_richCompare_same_room (op := .NotEq) da.typeIs db.typeIs PySem.F.slot_dict_ne (wpAny_call_entry PySem.F.slot_dict_ne da.typeIs PySem.F.entry_dict_ne ?_ (PySem.F.args_dict_ne_2 _ _)) (by omega)
  refine wpAny_bind ?_
  unfold Builtin.Dict.dictSlotArgs
  refine wpAny_bind (wpAny_notOrdered_dict da.typeIs ?_)
  show wpAny _ _ (pure (Value.ref a, Value.ref b)) _ _ s
  refine wpAny_pure (wpAny_bind (wpAny_isInstance (T := "dict") db.typeIs PySem.F.sub_dict_dict ?_))
  simp only [Bool.not_true, Bool.false_eq_true, if_false]
  refine wpAny_bind (wpAny_pure (wpAny_bind (wpAny_pure (wpAny_bind (PySem.W.samePairsP (r := true) ya yb da db (fun _ => hits_run (fun x y v u h r1 r2 => eqDt_run I (by show X.A.units + 1 + 64 < cLine; omega) x y v u h r1 r2) rb ra hp) ?_)))))
  rw [show (va.length == vb.length && true) = true from by rw [e]; simp]
  exact wpAny_pure ⟨_, rfl, by simp, .bl false, H, I, rfl, q⟩
end
end L2

set_option Elab.async false
set_option linter.all false
set_option maxRecDepth 100000
set_option maxHeartbeats 4000000
/-! zip of a list with a tuple. -/
namespace L2
open PySem PySem.Spec PyProof.Rows
/-- the list at a and the tuple at b, item by item, in new pairs -/
def ItzM (K : PySem.W.Frag) (a b : Addr) : It where
  go := fun i H => ∃ (xs ys : List V) (x y : V), SqL K H a xs ∧ SqT K H b ys ∧ xs[i]? = some x ∧ ys[i]? = some y
  yld := fun i H v H' => ∃ T x y, v = .ref T ∧ H T = none ∧ H' = upd H T (.tup [x, y]) ∧ (∀ l, SqL K H a l → l[i]? = some x) ∧ ∀ l, SqT K H b l → l[i]? = some y
  stop := fun i H => ∃ xs ys : List V, SqL K H a xs ∧ SqT K H b ys ∧ i ≤ xs.length ∧ i ≤ ys.length ∧ (i = xs.length ∨ i = ys.length)
def zipFp (z TI TO i1 i2 : Addr) : List Addr := [z, TI, TO, i1, i2]
theorem zipFp_mem {z TI TO i1 i2 c : Addr} : c ∈ zipFp z TI TO i1 i2 ↔ (c = z ∨ c = TI ∨ c = TO ∨ c = i1 ∨ c = i2) := by
  unfold zipFp
  simp
/-- how the cells of such a zip stand at turn i -/
structure ZipAt (z TI TO i1 i2 a b : Addr) (i : Nat) (h : Heap) : Prop where
  zip : IsZip h z TI TO .none
  ti : IsTupOf2 h TI (.ref i1) (.ref i2)
  tob : ∃ x y, IsTupOf2 h TO x y
  one : h.IsListIter i1 a i
  two : h.IsTupleIter i2 b i
theorem zip_parts {z TI TO i1 i2 a b : Addr} (S : ZipSep2 z TI TO i1 i2 [i1, a] [i2, b]) : a ≠ z ∧ a ≠ TO ∧ b ≠ z ∧ b ≠ TO ∧ i1 ≠ i2 ∧ a ≠ i2 ∧ b ≠ i1 ∧ i1 ≠ z ∧ i2 ≠ z ∧ i1 ≠ TO ∧ i2 ≠ TO := by
  have h1 := S.zf1
  have h2 := S.zf2
  have h3 := S.Tf1
  have h4 := S.Tf2
  have h5 := S.sep1_2
  have h6 := S.sep2_1
  simp only [List.mem_cons, List.not_mem_nil, or_false, not_or] at h1 h2 h3 h4 h5 h6
  exact ⟨fun e => h1.2 e.symm, fun e => h3.2 e.symm, fun e => h2.2 e.symm, fun e => h4.2 e.symm, h5.1, fun e => h6.2 e.symm, fun e => h5.2 e.symm, fun e => h1.1 e.symm, fun e => h2.1 e.symm, fun e => h3.1 e.symm, fun e => h4.1 e.symm⟩
theorem turn_zipM {P : Program} {w : World} {K : PySem.W.Frag} {elts : List Expr} {kk : Nat} {tpos : Pos} {a b z TI TO i1 i2 : Addr} (ha : a ≠ i1) (hb : b ≠ i2) (S : ZipSep2 z TI TO i1 i2 [i1, a] [i2, b]) :
    Turn P w K (.Tuple elts kk tpos) (ItzM K a b) (zipFp z TI TO i1 i2) z (ZipAt z TI TO i1 i2 a b) where
  mem := by simp [zipFp]
  obj := fun i h st c hc => by
    obtain ⟨hz, hTI, ⟨x, y, hTO⟩, ⟨o1, e1, _, d1⟩, ⟨o2, e2, _, d2⟩⟩ := st
    rcases zipFp_mem.mp hc with rfl | rfl | rfl | rfl | rfl
    · exact ⟨_, hz, fun v q => (nomatch q)⟩
    · exact ⟨_, hTI, fun v q => (nomatch q)⟩
    · exact ⟨_, hTO, fun v q => (nomatch q)⟩
    · exact ⟨o1, e1, fun v q => by rw [d1] at q; cases q⟩
    · exact ⟨o2, e2, fun v q => by rw [d2] at q; cases q⟩
  keep := fun i h h' st k => by
    have kk : ∀ c, (c = z ∨ c = TI ∨ c = TO ∨ c = i1 ∨ c = i2) → ∀ o, h.get? c = some o → h'.get? c = some o := fun c e => k c (zipFp_mem.mpr e)
    obtain ⟨x, y, hTO⟩ := st.tob
    exact ⟨kk z (.inl rfl) _ st.zip, kk TI (.inr (.inl rfl)) _ st.ti, ⟨x, y, kk TO (.inr (.inr (.inl rfl))) _ hTO⟩, st.one.at fun o q => kk i1 (.inr (.inr (.inr (.inl rfl)))) o q, st.two.at fun o q => kk i2 (.inr (.inr (.inr (.inr rfl)))) o q⟩
  item := by
    intro X hP hw hK hc i pins s σ H E I hf st hg
    subst hP hw hK
    obtain ⟨xs, ys, x, y, hqx, hqy, hx, hy⟩ := hg
    obtain ⟨x0, y0, hTO⟩ := st.tob
    obtain ⟨its, rv, p, _⟩ := I.list hqx
    obtain ⟨its2, rv2, p2, _⟩ := I.tuple hqy
    obtain ⟨u, hu, ru⟩ := rv.get hx
    obtain ⟨u2, hu2, ru2⟩ := rv2.get hy
    have lt1 := (List.getElem?_eq_some_iff.mp hu).1
    have lt2 := (List.getElem?_eq_some_iff.mp hu2).1
    have live : ∀ {c : Addr} {o : Obj}, s.heap.get? c = some o → c < s.heap.objs.size := fun e => Heap.lt_size e
    obtain ⟨naz, naT, nbz, nbT, n12, na2, nb1, n1z, n2z, n1T, n2T⟩ := zip_parts S
    refine wpAny_pyNext_zipD2_item (i := i) S (Draws.list (prog := X.prog) (w := X.w) (A := X.A.in1) (I.ok.hd hc) i1 a ha its.toArray) (Draws.tuple (prog := X.prog) (w := X.w) (A := X.A.in1) (I.ok.hd hc) i2 b hb its2.toArray) st.zip st.ti hTO ⟨st.one, p.isList⟩ ⟨st.two, p2⟩ (by simpa using lt1) (by simpa using lt2) fun v1 v2 h' tk q1 q2 z' TO' s1 s2 hT hsz hk => ?_
    have ev1 : v1 = u := by
      have : its[i]? = some v1 := by simpa using q1
      rw [hu] at this
      exact (Option.some.inj this).symm
    have ev2 : v2 = u2 := by
      have : its2[i]? = some v2 := by simpa using q2
      rw [hu2] at this
      exact (Option.some.inj this).symm
    subst ev1 ev2
    refine ⟨_, rfl, wpAny_letOwnedTupleGo_zip (s := { s with heap := h', toks := tk }) z' fun h2 z2 sb => ?_⟩
    have zl : z < s.heap.objs.size := live st.zip
    have top := (sb.2 _ (Nat.ne_of_gt zl)).trans hT
    have new : ObjOk X.prog X.w (upd H s.heap.objs.size (.tup [x, y])) h2 s.heap.objs.size (.tup [x, y]) :=
      ⟨by show 2 ≤ sizeLine; decide, [v1, v2], .cons ru (.cons ru2 .nil), ⟨_, top, rfl, _, rfl⟩⟩
    have notin : ∀ {c : Addr}, c ∉ zipFp z TI TO i1 i2 → c ≠ z ∧ c ≠ TO ∧ c ≠ i1 ∧ c ≠ i2 := fun n => ⟨fun e => n (zipFp_mem.mpr (.inl e)), fun e => n (zipFp_mem.mpr (.inr (.inr (.inl e)))), fun e => n (zipFp_mem.mpr (.inr (.inr (.inr (.inl e))))), fun e => n (zipFp_mem.mpr (.inr (.inr (.inr (.inr e)))))⟩
    have I1 : Inv X pins σ (upd H s.heap.objs.size (.tup [x, y])) { s with heap := h2, toks := tk } :=
      I.turnedNew (t' := tk) (ch := zipFp z TI TO i1 i2) (fun c o n q => (sb.2 c (notin n).1).trans (hk c o (notin n).1 (notin n).2.1 (notin n).2.2.1 (notin n).2.2.2 q)) hf (Nat.le_refl _) new
    have free : H s.heap.objs.size = none := I.hok.fresh (Nat.le_refl _)
    refine ⟨.ref s.heap.objs.size, _, I1, rfl, ⟨_, x, y, rfl, free, rfl, fun l hl => by rw [I.list_inj hl hqx]; exact hx, fun l hl => by rw [I.tuple_inj hl hqy]; exact hy⟩, ⟨z2, (sb.2 _ S.TIz).trans (hk _ _ S.TIz S.TITO S.TIi1 S.TIi2 st.ti), ⟨v1, v2, (sb.2 _ S.TOz).trans TO'⟩, s1.1.at fun o q => (sb.2 _ n1z).trans q, s2.1.at fun o q => (sb.2 _ n2z).trans q⟩, fun c hcm => ?_⟩
    have below : c < s.heap.objs.size := by
      rcases zipFp_mem.mp hcm with e | e | e | e | e
      · rw [e]; exact zl
      · rw [e]; exact live st.ti
      · rw [e]; exact live hTO
      · rw [e]; obtain ⟨_, q, _⟩ := st.one; exact live q
      · rw [e]; obtain ⟨_, q, _⟩ := st.two; exact live q
    rw [upd_ne (Nat.ne_of_lt below)]
    exact (hf c hcm).1
  done := by
    intro X hP hw hK hc i pins s σ H E I hf st hg
    subst hP hw hK
    obtain ⟨xs, ys, hqx, hqy, le1, le2, hend⟩ := hg
    obtain ⟨x0, y0, hTO⟩ := st.tob
    obtain ⟨its, rv, p, _⟩ := I.list hqx
    obtain ⟨its2, rv2, p2, _⟩ := I.tuple hqy
    have l1 : xs.length = its.toArray.size := by rw [rv.length, List.size_toArray]
    have l2 : ys.length = its2.toArray.size := by rw [rv2.length, List.size_toArray]
    have notin : ∀ {c : Addr}, c ∉ zipFp z TI TO i1 i2 → c ≠ z ∧ c ≠ TO ∧ c ≠ i1 ∧ c ≠ i2 := fun n => ⟨fun e => n (zipFp_mem.mpr (.inl e)), fun e => n (zipFp_mem.mpr (.inr (.inr (.inl e)))), fun e => n (zipFp_mem.mpr (.inr (.inr (.inr (.inl e))))), fun e => n (zipFp_mem.mpr (.inr (.inr (.inr (.inr e)))))⟩
    rw [l1, l2] at hend
    refine wpAny_pyNext_zipD2_end (i := i) S (Draws.list (prog := X.prog) (w := X.w) (A := X.A.in1) (I.ok.hd hc) i1 a ha its.toArray) (Draws.tuple (prog := X.prog) (w := X.w) (A := X.A.in1) (I.ok.hd hc) i2 b hb its2.toArray) st.zip st.ti hTO ⟨st.one, p.isList⟩ ⟨st.two, p2⟩ (by omega) (by omega) hend fun h' tk hk => ⟨rfl, ?_⟩
    exact I.turnedL (t' := tk) (ch := zipFp z TI TO i1 i2) (fun c o n q => hk c o (notin n).1 (notin n).2.1 (notin n).2.2.1 (notin n).2.2.2 q) hf
  self := fun A i s Q E st h => wpAny_pyIter_zip st.zip h
def iZipM (K : PySem.W.Frag) (ta : TA) : TI := fun σ H R => ta σ H fun vs H1 => ∃ a b xs ys, vs = [.ref a, .ref b] ∧ SqL K H1 a xs ∧ SqT K H1 b ys ∧ R (ItzM K a b) H1
theorem pi_zipM {X : Cx} {e e2 : Expr} {ta : TA} {p pos tpos : Pos} {elts : List Expr} {kk : Nat} (hg : Gl X "zip") (hm : X.mg "zip" = none) (ha : PA X [e, e2] ta)
    (hs : starEach [e, e2] X.env = (false, eval e X.env) :: starEach [e2] X.env := by rfl) (hpl : (backTo pos (starEach [e2] X.env)).any (·.1) = false := by rfl) : PI X (.Tuple elts kk tpos) (.Call (.Name "zip" p) [e, e2] [] pos) (iZipM X.K ta) := by
  refine ⟨fun pins s σ H R I h => Call_ (ld_blt I hg hm PyProof.Rows.boot_zip (PyProof.Rows.callWith_type1 (thn (ha.run pos pins s σ H _ I h) fun us s1 ⟨vs, H1, I1, r1, q1⟩ => ?_) hs hpl))⟩
  obtain ⟨a, b, xs, ys, rfl, hqx, hqy, q⟩ := q1
  cases r1 with
  | cons ra rr =>
    cases rr with
    | cons rb rr =>
      cases rr
      cases ra
      cases rb
      obtain ⟨its, rv, p1, _⟩ := I1.list hqx
      obtain ⟨its2, rv2, p2, _⟩ := I1.tuple hqy
      obtain ⟨o2, ho2, _⟩ := id p2
      have la : a < s1.heap.objs.size := p1.lt
      have lb : b < s1.heap.objs.size := Heap.lt_size ho2
      refine zip_begins2 (begins_list a its.toArray) (begins_tuple b its2.toArray) p1.isList p2 fun h' hz hTI hTO h1 h2 hsz hk => wpAny_pyIter_zip hz ?_
      have I2 : Inv X pins σ H1 { s1 with heap := h' } := I1.kept (t' := s1.toks) hk
      refine ⟨s1.heap.objs.size + 4, zipFp (s1.heap.objs.size + 4) (s1.heap.objs.size + 2) (s1.heap.objs.size + 3) s1.heap.objs.size (s1.heap.objs.size + 1), _, _, H1, rfl, I2, turn_zipM (Nat.ne_of_lt la) (Nat.ne_of_lt (Nat.lt_succ_of_lt lb)) (zip_sep2 (fp1 := [a]) (fp2 := [b]) (fun c e => by rw [List.mem_singleton.mp e]; exact la) (fun c e => by rw [List.mem_singleton.mp e]; exact lb)), ⟨hz, hTI, ⟨_, _, hTO⟩, ⟨_, h1, rfl, rfl⟩, ⟨_, h2, rfl, rfl⟩⟩, fun c hc => ?_, q⟩
      have up : s1.heap.objs.size ≤ c := by
        rcases zipFp_mem.mp hc with e | e | e | e | e <;> rw [e]
        · exact Nat.le_add_right _ _
        · exact Nat.le_add_right _ _
        · exact Nat.le_add_right _ _
        · exact Nat.le_refl _
        · exact Nat.le_add_right _ _
      exact I1.fpOk up (I1.hok.fresh up)
theorem walk_zipM {K : PySem.W.Frag} {a b : Addr} {xs ys : List V} {n : Nat} (hn : n = min xs.length ys.length) : Walk (ItzM K a b) n (fun H => SqL K H a xs ∧ SqT K H b ys) (YPair (fun i => xs[i]?) (fun i => ys[i]?)) := by
  subst hn
  refine ⟨fun i _ hi q => ?_, fun _ q => ⟨xs, ys, q.1, q.2, Nat.min_le_left _ _, Nat.min_le_right _ _, by omega⟩, fun i H v H' _ q y => ?_⟩
  · exact ⟨xs, ys, xs[i]'(by omega), ys[i]'(by omega), q.1, q.2, by rw [List.getElem?_eq_getElem], by rw [List.getElem?_eq_getElem]⟩
  · obtain ⟨T, x, z, h1, h2, h3, h4, h5⟩ := y
    exact ⟨T, x, z, h1, h2, h3, h4 _ q.1, h5 _ q.2⟩
end L2

set_option Elab.async false
set_option linter.all false
set_option maxRecDepth 100000
set_option maxHeartbeats 4000000
/-! {a tuple for target in iter if ..}: a set of tuples of ints and texts, put together one by one; sorted(..) of it. -/
namespace Km
open PySem PySem.Spec PyProof.Rows L2
/-- the set at a, and that its walk is told -/
def TabW (P : Program) (w : World) (h : Heap) (a : Addr) (L : List Ent) : Prop :=
  ∃ es ep t, (∃ o, h.get? a = some o ∧ o.ExactSet ∧ o.data = .set es ep t) ∧ es.toList = L.map (rowOf P w) ∧ TabOk t (L.map fun p => hsh P w p.2) ∧ (L.map (·.2)).Nodup ∧ L.length * 5 < t.mask * 3 ∧ (w.params.followText "set-order" = true ∨ t.led = true)
def newS (w : World) : Obj := { cls := .type "set", dict := none, data := .set #[] 0 (.fresh 0 0 (!w.params.followText "set-order")) }
theorem tabW_fresh {P : Program} {w : World} {h : Heap} {a : Addr} (ho : h.get? a = some (newS w)) : TabW P w h a [] :=
  ⟨#[], 0, _, ⟨_, ho, ⟨rfl, rfl, rfl⟩, rfl⟩, rfl, ⟨List.Pairwise.nil, rfl, rfl, .inl rfl, fun x hx => (by cases hx), fun i h j hi => (by simp at hi)⟩, List.nodup_nil, (by show 0 * 5 < 7 * 3; decide), by
    show _ ∨ (!w.params.followText "set-order") = true
    cases w.params.followText "set-order"
    · exact .inr rfl
    · exact .inl rfl⟩
end Km
namespace L2
open PySem PySem.Spec PyProof.Rows Km
def TupSetW (P : Program) (w : World) (a : Addr) (L : List Ent) : HO := .ext fun h => TabW P w h a L
theorem tupSetW_new {P : Program} {w : World} {H : Hp} {h : Heap} {a : Addr} {L : List Ent} (R : TabW P w h a L) : ObjOk P w H h a (TupSetW P w a L) := by
  have ⟨es, ep, t, ⟨o, ho, r⟩, q⟩ := R
  refine ⟨R, ⟨o, ho⟩, fun h1 h2 p m => ?_⟩
  have ⟨es2, ep2, t2, ⟨o2, ho2, r2⟩, q2⟩ := p
  exact ⟨es2, ep2, t2, ⟨o2, m o2 ho2, r2⟩, q2⟩
section
variable {X : Cx}
theorem Inv.tabW {pins : List (Addr × Obj)} {σ : St} {H : Hp} {s : Shared} {a : Addr} {L : List Ent} (I : Inv X pins σ H s) (ha : H a = some (TupSetW X.prog X.w a L)) (tup : ∀ p ∈ L, SqT X.K H p.1 (p.2.map kV)) :
    ∃ es ep t, Tab X.prog X.w s.heap a L es ep t ∧ (X.w.params.followText "set-order" = true ∨ t.led = true) := by
  have ⟨T, _, _⟩ := (show ObjOk X.prog X.w H s.heap a (TupSetW X.prog X.w a L) from I.hok a _ ha)
  obtain ⟨es, ep, t, h1, h2, h3, h4, h5, h6⟩ := (show TabW X.prog X.w s.heap a L from T)
  exact ⟨es, ep, t, ⟨h1, h2, h3, h4, fun p hp => I.tupAt (tup p hp), h5⟩, h6⟩
/-- one tuple more -/
theorem tup_add {pins : List (Addr × Obj)} {σ : St} {H : Hp} {s : Shared} {E : Value → Shared → Prop} {D y : Addr} {L : List Ent} {k : Tk} {Q : Value → Shared → Prop} (hu : X.A.units + 64 < cLine) (I : Inv X pins σ H s) (hD : H D = some (TupSetW X.prog X.w D L))
    (hy : SqT X.K H y (k.map kV)) (tup : ∀ p ∈ L, SqT X.K H p.1 (p.2.map kV)) (few : L.length ≤ 74)
    (h : ∀ s' L2, Inv X pins σ (upd H D (TupSetW X.prog X.w D L2)) s' → (k ∈ L.map (·.2) → L2 = L) → (k ∉ L.map (·.2) → L2.Perm ((y, k) :: L)) → Q .none s') : wpAny (model X.prog X.w) X.A (call (.builtin "set.add") [.ref D, .ref y]) Q E s := by
  obtain ⟨es, ep, t, R, led⟩ := I.tabW hD tup
  have hx := I.tupAt hy
  obtain ⟨o, ho, ex, hd⟩ := R.ob
  refine wpAny_call_entry F.slot_set_add ⟨o, ho, ex.1⟩ F.entry_set_add ?_ (F.args_set_add_2 _ _)
  unfold Builtin.«set.add» Builtin.Frozenset.oneOther
  simp only [List.isEmpty_nil, bind_assoc]
  unfold Builtin.Frozenset.addrOf setAdd
  refine wpAny_bind (wpAny_pure ?_)
  try dsimp only
  refine wpAny_bind (wpAny_pure ?_)
  try dsimp only
  refine wpAny_bind ?_
  refine wpAny_holding (wpAny_bind (wpAny_pyHash_tuple (by simp [Around.units] at hu ⊢; omega) hx ?_))
  refine add (s := { s with toks := s.toks + (k.length + 1) }) R hx (by simp [Around.units] at hu ⊢; omega) (by omega) fun b h2 L2 es2 ep2 t2 sb T2 c1 c2 el => ?_
  show wpAny _ _ (ret Value.none) _ _ _
  refine wpAny_pure ⟨_, rfl, h _ L2 ?_ c1 c2⟩
  obtain ⟨o2, ho2, r2⟩ := T2.ob
  exact I.write (e := D) (t' := s.toks + (k.length + 1)) (by rw [hD]; trivial) (.inl rfl) (fun b u hb hu => (sb.2 b hb).trans hu) ⟨o2, ho2⟩ (tupSetW_new ⟨es2, ep2, t2, ⟨o2, ho2, r2⟩, T2.rows, T2.tab, T2.nd, T2.room, by rw [el]; exact led⟩)
end
/-- the block's turns: D the new set -/
def tScT (P : Program) (w : World) (K : PySem.W.Frag) (wi : TI) (g : TG) (tt : TT) (te : TE) (vs : List Nat) : TE := fun σ H Q => wi σ H fun J H1 => ∀ D, H1 D = none → ∃ W : Nat → Nat → Hp → Prop, (∃ m, W 0 m (upd H1 D (TupSetW P w D []))) ∧ ∀ i m H, W i m H →
  (J.stop i H ∧ Q (.ref D) H) ∨ (J.go i H ∧ ∃ Nx : Hp → Prop, (∀ H', Nx H' → ∃ m', m' < m ∧ W (i + 1) m' H') ∧ ∀ x H', J.yld i H x H' → g x (wipe σ vs) H' fun σ2 H2 => wipe σ2 vs = wipe σ vs ∧ tt σ2 H2 fun b H3 =>
    if b = true then te σ2 H3 fun y H4 => ∃ (p : Addr) (k : Tk) (L : List Ent), y = .ref p ∧ SqT K H4 p (k.map kV) ∧ H4 D = some (TupSetW P w D L) ∧ (∀ q ∈ L, SqT K H4 q.1 (q.2.map kV)) ∧ L.length ≤ 74 ∧
      ∀ L2 : List Ent, (k ∈ L.map (·.2) → L2 = L) → (k ∉ L.map (·.2) → L2.Perm ((p, k) :: L)) → Nx (upd H4 D (TupSetW P w D L2)) else Nx H3)
section
variable {X : Cx}
theorem scT_core {ex tg iter : Expr} {ifs : List Expr} {scope : Scope} {own : List (Str × Nat)} {pos : Pos} {wi : TI} {g : TG} {tt : TT} {te : TE} {pins : List (Addr × Obj)} {s : Shared} {σ : St} {H : Hp} {Q : VK} {pos' : Pos} {use : Option (Value → Sem Unit)} {Qf : Value → Shared → Prop} (I : Inv X pins σ H s) (hu : X.A.units + 64 < cLine) (hc : X.calm = true) (hN : X.N.Nodup) (hi : PI X tg iter wi) (ok : BlkOk X.N X.env.scope scope own)
    (hg : ∀ (s : Shared) (H : Hp) (C : Addr) (cl : List (Str × Addr)) (fp : List Addr), PG (X.blk s H scope (compEnvC scope cl C X.env) fp) tg g)
    (ht : ∀ (s : Shared) (H : Hp) (C : Addr) (cl : List (Str × Addr)) (fp : List Addr), PTs (X.blk s H scope (compEnvC scope cl C X.env) fp) ifs tt)
    (he : ∀ (s : Shared) (H : Hp) (C : Addr) (cl : List (Str × Addr)) (fp : List Addr), PE (X.blk s H scope (compEnvC scope cl C X.env) fp) ex te)
    (hs : ∀ x, foldedSetIterable iter X.env x = pure x) (h : tScT X.prog X.w X.K wi g tt te (own.map (·.2)) σ H Q)
    (hRR : ∀ D C s' m H', Inv X pins σ H' s' → Q (.ref D) H' → s'.heap.Ns C m → FpOk X pins H' C → compPost (model X.prog X.w) X.A X.xe use Qf (.ref D) C (.ok .next) s') :
    wpAny (model X.prog X.w) X.A (comprehension (.SetComp ex [⟨tg, iter, ifs, 0⟩] scope pos) scope X.env pos' (newSet (.type "set")) false (eval iter X.env) use) Qf X.xe s := by
  have cells : ∀ y ∈ scope.names, y.2 = .free → ∃ c, X.env.cells.lookup y.1 = some c := fun y hy e => (ok.free y hy e).elim (fun k => I.ok.has _ (.inl k)) fun k => I.ok.has _ (.inr k)
  refine wpAny_comprehension_free (use := use) rfl hs (closure_ok cells) ok.kind (fun y hy e => by rw [ok.uniq y hy, e]) (thn (hi.run pins s σ H _ I h) fun xv s1 hx => thn hx fun itv s2 h2 => ?_)
  obtain ⟨it, fp, tn, J, H2, rfl, I2, T, st2, f2, q⟩ := h2
  refine PpSet.newSet_ok (newEnv_comp ?_)
  generalize eD : s2.heap.objs.size = D
  obtain ⟨W, ⟨m0, w0⟩, turn⟩ := q D (I2.hok.fresh (Nat.le_of_eq eD))
  generalize e3 : ({ s2 with
      heap := s2.heap.push { cls := .type "set", dict := none, data := .set #[] 0 (.fresh 0 0 (!X.w.params.followText "set-order")) } } : Shared) = s3
  have up3 : s3.heap = s2.heap.push (newS X.w) := by
    rw [← e3]
    rfl
  have I3 : Inv X pins σ (upd H2 D (TupSetW X.prog X.w D [])) s3 := by
    rw [← e3, ← eD]
    exact I2.laid (t' := s2.toks) (fun b o e => Heap.get?_push_of_some _ e) (Nat.le_refl _) (tupSetW_new (tabW_fresh (Heap.get?_push_size _ rfl)))
  have grown : ∀ {b o}, s2.heap.get? b = some o → s3.heap.get? b = some o := fun e => by rw [up3]; exact Heap.get?_push_of_some _ e
  have f3 : ∀ b ∈ fp, FpOk X pins (upd H2 D (TupSetW X.prog X.w D [])) b ∧ b < s3.heap.objs.size := fun b hb => by
    obtain ⟨o, e, _⟩ := T.obj _ _ st2 b hb
    have lt := Heap.lt_size e
    refine ⟨⟨?_, (f2 b hb).2⟩, by rw [up3, Heap.size_push]; exact Nat.lt_succ_of_lt lt⟩
    rw [upd_ne (by rw [← eD]; exact Nat.ne_of_lt lt)]
    exact (f2 b hb).1
  have I4 := block_start I3 ok hN f3
  have pg := hg s3 (upd H2 D (TupSetW X.prog X.w D [])) s3.heap.objs.size (cellsFrom (s3.heap.objs.size + 1) scope.names (cloFrom X.env.cells scope.names [])) fp
  have pt := ht s3 (upd H2 D (TupSetW X.prog X.w D [])) s3.heap.objs.size (cellsFrom (s3.heap.objs.size + 1) scope.names (cloFrom X.env.cells scope.names [])) fp
  have pe := he s3 (upd H2 D (TupSetW X.prog X.w D [])) s3.heap.objs.size (cellsFrom (s3.heap.objs.size + 1) scope.names (cloFrom X.env.cells scope.names [])) fp
  show codeAny (model X.prog X.w) X.A (.compStart (.SetComp ex [⟨tg, iter, ifs, 0⟩] scope pos) 0 (.ref it) (.ref D) (compEnvC scope (cellsFrom (s3.heap.objs.size + 1) scope.names (cloFrom X.env.cells scope.names [])) s3.heap.objs.size X.env))
    (compPost (model X.prog X.w) X.A X.xe use Qf (.ref D) s3.heap.objs.size) { s3 with heap := pushCells (s3.heap.push { cls := .type "dict", data := .dict #[] }) scope.names }
  generalize ec : compEnvC scope (cellsFrom (s3.heap.objs.size + 1) scope.names (cloFrom X.env.cells scope.names [])) s3.heap.objs.size X.env = ce at I4 pg pt pe ⊢
  have cl : ce.locals = s3.heap.objs.size := by rw [← ec]; rfl
  generalize e4 : ({ s3 with heap := pushCells (s3.heap.push { cls := .type "dict", data := .dict #[] }) scope.names } : Shared) = s4 at I4 ⊢
  generalize eH : upd H2 D (TupSetW X.prog X.w D []) = H3 at I3 I4 pg pt pe w0 f3
  have st4 : tn 0 s4.heap := T.keep _ _ _ st2 fun b _ o e => by
    rw [← e4]
    exact pushCells_keeps _ _ _ _ (Heap.get?_push_of_some _ (grown e))
  have foot : ∀ {σ' : St} {H' : Hp} {s' : Shared}, Inv (X.blk s3 H3 scope ce fp) [] σ' H' s' → (∀ b ∈ fp, H' b = none) → ∀ b ∈ fp, FpOk (X.blk s3 H3 scope ce fp) [] H' b := fun J' hn b hb =>
    ⟨hn b hb, (J'.ok.exf b hb).1, J'.ok.exfs b hb, .inl hb, fun x c e => (J'.ok.exf b hb).2 x c e, fun p hp => absurd (show p ∈ ([] : List (Addr × Obj)) ++ [] from hp) (by simp)⟩
  have loop : codeAny (model X.prog X.w) X.A (.compLoop (.SetComp ex [⟨tg, iter, ifs, 0⟩] scope pos) 0 (.ref it) (.ref D) ce)
      (compPost (model X.prog X.w) X.A X.xe use Qf (.ref D) s3.heap.objs.size) s4 := by
    refine PpSet.compLoopS_any (fun n s' => ∃ i H', Inv (X.blk s3 H3 scope ce fp) [] (wipe σ (own.map (·.2))) H' s' ∧ tn i s'.heap ∧ (∀ b ∈ fp, H' b = none) ∧ W i n H') ?_ m0 ⟨0, H3, I4, st4, fun b hb => (f3 b hb).1.1, w0⟩
    rintro n s5 ⟨i, H5, I5, st5, n5, w5⟩
    rcases turn i n H5 w5 with ⟨stop, qq⟩ | ⟨go, Nx, hNx, step⟩
    · refine thnF (T.done (X.blk s3 H3 scope ce fp) rfl rfl rfl hc i [] s5 _ H5 (fun _ _ => False) I5 (foot I5 n5) st5 stop) fun r s6 z => ?_
      obtain ⟨rfl, I6⟩ := z
      have I7 : Inv X pins σ H5 s6 := I3.call' (ch := fp) I6.os I6.base I6.hok I6.bare fun b hb => ⟨(f3 b hb).1.2.2.2.1, (f3 b hb).1.2.1, (f3 b hb).1.2.2.2.2.1, (f3 b hb).1.2.2.2.2.2⟩
      obtain ⟨m, hn, _⟩ := I6.loc
      have free : H5 s3.heap.objs.size = none := cl ▸ (show H5 ce.locals = none from I6.free)
      exact hRR D s3.heap.objs.size s6 m H5 I7 qq (cl ▸ (show s6.heap.Ns ce.locals m from hn)) (I3.fpOk (Nat.le_refl _) free)
    · refine thnF (T.item (X.blk s3 H3 scope ce fp) rfl rfl rfl hc i [] s5 _ H5 (fun _ _ => False) I5 (foot I5 n5) st5 go) fun r s6 z => ?_
      obtain ⟨u, rfl, h6⟩ := z
      refine thnF h6 fun _ s7 z7 => ?_
      obtain ⟨x, H7, I7, r7, y7, st7, n7⟩ := z7
      refine thnF (pg.run _ s7 _ H7 x u _ (I7.pinned (foot I7 n7) (T.obj _ _ st7)) r7 (step x H7 y7)) fun _ s8 z8 => ?_
      obtain ⟨σ8, H8, I8, hw8, q8⟩ := z8
      refine thnF (pt.run _ s8 σ8 H8 _ I8 q8) fun b s9 z9 => ?_
      obtain ⟨H9, I9, q9⟩ := z9
      have close : ∀ {s' : Shared} {H' : Hp}, Inv (X.blk s3 H3 scope ce fp) ([] ++ pinsAt fp s7.heap) σ8 H' s' → Nx H' → ∃ m, m < n ∧ ∃ i H', Inv (X.blk s3 H3 scope ce fp) [] (wipe σ (own.map (·.2))) H' s' ∧ tn i s'.heap ∧ (∀ b ∈ fp, H' b = none) ∧ W i m H' := fun {s' H'} I' nx => by
        obtain ⟨m', lt, w'⟩ := hNx H' nx
        have pin : ∀ b ∈ fp, ∀ o, s7.heap.get? b = some o → s'.heap.get? b = some o ∧ H' b = none := fun b hb o e =>
          let z := I'.pin (b, o) (List.mem_append_right _ (List.mem_append_right _ (mem_pinsAt hb e)))
          ⟨z.1, z.2.1⟩
        refine ⟨m', lt, i + 1, H', (I'.unpinned (pins := [])).weak (by rw [← hw8, wipe_length]) (fun j v e => ?_), T.keep _ _ _ st7 fun b hb o e => (pin b hb o e).1, fun b hb => ?_, w'⟩
        · exact (wipe_some (hw8.symm ▸ e)).1
        · obtain ⟨o, e, _⟩ := T.obj _ _ st7 b hb
          exact (pin b hb o e).2
      cases b with
      | false => exact close I9 q9
      | true =>
        refine thnF (pe.run _ s9 σ8 H9 _ I9 q9) fun z s10 z10 => ?_
        obtain ⟨yv, H10, I10, r10, p, k, L, rfl, hp, hD, tup, few, nx⟩ := z10
        cases (show z = Value.ref p from r10)
        exact tup_add (X := X.blk s3 H3 scope ce fp) hu I10 hD hp tup few fun s11 L2 I11 c1 c2 => close I11 (nx L2 c1 c2)
  exact PpSet.codeAny_compStart_set loop (T.self X.A 0 _ _ _ st4 loop)

theorem pe_scT {ex tg iter : Expr} {ifs : List Expr} {scope : Scope} {own : List (Str × Nat)} {pos : Pos} {wi : TI} {g : TG} {tt : TT} {te : TE} (hu : X.A.units + 64 < cLine) (hc : X.calm = true) (hN : X.N.Nodup) (hi : PI X tg iter wi) (ok : BlkOk X.N X.env.scope scope own)
    (hg : ∀ (s : Shared) (H : Hp) (C : Addr) (cl : List (Str × Addr)) (fp : List Addr), PG (X.blk s H scope (compEnvC scope cl C X.env) fp) tg g)
    (ht : ∀ (s : Shared) (H : Hp) (C : Addr) (cl : List (Str × Addr)) (fp : List Addr), PTs (X.blk s H scope (compEnvC scope cl C X.env) fp) ifs tt)
    (he : ∀ (s : Shared) (H : Hp) (C : Addr) (cl : List (Str × Addr)) (fp : List Addr), PE (X.blk s H scope (compEnvC scope cl C X.env) fp) ex te)
    (hs : ∀ x, foldedSetIterable iter X.env x = pure x := by intro _; rfl) : PE X (.SetComp ex [⟨tg, iter, ifs, 0⟩] scope pos) (tScT X.prog X.w X.K wi g tt te (own.map (·.2))) := by
  refine ⟨fun pins s σ H Q I h => ?_⟩
  rw [PpSet.eval_SetComp]
  refine scT_core I hu hc hN hi ok hg ht he hs h fun D C s' m H' I' q hn f => ⟨m, hn, fun h'' sb => ?_⟩
  obtain ⟨g0, g1, _, g3, g4, g5⟩ := f
  exact ⟨.ref D, H', I'.turned (t' := s'.toks) (fun b o hb e => (sb.2 b hb).trans e) g0 g1 g3 g4 g5, rfl, q⟩
end
end L2

set_option Elab.async false
set_option linter.all false
set_option maxRecDepth 100000
set_option maxHeartbeats 4000000
/-! sorted(a set of pairs of texts): the same pairs in some order. -/
namespace Km
open PySem PySem.Spec PyProof.Rows L2
section
variable {prog : Program} {w : World} {A : Around} {E : Value → Shared → Prop} {s : Shared}
open Srt
/-- a tuple of two texts -/
def IsDuo (h : Heap) (v : Value) (x y : Str) : Prop := ∃ a o t u n, v = .ref a ∧ h.get? a = some o ∧ o.cls = .type "tuple" ∧ o.data = .seq #[.str x t, .str y u] n
theorem IsDuo.keeps {h h2 : Heap} {v : Value} {x y : Str} (p : IsDuo h v x y) (k : ∀ b o, h.get? b = some o → o.cls = .type "tuple" → h2.get? b = some o) : IsDuo h2 v x y := by
  obtain ⟨a, o, t, u, n, e, ho, hc, hd⟩ := p
  exact ⟨a, o, t, u, n, e, k a o ho hc, hc, hd⟩
theorem duo_tot {vs : List Value} (hp : ∀ v ∈ vs, ∃ x y, IsDuo s.heap v x y) : Tot prog w A s (tuples' true) (fun p => p.1 ∈ vs) := by
  intro p q hm hm2
  obtain ⟨x, y, a, o, t, u, n, e, ho, hc, hd⟩ := hp p.1 hm
  obtain ⟨x2, y2, a2, o2, t2, u2, n2, e2, ho2, hc2, hd2⟩ := hp q.1 hm2
  rw [e, e2]
  refine ⟨if x == x2 then (if y == y2 then false else decide (y.cps.toList < y2.cps.toList)) else decide (x.cps.toList < x2.cps.toList), ?_⟩
  refine PySem.W.kat_lt ho hd ho2 hd2 ?_
  show PySem.W.KatLex prog w A true (decide (2 < 2)) _ [(.str x t, .str x2 t2), (.str y u, .str y2 u2)] 0 s
  refine PySem.W.kat_cons (SeqAt.EqAt.str_str x t x2 t2 prog w _ _ ?_)
  refine PySem.W.kat_go (fun c1 => ?_) (fun c1 => ?_)
  · refine PySem.W.kat_yes (PySem.W.kat_cons (SeqAt.EqAt.str_str y u y2 u2 prog w _ _ ?_))
    refine PySem.W.kat_go (fun c2 => ?_) (fun c2 => ?_)
    · refine PySem.W.kat_yes (PySem.W.kat_nil ⟨rfl, ?_⟩)
      simp [c1, c2]
    · refine PySem.W.kat_no (oneLt_any_str ⟨rfl, ?_⟩)
      simp [c1, c2]
  · refine PySem.W.kat_no (oneLt_any_str ⟨rfl, ?_⟩)
    simp [c1]
theorem duo_firsts {h : Heap} : ∀ {vs : List Value}, (∀ v ∈ vs, ∃ x y, IsDuo h v x y) → ∃ fs : List Value, PySem.W.KatTups h vs fs ∧ fs.length = vs.length ∧ ∀ f ∈ fs, ∃ x t, f = Value.str x t
  | [], _ => ⟨[], PySem.W.KatTups.nil, rfl, fun _ hm => nomatch hm⟩
  | v :: vs, hp => by
    obtain ⟨fs, h1, h2, h3⟩ := duo_firsts (vs := vs) fun v2 hm => hp v2 (List.mem_cons_of_mem _ hm)
    obtain ⟨x, y, a, o, t, u, n, rfl, ho, hc, hd⟩ := hp v List.mem_cons_self
    refine ⟨.str x t :: fs, PySem.W.KatTups.cons ho hc hd rfl h1, by rw [List.length_cons, List.length_cons, h2], fun f hm => ?_⟩
    rcases List.mem_cons.mp hm with rfl | hm
    · exact ⟨x, t, rfl⟩
    · exact h3 f hm
theorem duos_sortable {a : Addr} {vs : List Value} (h0 : 0 < vs.length) (hp : ∀ v ∈ vs, ∃ x y, IsDuo s.heap v x y) (ha : ∀ o, s.heap.get? a = some o → o.cls ≠ .type "tuple") : Sortable prog w A s a vs := by
  intro h2 keep
  have hp2 : ∀ v ∈ vs, ∃ x y, IsDuo h2 v x y := fun v hm => by
    obtain ⟨x, y, p⟩ := hp v hm
    exact ⟨x, y, p.keeps fun b o e c => keep b o (fun z => ha o (z ▸ e) c) e⟩
  obtain ⟨fs, f1, f2, f3⟩ := duo_firsts hp2
  refine ⟨tuples' true, fun Q E hq => ?_, duo_tot hp2⟩
  refine PySem.W.kat_kind (T := .type "str") f1 (by omega) (fun f hm => ?_) (by rfl) ?_
  · obtain ⟨x, t, rfl⟩ := f3 f hm
    exact PySem.W.Looks.now
  · rw [show (Value.type "str" != Value.type "tuple") = true by first | decide +kernel | rfl | decide]
    exact hq
end
end Km
namespace L2
open PySem PySem.Spec PyProof.Rows Km Srt
def duoK (p : Str × Str) : Tk := [.inr p.1, .inr p.2]
/-- sorted(S), S a set of pairs of texts -/
def rSortDuo (P : Program) (w : World) : List V → Hp → VK → Prop := fun xs H Q => ∃ (a : Addr) (L : List Ent), xs = [V.ref a] ∧ H a = some (TupSetW P w a L) ∧ (∀ p ∈ L, ∃ z, p.2 = duoK z ∧ H p.1 = some (.tup [.str z.1, .str z.2])) ∧
  ∀ (L2 : List Ent) (l : Addr), L2.Perm L → H l = none → Q (.ref l) (upd H l (.lst (L2.map fun p => V.ref p.1)))
theorem vals_ents : ∀ ks : List Ent, Vals (ks.map fun p => V.ref p.1) (ks.map fun p => Value.ref p.1)
  | [] => .nil
  | _ :: ks => .cons rfl (vals_ents ks)
section
variable {X : Cx}
theorem cr_sortDuo (hc : X.calm = true) : CallR X (.builtin "sorted") (rSortDuo X.prog X.w) := by
  intro pins s σ H xs us Q I r h
  obtain ⟨a, L, rfl, ha, duo, q⟩ := h
  rw [Vals.ref1 r]
  have tup : ∀ p ∈ L, SqT X.K H p.1 (p.2.map kV) := fun p hp => by
    obtain ⟨z, e, hz⟩ := duo p hp
    rw [e]
    exact SqT.of hz
  obtain ⟨es, ep, t, R, led⟩ := I.tabW ha tup
  obtain ⟨o, ho, hex, hd⟩ := R.ob
  have sz := rows_size R.rows
  have room := R.room
  have few : L.length ≤ 76 := by
    rcases R.tab.mok with e | e | e <;> omega
  refine Calls.call_function_entry kind_sorted plain_sorted entry_sorted (args_sorted1 _) ?_
  unfold Builtin.«sorted»
  refine wpAny_bind (m := checkCount "sorted" 1 1 _) (wpAny_pure ?_)
  refine wpAny_bind (collect_set (A := X.A.in1) (I.ok.hd hc) ⟨o, ho, hex.1, hd⟩ R.fits (by unfold scanBound; omega) R.tab.ris led fun s1 vs k1 hz g1 o1 pm => ?_)
  have rows : es.toList.map (·.2) = L.map fun p => Value.ref p.1 := by
    rw [R.rows, List.map_map]
    rfl
  rw [rows] at pm
  have lv : vs.length = L.length := by rw [pm.length_eq, List.length_map]
  have isD : ∀ v ∈ vs, ∃ x y, IsDuo s.heap v x y := fun v hv => by
    obtain ⟨p, hp, rfl⟩ := List.mem_map.mp (pm.mem_iff.mp hv)
    obtain ⟨z, e, h1⟩ := duo p hp
    obtain ⟨its, rv, ⟨ob, hob, hcl, n, hdt⟩, _⟩ := I.tuple (SqT.of (K := X.K) h1)
    cases rv with
    | cons r1 rv =>
      cases rv with
      | cons r2 rv =>
        cases rv
        obtain ⟨t1, rfl⟩ := r1
        obtain ⟨t2, rfl⟩ := r2
        exact ⟨z.1, z.2, p.1, ob, t1, t2, n, rfl, hob, hcl, hdt⟩
  refine wpAny_bind (wpAny_newList ?_ (by rw [lv, sizeLine_eq]; omega))
  have hoL : (s1.heap.push (seqObj "list" vs.toArray 0)).get? s1.heap.objs.size = some (seqObj "list" vs.toArray 0) := Heap.get?_push_size _ rfl
  refine wpAny_bind (wpAny_holding (wpAny_call_entry slot_list_sort ⟨_, hoL, rfl⟩ entry_list_sort (list_sort_any hoL (by rw [lv, sizeLine_eq]; omega) (fun h2 => ?_) fun out hp => ⟨_, rfl, ?_⟩) (args_list_sort _)))
  · refine duos_sortable (s := { s1 with heap := s1.heap.push (seqObj "list" vs.toArray 0) }) (by omega) (fun v hv => ?_) fun o2 e => ?_
    · obtain ⟨x, y, d⟩ := isD v hv
      exact ⟨x, y, d.keeps fun b u e _ => Heap.get?_push_of_some _ (k1 b u e)⟩
    · cases e.symm.trans hoL
      intro c
      exact absurd (Value.type.inj c) (by decide)
  · obtain ⟨L2, p2, e2⟩ := perm_lift (fun p : Ent => Value.ref p.1) (hp.trans pm) L rfl
    obtain ⟨c, hcx⟩ := sortedHeap_at (vs := vs) (out := out.toArray) hoL
    have grow : ∀ b u, s.heap.get? b = some u → (sortedHeap (s1.heap.push (seqObj "list" vs.toArray 0)) s1.heap.objs.size vs out.toArray).get? b = some u := fun b u e => by
      have e1 := k1 b u e
      have lt := Heap.lt_size e1
      rw [sortedHeap_old (Nat.ne_of_lt lt) (by rw [size_push']; exact Nat.lt_succ_of_lt lt)]
      exact Heap.get?_push_of_some _ e1
    have hn : H s1.heap.objs.size = none := I.hok.fresh hz
    have lz : (L2.map fun p => V.ref p.1).length ≤ sizeLine := by
      rw [List.length_map, p2.length_eq, sizeLine_eq]
      omega
    have J : Inv X pins σ (upd H s1.heap.objs.size (.lst (L2.map fun p => V.ref p.1))) { s with heap := sortedHeap (s1.heap.push (seqObj "list" vs.toArray 0)) s1.heap.objs.size vs out.toArray, gens := s1.gens, drawn := s1.drawn, toks := s1.toks } :=
      I.call (ch := []) (Un.laid grow hz hn) (I.hok.laid grow hz ⟨lz, out, c, by rw [← e2]; exact vals_ents L2, hcx⟩) (by rw [g1]; exact I.bare) fun _ z => nomatch z
    have e : { s1 with heap := sortedHeap (s1.heap.push (seqObj "list" vs.toArray 0)) s1.heap.objs.size vs out.toArray } = ({ s with heap := sortedHeap (s1.heap.push (seqObj "list" vs.toArray 0)) s1.heap.objs.size vs out.toArray, gens := s1.gens, drawn := s1.drawn, toks := s1.toks } : Shared) := by
      cases s1
      cases s
      cases o1
      rfl
    refine wpAny_pure ⟨_, rfl, ?_⟩
    show EP X pins σ Q _ { s1 with heap := sortedHeap (s1.heap.push (seqObj "list" vs.toArray 0)) s1.heap.objs.size vs out.toArray }
    rw [e]
    exact ⟨.ref _, _, J, rfl, q L2 _ p2 hn⟩
end
end L2

set_option Elab.async false
set_option linter.all false
set_option maxRecDepth 100000
set_option maxHeartbeats 4000000
/-! Clashes of markers, lists of so many people, and those that leave no clash. -/
namespace L2
open PySem PySem.Spec PyProof.Rows Km
/-! ### lists of so many people, in the order of their places -/
def combos : List Str → Nat → List (List Str)
  | _, 0 => [[]]
  | [], _ + 1 => []
  | z :: zs, k + 1 => (combos zs k).map (z :: ·) ++ combos zs (k + 1)
def afterZ (zs : List Str) (z : Str) : List Str := (zs.dropWhile fun y => decide (y ≠ z)).drop 1
def laterZ (zs lot : List Str) : List Str := match lot.getLast? with
  | none => zs
  | some z => afterZ zs z
def moreZ (zs : List Str) (ls : List (List Str)) : List (List Str) := ls.flatMap fun l => (laterZ zs l).map fun p => l ++ [p]
theorem combos0 (zs : List Str) : combos zs 0 = [[]] := by cases zs <;> rfl
theorem combos_mem : ∀ {zs : List Str} {k : Nat} {l : List Str}, l ∈ combos zs k → l.Sublist zs ∧ l.length = k
  | zs, 0, l, h => by
    rw [combos0] at h
    rw [List.mem_singleton.mp h]
    exact ⟨List.nil_sublist _, rfl⟩
  | [], k + 1, l, h => by cases h
  | z :: zs, k + 1, l, h => by
    rcases List.mem_append.mp h with h | h
    · obtain ⟨m, hm, rfl⟩ := List.mem_map.mp h
      have := combos_mem hm
      exact ⟨this.1.cons_cons z, by rw [List.length_cons, this.2]⟩
    · have := combos_mem h
      exact ⟨this.1.cons z, this.2⟩
theorem mem_combos : ∀ {zs l : List Str}, l.Sublist zs → l ∈ combos zs l.length
  | [], l, h => by
    rw [List.sublist_nil.mp h]
    exact List.mem_singleton.mpr rfl
  | z :: zs, [], h => List.mem_singleton.mpr rfl
  | z :: zs, y :: l, h => by
    show y :: l ∈ (combos zs l.length).map (z :: ·) ++ combos zs (l.length + 1)
    cases h with
    | cons _ h => exact List.mem_append_right _ (mem_combos h)
    | cons_cons _ h => exact List.mem_append_left _ (List.mem_map.mpr ⟨l, mem_combos h, rfl⟩)
theorem combos_len : ∀ (zs : List Str) (k : Nat), (combos zs k).length ≤ 2 ^ zs.length
  | zs, 0 => by
    rw [combos0]
    exact Nat.one_le_two_pow
  | [], k + 1 => Nat.zero_le _
  | z :: zs, k + 1 => by
    show ((combos zs k).map (z :: ·) ++ combos zs (k + 1)).length ≤ 2 ^ (zs.length + 1)
    rw [List.length_append, List.length_map, Nat.pow_succ]
    have h1 := combos_len zs k
    have h2 := combos_len zs (k + 1)
    omega
theorem after_skip {z y : Str} {zs : List Str} (n : z ≠ y) : afterZ (z :: zs) y = afterZ zs y := by
  unfold afterZ
  rw [List.dropWhile_cons, if_pos (decide_eq_true n)]
theorem after_here {z : Str} {zs : List Str} : afterZ (z :: zs) z = zs := by
  unfold afterZ
  rw [List.dropWhile_cons, if_neg (by simp)]
  rfl
theorem after_at : ∀ {zs : List Str} {j : Nat} {z : Str}, zs.Nodup → zs[j]? = some z → afterZ zs z = zs.drop (j + 1)
  | [], j, z, _, h => by simp at h
  | y :: zs, 0, z, _, h => by
    obtain rfl : y = z := by simpa using h
    rw [after_here]
    rfl
  | y :: zs, j + 1, z, nd, h => by
    rw [List.getElem?_cons_succ] at h
    have nd := List.nodup_cons.mp nd
    have ne : y ≠ z := fun e => nd.1 (e ▸ List.mem_of_getElem? h)
    rw [after_skip ne, after_at nd.2 h]
    rfl
theorem later_cons {z : Str} {zs l : List Str} (nz : z ∉ zs) (hl : ∀ y ∈ l, y ∈ zs) : laterZ (z :: zs) (z :: l) = laterZ zs l := by
  unfold laterZ
  cases e : l.getLast? with
  | none =>
    rw [List.getLast?_eq_none_iff.mp e]
    exact after_here
  | some y =>
    rw [List.getLast?_cons, e]
    have hy := hl y (List.mem_of_getLast? e)
    exact after_skip fun e => nz (e ▸ hy)
theorem later_same {z : Str} {zs l : List Str} (nz : z ∉ zs) (hl : ∀ y ∈ l, y ∈ zs) (ne : l ≠ []) : laterZ (z :: zs) l = laterZ zs l := by
  unfold laterZ
  cases e : l.getLast? with
  | none => exact absurd (List.getLast?_eq_none_iff.mp e) ne
  | some y =>
    have hy := hl y (List.mem_of_getLast? e)
    exact after_skip fun e => nz (e ▸ hy)
theorem more_congr {zs ys : List Str} {ls : List (List Str)} (h : ∀ l ∈ ls, laterZ zs l = laterZ ys l) : moreZ zs ls = moreZ ys ls := by
  unfold moreZ
  induction ls with
  | nil => rfl
  | cons l ls ih =>
    rw [List.flatMap_cons, List.flatMap_cons, h l List.mem_cons_self, ih fun m hm => h m (List.mem_cons_of_mem _ hm)]
theorem more_cons {z : Str} {zs : List Str} {ls : List (List Str)} (h : ∀ l ∈ ls, laterZ (z :: zs) (z :: l) = laterZ zs l) : moreZ (z :: zs) (ls.map (z :: ·)) = (moreZ zs ls).map (z :: ·) := by
  unfold moreZ
  induction ls with
  | nil => rfl
  | cons l ls ih =>
    rw [List.map_cons, List.flatMap_cons, List.flatMap_cons, List.map_append, h l List.mem_cons_self, ih fun m hm => h m (List.mem_cons_of_mem _ hm), List.map_map]
    rfl
theorem more_app {zs : List Str} {l1 l2 : List (List Str)} : moreZ zs (l1 ++ l2) = moreZ zs l1 ++ moreZ zs l2 := List.flatMap_append
/-- one person more -/
theorem more_combos : ∀ {zs : List Str}, zs.Nodup → ∀ k, moreZ zs (combos zs k) = combos zs (k + 1)
  | [], _, 0 => rfl
  | [], _, k + 1 => rfl
  | z :: zs, nd, 0 => by
    have nd := List.nodup_cons.mp nd
    have ih := more_combos nd.2 0
    rw [combos0] at ih ⊢
    show moreZ (z :: zs) [[]] = (combos zs 0).map (z :: ·) ++ combos zs 1
    rw [combos0, ← ih]
    unfold moreZ laterZ
    simp
  | z :: zs, nd, k + 1 => by
    have nd := List.nodup_cons.mp nd
    show moreZ (z :: zs) ((combos zs k).map (z :: ·) ++ combos zs (k + 1)) = (combos zs (k + 1)).map (z :: ·) ++ combos zs (k + 2)
    rw [more_app, more_cons fun l hl => later_cons nd.1 fun y hy => (combos_mem hl).1.subset hy, more_combos nd.2 k, ← more_combos nd.2 (k + 1)]
    refine congrArg _ (more_congr fun l hl => later_same nd.1 (fun y hy => (combos_mem hl).1.subset hy) fun e => ?_)
    have := (combos_mem hl).2
    rw [e] at this
    cases this
/-! ### clashes -/
def mkAt (zs : List Str) (f : Str × Str → V) (p : Str × Str) : V := if p ∈ pairsOf zs then f p else .non
def farV (x y : V) (sp : Int) : Bool := match x, y with
  | .int i, .int j => decide (sp < if i - j < 0 then -(i - j) else i - j)
  | _, _ => false
abbrev Tri := Str × Str × Str
def clashC (zs : List Str) (f : Str × Str → V) (sp : Int) (a b : Str) (cs : List Str) : List Tri := (cs.filter fun c => farV (mkAt zs f (a, c)) (mkAt zs f (b, c)) sp).map fun c => (a, b, c)
def clashB (zs : List Str) (f : Str × Str → V) (sp : Int) (a : Str) (bs : List Str) : List Tri := bs.flatMap fun b => clashC zs f sp a b zs
def clashA (zs : List Str) (f : Str × Str → V) (sp : Int) : Nat → List Tri
  | 0 => []
  | i + 1 => clashA zs f sp i ++ (match zs[i]? with | some a => clashB zs f sp a (zs.drop (i + 1)) | none => [])
def clashes (zs : List Str) (f : Str × Str → V) (sp : Int) : List Tri := clashA zs f sp zs.length
theorem flat_len {α β : Type} {g : α → List β} {m : Nat} : ∀ {l : List α}, (∀ a ∈ l, (g a).length ≤ m) → (l.flatMap g).length ≤ l.length * m
  | [], _ => by simp
  | a :: l, h => by
    rw [List.flatMap_cons, List.length_append, List.length_cons, Nat.succ_mul]
    have h1 := h a List.mem_cons_self
    have h2 := flat_len (l := l) fun b hb => h b (List.mem_cons_of_mem _ hb)
    omega
theorem clashC_len {zs : List Str} {f : Str × Str → V} {sp : Int} {a b : Str} {cs : List Str} : (clashC zs f sp a b cs).length ≤ cs.length := by
  unfold clashC
  rw [List.length_map]
  exact List.length_filter_le _ _
theorem clashB_len {zs : List Str} {f : Str × Str → V} {sp : Int} {a : Str} {bs : List Str} : (clashB zs f sp a bs).length ≤ bs.length * zs.length := flat_len fun _ _ => clashC_len
theorem clashA_len {zs : List Str} {f : Str × Str → V} {sp : Int} : ∀ i, (clashA zs f sp i).length ≤ i * (zs.length * zs.length)
  | 0 => Nat.zero_le _
  | i + 1 => by
    rw [clashA, List.length_append, Nat.succ_mul]
    have h1 := clashA_len (zs := zs) (f := f) (sp := sp) i
    have h2 : (match zs[i]? with | some a => clashB zs f sp a (zs.drop (i + 1)) | none => []).length ≤ zs.length * zs.length := by
      cases zs[i]? with
      | none => exact Nat.zero_le _
      | some a =>
        refine Nat.le_trans clashB_len (Nat.mul_le_mul_right _ ?_)
        rw [List.length_drop]
        omega
    omega
theorem clashes_len {zs : List Str} {f : Str × Str → V} {sp : Int} (h : zs.length ≤ 8) : (clashes zs f sp).length ≤ 512 := by
  refine Nat.le_trans (clashA_len _) ?_
  have h1 : zs.length * zs.length ≤ 64 := Nat.mul_le_mul h h
  exact Nat.mul_le_mul h h1
/-- who clashes over whom -/
structure ClashOf (zs : List Str) (f : Str × Str → V) (sp : Int) (t : Tri) : Prop where
  m1 : t.1 ∈ zs
  m2 : t.2.1 ∈ zs
  ne : zs.Nodup → t.1 ≠ t.2.1
  far : farV (mkAt zs f (t.1, t.2.2)) (mkAt zs f (t.2.1, t.2.2)) sp = true
theorem clashA_mem {zs : List Str} {f : Str × Str → V} {sp : Int} : ∀ {i : Nat} {t : Tri}, t ∈ clashA zs f sp i ↔ ∃ j a, j < i ∧ zs[j]? = some a ∧ t.1 = a ∧ t.2.1 ∈ zs.drop (j + 1) ∧ t.2.2 ∈ zs ∧ farV (mkAt zs f (t.1, t.2.2)) (mkAt zs f (t.2.1, t.2.2)) sp = true
  | 0, t => ⟨(fun h => nomatch h), fun ⟨j, _, h, _⟩ => absurd h (Nat.not_lt_zero _)⟩
  | i + 1, t => by
    rw [clashA, List.mem_append, clashA_mem (i := i)]
    constructor
    · rintro (⟨j, a, h1, h2⟩ | h)
      · exact ⟨j, a, Nat.lt_succ_of_lt h1, h2⟩
      · cases e : zs[i]? with
        | none =>
          rw [e] at h
          cases h
        | some a =>
          rw [e] at h
          obtain ⟨b, hb, h⟩ := List.mem_flatMap.mp h
          obtain ⟨c, hc, rfl⟩ := List.mem_map.mp h
          obtain ⟨hc, hf⟩ := List.mem_filter.mp hc
          exact ⟨i, a, Nat.lt_succ_self _, e, rfl, hb, hc, hf⟩
    · rintro ⟨j, a, h1, h2, h3, h4, h5, h6⟩
      rcases Nat.lt_succ_iff_lt_or_eq.mp h1 with h | rfl
      · exact .inl ⟨j, a, h, h2, h3, h4, h5, h6⟩
      · refine .inr ?_
        rw [h2]
        refine List.mem_flatMap.mpr ⟨t.2.1, h4, List.mem_map.mpr ⟨t.2.2, List.mem_filter.mpr ⟨h5, by rw [← h3]; exact h6⟩, ?_⟩⟩
        rw [← h3]
theorem clashes_mem {zs : List Str} {f : Str × Str → V} {sp : Int} {t : Tri} : t ∈ clashes zs f sp → ClashOf zs f sp t := by
  intro h
  obtain ⟨j, a, _, h2, h3, h4, h5, h6⟩ := clashA_mem.mp h
  have m := List.mem_of_getElem? h2
  refine ⟨h3 ▸ m, List.mem_of_mem_drop h4, fun nd e => ?_, h6⟩
  rw [h3] at e
  rw [← e] at h4
  obtain ⟨i, hi⟩ := List.mem_iff_getElem?.mp h4
  rw [List.getElem?_drop] at hi
  have lt := (List.getElem?_eq_some_iff.mp hi).1
  have := (List.getElem?_inj (by have := (List.getElem?_eq_some_iff.mp h2).1; exact this) nd).mp (h2.trans hi.symm)
  omega
/-- a wider spread has fewer clashes -/
theorem clashes_mono {zs : List Str} {f : Str × Str → V} {sp sq : Int} (h : sp ≤ sq) : ∀ t ∈ clashes zs f sq, t ∈ clashes zs f sp := fun t ht => by
  obtain ⟨j, a, h1, h2, h3, h4, h5, h6⟩ := clashA_mem.mp ht
  refine clashA_mem.mpr ⟨j, a, h1, h2, h3, h4, h5, ?_⟩
  generalize mkAt zs f (t.1, t.2.2) = x at h6
  generalize mkAt zs f (t.2.1, t.2.2) = y at h6
  unfold farV at h6 ⊢
  split at h6
  · have := of_decide_eq_true h6
    exact decide_eq_true (Int.lt_of_le_of_lt h this)
  · cases h6
/-- no marks differ by more than the greatest one -/
theorem clashes_most {zs : List Str} {f : Str × Str → V} {m : Int} (mk : ∀ p ∈ pairsOf zs, mkOk m (f p) = true) : clashes zs f m = [] := by
  refine List.eq_nil_iff_forall_not_mem.mpr fun t ht => ?_
  have h6 := (clashes_mem ht).far
  have inB : ∀ p i, mkAt zs f p = V.int i → 0 ≤ i ∧ i ≤ m := fun p i e => by
    unfold mkAt at e
    split at e
    · rename_i hp
      have := mk p hp
      rw [e] at this
      unfold mkOk markB at this
      simp at this
      omega
    · cases e
  have e1 := inB (t.1, t.2.2)
  have e2 := inB (t.2.1, t.2.2)
  generalize mkAt zs f (t.1, t.2.2) = x at h6 e1
  generalize mkAt zs f (t.2.1, t.2.2) = y at h6 e2
  unfold farV at h6
  split at h6
  · rename_i i j
    have := of_decide_eq_true h6
    have a1 := e1 i rfl
    have a2 := e2 j rfl
    split at this <;> omega
  · cases h6
/-! ### who must be left out -/
def coverB (cl : List Tri) (l : List Str) : Bool := cl.all fun t => decide (t.1 ∈ l) || decide (t.2.1 ∈ l)
def enoughL (zs : List Str) (cl : List Tri) (k : Nat) : List (List Str) := (combos zs k).filter (coverB cl)
/-- k is the least number of people -/
structure LeastN (zs : List Str) (cl : List Tri) (k : Nat) : Prop where
  some : enoughL zs cl k ≠ []
  none : ∀ j, j < k → enoughL zs cl j = []
theorem LeastN.uniq {zs : List Str} {cl : List Tri} {j k : Nat} (h1 : LeastN zs cl j) (h2 : LeastN zs cl k) : j = k := by
  rcases Nat.lt_trichotomy j k with h | h | h
  · exact absurd (h2.none j h) h1.some
  · exact h
  · exact absurd (h1.none k h) h2.some
theorem enough_of {zs l : List Str} {cl : List Tri} (s : l.Sublist zs) (c : coverB cl l = true) : enoughL zs cl l.length ≠ [] := fun e => by
  have : l ∈ enoughL zs cl l.length := List.mem_filter.mpr ⟨mem_combos s, c⟩
  rw [e] at this
  cases this
theorem LeastN.le {zs l : List Str} {cl : List Tri} {k : Nat} (h : LeastN zs cl k) (s : l.Sublist zs) (c : coverB cl l = true) : k ≤ l.length := by
  refine Nat.le_of_not_lt fun lt => ?_
  exact enough_of s c (h.none _ lt)
theorem cover_drop {zs : List Str} {f : Str × Str → V} {sp : Int} (nd : zs.Nodup) : coverB (clashes zs f sp) (zs.drop 1) = true := by
  refine List.all_eq_true.mpr fun t ht => ?_
  have c := clashes_mem ht
  cases zs with
  | nil => cases c.m1
  | cons z zs =>
    rw [Bool.or_eq_true, decide_eq_true_eq, decide_eq_true_eq]
    rcases List.mem_cons.mp c.m1 with e1 | h
    · rcases List.mem_cons.mp c.m2 with e2 | h
      · exact absurd (e1.trans e2.symm) (c.ne nd)
      · exact .inr h
    · exact .inl h
theorem least_there {zs : List Str} {f : Str × Str → V} {sp : Int} (nd : zs.Nodup) : ∃ k, k ≤ zs.length - 1 ∧ LeastN zs (clashes zs f sp) k := by
  have h := enough_of (List.drop_sublist 1 zs) (cover_drop (f := f) (sp := sp) nd)
  rw [List.length_drop] at h
  obtain ⟨k, h1, h2, h3⟩ := st_least (p := fun k => enoughL zs (clashes zs f sp) k ≠ []) (zs.length - 1) h
  exact ⟨k, h1, h2, fun j hj => Classical.byContradiction fun c => h3 j hj c⟩
theorem least_mono {zs : List Str} {f : Str × Str → V} {sp sq : Int} {j k : Nat} (h : sp ≤ sq) (h1 : LeastN zs (clashes zs f sp) j) (h2 : LeastN zs (clashes zs f sq) k) : k ≤ j := by
  obtain ⟨l, hl⟩ := List.exists_mem_of_ne_nil _ h1.some
  obtain ⟨hm, hc⟩ := List.mem_filter.mp hl
  obtain ⟨s, e⟩ := combos_mem hm
  rw [← e]
  refine h2.le s (List.all_eq_true.mpr fun t ht => List.all_eq_true.mp hc t (clashes_mono h t ht))
theorem least_zero {zs : List Str} : LeastN zs [] 0 := ⟨(by
    unfold enoughL
    rw [combos0]
    simp [coverB]), fun j h => absurd h (Nat.not_lt_zero _)⟩
def togetherB (cl : List Tri) (ys : List Str) : Bool := !(cl.any fun t => decide (t.1 ∈ ys) && decide (t.2.1 ∈ ys))
/-- they go together, the left out ones away, when these are enough -/
theorem together_cover {zs l : List Str} {f : Str × Str → V} {sp : Int} : togetherB (clashes zs f sp) (zs.filter fun z => decide (z ∉ l)) = coverB (clashes zs f sp) l := by
  unfold togetherB coverB
  rw [List.not_any_eq_all_not]
  have key : ∀ cl : List Tri, (∀ t ∈ cl, t.1 ∈ zs ∧ t.2.1 ∈ zs) → (cl.all fun t => !(decide (t.1 ∈ zs.filter fun z => decide (z ∉ l)) && decide (t.2.1 ∈ zs.filter fun z => decide (z ∉ l)))) = cl.all fun t => decide (t.1 ∈ l) || decide (t.2.1 ∈ l) := by
    intro cl
    induction cl with
    | nil => exact fun _ => rfl
    | cons t cl ih =>
      intro h
      rw [List.all_cons, List.all_cons, ih fun u hu => h u (List.mem_cons_of_mem _ hu)]
      obtain ⟨h1, h2⟩ := h t List.mem_cons_self
      refine congrArg (· && _) ?_
      simp only [List.mem_filter, h1, h2, true_and, decide_eq_true_eq]
      by_cases c1 : t.1 ∈ l <;> by_cases c2 : t.2.1 ∈ l <;> simp [c1, c2]
  exact key _ fun t ht => ⟨(clashes_mem ht).m1, (clashes_mem ht).m2⟩
/-- one of the least ones less is not enough -/
theorem least_tail {zs l : List Str} {cl : List Tri} {k : Nat} (h : LeastN zs cl k) (hl : l ∈ enoughL zs cl k) (ne : l ≠ []) : coverB cl (l.drop 1) = false := by
  obtain ⟨s, e⟩ := combos_mem (List.mem_filter.mp hl).1
  refine Bool.eq_false_iff.mpr fun c => ?_
  have := h.le ((List.drop_sublist 1 l).trans s) c
  rw [List.length_drop] at this
  have : 0 < l.length := List.length_pos_iff.mpr ne
  omega
end L2

set_option Elab.async false
set_option linter.all false
set_option maxRecDepth 100000
set_option maxHeartbeats 4000000
/-! The laws' other drawn rules (a plan): numbers unlike, a parting by numbers. -/
namespace L2
open PySem PySem.Spec PyProof.Rows
theorem del_of {H : Hp} {a b : Addr} {o : HO} (e : del H a b = some o) : H b = some o := del_le _ _ e
theorem del_free {H H2 : Hp} {a b : Addr} (s : Same (del H a) (del H2 a)) (n : b ≠ a) (e : H2 b = none) : H b = none := by
  have := s.free (del_none e)
  rwa [del_ne n] at this
theorem del_upd {H G : Hp} {a p : Addr} {o : HO} (s : Same (del H a) (del G a)) (np : H p = none) : Same (del H a) (del (upd G p o) a) := fun b o2 e => by
  have nb : b ≠ p := fun z => by
    have := del_le _ _ e
    rw [z, np] at this
    cases this
  have na : b ≠ a := fun z => by
    rw [z, del_same] at e
    cases e
  have := s _ _ e
  rw [del_ne na] at this ⊢
  rw [upd_ne nb]
  exact this
/-- the numbers, each at its first place only: of the first i -/
def unl (ws : List Int) : Nat → List Int
  | 0 => []
  | i + 1 => unl ws i ++ (match ws[i]? with | none => [] | some k => if k ∈ ws.take i then [] else [k])
theorem unl_mem {ws : List Int} : ∀ (i : Nat) (k : Int), k ∈ unl ws i ↔ k ∈ ws.take i
  | 0, k => by simp [unl]
  | i + 1, k => by
    unfold unl
    rw [List.mem_append, unl_mem i k, List.take_add_one, List.mem_append]
    cases h : ws[i]? with
    | none => simp
    | some j =>
      dsimp only
      by_cases c : j ∈ ws.take i
      · rw [if_pos c]
        constructor
        · rintro (h | h)
          · exact .inl h
          · cases h
        · rintro (h | h)
          · exact .inl h
          · have e : k = j := by simpa using h
            exact .inl (e ▸ c)
      · rw [if_neg c]
        simp
theorem unl_nodup {ws : List Int} : ∀ i : Nat, (unl ws i).Nodup
  | 0 => List.nodup_nil
  | i + 1 => by
    unfold unl
    cases h : ws[i]? with
    | none => rw [List.append_nil]; exact unl_nodup i
    | some j =>
      dsimp only
      by_cases c : j ∈ ws.take i
      · rw [if_pos c, List.append_nil]
        exact unl_nodup i
      · rw [if_neg c]
        refine List.nodup_append.mpr ⟨unl_nodup i, by simp, fun a ha b hb e => c ?_⟩
        rw [List.mem_singleton.mp hb] at e
        exact (unl_mem i j).mp (e ▸ ha)
/-- those of one number -/
def rowN (zs : List Str) (ws : List Int) (k : Int) : List Str := ((zs.zip ws).filter fun q => decide (q.2 = k)).map (·.1)
def partN (zs : List Str) (ws : List Int) : List (List Str) := (unl ws ws.length).map (rowN zs ws)
theorem row_snoc {zs : List Str} {ws : List Int} {z : Str} {j k : Int} (h : zs.length = ws.length) : rowN (zs ++ [z]) (ws ++ [j]) k = rowN zs ws k ++ (if j = k then [z] else []) := by
  unfold rowN
  rw [List.zip_append h, List.filter_append, List.map_append]
  congr 1
  by_cases e : j = k
  · rw [if_pos e]
    simp [e]
  · rw [if_neg e]
    simp [e]
theorem unl_take {ws : List Int} {j : Int} : ∀ i, i ≤ ws.length → unl (ws ++ [j]) i = unl ws i
  | 0, _ => rfl
  | i + 1, h => by
    unfold unl
    rw [unl_take i (by omega), List.getElem?_append_left (by omega), List.take_append_of_le_length (by omega)]
theorem unl_snoc (ws : List Int) (j : Int) : unl (ws ++ [j]) (ws ++ [j]).length = unl ws ws.length ++ (if j ∈ ws then [] else [j]) := by
  rw [List.length_append]
  show unl (ws ++ [j]) (ws.length + 1) = _
  rw [unl, unl_take _ (Nat.le_refl _), List.getElem?_append_right (Nat.le_refl _), Nat.sub_self, List.take_append_of_le_length (Nat.le_refl _), List.take_length]
  rfl
theorem unl_all {ws : List Int} {k : Int} : k ∈ unl ws ws.length ↔ k ∈ ws := by
  rw [unl_mem, List.take_length]
theorem row_none {zs : List Str} {ws : List Int} {k : Int} (h : k ∉ ws) : rowN zs ws k = [] := by
  unfold rowN
  rw [List.map_eq_nil_iff, List.filter_eq_nil_iff]
  intro q hq c
  exact h (of_decide_eq_true c ▸ (List.of_mem_zip hq).2)
theorem straight_parts : ∀ {n : Nat} {zs : List Str} {ws : List Int}, zs.length = n → ws.length = n → zs.Nodup → Straight zs (partN zs ws)
  | 0, zs, ws, h1, h2, _ => by
    obtain rfl := List.length_eq_zero_iff.mp h1
    obtain rfl := List.length_eq_zero_iff.mp h2
    exact straight_nil rfl
  | n + 1, zs, ws, h1, h2, nd => by
    obtain ⟨zs', z, rfl⟩ : ∃ a b, zs = a ++ [b] := by
      have ne : zs ≠ [] := fun e => by rw [e] at h1; simp at h1
      exact ⟨_, _, (List.dropLast_concat_getLast ne).symm⟩
    obtain ⟨ws', j, rfl⟩ : ∃ a b, ws = a ++ [b] := by
      have ne : ws ≠ [] := fun e => by rw [e] at h2; simp at h2
      exact ⟨_, _, (List.dropLast_concat_getLast ne).symm⟩
    rw [List.length_append] at h1 h2
    have l1 : zs'.length = n := by simpa using h1
    have l2 : ws'.length = n := by simpa using h2
    have nd2 := (List.nodup_append.mp nd)
    have nz : z ∉ zs' := fun h => nd2.2.2 z h z (List.mem_singleton.mpr rfl) rfl
    have ih := straight_parts l1 l2 nd2.1
    have e : zs'.length = ws'.length := by omega
    unfold partN at ih ⊢
    rw [unl_snoc]
    by_cases c : j ∈ ws'
    · rw [if_pos c, List.append_nil]
      obtain ⟨u1, u2, hu⟩ := List.append_of_mem (unl_all.mpr c)
      have ndu := unl_nodup (ws := ws') ws'.length
      rw [hu] at ih ndu ⊢
      rw [List.map_append, List.map_cons] at ih ⊢
      have n1 : ∀ k ∈ u1, rowN (zs' ++ [z]) (ws' ++ [j]) k = rowN zs' ws' k := fun k hk => by
        rw [row_snoc e, if_neg (fun x => (List.nodup_append.mp ndu).2.2 k hk j List.mem_cons_self x.symm), List.append_nil]
      have n2 : ∀ k ∈ u2, rowN (zs' ++ [z]) (ws' ++ [j]) k = rowN zs' ws' k := fun k hk => by
        rw [row_snoc e, if_neg (fun x : j = k => (List.nodup_cons.mp (List.nodup_append.mp ndu).2.1).1 (by rw [x]; exact hk)), List.append_nil]
      rw [List.map_congr_left n1, List.map_congr_left n2, row_snoc e, if_pos rfl]
      exact straight_more ih nz
    · rw [if_neg c, List.map_append]
      have n1 : ∀ k ∈ unl ws' ws'.length, rowN (zs' ++ [z]) (ws' ++ [j]) k = rowN zs' ws' k := fun k hk => by
        rw [row_snoc e, if_neg (fun x : j = k => c (by rw [x]; exact unl_all.mp hk)), List.append_nil]
      rw [List.map_congr_left n1, List.map_singleton, row_snoc e, if_pos rfl, row_none c, List.nil_append]
      exact straight_new ih nz
def spUnlike (K : PySem.W.Frag) : Sp := fun vs H Q _ => ∃ (l : Addr) (ws : List Int), vs = [.ref l] ∧ H l = some (.lst (ws.map V.int)) ∧ ws.length ≤ 100 ∧ ∀ H' p, Same H H' → H p = none → H' p = some (.lst ((unl ws ws.length).map V.int)) → Q (.ref p) H'
theorem unl_len (ws : List Int) : ∀ i, (unl ws i).length ≤ i
  | 0 => Nat.le_refl _
  | i + 1 => by
    have := unl_len ws i
    unfold unl
    rw [List.length_append]
    cases ws[i]? with
    | none => simp; omega
    | some k =>
      dsimp only
      split
      · simp; omega
      · simp; omega
theorem inV_ints (k : Int) : ∀ ks : List Int, inV (.int k) (ks.map V.int) = decide (k ∈ ks)
  | [] => rfl
  | j :: ks => by
    have e := inV_ints k ks
    unfold inV at e ⊢
    rw [List.map_cons, List.any_cons, e]
    show ((j == k) || _) = _
    rw [Bool.eq_iff_iff]
    simp only [Bool.or_eq_true, beq_iff_eq, decide_eq_true_eq, List.mem_cons]
    exact or_congr_left eq_comm
theorem all_flat_ints (ks : List Int) : (ks.map V.int).all flatV = true := by
  rw [List.all_map]
  exact List.all_eq_true.mpr fun _ _ => rfl
def spParted : Sp := fun vs H Q _ => ∃ (a l : Addr) (zs : List Str), vs = [.ref a, .ref l] ∧ Pool H a ∧ l ≠ a ∧ H l = some (.lst (zs.map V.str)) ∧ zs.Nodup ∧ zs.length ≤ 8 ∧
  ∀ H' p us ls, Straight zs ls → Pool H' a → Same (del H a) (del H' a) → H p = none → (del H' a) p = some (.lst (us.map V.ref)) → Rows (del H' a) us ls → Q (.ref p) H'
def spReadersA : Sp := fun vs H Q _ => ∃ (g w r : Addr) (z : Str) (kvs : List (Key × V)) (zs : List Str) (ys : List V) (rs : List Pr), vs = [.ref g, .str z] ∧ H g = some (.dK kvs) ∧ valV kvs (.inr "people") = some (.ref w) ∧ H w = some (.lst (zs.map V.str)) ∧ valV kvs (.inr "reads") = some (.ref r) ∧ H r = some (.lst ys) ∧ Tps H ys rs ∧ zs.length ≤ 8 ∧
  PyData.strOk z = true ∧ (∀ o ∈ zs, PyData.strOk o = true) ∧ (∀ p ∈ rs, PyData.strOk p.1 = true ∧ PyData.strOk p.2 = true) ∧ ∀ H' p, Same H H' → H p = none → H' p = some (.lst ((zs.filter fun o => decide ((o, z) ∈ rs)).map V.str)) → Q (.ref p) H'
def spListA : Sp := fun vs H Q _ => ∃ (g l : Addr) (z : Str) (kvs : List (Key × V)) (us : List Addr) (ls : List (List Str)) (row : List Str), vs = [.ref g, .str z] ∧ H g = some (.dK kvs) ∧ valV kvs (.inr "lists") = some (.ref l) ∧ H l = some (.lst (us.map V.ref)) ∧ Rows H us ls ∧ ls.length ≤ 100 ∧ (ls.filter fun l => decide (z ∈ l)) = [row] ∧ ∀ H' u, Same H H' → H' u = some (.lst (row.map V.str)) → Q (.ref u) H'
theorem dget_of {H : Hp} {g : Addr} {kvs : List (Key × V)} {k : Str} {v : V} (h : H g = some (.dK kvs)) (e : valV kvs (.inr k) = some v) : DGet H g (.str k) (some v) := by
  have := DGet.k (k := .inr k) h
  rw [e] at this
  exact this
end L2

set_option Elab.async false
set_option linter.all false
set_option maxRecDepth 100000
set_option maxHeartbeats 4000000
/-! A plan: a drawn rule as a dict. -/
namespace L2
open PySem PySem.Spec PyProof.Rows
theorem Pool.ne {H : Hp} {a b : Addr} (p : Pool H a) (e : H b = none) : b ≠ a := fun q => by
  obtain ⟨g, r, h1, _⟩ := p
  rw [q, h1] at e
  cases e
theorem Pool.some {H : Hp} {a : Addr} (p : Pool H a) : H a ≠ none := fun q => by
  obtain ⟨g, r, h1, _⟩ := p
  rw [h1] at q
  cases q
theorem Pool.put {H : Hp} {a p : Addr} {o : HO} (P : Pool H a) (np : p ≠ a) : Pool (upd H p o) a := by
  obtain ⟨g, r, h1, h2⟩ := P
  exact ⟨g, r, by rw [upd_ne (Ne.symm np)]; exact h1, h2⟩
theorem names8_okA : ∀ z ∈ names8, isW (.str z) = true ∧ PyData.strOk z = true ∧ z.length ≤ 1000 ∧ z.length ≤ 8 := by decide +kernel
structure WordsA (zs : List Str) : Prop where
  sub : ∀ z ∈ zs, z ∈ names8
  nd : zs.Nodup
  one : 1 ≤ zs.length
  most : zs.length ≤ 8
theorem WordsA.ok {zs : List Str} (w : WordsA zs) : ∀ z ∈ zs, PyData.strOk z = true := fun z hz => (names8_okA z (w.sub z hz)).2.1
theorem WordsA.folk {zs : List Str} (w : WordsA zs) : Folk zs := ⟨w.ok, w.nd, w.one, w.most⟩
theorem WordsA.people {zs : List Str} (w : WordsA zs) : peopleB (zs.map V.str) = true := by
  show ((decide (1 ≤ (zs.map V.str).length) && decide ((zs.map V.str).length ≤ 8)) && ((zs.map V.str).all isW && decide (zs.map V.str).Nodup)) = true
  have h1 : (zs.map V.str).all isW = true := by
    rw [List.all_map]
    exact List.all_eq_true.mpr fun z hz => (names8_okA z (w.sub z hz)).1
  have h2 := w.one
  have h3 := w.most
  rw [h1, List.length_map, decide_eq_true h2, decide_eq_true h3, decide_eq_true ((nodup_map_inj (f := V.str) (fun _ _ e => V.str.inj e)).mpr w.nd)]
  rfl
theorem WordsA.items {K : PySem.W.Frag} {H : Hp} {zs : List Str} (w : WordsA zs) : ∀ x ∈ zs.map V.str, ItemOk K H x := fun x hx => by
  obtain ⟨z, hz, rfl⟩ := List.mem_map.mp hx
  exact item_str (names8_okA z (w.sub z hz)).2.2.1
def plan4 (w : Addr) (m : Int) (t : Str) : List (Key × V) := [(.inr "people", .ref w), (.inr "most", .int m), (.inr "turn", .str t), (.inr "trim", .int 0)]
def plan5 (w : Addr) (m : Int) (t : Str) (l : Addr) : List (Key × V) := plan4 w m t ++ [(.inr "lists", .ref l)]
def plan6 (w : Addr) (m : Int) (t : Str) (l r : Addr) : List (Key × V) := plan5 w m t l ++ [(.inr "reads", .ref r)]
def planT (w : Addr) (m : Int) (t : Str) (tr : Int) (l r : Addr) (ga : Str) (pr : Int) : List (Key × V) := [(.inr "people", .ref w), (.inr "most", .int m), (.inr "turn", .str t), (.inr "trim", .int tr), (.inr "lists", .ref l), (.inr "reads", .ref r), (.inr "gather", .str ga), (.inr "prizes", .int pr)]
def planAK (w l r : Addr) (R : RuleD) : List (Key × V) := planT w R.m R.turn R.trim l r R.gather R.prizes
theorem pmerge4 {w : Addr} {m : Int} {t : Str} : mergeK [] (plan4 w m t) = plan4 w m t := by
  rw [merge_new (κ := []) (by show ([Sum.inr "people", Sum.inr "most", Sum.inr "turn", Sum.inr "trim"] : List Key).Nodup; decide +kernel), List.nil_append]
theorem pput5 {w : Addr} {m : Int} {t : Str} {l : Addr} : putK (plan4 w m t) (.inr "lists") (.ref l) = plan5 w m t l := rfl
theorem pput6 {w : Addr} {m : Int} {t : Str} {l r : Addr} : putK (plan5 w m t l) (.inr "reads") (.ref r) = plan6 w m t l r := rfl
theorem pput6r {w : Addr} {m : Int} {t : Str} {l r r2 : Addr} : putK (plan6 w m t l r) (.inr "reads") (.ref r2) = plan6 w m t l r2 := rfl
theorem pput8 {w : Addr} {m : Int} {t : Str} {l r : Addr} {ga : Str} {pr : Int} : putK (putK (plan6 w m t l r) (.inr "gather") (.str ga)) (.inr "prizes") (.int pr) = planT w m t 0 l r ga pr := rfl
theorem pputT {w : Addr} {m : Int} {t : Str} {tr : Int} {l r : Addr} {ga : Str} {pr x : Int} : putK (planT w m t tr l r ga pr) (.inr "trim") (.int x) = planT w m t x l r ga pr := rfl
theorem pputG {w : Addr} {m : Int} {t : Str} {tr : Int} {l r : Addr} {ga gb : Str} {pr : Int} : putK (planT w m t tr l r ga pr) (.inr "gather") (.str gb) = planT w m t tr l r gb pr := rfl
structure PlanAt (H : Hp) (g w l r : Addr) (us : List Addr) (ys : List V) (R : RuleD) : Prop where
  ob : H g = some (.dK (planAK w l r R))
  words : H w = some (.lst (R.zs.map V.str))
  ls : H l = some (.lst (us.map V.ref))
  rows : Rows H us R.lists
  rd : H r = some (.lst ys)
  tps : Tps H ys R.reads
def PlanOf (H : Hp) (g : Addr) (R : RuleD) : Prop := ∃ w l r us ys, PlanAt H g w l r us ys R
theorem PlanAt.same {H H2 : Hp} {g w l r : Addr} {us : List Addr} {ys : List V} {R : RuleD} (s : Same H H2) (h : PlanAt H g w l r us ys R) : PlanAt H2 g w l r us ys R :=
  ⟨s _ _ h.ob, s _ _ h.words, s _ _ h.ls, h.rows.same s, s _ _ h.rd, h.tps.same s⟩
theorem PlanOf.same {H H2 : Hp} {g : Addr} {R : RuleD} (s : Same H H2) (h : PlanOf H g R) : PlanOf H2 g R := by
  obtain ⟨w, l, r, us, ys, h⟩ := h
  exact ⟨w, l, r, us, ys, h.same s⟩
section
variable {H : Hp} {g w l r : Addr} {us : List Addr} {ys : List V} {R : RuleD}
theorem PlanAt.gWords (h : PlanAt H g w l r us ys R) : DGet H g (.str "people") (some (.ref w)) := DGet.k (k := .inr "people") h.ob
theorem PlanAt.gMost (h : PlanAt H g w l r us ys R) : DGet H g (.str "most") (some (.int R.m)) := DGet.k (k := .inr "most") h.ob
theorem PlanAt.gTurn (h : PlanAt H g w l r us ys R) : DGet H g (.str "turn") (some (.str R.turn)) := DGet.k (k := .inr "turn") h.ob
theorem PlanAt.gTrim (h : PlanAt H g w l r us ys R) : DGet H g (.str "trim") (some (.int R.trim)) := DGet.k (k := .inr "trim") h.ob
theorem PlanAt.gGather (h : PlanAt H g w l r us ys R) : DGet H g (.str "gather") (some (.str R.gather)) := DGet.k (k := .inr "gather") h.ob
theorem PlanAt.gPrizes (h : PlanAt H g w l r us ys R) : DGet H g (.str "prizes") (some (.int R.prizes)) := DGet.k (k := .inr "prizes") h.ob
theorem PlanAt.gLists (h : PlanAt H g w l r us ys R) : DGet H g (.str "lists") (some (.ref l)) := DGet.k (k := .inr "lists") h.ob
theorem PlanAt.gReads (h : PlanAt H g w l r us ys R) : DGet H g (.str "reads") (some (.ref r)) := DGet.k (k := .inr "reads") h.ob
end
theorem PartsAt.plan {G : Hp} {a g w l r : Addr} {us : List Addr} {ys : List V} {R : RuleD} (h : PartsAt (del2 G a g) w l r us ys R.zs R.lists R.reads) (n : g ≠ a) (ob : G g = some (.dK (planAK w l r R))) : PlanAt (del G a) g w l r us ys R :=
  ⟨del_at n ob, (h.same del2_le).words, (h.same del2_le).lsa, (h.same del2_le).rows, (h.same del2_le).rd, (h.same del2_le).tps⟩
def spPlan : Sp := fun vs H Q _ => ∃ (a tl : Addr) (least many top : Nat) (ts : List Str), vs = [.ref a, .int (least : Int), .int (many : Int), .int (top : Int), .ref tl] ∧ Pool H a ∧ H tl = some (.lst (ts.map V.str)) ∧ tl ≠ a ∧ 1 ≤ ts.length ∧ ts.length ≤ 100 ∧ (∀ t ∈ ts, t ∈ turns) ∧ 1 ≤ least ∧ least ≤ many ∧ many ≤ 8 ∧ 1 ≤ top ∧ top ≤ 10 ∧
  ∀ H' g R, R.Ok → WordsA R.zs → least ≤ R.zs.length → R.zs.length ≤ many → R.turn ∈ ts → 1 ≤ R.m → R.m ≤ (top : Int) → Pool H' a → Same (del H a) (del H' a) → H g = none → g ≠ a → PlanOf (del H' a) g R → Q (.ref g) H'
/-- the list of the reads grows where it stands -/
structure RoundA (H G : Hp) (a g wo l r : Addr) (us : List Addr) (ys : List V) (kvs : List (Key × V)) (zs : List Str) (ls : List (List Str)) (rs : List Pr) : Prop where
  pool : Pool G a
  keep : Same (del H a) (del G a)
  ob : G g = some (.dK kvs)
  nga : g ≠ a
  ngr : g ≠ r
  nra : r ≠ a
  fr : H r = none
  wA : del (del2 G a g) r wo = some (.lst (zs.map V.str))
  lA : del (del2 G a g) r l = some (.lst (us.map V.ref))
  rowsA : Rows (del (del2 G a g) r) us ls
  rd : G r = some (.lst ys)
  tps : Tps (del2 G a r) ys rs
theorem del_free_eq {G : Hp} {r : Addr} (h : G r = none) : del G r = G := by
  funext b
  by_cases e : b = r
  · subst e
    rw [del_same, h]
  · rw [del_ne e]
theorem del2_none {G : Hp} {a g r : Addr} (h : G r = none) : del2 G a g r = none := del_none (del_none h)
theorem del3_upd {G : Hp} {a g r : Addr} {o : HO} : del (del2 (upd G r o) a g) r = del (del2 G a g) r := by
  funext b
  unfold del2
  by_cases e : b = r
  · subst e
    rw [del_same, del_same]
  · rw [del_ne e, del_ne e]
    by_cases e2 : b = g
    · subst e2
      rw [del_same, del_same]
    · rw [del_ne e2, del_ne e2]
      by_cases e3 : b = a
      · subst e3
        rw [del_same, del_same]
      · rw [del_ne e3, del_ne e3, upd_ne e]
section
variable {H G G2 : Hp} {a g wo l r : Addr} {us : List Addr} {ys : List V} {kvs : List (Key × V)} {zs : List Str} {ls : List (List Str)} {rs : List Pr}
theorem RoundA.step (h : RoundA H G a g wo l r us ys kvs zs ls rs) (P2 : Pool G2 a) (sd : Same (del G a) (del G2 a)) : RoundA H G2 a g wo l r us ys kvs zs ls rs where
  pool := P2
  keep := h.keep.trans sd
  ob := del_of (sd _ _ (del_at h.nga h.ob))
  nga := h.nga
  ngr := h.ngr
  nra := h.nra
  fr := h.fr
  wA := del_mono (del2_mono sd) _ _ h.wA
  lA := del_mono (del2_mono sd) _ _ h.lA
  rowsA := h.rowsA.same (del_mono (del2_mono sd))
  rd := del_of (sd _ _ (del_at h.nra h.rd))
  tps := h.tps.same (del2_mono sd)
theorem RoundA.same (h : RoundA H G a g wo l r us ys kvs zs ls rs) (s : Same G G2) : RoundA H G2 a g wo l r us ys kvs zs ls rs := h.step (h.pool.same s) (del_mono s)
theorem RoundA.but (h : RoundA H G a g wo l r us ys kvs zs ls rs) (P2 : Pool G2 a) (b : But a G G2) : RoundA H G2 a g wo l r us ys kvs zs ls rs := h.step P2 (del_but b)
theorem tps_one {X : Hp} {t : Addr} {p : Pr} (h : X t = some (.tup [.str p.1, .str p.2])) : Tps X [.ref t] [p] := ⟨rfl, fun j y q h1 h2 => by
  cases j with
  | zero =>
    cases h1
    cases h2
    exact ⟨t, rfl, h⟩
  | succ j => simp at h1⟩
theorem RoundA.push (h : RoundA H G a g wo l r us ys kvs zs ls rs) {t : Addr} {p : Pr} (ht : G t = some (.tup [.str p.1, .str p.2])) : RoundA H (upd G r (.lst (ys ++ [.ref t]))) a g wo l r us (ys ++ [.ref t]) kvs zs ls (rs ++ [p]) where
  pool := h.pool.put h.nra
  keep := del_upd h.keep h.fr
  ob := by rw [upd_ne h.ngr]; exact h.ob
  nga := h.nga
  ngr := h.ngr
  nra := h.nra
  fr := h.fr
  wA := by rw [del3_upd]; exact h.wA
  lA := by rw [del3_upd]; exact h.lA
  rowsA := by rw [del3_upd]; exact h.rowsA
  rd := upd_same
  tps := by
    rw [del2_upd]
    refine h.tps.append (tps_one (del2_at (h.pool.other ht fun xs e => nomatch e) (fun e => ?_) ht))
    rw [e, h.rd] at ht
    cases ht
theorem RoundA.words (h : RoundA H G a g wo l r us ys kvs zs ls rs) : G wo = some (.lst (zs.map V.str)) := del2_of (del_of h.wA)
theorem RoundA.lists (h : RoundA H G a g wo l r us ys kvs zs ls rs) : G l = some (.lst (us.map V.ref)) := del2_of (del_of h.lA)
theorem RoundA.rows (h : RoundA H G a g wo l r us ys kvs zs ls rs) : Rows G us ls := Paired.mono (fun u (k : List Str) e => del2_of (del_of e)) h.rowsA
theorem RoundA.reads (h : RoundA H G a g wo l r us ys kvs zs ls rs) : Tps G ys rs := h.tps.same fun b o e => del2_of e
end
theorem readsA_len {zs : List Str} {rs : List Pr} (nd : rs.Nodup) (h : ∀ p ∈ rs, p ∈ pairsOf zs) (z8 : zs.length ≤ 8) : rs.length ≤ 64 := Nat.le_trans (Km.nodup_le nd h) (pairs_len z8 z8)
theorem pairsOf_in {zs : List Str} {o z : Str} (ho : o ∈ zs) (hz : z ∈ zs) (n : o ≠ z) : (o, z) ∈ pairsOf zs := by
  refine List.mem_flatMap.mpr ⟨o, ho, ?_⟩
  unfold rowOf
  exact List.mem_map.mpr ⟨z, List.mem_filter.mpr ⟨hz, decide_eq_true n⟩, rfl⟩
/-- somebody else, of two or more -/
theorem others_some {zs l : List Str} {z : Str} (nd : zs.Nodup) (sub : l.Sublist zs) (big : 1 < l.length) : 1 ≤ (zs.filter fun o => decide (o ≠ z)).length := by
  obtain ⟨y, hy, ne⟩ : ∃ y ∈ l, y ≠ z := by
    refine Classical.byContradiction fun c => ?_
    have all : ∀ y ∈ l, y = z := fun y hy => Classical.byContradiction fun e => c ⟨y, hy, e⟩
    have ndl := nd.sublist sub
    match l, big, all, ndl with
    | a :: b :: l, _, all, ndl =>
      have e1 := all a List.mem_cons_self
      have e2 := all b (List.mem_cons_of_mem _ List.mem_cons_self)
      rw [e1, e2] at ndl
      exact (List.nodup_cons.mp ndl).1 List.mem_cons_self
  exact List.length_pos_iff_exists_mem.mpr ⟨y, List.mem_filter.mpr ⟨sub.subset hy, decide_eq_true ne⟩⟩
/-- how many mark somebody, by a look at all -/
def cntA (zs : List Str) (rs : List Pr) (z : Str) : Nat := (zs.filter fun o => decide ((o, z) ∈ rs)).length
theorem cntA_le {zs : List Str} {rs : List Pr} {z : Str} (nd : zs.Nodup) : cntA zs rs z ≤ (readersOf rs z).length :=
  Km.nodup_le (nd.sublist List.filter_sublist) fun o ho => List.mem_map.mpr ⟨(o, z), List.mem_filter.mpr ⟨of_decide_eq_true (List.mem_filter.mp ho).2, decide_eq_true rfl⟩, rfl⟩
theorem fullA {R : RuleD} (mem : ∀ l ∈ R.lists, ∀ p ∈ l, p ∈ R.zs) (nd : R.zs.Nodup) (h : ∀ l ∈ R.lists, 1 < l.length → ∀ z ∈ l, 2 * R.trim < (cntA R.zs R.reads z : Int)) : shortB R.reads R.lists R.trim = false := by
  refine nolack_full mem fun z hz => ?_
  unfold RuleD.lacks
  cases e : R.lists.any fun l => decide (z ∈ l) && decide (1 < l.length) with
  | false => rfl
  | true =>
    obtain ⟨l, hl, c⟩ := List.any_eq_true.mp e
    rw [Bool.and_eq_true, decide_eq_true_eq, decide_eq_true_eq] at c
    have h1 := h l hl c.2 z c.1
    have h2 := cntA_le (rs := R.reads) (z := z) nd
    rw [Bool.true_and, decide_eq_false_iff_not]
    omega
theorem pick_mem {zs : List Str} {ps : List Pr} {p : Pr} : p ∈ pick zs ps ↔ p ∈ pairsOf zs ∧ p ∈ ps := by
  unfold pick
  rw [List.mem_filter, decide_eq_true_eq]
theorem shaped_intsA (ns : List Int) : SeqAt.shaped (.list (ns.map PyData.int)) = true := by
  have key : ∀ ns : List Int, PyData.canLayAll0 (ns.map .int) = true ∧ PyData.depthAll (ns.map PyData.int) ≤ 1 := fun ns => by
    induction ns with
    | nil => exact ⟨rfl, by simp [PyData.depthAll]⟩
    | cons n ns ih =>
      constructor
      · rw [List.map_cons, PyData.canLayAll0, PyData.canLay0, ih.1]
        rfl
      · have := ih.2
        simp only [List.map_cons, PyData.depthAll, PyData.depth]
        omega
  obtain ⟨h1, h2⟩ := key ns
  unfold SeqAt.shaped
  rw [PyData.canLay0, h1, Bool.true_and]
  refine decide_eq_true ?_
  rw [PyData.depth]
  omega
theorem dp_intsA {K : PySem.W.Frag} {H : Hp} : ∀ ns : List Int, DpAll K H (ns.map V.int) (ns.map PyData.int)
  | [] => .nil
  | n :: ns => .cons (.int n) (dp_intsA ns)
theorem cnt_pos {zs : List Str} {rs : List Pr} {z : Str} (sub : ∀ p ∈ rs, p ∈ pairsOf zs) (h : ∃ p ∈ rs, p.2 = z) : 0 < cntA zs (pick zs rs) z := by
  obtain ⟨p, hp, rfl⟩ := h
  have m := sub p hp
  exact List.length_pos_iff_exists_mem.mpr ⟨p.1, List.mem_filter.mpr ⟨(pairsOf_mem m).1, decide_eq_true (pick_mem.mpr ⟨m, hp⟩)⟩⟩
end L2

set_option Elab.async false
set_option linter.all false
set_option maxRecDepth 100000
set_option maxHeartbeats 4000000
/-! Rules made of plans; what does not go with the other parts. -/
namespace L2
open PySem PySem.Spec PyProof.Rows
def spMadeA (C CR : Addr) : Sp := fun vs H Q _ => ∃ (g : Addr) (R : RuleD), vs = [.ref g] ∧ PlanOf H g R ∧ R.Ok ∧ WordsA R.zs ∧ 1 ≤ R.m ∧ R.m ≤ 10 ∧ ∀ H' x, Same H H' → H x = none → RuleOf H' CR C x R → Q (.ref x) H'
theorem readers_nd {rs : List Pr} {z : Str} (nd : rs.Nodup) : (readersOf rs z).Nodup := by
  unfold readersOf
  have key : ∀ l : List Pr, l.Nodup → (∀ p ∈ l, p.2 = z) → (l.map (·.1)).Nodup := fun l => by
    induction l with
    | nil => exact fun _ _ => List.nodup_nil
    | cons p l ih =>
      intro nd h
      rw [List.nodup_cons] at nd
      rw [List.map_cons, List.nodup_cons]
      refine ⟨fun c => ?_, ih nd.2 fun q hq => h q (List.mem_cons_of_mem _ hq)⟩
      obtain ⟨q, hq, e⟩ := List.mem_map.mp c
      have e2 : q = p := Prod.ext e (by rw [h q (List.mem_cons_of_mem _ hq), h p List.mem_cons_self])
      exact nd.1 (e2 ▸ hq)
  exact key _ (nd.sublist List.filter_sublist) fun p hp => of_decide_eq_true (List.mem_filter.mp hp).2
theorem cntA_eq {zs : List Str} {rs : List Pr} {z : Str} (nd : zs.Nodup) (sub : rs.Sublist (pairsOf zs)) : cntA zs rs z = (readersOf rs z).length := by
  refine Nat.le_antisymm (cntA_le nd) (Km.nodup_le (readers_nd ((pairs_nodup nd).sublist sub)) fun o ho => ?_)
  unfold readersOf at ho
  obtain ⟨p, hp, rfl⟩ := List.mem_map.mp ho
  obtain ⟨h1, h2⟩ := List.mem_filter.mp hp
  have e : p.2 = z := of_decide_eq_true h2
  refine List.mem_filter.mpr ⟨(pairsOf_mem (sub.subset h1)).1, decide_eq_true ?_⟩
  rw [← e]
  exact h1
/-- the first part that does not go with the others -/
def wrongA (R : RuleD) : Option Str := if R.turn ≠ "plain" ∧ R.gather ∉ gathersT then some "gather" else if decide (R.gather = "trim") ≠ decide (0 < R.trim) then some "trim" else if shortB R.reads R.lists R.trim = true then some "lists" else none
def optV : Option Str → V
  | none => .non
  | some z => .str z
/-- a rule as parts that need not go together -/
structure RuleD.Loose (R : RuleD) : Prop where
  words : WordsA R.zs
  turn : R.turn ∈ turns
  gather : R.gather ∈ gathers
  t0 : 0 ≤ R.trim
  t3 : R.trim ≤ 3
  prizes : markB 0 8 (.int R.prizes) = true
  reads : R.reads.Sublist (pairsOf R.zs)
  lists : Straight R.zs R.lists
theorem RuleD.Ok.loose {R : RuleD} (ok : R.Ok) (w : WordsA R.zs) (t0 : 0 ≤ R.trim) (t3 : R.trim ≤ 3) : R.Loose := by
  refine ⟨w, of_decide_eq_true ok.turn, ?_, t0, t3, ok.prizes, ok.reads, ok.lists⟩
  have h : (decide (R.gather ∈ gathers) && (decide (R.turn = "plain") || decide (R.gather ∈ gathersT))) = true := ok.gather
  rw [Bool.and_eq_true] at h
  exact of_decide_eq_true h.1
theorem loose_gather {R : RuleD} (h : R.Loose) : gatherB R.turn (.str R.gather) = !decide (R.turn ≠ "plain" ∧ R.gather ∉ gathersT) := by
  show (decide (R.gather ∈ gathers) && (decide (R.turn = "plain") || decide (R.gather ∈ gathersT))) = _
  rw [decide_eq_true h.gather, Bool.true_and]
  by_cases c1 : R.turn = "plain"
  · simp [c1]
  · by_cases c2 : R.gather ∈ gathersT
    · simp [c1, c2]
    · simp [c1, c2]
theorem loose_trim {R : RuleD} (h : R.Loose) : trimB R.gather (.int R.trim) = decide (decide (R.gather = "trim") = decide (0 < R.trim)) := by
  have h0 := h.t0
  have h3 := h.t3
  unfold trimB
  by_cases c : R.gather = "trim"
  · rw [if_pos c, decide_eq_true c]
    show (decide (1 ≤ R.trim) && decide (R.trim ≤ 3)) = _
    rw [decide_eq_true h3, Bool.and_true]
    by_cases c2 : 0 < R.trim
    · rw [decide_eq_true c2, decide_eq_true (show 1 ≤ R.trim by omega)]
      rfl
    · rw [decide_eq_false c2, decide_eq_false (show ¬ 1 ≤ R.trim by omega)]
      rfl
  · rw [if_neg c, decide_eq_false c]
    by_cases c2 : 0 < R.trim
    · rw [decide_eq_true c2, decide_eq_false (fun e => by have := V.int.inj e; omega)]
      rfl
    · rw [decide_eq_false c2, decide_eq_true (show V.int R.trim = .int 0 by rw [show R.trim = 0 by omega])]
      rfl
theorem wrongA_first {R : RuleD} (h : R.Loose) : firstWrong (turnB (.str R.turn)) true (gatherB R.turn (.str R.gather)) (trimB R.gather (.int R.trim)) true (shortB R.reads R.lists R.trim) (markB 0 8 (.int R.prizes)) = wrongA R := by
  rw [loose_gather h, loose_trim h, h.prizes, show turnB (.str R.turn) = true from decide_eq_true h.turn]
  unfold firstWrong wrongA
  by_cases c1 : R.turn ≠ "plain" ∧ R.gather ∉ gathersT
  · rw [if_pos c1, decide_eq_true c1]
    rfl
  · rw [if_neg c1, decide_eq_false c1]
    generalize decide (R.gather = "trim") = x
    generalize decide (0 < R.trim) = y
    cases x <;> cases y <;> cases shortB R.reads R.lists R.trim <;> rfl
theorem loose_ok {R : RuleD} (h : R.Loose) (e : wrongA R = none) : R.Ok := by
  have w := wrongA_first h
  rw [e] at w
  have h1 : turnB (.str R.turn) = true := decide_eq_true h.turn
  rw [h1, h.prizes] at w
  unfold firstWrong at w
  have h2 : gatherB R.turn (.str R.gather) = true := by
    cases q : gatherB R.turn (.str R.gather) with
    | true => rfl
    | false => rw [q] at w; cases w
  rw [h2] at w
  have h3 : trimB R.gather (.int R.trim) = true := by
    cases q : trimB R.gather (.int R.trim) with
    | true => rfl
    | false => rw [q] at w; cases w
  rw [h3] at w
  have h4 : shortB R.reads R.lists R.trim = false := by
    cases q : shortB R.reads R.lists R.trim with
    | false => rfl
    | true => rw [q] at w; cases w
  exact ⟨h.words.folk, h1, h2, h3, h.prizes, h.reads, h.lists, h4⟩
def spFirstWrong : Sp := fun vs H Q _ => ∃ (g : Addr) (R : RuleD), vs = [.ref g] ∧ PlanOf H g R ∧ R.Loose ∧ ∀ H2, Same H H2 → Q (optV (wrongA R)) H2
/-- which parts are given -/
structure Gv where
  t : Bool
  r : Bool
  l : Bool
  g : Bool
  m : Bool
  p : Bool
def RuleD.mix (R S : RuleD) (b : Gv) : RuleD := ⟨R.zs, R.m, if b.t then S.turn else R.turn, if b.g then S.gather else R.gather, if b.m then S.trim else R.trim, if b.p then S.prizes else R.prizes, if b.r then S.reads else R.reads, if b.l then S.lists else R.lists⟩
theorem mix_loose {R S : RuleD} {b : Gv} (hR : R.Loose) (hS : S.Loose) (e : S.zs = R.zs) : (R.mix S b).Loose := by
  obtain ⟨bt, br, bl, bg, bm, bp⟩ := b
  refine ⟨hR.words, ?_, ?_, ?_, ?_, ?_, ?_, ?_⟩
  · show (if bt then S.turn else R.turn) ∈ turns
    cases bt
    · exact hR.turn
    · exact hS.turn
  · show (if bg then S.gather else R.gather) ∈ gathers
    cases bg
    · exact hR.gather
    · exact hS.gather
  · show 0 ≤ (if bm then S.trim else R.trim)
    cases bm
    · exact hR.t0
    · exact hS.t0
  · show (if bm then S.trim else R.trim) ≤ 3
    cases bm
    · exact hR.t3
    · exact hS.t3
  · show markB 0 8 (.int (if bp then S.prizes else R.prizes)) = true
    cases bp
    · exact hR.prizes
    · exact hS.prizes
  · show (if br then S.reads else R.reads).Sublist (pairsOf R.zs)
    cases br
    · exact hR.reads
    · exact e ▸ hS.reads
  · show Straight R.zs (if bl then S.lists else R.lists)
    cases bl
    · exact hR.lists
    · exact e ▸ hS.lists
structure PartsD (H : Hp) (d l r : Addr) (us : List Addr) (ys : List V) (S : RuleD) (b : Gv) : Prop where
  ob : ∃ kvs, H d = some (.dK kvs) ∧ valV kvs (.inr "turn") = (if b.t then some (.str S.turn) else none) ∧ valV kvs (.inr "reads") = (if b.r then some (.ref r) else none) ∧ valV kvs (.inr "lists") = (if b.l then some (.ref l) else none) ∧ valV kvs (.inr "gather") = (if b.g then some (.str S.gather) else none) ∧ valV kvs (.inr "trim") = (if b.m then some (.int S.trim) else none) ∧ valV kvs (.inr "prizes") = (if b.p then some (.int S.prizes) else none)
  ls : H l = some (.lst (us.map V.ref))
  rows : Rows H us S.lists
  rd : H r = some (.lst ys)
  tps : Tps H ys S.reads
theorem PartsD.same {H H2 : Hp} {d l r : Addr} {us : List Addr} {ys : List V} {S : RuleD} {b : Gv} (s : Same H H2) (h : PartsD H d l r us ys S b) : PartsD H2 d l r us ys S b := by
  obtain ⟨kvs, h1, h2⟩ := h.ob
  exact ⟨⟨kvs, s _ _ h1, h2⟩, s _ _ h.ls, h.rows.same s, s _ _ h.rd, h.tps.same s⟩
def spChangedA (C CR : Addr) : Sp := fun vs H Q _ => ∃ (x d l r : Addr) (us : List Addr) (ys : List V) (R S : RuleD) (b : Gv), vs = [.ref x, .ref d] ∧ RuleOf H CR C x R ∧ R.Ok ∧ R.Loose ∧ PartsD H d l r us ys S b ∧ S.Loose ∧ S.zs = R.zs ∧
  (∀ z, wrongA (R.mix S b) = some z → ∀ H2, Same H H2 → Q (.str z) H2) ∧ (wrongA (R.mix S b) = none → ∀ H2 y, Same H H2 → H y = none → RuleOf H2 CR C y (R.mix S b) → Q (.ref y) H2)
/-- renamed, one for one -/
theorem straight_map {zs : List Str} {ls : List (List Str)} (s : Straight zs ls) {f : Str → Str} (inj : ∀ a ∈ zs, ∀ b ∈ zs, f a = f b → a = b) : Straight (zs.map f) (ls.map fun l => l.map f) where
  parts := by
    have fl : (ls.map fun l => l.map f).flatten = ls.flatten.map f := by rw [List.map_flatten]
    refine ⟨fun l hl => ?_, fun l hl p hp => ?_, ?_, ?_⟩
    · obtain ⟨k, hk, rfl⟩ := List.mem_map.mp hl
      intro e
      exact s.parts.ne k hk (List.map_eq_nil_iff.mp e)
    · obtain ⟨k, hk, rfl⟩ := List.mem_map.mp hl
      obtain ⟨q, hq, rfl⟩ := List.mem_map.mp hp
      exact List.mem_map.mpr ⟨q, s.parts.mem k hk q hq, rfl⟩
    · rw [fl]
      have mem : ∀ z ∈ ls.flatten, z ∈ zs := fun z hz => by
        obtain ⟨l, hl, hz⟩ := List.mem_flatten.mp hz
        exact s.parts.mem l hl z hz
      have key : ∀ l : List Str, (∀ z ∈ l, z ∈ zs) → l.Nodup → (l.map f).Nodup := fun l => by
        induction l with
        | nil => exact fun _ _ => List.nodup_nil
        | cons a l ih =>
          intro hm nd
          rw [List.nodup_cons] at nd
          rw [List.map_cons, List.nodup_cons]
          refine ⟨fun c => ?_, ih (fun z hz => hm z (List.mem_cons_of_mem _ hz)) nd.2⟩
          obtain ⟨b, hb, e⟩ := List.mem_map.mp c
          exact nd.1 (inj b (hm b (List.mem_cons_of_mem _ hb)) a (hm a List.mem_cons_self) e ▸ hb)
      exact key _ mem s.parts.nd
    · rw [fl, List.length_map, List.length_map, s.parts.len]
  sub := fun l hl => by
    obtain ⟨k, hk, rfl⟩ := List.mem_map.mp hl
    exact (s.sub k hk).map f
  heads := by
    have e : ((ls.map fun l => l.map f).map fun l => l.headD Str.empty) = (ls.map fun l => l.headD Str.empty).map f := by
      rw [List.map_map, List.map_map]
      refine List.map_congr_left fun l hl => ?_
      cases l with
      | nil => exact absurd rfl (s.parts.ne _ hl)
      | cons a b => rfl
    rw [e]
    exact s.heads.map f
/-- renamed by place -/
def ren : List Str → List Str → Str → Str
  | a :: s, b :: t, z => if z = a then b else ren s t z
  | _, _, z => z
theorem ren_val : ∀ {s t : List Str} {z : Str}, s.length = t.length → z ∈ s → valV ((s.map (Sum.inr : Str → Key)).zip (t.map V.str)) (.inr z) = some (.str (ren s t z))
  | [], _, _, _, h => by cases h
  | _ :: _, [], _, h, _ => by cases h
  | a :: s, b :: t, z, h, hz => by
    by_cases e : z = a
    · subst e
      rw [List.map_cons, List.map_cons, List.zip_cons_cons, valV_pos rfl]
      show _ = some (V.str (if z = z then b else ren s t z))
      rw [if_pos rfl]
    · rw [List.map_cons, List.map_cons, List.zip_cons_cons, valV_neg (fun q => e (Sum.inr.inj q).symm)]
      show _ = some (V.str (if z = a then b else ren s t z))
      rw [if_neg e]
      exact ren_val (Nat.succ.inj h) ((List.mem_cons.mp hz).resolve_left e)
theorem ren_map : ∀ {s t : List Str}, s.length = t.length → s.Nodup → s.map (ren s t) = t
  | [], [], _, _ => rfl
  | [], _ :: _, h, _ => by cases h
  | _ :: _, [], h, _ => by cases h
  | a :: s, b :: t, h, nd => by
    rw [List.nodup_cons] at nd
    rw [List.map_cons]
    show (if a = a then b else ren s t a) :: _ = _
    rw [if_pos rfl]
    congr 1
    have : s.map (ren (a :: s) (b :: t)) = s.map (ren s t) := List.map_congr_left fun z hz => by
      show (if z = a then b else ren s t z) = _
      rw [if_neg (fun e : z = a => nd.1 (e ▸ hz))]
    rw [this]
    exact ren_map (Nat.succ.inj h) nd.2
theorem inj_of_map {f : Str → Str} : ∀ {l : List Str}, (l.map f).Nodup → ∀ a ∈ l, ∀ b ∈ l, f a = f b → a = b
  | [], _, a, h, _, _, _ => by cases h
  | x :: l, nd, a, ha, b, hb, e => by
    rw [List.map_cons, List.nodup_cons] at nd
    rcases List.mem_cons.mp ha with h1 | h1
    · rcases List.mem_cons.mp hb with h2 | h2
      · rw [h1, h2]
      · exact absurd (List.mem_map.mpr ⟨b, h2, by rw [← e, h1]⟩) nd.1
    · rcases List.mem_cons.mp hb with h2 | h2
      · exact absurd (List.mem_map.mpr ⟨a, h1, by rw [e, h2]⟩) nd.1
      · exact inj_of_map nd.2 a h1 b h2 e
end L2

set_option Elab.async false
set_option linter.all false
set_option maxRecDepth 100000
set_option maxHeartbeats 4000000
/-! sum(..) of a list or a tuple of ints. -/
namespace L2
open PySem PySem.Spec PyProof.Rows
def rSumA (K : PySem.W.Frag) : List V → Hp → VK → Prop := fun vs H Q => ∃ (a : Addr) (ns : List Int), vs = [V.ref a] ∧ SqA K H a (ns.map V.int) ∧ Q (.int ns.sum) H
theorem cr_sumA {X : Cx} (hc : X.calm = true) : CallR X (.builtin "sum") (rSumA X.K) := by
  intro pins s σ H vs us Q I r h
  obtain ⟨a, ns, rfl, hs, q⟩ := h
  rcases hs with hs | hs
  · exact cr_sum hc pins s σ H _ us Q I r ⟨a, ns, rfl, hs, q⟩
  · obtain ⟨its, rv, hl, _⟩ := I.tuple hs
    rw [Vals.ref1 r]
    have hi := rv.ints
    obtain ⟨xs, e⟩ := hi.allInts.items
    have hn : numsOf (intItems xs).toList = ns := by rw [← e]; exact hi.numsOf
    rw [nums_intItems] at hn
    have ht : s.heap.IsTuple a its.toArray := hl
    rw [e] at ht
    refine PySem.W.ktm_sumG (I.ok.hd hc) ht fun h' tk t' hk => ?_
    rw [preSum_eq, List.take_of_length_le (by simp), hn]
    exact ⟨.int _, H, I.kept hk, ⟨_, rfl⟩, q⟩
end L2

set_option Elab.async false
set_option linter.all false
set_option maxRecDepth 100000
set_option maxHeartbeats 4000000
/-! What cost and least_lists refuse. -/
namespace L2
open PySem PySem.Spec PyProof.Rows
/-- what is given for sizes: its items, where it is a list or a tuple -/
inductive SizesArg (K : PySem.W.Frag) (H : Hp) : V → Option (List V) → Prop where
  | no {v : V} {T : String} (t : TyN K H v T) (h1 : T ≠ "list") (h2 : T ≠ "tuple") : SizesArg K H v none
  | seq {a : Addr} {xs : List V} (e : HSeq H a xs) (hl : xs.length ≤ 100) (h : ∀ x ∈ xs, ∃ T, TyN K H x T) : SizesArg K H (.ref a) (some xs)
theorem SizesArg.same {K : PySem.W.Frag} {H H2 : Hp} {v : V} {o : Option (List V)} (s : Same H H2) (h : SizesArg K H v o) : SizesArg K H2 v o := by
  cases h with
  | no t h1 h2 => exact .no (t.same s) h1 h2
  | seq e hl h => exact .seq (e.same s) hl fun x hx => (h x hx).elim fun T t => ⟨T, t.same s⟩
def posInt : V → Bool
  | .int i => decide (1 ≤ i)
  | _ => false
def intOf : V → Int
  | .int i => i
  | _ => 0
def sizesB (n : Nat) : Option (List V) → Bool
  | none => false
  | some xs => xs.all posInt && decide ((xs.map intOf).sum = (n : Int))
def spAreSizes (K : PySem.W.Frag) (C : Addr) : Sp := fun vs H Q _ => ∃ (c : Addr) (v : V) (zs : List Str) (m : Int) (o : Option (List V)), vs = [.ref c, v] ∧ CrowdOf H C c zs m ∧ zs.length ≤ 8 ∧ SizesArg K H v o ∧ ∀ H2, Same H H2 → Q (.bl (sizesB zs.length o)) H2
def spCostO (K : PySem.W.Frag) (C CR CB : Addr) : Sp := fun vs H Q E => ∃ (x : Addr) (v : V) (R : RuleD) (o : Option (List (Option (List V)))), vs = [.ref x, v] ∧ RuleOf H CR C x R ∧ R.Ok ∧ R.turn = "plain" ∧ v ≠ .non ∧ ListsArg K H v o ∧
  (argB R.zs o = false → ∀ H' d, Raised H H' d "part" (.str "lists") → E (.ref CB) (some d) H') ∧
  (argB R.zs o = true → ∃ a ls, v = .ref a ∧ LL H a ls ∧ ls.length ≤ 10 ∧ ∀ H2, Same H H2 → Q (.int (within R.reads ls).length) H2)
def spLeastBad (K : PySem.W.Frag) (C CR CA : Addr) : Sp := fun vs H _ E => ∃ (x : Addr) (v : V) (R : RuleD) (o : Option (List V)), vs = [.ref x, v] ∧ RuleOf H CR C x R ∧ R.Ok ∧ R.turn = "plain" ∧ SizesArg K H v o ∧ sizesB R.zs.length o = false ∧
  ∀ H' d, Raised H H' d "value" v → E (.ref CA) (some d) H'
/-- repr(x), data without dicts or one dict of whole numbers -/
def rReprDd (K : PySem.W.Frag) : List V → Hp → VK → Prop := fun xs H Q => ∃ (x : V) (d : PyData), xs = [x] ∧ Dd K H x d ∧ d.showable = true ∧ d.depth ≤ 100 ∧ d.shown.length ≤ sizeLine ∧ Q (.str d.shown) H
theorem call_reprDd {X : Cx} (hg : X.A.guards = some []) (hu : X.A.units + 200 < cLine) : CallR X (.builtin "repr") (rReprDd X.K) := by
  intro pins s σ H xs us Q I r h
  obtain ⟨x, d, rfl, D, sh, dep, hz, q⟩ := h
  rcases id D with ⟨D1, nd⟩ | ⟨b, kvs, rfl, e, rfl⟩
  · exact call_reprD hg hu pins s σ H _ us Q I r ⟨x, d, rfl, D1, nd, sh, dep, hz, q⟩
  · obtain ⟨u, rfl, ru⟩ := vals1 r
    obtain ⟨as, ra, ns⟩ := D.reads I ru
    cases ru
    exact repr_of_reads' ra sh ns hg (by omega) (fun _ _ z => z) (fun h2 t tk k => ⟨.str _, H, I.kept (t' := tk) k, ⟨_, rfl⟩, q⟩) hz
def spRefusedC (K : PySem.W.Frag) (C CR : Addr) : Sp := fun vs H Q _ => ∃ (x : Addr) (v : V) (R : RuleD) (o : Option (List (Option (List V)))), vs = [.ref x, v] ∧ RuleOf H CR C x R ∧ R.Ok ∧ R.turn = "plain" ∧ v ≠ .non ∧ ListsArg K H v o ∧ argB R.zs o = false ∧ ∀ H2, Same H H2 → Q (.bl true) H2
def spNoSizes (K : PySem.W.Frag) (C CR : Addr) : Sp := fun vs H Q _ => ∃ (x : Addr) (v : V) (R : RuleD) (o : Option (List V)) (d : PyData), vs = [.ref x, v] ∧ RuleOf H CR C x R ∧ R.Ok ∧ R.turn = "plain" ∧ SizesArg K H v o ∧ sizesB R.zs.length o = false ∧ (∀ H2, Same H H2 → Dd K H2 v d) ∧ d.showable = true ∧ d.depth ≤ 100 ∧ d.shown.length ≤ sizeLine ∧ ∀ H2, Same H H2 → Q (.bl true) H2
/-- a rule's people, reads and lists, whoever lacks readers -/
structure RuleD.Fit (R : RuleD) : Prop where
  folk : Folk R.zs
  reads : R.reads.Sublist (pairsOf R.zs)
  lists : Straight R.zs R.lists
theorem RuleD.Ok.fit {R : RuleD} (o : R.Ok) : R.Fit := ⟨o.folk, o.reads, o.lists⟩
theorem RuleD.Fit.few {R : RuleD} (o : R.Fit) : R.zs.length ≤ 8 ∧ R.lists.length ≤ 8 ∧ R.lists.flatten.length ≤ 8 ∧ R.reads.length ≤ 64 := by
  have h := o.folk.most
  refine ⟨h, ?_, by rw [o.lists.parts.len]; exact h, ?_⟩
  · have key : ∀ l : List (List Str), (∀ x ∈ l, x ≠ []) → l.length ≤ l.flatten.length := fun l => by
      induction l with
      | nil => intro _; exact Nat.le_refl _
      | cons x l ih =>
        intro h
        rw [List.flatten_cons, List.length_append, List.length_cons]
        have h1 := ih fun y hy => h y (List.mem_cons_of_mem _ hy)
        have h2 : 0 < x.length := List.length_pos_iff.mpr (h x List.mem_cons_self)
        omega
    have := key R.lists o.lists.parts.ne
    rw [o.lists.parts.len] at this
    omega
  · have h1 := o.reads.length_le
    have h2 : (pairsOf R.zs).length ≤ 64 := pairs_len h h
    omega
theorem within_listOfF {R : RuleD} (ok : R.Fit) : within R.reads R.lists = R.reads.filter fun p => decide (p.2 ∈ R.listOf p.1) :=
  List.filter_congr fun p hp => within_one ok.lists.parts ok.folk.nd (pairsOf_mem (ok.reads.subset hp)).1
def spListF : Sp := fun vs H Q _ => ∃ (g : Addr) (z : Str) (R : RuleD), vs = [.ref g, .str z] ∧ GameOf H g R ∧ R.Fit ∧ z ∈ R.zs ∧ ∀ H' u, Same H H' → H' u = some (.lst ((R.listOf z).map V.str)) → Q (.ref u) H'
def spInnerF : Sp := fun vs H Q _ => ∃ (g : Addr) (R : RuleD), vs = [.ref g] ∧ GameOf H g R ∧ R.Fit ∧ ∀ H' p ys, Same H H' → H p = none → H' p = some (.lst ys) → Tps H' ys (within R.reads R.lists) → Q (.ref p) H'
/-- what is not the pool -/
theorem PoolC.away {H : Hp} {a b : Addr} {o : HO} (P : PoolC H a) (h : H b = Option.some o) (n : ∀ (c : Addr) (i : Int), o ≠ .lst [.ref c, .int i]) : del H a b = Option.some o := L2.del_at (fun e => by
  obtain ⟨m, ns, i, h1, _⟩ := P
  rw [e, h1] at h
  exact n m i (Option.some.inj h).symm) h
theorem strs_away (zs : List Str) (c : Addr) (i : Int) : HO.lst (zs.map V.str) ≠ .lst [.ref c, .int i] := fun e => by
  have e := HO.lst.inj e
  cases zs with
  | nil => cases e
  | cons z zs => cases (List.cons.inj e).1
theorem refs_away (us : List Addr) (c : Addr) (i : Int) : HO.lst (us.map V.ref) ≠ .lst [.ref c, .int i] := fun e => by
  have e := HO.lst.inj e
  match us, e with
  | [], e => cases e
  | [_], e => cases e
  | _ :: _ :: _, e => cases (List.cons.inj (List.cons.inj e).2).1
theorem pairs_away {H : Hp} {ys : List V} {rs : List Pr} (t : Tps H ys rs) (c : Addr) (i : Int) : HO.lst ys ≠ .lst [.ref c, .int i] := fun e => by
  have e := HO.lst.inj e
  subst e
  obtain ⟨r, hr⟩ : ∃ r, rs[1]? = some r := ⟨_, List.getElem?_eq_getElem (by rw [← t.1]; show 1 < 2; decide)⟩
  obtain ⟨q, hq, _⟩ := t.2 1 (.int i) r rfl hr
  cases hq
theorem RuleOf.away {H : Hp} {CR C x a : Addr} {R : RuleD} (P : PoolC H a) (h : RuleOf H CR C x R) : RuleOf (del H a) CR C x R := by
  obtain ⟨c, r, l, d, ys, us, at'⟩ := h
  obtain ⟨⟨dx, h1⟩, ⟨dc, p, h2, h3⟩, h4, h5, h6, h7, us2, h8, h9⟩ := at'
  refine ⟨c, r, l, d, ys, us, ⟨dx, P.away h1 (fun _ _ e => nomatch e)⟩, ⟨dc, p, P.away h2 (fun _ _ e => nomatch e), P.away h3 (strs_away _)⟩, P.away h4 (pairs_away h5), ⟨h5.1, fun j y q e1 e2 => ?_⟩, P.away h6 (refs_away _), Paired.mono (fun u l e => P.away e (strs_away _)) h7, us2, P.away h8 (fun _ _ e => nomatch e), Paired.mono (fun u z e => P.away e (strs_away _)) h9⟩
  obtain ⟨t, e, h⟩ := h5.2 j y q e1 e2
  exact ⟨t, e, P.away h (fun _ _ e => nomatch e)⟩
def RuleD.withLists (R : RuleD) (ls : List (List Str)) : RuleD := { R with lists := ls }
theorem gameK_putL {w l r l2 : Addr} {R : RuleD} {ls : List (List Str)} : putK (gameK w l r R) (.inr "lists") (.ref l2) = gameK w l2 r (R.withLists ls) := rfl
def turnedC (ls : List (List Str)) : List (List Str) := ls.reverse.map List.reverse
theorem turned_within {rs : List Pr} {ls : List (List Str)} : within rs (turnedC ls) = within rs ls := by
  refine List.filter_congr fun p _ => ?_
  unfold turnedC
  rw [List.any_map, List.any_reverse]
  congr 1
  funext l
  show (decide (p.1 ∈ l.reverse) && decide (p.2 ∈ l.reverse)) = _
  rw [decide_eq_decide.mpr List.mem_reverse, decide_eq_decide.mpr List.mem_reverse]
theorem turned_flat (ls : List (List Str)) : (turnedC ls).flatten = ls.flatten.reverse := by
  unfold turnedC
  induction ls with
  | nil => rfl
  | cons l ls ih => rw [List.reverse_cons, List.map_append, List.flatten_append, ih, List.flatten_cons, List.reverse_append]; simp
theorem turned_parts {zs : List Str} {ls : List (List Str)} (h : Parts zs ls) : Parts zs (turnedC ls) where
  ne := fun l hl => by
    obtain ⟨k, hk, rfl⟩ := List.mem_map.mp hl
    exact fun e => h.ne k (List.mem_reverse.mp hk) (List.reverse_eq_nil_iff.mp e)
  mem := fun l hl p hp => by
    obtain ⟨k, hk, rfl⟩ := List.mem_map.mp hl
    exact h.mem k (List.mem_reverse.mp hk) p (List.mem_reverse.mp hp)
  nd := by
    rw [turned_flat]
    exact (List.reverse_perm _).nodup_iff.mpr h.nd
  len := by
    rw [turned_flat, List.length_reverse]
    exact h.len
theorem del_some {H : Hp} {a b : Addr} {o : HO} (h : del H a b = some o) : b ≠ a := fun e => by
  rw [e, del_same] at h
  cases h
theorem paired_appC {α β : Type} {F : α → β → Prop} : ∀ {as cs : List α} {bs ds : List β}, Paired F as bs → Paired F cs ds → Paired F (as ++ cs) (bs ++ ds)
  | _, _, _, _, .nil, h => h
  | _, _, _, _, .cons r t, h => .cons r (paired_appC t h)
theorem paired_revC {α β : Type} {F : α → β → Prop} : ∀ {as : List α} {bs : List β}, Paired F as bs → Paired F as.reverse bs.reverse
  | _, _, .nil => .nil
  | _, _, .cons r t => by
    rw [List.reverse_cons, List.reverse_cons]
    exact paired_appC (paired_revC t) (.cons r .nil)
theorem paired_mapRC {α β γ : Type} {F : α → β → Prop} {F' : α → γ → Prop} {f : β → γ} (m : ∀ a b, F a b → F' a (f b)) : ∀ {as : List α} {bs : List β}, Paired F as bs → Paired F' as (bs.map f)
  | _, _, .nil => .nil
  | _, _, .cons r t => .cons (m _ _ r) (paired_mapRC m t)
end L2

set_option Elab.async false
set_option linter.all false
set_option maxRecDepth 100000
set_option maxHeartbeats 4000000
/-! Parts of a plan, drawn; rules apart from the pool. -/
namespace L2
open PySem PySem.Spec PyProof.Rows
theorem Pool.away {H : Hp} {a b : Addr} {o : HO} (P : Pool H a) (h : H b = Option.some o) (n : ∀ (c i : Int), o ≠ .lst [.int c, .int i]) : del H a b = Option.some o := L2.del_at (fun e => by
  obtain ⟨m, i, h1, _⟩ := P
  rw [e, h1] at h
  exact n m i (Option.some.inj h).symm) h
theorem strs_awayA (zs : List Str) (c i : Int) : HO.lst (zs.map V.str) ≠ .lst [.int c, .int i] := fun e => by
  have e := HO.lst.inj e
  cases zs with
  | nil => cases e
  | cons z zs => cases (List.cons.inj e).1
theorem refs_awayA (us : List Addr) (c i : Int) : HO.lst (us.map V.ref) ≠ .lst [.int c, .int i] := fun e => by
  have e := HO.lst.inj e
  cases us with
  | nil => cases e
  | cons z zs => cases (List.cons.inj e).1
theorem pairs_awayA {H : Hp} {ys : List V} {rs : List Pr} (t : Tps H ys rs) (c i : Int) : HO.lst ys ≠ .lst [.int c, .int i] := fun e => by
  have e := HO.lst.inj e
  subst e
  obtain ⟨r, hr⟩ : ∃ r, rs[1]? = some r := ⟨_, List.getElem?_eq_getElem (by rw [← t.1]; show 1 < 2; decide)⟩
  obtain ⟨q, hq, _⟩ := t.2 1 (.int i) r rfl hr
  cases hq
theorem RuleOf.awayA {H : Hp} {CR C x a : Addr} {R : RuleD} (P : Pool H a) (h : RuleOf H CR C x R) : RuleOf (del H a) CR C x R := by
  obtain ⟨c, r, l, d, ys, us, at'⟩ := h
  obtain ⟨⟨dx, h1⟩, ⟨dc, p, h2, h3⟩, h4, h5, h6, h7, us2, h8, h9⟩ := at'
  refine ⟨c, r, l, d, ys, us, ⟨dx, P.away h1 (fun _ _ e => nomatch e)⟩, ⟨dc, p, P.away h2 (fun _ _ e => nomatch e), P.away h3 (strs_awayA _)⟩, P.away h4 (pairs_awayA h5), ⟨h5.1, fun j y q e1 e2 => ?_⟩, P.away h6 (refs_awayA _), Paired.mono (fun u l e => P.away e (strs_awayA _)) h7, us2, P.away h8 (fun _ _ e => nomatch e), Paired.mono (fun u z e => P.away e (strs_awayA _)) h9⟩
  obtain ⟨t, e, h⟩ := h5.2 j y q e1 e2
  exact ⟨t, e, P.away h (fun _ _ e => nomatch e)⟩
theorem del_upd_self {G : Hp} {g : Addr} {o : HO} : del (upd G g o) g = del G g := by
  funext b
  by_cases e : b = g
  · subst e
    rw [del_same, del_same]
  · rw [del_ne e, del_ne e, upd_ne e]
def kept {α : Type} : List α → List Bool → List α
  | a :: as, b :: bs => if b then a :: kept as bs else kept as bs
  | _, _ => []
theorem kept_snoc {α : Type} : ∀ {as : List α} {bs : List Bool} {a : α} {b : Bool}, as[bs.length]? = some a → kept as (bs ++ [b]) = kept as bs ++ (if b then [a] else [])
  | [], _, _, _, h => by simp at h
  | x :: as, [], a, b, h => by
    have e : x = a := by simpa using h
    subst e
    cases b <;> cases as <;> rfl
  | x :: as, c :: bs, a, b, h => by
    have ih := kept_snoc (as := as) (bs := bs) (a := a) (b := b) (by simpa using h)
    cases c
    · show kept as (bs ++ [b]) = kept as bs ++ _
      exact ih
    · show x :: kept as (bs ++ [b]) = x :: kept as bs ++ _
      rw [ih]
      rfl
theorem kept_sub {α : Type} : ∀ (as : List α) (bs : List Bool), (kept as bs).Sublist as
  | [], bs => by cases bs <;> exact List.nil_sublist _
  | _ :: _, [] => List.nil_sublist _
  | a :: as, b :: bs => by
    cases b
    · exact (kept_sub as bs).cons a
    · exact (kept_sub as bs).cons_cons a
theorem valV_out {κ : Type} [DecidableEq κ] : ∀ {kvs : List (κ × V)} {k : κ}, k ∉ kvs.map (·.1) → valV kvs k = none
  | [], _, _ => rfl
  | p :: r, k, h => by
    rw [List.map_cons, List.mem_cons] at h
    rw [valV_neg (fun e => h (.inl e.symm))]
    exact valV_out fun m => h (.inr m)
theorem kept_val {κ : Type} [DecidableEq κ] : ∀ {as : List (κ × V)} {bs : List Bool} {i : Nat} {k : κ} {v : V} {b : Bool}, (as.map (·.1)).Nodup → as[i]? = some (k, v) → bs[i]? = some b → valV (kept as bs) k = if b then some v else none
  | [], _, _, _, _, _, _, h, _ => by simp at h
  | _ :: _, [], _, _, _, _, _, _, h => by simp at h
  | p :: as, c :: bs, 0, k, v, b, nd, h1, h2 => by
    have e1 : p = (k, v) := by simpa using h1
    have e2 : c = b := by simpa using h2
    subst e1 e2
    rw [List.map_cons, List.nodup_cons] at nd
    cases c
    · show valV (kept as bs) k = none
      exact valV_out fun m => nd.1 (((kept_sub as bs).map (fun q : κ × V => q.1)).subset m)
    · show valV ((k, v) :: kept as bs) k = some v
      rw [valV_pos rfl]
  | p :: as, c :: bs, i + 1, k, v, b, nd, h1, h2 => by
    rw [List.map_cons, List.nodup_cons] at nd
    have ih := kept_val (as := as) (bs := bs) (i := i) (k := k) (v := v) (b := b) nd.2 (by simpa using h1) (by simpa using h2)
    have ne : p.1 ≠ k := fun e => nd.1 (by rw [e]; exact List.mem_map.mpr ⟨(k, v), List.mem_of_getElem? (by simpa using h1), rfl⟩)
    cases c
    · exact ih
    · show valV (p :: kept as bs) k = _
      rw [valV_neg ne]
      exact ih
/-- the sixP parts by name -/
def sixP (t : Str) (r : Addr) (g : Str) (m : Int) (l : Addr) (p : Int) : List (Key × V) := [(.inr "turn", .str t), (.inr "reads", .ref r), (.inr "gather", .str g), (.inr "trim", .int m), (.inr "lists", .ref l), (.inr "prizes", .int p)]
theorem sixP_nd {t : Str} {r : Addr} {g : Str} {m : Int} {l : Addr} {p : Int} : ((sixP t r g m l p).map (·.1)).Nodup := by
  show ([Sum.inr "turn", Sum.inr "reads", Sum.inr "gather", Sum.inr "trim", Sum.inr "lists", Sum.inr "prizes"] : List Key).Nodup
  decide +kernel
theorem getD_str {b : Bool} {x y : Str} : (if b then some (.str x) else none : Option V).getD (.str y) = .str (if b then x else y) := by cases b <;> rfl
theorem getD_int {b : Bool} {x y : Int} : (if b then some (.int x) else none : Option V).getD (.int y) = .int (if b then x else y) := by cases b <;> rfl
theorem getD_ref {b : Bool} {x y : Addr} : (if b then some (.ref x) else none : Option V).getD (.ref y) = .ref (if b then x else y) := by cases b <;> rfl
theorem planT_nd {w : Addr} {m : Int} {t : Str} {tr : Int} {l r : Addr} {ga : Str} {pr : Int} : ((planT w m t tr l r ga pr).map (·.1)).Nodup := by
  show ([Sum.inr "people", Sum.inr "most", Sum.inr "turn", Sum.inr "trim", Sum.inr "lists", Sum.inr "reads", Sum.inr "gather", Sum.inr "prizes"] : List Key).Nodup
  decide +kernel
/-- what is due: the drawn parts of the one, the others of the other -/
theorem due_parts {w l r l2 r2 : Addr} {R S : RuleD} {b1 b2 b3 b4 b5 b6 : Bool} :
    ((planAK w l r R).map fun kv => (kv.1, (valV (kept (sixP S.turn r2 S.gather S.trim l2 S.prizes) [b1, b2, b3, b4, b5, b6]) kv.1).getD kv.2)) = planAK w (if b5 then l2 else l) (if b2 then r2 else r) (R.mix S ⟨b1, b2, b5, b3, b4, b6⟩) := by
  have nd := sixP_nd (t := S.turn) (r := r2) (g := S.gather) (m := S.trim) (l := l2) (p := S.prizes)
  have k1 := kept_val (bs := [b1, b2, b3, b4, b5, b6]) (i := 0) (b := b1) nd rfl rfl
  have k2 := kept_val (bs := [b1, b2, b3, b4, b5, b6]) (i := 1) (b := b2) nd rfl rfl
  have k3 := kept_val (bs := [b1, b2, b3, b4, b5, b6]) (i := 2) (b := b3) nd rfl rfl
  have k4 := kept_val (bs := [b1, b2, b3, b4, b5, b6]) (i := 3) (b := b4) nd rfl rfl
  have k5 := kept_val (bs := [b1, b2, b3, b4, b5, b6]) (i := 4) (b := b5) nd rfl rfl
  have k6 := kept_val (bs := [b1, b2, b3, b4, b5, b6]) (i := 5) (b := b6) nd rfl rfl
  have out : ∀ k : Key, k ∉ ([Sum.inr "turn", Sum.inr "reads", Sum.inr "gather", Sum.inr "trim", Sum.inr "lists", Sum.inr "prizes"] : List Key) → valV (kept (sixP S.turn r2 S.gather S.trim l2 S.prizes) [b1, b2, b3, b4, b5, b6]) k = none := fun k hk => valV_out fun m => hk (((kept_sub _ _).map (fun q : Key × V => q.1)).subset m)
  have ins : ∀ z : Str, z ∉ (["turn", "reads", "gather", "trim", "lists", "prizes"] : List Str) → (Sum.inr z : Key) ∉ ([Sum.inr "turn", Sum.inr "reads", Sum.inr "gather", Sum.inr "trim", Sum.inr "lists", Sum.inr "prizes"] : List Key) := fun z hz h => by
    simp only [List.mem_cons, List.not_mem_nil, or_false] at h
    refine hz ?_
    simp only [List.mem_cons, List.not_mem_nil, or_false]
    rcases h with h | h | h | h | h | h <;> rw [Sum.inr.inj h] <;> simp
  have k7 := out (.inr "people") (ins _ (by decide +kernel))
  have k8 := out (.inr "most") (ins _ (by decide +kernel))
  show [(_, _), (_, _), (_, _), (_, _), (_, _), (_, _), (_, _), (_, _)] = _
  rw [k1, k2, k3, k4, k5, k6, k7, k8, getD_str, getD_int, getD_ref, getD_ref, getD_str, getD_int]
  rfl
end L2

set_option Elab.async false
set_option linter.all false
set_option maxRecDepth 100000
set_option maxHeartbeats 4000000
/-! What the defs about clashes promise. -/
namespace L2
open PySem PySem.Spec PyProof.Rows Km
def TriAt (H : Hp) (p : Addr) (t : Tri) : Prop := H p = some (.tup [.str t.1, .str t.2.1, .str t.2.2])
def spNeedPage (CP : Addr) : Sp := fun vs H Q _ => ∃ (x dx : Addr) (fs : List (Str × V)), vs = [.ref x] ∧ H x = some (.ins CP dx fs) ∧ Q .non H
def spNeedNum : Sp := fun vs H Q _ => ∃ (n a b : Int), vs = [.int n, .int a, .int b] ∧ a ≤ n ∧ n ≤ b ∧ Q .non H
structure PageOk (H : Hp) (C CP x : Addr) (zs : List Str) (m : Int) (f : Str × Str → V) : Prop where
  page : PageOf H C CP x zs m f
  nd : zs.Nodup
  few : zs.length ≤ 8
  mks : ∀ p ∈ pairsOf zs, mkOk m (f p) = true
theorem PageOk.same {H H2 : Hp} {C CP x : Addr} {zs : List Str} {m : Int} {f : Str × Str → V} (h : PageOk H C CP x zs m f) (s : Same H H2) : PageOk H2 C CP x zs m f := ⟨h.page.same s, h.nd, h.few, h.mks⟩
def spFound (C CP : Addr) : Sp := fun vs H Q _ => ∃ (x : Addr) (sp : Int) (zs : List Str) (m : Int) (f : Str × Str → V), vs = [.ref x, .int sp] ∧ PageOk H C CP x zs m f ∧
  ∀ H' l (ps : List Addr), Same H H' → H l = none → H' l = some (.lst (ps.map V.ref)) → Paired (TriAt H') ps (clashes zs f sp) → Q (.ref l) H'
theorem sheet_get {zs : List Str} {f : Str × Str → V} {p : Str × Str} : (valV (sheetOf zs f) (key2 p)).getD .non = mkAt zs f p := by
  unfold mkAt
  by_cases h : p ∈ pairsOf zs
  · rw [if_pos h, valV_sheet h]
    rfl
  · rw [if_neg h, valV_none (k := key2 p)]
    · rfl
    · rw [sheet_keys]
      intro hm
      obtain ⟨q, hq, e⟩ := List.mem_map.mp hm
      exact h (key2_inj e ▸ hq)
theorem mkAt_cases {zs : List Str} {m : Int} {f : Str × Str → V} (mk : ∀ p ∈ pairsOf zs, mkOk m (f p) = true) (p : Str × Str) : mkAt zs f p = .non ∨ ∃ i, mkAt zs f p = .int i := by
  unfold mkAt
  split
  · rename_i h
    have := mk p h
    cases e : f p with
    | non => exact .inl rfl
    | int i => exact .inr ⟨i, rfl⟩
    | _ => rw [e] at this; simp [mkOk, markB] at this
  · exact .inl rfl
theorem clashC_snoc {zs : List Str} {f : Str × Str → V} {sp : Int} {a b : Str} {k : Nat} {c : Str} {cs : List Str} (h : cs[k]? = some c) :
    clashC zs f sp a b (cs.take (k + 1)) = clashC zs f sp a b (cs.take k) ++ (if farV (mkAt zs f (a, c)) (mkAt zs f (b, c)) sp = true then [(a, b, c)] else []) := by
  unfold clashC
  rw [List.take_add_one, h, List.filter_append, List.map_append]
  refine congrArg _ ?_
  by_cases hf : farV (mkAt zs f (a, c)) (mkAt zs f (b, c)) sp = true
  · rw [if_pos hf]
    simp [hf]
  · rw [if_neg hf]
    simp [hf]
theorem clashB_snoc {zs : List Str} {f : Str × Str → V} {sp : Int} {a b : Str} {k : Nat} {bs : List Str} (h : bs[k]? = some b) :
    clashB zs f sp a (bs.take (k + 1)) = clashB zs f sp a (bs.take k) ++ clashC zs f sp a b zs := by
  unfold clashB
  rw [List.take_add_one, h, List.flatMap_append]
  simp
end L2
namespace L2
open PySem PySem.Spec PyProof.Rows Km
def spGoes (C CP : Addr) : Sp := fun vs H Q _ => ∃ (x v : Addr) (sp : Int) (zs ys : List Str) (m : Int) (f : Str × Str → V), vs = [.ref x, .ref v, .int sp] ∧ PageOk H C CP x zs m f ∧ ys.length ≤ 8 ∧ ys.Nodup ∧ (∀ y ∈ ys, y ∈ zs) ∧ H v = some (.lst (ys.map V.str)) ∧ 0 ≤ sp ∧ sp ≤ m ∧
  ∀ H', Same H H' → Q (.bl (togetherB (clashes zs f sp) ys)) H'
def spMore : Sp := fun vs H Q _ => ∃ (wl ll : Addr) (zs : List Str) (us : List Addr) (ls : List (List Str)), vs = [.ref wl, .ref ll] ∧ H wl = some (.lst (zs.map V.str)) ∧ zs.Nodup ∧ zs.length ≤ 8 ∧ H ll = some (.lst (us.map V.ref)) ∧ Rows H us ls ∧ (∀ l ∈ ls, l.Sublist zs) ∧ ls.length ≤ 300 ∧
  ∀ H' l' (us' : List Addr), Same H H' → H l' = none → H' l' = some (.lst (us'.map V.ref)) → Rows H' us' (moreZ zs ls) → (∀ u ∈ us', H u = none) → Q (.ref l') H'
theorem more_snoc {zs : List Str} {ls : List (List Str)} {k : Nat} {l : List Str} (h : ls[k]? = some l) : moreZ zs (ls.take (k + 1)) = moreZ zs (ls.take k) ++ (laterZ zs l).map fun p => l ++ [p] := by
  unfold moreZ
  rw [List.take_add_one, h, List.flatMap_append]
  simp
theorem later_len {zs l : List Str} : (laterZ zs l).length ≤ zs.length := by
  unfold laterZ
  cases l.getLast? with
  | none => exact Nat.le_refl _
  | some z =>
    show (afterZ zs z).length ≤ _
    unfold afterZ
    rw [List.length_drop]
    have := (List.dropWhile_sublist (fun y => decide (y ≠ z)) (l := zs)).length_le
    omega
theorem pair_get {α β : Type} {R : α → β → Prop} : ∀ {xs : List α} {ys : List β} {i : Nat} {x : α}, Paired R xs ys → xs[i]? = some x → ∃ y, ys[i]? = some y ∧ R x y
  | _, _, i, x, .nil, h => by simp at h
  | _, _, 0, x, .cons r t, h => ⟨_, rfl, by
    obtain rfl := Option.some.inj h
    exact r⟩
  | _, _, i + 1, x, .cons r t, h => by
    rw [List.getElem?_cons_succ] at h ⊢
    exact pair_get t h
theorem strs_back {a b : List Str} (h : a.map V.str = b.map V.str) : a = b := (List.map_inj_right fun _ _ e => V.str.inj e).mp h
def DuosAt (H : Hp) (ap : Addr) (ds : List (Str × Str)) : Prop := ∃ us : List Addr, H ap = some (.lst (us.map V.ref)) ∧ Paired (fun a z => H a = some (.tup [.str z.1, .str z.2])) us ds
theorem DuosAt.same {H H2 : Hp} {ap : Addr} {ds : List (Str × Str)} (s : Same H H2) (h : DuosAt H ap ds) : DuosAt H2 ap ds := by
  obtain ⟨us, h1, h2⟩ := h
  exact ⟨us, s _ _ h1, Paired.mono (fun _ _ h => s _ _ h) h2⟩
def SameDuos (ds : List (Str × Str)) (cl : List Tri) : Prop := ∀ z, z ∈ ds ↔ ∃ t ∈ cl, z = (t.1, t.2.1)
theorem cover_duos {ds : List (Str × Str)} {cl : List Tri} (h : SameDuos ds cl) (l : List Str) : (ds.all fun z => decide (z.1 ∈ l) || decide (z.2 ∈ l)) = coverB cl l := by
  refine Bool.eq_iff_iff.mpr ?_
  unfold coverB
  rw [List.all_eq_true, List.all_eq_true]
  constructor
  · exact fun q t ht => q (t.1, t.2.1) ((h _).mpr ⟨t, ht, rfl⟩)
  · intro q z hz
    obtain ⟨t, ht, rfl⟩ := (h z).mp hz
    exact q t ht
theorem duoK_inj {y z : Str × Str} (h : duoK y = duoK z) : y = z := key2_inj h
/-- the set's rows as a list of pairs -/
theorem duos_of {G : Hp} : ∀ {L : List Ent}, (∀ p ∈ L, ∃ z, p.2 = duoK z ∧ G p.1 = some (.tup [.str z.1, .str z.2])) → ∃ ds : List (Str × Str), L.map (·.2) = ds.map duoK ∧ Paired (fun a z => G a = some (.tup [.str z.1, .str z.2])) (L.map (·.1)) ds
  | [], _ => ⟨[], rfl, .nil⟩
  | p :: L, h => by
    obtain ⟨ds, h1, h2⟩ := duos_of (L := L) fun q hq => h q (List.mem_cons_of_mem _ hq)
    obtain ⟨z, e, hz⟩ := h p List.mem_cons_self
    exact ⟨z :: ds, by rw [List.map_cons, List.map_cons, h1, e], .cons hz h2⟩
/-- as many pairs at most as two out of eight people -/
theorem duos_few {zs : List Str} {L : List Ent} (z8 : zs.length ≤ 8) (nd : (L.map (·.2)).Nodup) (h : ∀ p ∈ L, ∃ z : Str × Str, p.2 = duoK z ∧ z.1 ∈ zs ∧ z.2 ∈ zs) : L.length ≤ 64 := by
  have := nodup_le (d := zs.flatMap fun a => zs.map fun b => duoK (a, b)) nd fun k hk => by
    obtain ⟨p, hp, rfl⟩ := List.mem_map.mp hk
    obtain ⟨z, e, m1, m2⟩ := h p hp
    exact List.mem_flatMap.mpr ⟨z.1, m1, List.mem_map.mpr ⟨z.2, m2, e.symm⟩⟩
  rw [List.length_map] at this
  refine Nat.le_trans this (Nat.le_trans (flat_len (m := 8) fun a _ => by rw [List.length_map]; exact z8) ?_)
  exact Nat.mul_le_mul_right 8 z8
def spLeast (C CP : Addr) : Sp := fun vs H Q _ => ∃ (x : Addr) (sp : Int) (zs : List Str) (m : Int) (f : Str × Str → V), vs = [.ref x, .int sp] ∧ PageOk H C CP x zs m f ∧
  ∀ H' l (us : List Addr) (k : Nat), Same H H' → H l = none → H' l = some (.lst (us.map V.ref)) → LeastN zs (clashes zs f sp) k → Rows H' us (enoughL zs (clashes zs f sp) k) → (∀ u ∈ us, H u = none) → Q (.ref l) H'
def spLeastOut (C CP : Addr) : Sp := fun vs H Q _ => ∃ (x : Addr) (sp : Int) (zs : List Str) (m : Int) (f : Str × Str → V), vs = [.ref x, .int sp] ∧ PageOk H C CP x zs m f ∧ 0 ≤ sp ∧ sp ≤ m ∧
  ∀ H' l (us : List Addr) (k : Nat), Same H H' → H l = none → H' l = some (.lst (us.map V.ref)) → LeastN zs (clashes zs f sp) k → Rows H' us (enoughL zs (clashes zs f sp) k) → (∀ u ∈ us, H u = none) → Q (.ref l) H'
/-- the least number of people -/
noncomputable def leastK (zs : List Str) (f : Str × Str → V) (sp : Int) : Nat := @dite _ (∃ k, LeastN zs (clashes zs f sp) k) (Classical.propDecidable _) (fun h => Classical.choose h) fun _ => 0
theorem leastK_ok {zs : List Str} {f : Str × Str → V} {sp : Int} (nd : zs.Nodup) : LeastN zs (clashes zs f sp) (leastK zs f sp) := by
  obtain ⟨k, _, h⟩ := least_there (f := f) (sp := sp) nd
  have hx : ∃ k, LeastN zs (clashes zs f sp) k := ⟨k, h⟩
  unfold leastK
  rw [dif_pos hx]
  exact Classical.choose_spec hx
theorem leastK_eq {zs : List Str} {f : Str × Str → V} {sp : Int} {k : Nat} (h : LeastN zs (clashes zs f sp) k) : leastK zs f sp = k := by
  have hx : ∃ k, LeastN zs (clashes zs f sp) k := ⟨k, h⟩
  unfold leastK
  rw [dif_pos hx]
  exact (Classical.choose_spec hx).uniq h
theorem leastK_le {zs : List Str} {f : Str × Str → V} {sp : Int} (nd : zs.Nodup) : leastK zs f sp ≤ zs.length - 1 := by
  obtain ⟨k, h1, h⟩ := least_there (f := f) (sp := sp) nd
  rw [leastK_eq h]
  exact h1
noncomputable def spreads (zs : List Str) (m : Nat) (f : Str × Str → V) (n : Int) : List Nat := (List.range (m + 1)).filter fun r => decide ((leastK zs f (r : Int) : Int) ≤ n)
def spSpread (C CP : Addr) : Sp := fun vs H Q _ => ∃ (x : Addr) (n : Int) (zs : List Str) (m : Nat) (f : Str × Str → V), vs = [.ref x, .int n] ∧ PageOk H C CP x zs (m : Int) f ∧ 0 ≤ n ∧ n ≤ 8 ∧ m ≤ 10 ∧
  ∀ H' (s : Nat), Same H H' → (spreads zs m f n).head? = some s → Q (.int (s : Int)) H'
theorem leastK_most {zs : List Str} {f : Str × Str → V} {m : Int} (mk : ∀ p ∈ pairsOf zs, mkOk m (f p) = true) : leastK zs f m = 0 := leastK_eq (by
  rw [clashes_most mk]
  exact least_zero)
theorem spreads_some {zs : List Str} {f : Str × Str → V} {m : Nat} {n : Int} (mk : ∀ p ∈ pairsOf zs, mkOk (m : Int) (f p) = true) (hn : 0 ≤ n) : ∃ s, (spreads zs m f n).head? = some s := by
  have : m ∈ spreads zs m f n := List.mem_filter.mpr ⟨List.mem_range.mpr (Nat.lt_succ_self m), decide_eq_true (by rw [leastK_most mk]; exact hn)⟩
  cases e : spreads zs m f n with
  | nil =>
    rw [e] at this
    cases this
  | cons s r => exact ⟨s, rfl⟩
theorem zip_snd {α β : Type} {p : β → Bool} : ∀ {us : List α} {ls : List β}, us.length = ls.length → ((us.zip ls).filter fun q => p q.2).map (·.2) = ls.filter p
  | [], [], _ => rfl
  | [], _ :: _, h => by simp at h
  | _ :: _, [], h => by simp at h
  | u :: us, l :: ls, h => by
    have ih := zip_snd (p := p) (us := us) (ls := ls) (by simpa using h)
    rw [List.zip_cons_cons, List.filter_cons, List.filter_cons]
    by_cases c : p l = true
    · rw [if_pos c, if_pos c, List.map_cons, ih]
    · rw [if_neg c, if_neg c, ih]
theorem PoolC.putT {H : Hp} {a p : Addr} {kvs : List (List Key × V)} {o : HO} (P : PoolC H a) (np : p ≠ a) (h : H p = Option.some (.dT kvs)) : PoolC (upd H p o) a := by
  obtain ⟨n, ns, i, h1, h2, h3, h4⟩ := P
  refine ⟨n, ns, i, by rw [upd_ne (Ne.symm np)]; exact h1, h2, ?_, h4⟩
  rw [upd_ne (fun e => by
    rw [e, h] at h3
    cases h3)]
  exact h3
def duoG (l : Addr) (m : Int) : List (Key × V) := [(Sum.inr "words", V.ref l), (Sum.inr "most", V.int m)]
theorem duoG_words {H : Hp} {g l : Addr} {m : Int} (h : H g = some (.dK (duoG l m))) : DGet H g (.str "words") (some (.ref l)) := DGet.k (k := .inr "words") h
theorem duoG_most {H : Hp} {g l : Addr} {m : Int} (h : H g = some (.dK (duoG l m))) : DGet H g (.str "most") (some (.int m)) := DGet.k (k := .inr "most") h
def spMarksC : Sp := fun vs H Q _ => ∃ (a g l : Addr) (r : Int) (zs : List Str) (m : Int), vs = [.ref a, .ref g, .int r] ∧ PoolC H a ∧ H g = some (.dK (duoG l m)) ∧ H l = some (.lst (zs.map V.str)) ∧ l ≠ a ∧ zs.Nodup ∧ zs.length ≤ 8 ∧ 1 ≤ m ∧ m ≤ 10 ∧ r ≤ 100 ∧
  ∀ H' d f, PoolC H' a → But a H H' → H d = none → H' d = some (.dT (sheetOf zs f)) → (∀ p ∈ pairsOf zs, mkOk m (f p) = true) → Q (.ref d) H'
theorem duoG_merge {l : Addr} {m : Int} : mergeK [] (duoG l m) = duoG l m := by
  rfl
theorem spreads_head {zs : List Str} {m : Nat} {f : Str × Str → V} {n : Int} {s : Nat} (h : (spreads zs m f n).head? = some s) : s ∈ spreads zs m f n ∧ s ≤ m ∧ ∀ r ∈ spreads zs m f n, s ≤ r := by
  have pw : (spreads zs m f n).Pairwise (· < ·) := List.pairwise_lt_range.filter _
  have ms : s ∈ spreads zs m f n := List.mem_of_mem_head? (by rw [h]; rfl)
  refine ⟨ms, Nat.le_of_lt_succ (List.mem_range.mp (List.mem_filter.mp ms).1), fun r hr => ?_⟩
  cases e : spreads zs m f n with
  | nil =>
    rw [e] at h
    cases h
  | cons a t =>
    rw [e] at h pw hr
    obtain rfl : a = s := Option.some.inj h
    rcases List.mem_cons.mp hr with rfl | hr
    · exact Nat.le_refl _
    · exact Nat.le_of_lt ((List.pairwise_cons.mp pw).1 r hr)
noncomputable def sprK (zs : List Str) (m : Nat) (f : Str × Str → V) (n : Nat) : Nat := ((spreads zs m f (n : Int)).head?).getD 0
theorem sprK_eq {zs : List Str} {m : Nat} {f : Str × Str → V} {n s : Nat} (h : (spreads zs m f (n : Int)).head? = some s) : sprK zs m f n = s := by
  unfold sprK
  rw [h]
  rfl
theorem sprK_le {zs : List Str} {m : Nat} {f : Str × Str → V} {n : Nat} (mk : ∀ p ∈ pairsOf zs, mkOk (m : Int) (f p) = true) : sprK zs m f n ≤ m := by
  obtain ⟨s, hs⟩ := spreads_some (n := (n : Int)) mk (by omega)
  rw [sprK_eq hs]
  exact (spreads_head hs).2.1
theorem sprK_zero {zs : List Str} {m : Nat} {f : Str × Str → V} (nd : zs.Nodup) (mk : ∀ p ∈ pairsOf zs, mkOk (m : Int) (f p) = true) : sprK zs m f (zs.length - 1) = 0 := by
  obtain ⟨s, hs⟩ := spreads_some (n := ((zs.length - 1 : Nat) : Int)) mk (by omega)
  rw [sprK_eq hs]
  have : 0 ∈ spreads zs m f ((zs.length - 1 : Nat) : Int) := List.mem_filter.mpr ⟨List.mem_range.mpr (Nat.succ_pos m), decide_eq_true (by
    have := leastK_le (f := f) (sp := ((0 : Nat) : Int)) nd
    omega)⟩
  exact Nat.le_zero.mp ((spreads_head hs).2.2 0 this)
/-- one turn of a comprehension that leaves some words out -/
theorem keep_turn {G G2 : Hp} {D : Addr} {zs l : List Str} {j : Nat} {z : Str} (z8 : zs.length ≤ 8) (hz : zs[j]? = some z) (nD : G D = none) (s : Same G G2) (hD : G2 D = some (.lst (((zs.take j).filter fun z => decide (z ∉ l)).map V.str))) :
    (z ∉ l → ∃ acc, G2 D = some (.lst acc) ∧ acc.length < sizeLine ∧ Same G (upd G2 D (.lst (acc ++ [V.str z]))) ∧ upd G2 D (.lst (acc ++ [V.str z])) D = some (.lst (((zs.take (j + 1)).filter fun z => decide (z ∉ l)).map V.str))) ∧
    (z ∈ l → Same G G2 ∧ G2 D = some (.lst (((zs.take (j + 1)).filter fun z => decide (z ∉ l)).map V.str))) := by
  have tk : (zs.take (j + 1)).filter (fun z => decide (z ∉ l)) = (zs.take j).filter (fun z => decide (z ∉ l)) ++ (if z ∉ l then [z] else []) := by
    rw [List.take_add_one, hz, List.filter_append]
    refine congrArg _ ?_
    by_cases c : z ∈ l
    · simp [c]
    · simp [c]
  rw [tk]
  refine ⟨fun c => ⟨_, hD, ?_, same_at s nD, ?_⟩, fun c => ⟨s, ?_⟩⟩
  · rw [List.length_map]
    have h1 := List.length_filter_le (fun z => decide (z ∉ l)) (zs.take j)
    rw [List.length_take] at h1
    exact small1000 (by omega)
  · rw [upd_same, if_pos c, List.map_append]
    rfl
  · rw [if_neg (fun h => h c), List.append_nil]
    exact hD
end L2

set_option Elab.async false
set_option linter.all false
set_option maxRecDepth 100000
set_option maxHeartbeats 4000000
namespace K83
open PySem PySem.Spec PyProof.Rows L2
structure Tp (mg : Str → Option Value) : Prop where
  dict : mg "dict" = none
  repr : mg "repr" = none
section
variable {P : Program} {w : World} {K : PySem.W.Frag} {mg : Str → Option Value} {base : Heap} {C CP : Addr}
theorem ok_isMark {f fN : Addr} {fd fdN : FuncData} (F : Fun K "is_mark" "is_mark" sIsMark f fd) (GN : FnOk P w K mg base CX0 2 fN fdN ["value", "least", "most"] (spWithin K)) (kN : PySem.W.keepIn K (.ref fN) = true) (bN : Binds K fdN ["value", "least", "most"] [])
    (gN : mg "is_integer_within" = some (.ref fN)) (cl : Cls K C) (nM : NoAttr K C "most") : FnOk P w K mg base CX0 3 f fd ["crowd", "value"] (spIsMark K C) := by
  refine F.ok scIsMark (fun vs H Q E h => ?_) (fun cdv A outer s H vs Q E hr h => ?_)
  · obtain ⟨c, v, zs, m, rfl, _⟩ := h
    rfl
  · obtain ⟨c, v, zs, m, rfl, hc, ht, q⟩ := h
    obtain ⟨dx, l, hx, hl⟩ := id hc
    refine ⟨_, pss_one (ps_ret (pe_call GN hr (by rfl) gN kN bN .nil pass0 (pa_cons (pv 1) (pa_cons pe_int (pa_cons (pe_fld (pv 0) rfl) pa_nil))))), ?_⟩
    exact ⟨_, rfl, _, rfl, c, C, dx, _, _, rfl, hx, cl, nM, rfl, v, 0, m, rfl, ht, q⟩
theorem ok_isMarkN {f fM : Addr} {fd fdM : FuncData} (F : Fun K "is_mark_or_none" "is_mark_or_none" sIsMarkOrNone f fd) (GM : FnOk P w K mg base CX0 3 fM fdM ["crowd", "value"] (spIsMark K C)) (kM : PySem.W.keepIn K (.ref fM) = true) (bM : Binds K fdM ["crowd", "value"] [])
    (gM : mg "is_mark" = some (.ref fM)) : FnOk P w K mg base CX0 4 f fd ["crowd", "value"] (spIsMarkN K C) := by
  refine F.ok scIsMarkOrNone (fun vs H Q E h => ?_) (fun cdv A outer s H vs Q E hr h => ?_)
  · obtain ⟨c, v, zs, m, rfl, _⟩ := h
    rfl
  · obtain ⟨c, v, zs, m, rfl, hc, ht, q⟩ := h
    refine ⟨_, pss_one (ps_ret (pe_or (pe_cmpR op_isN (pv 1) pe_non (nomark _)) (pe_one (pe_call GM hr (by rfl) gM kM bM .nil pass0 (pa_cons (pv 0) (pa_cons (pv 1) pa_nil)))))), ?_⟩
    unfold mkOk at q
    refine ⟨_, rfl, rfl, _, rfl, ?_⟩
    cases h1 : decide (v = .non) with
    | true =>
      rw [h1, Bool.true_or] at q
      exact iteT q
    | false =>
      rw [h1, Bool.false_or] at q
      exact iteF ⟨_, rfl, _, rfl, c, v, zs, m, rfl, hc, ht, q⟩
theorem ok_areMarks {f fM fPa fIs : Addr} {fd fdM dPa dIs : FuncData} (F : Fun K "are_marks" "are_marks" sAreMarks f fd) (GM : FnOk P w K mg base CX0 4 fM fdM ["crowd", "value"] (spIsMarkN K C)) (kM : PySem.W.keepIn K (.ref fM) = true) (bM : Binds K fdM ["crowd", "value"] [])
    (gM : mg "is_mark_or_none" = some (.ref fM)) (cl : Cls K C) (mPa : Meth K C "pairs" fPa) (GPa : FnOk P w K mg base CX0 1 fPa dPa ["self"] (spCrowdPairs C)) (bPa : Binds K dPa ["self"] [])
    (mIs : Meth K C "is_pair" fIs) (GIs : FnOk P w K mg base CX0 2 fIs dIs ["self", "value"] (spIsPair K C)) (bIs : Binds K dIs ["self", "value"] []) (B : Bt mg) (T : Tx mg) (Z : Tp mg) : FnOk P w K mg base CX0 5 f fd ["crowd", "value"] (spAreMarks C) := by
  refine F.ok scAreMarks (fun vs H Q E h => ?_) (fun cdv A outer s H vs Q E hr h => ?_)
  · obtain ⟨c, d, zs, m, kvs, rfl, _⟩ := h
    rfl
  · obtain ⟨c, d, zs, m, kvs, rfl, hc, z8, ⟨hd, hl, hk⟩, q⟩ := h
    obtain ⟨dx, lp, hx, hlp⟩ := id hc
    refine ⟨_, pss_cons (ps_if (PW.pt (pw_or (pt_not (pt_val (pe_callB call_isi (by rfl) T.isi (by decide +kernel) (pa_cons (pv 1) (pa_cons (pe_bltn (v := .ty "dict") (by rfl) Z.dict (by decide +kernel) rfl) pa_nil)))))
        (pw_or1 (pt_cmpR op_ne (pe_callB call_len_dT (by rfl) B.len PySem.boot_len (pa_cons (pv 1) pa_nil)) (pe_callB call_len_seq (by rfl) B.len PySem.boot_len (pa_cons (pe_meth0 (pv 0) cl mPa GPa (hr.mono (by decide)) bPa .nil pass0) pa_nil)) (nomark _))))) (pss_one (ps_ret pe_bl)) pss_nil)
      (pss_one (ps_ret (pe_callB (cr_all rfl) (by rfl) T.all (by decide +kernel) (pa_cons (pe_lock (pe_lc (own := [("pair", 2), ("mark", 3)]) (g := gTup K 2 (gCons (gName 2) (gCons (gName 3) gNil))) (by rfl) scAreMarks.nd (pi_itemsT (pv 1)) (blkOk_by (own := [("pair", 2), ("mark", 3)]) (N := ["crowd", "value", "pair", "mark"]) (sc := defScope sAreMarks) (by decide +kernel))
        (fun _ _ _ _ _ => by exact pg_tup rfl (pgs_cons (pg_name (i := 2) scAreMarks.nd rfl (Or.inl rfl)) (pgs_cons (pg_name (i := 3) scAreMarks.nd rfl (Or.inl rfl)) pgs_nil))) (fun _ _ _ _ _ => pts_nil)
        (fun _ _ _ _ _ => pe_and (pe_meth (pv 0) cl mIs GIs (Room.mono (by exact hr) (by decide)) bIs .nil pass0 (pa_cons (pv 2) pa_nil)) (pe_one (pe_call GM (by exact hr) (by rfl) gM kM bM .nil pass0 (pa_cons (pv 0) (pa_cons (pv 3) pa_nil))))))) pa_nil)))), ?_⟩
    refine ⟨_, rfl, .ref d, .ty "dict", _, _, _, rfl, .ty "dict", .base (.dT hd), kit_ty (kit_dict (by decide)), _, rfl, ?_⟩
    refine iteF ⟨_, rfl, d, kvs, rfl, hd, _, rfl, c, dx, _, rfl, hx, rfl, c, zs, m, rfl, hc, z8, fun H1 p1 ys1 s1 n1 h1 t1 => ?_⟩
    refine ⟨p1, ys1, rfl, .inl (SqL.of h1), rfl, _, rfl, ?_⟩
    rw [show decide (V.int ((kvs.length : Nat) : Int) = V.int ((ys1.length : Nat) : Int)) = true from decide_eq_true (by rw [hl, t1.1])]
    refine iteF ?_
    have hd1 := s1 _ _ hd
    have hx1 := s1 _ _ hx
    have hlp1 := s1 _ _ hlp
    have k64 : kvs.length ≤ 64 := by
      rw [hl]
      exact pairs_len z8 z8
    refine ⟨d, _, hd1, trivial, fun od => ?_⟩
    have dL : upd H1 d (.frz od (.dT kvs)) d = some (.frz od (.dT kvs)) := upd_same
    have bL : But d H1 (upd H1 d (.frz od (.dT kvs))) := But.upd
    have un : ∀ G, Same (upd H1 d (.frz od (.dT kvs))) G → Same H (upd G d (.dT kvs)) := fun G sG => s1.trans (unlock_same hd1 sG)
    generalize upd H1 d (.frz od (.dT kvs)) = HL at dL bL un
    have xL := bL _ _ (ne_of hx1 hd1 (fun z => nomatch z)) hx1
    have lL := bL _ _ (ne_of hlp1 hd1 (fun z => nomatch z)) hlp1
    refine ⟨_, rfl, d, od, kvs, rfl, dL, fun D nD => ?_⟩
    refine nest_it walk_itemsT (fun i G => Same HL G ∧ G D = some (.lst (List.replicate i (.bl true)))) ⟨same_new nD, upd_same⟩ (fun i G _ h => h.1 _ _ dL) ?_ ?_
    · rintro i y G G2 hi ⟨sG, hD⟩ ⟨t, k, v, q0, hkv, rfl, nT, hq, rfl⟩
      obtain ⟨⟨p, hp, rfl⟩, mk⟩ := hk _ (List.mem_of_getElem? hkv)
      have nTD : D ≠ t := ne_of_none hD nT
      have s2 : Same G (upd G t (.tup [.ref q0, v])) := same_new nT
      refine ⟨t, _, rfl, SqT.of upd_same, rfl, _, _, rfl, _, _, rfl, rfl, rfl, ?_⟩
      refine ⟨_, rfl, c, dx, _, rfl, s2 _ _ (sG _ _ xL), rfl, _, rfl, c, _, zs, m, _, rfl, ⟨dx, lp, s2 _ _ (sG _ _ xL), s2 _ _ (sG _ _ lL)⟩, .two (a := .str p.1) (b := .str p.2) (s2 _ _ hq) (S := "str") (T := "str") ⟨.base (.str _), by decide⟩ ⟨.base (.str _), by decide⟩, ?_⟩
      rw [isPair_true hp]
      refine ⟨_, rfl, iteT ⟨_, rfl, _, rfl, c, v, zs, m, rfl, ⟨dx, lp, s2 _ _ (sG _ _ xL), s2 _ _ (sG _ _ lL)⟩, mkOk_ty mk, ?_⟩⟩
      rw [show mkOk m v = true from mk]
      refine ⟨_, by rw [upd_ne nTD]; exact hD, by rw [List.length_replicate]; exact small1000 (by omega), fun b o e => ?_, ?_⟩
      · rw [upd_ne (ne_of_none e nD)]
        exact s2 _ _ (sG _ _ e)
      · rw [upd_same, List.replicate_succ']
    rintro G ⟨sG, hD⟩
    refine ⟨sG _ _ dL, D, List.replicate kvs.length true, rfl, ?_, ?_⟩
    · have nd : D ≠ d := ne_of hD (sG _ _ dL) (fun z => nomatch z)
      rw [List.map_replicate]
      exact SqL.of (by rw [upd_ne nd]; exact hD)
    · rw [show (List.replicate kvs.length true).all id = true by rw [List.all_eq_true]; intro x hx; exact List.eq_of_mem_replicate hx]
      exact q _ (un G sG)
end
end K83

set_option Elab.async false
set_option linter.all false
set_option maxRecDepth 100000
set_option maxHeartbeats 4000000
namespace K83
open PySem PySem.Spec PyProof.Rows L2
section
variable {P : Program} {w : World} {K : PySem.W.Frag} {mg : Str → Option Value} {base : Heap} {C CP : Addr}
theorem ok_needCrowd {f : Addr} {fd : FuncData} (F : Fun K "need_crowd" "need_crowd" sNeedCrowd f fd) (gC : mg "Crowd" = some (.ref C)) (k1 : PySem.W.kitOne K (.ref C) (.ref C) = some true) (io : IsOwn K C) (T : Tx mg) : FnOk P w K mg base CX0 1 f fd ["crowd"] (spNeedCrowd C) := by
  refine F.ok scNeedCrowd (fun vs H Q E h => ?_) (fun cdv A outer s H vs Q E hr h => ?_)
  · obtain ⟨c, zs, m, rfl, _⟩ := h
    rfl
  · obtain ⟨c, zs, m, rfl, ⟨dx, l, hx, hl⟩, q⟩ := h
    refine ⟨_, pss_one (ps_if (pt_not (pt_val (pe_callB call_isi (by rfl) T.isi (by decide +kernel) (pa_cons (pv 0) (pa_cons (pe_glob (v := .ref C) (by rfl) gC rfl) pa_nil))))) pss_never pss_nil), ?_⟩
    exact ⟨_, rfl, .ref c, .ref C, _, _, _, rfl, .own C, io.ty hx, k1, _, rfl, iteF q⟩
theorem ok_pageInit {f fNC fAM fPa : Addr} {fd dNC dAM dPa : FuncData} (F : Fun K "__init__" "Page.__init__" sPageInit f fd) (GNC : FnOk P w K mg base CX0 1 fNC dNC ["crowd"] (spNeedCrowd C)) (kNC : PySem.W.keepIn K (.ref fNC) = true) (bNC : Binds K dNC ["crowd"] []) (gNC : mg "need_crowd" = some (.ref fNC))
    (GAM : FnOk P w K mg base CX0 5 fAM dAM ["crowd", "value"] (spAreMarks C)) (kAM : PySem.W.keepIn K (.ref fAM) = true) (bAM : Binds K dAM ["crowd", "value"] []) (gAM : mg "are_marks" = some (.ref fAM))
    (cl : Cls K C) (mPa : Meth K C "pairs" fPa) (GPa : FnOk P w K mg base CX0 1 fPa dPa ["self"] (spCrowdPairs C)) (bPa : Binds K dPa ["self"] []) (clP : Cls K CP) (nC : NoAttr K CP "crowd") (nM : NoAttr K CP "_marks") : FnOk P w K mg base CX0 6 f fd ["self", "crowd", "marks"] (spPageInit C CP) := by
  refine F.ok scPageInit (fun vs H Q E h => ?_) (fun cdv A outer s H vs Q E hr h => ?_)
  · obtain ⟨x, dx, c, d, zs, m, kvs, rfl, _⟩ := h
    rfl
  · obtain ⟨x, dx, c, d, zs, m, kvs, rfl, hx, hc, z8, nd, hM, hA, q⟩ := h
    obtain ⟨dc, lc, hcx, hcl⟩ := id hc
    have hu1 : (A.deeper (envOfC "Page.__init__" (defScope sPageInit) s.heap.objs.size f cdv)).units + 1 < cLine := by
      have := hr.units
      omega
    refine ⟨_, pss_cons (ps_expr (pe_call GNC (hr.mono (by decide)) (by rfl) gNC kNC bNC .nil pass0 (pa_cons (pv 1) pa_nil)))
      (pss_cons (ps_if (pt_not (pt_val (pe_call GAM (hr.mono (by decide)) (by rfl) gAM kAM bAM .nil pass0 (pa_cons (pv 1) (pa_cons (pv 2) pa_nil))))) pss_never pss_nil)
      (pss_cons (ps_fld (pv 0) (pv 1) rfl)
      (pss_one (ps_fld (pv 0) (pe_dcT (own := [("pair", 3)]) (g := gName 3) (by exact hu1) (by rfl) scPageInit.nd (pi_list (pe_meth0 (pv 1) cl mPa GPa (hr.mono (by decide)) bPa .nil pass0)) (blkOk_by (own := [("pair", 3)]) (N := ["self", "crowd", "marks", "pair"]) (sc := defScope sPageInit) (by decide +kernel))
        (fun _ _ _ _ _ => pg_name (i := 3) scPageInit.nd rfl (Or.inl rfl)) (fun _ _ _ _ _ => pts_nil) (fun _ _ _ _ _ => pv 3) (fun _ _ _ _ _ => pe_dget (by exact hu1) (pv 2) (pv 3) (fun _ _ => rfl))) rfl)))), ?_⟩
    refine ⟨_, rfl, c, zs, m, rfl, hc, ?_⟩
    refine ⟨_, rfl, _, rfl, c, d, zs, m, kvs, rfl, hc, z8, hM, fun H1 s1 => ⟨true, rfl, iteF ?_⟩⟩
    have hx1 := s1 _ _ hx
    refine ⟨_, rfl, _, rfl, x, CP, dx, [], rfl, hx1, clP, nC, (by show 0 < 1000; decide), ?_⟩
    have cx : x ≠ c := ne_of hx hcx (fun z => by
      injection z with _ _ z
      cases z)
    have lx : lc ≠ x := ne_of hcl hx (fun z => nomatch z)
    have dxx : d ≠ x := ne_of hM.1 hx (fun z => nomatch z)
    generalize e2 : upd H1 x _ = H2
    have b2 : But x H1 H2 := e2 ▸ But.upd
    have hx2 : H2 x = some (.ins CP dx (putF "crowd" (.ref c) [])) := e2 ▸ upd_same
    have c2 : CrowdOf H2 C c zs m := ⟨dc, lc, b2 _ _ cx.symm (s1 _ _ hcx), b2 _ _ lx (s1 _ _ hcl)⟩
    have d2 := b2 _ _ dxx (s1 _ _ hM.1)
    refine ⟨_, rfl, c, dc, _, rfl, b2 _ _ cx.symm (s1 _ _ hcx), rfl, c, zs, m, rfl, c2, z8, fun H3 p3 ys s3 n3 h3 t3 => ?_⟩
    refine ⟨p3, rfl, ⟨_, SqL.of h3⟩, fun D nD => ?_⟩
    have len : ys.length = (pairsOf zs).length := t3.1
    have d3 := s3 _ _ d2
    refine nest_it (walk_list (K := K) (a := p3) (xs := ys)) (fun i G => Same H3 G ∧ G D = some (.dT ((sheetOf zs fun p => (valV kvs (key2 p)).getD .non).take i))) ⟨same_new nD, upd_same⟩ (fun i G _ h => SqL.of (h.1 _ _ h3)) ?_ ?_
    · rintro i y G G2 hi ⟨sG, hD⟩ ⟨rfl, hy⟩
      have hi2 : i < (pairsOf zs).length := by omega
      have hp := List.getElem?_eq_getElem hi2
      have hmem := List.getElem_mem hi2
      generalize (pairsOf zs)[i] = p at hp hmem
      obtain ⟨t, rfl, _, ht⟩ := t3.2 i y p hy hp
      obtain ⟨v, hv⟩ := hA p hmem
      have gt := DGet.t (sG _ _ d3) (k := key2 p) (sG _ _ ht)
      rw [hv] at gt
      refine ⟨rfl, _, rfl, _, rfl, _, rfl, d, v, rfl, gt, _, key2 p, t, rfl, sG _ _ ht, hD, ?_, fun b o e => ?_, ?_⟩
      · rw [List.length_take]
        exact Nat.lt_of_le_of_lt (Nat.min_le_left _ _) (small1000 (by have : (pairsOf zs).length ≤ 64 := pairs_len z8 z8; omega))
      · rw [upd_ne (ne_of_none e nD)]
        exact sG _ _ e
      · have at_ : (sheetOf zs fun p => (valV kvs (key2 p)).getD .non)[i]? = some (key2 p, (valV kvs (key2 p)).getD .non) := sheet_at hp
        rw [hv] at at_
        rw [upd_same]
        exact congrArg (fun z => some (HO.dT z)) (put_take (sheet_nodup nd _) at_)
    rintro G ⟨sG, hD⟩
    rw [len, ← sheet_len (f := fun p => (valV kvs (key2 p)).getD .non), List.take_length] at hD
    have hxG := sG _ _ (s3 _ _ hx2)
    have nDx : D ≠ x := ne_of hD hxG (fun z => nomatch z)
    refine ⟨_, rfl, x, CP, dx, _, rfl, hxG, clP, nM, (by show 1 < 1000; decide), ?_⟩
    refine q _ dx D ?_ (s1.free ?_) (by rw [upd_same]; exact congrArg (fun z => some (HO.ins CP dx z)) page_put) (by rw [upd_ne nDx]; exact hD)
    · exact (((But.of_same s1).trans b2).trans (But.of_same (s3.trans sG))).trans But.upd
    · have nD2 := s3.free nD
      rw [← e2, upd_ne nDx] at nD2
      exact nD2
end
end K83

set_option Elab.async false
set_option linter.all false
set_option maxRecDepth 100000
set_option maxHeartbeats 4000000
namespace K83
open PySem PySem.Spec PyProof.Rows L2
section
variable {P : Program} {w : World} {K : PySem.W.Frag} {mg : Str → Option Value} {base : Heap} {C CP : Addr}
theorem ok_pageMarks {fA : Addr} {fd : FuncData} (F : Fun K "marks" "Page.marks" sPageMarks fA fd) (clP : Cls K CP) (nM : NoAttr K CP "_marks") : FnOk P w K mg base CX0 1 fA fd ["self"] (spPageMarks C CP) := by
  refine F.ok scPageMarks (fun vs H Q E h => ?_) (fun cdv A outer s H vs Q E hr h => ?_)
  · obtain ⟨x, zs, m, f, rfl, _⟩ := h
    rfl
  · obtain ⟨x, zs, m, f, rfl, ⟨dx, c, d, hx, hc, hd⟩, z8, nd, q⟩ := h
    have hu1 : (A.deeper (envOfC "Page.marks" (defScope sPageMarks) s.heap.objs.size fA cdv)).units + 1 < cLine := by
      have := hr.units
      omega
    refine ⟨_, pss_one (ps_ret (pe_lock (pe_dcT (own := [("pair", 1), ("mark", 2)]) (g := gTup K 2 (gCons (gName 1) (gCons (gName 2) gNil))) (by exact hu1) (by rfl) scPageMarks.nd (pi_itemsT (pe_fld (pv 0) rfl)) (blkOk_by (own := [("pair", 1), ("mark", 2)]) (N := ["self", "pair", "mark"]) (sc := defScope sPageMarks) (by decide +kernel))
      (fun _ _ _ _ _ => by exact pg_tup rfl (pgs_cons (pg_name (i := 1) scPageMarks.nd rfl (Or.inl rfl)) (pgs_cons (pg_name (i := 2) scPageMarks.nd rfl (Or.inl rfl)) pgs_nil))) (fun _ _ _ _ _ => pts_nil) (fun _ _ _ _ _ => pv 1) (fun _ _ _ _ _ => pv 2)))), ?_⟩
    have l64 : (pairsOf zs).length ≤ 64 := pairs_len z8 z8
    refine ⟨d, _, hd, trivial, fun od => ?_⟩
    have dL : upd H d (.frz od (.dT (sheetOf zs f))) d = some (.frz od (.dT (sheetOf zs f))) := upd_same
    have bL : But d H (upd H d (.frz od (.dT (sheetOf zs f)))) := But.upd
    have un : ∀ G, Same (upd H d (.frz od (.dT (sheetOf zs f)))) G → Same H (upd G d (.dT (sheetOf zs f))) := fun G sG => unlock_same hd sG
    have nf : ∀ b, upd H d (.frz od (.dT (sheetOf zs f))) b = none → H b = none := fun b e => by
      by_cases h : b = d
      · rw [h, upd_same] at e
        cases e
      · rw [upd_ne h] at e
        exact e
    generalize upd H d (.frz od (.dT (sheetOf zs f))) = HL at dL bL un nf
    have xL := bL _ _ (ne_of hx hd (fun z => nomatch z)) hx
    refine ⟨_, rfl, x, CP, dx, _, _, rfl, xL, clP, nM, rfl, d, od, _, rfl, dL, fun D nD => ?_⟩
    refine nest_it walk_itemsT (fun i G => Same HL G ∧ G D = some (.dT ((sheetOf zs f).take i))) ⟨same_new nD, upd_same⟩ (fun i G _ h => h.1 _ _ dL) ?_ ?_
    · rintro i y G G2 hi ⟨sG, hD⟩ ⟨t, k, v, q0, hkv, rfl, nT, hq, rfl⟩
      have nTD : D ≠ t := ne_of_none hD nT
      have s2 : Same G (upd G t (.tup [.ref q0, v])) := same_new nT
      refine ⟨t, _, rfl, SqT.of upd_same, rfl, _, _, rfl, _, _, rfl, rfl, rfl, ?_⟩
      refine ⟨_, rfl, _, rfl, _, k, q0, rfl, s2 _ _ hq, by rw [upd_ne nTD]; exact hD, ?_, fun b o e => ?_, ?_⟩
      · rw [List.length_take]
        exact Nat.lt_of_le_of_lt (Nat.min_le_left _ _) (small1000 (by rw [sheet_len] at hi; omega))
      · rw [upd_ne (ne_of_none e nD)]
        exact s2 _ _ (sG _ _ e)
      · rw [upd_same, put_take (sheet_nodup nd f) hkv]
    rintro G ⟨sG, hD⟩
    rw [List.take_length] at hD
    have nDd : D ≠ d := ne_of hD (sG _ _ dL) (fun z => nomatch z)
    exact ⟨sG _ _ dL, q _ D (un G sG) (nf D nD) (by rw [upd_ne nDd]; exact hD)⟩
end
end K83

set_option Elab.async false
set_option linter.all false
set_option maxRecDepth 100000
set_option maxHeartbeats 4000000
namespace K83
open PySem PySem.Spec PyProof.Rows L2
abbrev nuN : List Str := ["_law_cell", "_law_salt", "_law_many", "_law_whole", "_law_left", "_law_result", "_law_k", "_law_one"]
section
variable {P : Program} {w : World} {K : PySem.W.Frag} {mg : Str → Option Value} {base : Heap}
theorem ok_numbers {f : Addr} {fd : FuncData} (F : Fun K "_law_numbers" "_law_numbers" sNumbers f fd) (B : Bt mg) : FnOk P w K mg base CX0 1 f fd ["_law_cell", "_law_salt", "_law_many"] spNumbers := by
  refine F.ok scNumbers (fun vs H Q E h => ?_) (fun cdv A outer s H vs Q E hr h => ?_)
  · obtain ⟨z, k, m, rfl, _⟩ := h
    rfl
  · obtain ⟨z, k, m, rfl, k62, m1000, q⟩ := h
    refine ⟨_, pss_cons (ps_set (i := 3) scNumbers.nd rfl (.inl rfl) (pe_callB (call_max2 rfl) (by rfl) B.max (by decide +kernel) (pa_cons (pe_callTy call_int1 (by rfl) B.int (by decide +kernel) (pa_cons (pv 0) pa_nil))
        (pa_cons (pe_callTy call_int1 (by rfl) B.int (by decide +kernel) (pa_cons (pe_op op_sub (pe_un un_neg pe_int) (pv 0)) pa_nil)) pa_nil))))
      (pss_cons (ps_set (i := 4) scNumbers.nd rfl (.inl rfl) (pv 3))
      (pss_cons (ps_set (i := 5) scNumbers.nd rfl (.inl rfl) (pe_lst pa_nil))
      (pss_cons (ps_for PassesOwn.never rfl (pi_range1 (by rfl) B.range (pa_cons (pv 2) pa_nil)) (pg_name (i := 6) scNumbers.nd rfl (.inl rfl))
        (pss_one (ps_if (pt_cut (fun _ H _ H' => H = H') (PW.pt (pw_and (pt_cmpR op_ge (pv 3) (pe_op op_pow pe_int pe_int) (nomark _)) (pw_and1 (pt_cmpR op_gt (pv 4) pe_int (nomark _))))))
          (pss_cons (ps_expr (pe_bm PySem.F.plainAttrs_list PySem.F.slot_list_append PySem.F.type_list_append mt_append (pv 5) (pa_cons (pe_op op_mod (pe_callTy call_int1 (by rfl) B.int (by decide +kernel) (pa_cons (pv 4) pa_nil)) pe_int) pa_nil)))
          (pss_one (ps_set (i := 4) scNumbers.nd rfl (.inl rfl) (pe_op op_fdiv (pv 4) pe_int))))
          (pss_cons (ps_set (i := 7) scNumbers.nd rfl (.inl rfl) (pe_op op_mod (pe_callTy call_int1 (by rfl) B.int (by decide +kernel) (pa_cons (pe_op op_pow (pe_op op_add (pe_op op_add (pe_op op_mod (pe_callTy call_int1 (by rfl) B.int (by decide +kernel) (pa_cons (pv 3) pa_nil)) pe_int) (pe_op op_mul pe_int (pv 1))) pe_int) pe_int) pa_nil)) pe_int))
          (pss_cons (ps_set (i := 7) scNumbers.nd rfl (.inl rfl) (pe_op op_mod (pe_callTy call_int1 (by rfl) B.int (by decide +kernel) (pa_cons (pe_op op_mul (pe_op op_add (pv 7) (pe_op op_mul pe_int (pe_op op_add (pv 6) pe_int))) (pe_op op_add (pv 6) pe_int)) pa_nil)) pe_int))
          (pss_cons (ps_set (i := 7) scNumbers.nd rfl (.inl rfl) (pe_op op_mod (pe_callTy call_int1 (by rfl) B.int (by decide +kernel) (pa_cons (pe_op op_mul (pe_op op_mod (pe_callTy call_int1 (by rfl) B.int (by decide +kernel) (pa_cons (pe_op op_pow (pv 7) pe_int) pa_nil)) pe_int) pe_int) pa_nil)) pe_int))
          (pss_one (ps_expr (pe_bm PySem.F.plainAttrs_list PySem.F.slot_list_append PySem.F.type_list_append mt_append (pv 5) (pa_cons (pe_op op_mod (pe_callTy call_int1 (by rfl) B.int (by decide +kernel) (pa_cons (pe_op op_fdiv (pv 7) pe_int) pa_nil)) pe_int) pa_nil))))))))))
      (pss_one (ps_ret (pv 5)))))), ?_⟩
    refine ⟨_, rfl, .inl ⟨_, rfl, 1, rfl, _, rfl, _, _, rfl, rfl, .inl ⟨_, rfl, _, _, rfl, ?_⟩⟩⟩
    generalize hg : (if (-1 : Int) - z > z then -1 - z else z) = g
    have g0 : 0 ≤ g := by
      rw [← hg]
      split <;> omega
    refine ⟨_, rfl, Nat.zero_le _, fun p np => ?_⟩
    generalize e1 : upd H p _ = H1
    have s1 : Same H H1 := e1 ▸ same_new np
    have hp : H1 p = some (.lst []) := e1 ▸ upd_same
    refine ⟨_, rfl, (m : Int), rfl, by omega, by omega, ?_⟩
    refine for_range (lo := 0) (fun i σ G => ∃ (left : Int) (ns : List Int) (v6 v7 : Option V), σ = [some (.int z), some (.int (k : Int)), some (.int (m : Int)), some (.int g), some (.int left), some (.ref p), v6, v7] ∧ 0 ≤ left ∧ Same H G ∧ G p = some (.lst (ns.map V.int)) ∧ ns.length = i ∧ ∀ n ∈ ns, 0 ≤ n)
      ⟨g, [], _, _, rfl, g0, s1, hp, rfl, fun n hn => nomatch hn⟩ ?_ ?_
    · rintro i σ G hi ⟨left, ns, v6, v7, rfl, l0, sG, hpG, ln, pos⟩
      have i1000 : i ≤ 1000 := by omega
      have small : ∀ x : Int, ((ns.map V.int).length < sizeLine) := fun _ => by
        rw [List.length_map, ln]
        exact small1000 i1000
      have fin : ∀ (x left2 : Int) (v6 v7 : Option V), 0 ≤ x → 0 ≤ left2 → ∃ (left : Int) (ns' : List Int) (v6' v7' : Option V), [some (.int z), some (.int (k : Int)), some (.int (m : Int)), some (.int g), some (.int left2), some (.ref p), v6, v7] = [some (.int z), some (.int (k : Int)), some (.int (m : Int)), some (.int g), some (.int left), some (.ref p), v6', v7'] ∧ 0 ≤ left ∧ Same H (upd G p (.lst (ns.map V.int ++ [.int x]))) ∧ (upd G p (.lst (ns.map V.int ++ [.int x]))) p = some (.lst (ns'.map V.int)) ∧ ns'.length = i + 1 ∧ ∀ n ∈ ns', 0 ≤ n := fun x left2 v6 v7 x0 l2 => by
        refine ⟨left2, ns ++ [x], v6, v7, rfl, l2, same_at sG np, by rw [upd_same, List.map_append]; rfl, by rw [List.length_append, ln]; rfl, fun n hn => ?_⟩
        rcases List.mem_append.mp hn with hn | hn
        · exact pos n hn
        · rw [List.mem_singleton.mp hn]
          exact x0
      have small : (ns.map V.int).length < sizeLine := by
        rw [List.length_map, ln]
        exact small1000 i1000
      refine ⟨?_, ?_⟩
      · exact ⟨_, rfl, _, _, rfl, rfl, ⟨by decide, by decide, by decide⟩, _, _, rfl, rfl, _, rfl, ite2 (fun _ => ⟨_, rfl, _, _, rfl, rfl, _, rfl, rfl⟩) fun _ => rfl⟩
      rintro c _ rfl
      cases c with
      | true =>
        refine iteT ⟨_, rfl, .inl ⟨rfl, _, SqL.of hpG⟩, _, rfl, .inl ⟨_, rfl, _, _, rfl, rfl, (by show (0 : Int) < 840; decide), p, _, _, rfl, rfl, hpG, small, ?_⟩⟩
        refine ⟨_, rfl, _, _, rfl, rfl, ⟨by decide, by decide⟩, fin _ _ _ _ (Int.emod_nonneg _ (by decide)) (Int.ediv_nonneg l0 (by decide))⟩
      | false =>
        refine iteF ⟨_, rfl, .inl ⟨_, rfl, _, _, rfl, rfl, (by show (0 : Int) < 2147483629; decide), _, rfl, _, _, rfl, rfl, .inl ⟨by decide, by decide⟩, _, _, rfl, rfl, _, _, rfl, rfl, _, _, rfl, rfl, ⟨by decide, by decide, ?_⟩, .inl ⟨_, rfl, _, _, rfl, rfl, (by show (0 : Int) < 2147483647; decide), ?_⟩⟩⟩
        · have h1 : 0 ≤ g % 2147483629 := Int.emod_nonneg _ (by decide)
          have h2 : g % 2147483629 < 2147483629 := Int.emod_lt_of_pos _ (by decide)
          omega
        have a1 : 0 ≤ (g % 2147483629 + 7717 * (k : Int) + 3) ^ (3 : Int).toNat % 2147483647 := Int.emod_nonneg _ (by decide)
        have a2 : (g % 2147483629 + 7717 * (k : Int) + 3) ^ (3 : Int).toNat % 2147483647 < 2147483647 := Int.emod_lt_of_pos _ (by decide)
        generalize (g % 2147483629 + 7717 * (k : Int) + 3) ^ (3 : Int).toNat % 2147483647 = o1 at a1 a2
        refine ⟨_, rfl, _, rfl, _, _, rfl, rfl, _, _, rfl, rfl, .inl ⟨by decide, by decide⟩, _, _, rfl, rfl, _, rfl, _, _, rfl, rfl, _, _, rfl, rfl, .inl ⟨by omega, by omega⟩, .inl ⟨_, rfl, _, _, rfl, rfl, (by show (0 : Int) < 2147483629; decide), ?_⟩⟩
        have b1 : 0 ≤ (o1 + 99991 * (0 + (i : Int) + 1)) * (0 + (i : Int) + 5) % 2147483629 := Int.emod_nonneg _ (by decide)
        have b2 : (o1 + 99991 * (0 + (i : Int) + 1)) * (0 + (i : Int) + 5) % 2147483629 < 2147483629 := Int.emod_lt_of_pos _ (by decide)
        generalize (o1 + 99991 * (0 + (i : Int) + 1)) * (0 + (i : Int) + 5) % 2147483629 = o2 at b1 b2
        refine ⟨_, rfl, _, _, rfl, rfl, ⟨by decide, by decide, by omega⟩, .inl ⟨_, rfl, _, _, rfl, rfl, (by show (0 : Int) < 2147483647; decide), _, _, rfl, rfl, .inr ⟨by decide, by decide⟩, .inl ⟨_, rfl, _, _, rfl, rfl, (by show (0 : Int) < 2147483629; decide), ?_⟩⟩⟩
        refine ⟨_, rfl, .inl ⟨rfl, _, SqL.of hpG⟩, _, rfl, _, _, rfl, rfl, ⟨by decide, by decide⟩, .inl ⟨_, rfl, _, _, rfl, rfl, (by show (0 : Int) < 840; decide), p, _, _, rfl, rfl, hpG, small, fin _ _ _ _ (Int.emod_nonneg _ (by decide)) l0⟩⟩
    · rintro σ G ⟨left, ns, v6, v7, rfl, l0, sG, hpG, ln, pos⟩
      rw [Int.toNat_natCast] at ln
      exact ⟨_, rfl, q G p ns sG np hpG ln pos⟩
theorem shaped_ints (ns : List Int) : SeqAt.shaped (.list (ns.map PyData.int)) = true := by
  have key : ∀ ns : List Int, PyData.canLayAll0 (ns.map .int) = true ∧ PyData.depthAll (ns.map PyData.int) ≤ 1 := fun ns => by
    induction ns with
    | nil => exact ⟨rfl, by simp [PyData.depthAll]⟩
    | cons n ns ih =>
      constructor
      · rw [List.map_cons, PyData.canLayAll0, PyData.canLay0, ih.1]
        rfl
      · have := ih.2
        simp only [List.map_cons, PyData.depthAll, PyData.depth]
        omega
  obtain ⟨h1, h2⟩ := key ns
  unfold SeqAt.shaped
  rw [PyData.canLay0, h1, Bool.true_and]
  refine decide_eq_true ?_
  rw [PyData.depth]
  omega
theorem dp_ints {K : PySem.W.Frag} {H : Hp} : ∀ ns : List Int, DpAll K H (ns.map V.int) (ns.map PyData.int)
  | [] => .nil
  | n :: ns => .cons (.int n) (dp_ints ns)
theorem eqv_nil (ds : List PyData) : PyData.eqv (.list ds) (.list []) = decide (ds = []) := by
  rw [PyData.eqv]
  cases ds with
  | nil => rfl
  | cons d ds => rfl
theorem ok_openedC {f fN : Addr} {fd dN : FuncData} (F : Fun K "_law_opened" "_law_opened" sOpened f fd) (GN : FnOk P w K mg base CX0 1 fN dN ["_law_cell", "_law_salt", "_law_many"] spNumbers) (kN : PySem.W.keepIn K (.ref fN) = true) (bN : Binds K dN ["_law_cell", "_law_salt", "_law_many"] []) (gN : mg "_law_numbers" = some (.ref fN)) :
    FnOk P w K mg base CX0 2 f fd ["_law_script", "_law_k", "_law_many"] (spOpenedC K) := by
  refine F.ok scOpened (fun vs H Q E h => ?_) (fun cdv A outer s H vs Q E hr h => ?_)
  · obtain ⟨a, ns, k, m, rfl, _⟩ := h
    rfl
  · obtain ⟨a, ns, k, m, rfl, hS, l63, k62, hk, m1000, m1, q⟩ := h
    refine ⟨_, pss_cons (ps_set (i := 3) scOpened.nd rfl (.inl rfl) (pe_cut (fun _ H v H' => Same H H' ∧ ∃ z : Int, v = .int z) (pe_ifExp (pt_cmpR (op_neD hr.units) (pv 0) (pe_lst pa_nil) (nomark _)) (pe_ix ix_list (pv 0) (pv 1) (fun _ _ => rfl)) pe_int)))
      (pss_one (ps_ret (pe_lst (pa_cons (pe_call GN hr (by rfl) gN kN bN .nil pass0 (pa_cons (pv 3) (pa_cons (pv 1) (pa_cons (pv 2) pa_nil)))) (pa_cons pe_int pa_nil))))), ?_⟩
    refine ⟨?_, ?_⟩
    · refine ⟨_, rfl, Nat.zero_le _, fun p np => ?_⟩
      have s1 : Same H (upd H p (.lst [])) := same_new np
      refine ⟨_, .list [], .lst (sqL_same s1 hS) (dp_ints ns), .lst (SqL.of upd_same) .nil, shaped_ints ns, (by decide +kernel), _, rfl, ?_⟩
      rw [eqv_nil]
      cases ns with
      | nil => exact ⟨s1, 5, rfl⟩
      | cons n ns =>
        have kl := hk (List.cons_ne_nil _ _)
        obtain ⟨z, hz⟩ : ∃ z, (n :: ns)[k]? = some z := ⟨_, List.getElem?_eq_getElem kl⟩
        rw [decide_eq_false (fun e => nomatch e : ¬ (n :: ns).map PyData.int = [])]
        dsimp only
        rw [if_pos (by decide)]
        exact ⟨_, rfl, _, rfl, a, _, k, .int z, rfl, rfl, sqL_same s1 hS, atI_nat (by rw [List.getElem?_map, hz]; rfl), s1, z, rfl⟩
    rintro v H1 ⟨s1, z, rfl⟩
    refine ⟨_, rfl, _, rfl, _, rfl, z, k, m, rfl, k62, m1000, fun H2 p ns2 s2 np hp ln pos => ⟨(by show 2 ≤ sizeLine; decide), fun t nt => ?_⟩⟩
    have s3 : Same H2 (upd H2 t (.lst [.ref p, .int 0])) := same_new nt
    refine q _ t ((s1.trans s2).trans s3) ((s1.trans s2).free nt) ⟨p, ns2, 0, upd_same, fun e => ?_, s3 _ _ hp, pos, by omega, by omega⟩
    rw [e, nt] at hp
    cases hp
theorem ok_drawC {f : Addr} {fd : FuncData} (F : Fun K "_law_draw" "_law_draw" sDraw f fd) (B : Bt mg) : FnOk P w K mg base CX0 1 f fd ["_law_pool", "_law_many"] spDrawC := by
  refine F.ok scDraw (fun vs H Q E h => ?_) (fun cdv A outer s H vs Q E hr h => ?_)
  · obtain ⟨a, m, rfl, _⟩ := h
    rfl
  · obtain ⟨a, m, rfl, ⟨n, ns, i, ha, na, hn, pos, l1000⟩, m1, q⟩ := h
    refine ⟨_, pss_cons (ps_set (i := 2) scDraw.nd rfl (.inl rfl) (pe_ix ix_list (pv 0) pe_int (fun _ _ => rfl)))
      (pss_cons (ps_asg (pe_op op_add (pv 2) pe_int) (pg_sub (pv 0) pe_int set_list))
      (pss_one (ps_ret (pe_ifExp (pt_cmpR op_lt (pv 2) (pe_callB call_len_seq (by rfl) B.len PySem.boot_len (pa_cons (pe_ix ix_list (pv 0) pe_int (fun _ _ => rfl)) pa_nil)) (nomark _))
        (pe_op op_modN (pe_callTy call_int1 (by rfl) B.int (by decide +kernel) (pa_cons (pe_ix ix_list (pe_ix ix_list (pv 0) pe_int (fun _ _ => rfl)) (pv 2) (fun _ _ => rfl)) pa_nil)) (pv 1)) pe_int)))), ?_⟩
    have x0 : ∀ j : Int, atI [V.ref n, V.int j] 0 = some (.ref n) := fun _ => rfl
    have x1 : ∀ j : Int, atI [V.ref n, V.int j] 1 = some (.int j) := fun _ => rfl
    refine ⟨_, rfl, a, _, 1, _, rfl, rfl, SqL.of ha, x1 _, ?_⟩
    refine ⟨_, rfl, _, _, rfl, rfl, _, rfl, a, _, 1, 1, rfl, rfl, ha, rfl, ?_⟩
    have h2 : upd H a (.lst [V.ref n, V.int ((i : Int) + 1)]) a = some (.lst [V.ref n, V.int ((i : Int) + 1)]) := upd_same
    have hn2 : upd H a (.lst [V.ref n, V.int ((i : Int) + 1)]) n = some (.lst (ns.map V.int)) := by
      rw [upd_ne na]
      exact hn
    have P2 : PoolC (upd H a (.lst [V.ref n, V.int ((i : Int) + 1)])) a := ⟨n, ns, i + 1, h2, na, hn2, pos, l1000⟩
    refine ⟨_, rfl, _, rfl, a, _, 0, _, rfl, rfl, SqL.of h2, x0 _, n, _, rfl, .inl (SqL.of hn2), _, _, rfl, rfl, _, rfl, ?_⟩
    rw [List.length_map]
    dsimp only
    refine ite2 (fun c => ?_) (fun _ => q 0 _ (by omega) (by omega) P2 But.upd)
    have c1 := of_decide_eq_true c
    have c2 : i < ns.length := by omega
    obtain ⟨z, hz⟩ : ∃ z, ns[i]? = some z := ⟨_, List.getElem?_eq_getElem c2⟩
    refine ⟨_, rfl, a, _, 0, _, rfl, rfl, SqL.of h2, x0 _, _, rfl, n, _, i, .int z, rfl, rfl, SqL.of hn2, atI_nat (by rw [List.getElem?_map, hz]; rfl), .inl ⟨_, rfl, _, rfl, _, _, rfl, rfl, (by omega), ?_⟩⟩
    exact q _ _ (Int.fmod_nonneg_of_pos _ (by omega)) (Int.fmod_lt_of_pos _ (by omega)) P2 But.upd
theorem ok_wordsC {f fD : Addr} {fd dD : FuncData} (F : Fun K "_law_words" "_law_words" sWords f fd) (GD : FnOk P w K mg base CX0 1 fD dD ["_law_pool", "_law_many"] spDrawC) (kD : PySem.W.keepIn K (.ref fD) = true) (bD : Binds K dD ["_law_pool", "_law_many"] []) (gD : mg "_law_draw" = some (.ref fD)) :
    FnOk P w K mg base CX0 2 f fd ["_law_pool", "_law_many"] spWordsC := by
  refine F.ok scWords (fun vs H Q E h => ?_) (fun cdv A outer s H vs Q E hr h => ?_)
  · obtain ⟨a, m, rfl, _⟩ := h
    rfl
  · obtain ⟨a, m, rfl, hP, m1, m6, q⟩ := h
    refine ⟨_, pss_one (ps_ret (pe_slice sl_list (pe_slice sl_list (pe_lst (pa_cons pe_str (pa_cons pe_str (pa_cons pe_str (pa_cons pe_str (pa_cons pe_str (pa_cons pe_str pa_nil))))))) (po_some (pe_call GD hr (by rfl) gD kD bD .nil pass0 (pa_cons (pv 0) (pa_cons pe_int pa_nil)))) po_none) po_none (po_some (pv 1)))), ?_⟩
    refine ⟨(by show 6 ≤ sizeLine; decide), fun p np => ?_⟩
    have s1 : Same H (upd H p (.lst (namesC.map V.str))) := same_new np
    have hp : upd H p (.lst (namesC.map V.str)) p = some (.lst (namesC.map V.str)) := upd_same
    have P1 := hP.same s1
    have pa := hP.ne np
    refine ⟨_, rfl, a, 3, rfl, P1, (by omega), fun r H2 r0 r1 P2 b2 => ?_⟩
    obtain ⟨k, rfl⟩ : ∃ k : Nat, r = (k : Int) := ⟨r.toNat, by omega⟩
    refine ⟨_, rfl, p, namesC.map V.str, rfl, SqL.of (b2 _ _ pa hp), fun t nt => ?_⟩
    rw [km_drop, ← List.map_drop]
    have s3 : Same H2 (upd H2 t (.lst ((namesC.drop k).map V.str))) := same_new nt
    have h3 : upd H2 t (.lst ((namesC.drop k).map V.str)) t = some (.lst ((namesC.drop k).map V.str)) := upd_same
    generalize upd H2 t (.lst ((namesC.drop k).map V.str)) = H3 at s3 h3
    refine ⟨_, rfl, _, rfl, t, _, rfl, SqL.of h3, fun t2 nt2 => ?_⟩
    rw [km_take, ← List.map_take]
    have s4 : Same H3 (upd H3 t2 (.lst (((namesC.drop k).take m).map V.str))) := same_new nt2
    have sd : Same (del H a) (del (upd H3 t2 (.lst (((namesC.drop k).take m).map V.str))) a) := ((del_mono s1).trans (del_but b2)).trans (del_mono (s3.trans s4))
    have P4 := P2.same (s3.trans s4)
    refine q _ t2 _ (wordsC_cut (by omega) m1) P4 sd ?_ upd_same
    have d3 : del H3 a t2 = none := del_none nt2
    have n1 : t2 ≠ a := P2.same s3 |>.ne nt2
    have := Same.free (((del_mono s1).trans (del_but b2)).trans (del_mono s3)) d3
    rwa [del_ne n1] at this
end
end K83

set_option Elab.async false
set_option linter.all false
set_option maxRecDepth 100000
set_option maxHeartbeats 4000000
namespace K83
open PySem PySem.Spec PyProof.Rows L2
section
variable {P : Program} {w : World} {K : PySem.W.Frag} {mg : Str → Option Value} {base : Heap} {C CP : Addr}
theorem ok_needPage {f : Addr} {fd : FuncData} (F : Fun K "need_any_page" "need_any_page" sNeedAnyPage f fd) (gP : mg "Page" = some (.ref CP)) (k1 : PySem.W.kitOne K (.ref CP) (.ref CP) = some true) (io : IsOwn K CP) (T : Tx mg) : FnOk P w K mg base CX0 1 f fd ["page"] (spNeedPage CP) := by
  refine F.ok scNeedAnyPage (fun vs H Q E h => ?_) (fun cdv A outer s H vs Q E hr h => ?_)
  · obtain ⟨x, dx, fs, rfl, _⟩ := h
    rfl
  · obtain ⟨x, dx, fs, rfl, hx, q⟩ := h
    refine ⟨_, pss_one (ps_if (pt_not (pt_val (pe_callB call_isi (by rfl) T.isi (by decide +kernel) (pa_cons (pv 0) (pa_cons (pe_glob (v := .ref CP) (by rfl) gP rfl) pa_nil))))) pss_never pss_nil), ?_⟩
    exact ⟨_, rfl, .ref x, .ref CP, _, _, _, rfl, .own CP, io.ty hx, k1, _, rfl, iteF q⟩
theorem ok_needNum {f fN : Addr} {fd fdN : FuncData} (F : Fun K "need_number" "need_number" sNeedNumber f fd) (GN : FnOk P w K mg base CX0 2 fN fdN ["value", "least", "most"] (spWithin K)) (kN : PySem.W.keepIn K (.ref fN) = true) (bN : Binds K fdN ["value", "least", "most"] [])
    (gN : mg "is_integer_within" = some (.ref fN)) : FnOk P w K mg base CX0 3 f fd ["number", "least", "most"] spNeedNum := by
  refine F.ok scNeedNumber (fun vs H Q E h => ?_) (fun cdv A outer s H vs Q E hr h => ?_)
  · obtain ⟨n, a, b, rfl, _⟩ := h
    rfl
  · obtain ⟨n, a, b, rfl, h1, h2, q⟩ := h
    refine ⟨_, pss_one (ps_if (pt_not (pt_val (pe_call GN hr (by rfl) gN kN bN .nil pass0 (pa_cons (pv 0) (pa_cons (pv 1) (pa_cons (pv 2) pa_nil)))))) pss_never pss_nil), ?_⟩
    refine ⟨_, rfl, _, rfl, _, rfl, .int n, a, b, rfl, ⟨"int", .base (.int n), by decide⟩, _, rfl, ?_⟩
    unfold L2.markB
    dsimp only
    rw [decide_eq_true h1, decide_eq_true h2]
    exact iteF q
theorem ok_found {fA fPe fMk : Addr} {pPe pMk : Addr} {fd dPe dMk : FuncData} (F : Fun K "found_clashes" "found_clashes" sFoundClashes fA fd) (cl : Cls K C) (ppPe : PropOf K C "people" pPe fPe) (GPe : FnOk P w K mg base CX0 1 fPe dPe ["self"] (spCrowdPeople C)) (bPe : Binds K dPe ["self"] [])
    (clP : Cls K CP) (nC : NoAttr K CP "crowd") (ppMk : PropOf K CP "marks" pMk fMk) (GMk : FnOk P w K mg base CX0 1 fMk dMk ["self"] (spPageMarks C CP)) (bMk : Binds K dMk ["self"] []) (ze : mg "enumerate" = none) (za : mg "abs" = none) :
    FnOk P w K mg base CX0 3 fA fd ["page", "spread"] (spFound C CP) := by
  refine F.ok scFoundClashes (fun vs H Q E h => ?_) (fun cdv A outer s H vs Q E hr h => ?_)
  · obtain ⟨x, sp, zs, m, f, rfl, _⟩ := h
    rfl
  · obtain ⟨x, sp, zs, m, f, rfl, ok, q⟩ := h
    obtain ⟨⟨dx, c, d0, hx, hc, hd0⟩, nd, z8, mk⟩ := ok
    have hu1 : (A.deeper (envOfC "found_clashes" (defScope sFoundClashes) s.heap.objs.size fA cdv)).units + 1 < cLine := by
      have := hr.units
      omega
    refine ⟨_, pss_cons (ps_par (i := 2) (j := 3) (by rfl) scFoundClashes.nd rfl rfl (by decide) rfl rfl (pa_cons (pe_prop (pe_fld (pv 0) rfl) cl ppPe GPe (hr.mono (by decide)) bPe .nil pass0 rfl) (pa_cons (pe_prop (pv 0) clP ppMk GMk (hr.mono (by decide)) bMk .nil pass0 rfl) pa_nil)) (by rfl))
      (pss_cons (ps_set (i := 4) scFoundClashes.nd rfl (.inl rfl) (pe_lst pa_nil))
      (pss_cons (ps_for PassesOwn.never rfl (pi_enum (by rfl) ze (pa_cons (pv 2) pa_nil)) (pg_tup rfl (pgs_cons (pg_name (i := 5) scFoundClashes.nd rfl (.inl rfl)) (pgs_cons (pg_name (i := 6) scFoundClashes.nd rfl (.inl rfl)) pgs_nil)))
        (pss_one (ps_for PassesOwn.never rfl (pi_list (pe_slice sl_list (pv 2) (po_some (pe_op op_add (pv 5) pe_int)) po_none)) (pg_name (i := 7) scFoundClashes.nd rfl (.inl rfl))
          (pss_one (ps_for PassesOwn.never rfl (pi_list (pv 2)) (pg_name (i := 8) scFoundClashes.nd rfl (.inl rfl))
            (pss_cons (ps_par (i := 9) (j := 10) (by rfl) scFoundClashes.nd rfl rfl (by decide) rfl rfl (pa_cons (pe_dget2 (by exact hu1) (pv 3) (pe_tup (pa_cons (pv 6) (pa_cons (pv 8) pa_nil))) pe_non ⟨rfl, rfl, rfl, rfl⟩) (pa_cons (pe_dget2 (by exact hu1) (pv 3) (pe_tup (pa_cons (pv 7) (pa_cons (pv 8) pa_nil))) pe_non ⟨rfl, rfl, rfl, rfl⟩) pa_nil)) (by rfl))
            (pss_one (ps_if (PW.pt (pw_and (pt_cmpR op_notN (pv 9) pe_non (nomark _)) (pw_and (pt_cmpR op_notN (pv 10) pe_non (nomark _)) (pw_and1 (pt_cmpR op_gt (pe_callB call_abs (by rfl) za (by decide +kernel) (pa_cons (pe_op op_sub (pv 9) (pv 10)) pa_nil)) (pv 1) (nomark _))))))
              (pss_one (ps_expr (pe_bm PySem.F.plainAttrs_list PySem.F.slot_list_append PySem.F.type_list_append mt_append (pv 4) (pa_cons (pe_tup (pa_cons (pv 6) (pa_cons (pv 7) (pa_cons (pv 8) pa_nil)))) pa_nil)))) pss_nil))))))))
      (pss_one (ps_ret (pv 4))))), ?_⟩
    obtain ⟨dc, lc, hcx, hcl⟩ := id hc
    refine ⟨_, rfl, x, CP, dx, _, _, rfl, hx, clP, nC, rfl, c, dc, _, rfl, hcx, c, zs, m, rfl, hc, by omega, fun H1 wl s1 nw hw => ?_⟩
    refine ⟨_, rfl, x, dx, _, rfl, s1 _ _ hx, x, zs, m, f, rfl, ⟨dx, c, d0, s1 _ _ hx, hc.same s1, s1 _ _ hd0⟩, z8, nd, fun H2 d s2 ndd hd => ?_⟩
    refine ⟨_, _, rfl, Nat.zero_le _, fun p np => ?_⟩
    have s3 : Same H2 (upd H2 p (.lst [])) := same_new np
    have hp : upd H2 p (.lst []) p = some (.lst []) := upd_same
    have hw3 := s3 _ _ (s2 _ _ hw)
    have hd3 := s3 _ _ hd
    have sH : Same H (upd H2 p (.lst [])) := (s1.trans s2).trans s3
    have npH : H p = none := (s1.trans s2).free np
    have nwp : wl ≠ p := ne_of_none (s2 _ _ hw) np
    have ndp : d ≠ p := ne_of_none hd np
    generalize upd H2 p (.lst []) = H3 at s3 hp hw3 hd3 sH
    have z64 : zs.length * zs.length ≤ 64 := Nat.mul_le_mul z8 z8
    refine ⟨_, rfl, wl, zs.map V.str, rfl, SqL.of hw3, ?_⟩
    refine for_it (walk_enum (K := K) (a := wl) (xs := zs.map V.str)) (fun i σ G => ∃ (ps : List Addr) (v5 v6 v7 v8 v9 v10 : Option V), σ = [some (.ref x), some (.int sp), some (.ref wl), some (.ref d), some (.ref p), v5, v6, v7, v8, v9, v10] ∧ But p H3 G ∧ G p = some (.lst (ps.map V.ref)) ∧ Paired (TriAt G) ps (clashA zs f sp i))
      ⟨[], _, _, _, _, _, _, rfl, But.of_same (Same.refl _), hp, .nil⟩ (fun i σ G _ h => ?_) ?_ ?_
    · obtain ⟨ps, v5, v6, v7, v8, v9, v10, _, b, _⟩ := h
      exact SqL.of (b _ _ nwp hw3)
    · rintro i y σ G G0 hi ⟨ps, v5, v6, v7, v8, v9, v10, rfl, bG, hpG, pr⟩ ⟨T, v, u, rfl, nT, rfl, hv, hu⟩
      obtain rfl := Option.some.inj hv
      rw [List.length_map] at hi
      dsimp only at hu
      rw [List.getElem?_map, List.getElem?_eq_getElem hi] at hu
      obtain rfl := Option.some.inj hu
      have hz := List.getElem?_eq_getElem hi
      generalize zs[i] = a at hz
      have s4 : Same G (upd G T (.tup [.int (i : Nat), .str a])) := same_new nT
      have hT : upd G T (.tup [.int (i : Nat), .str a]) T = some (.tup [.int (i : Nat), .str a]) := upd_same
      generalize upd G T (.tup [.int (i : Nat), .str a]) = G1 at s4 hT
      refine ⟨T, _, rfl, SqT.of hT, rfl, _, _, rfl, _, _, rfl, rfl, ?_⟩
      refine ⟨_, rfl, _, rfl, _, _, rfl, rfl, _, rfl, wl, _, rfl, SqL.of (s4 _ _ (bG _ _ nwp hw3)), fun l nl => ?_⟩
      have ec : cutV (zs.map V.str) (some ((i : Int) + 1)) none = (zs.drop (i + 1)).map V.str := by
        rw [show (i : Int) + 1 = ((i + 1 : Nat) : Int) from rfl, km_drop, List.map_drop]
      rw [ec]
      have s5 : Same G1 (upd G1 l (.lst ((zs.drop (i + 1)).map V.str))) := same_new nl
      have hl : upd G1 l (.lst ((zs.drop (i + 1)).map V.str)) l = some (.lst ((zs.drop (i + 1)).map V.str)) := upd_same
      have nlp : l ≠ p := fun e => by
        rw [e, s4 _ _ hpG] at nl
        cases nl
      generalize upd G1 l (.lst ((zs.drop (i + 1)).map V.str)) = G2 at s5 hl
      have s45 := s4.trans s5
      have b2 : But p H3 G2 := fun b o nb e => s45 _ _ (bG b o nb e)
      have pr2 : Paired (TriAt G2) ps (clashA zs f sp i) := Paired.mono (fun u t h => s45 _ _ h) pr
      have hp2 := s45 _ _ hpG
      have lA := clashA_len (zs := zs) (f := f) (sp := sp) i
      have lps : ps.length ≤ i * 64 := by
        rw [Paired.length pr]
        exact Nat.le_trans lA (Nat.mul_le_mul_left _ z64)
      clear hpG pr bG s45 s5 s4 hT nT
      refine ⟨l, rfl, ⟨_, SqL.of hl⟩, ?_⟩
      refine for_list (K := K) (a := l) (xs := (zs.drop (i + 1)).map V.str) (fun j σ G => ∃ (qs : List Addr) (v7 v8 v9 v10 : Option V), σ = [some (.ref x), some (.int sp), some (.ref wl), some (.ref d), some (.ref p), some (.int (i : Nat)), some (.str a), v7, v8, v9, v10] ∧ But p G2 G ∧ G p = some (.lst (qs.map V.ref)) ∧ Paired (TriAt G) qs (clashA zs f sp i ++ clashB zs f sp a ((zs.drop (i + 1)).take j)))
        ⟨ps, _, _, _, _, rfl, But.of_same (Same.refl _), hp2, by rw [List.take_zero]; simpa [clashB] using pr2⟩ (fun j σ G _ h => ?_) ?_ ?_
      · obtain ⟨qs, v7, v8, v9, v10, _, b, _⟩ := h
        exact SqL.of (b _ _ nlp hl)
      · rintro j y σ G hy ⟨qs, v7, v8, v9, v10, rfl, bG, hpG, pr⟩
        rw [List.getElem?_map] at hy
        obtain ⟨b, hb, rfl⟩ := Option.map_eq_some_iff.mp hy
        have jl := (List.getElem?_eq_some_iff.mp hb).1
        rw [List.length_drop] at jl
        have wG := bG _ _ nwp (b2 _ _ nwp hw3)
        have dG := bG _ _ ndp (b2 _ _ ndp hd3)
        have lB : (clashB zs f sp a ((zs.drop (i + 1)).take j)).length ≤ 8 * zs.length := by
          refine Nat.le_trans clashB_len (Nat.mul_le_mul_right _ ?_)
          rw [List.length_take, List.length_drop]
          omega
        refine ⟨_, rfl, wl, rfl, ⟨_, SqL.of wG⟩, ?_⟩
        refine for_list (K := K) (a := wl) (xs := zs.map V.str) (fun k σ G3 => ∃ (rs : List Addr) (v8 v9 v10 : Option V), σ = [some (.ref x), some (.int sp), some (.ref wl), some (.ref d), some (.ref p), some (.int (i : Nat)), some (.str a), some (.str b), v8, v9, v10] ∧ But p G G3 ∧ G3 p = some (.lst (rs.map V.ref)) ∧ Paired (TriAt G3) rs (clashA zs f sp i ++ clashB zs f sp a ((zs.drop (i + 1)).take j) ++ clashC zs f sp a b (zs.take k)))
          ⟨qs, _, _, _, rfl, But.of_same (Same.refl _), hpG, by rw [List.take_zero]; simpa [clashC] using pr⟩ (fun k σ G3 _ h => ?_) ?_ ?_
        · obtain ⟨rs, v8, v9, v10, _, b, _⟩ := h
          exact SqL.of (b _ _ nwp wG)
        · rintro k y σ G3 hy ⟨rs, v8, v9, v10, rfl, b3, hp3, pr3⟩
          rw [List.getElem?_map] at hy
          obtain ⟨c', hc', rfl⟩ := Option.map_eq_some_iff.mp hy
          have kl := (List.getElem?_eq_some_iff.mp hc').1
          have d3 := b3 _ _ ndp dG
          have lC := clashC_len (zs := zs) (f := f) (sp := sp) (a := a) (b := b) (cs := zs.take k)
          rw [List.length_take] at lC
          have lrs : rs.length ≤ 600 := by
            rw [Paired.length pr3, List.length_append, List.length_append, ← Paired.length pr2]
            omega
          refine ⟨_, rfl, d, rfl, .inr ⟨_, .inl d3⟩, _, rfl, _, rfl, (by show 2 ≤ sizeLine; decide), fun t1 n1 => ?_⟩
          have s6 : Same G3 (upd G3 t1 (.tup [.str a, .str c'])) := same_new n1
          have h6 : upd G3 t1 (.tup [.str a, .str c']) t1 = some (.tup ((key2 (a, c')).map kV)) := upd_same
          generalize upd G3 t1 (.tup [.str a, .str c']) = G4 at s6 h6
          refine ⟨_, DGet.t (k := key2 (a, c')) (s6 _ _ d3) h6, ?_⟩
          rw [sheet_get]
          refine ⟨_, rfl, d, rfl, .inr ⟨_, .inl (s6 _ _ d3)⟩, _, rfl, _, rfl, (by show 2 ≤ sizeLine; decide), fun t2 n2 => ?_⟩
          have s7 : Same G4 (upd G4 t2 (.tup [.str b, .str c'])) := same_new n2
          have h7 : upd G4 t2 (.tup [.str b, .str c']) t2 = some (.tup ((key2 (b, c')).map kV)) := upd_same
          generalize upd G4 t2 (.tup [.str b, .str c']) = G5 at s7 h7
          refine ⟨_, DGet.t (k := key2 (b, c')) (s7 _ _ (s6 _ _ d3)) h7, ?_⟩
          rw [sheet_get]
          have s67 := s6.trans s7
          have hp5 := s67 _ _ hp3
          have pr5 := Paired.mono (fun u t h => s67 _ _ h) pr3
          have b5 : But p G G5 := fun b o nb e => s67 _ _ (b3 b o nb e)
          have snoc := clashC_snoc (zs := zs) (f := f) (sp := sp) (a := a) (b := b) hc'
          refine ⟨_, _, rfl, ?_⟩
          have stay : ∀ v9 v10 : Option V, farV (mkAt zs f (a, c')) (mkAt zs f (b, c')) sp = false → ∃ (rs : List Addr) (w8 w9 w10 : Option V), [some (.ref x), some (.int sp), some (.ref wl), some (.ref d), some (.ref p), some (.int (i : Nat)), some (.str a), some (.str b), some (V.str c'), v9, v10] = [some (.ref x), some (.int sp), some (.ref wl), some (.ref d), some (.ref p), some (.int (i : Nat)), some (.str a), some (.str b), w8, w9, w10] ∧ But p G G5 ∧ G5 p = some (.lst (rs.map V.ref)) ∧ Paired (TriAt G5) rs (clashA zs f sp i ++ clashB zs f sp a ((zs.drop (i + 1)).take j) ++ clashC zs f sp a b (zs.take (k + 1))) := fun v9 v10 hf => by
            refine ⟨rs, _, _, _, rfl, b5, hp5, ?_⟩
            rw [snoc, if_neg (by rw [hf]; exact Bool.false_ne_true), List.append_nil]
            exact pr5
          have grow : ∀ t v9 v10, G5 t = none → farV (mkAt zs f (a, c')) (mkAt zs f (b, c')) sp = true → ∃ (rs' : List Addr) (w8 w9 w10 : Option V), [some (.ref x), some (.int sp), some (.ref wl), some (.ref d), some (.ref p), some (.int (i : Nat)), some (.str a), some (.str b), some (V.str c'), v9, v10] = [some (.ref x), some (.int sp), some (.ref wl), some (.ref d), some (.ref p), some (.int (i : Nat)), some (.str a), some (.str b), w8, w9, w10] ∧ But p G (upd (upd G5 t (.tup [.str a, .str b, .str c'])) p (.lst (rs.map V.ref ++ [.ref t]))) ∧ (upd (upd G5 t (.tup [.str a, .str b, .str c'])) p (.lst (rs.map V.ref ++ [.ref t]))) p = some (.lst (rs'.map V.ref)) ∧ Paired (TriAt (upd (upd G5 t (.tup [.str a, .str b, .str c'])) p (.lst (rs.map V.ref ++ [.ref t])))) rs' (clashA zs f sp i ++ clashB zs f sp a ((zs.drop (i + 1)).take j) ++ clashC zs f sp a b (zs.take (k + 1))) := fun t v9 v10 nt hf => by
            have s8 : Same G5 (upd G5 t (.tup [.str a, .str b, .str c'])) := same_new nt
            have ntp : t ≠ p := fun e => by
              rw [e, hp5] at nt
              cases nt
            refine ⟨rs ++ [t], _, _, _, rfl, fun b o nb e => ?_, by rw [upd_same, List.map_append]; rfl, ?_⟩
            · rw [upd_ne nb]
              exact s8 _ _ (b5 b o nb e)
            · rw [snoc, if_pos hf, ← List.append_assoc]
              refine Paired.snoc (Paired.mono (fun u t h => ?_) pr5) ?_
              · show upd _ p _ u = _
                rw [upd_ne (fun e => by
                  have h : G5 u = _ := h
                  rw [e, hp5] at h
                  cases h)]
                exact s8 _ _ h
              · show upd _ p _ t = _
                rw [upd_ne ntp]
                exact upd_same
          rcases mkAt_cases mk (a, c') with e1 | ⟨i1, e1⟩
          · rw [e1] at stay ⊢
            exact ⟨_, rfl, rfl, _, rfl, iteF (stay _ _ rfl)⟩
          · rcases mkAt_cases mk (b, c') with e2 | ⟨i2, e2⟩
            · rw [e1, e2] at stay ⊢
              exact ⟨_, rfl, rfl, _, rfl, iteT ⟨_, rfl, rfl, _, rfl, iteF (stay _ _ rfl)⟩⟩
            · rw [e1, e2] at stay grow ⊢
              refine ⟨_, rfl, rfl, _, rfl, iteT ⟨_, rfl, rfl, _, rfl, iteT ?_⟩⟩
              refine ⟨_, rfl, _, rfl, _, _, rfl, rfl, _, rfl, _, rfl, _, _, rfl, rfl, _, rfl, ite2 (fun ce => ?_) (fun ce => stay _ _ (Bool.eq_false_iff.mpr ce))⟩
              refine ⟨_, rfl, .inl ⟨rfl, _, SqL.of hp5⟩, _, rfl, _, rfl, _, rfl, (by show 3 ≤ sizeLine; decide), fun t nt => ?_⟩
              refine ⟨p, _, _, rfl, rfl, same_new nt _ _ hp5, ?_, grow t _ _ nt ce⟩
              rw [List.length_map]
              exact small1000 (by omega)
        · rintro σ G3 ⟨rs, v8, v9, v10, rfl, b3, hp3, pr3⟩
          rw [List.length_map, List.take_length] at pr3
          refine ⟨rs, _, _, _, _, rfl, fun b o nb e => b3 b o nb (bG b o nb e), hp3, ?_⟩
          rw [clashB_snoc hb, ← List.append_assoc]
          exact pr3
      · rintro σ G ⟨qs, v7, v8, v9, v10, rfl, bG, hpG, pr⟩
        rw [List.length_map, List.take_length] at pr
        refine ⟨qs, _, _, _, _, _, _, rfl, fun b o nb e => bG b o nb (b2 b o nb e), hpG, ?_⟩
        rw [clashA, hz]
        exact pr
    · rintro σ G ⟨ps, v5, v6, v7, v8, v9, v10, rfl, bG, hpG, pr⟩
      rw [List.length_map] at pr
      exact ⟨_, rfl, q G p ps (fun b o e => bG _ _ (ne_of_none e npH) (sH _ _ e)) npH hpG pr⟩
end
end K83

set_option Elab.async false
set_option linter.all false
set_option maxRecDepth 100000
set_option maxHeartbeats 4000000
namespace K83
open PySem PySem.Spec PyProof.Rows L2
section
variable {P : Program} {w : World} {K : PySem.W.Frag} {mg : Str → Option Value} {base : Heap} {C CP : Addr}
theorem ok_more {fA : Addr} {fd : FuncData} (F : Fun K "with_one_more" "with_one_more" sWithOneMore fA fd) (B : Bt mg) : FnOk P w K mg base CX0 1 fA fd ["people", "lots"] spMore := by
  refine F.ok scWithOneMore (fun vs H Q E h => ?_) (fun cdv A outer s H vs Q E hr h => ?_)
  · obtain ⟨wl, ll, zs, us, ls, rfl, _⟩ := h
    rfl
  · obtain ⟨wl, ll, zs, us, ls, rfl, hw, nd, z8, hll, rows, sub, l300, q⟩ := h
    refine ⟨_, pss_cons (ps_set (i := 2) scWithOneMore.nd rfl (.inl rfl) (pe_lst pa_nil))
      (pss_cons (ps_for PassesOwn.never rfl (pi_list (pv 1)) (pg_name (i := 3) scWithOneMore.nd rfl (.inr rfl))
        (pss_cons (ps_set (i := 4) scWithOneMore.nd rfl (.inl rfl) (pe_cut (fun σ H v H' => Same H H' ∧ ∀ (u : Addr) (l : List Str), σ[3]? = some (some (.ref u)) → H u = some (.lst (l.map V.str)) → ∃ q, v = .ref q ∧ H' q = some (.lst ((laterZ zs l).map V.str)))
          (pe_ifExp (pt_cmpR op_gt (pe_callB call_len_seq (by rfl) B.len PySem.boot_len (pa_cons (pv 3) pa_nil)) pe_int (nomark _))
            (pe_slice sl_list (pv 0) (po_some (pe_op op_add (pe_bm PySem.F.plainAttrs_list PySem.F.slot_list_index PySem.F.type_list_index mt_index (pv 0) (pa_cons (pe_ix ix_list (pv 3) (pe_un un_neg pe_int) (fun _ _ => rfl)) pa_nil)) pe_int)) po_none) (pv 0))))
        (pss_one (ps_aug (i := 2) scWithOneMore.nd rfl (.inl rfl) (by
          refine' pe_lc (own := [("person", 5)]) (g := gName 5) (by rfl) scWithOneMore.nd ?k1 (blkOk_by (own := [("person", 5)]) (N := ["people", "lots", "told", "lot", "later", "person"]) (sc := defScope sWithOneMore) (by decide +kernel))
            (fun _ _ _ _ _ => pg_name (i := 5) scWithOneMore.nd rfl (.inl rfl)) (fun _ _ _ _ _ => pts_nil) ?k2
          (case k1 => exact pi_list (pv 4))
          (case k2 => intro _ _ _ _ _; exact pe_lst (t := StX.tStar K (tVar 3) (tCons (tVar 5) tNil)) (StX.pa_star (pv 3) (pa_cons (pv 5) pa_nil)))) iop_ext))))
      (pss_one (ps_ret (pv 2)))), ?_⟩
    refine ⟨Nat.zero_le _, fun p np => ?_⟩
    have s1 : Same H (upd H p (.lst [])) := same_new np
    have hp : upd H p (.lst []) p = some (.lst []) := upd_same
    have nwp : wl ≠ p := ne_of_none hw np
    have nlp : ll ≠ p := ne_of_none hll np
    generalize upd H p (.lst []) = H1 at s1 hp
    have hw1 := s1 _ _ hw
    have hl1 := s1 _ _ hll
    have lus := Paired.length rows
    refine ⟨_, rfl, ll, rfl, ⟨_, SqL.of hl1⟩, ?_⟩
    refine for_list (K := K) (a := ll) (xs := us.map V.ref) (fun i σ G => ∃ (qs : List Addr) (v3 v4 v5 : Option V), σ = [some (.ref wl), some (.ref ll), some (.ref p), v3, v4, v5] ∧ But p H1 G ∧ G p = some (.lst (qs.map V.ref)) ∧ Rows G qs (moreZ zs (ls.take i)) ∧ ∀ u ∈ qs, u ≠ p ∧ H u = none)
      ⟨[], _, _, _, rfl, But.of_same (Same.refl _), hp, .nil, fun u hu => nomatch hu⟩ (fun i σ G _ h => ?_) ?_ ?_
    · obtain ⟨qs, v3, v4, v5, _, b, _⟩ := h
      exact SqL.of (b _ _ nlp hl1)
    · rintro i y σ G hy ⟨qs, v3, v4, v5, rfl, bG, hpG, pr, new⟩
      rw [List.getElem?_map] at hy
      obtain ⟨u, hu, rfl⟩ := Option.map_eq_some_iff.mp hy
      obtain ⟨l, hl, hul⟩ := pair_get rows hu
      have hul1 := s1 _ _ hul
      have nup : u ≠ p := ne_of_none hul np
      have uG := bG _ _ nup hul1
      have wG := bG _ _ nwp hw1
      have sl := sub l (List.mem_of_getElem? hl)
      have il := (List.getElem?_eq_some_iff.mp hl).1
      have l8 : l.length ≤ 8 := Nat.le_trans sl.length_le z8
      refine ⟨⟨_, rfl, u, _, rfl, .inl (SqL.of uG), _, _, rfl, rfl, _, rfl, ?_⟩, ?_⟩
      · rw [List.length_map]
        refine ite2 (fun c1 => ?_) (fun c1 => ?_)
        · have lpos : 0 < l.length := by
            have := of_decide_eq_true c1
            omega
          obtain ⟨z, hz⟩ : ∃ z, l.getLast? = some z := by
            cases e : l.getLast? with
            | none => rw [List.getLast?_eq_none_iff.mp e] at lpos; exact absurd lpos (Nat.lt_irrefl _)
            | some z => exact ⟨z, rfl⟩
          have zm : z ∈ zs := sl.subset (List.mem_of_getLast? hz)
          obtain ⟨j, hj⟩ := List.mem_iff_getElem?.mp zm
          have zl : l[l.length - 1]? = some z := by rw [← hz, List.getLast?_eq_getElem?]
          refine ⟨_, rfl, _, rfl, .inl ⟨rfl, _, SqL.of wG⟩, _, rfl, _, rfl, u, _, -1, _, rfl, rfl, SqL.of uG, ?_, wl, _, .str z, j, .str z, rfl, rfl, SqL.of wG, rfl, all_flat_strs _, ?_, ?_, ?_, ?_⟩
          · obtain ⟨l0, rfl⟩ : ∃ l0, l = l0 ++ [z] := List.getLast?_eq_some_iff.mp hz
            rw [List.map_append]
            exact atI_last _ _
          · rw [List.getElem?_map, hj]
            rfl
          · simp [eqV]
          · intro k z' lt hz'
            rw [List.getElem?_map] at hz'
            obtain ⟨y, hy, rfl⟩ := Option.map_eq_some_iff.mp hz'
            refine Bool.eq_false_iff.mpr fun e => ?_
            have e : y = z := by simpa [eqV] using e
            rw [e] at hy
            have := (List.getElem?_inj (List.getElem?_eq_some_iff.mp hj).1 nd).mp (hj.trans hy.symm)
            omega
          · refine ⟨_, _, rfl, rfl, _, rfl, wl, _, rfl, SqL.of wG, fun q nq => ?_⟩
            rw [show (j : Int) + 1 = ((j + 1 : Nat) : Int) from rfl, km_drop, ← List.map_drop]
            refine ⟨same_new nq, fun u2 l2 e2 h2 => ⟨q, rfl, ?_⟩⟩
            cases (Option.some.inj e2)
            rw [uG] at h2
            have e3 : l = l2 := strs_back (HO.lst.inj (Option.some.inj h2))
            rw [upd_same, ← e3]
            unfold laterZ
            rw [hz]
            dsimp only
            rw [after_at nd hj]
        · have e : l = [] := by
            have : ¬ (0 : Int) < (l.length : Int) := fun h => c1 (decide_eq_true h)
            exact List.length_eq_zero_iff.mp (by omega)
          subst e
          refine ⟨_, rfl, Same.refl _, fun u2 l2 e2 h2 => ⟨wl, rfl, ?_⟩⟩
          cases (Option.some.inj e2)
          rw [uG] at h2
          have e3 : [] = l2 := strs_back (HO.lst.inj (Option.some.inj h2))
          rw [← e3]
          exact wG
      · rintro v G1 ⟨sG, hv⟩
        obtain ⟨q, rfl, hq⟩ := hv u l rfl uG
        have hp1 := sG _ _ hpG
        have u1 := sG _ _ uG
        refine ⟨_, rfl, _, rfl, q, rfl, ⟨_, SqL.of hq⟩, fun D nD => ?_⟩
        have nDp : D ≠ p := fun e => by
          rw [e, hp1] at nD
          cases nD
        have lz : (laterZ zs l).length ≤ 8 := Nat.le_trans later_len z8
        have HG : ∀ {b : Addr}, b ≠ p → G1 b = none → H b = none := fun {b} nb e => by
          cases e2 : H b with
          | none => rfl
          | some o =>
            have := sG _ _ (bG _ _ nb (s1 _ _ e2))
            rw [e] at this
            cases this
        refine nest_it (walk_list (K := K) (a := q) (xs := (laterZ zs l).map V.str)) (fun k G2 => Same G1 G2 ∧ ∃ rs : List Addr, G2 D = some (.lst (rs.map V.ref)) ∧ Rows G2 rs (((laterZ zs l).take k).map fun z => l ++ [z]) ∧ ∀ r ∈ rs, r ≠ D ∧ r ≠ p ∧ H r = none) ⟨same_new nD, [], upd_same, .nil, fun r hr => nomatch hr⟩ (fun k G2 _ h => SqL.of (h.1 _ _ hq)) ?_ ?_
        · rintro k y G2 G3 hk ⟨sG2, rs, hD, prs, rnew⟩ ⟨rfl, hy⟩
          rw [List.getElem?_map] at hy
          obtain ⟨z, hz, rfl⟩ := Option.map_eq_some_iff.mp hy
          have kl := (List.getElem?_eq_some_iff.mp hz).1
          have u3 := sG2 _ _ u1
          have lrs : rs.length ≤ 8 := by
            rw [Paired.length prs, List.length_map, List.length_take]
            omega
          refine ⟨rfl, _, rfl, u, _, rfl, .inr (SqL.of u3), _, rfl, ?_, fun t nt => ?_⟩
          · rw [List.length_append, List.length_map]
            exact Nat.le_of_lt (small1000 (by show l.length + 1 ≤ 1000; omega))
          have st : Same G3 (upd G3 t (.lst (l.map V.str ++ [V.str z]))) := same_new nt
          have ht : upd G3 t (.lst (l.map V.str ++ [V.str z])) t = some (.lst ((l ++ [z]).map V.str)) := by
            rw [upd_same, List.map_append]
            rfl
          have ntD : t ≠ D := fun e => by
            rw [e, hD] at nt
            cases nt
          have ntp : t ≠ p := fun e => by
            rw [e, sG2 _ _ hp1] at nt
            cases nt
          have ntH : H t = none := HG ntp (sG2.free nt)
          generalize upd G3 t (.lst (l.map V.str ++ [V.str z])) = G4 at st ht
          refine ⟨_, st _ _ hD, ?_, same_at (sG2.trans st) nD, rs ++ [t], by rw [upd_same, List.map_append]; rfl, ?_, fun r hr => ?_⟩
          · rw [List.length_map]
            exact small1000 (by omega)
          · rw [List.take_add_one, hz, List.map_append]
            refine paired_snoc ?_ (by rw [upd_ne ntD]; exact ht)
            have key : ∀ {xs : List Addr} {ys : List (List Str)}, (∀ x ∈ xs, x ≠ D) → Rows G3 xs ys → Rows (upd G4 D (.lst (rs.map V.ref ++ [V.ref t]))) xs ys := by
              intro xs ys hx h
              induction h with
              | nil => exact .nil
              | cons r t ih => exact .cons (by rw [upd_ne (hx _ List.mem_cons_self)]; exact st _ _ r) (ih fun x hm => hx x (List.mem_cons_of_mem _ hm))
            exact key (fun x hm => (rnew x hm).1) prs
          · rcases List.mem_append.mp hr with hr | hr
            · exact rnew r hr
            · rw [List.mem_singleton.mp hr]
              exact ⟨ntD, ntp, ntH⟩
        · rintro G2 ⟨sG2, rs, hD, prs, rnew⟩
          rw [List.length_map, List.take_length] at prs
          have lrs : rs.length ≤ 8 := by
            rw [Paired.length prs, List.length_map]
            exact lz
          have lqs : qs.length ≤ 300 * 8 := by
            rw [Paired.length pr]
            refine Nat.le_trans (flat_len (m := 8) fun a _ => ?_) (Nat.mul_le_mul_right _ ?_)
            · rw [List.length_map]
              exact Nat.le_trans later_len z8
            · rw [List.length_take]
              omega
          have b2 : But p H1 G2 := fun b o nb e => sG2 _ _ (sG _ _ (bG b o nb e))
          refine ⟨p, D, _, _, rfl, rfl, sG2 _ _ hp1, hD, ?_, qs ++ rs, _, _, _, rfl, fun b o nb e => ?_, ?_, ?_, fun r hr => ?_⟩
          · rw [List.length_map, List.length_map, sizeLine_eq]
            omega
          · rw [upd_ne nb]
            exact b2 b o nb e
          · rw [upd_same, List.map_append]
          · rw [more_snoc hl]
            have key : ∀ {xs : List Addr} {ys : List (List Str)} {o : HO}, (∀ x ∈ xs, x ≠ p) → Rows G2 xs ys → Rows (upd G2 p o) xs ys := by
              intro xs ys o hx h
              induction h with
              | nil => exact .nil
              | cons r t ih => exact .cons (by rw [upd_ne (hx _ List.mem_cons_self)]; exact r) (ih fun x hm => hx x (List.mem_cons_of_mem _ hm))
            refine paired_appC (key (fun x hm => (new x hm).1) (Paired.mono (fun u l h => sG2 _ _ (sG _ _ h)) pr)) (key (fun x hm => (rnew x hm).2.1) prs)
          · rcases List.mem_append.mp hr with hr | hr
            · exact new r hr
            · exact (rnew r hr).2
    · rintro σ G ⟨qs, v3, v4, v5, rfl, bG, hpG, pr, new⟩
      rw [List.length_map, lus, List.take_length] at pr
      exact ⟨_, rfl, q G p qs (fun b o e => bG _ _ (ne_of_none e np) (s1 _ _ e)) np hpG pr fun u hu => (new u hu).2⟩
end
end K83

set_option Elab.async false
set_option linter.all false
set_option maxRecDepth 100000
set_option maxHeartbeats 4000000
namespace K83
open PySem PySem.Spec PyProof.Rows L2
section
variable {P : Program} {w : World} {K : PySem.W.Frag} {mg : Str → Option Value} {base : Heap} {C CP : Addr}
abbrev flN : List Str := ["page", "spread", "people", "apart", "marker", "other", "_", "lots", "enough", "lot"]
theorem ok_least {fA fF fM fPe : Addr} {pPe : Addr} {fd dF dM dPe : FuncData} (F : Fun K "found_least" "found_least" sFoundLeast fA fd)
    (GF : FnOk P w K mg base CX0 3 fF dF ["page", "spread"] (spFound C CP)) (kF : PySem.W.keepIn K (.ref fF) = true) (bF : Binds K dF ["page", "spread"] []) (gF : mg "found_clashes" = some (.ref fF))
    (GM : FnOk P w K mg base CX0 1 fM dM ["people", "lots"] spMore) (kM : PySem.W.keepIn K (.ref fM) = true) (bM : Binds K dM ["people", "lots"] []) (gM : mg "with_one_more" = some (.ref fM))
    (cl : Cls K C) (ppPe : PropOf K C "people" pPe fPe) (GPe : FnOk P w K mg base CX0 1 fPe dPe ["self"] (spCrowdPeople C)) (bPe : Binds K dPe ["self"] []) (clP : Cls K CP) (nC : NoAttr K CP "crowd") (zs_ : mg "sorted" = none) (B : Bt mg) (T : Tx mg) :
    FnOk P w K mg base CX0 4 fA fd ["page", "spread"] (spLeast C CP) := by
  refine F.ok scFoundLeast (fun vs H Q E h => ?_) (fun cdv A outer s H vs Q E hr h => ?_)
  · obtain ⟨x, sp, zs, m, f, rfl, _⟩ := h
    rfl
  · obtain ⟨x, sp, zs, m, f, rfl, ok, q⟩ := h
    obtain ⟨dx, c, d0, hx, hc, hd0⟩ := id ok.page
    obtain ⟨dc, lc, hcx, hcl⟩ := id hc
    have nd := ok.nd
    have z8 := ok.few
    have hu64 : (A.deeper (envOfC "found_least" (defScope sFoundLeast) s.heap.objs.size fA cdv)).units + 64 < cLine := hr.units
    refine ⟨_, pss_cons (ps_set (i := 2) scFoundLeast.nd rfl (.inl rfl) (pe_prop (pe_fld (pv 0) rfl) cl ppPe GPe (hr.mono (by decide)) bPe .nil pass0 rfl))
      (pss_cons (ps_set (i := 3) scFoundLeast.nd rfl (.inr rfl) (pe_callB (cr_sortDuo rfl) (by rfl) zs_ (by decide +kernel) (pa_cons (by
          refine' pe_scT (own := [("marker", 4), ("other", 5), ("_", 6)]) (g := gTup K 3 (gCons (gName 4) (gCons (gName 5) (gCons (gName 6) gNil)))) (by exact hu64) (by rfl) scFoundLeast.nd ?k1 (blkOk_by (own := [("marker", 4), ("other", 5), ("_", 6)]) (N := flN) (sc := defScope sFoundLeast) (by decide +kernel))
            (fun _ _ _ _ _ => by exact pg_tup rfl (pgs_cons (pg_name (i := 4) scFoundLeast.nd rfl (.inl rfl)) (pgs_cons (pg_name (i := 5) scFoundLeast.nd rfl (.inl rfl)) (pgs_cons (pg_name (i := 6) scFoundLeast.nd rfl (.inl rfl)) pgs_nil)))) (fun _ _ _ _ _ => pts_nil) (fun _ _ _ _ _ => by exact pe_tup (pa_cons (pv 4) (pa_cons (pv 5) pa_nil)))
          (case k1 => exact pi_list (pe_call GF hr (by rfl) gF kF bF .nil pass0 (pa_cons (pv 0) (pa_cons (pv 1) pa_nil))))) pa_nil)))
      (pss_cons (ps_set (i := 7) scFoundLeast.nd rfl (.inl rfl) (pe_lst (pa_cons (pe_lst pa_nil) pa_nil)))
      (pss_one (ps_while PassesOwn.never (pt_val pe_bl)
        (pss_cons (by
            refine' ps_setLc (i := 8) (own := [("lot", 9)]) (g := gName 9) (by rfl) scFoundLeast.nd rfl rfl (sw_true rfl rfl rfl (by decide +kernel)) ?n1 (blkOk_by (own := [("lot", 9)]) (N := flN) (sc := defScope sFoundLeast) (by decide +kernel)) (fun _ _ _ _ _ => pg_name (i := 9) scFoundLeast.nd rfl (Or.inr rfl)) ?n2 (fun _ _ _ _ _ => by exact pv 9)
            (case n1 => exact pi_seq (pv 7))
            (case n2 =>
              intro _ _ _ _ _
              refine' pts_one (pt_val (pe_callB (id := "all") (r := rAll K) (cr_all rfl) (by rfl) T.all (by decide +kernel) (pa_cons ?k0 pa_nil)))
              refine' pe_lc (own := [("marker", 4), ("other", 5)]) (wi := iSeq K (tVar 3)) (g := gTup K 2 (gCons (gName 4) (gCons (gName 5) gNil))) (by rfl) scFoundLeast.nd ?k1 (blkOk_by (own := [("marker", 4), ("other", 5)]) (N := flN) (by kernel_rfl)) ?k2 (fun _ _ _ _ _ => by exact pts_nil) ?k4
              (case k1 => exact pi_seq (pv 3))
              (case k2 => intro _ _ _ _ _; exact pg_tup rfl (pgs_cons (pg_name (i := 4) scFoundLeast.nd rfl (Or.inl rfl)) (pgs_cons (pg_name (i := 5) scFoundLeast.nd rfl (Or.inl rfl)) pgs_nil)))
              (case k4 =>
                intro _ _ _ _ _
                exact pe_or (pe_cmpR (r := rIn K false) op_in_seq (pv 4) (pv 9) (by rfl)) (pe_one (pe_cmpR (r := rIn K false) op_in_seq (pv 5) (pv 9) (by rfl))))))
        (pss_cons (ps_if (pt_cmpR op_gt (pe_callB call_len_seq (by rfl) B.len PySem.boot_len (pa_cons (pv 8) pa_nil)) pe_int (nomark _)) (pss_one (ps_ret (pv 8))) pss_nil)
        (pss_one (ps_set (i := 7) scFoundLeast.nd rfl (.inl rfl) (pe_call GM (hr.mono (by decide)) (by rfl) gM kM bM .nil pass0 (pa_cons (pv 2) (pa_cons (pv 7) pa_nil))))))))))), ?_⟩
    refine ⟨_, rfl, x, CP, dx, _, _, rfl, hx, clP, nC, rfl, c, dc, _, rfl, hcx, c, zs, m, rfl, hc, by omega, fun H1 wl s1 nw hw => ?_⟩
    refine ⟨_, rfl, _, rfl, x, sp, zs, m, f, rfl, ok.same s1, fun H2 l ps s2 nl hl pr => ⟨l, rfl, ⟨_, SqL.of hl⟩, fun D nD => ?_⟩⟩
    have lps : ps.length ≤ 512 := by
      rw [Paired.length pr]
      exact clashes_len z8
    have w2 := s2 _ _ hw
    refine nest_it (walk_list (K := K) (a := l) (xs := ps.map V.ref)) (fun i G => Same H2 G ∧ ∃ L : List Km.Ent, G D = some (TupSetW P w D L) ∧ (L.map (·.2)).Nodup ∧ (∀ p ∈ L, ∃ z : Str × Str, p.2 = duoK z ∧ G p.1 = some (.tup [.str z.1, .str z.2]) ∧ ∃ t ∈ (clashes zs f sp).take i, z = (t.1, t.2.1)) ∧ ∀ t ∈ (clashes zs f sp).take i, duoK (t.1, t.2.1) ∈ L.map (·.2))
      ⟨same_new nD, [], upd_same, List.nodup_nil, (fun p hp => nomatch hp), fun t ht => by simp at ht⟩ (fun i G _ h => SqL.of (h.1 _ _ hl)) ?_ ?_
    · rintro i y G G2 hi ⟨sG, L, hD, ndL, inL, allL⟩ ⟨rfl, hy⟩
      rw [List.getElem?_map] at hy
      obtain ⟨u, hu, rfl⟩ := Option.map_eq_some_iff.mp hy
      obtain ⟨t, ht, hT⟩ := pair_get pr hu
      have hT := sG _ _ hT
      have tm := clashes_mem (List.mem_of_getElem? ht)
      refine ⟨u, _, rfl, SqT.of hT, rfl, _, _, rfl, _, _, rfl, _, _, rfl, rfl, rfl, ?_⟩
      refine ⟨_, rfl, _, rfl, (by show 2 ≤ sizeLine; decide), fun a na => ?_⟩
      have sA : Same G2 (upd G2 a (.tup [.str t.1, .str t.2.1])) := same_new na
      have hA : upd G2 a (.tup [.str t.1, .str t.2.1]) a = some (.tup [.str t.1, .str t.2.1]) := upd_same
      generalize upd G2 a (.tup [.str t.1, .str t.2.1]) = G3 at sA hA
      have l64 : L.length ≤ 64 := duos_few z8 ndL fun p hp => by
        obtain ⟨z, e, _, t', ht', rfl⟩ := inL p hp
        have := clashes_mem (List.mem_of_mem_take ht')
        exact ⟨_, e, this.m1, this.m2⟩
      have naD : a ≠ D := fun e => by
        rw [e, hD] at na
        cases na
      refine ⟨a, duoK (t.1, t.2.1), L, rfl, SqT.of hA, sA _ _ hD, fun p hp => ?_, by omega, fun L2 c1 c2 => ?_⟩
      · obtain ⟨z, e, hz, _⟩ := inL p hp
        rw [e]
        exact SqT.of (sA _ _ hz)
      have tk : ∀ t', t' ∈ (clashes zs f sp).take (i + 1) ↔ t' ∈ (clashes zs f sp).take i ∨ t' = t := fun t' => by
        rw [List.take_add_one, ht, List.mem_append]
        simp
      have up : ∀ {b : Addr} {z : Str × Str}, G3 b = some (.tup [.str z.1, .str z.2]) → upd G3 D (TupSetW P w D L2) b = some (.tup [.str z.1, .str z.2]) := fun {b z} e => by
        rw [upd_ne (fun q => by
          rw [q, sA _ _ hD] at e
          cases e)]
        exact e
      refine ⟨same_at (sG.trans sA) nD, L2, upd_same, ?_⟩
      by_cases c : duoK (t.1, t.2.1) ∈ L.map (·.2)
      · obtain rfl := c1 c
        refine ⟨ndL, fun p hp => ?_, fun t' ht' => ?_⟩
        · obtain ⟨z, e, hz, t', ht', e2⟩ := inL p hp
          exact ⟨z, e, up (sA _ _ hz), t', (tk t').mpr (.inl ht'), e2⟩
        · rcases (tk t').mp ht' with h | rfl
          · exact allL t' h
          · exact c
      · have pm := c2 c
        refine ⟨?_, fun p hp => ?_, fun t' ht' => ?_⟩
        · refine (pm.map (·.2)).nodup_iff.mpr ?_
          rw [List.map_cons, List.nodup_cons]
          exact ⟨c, ndL⟩
        · rcases List.mem_cons.mp (pm.mem_iff.mp hp) with rfl | hp
          · exact ⟨(t.1, t.2.1), rfl, up hA, t, (tk t).mpr (.inr rfl), rfl⟩
          · obtain ⟨z, e, hz, t', ht', e2⟩ := inL p hp
            exact ⟨z, e, up (sA _ _ hz), t', (tk t').mpr (.inl ht'), e2⟩
        · rw [(pm.map (·.2)).mem_iff, List.map_cons]
          rcases (tk t').mp ht' with h | rfl
          · exact List.mem_cons_of_mem _ (allL t' h)
          · exact List.mem_cons_self
    rintro G ⟨sG, L, hD, ndL, inL, allL⟩
    rw [List.length_map, Paired.length pr, List.take_length] at inL allL
    refine ⟨D, L, rfl, hD, fun p hp => ?_, fun L2 ap pm nap => ?_⟩
    · obtain ⟨z, e, hz, _⟩ := inL p hp
      exact ⟨z, e, hz⟩
    have s3 : Same G (upd G ap (.lst (L2.map fun p => V.ref p.1))) := same_new nap
    have hap : upd G ap (.lst (L2.map fun p => V.ref p.1)) ap = some (.lst (L2.map fun p => V.ref p.1)) := upd_same
    generalize upd G ap (.lst (L2.map fun p => V.ref p.1)) = G3 at s3 hap
    obtain ⟨ds, dA, dap, sd⟩ : ∃ ds, DuosAt G3 ap ds ∧ ds.length ≤ 64 ∧ SameDuos ds (clashes zs f sp) := by
      obtain ⟨ds, e1, e2⟩ := duos_of (G := G3) (L := L2) fun p hp => by
        obtain ⟨z, e, hz, _⟩ := inL p (pm.mem_iff.mp hp)
        exact ⟨z, e, s3 _ _ hz⟩
      refine ⟨ds, ⟨L2.map (·.1), by rw [hap, List.map_map]; rfl, e2⟩, ?_, fun z => ?_⟩
      · have : L2.length = ds.length := by
          have := congrArg List.length e1
          rwa [List.length_map, List.length_map] at this
        rw [← this, pm.length_eq]
        refine duos_few z8 ndL fun p hp => ?_
        obtain ⟨z, e, _, t', ht', rfl⟩ := inL p hp
        have := clashes_mem ht'
        exact ⟨_, e, this.m1, this.m2⟩
      · have key : z ∈ ds ↔ duoK z ∈ L2.map (·.2) := by
          rw [e1]
          constructor
          · exact fun h => List.mem_map.mpr ⟨z, h, rfl⟩
          · intro h
            obtain ⟨y, hy, e⟩ := List.mem_map.mp h
            exact duoK_inj e ▸ hy
        rw [key, (pm.map (·.2)).mem_iff]
        constructor
        · intro h
          obtain ⟨p, hp, e⟩ := List.mem_map.mp h
          obtain ⟨y, e2, _, t', ht', rfl⟩ := inL p hp
          exact ⟨t', ht', duoK_inj (e.symm.trans e2)⟩
        · rintro ⟨t', ht', rfl⟩
          exact allL t' ht'
    have w3 := s3 _ _ (sG _ _ w2)
    have sH3 : Same H G3 := ((s1.trans s2).trans sG).trans s3
    clear inL allL hD ndL pm hap
    refine ⟨Nat.zero_le _, fun e0 ne0 => ?_⟩
    have s4 : Same G3 (upd G3 e0 (.lst [])) := same_new ne0
    have h0 : upd G3 e0 (.lst []) e0 = some (.lst []) := upd_same
    generalize upd G3 e0 (.lst []) = G4 at s4 h0
    refine ⟨(by show 1 ≤ sizeLine; decide), fun l0 nl0 => ?_⟩
    have s5 : Same G4 (upd G4 l0 (.lst [.ref e0])) := same_new nl0
    have hl0 : upd G4 l0 (.lst [.ref e0]) l0 = some (.lst [.ref e0]) := upd_same
    generalize upd G4 l0 (.lst [.ref e0]) = G5 at s5 hl0
    have s45 := s4.trans s5
    have sH5 := sH3.trans s45
    obtain ⟨k0, k0n, least⟩ := least_there (f := f) (sp := sp) nd
    refine ⟨fun n σ G => ∃ (k : Nat) (ll : Addr) (us : List Addr) (v8 : Option V), σ = [some (.ref x), some (.int sp), some (.ref wl), some (.ref ap), none, none, none, some (.ref ll), v8, none] ∧ n + k = k0 + 1 ∧ k ≤ k0 ∧ Same G5 G ∧ H ll = none ∧ G ll = some (.lst (us.map V.ref)) ∧ Rows G us (combos zs k) ∧ ∀ u ∈ us, H u = none,
      ⟨k0 + 1, 0, l0, [e0], none, rfl, rfl, Nat.zero_le _, Same.refl _, (sH3.trans s4).free nl0, hl0, ?_, fun u hu => ?_⟩, ?_⟩
    · rw [combos0]
      exact .cons (s5 _ _ h0) .nil
    · rw [List.mem_singleton.mp hu]
      exact sH3.free ne0
    rintro n σ G6 ⟨k, ll, us, v8, rfl, nk, kk, s6, nll, hll, rows, new⟩
    have lls : (combos zs k).length ≤ 256 := Nat.le_trans (combos_len zs k) (Nat.pow_le_pow_right (by decide) z8)
    have lus : us.length ≤ 256 := by
      rw [Paired.length rows]
      exact lls
    refine ⟨true, rfl, iteT ⟨fun σ G => ∃ (k : Nat) (ll : Addr) (us : List Addr) (v8 : Option V), σ = [some (.ref x), some (.int sp), some (.ref wl), some (.ref ap), none, none, none, some (.ref ll), v8, none] ∧ (n - 1) + k = k0 + 1 ∧ k ≤ k0 ∧ Same G5 G ∧ H ll = none ∧ G ll = some (.lst (us.map V.ref)) ∧ Rows G us (combos zs k) ∧ ∀ u ∈ us, H u = none,
      fun σ' G' h => ⟨n - 1, by omega, h⟩, ?_⟩⟩
    have dA6 := dA.same (s45.trans s6)
    refine ⟨_, rfl, ll, _, rfl, .inl (SqL.of hll), fun J ji D6 nD6 => ?_⟩
    refine lc_fm ji (os := (us.zip (combos zs k)).map fun q => if coverB (clashes zs f sp) q.2 = true then some (V.ref q.1) else none) (by rw [List.length_map, List.length_map, List.length_zip, ← Paired.length rows, Nat.min_self]) (by rw [List.length_map]; omega) nD6 (fun _ => rfl) (fun i y o G N M hy ho sG kN kM => ?_) (fun G sG hD => ?_)
    · rw [List.getElem?_map] at ho hy
      obtain ⟨u, hu, rfl⟩ := Option.map_eq_some_iff.mp hy
      obtain ⟨⟨u2, lot⟩, hq, eo⟩ := Option.map_eq_some_iff.mp ho
      obtain ⟨hq1, hq2⟩ := List.getElem?_zip_eq_some.mp hq
      dsimp only at hq1 hq2 eo
      rw [hu] at hq1
      obtain rfl := Option.some.inj hq1
      obtain ⟨lot2, hl2, hlot⟩ := pair_get rows hu
      rw [hq2] at hl2
      obtain rfl := Option.some.inj hl2
      have lotG := sG _ _ hlot
      obtain ⟨as, hapG, pas⟩ := dA6.same sG
      have las : as.length ≤ 64 := by
        rw [Paired.length pas]
        exact dap
      refine ⟨_, rfl, ap, _, rfl, .inl (SqL.of hapG), fun J2 ji2 D2 nD2 => ?_⟩
      obtain ⟨Gd, wk, g0, gS, _⟩ := ji2.walk
      refine nest_it wk (fun j G2 => Same G G2 ∧ G2 D2 = some (.lst ((ds.take j).map fun z => V.bl (decide (z.1 ∈ lot) || decide (z.2 ∈ lot))))) ⟨same_new nD2, upd_same⟩ (fun j G2 _ h => gS _ _ g0 h.1) ?_ ?_
      · rintro j y G2 G3' hj ⟨sG2, hD2⟩ ⟨rfl, hy⟩
        rw [List.getElem?_map] at hy
        obtain ⟨a, ha, rfl⟩ := Option.map_eq_some_iff.mp hy
        obtain ⟨z, hz, haz⟩ := pair_get pas ha
        have hT := sG2 _ _ haz
        have lG := sG2 _ _ lotG
        refine ⟨a, _, rfl, SqT.of hT, rfl, _, _, rfl, _, _, rfl, rfl, rfl, ?_⟩
        refine ⟨_, rfl, _, rfl, u, _, rfl, .inl (SqL.of lG), rfl, all_flat_strs _, ?_⟩
        rw [if_neg Bool.false_ne_true, inV_strs]
        have fin : ∀ b : Bool, b = (decide (z.1 ∈ lot) || decide (z.2 ∈ lot)) → ∃ acc, G3' D2 = some (.lst acc) ∧ acc.length < sizeLine ∧ Same G (upd G3' D2 (.lst (acc ++ [V.bl b]))) ∧ upd G3' D2 (.lst (acc ++ [V.bl b])) D2 = some (.lst ((ds.take (j + 1)).map fun z => V.bl (decide (z.1 ∈ lot) || decide (z.2 ∈ lot)))) := fun b e => by
          refine ⟨_, hD2, ?_, same_at sG2 nD2, ?_⟩
          · rw [List.length_map, List.length_take]
            exact small1000 (by omega)
          · rw [upd_same, List.take_add_one, hz, e, List.map_append]
            rfl
        refine ⟨_, rfl, ite2 (fun c1 => fin _ ?_) (fun c1 => ?_)⟩
        · rw [c1]
          rfl
        · refine ⟨_, rfl, _, rfl, u, _, rfl, .inl (SqL.of lG), rfl, all_flat_strs _, ?_⟩
          rw [if_neg Bool.false_ne_true, inV_strs]
          exact fin _ (by rw [Bool.eq_false_iff.mpr c1, Bool.false_or])
      · rintro G2 ⟨sG2, hD2⟩
        rw [List.length_map, Paired.length pas, List.take_length] at hD2
        refine ⟨D2, ds.map fun z => decide (z.1 ∈ lot) || decide (z.2 ∈ lot), rfl, SqL.of (by rw [hD2, List.map_map]; rfl), _, rfl, ?_⟩
        rw [List.all_map, show ((id : Bool → Bool) ∘ fun z : Str × Str => decide (z.1 ∈ lot) || decide (z.2 ∈ lot)) = fun z => decide (z.1 ∈ lot) || decide (z.2 ∈ lot) from rfl, cover_duos sd]
        cases hd : coverB (clashes zs f sp) lot with
        | false =>
          rw [if_neg (by rw [hd]; decide)] at eo
          exact iteF (kM _ eo.symm sG2)
        | true =>
          rw [if_pos hd] at eo
          exact iteT ⟨_, rfl, kN _ _ eo.symm sG2⟩
    · rw [fm_if (fun q : Addr × List Str => coverB (clashes zs f sp) q.2) (fun q => V.ref q.1)] at hD
      have rowsE : Rows G (((us.zip (combos zs k)).filter fun q => coverB (clashes zs f sp) q.2).map (·.1)) (enoughL zs (clashes zs f sp) k) := by
        have := paired_map (F := fun u l => G u = some (.lst (List.map V.str l))) (qs := (us.zip (combos zs k)).filter fun q => coverB (clashes zs f sp) q.2) fun q hq => sG _ _ (paired_zip rows q (List.mem_filter.mp hq).1)
        rwa [zip_snd (Paired.length rows)] at this
      have hE : G D6 = some (.lst ((((us.zip (combos zs k)).filter fun q => coverB (clashes zs f sp) q.2).map (·.1)).map V.ref)) := by
        rw [hD, List.map_map]
        rfl
      have inE : ∀ u ∈ (((us.zip (combos zs k)).filter fun q => coverB (clashes zs f sp) q.2).map (·.1)), u ∈ us := fun u hu => by
        obtain ⟨q, hq, rfl⟩ := List.mem_map.mp hu
        exact (List.of_mem_zip (List.mem_filter.mp hq).1).1
      generalize ((us.zip (combos zs k)).filter fun q => coverB (clashes zs f sp) q.2).map (·.1) = es at rowsE hE inE
      have sHG := (sH5.trans s6).trans sG
      have nD6H : H D6 = none := (sH5.trans s6).free nD6
      refine ⟨_, rfl, D6, _, rfl, .inl (SqL.of hE), _, _, rfl, rfl, _, rfl, ?_⟩
      rw [List.length_map]
      refine ite2 (fun c1 => ?_) (fun c1 => ?_)
      · refine ⟨_, rfl, q G D6 es k sHG nD6H hE ⟨fun e => ?_, fun j hj => least.none j (by omega)⟩ rowsE fun u hu => new u (inE u hu)⟩
        have l0 := Paired.length rowsE
        rw [e] at l0
        have := of_decide_eq_true c1
        rw [List.length_nil] at l0
        omega
      · have ne : k ≠ k0 := fun e => by
          have l0 := Paired.length rowsE
          have : ¬ (0 : Int) < (es.length : Int) := fun h => c1 (decide_eq_true h)
          have e2 : enoughL zs (clashes zs f sp) k = [] := List.length_eq_zero_iff.mp (by omega)
          rw [e] at e2
          exact least.some e2
        refine ⟨_, rfl, _, rfl, wl, ll, zs, us, combos zs k, rfl, sG _ _ (s6 _ _ (s45 _ _ w3)), nd, z8, sG _ _ hll, Paired.mono (fun u l h => sG _ _ h) rows, fun l hl => (combos_mem hl).1, by omega, fun G7 l7 us7 s7 nl7 hl7 rows7 new7 => ?_⟩
        rw [more_combos nd k] at rows7
        exact ⟨k + 1, l7, us7, _, rfl, by omega, by omega, (s6.trans sG).trans s7, sHG.free nl7, hl7, rows7, fun u hu => sHG.free (new7 u hu)⟩
end
end K83

set_option Elab.async false
set_option linter.all false
set_option maxRecDepth 100000
set_option maxHeartbeats 4000000
namespace K83
open PySem PySem.Spec PyProof.Rows L2
section
variable {P : Program} {w : World} {K : PySem.W.Frag} {mg : Str → Option Value} {base : Heap} {C CP : Addr}
theorem ok_leastOut {fA fNp fNn fL : Addr} {fd dNp dNn dL : FuncData} (F : Fun K "least_left_out" "least_left_out" sLeastLeftOut fA fd)
    (GNp : FnOk P w K mg base CX0 1 fNp dNp ["page"] (spNeedPage CP)) (kNp : PySem.W.keepIn K (.ref fNp) = true) (bNp : Binds K dNp ["page"] []) (gNp : mg "need_any_page" = some (.ref fNp))
    (GNn : FnOk P w K mg base CX0 3 fNn dNn ["number", "least", "most"] spNeedNum) (kNn : PySem.W.keepIn K (.ref fNn) = true) (bNn : Binds K dNn ["number", "least", "most"] []) (gNn : mg "need_number" = some (.ref fNn))
    (GL : FnOk P w K mg base CX0 4 fL dL ["page", "spread"] (spLeast C CP)) (kL : PySem.W.keepIn K (.ref fL) = true) (bL : Binds K dL ["page", "spread"] []) (gL : mg "found_least" = some (.ref fL))
    (cl : Cls K C) (nM : NoAttr K C "most") (clP : Cls K CP) (nC : NoAttr K CP "crowd") : FnOk P w K mg base CX0 5 fA fd ["page", "spread"] (spLeastOut C CP) := by
  refine F.ok scLeastLeftOut (fun vs H Q E h => ?_) (fun cdv A outer s H vs Q E hr h => ?_)
  · obtain ⟨x, sp, zs, m, f, rfl, _⟩ := h
    rfl
  · obtain ⟨x, sp, zs, m, f, rfl, ok, sp0, spm, q⟩ := h
    obtain ⟨dx, c, d0, hx, hc, hd0⟩ := id ok.page
    obtain ⟨dc, lc, hcx, hcl⟩ := id hc
    refine ⟨_, pss_cons (ps_expr (pe_call GNp (hr.mono (by decide)) (by rfl) gNp kNp bNp .nil pass0 (pa_cons (pv 0) pa_nil)))
      (pss_cons (ps_expr (pe_call GNn (hr.mono (by decide)) (by rfl) gNn kNn bNn .nil pass0 (pa_cons (pv 1) (pa_cons pe_int (pa_cons (pe_fld (pe_fld (pv 0) rfl) rfl) pa_nil)))))
      (pss_one (ps_ret (pe_call GL hr (by rfl) gL kL bL .nil pass0 (pa_cons (pv 0) (pa_cons (pv 1) pa_nil)))))), ?_⟩
    refine ⟨_, rfl, x, dx, _, rfl, hx, ?_⟩
    refine ⟨_, rfl, _, rfl, x, CP, dx, _, _, rfl, hx, clP, nC, rfl, c, C, dc, _, _, rfl, hcx, cl, nM, rfl, sp, 0, m, rfl, sp0, spm, ?_⟩
    exact ⟨_, rfl, _, rfl, x, sp, zs, m, f, rfl, ok, q⟩
end
end K83

set_option Elab.async false
set_option linter.all false
set_option maxRecDepth 100000
set_option maxHeartbeats 4000000
namespace K83
open PySem PySem.Spec PyProof.Rows L2
section
variable {P : Program} {w : World} {K : PySem.W.Frag} {mg : Str → Option Value} {base : Heap} {C CP CN : Addr}
theorem ok_marksC {fA fD fLp : Addr} {fd fdD dLp : FuncData} (F : Fun K "_law_marks" "_law_marks" sMarks fA fd) (GD : FnOk P w K mg base CX0 1 fD fdD ["_law_pool", "_law_many"] spDrawC) (kD : PySem.W.keepIn K (.ref fD) = true) (bD : Binds K fdD ["_law_pool", "_law_many"] []) (gD : mg "_law_draw" = some (.ref fD))
    (GLp : FnOk P w K mg base CX0 1 fLp dLp ["_law_words_here"] (spLawPairs K)) (gLp : mg "_law_pairs" = some (.ref fLp)) (kLp : PySem.W.keepIn K (.ref fLp) = true) (bLp : Binds K dLp ["_law_words_here"] []) (B : Bt mg) : FnOk P w K mg base CX0 2 fA fd ["_law_pool", "_law_game", "_law_missing"] spMarksC := by
  refine F.ok scMarks (fun vs H Q E h => ?_) (fun cdv A outer s H vs Q E hr h => ?_)
  · obtain ⟨a, pl, l, r, zs, m, rfl, _⟩ := h
    rfl
  · obtain ⟨a, pl, l, r, zs, m, rfl, hP, hpl, hl, nla, nd, z8, m1, m10, r100, q⟩ := h
    have hu1 : (A.deeper (envOfC "_law_marks" (defScope sMarks) s.heap.objs.size fA cdv)).units + 1 < cLine := by
      have := hr.units
      omega
    have l64 : (pairsOf zs).length ≤ 64 := pairs_len z8 z8
    refine ⟨_, pss_cons (ps_set (i := 3) scMarks.nd rfl (.inl rfl) pe_dnewT)
      (pss_cons (ps_for PassesOwn.never rfl (pi_list (pe_call GLp hr (by rfl) gLp kLp bLp .nil pass0 (pa_cons (pe_dget (by exact hu1) (pv 1) pe_str (fun _ _ => rfl)) pa_nil))) (pg_name (i := 4) scMarks.nd rfl (.inl rfl))
        (pss_cons (ps_set (i := 5) scMarks.nd rfl (.inl rfl) (pe_cut (fun _ H v H2 => (∃ b, v = .bl b) ∧ PoolC H2 a ∧ But a H H2) (pe_and (pe_cmpR op_gt (pv 2) pe_int (nomark _)) (pe_one (pe_cmpR op_eq (pe_call GD hr (by rfl) gD kD bD .nil pass0 (pa_cons (pv 0) (pa_cons (pv 2) pa_nil))) pe_int (nomark _))))))
        (pss_one (ps_dput (by exact hu1) (pv 3) (pv 4) (pe_ifExp (pt_val (pv 5)) pe_non (pe_call GD hr (by rfl) gD kD bD .nil pass0 (pa_cons (pv 0) (pa_cons (pe_op op_add (pe_dget (by exact hu1) (pv 1) pe_str (fun _ _ => rfl)) pe_int) pa_nil)))) rfl))))
      (pss_one (ps_ret (pv 3)))), ?_⟩
    refine fun p np => ?_
    generalize e1 : upd H p _ = H1
    have s1 : Same H H1 := e1 ▸ same_new np
    have h1 : H1 p = some (.dT []) := e1 ▸ upd_same
    refine ⟨_, rfl, pl, _, rfl, duoG_words (s1 _ _ hpl), l, zs, rfl, s1 _ _ hl, z8, fun H2 p2 ys s2 n2 h2 t2 => ?_⟩
    have len : ys.length = (pairsOf zs).length := t2.1
    have P2 : PoolC H2 a := (hP.same s1).same s2
    have nap : a ≠ p := (hP.ne np).symm
    have nap2 : p2 ≠ a := (hP.same s1).ne n2
    have npp2 : p2 ≠ p := fun e => by
      rw [e, h1] at n2
      cases n2
    refine ⟨p2, rfl, ⟨_, SqL.of h2⟩, ?_⟩
    have two : ∀ G, (∀ b o, b ≠ a → b ≠ p → H2 b = some o → G b = some o) → But a H G := fun G g b o hb e => by
      have hbp : b ≠ p := ne_of_none e np
      exact g b o hb hbp (s2 _ _ (s1 _ _ e))
    refine for_list (K := K) (a := p2) (xs := ys) (fun i σ G => ∃ v4 v5 f, σ = [some (.ref a), some (.ref pl), some (.int r), some (.ref p), v4, v5] ∧ PoolC G a ∧ (∀ b o, b ≠ a → b ≠ p → H2 b = some o → G b = some o) ∧ G p = some (.dT ((sheetOf zs f).take i)) ∧
      ∀ q ∈ (pairsOf zs).take i, mkOk m (f q) = true) ⟨_, _, fun _ => .non, rfl, P2, fun _ _ _ _ e => e, s2 _ _ h1, fun q hq => by simp at hq⟩ (fun i σ G _ h => ?_) ?_ ?_
    · obtain ⟨_, _, _, _, _, g, _, _⟩ := h
      exact SqL.of (g _ _ nap2 npp2 h2)
    · rintro i y σ G hy ⟨v4, v5, f, rfl, hPG, g, hG, hm⟩
      have hi2 : i < (pairsOf zs).length := by
        have := (List.getElem?_eq_some_iff.mp hy).1
        omega
      have hp := List.getElem?_eq_getElem hi2
      have hmem := List.getElem_mem hi2
      generalize (pairsOf zs)[i] = pq at hp hmem
      obtain ⟨t, rfl, ht⟩ := t2.2 i y pq hy hp
      have npt : t ≠ p := fun e => by
        rw [e, s2 _ _ h1] at ht
        cases ht
      have nat_ : t ≠ a := fun e => by
        obtain ⟨n0, ns0, i0, ha, hb⟩ := P2
        rw [e, ha] at ht
        cases ht
      have npl : pl ≠ a := fun e => by
        obtain ⟨n0, ns0, i0, ha, hb⟩ := hP
        rw [e, ha] at hpl
        cases hpl
      have nplp : pl ≠ p := ne_of_none hpl np
      have fin : ∀ (G3 : Hp) (v w5 : V), PoolC G3 a → (∀ b o, b ≠ a → b ≠ p → H2 b = some o → G3 b = some o) → G3 p = some (.dT ((sheetOf zs f).take i)) → mkOk m v = true → DPut G3 p (.ref t) v (upd G3 p (.dT (putK ((sheetOf zs f).take i) (key2 pq) v))) ∧
          ∃ v4 v5 f', [some (.ref a), some (.ref pl), some (.int r), some (.ref p), some (.ref t), some w5] = [some (V.ref a), some (.ref pl), some (.int r), some (.ref p), v4, v5] ∧ PoolC (upd G3 p (.dT (putK ((sheetOf zs f).take i) (key2 pq) v))) a ∧
            (∀ b o, b ≠ a → b ≠ p → H2 b = some o → upd G3 p (.dT (putK ((sheetOf zs f).take i) (key2 pq) v)) b = some o) ∧ upd G3 p (.dT (putK ((sheetOf zs f).take i) (key2 pq) v)) p = some (.dT ((sheetOf zs f').take (i + 1))) ∧ ∀ q ∈ (pairsOf zs).take (i + 1), mkOk m (f' q) = true := fun G3 v w5 hP3 g3 hG3 mv => by
        refine ⟨DPut.t (k := key2 pq) hG3 (g3 _ _ nat_ npt ht) ?_, _, _, withF f pq v, rfl, ?_, fun b o h1 h2 e => ?_, ?_, fun q hq => ?_⟩
        · rw [List.length_take]
          exact Nat.lt_of_le_of_lt (Nat.min_le_left _ _) (small1000 (by omega))
        · exact hP3.putT nap.symm hG3
        · rw [upd_ne h2]
          exact g3 b o h1 h2 e
        · have at2 : (sheetOf zs (withF f pq v))[i]? = some (key2 pq, v) := by
            rw [sheet_at hp]
            unfold withF
            rw [if_pos rfl]
          rw [upd_same, ← sheet_take_with nd hp (f := f) (v := v), put_take (sheet_nodup nd _) at2]
        · unfold withF
          by_cases e : q = pq
          · rw [if_pos e]
            exact mv
          · rw [if_neg e]
            rw [List.take_add_one, hp] at hq
            rcases List.mem_append.mp hq with hq | hq
            · exact hm q hq
            · exact absurd (List.mem_singleton.mp hq) e
      refine ⟨⟨_, rfl, _, _, rfl, rfl, _, rfl, ite2 (fun c => ?_) (fun _ => ⟨⟨_, rfl⟩, hPG, fun _ _ _ e => e⟩)⟩, ?_⟩
      · have c1 : (0 : Int) < r := of_decide_eq_true c
        exact ⟨_, rfl, _, rfl, a, _, rfl, hPG, by omega, fun r1 G3 r10 r11 hP3 b3 => ⟨rfl, ⟨_, rfl⟩, hP3, b3⟩⟩
      · rintro v G2 ⟨⟨b, rfl⟩, hP2, b2⟩
        have g2 : ∀ b o, b ≠ a → b ≠ p → H2 b = some o → G2 b = some o := fun b o h1 h2 e => b2 _ _ h1 (g b o h1 h2 e)
        have hG2 := b2 _ _ nap.symm hG
        refine ⟨_, rfl, b, rfl, ?_⟩
        cases b with
        | true =>
          obtain ⟨d1, d2⟩ := fin G2 .non (.bl true) hP2 g2 hG2 rfl
          exact iteT ⟨_, rfl, _, rfl, p, _, rfl, d1, d2⟩
        | false =>
          refine iteF ⟨_, rfl, _, rfl, pl, _, rfl, duoG_most (g2 _ _ npl nplp (s2 _ _ (s1 _ _ hpl))), _, _, rfl, rfl, a, _, rfl, hP2, by omega, fun r1 G3 r10 r11 hP3 b3 => ?_⟩
          obtain ⟨d1, d2⟩ := fin G3 (.int r1) (.bl false) hP3 (fun b o h1 h2 e => b3 _ _ h1 (g2 b o h1 h2 e)) (b3 _ _ nap.symm hG2) (by
            show (decide (V.int r1 = V.non) || (decide (0 ≤ r1) && decide (r1 ≤ m))) = true
            rw [decide_eq_true r10, decide_eq_true (show r1 ≤ m by omega)]
            simp)
          exact ⟨_, rfl, _, rfl, p, _, rfl, d1, d2⟩
    · rintro σ G ⟨v4, v5, f, rfl, hPG, g, hG, hm⟩
      rw [len, ← sheet_len (f := f), List.take_length] at hG
      rw [len, List.take_length] at hm
      exact ⟨_, rfl, q G p f hPG (two G g) np hG hm⟩
end
end K83

set_option Elab.async false
set_option linter.all false
set_option maxRecDepth 100000
set_option maxHeartbeats 4000000
namespace K83
open PySem PySem.Spec PyProof.Rows L2
def spAlways (C CP : Addr) : Sp := fun vs H Q _ => ∃ (x : Addr) (sp : Int) (zs : List Str) (m : Int) (f : Str × Str → V), vs = [.ref x, .int sp] ∧ PageOk H C CP x zs m f ∧ 0 ≤ sp ∧ sp ≤ m ∧
  ∀ H' l (k : Nat), Same H H' → H l = none → LeastN zs (clashes zs f sp) k → H' l = some (.lst ((zs.filter fun z => (enoughL zs (clashes zs f sp) k).all fun lot => decide (z ∈ lot)).map V.str)) → Q (.ref l) H'
section
variable {P : Program} {w : World} {K : PySem.W.Frag} {mg : Str → Option Value} {base : Heap} {C CP : Addr}
abbrev alN : List Str := ["page", "spread", "lots", "person", "lot"]
theorem ok_always {fA fNp fNn fL fPe : Addr} {pPe : Addr} {fd dNp dNn dL dPe : FuncData} (F : Fun K "always_left_out" "always_left_out" sAlwaysLeftOut fA fd)
    (GNp : FnOk P w K mg base CX0 1 fNp dNp ["page"] (spNeedPage CP)) (kNp : PySem.W.keepIn K (.ref fNp) = true) (bNp : Binds K dNp ["page"] []) (gNp : mg "need_any_page" = some (.ref fNp))
    (GNn : FnOk P w K mg base CX0 3 fNn dNn ["number", "least", "most"] spNeedNum) (kNn : PySem.W.keepIn K (.ref fNn) = true) (bNn : Binds K dNn ["number", "least", "most"] []) (gNn : mg "need_number" = some (.ref fNn))
    (GL : FnOk P w K mg base CX0 4 fL dL ["page", "spread"] (spLeast C CP)) (kL : PySem.W.keepIn K (.ref fL) = true) (bL : Binds K dL ["page", "spread"] []) (gL : mg "found_least" = some (.ref fL))
    (cl : Cls K C) (nM : NoAttr K C "most") (ppPe : PropOf K C "people" pPe fPe) (GPe : FnOk P w K mg base CX0 1 fPe dPe ["self"] (spCrowdPeople C)) (bPe : Binds K dPe ["self"] []) (clP : Cls K CP) (nC : NoAttr K CP "crowd") (T : Tx mg) : FnOk P w K mg base CX0 5 fA fd ["page", "spread"] (spAlways C CP) := by
  refine F.ok scAlwaysLeftOut (fun vs H Q E h => ?_) (fun cdv A outer s H vs Q E hr h => ?_)
  · obtain ⟨x, sp, zs, m, f, rfl, _⟩ := h
    rfl
  · obtain ⟨x, sp, zs, m, f, rfl, ok, sp0, spm, q⟩ := h
    obtain ⟨dx, c, d0, hx, hc, hd0⟩ := id ok.page
    obtain ⟨dc, lc, hcx, hcl⟩ := id hc
    have z8 := ok.few
    refine ⟨_, pss_cons (ps_expr (pe_call GNp (hr.mono (by decide)) (by rfl) gNp kNp bNp .nil pass0 (pa_cons (pv 0) pa_nil)))
      (pss_cons (ps_expr (pe_call GNn (hr.mono (by decide)) (by rfl) gNn kNn bNn .nil pass0 (pa_cons (pv 1) (pa_cons pe_int (pa_cons (pe_fld (pe_fld (pv 0) rfl) rfl) pa_nil)))))
      (pss_cons (ps_set (i := 2) scAlwaysLeftOut.nd rfl (.inr rfl) (pe_call GL hr (by rfl) gL kL bL .nil pass0 (pa_cons (pv 0) (pa_cons (pv 1) pa_nil))))
      (pss_one (ps_ret (by
        refine' pe_lc (own := [("person", 3)]) (g := gName 3) (by rfl) scAlwaysLeftOut.nd ?k1 (blkOk_by (own := [("person", 3)]) (N := alN) (sc := defScope sAlwaysLeftOut) (by decide +kernel)) (fun _ _ _ _ _ => pg_name (i := 3) scAlwaysLeftOut.nd rfl (Or.inr rfl)) ?k2 (fun _ _ _ _ _ => by exact pv 3)
        (case k1 => exact pi_list (pe_prop (pe_fld (pv 0) rfl) cl ppPe GPe (hr.mono (by decide)) bPe .nil pass0 rfl))
        (case k2 =>
          intro _ _ _ _ _
          refine' pts_one (pt_val (pe_callB (id := "all") (r := rAll K) (cr_all rfl) (by rfl) T.all (by decide +kernel) (pa_cons ?k0 pa_nil)))
          refine' pe_lc (own := [("lot", 4)]) (wi := iList K (tVar 2)) (g := gName 4) (by rfl) scAlwaysLeftOut.nd ?k3 (blkOk_by (own := [("lot", 4)]) (N := alN) (by kernel_rfl)) ?k4 (fun _ _ _ _ _ => by exact pts_nil) ?k5
          (case k3 => exact pi_list (pv 2))
          (case k4 => intro _ _ _ _ _; exact pg_name (i := 4) scAlwaysLeftOut.nd rfl (Or.inl rfl))
          (case k5 => intro _ _ _ _ _; exact pe_cmpR (r := rIn K false) op_in_seq (pv 3) (pv 4) (by rfl)))))))), ?_⟩
    refine ⟨_, rfl, x, dx, _, rfl, hx, ?_⟩
    refine ⟨_, rfl, _, rfl, x, CP, dx, _, _, rfl, hx, clP, nC, rfl, c, C, dc, _, _, rfl, hcx, cl, nM, rfl, sp, 0, m, rfl, sp0, spm, ?_⟩
    refine ⟨_, rfl, _, rfl, x, sp, zs, m, f, rfl, ok, fun H1 l us k s1 nl hl least rows _ => ?_⟩
    refine ⟨_, rfl, x, CP, dx, _, _, rfl, s1 _ _ hx, clP, nC, rfl, c, dc, _, rfl, s1 _ _ hcx, c, zs, m, rfl, hc.same s1, by omega, fun H2 wl s2 nw hw => ?_⟩
    refine ⟨wl, rfl, ⟨_, SqL.of hw⟩, fun D nD => ?_⟩
    have hl2 := s2 _ _ hl
    have rows2 : Rows H2 us (enoughL zs (clashes zs f sp) k) := Paired.mono (fun u t h => s2 _ _ h) rows
    have nlt : (enoughL zs (clashes zs f sp) k).length ≤ 256 := by
      unfold enoughL
      refine Nat.le_trans (List.length_filter_le _ _) (Nat.le_trans (combos_len zs k) ?_)
      calc 2 ^ zs.length ≤ 2 ^ 8 := Nat.pow_le_pow_right (by decide) z8
        _ = 256 := by decide
    refine nest_it (walk_list (K := K) (a := wl) (xs := zs.map V.str)) (fun i G => Same H2 G ∧ G D = some (.lst (((zs.take i).filter fun z => (enoughL zs (clashes zs f sp) k).all fun lot => decide (z ∈ lot)).map V.str))) ⟨same_new nD, upd_same⟩ (fun i G _ h => SqL.of (h.1 _ _ hw)) ?_ ?_
    · rintro i y G G2 hi ⟨sG, hD⟩ ⟨rfl, hy⟩
      rw [List.getElem?_map] at hy
      obtain ⟨z, hz, rfl⟩ := Option.map_eq_some_iff.mp hy
      refine ⟨rfl, _, rfl, l, rfl, ⟨_, SqL.of (sG _ _ hl2)⟩, fun D2 nD2 => ?_⟩
      refine nest_it (walk_list (K := K) (a := l) (xs := us.map V.ref)) (fun j G' => Same G2 G' ∧ G' D2 = some (.lst (((enoughL zs (clashes zs f sp) k).take j).map fun lot => V.bl (decide (z ∈ lot))))) ⟨same_new nD2, upd_same⟩ (fun j G' _ h => SqL.of (h.1 _ _ (sG _ _ hl2))) ?_ ?_
      · rintro j y G' G3 hj ⟨s', hD2⟩ ⟨rfl, hy2⟩
        rw [List.getElem?_map] at hy2
        obtain ⟨u, hu, rfl⟩ := Option.map_eq_some_iff.mp hy2
        obtain ⟨lot, hlot, hul⟩ := pair_get rows2 hu
        have hul : H2 u = some (.lst (lot.map V.str)) := hul
        refine ⟨rfl, _, rfl, _, rfl, u, _, rfl, .inl (SqL.of (s' _ _ (sG _ _ hul))), rfl, all_flat_strs _, ?_⟩
        rw [if_neg Bool.false_ne_true, inV_strs]
        refine ⟨_, hD2, ?_, same_at s' nD2, ?_⟩
        · rw [List.length_map, List.length_take]
          exact small1000 (by omega)
        · rw [upd_same, List.take_add_one, hlot, List.map_append]
          rfl
      · rintro G' ⟨s', hD2⟩
        rw [List.length_map, Paired.length rows2, List.take_length] at hD2
        refine ⟨D2, (enoughL zs (clashes zs f sp) k).map fun lot => decide (z ∈ lot), rfl, SqL.of (by rw [hD2, List.map_map]; rfl), _, rfl, ?_⟩
        rw [List.all_map]
        have tk : (zs.take (i + 1)).filter (fun z => (enoughL zs (clashes zs f sp) k).all fun lot => decide (z ∈ lot)) = (zs.take i).filter (fun z => (enoughL zs (clashes zs f sp) k).all fun lot => decide (z ∈ lot)) ++ (if ((enoughL zs (clashes zs f sp) k).all fun lot => decide (z ∈ lot)) = true then [z] else []) := by
          rw [List.take_add_one, hz, List.filter_append]
          refine congrArg _ ?_
          show List.filter _ [z] = _
          rw [List.filter_cons]
          rfl
        refine ite2 (fun c => ?_) (fun c => ?_)
        · have c : ((enoughL zs (clashes zs f sp) k).all fun lot => decide (z ∈ lot)) = true := c
          refine ⟨_, rfl, _, s' _ _ hD, ?_, same_at (sG.trans s') nD, ?_⟩
          · rw [List.length_map]
            have := List.length_filter_le (fun z => (enoughL zs (clashes zs f sp) k).all fun lot => decide (z ∈ lot)) (zs.take i)
            rw [List.length_take] at this
            exact small1000 (by omega)
          · rw [upd_same, tk, if_pos c, List.map_append]
            rfl
        · have c : ¬ ((enoughL zs (clashes zs f sp) k).all fun lot => decide (z ∈ lot)) = true := c
          refine ⟨sG.trans s', ?_⟩
          rw [tk, if_neg c, List.append_nil]
          exact s' _ _ hD
    · rintro G ⟨sG, hD⟩
      rw [List.length_map, List.take_length] at hD
      exact q G D k ((s1.trans s2).trans sG) (s1.free (s2.free nD)) least hD
end
end K83

set_option Elab.async false
set_option linter.all false
set_option maxRecDepth 100000
set_option maxHeartbeats 4000000
/-! Odd values for lists and sizes. -/
namespace L2
open PySem PySem.Spec PyProof.Rows
def OddL (K : PySem.W.Frag) (zs : List Str) (H : Hp) (v : V) : Prop := v ≠ .non ∧ ∃ o, ListsArg K H v o ∧ argB zs o = false
section
variable {K : PySem.W.Frag} {zs : List Str} {H : Hp} {a b e w : Addr}
theorem OddL.same {H2 : Hp} {v : V} (s : Same H H2) (h : OddL K zs H v) : OddL K zs H2 v := ⟨h.1, h.2.elim fun o z => ⟨o, z.1.same s, z.2⟩⟩
theorem ty_strs (H : Hp) (ks : List Str) : ∀ x ∈ ks.map V.str, ∃ T, TyN K H x T := fun x hx => by
  obtain ⟨z, _, rfl⟩ := List.mem_map.mp hx
  exact ⟨"str", .base (.str _), by decide⟩
theorem odd_str (z : Str) : OddL K zs H (.str z) := ⟨(fun e => nomatch e), none, .no (T := "str") ⟨.base (.str _), by decide⟩ (by decide) (by decide), rfl⟩
theorem odd_dict {kvs : List (Key × V)} (h : H a = some (.dK kvs)) : OddL K zs H (.ref a) := ⟨(fun e => nomatch e), none, .no (T := "dict") ⟨.base (.dK h), by decide⟩ (by decide) (by decide), rfl⟩
theorem odd_seq {xs : List V} {os : List (Option (List V))} (h : H a = some (.lst xs)) (hl : xs.length ≤ 10) (p : Paired (MemArg K H) xs os) (hb : listsB zs os = false) : OddL K zs H (.ref a) := ⟨(fun e => nomatch e), some os, .seq (.inl h) hl p, hb⟩
theorem memA_strs {ks : List Str} (h : H b = some (.lst (ks.map V.str))) (hl : ks.length ≤ 100) : MemArg K H (.ref b) (some (ks.map V.str)) := .seq (.inl h) (ty_strs H ks) (by rw [List.length_map]; exact hl)
theorem memA_nil (h : H b = some (.lst [])) : MemArg K H (.ref b) (some []) := .seq (.inl h) (fun x hx => by cases hx) (by decide)
theorem memA_non : MemArg K H .non none := .no (T := "NoneType") ⟨.base .non, by decide⟩ (by decide) (by decide)
theorem memA_str (z : Str) : MemArg K H (.str z) none := .no (T := "str") ⟨.base (.str _), by decide⟩ (by decide) (by decide)
theorem lists_len {os : List (Option (List V))} (h : (flatO os).length ≠ zs.length) : listsB zs os = false := by
  unfold listsB
  rw [decide_eq_false h, Bool.false_and, Bool.and_false]
theorem lists_mem {os : List (Option (List V))} (h : os.all memOk = false) : listsB zs os = false := by
  unfold listsB
  rw [h, Bool.false_and]
theorem odd_nil (h : H a = some (.lst [])) (one : 1 ≤ zs.length) : OddL K zs H (.ref a) := odd_seq h (by decide) .nil (lists_len (by show 0 ≠ zs.length; omega))
theorem odd_ee (h : H a = some (.lst [.ref e])) (he : H e = some (.lst [])) : OddL K zs H (.ref a) := odd_seq h (by show 1 ≤ 10; decide) (.cons (memA_nil he) .nil) (lists_mem rfl)
theorem odd_len {ks : List Str} (h : H a = some (.lst [.ref b])) (hb : H b = some (.lst (ks.map V.str))) (hl : ks.length ≤ 100) (n : ks.length ≠ zs.length) : OddL K zs H (.ref a) :=
  odd_seq h (by show 1 ≤ 10; decide) (.cons (memA_strs hb hl) .nil) (lists_len (by show (ks.map V.str ++ []).length ≠ zs.length; rw [List.append_nil, List.length_map]; exact n))
theorem odd_ww (h : H a = some (.lst [.ref w, .ref w])) (hw : H w = some (.lst (zs.map V.str))) (one : 1 ≤ zs.length) (z8 : zs.length ≤ 8) : OddL K zs H (.ref a) :=
  odd_seq h (by show 2 ≤ 10; decide) (.cons (memA_strs hw (by omega)) (.cons (memA_strs hw (by omega)) .nil)) (lists_len (by
    show (zs.map V.str ++ (zs.map V.str ++ [])).length ≠ zs.length
    rw [List.append_nil, List.length_append, List.length_map]
    omega))
theorem odd_we (h : H a = some (.lst [.ref w, .ref e])) (hw : H w = some (.lst (zs.map V.str))) (he : H e = some (.lst [])) (z8 : zs.length ≤ 8) : OddL K zs H (.ref a) :=
  odd_seq h (by show 2 ≤ 10; decide) (.cons (memA_strs hw (by omega)) (.cons (memA_nil he) .nil)) (lists_mem (by
    show (memOk (some (zs.map V.str)) && (memOk (some []) && true)) = false
    cases memOk (some (zs.map V.str)) <;> rfl))
theorem odd_n (h : H a = some (.lst [.non])) : OddL K zs H (.ref a) := odd_seq h (by show 1 ≤ 10; decide) (.cons memA_non .nil) (lists_mem rfl)
theorem odd_nn (h : H a = some (.lst [.ref b])) (hb : H b = some (.lst [.non])) : OddL K zs H (.ref a) :=
  odd_seq h (by show 1 ≤ 10; decide) (.cons (.seq (.inl hb) (fun x hx => by rw [List.mem_singleton.mp hx]; exact ⟨"NoneType", .base .non, by decide⟩) (by show 1 ≤ 100; decide)) .nil) (by
    show (_ && (_ && ((hasB .non zs && true) && _))) = false
    show (_ && (_ && ((false && true) && _))) = false
    rw [Bool.false_and, Bool.false_and, Bool.and_false, Bool.and_false])
theorem odd_w (h : H w = some (.lst (zs.map V.str))) (one : 1 ≤ zs.length) (z8 : zs.length ≤ 8) : OddL K zs H (.ref w) := by
  refine odd_seq (os := zs.map fun _ => none) h (by rw [List.length_map]; omega) ?_ ?_
  · have : ∀ ks : List Str, Paired (MemArg K H) (ks.map V.str) (ks.map fun _ => (none : Option (List V))) := fun ks => by
      induction ks with
      | nil => exact .nil
      | cons k ks ih => exact .cons (memA_str k) ih
    exact this zs
  · cases zs with
    | nil => simp at one
    | cons z zs => exact lists_mem rfl
end
/-- data that repr tells -/
def okD (d : PyData) : Bool := d.showable && (decide (d.depth ≤ 100) && decide (d.shown.length ≤ sizeLine))
def OddS (K : PySem.W.Frag) (n : Nat) (H : Hp) (v : V) : Prop := ∃ (o : Option (List V)) (d : PyData), SizesArg K H v o ∧ sizesB n o = false ∧ (∀ H2, Same H H2 → Dd K H2 v d) ∧ okD d = true
section
variable {K : PySem.W.Frag} {n : Nat} {H : Hp} {a : Addr}
theorem OddS.same {H2 : Hp} {v : V} (s : Same H H2) (h : OddS K n H v) : OddS K n H2 v := by
  obtain ⟨o, d, h1, h2, h3, h4⟩ := h
  exact ⟨o, d, h1.same s, h2, fun G t => h3 G (s.trans t), h4⟩
theorem six {P : Nat → Prop} (h1 : P 1) (h2 : P 2) (h3 : P 3) (h4 : P 4) (h5 : P 5) (h6 : P 6) (a : 1 ≤ n) (b : n ≤ 6) : P n := by
  have : n = 1 ∨ n = 2 ∨ n = 3 ∨ n = 4 ∨ n = 5 ∨ n = 6 := by omega
  rcases this with rfl | rfl | rfl | rfl | rfl | rfl <;> assumption
theorem sz_non : OddS K n H .non := ⟨none, .none, .no (T := "NoneType") ⟨.base .non, by decide⟩ (by decide) (by decide), rfl, fun _ _ => .inl ⟨.non, rfl⟩, by decide +kernel⟩
theorem sz_int (h1 : 1 ≤ n) (h6 : n ≤ 6) : OddS K n H (.int (n : Int)) := ⟨none, .int n, .no (T := "int") ⟨.base (.int _), by decide⟩ (by decide) (by decide), rfl, fun _ _ => .inl ⟨.int _, rfl⟩, six (P := fun n => okD (.int (n : Int)) = true) (by decide +kernel) (by decide +kernel) (by decide +kernel) (by decide +kernel) (by decide +kernel) (by decide +kernel) h1 h6⟩
theorem dp_flatD {ds : List PyData} {xs : List V} (h : ∀ H2, DpAll K H2 xs ds) (e : ∀ H2, Same H H2 → H2 a = some (.lst xs)) (nd : (PyData.list ds).hasDict = false) : ∀ H2, Same H H2 → Dd K H2 (.ref a) (.list ds) := fun H2 s => .inl ⟨.lst (SqL.of (e H2 s)) (h H2), nd⟩
theorem sz_seq {xs : List V} {ds : List PyData} (h : H a = some (.lst xs)) (hl : xs.length ≤ 100) (ht : ∀ x ∈ xs, ∃ T, TyN K H x T) (hb : sizesB n (some xs) = false) (hd : ∀ H2, DpAll K H2 xs ds) (ok : ((PyData.list ds).hasDict || !okD (.list ds)) = false) : OddS K n H (.ref a) := by
  rw [Bool.or_eq_false_iff] at ok
  exact ⟨some xs, .list ds, .seq (.inl h) hl ht, hb, dp_flatD hd (fun H2 s => s _ _ h) ok.1, by have := ok.2; simpa using this⟩
theorem ty_ints (H : Hp) (is : List Int) : ∀ x ∈ is.map V.int, ∃ T, TyN K H x T := fun x hx => by
  obtain ⟨z, _, rfl⟩ := List.mem_map.mp hx
  exact ⟨"int", .base (.int _), by decide⟩
theorem dp_intsC (H : Hp) : ∀ is : List Int, DpAll K H (is.map V.int) (is.map PyData.int)
  | [] => .nil
  | i :: is => .cons (.int i) (dp_intsC H is)
/-- a list of ints that are no sizes -/
theorem sz_ints {is : Nat → List Int} (h : H a = some (.lst ((is n).map V.int))) (h1 : 1 ≤ n) (h6 : n ≤ 6)
    (ok : ∀ m, 1 ≤ m → m ≤ 6 → (decide ((is m).length ≤ 100) && (!sizesB m (some ((is m).map V.int)) && !((PyData.list ((is m).map PyData.int)).hasDict || !okD (.list ((is m).map PyData.int))))) = true) : OddS K n H (.ref a) := by
  have := ok n h1 h6
  rw [Bool.and_eq_true, Bool.and_eq_true, decide_eq_true_eq, Bool.not_eq_true', Bool.not_eq_true'] at this
  exact sz_seq h (by rw [List.length_map]; exact this.1) (ty_ints H _) this.2.1 (fun H2 => dp_intsC H2 _) this.2.2
theorem sz_tup (h : H a = some (.tup [.int (n : Int), .int 1])) (h1 : 1 ≤ n) (h6 : n ≤ 6) : OddS K n H (.ref a) := by
  refine ⟨some [.int (n : Int), .int 1], .tuple [.int n, .int 1], .seq (.inr h) (by show 2 ≤ 100; decide) (ty_ints H [n, 1]), ?_, fun H2 s => .inl ⟨.tup (SqT.of (s _ _ h)) (.cons (.int _) (.cons (.int _) .nil)), rfl⟩, ?_⟩
  · exact six (P := fun n => sizesB n (some [.int (n : Int), .int 1]) = false) (by decide +kernel) (by decide +kernel) (by decide +kernel) (by decide +kernel) (by decide +kernel) (by decide +kernel) h1 h6
  · exact six (P := fun n => okD (.tuple [.int n, .int 1]) = true) (by decide +kernel) (by decide +kernel) (by decide +kernel) (by decide +kernel) (by decide +kernel) (by decide +kernel) h1 h6
theorem dp_trues (H : Hp) : ∀ m : Nat, DpAll K H (List.replicate m (V.bl true)) (List.replicate m (PyData.bool true))
  | 0 => .nil
  | m + 1 => by
    rw [List.replicate_succ, List.replicate_succ]
    exact .cons (.bl true) (dp_trues H m)
theorem sz_true (h : H a = some (.lst (List.replicate n (.bl true)))) (h1 : 1 ≤ n) (h6 : n ≤ 6) : OddS K n H (.ref a) := by
  refine sz_seq h (by rw [List.length_replicate]; omega) (fun x hx => by rw [(List.mem_replicate.mp hx).2]; exact ⟨"bool", .base (.bl _), by decide⟩) ?_ (fun H2 => dp_trues H2 n) ?_
  · exact six (P := fun n => sizesB n (some (List.replicate n (.bl true))) = false) (by decide +kernel) (by decide +kernel) (by decide +kernel) (by decide +kernel) (by decide +kernel) (by decide +kernel) h1 h6
  · exact six (P := fun n => ((PyData.list (List.replicate n (.bool true))).hasDict || !okD (.list (List.replicate n (.bool true)))) = false) (by decide +kernel) (by decide +kernel) (by decide +kernel) (by decide +kernel) (by decide +kernel) (by decide +kernel) h1 h6
theorem sz_one (h : H a = some (.lst [.str "1"])) : OddS K n H (.ref a) :=
  sz_seq h (by show 1 ≤ 100; decide) (fun x hx => by rw [List.mem_singleton.mp hx]; exact ⟨"str", .base (.str _), by decide⟩) rfl (fun H2 => .cons (.str _) .nil) (by decide +kernel)
theorem sz_dict (h : H a = some (.dK [(.inl (n : Int), .int 1)])) (h1 : 1 ≤ n) (h6 : n ≤ 6) : OddS K n H (.ref a) := by
  refine ⟨none, .dict (([((.inl (n : Int) : Key), (1 : Int))].map fun p => keyD p.1).zip ([((.inl (n : Int) : Key), (1 : Int))].map fun p => PyData.int p.2)), .no (T := "dict") ⟨.base (.dK h), by decide⟩ (by decide) (by decide), rfl, fun H2 s => .inr ⟨a, [(.inl (n : Int), 1)], rfl, s _ _ h, rfl⟩, ?_⟩
  exact six (P := fun n : Nat => okD (.dict (([((.inl (n : Int) : Key), (1 : Int))].map fun p => keyD p.1).zip ([((.inl (n : Int) : Key), (1 : Int))].map fun p => PyData.int p.2))) = true) (by decide +kernel) (by decide +kernel) (by decide +kernel) (by decide +kernel) (by decide +kernel) (by decide +kernel) h1 h6
theorem sz_plus (h : H a = some (.lst (([(n : Int) + 1] : List Int).map V.int))) (h1 : 1 ≤ n) (h6 : n ≤ 6) : OddS K n H (.ref a) :=
  sz_ints (is := fun n => [(n : Int) + 1]) h h1 h6 fun m a b => six (P := fun m => (decide (([(m : Int) + 1] : List Int).length ≤ 100) && (!sizesB m (some (([(m : Int) + 1] : List Int).map V.int)) && !((PyData.list (([(m : Int) + 1] : List Int).map PyData.int)).hasDict || !okD (.list (([(m : Int) + 1] : List Int).map PyData.int))))) = true) (by decide +kernel) (by decide +kernel) (by decide +kernel) (by decide +kernel) (by decide +kernel) (by decide +kernel)  a b
theorem sz_front (h : H a = some (.lst (([0, (n : Int)] : List Int).map V.int))) (h1 : 1 ≤ n) (h6 : n ≤ 6) : OddS K n H (.ref a) :=
  sz_ints (is := fun n => [0, (n : Int)]) h h1 h6 fun m a b => six (P := fun m => (decide (([0, (m : Int)] : List Int).length ≤ 100) && (!sizesB m (some (([0, (m : Int)] : List Int).map V.int)) && !((PyData.list (([0, (m : Int)] : List Int).map PyData.int)).hasDict || !okD (.list (([0, (m : Int)] : List Int).map PyData.int))))) = true) (by decide +kernel) (by decide +kernel) (by decide +kernel) (by decide +kernel) (by decide +kernel) (by decide +kernel)  a b
theorem sz_minus (h : H a = some (.lst (([(n : Int) - 1] : List Int).map V.int))) (h1 : 1 ≤ n) (h6 : n ≤ 6) : OddS K n H (.ref a) :=
  sz_ints (is := fun n => [(n : Int) - 1]) h h1 h6 fun m a b => six (P := fun m => (decide (([(m : Int) - 1] : List Int).length ≤ 100) && (!sizesB m (some (([(m : Int) - 1] : List Int).map V.int)) && !((PyData.list (([(m : Int) - 1] : List Int).map PyData.int)).hasDict || !okD (.list (([(m : Int) - 1] : List Int).map PyData.int))))) = true) (by decide +kernel) (by decide +kernel) (by decide +kernel) (by decide +kernel) (by decide +kernel) (by decide +kernel)  a b
theorem sz_back (h : H a = some (.lst (([(n : Int), 0] : List Int).map V.int))) (h1 : 1 ≤ n) (h6 : n ≤ 6) : OddS K n H (.ref a) :=
  sz_ints (is := fun n => [(n : Int), 0]) h h1 h6 fun m a b => six (P := fun m => (decide (([(m : Int), 0] : List Int).length ≤ 100) && (!sizesB m (some (([(m : Int), 0] : List Int).map V.int)) && !((PyData.list (([(m : Int), 0] : List Int).map PyData.int)).hasDict || !okD (.list (([(m : Int), 0] : List Int).map PyData.int))))) = true) (by decide +kernel) (by decide +kernel) (by decide +kernel) (by decide +kernel) (by decide +kernel) (by decide +kernel)  a b
theorem sz_nil (h : H a = some (.lst (([] : List Int).map V.int))) (h1 : 1 ≤ n) (h6 : n ≤ 6) : OddS K n H (.ref a) :=
  sz_ints (is := fun n => []) h h1 h6 fun m a b => six (P := fun m => (decide (([] : List Int).length ≤ 100) && (!sizesB m (some (([] : List Int).map V.int)) && !((PyData.list (([] : List Int).map PyData.int)).hasDict || !okD (.list (([] : List Int).map PyData.int))))) = true) (by decide +kernel) (by decide +kernel) (by decide +kernel) (by decide +kernel) (by decide +kernel) (by decide +kernel)  a b
theorem okD_parts {d : PyData} (h : okD d = true) : d.showable = true ∧ d.depth ≤ 100 ∧ d.shown.length ≤ sizeLine := by
  unfold okD at h
  rw [Bool.and_eq_true, Bool.and_eq_true, decide_eq_true_eq, decide_eq_true_eq] at h
  exact h
theorem rep_true (n : Nat) : (List.replicate ((n : Int)).toNat [V.bl true]).flatten = List.replicate n (V.bl true) := by
  rw [Int.toNat_natCast]
  induction n with
  | zero => rfl
  | succ n ih => rw [List.replicate_succ, List.flatten_cons, ih, List.replicate_succ]; rfl
theorem merge1 (n : Int) : mergeK [] [((Sum.inl n : Key), V.int 1)] = [((Sum.inl n : Key), V.int 1)] := by
  rw [merge_new (κ := []) (by simp), List.nil_append]
theorem same_over {X Y : Hp} {c : Addr} {o : HO} (n : X c = none) (s : Same X Y) : Same X (upd Y c o) := fun b q e => by
  rw [upd_ne (ne_of_none e n)]
  exact s _ _ e
end
end L2

set_option Elab.async false
set_option linter.all false
set_option maxRecDepth 100000
set_option maxHeartbeats 4000000
/-! repr of a page's marks: a dict by pairs. -/
namespace L2
open PySem PySem.Spec PyProof.Rows
theorem reads_at {h : Heap} : ∀ {vs : List Value} {ds : List PyData}, vs.length = ds.length → (∀ (i : Nat) v d, vs[i]? = some v → ds[i]? = some d → Reads h v d []) → ReadsAll h vs ds []
  | [], [], _, _ => .nil
  | [], _ :: _, h, _ => by cases h
  | _ :: _, [], h, _ => by cases h
  | v :: vs, d :: ds, l, r => .cons (as := []) (bs := []) (r 0 v d rfl rfl) (reads_at (Nat.succ.inj l) fun i v d h1 h2 => r (i + 1) v d h1 h2)
def sheetD (zs : List Str) (f : Str × Str → V) : PyData := .dict (((pairsOf zs).map pairD).zip ((pairsOf zs).map fun p => markD (f p)))
/-- data: as before, or a page's marks -/
def Dx (K : PySem.W.Frag) (H : Hp) (v : V) (d : PyData) : Prop := Dd K H v d ∨ ∃ (b : Addr) (zs : List Str) (m : Int) (f : Str × Str → V), v = .ref b ∧ H b = some (.dT (sheetOf zs f)) ∧ (∀ p ∈ pairsOf zs, mkOk m (f p) = true) ∧ m ≤ 10 ∧ d = sheetD zs f
section
variable {X : Cx} {pins : List (Addr × Obj)} {σ : St} {H : Hp} {s : Shared}
theorem sheet_reads {b : Addr} {zs : List Str} {m : Int} {f : Str × Str → V} (I : Inv X pins σ H s) (hb : H b = some (.dT (sheetOf zs f))) (mk : ∀ p ∈ pairsOf zs, mkOk m (f p) = true) (m10 : m ≤ 10) : ∃ as, Reads s.heap (.ref b) (sheetD zs f) as ∧ sysModules ∉ as := by
  obtain ⟨ns, es, ep, ⟨o, ho, hx, hd⟩, lz, _, at_⟩ := I.rawT hb
  rw [sheet_len] at lz
  have ln : es.toList.length = (pairsOf zs).length := by rw [Array.length_toList, lz]
  have each : ∀ (i : Nat) (p : Str × Str), (pairsOf zs)[i]? = some p → ∃ (hi : i < es.size) (q : Addr), es[i].key = .ref q ∧ H q = some (.tup ((key2 p).map kV)) ∧ RelV (f p) es[i].val := fun i p hp => at_ i (key2 p) (f p) (sheet_at hp)
  refine ⟨b :: [] ++ [], Reads.dict ho hx.1 hd ?_ ?_, fun z => ?_⟩
  · rw [List.map_fst_zip (by simp)]
    refine reads_at (by rw [List.length_map, List.length_map, ln]) fun i v d hv hdd => ?_
    rw [List.getElem?_map] at hv hdd
    obtain ⟨p, hp, rfl⟩ := Option.map_eq_some_iff.mp hdd
    obtain ⟨e, he, rfl⟩ := Option.map_eq_some_iff.mp hv
    obtain ⟨hi, q, e1, e2, _⟩ := each i p hp
    rw [Array.getElem?_toList, Array.getElem?_eq_getElem hi] at he
    obtain rfl := Option.some.inj he
    rw [e1]
    obtain ⟨its, rv, ⟨ob, hob, hcl, n, hdt⟩, _⟩ := I.tuple (SqT.of (K := X.K) e2)
    cases rv with
    | cons r1 rv =>
      cases rv with
      | cons r2 rv =>
        cases rv
        obtain ⟨t1, rfl⟩ := r1
        obtain ⟨t2, rfl⟩ := r2
        exact Reads.tuple hob hcl hdt (.cons (as := []) (bs := []) (.str p.1 t1) (.cons (as := []) (bs := []) (.str p.2 t2) .nil))
  · rw [List.map_snd_zip (by simp)]
    refine reads_at (by rw [List.length_map, List.length_map, ln]) fun i v d hv hdd => ?_
    rw [List.getElem?_map] at hv hdd
    obtain ⟨p, hp, rfl⟩ := Option.map_eq_some_iff.mp hdd
    obtain ⟨e, he, rfl⟩ := Option.map_eq_some_iff.mp hv
    obtain ⟨hi, q, _, _, e3⟩ := each i p hp
    rw [Array.getElem?_toList, Array.getElem?_eq_getElem hi] at he
    obtain rfl := Option.some.inj he
    generalize es[i].val = u at e3
    rcases mark_cases (mk p (List.mem_of_getElem? hp)) m10 with e | ⟨k, _, e⟩
    · rw [e] at e3 ⊢
      cases e3
      exact .none
    · rw [e] at e3 ⊢
      obtain ⟨t, rfl⟩ := e3
      exact .int k t
  · simp only [List.append_nil, List.mem_singleton] at z
    rw [← z] at ns
    simp at ns
/-- repr(x), data of these kinds -/
def rReprX (K : PySem.W.Frag) : List V → Hp → VK → Prop := fun xs H Q => ∃ (x : V) (d : PyData), xs = [x] ∧ Dx K H x d ∧ d.showable = true ∧ d.depth ≤ 100 ∧ d.shown.length ≤ sizeLine ∧ Q (.str d.shown) H
theorem call_reprX (hg : X.A.guards = some []) (hu : X.A.units + 200 < cLine) : CallR X (.builtin "repr") (rReprX X.K) := by
  intro pins s σ H xs us Q I r h
  obtain ⟨x, d, rfl, D, sh, dep, hz, q⟩ := h
  rcases id D with D | ⟨b, zs, m, f, rfl, hb, mk, m10, rfl⟩
  · exact call_reprDd hg hu pins s σ H _ us Q I r ⟨x, d, rfl, D, sh, dep, hz, q⟩
  · obtain ⟨u, rfl, ru⟩ := vals1 r
    cases ru
    obtain ⟨as, ra, ns⟩ := sheet_reads I hb mk m10
    exact repr_of_reads' ra sh (fun _ => ns) hg (by omega) (fun _ _ z => z) (fun h2 t tk k => ⟨.str _, H, I.kept (t' := tk) k, ⟨_, rfl⟩, q⟩) hz
end
theorem kv_all : ∀ {l : List (PyData × PyData)}, (∀ q ∈ l, Small q.1 ∧ Small q.2) → PyData.showableKv l = true ∧ PyData.depthKv l ≤ 3 ∧ ((PyData.shownKv l).map (·.length)).sum ≤ l.length * 62 ∧ (PyData.shownKv l).length = l.length
  | [], _ => ⟨rfl, by simp [PyData.depthKv], by simp [PyData.shownKv], rfl⟩
  | (k, v) :: l, h => by
    obtain ⟨h1, h2, h3, h4⟩ := kv_all fun q hq => h q (List.mem_cons_of_mem _ hq)
    obtain ⟨⟨_, a2, a3, a4, _⟩, ⟨_, b2, b3, b4, _⟩⟩ := h (k, v) List.mem_cons_self
    refine ⟨?_, ?_, ?_, ?_⟩
    · rw [PyData.showableKv, a2, b2, h1]
      rfl
    · simp only [PyData.depthKv]
      dsimp only at a3 b3
      omega
    · rw [PyData.shownKv, List.map_cons, List.sum_cons, List.length_cons, Nat.succ_mul, Str.length_append, Str.length_append]
      have c : (Str.ofString ": ").length = 2 := by decide
      dsimp only at a4 b4
      omega
    · rw [PyData.shownKv, List.length_cons, List.length_cons, h4]
theorem namesC_pairs : ∀ a ∈ namesC, ∀ b ∈ namesC, Small (pairD (a, b)) := by
  unfold Small
  decide +kernel
theorem sheet_ok {zs : List Str} {m : Int} {f : Str × Str → V} (hz : ∀ z ∈ zs, z ∈ namesC) (z8 : zs.length ≤ 8) (mk : ∀ p ∈ pairsOf zs, mkOk m (f p) = true) (m10 : m ≤ 10) : okD (sheetD zs f) = true := by
  have l64 : (pairsOf zs).length ≤ 64 := pairs_len z8 z8
  obtain ⟨h1, h2, h3, h4⟩ := kv_all (l := ((pairsOf zs).map pairD).zip ((pairsOf zs).map fun p => markD (f p))) fun q hq => by
    obtain ⟨q1, q2⟩ := List.of_mem_zip (a := q.1) (b := q.2) hq
    obtain ⟨p, hp, e1⟩ := List.mem_map.mp q1
    obtain ⟨p2, hp2, e2⟩ := List.mem_map.mp q2
    refine ⟨?_, ?_⟩
    · rw [← e1]
      obtain ⟨a, ha, hp⟩ := List.mem_flatMap.mp hp
      obtain ⟨b, hb, rfl⟩ := List.mem_map.mp hp
      exact namesC_pairs a (hz a ha) b (hz b (List.mem_filter.mp hb).1)
    · rw [← e2]
      exact small_mark (mk p2 hp2) m10
  have ln : (((pairsOf zs).map pairD).zip ((pairsOf zs).map fun p => markD (f p))).length ≤ 64 := by
    rw [List.length_zip, List.length_map, List.length_map, Nat.min_self]
    exact l64
  unfold okD sheetD
  rw [PyData.showable, h1, PyData.depth, PyData.shown, Bool.true_and, Bool.and_eq_true, decide_eq_true_eq, decide_eq_true_eq]
  refine ⟨by omega, ?_⟩
  have := PySem.dictText_len_le (PyData.shownKv (((pairsOf zs).map pairD).zip ((pairsOf zs).map fun p => markD (f p))))
  rw [h4] at this
  rw [sizeLine_eq]
  omega
end L2
namespace L2
open PySem PySem.Spec PyProof.Rows
theorem ok_app (a b : Str) : PyData.strOk (a ++ b) = (PyData.strOk a && PyData.strOk b) := by
  unfold PyData.strOk
  rw [show (a ++ b).cps = a.cps ++ b.cps from rfl, Array.all_append]
theorem ok_join {sep : Str} (hs : PyData.strOk sep = true) : ∀ {l : List Str}, (∀ x ∈ l, PyData.strOk x = true) → PyData.strOk (Str.join sep l) = true
  | [], _ => by
    show PyData.strOk Str.empty = true
    decide +kernel
  | [x], h => h x List.mem_cons_self
  | x :: y :: r, h => by
    show PyData.strOk (x ++ sep ++ Str.join sep (y :: r)) = true
    rw [ok_app, ok_app, h x List.mem_cons_self, hs, ok_join hs fun z hz => h z (List.mem_cons_of_mem _ hz)]
    rfl
theorem kv_ok : ∀ {l : List (PyData × PyData)}, (∀ q ∈ l, PyData.strOk q.1.shown = true ∧ PyData.strOk q.2.shown = true) → ∀ x ∈ PyData.shownKv l, PyData.strOk x = true
  | [], _, x, h => by cases h
  | (k, v) :: l, h, x, hx => by
    rw [PyData.shownKv] at hx
    rcases List.mem_cons.mp hx with rfl | hx
    · obtain ⟨h1, h2⟩ := h (k, v) List.mem_cons_self
      rw [ok_app, ok_app, h1, h2]
      decide +kernel
    · exact kv_ok (fun q hq => h q (List.mem_cons_of_mem _ hq)) x hx
theorem ok_pairs : ∀ a ∈ namesC, ∀ b ∈ namesC, PyData.strOk (pairD (a, b)).shown = true := by decide +kernel
theorem ok_ints : ∀ k < 11, PyData.strOk (PyData.int ((k : Nat) : Int)).shown = true := by decide +kernel
theorem sheet_strOk {zs : List Str} {m : Int} {f : Str × Str → V} (hz : ∀ z ∈ zs, z ∈ namesC) (mk : ∀ p ∈ pairsOf zs, mkOk m (f p) = true) (m10 : m ≤ 10) : PyData.strOk (sheetD zs f).shown = true := by
  unfold sheetD
  rw [PyData.shown]
  unfold dictText
  rw [ok_app, ok_app, ok_join (by decide +kernel) (kv_ok fun q hq => ?_)]
  · decide +kernel
  obtain ⟨q1, q2⟩ := List.of_mem_zip (a := q.1) (b := q.2) hq
  obtain ⟨p, hp, e1⟩ := List.mem_map.mp q1
  obtain ⟨p2, hp2, e2⟩ := List.mem_map.mp q2
  refine ⟨?_, ?_⟩
  · rw [← e1]
    obtain ⟨a, ha, hp⟩ := List.mem_flatMap.mp hp
    obtain ⟨b, hb, rfl⟩ := List.mem_map.mp hp
    exact ok_pairs a (hz a ha) b (hz b (List.mem_filter.mp hb).1)
  · rw [← e2]
    rcases mark_cases (mk p2 hp2) m10 with e | ⟨k, hk, e⟩
    · rw [e]
      decide +kernel
    · rw [e]
      exact ok_ints k hk
end L2

set_option Elab.async false
set_option linter.all false
set_option maxRecDepth 100000
set_option maxHeartbeats 4000000
/-! What the defs about clashes refuse. -/
namespace L2
open PySem PySem.Spec PyProof.Rows Km
def NotPage (K : PySem.W.Frag) (CP : Addr) (H : Hp) (v : V) : Prop := ∃ t, TyX K H v t ∧ PySem.W.kitOne K t (.ref CP) = some false
def spNeedPageBad (K : PySem.W.Frag) (CP CA : Addr) : Sp := fun vs H _ E => ∃ v, vs = [v] ∧ NotPage K CP H v ∧ ∀ H' d, Raised H H' d "value" v → E (.ref CA) (some d) H'
def spNumBad (K : PySem.W.Frag) (CN : Addr) : Sp := fun vs H _ E => ∃ (v : V) (a b : Int), vs = [v, .int a, .int b] ∧ (∃ T, TyN K H v T) ∧ L2.markB a b v = false ∧ ∀ H' d, Raised H H' d "number" v → E (.ref CN) (some d) H'
def NumOdd (K : PySem.W.Frag) (H : Hp) (b : Int) (n : V) : Prop := (∃ T, TyN K H n T) ∧ L2.markB 0 b n = false
def spBadTwo (K : PySem.W.Frag) (C CP CA CN : Addr) (lim : Int → Int) : Sp := fun vs H _ E => ∃ (v n : V), vs = [v, n] ∧ ((NotPage K CP H v ∧ ∀ H' d, Raised H H' d "value" v → E (.ref CA) (some d) H') ∨
  ∃ (x : Addr) (zs : List Str) (m : Int) (f : Str × Str → V), v = .ref x ∧ PageOk H C CP x zs m f ∧ NumOdd K H (lim m) n ∧ ∀ H' d, Raised H H' d "number" n → E (.ref CN) (some d) H')
inductive PeopleOdd (K : PySem.W.Frag) (H : Hp) (zs : List Str) : V → Prop
  | no {v : V} {T : String} : TyN K H v T → T ≠ "list" → T ≠ "tuple" → PeopleOdd K H zs v
  | mem {a : Addr} {xs : List V} : H a = some (.lst xs) → xs.length ≤ 8 → (∀ x ∈ xs, ∃ T, TyN K H x T) → (xs.all fun x => hasB x zs) = false → PeopleOdd K H zs (.ref a)
  | two {a : Addr} {z : Str} : H a = some (.lst [.str z, .str z]) → z ∈ zs → PeopleOdd K H zs (.ref a)
def spSomeBad (K : PySem.W.Frag) (C : Addr) : Sp := fun vs H Q _ => ∃ (c : Addr) (v : V) (zs : List Str) (m : Int), vs = [.ref c, v] ∧ CrowdOf H C c zs m ∧ PeopleOdd K H zs v ∧ ∀ H', Same H H' → Q (.bl false) H'
def spGoBad (K : PySem.W.Frag) (C CP CA CN : Addr) : Sp := fun vs H _ E => ∃ (v pp n : V), vs = [v, pp, n] ∧ ((NotPage K CP H v ∧ ∀ H' d, Raised H H' d "value" v → E (.ref CA) (some d) H') ∨
  ∃ (x : Addr) (zs : List Str) (m : Int) (f : Str × Str → V), v = .ref x ∧ PageOk H C CP x zs m f ∧ ((PeopleOdd K H zs pp ∧ ∀ H' d, Raised H H' d "value" pp → E (.ref CA) (some d) H') ∨
    ∃ e, pp = .ref e ∧ H e = some (.lst []) ∧ NumOdd K H m n ∧ ∀ H' d, Raised H H' d "number" n → E (.ref CN) (some d) H'))
def spGoesS (C CP : Addr) : Sp := fun vs H Q _ => ∃ (x v : Addr) (sp : Int) (zs ys : List Str) (m : Int) (f : Str × Str → V), vs = [.ref x, .ref v, .int sp] ∧ PageOk H C CP x zs m f ∧ ys.length ≤ 8 ∧ ys.Nodup ∧ (∀ y ∈ ys, y ∈ zs) ∧ HSeq H v (ys.map V.str) ∧ 0 ≤ sp ∧ sp ≤ m ∧
  ∀ H', Same H H' → Q (.bl (togetherB (clashes zs f sp) ys)) H'
def spClashes (C CP : Addr) : Sp := fun vs H Q _ => ∃ (x : Addr) (sp : Int) (zs : List Str) (m : Int) (f : Str × Str → V), vs = [.ref x, .int sp] ∧ PageOk H C CP x zs m f ∧ 0 ≤ sp ∧ sp ≤ m ∧
  ∀ H' l (ps : List Addr), Same H H' → H l = none → H' l = some (.lst (ps.map V.ref)) → Paired (TriAt H') ps (clashes zs f sp) → Q (.ref l) H'
def ToldArgs (K : PySem.W.Frag) (C CP : Addr) (H : Hp) (way : Int) (pg pp n : V) (w : Str) (v : V) : Prop :=
  (0 ≤ way ∧ way ≤ 4 ∧ NotPage K CP H pg ∧ w = "argument" ∧ v = pg) ∨
  ∃ (x : Addr) (zs : List Str) (m : Int) (f : Str × Str → V), pg = .ref x ∧ PageOk H C CP x zs m f ∧
    ((way = 0 ∧ PeopleOdd K H zs pp ∧ w = "argument" ∧ v = pp) ∨
     (0 ≤ way ∧ way ≤ 3 ∧ (∃ e, pp = .ref e ∧ H e = some (.lst [])) ∧ NumOdd K H m n ∧ w = "number" ∧ v = n) ∨
     (way = 4 ∧ NumOdd K H 8 n ∧ w = "number" ∧ v = n))
def spToldC (K : PySem.W.Frag) (C CP : Addr) : Sp := fun vs H Q _ => ∃ (way : Int) (pg pp n : V) (w : Str) (v : V) (d : PyData), vs = [.int way, pg, pp, n] ∧ ToldArgs K C CP H way pg pp n w v ∧ (∀ H', Same H H' → Dx K H' v d) ∧ okD d = true ∧
  ∀ H' l, Same H H' → H l = none → H' l = some (.lst [.str w, .str d.shown]) → Q (.ref l) H'
def spLawClashes : Sp := fun vs H Q _ => ∃ (wl d : Addr) (sp : Int) (zs : List Str) (m : Int) (f : Str × Str → V), vs = [.ref wl, .ref d, .int sp] ∧ H wl = some (.lst (zs.map V.str)) ∧ H d = some (.dT (sheetOf zs f)) ∧ zs.Nodup ∧ zs.length ≤ 8 ∧ (∀ p ∈ pairsOf zs, mkOk m (f p) = true) ∧
  ∀ H' l (ps : List Addr), Same H H' → H l = none → H' l = some (.lst (ps.map V.ref)) → Paired (TriAt H') ps (clashes zs f sp) → Q (.ref l) H'
theorem mkAt_self {zs : List Str} {f : Str × Str → V} {a : Str} : mkAt zs f (a, a) = .non := by
  unfold mkAt
  rw [if_neg]
  intro h
  obtain ⟨b, _, h⟩ := List.mem_flatMap.mp h
  obtain ⟨c, hc, e⟩ := List.mem_map.mp h
  have := (List.mem_filter.mp hc).2
  simp only [Prod.mk.injEq] at e
  simp [e.1, e.2] at this
theorem far_non {x y : V} {sp : Int} (h : x = .non ∨ y = .non) : farV x y sp = false := by
  rcases h with rfl | rfl
  · rfl
  · cases x <;> rfl
/-- nobody clashes over one of the two themselves -/
theorem clashC_others {zs : List Str} {f : Str × Str → V} {sp : Int} {a b : Str} {cs : List Str} : clashC zs f sp a b (cs.filter fun c => decide (c ∉ [a, b])) = clashC zs f sp a b cs := by
  unfold clashC
  refine congrArg _ ?_
  rw [List.filter_filter]
  refine List.filter_congr fun c _ => ?_
  by_cases e1 : c = a
  · subst e1
    rw [far_non (.inl mkAt_self), Bool.false_and]
  · by_cases e2 : c = b
    · subst e2
      rw [far_non (.inr mkAt_self), Bool.false_and]
    · rw [decide_eq_true (by simp [e1, e2]), Bool.and_true]
end L2

set_option Elab.async false
set_option linter.all false
set_option maxRecDepth 100000
set_option maxHeartbeats 4000000
/-! All sets of words, by size, and the least ones that are enough (mathematics only). -/
namespace L2
open PySem PySem.Spec PyProof.Rows
def setsZ : List Str → List (List Str)
  | [] => [[]]
  | z :: zs => (setsZ zs).map (z :: ·) ++ setsZ zs
theorem setsZ_len : ∀ zs : List Str, (setsZ zs).length = 2 ^ zs.length
  | [] => rfl
  | z :: zs => by
    show ((setsZ zs).map (z :: ·) ++ setsZ zs).length = 2 ^ (zs.length + 1)
    rw [List.length_append, List.length_map, setsZ_len zs, Nat.pow_succ]
    omega
theorem setsZ_combos : ∀ (zs : List Str) (k : Nat), ((setsZ zs).filter fun l => decide (l.length = k)) = combos zs k
  | [], 0 => rfl
  | [], k + 1 => rfl
  | z :: zs, 0 => by
    show List.filter _ ((setsZ zs).map (z :: ·) ++ setsZ zs) = [[]]
    rw [List.filter_append, setsZ_combos zs 0, combos0, List.filter_eq_nil_iff.mpr, List.nil_append]
    intro l hl
    obtain ⟨m, _, rfl⟩ := List.mem_map.mp hl
    simp
  | z :: zs, k + 1 => by
    show List.filter _ ((setsZ zs).map (z :: ·) ++ setsZ zs) = (combos zs k).map (z :: ·) ++ combos zs (k + 1)
    rw [List.filter_append, setsZ_combos zs (k + 1), ← setsZ_combos zs k, List.filter_map]
    refine congrArg (· ++ combos zs (k + 1)) (congrArg _ (List.filter_congr fun l _ => ?_))
    show decide ((z :: l).length = k + 1) = decide (l.length = k)
    exact decide_eq_decide.mpr (by rw [List.length_cons]; omega)
/-- a list of sets, by size, equal sizes in their order -/
structure BySize (zs : List Str) (out : List (List Str)) : Prop where
  up : out.Pairwise fun a b => a.length ≤ b.length
  cls : ∀ k : Nat, (out.filter fun l => decide (l.length = k)) = combos zs k
/-- the least ones of those seen -/
def DueAt (cl : List Tri) (p due : List (List Str)) : Prop :=
  (due = [] ∧ ∀ l ∈ p, coverB cl l = false) ∨ ∃ k, due = (p.filter fun l => decide (l.length = k) && coverB cl l) ∧ due ≠ [] ∧ ∀ l ∈ p, l.length < k → coverB cl l = false
theorem DueAt.nil {cl : List Tri} : DueAt cl [] [] := .inl ⟨rfl, fun l h => by cases h⟩
theorem DueAt.size {cl : List Tri} {p due : List (List Str)} {k : Nat} (h : due = (p.filter fun l => decide (l.length = k) && coverB cl l)) : ∀ l ∈ due, l ∈ p ∧ l.length = k := fun l hl => by
  rw [h] at hl
  obtain ⟨h1, h2⟩ := List.mem_filter.mp hl
  rw [Bool.and_eq_true, decide_eq_true_eq] at h2
  exact ⟨h1, h2.1⟩
/-- passed over: of another size -/
theorem DueAt.other {cl : List Tri} {p due : List (List Str)} {d0 l : List Str} (h : DueAt cl p due) (h0 : due[0]? = some d0) (up : ∀ x ∈ p, x.length ≤ l.length) (n : l.length ≠ d0.length) : DueAt cl (p ++ [l]) due := by
  rcases h with ⟨rfl, _⟩ | ⟨k, e, ne, lt⟩
  · cases h0
  · obtain ⟨m0, k0⟩ := DueAt.size e d0 (List.mem_of_getElem? h0)
    have := up d0 m0
    refine .inr ⟨k, ?_, ne, fun x hx hk => ?_⟩
    · rw [List.filter_append, ← e, List.filter_cons, if_neg (by rw [decide_eq_false (show ¬ l.length = k by omega)]; simp), List.filter_nil, List.append_nil]
    · rcases List.mem_append.mp hx with hx | hx
      · exact lt x hx hk
      · rw [List.mem_singleton.mp hx] at hk
        omega
/-- tried, not enough -/
theorem DueAt.no {cl : List Tri} {p due : List (List Str)} {l : List Str} (h : DueAt cl p due) (c : coverB cl l = false) : DueAt cl (p ++ [l]) due := by
  rcases h with ⟨rfl, h⟩ | ⟨k, e, ne, lt⟩
  · refine .inl ⟨rfl, fun x hx => ?_⟩
    rcases List.mem_append.mp hx with hx | hx
    · exact h x hx
    · rw [List.mem_singleton.mp hx]
      exact c
  · refine .inr ⟨k, ?_, ne, fun x hx hk => ?_⟩
    · rw [List.filter_append, ← e, List.filter_cons, if_neg (by rw [c, Bool.and_false]; exact Bool.false_ne_true), List.filter_nil, List.append_nil]
    · rcases List.mem_append.mp hx with hx | hx
      · exact lt x hx hk
      · rw [List.mem_singleton.mp hx]
        exact c
/-- enough -/
theorem DueAt.yes {cl : List Tri} {p due : List (List Str)} {l : List Str} (h : DueAt cl p due) (up : ∀ x ∈ p, x.length ≤ l.length) (s : due = [] ∨ ∃ d0, due[0]? = some d0 ∧ l.length = d0.length) (c : coverB cl l = true) : DueAt cl (p ++ [l]) (due ++ [l]) := by
  rcases h with ⟨rfl, h⟩ | ⟨k, e, ne, lt⟩
  · refine .inr ⟨l.length, ?_, by simp, fun x hx hk => ?_⟩
    · rw [List.filter_append, List.filter_eq_nil_iff.mpr fun x hx => ?_, List.filter_cons, if_pos (by rw [c, decide_eq_true rfl]; rfl), List.filter_nil]
      rw [h x hx, Bool.and_false]
      exact Bool.false_ne_true
    · rcases List.mem_append.mp hx with hx | hx
      · exact h x hx
      · rw [List.mem_singleton.mp hx] at hk
        omega
  · rcases s with s | ⟨d0, h0, s⟩
    · exact absurd s ne
    · obtain ⟨m0, k0⟩ := DueAt.size e d0 (List.mem_of_getElem? h0)
      refine .inr ⟨k, ?_, by simp, fun x hx hk => ?_⟩
      · rw [List.filter_append, ← e, List.filter_cons, if_pos (by rw [c, decide_eq_true (show l.length = k by omega)]; rfl), List.filter_nil]
      · rcases List.mem_append.mp hx with hx | hx
        · exact lt x hx hk
        · rw [List.mem_singleton.mp hx] at hk
          omega
theorem DueAt.done {zs : List Str} {cl : List Tri} {out due : List (List Str)} {k : Nat} (b : BySize zs out) (h : DueAt cl out due) (least : LeastN zs cl k) : due = enoughL zs cl k := by
  have mem : ∀ {j : Nat} {l : List Str}, l ∈ combos zs j → l ∈ out ∧ l.length = j := fun {j l} hl => by
    rw [← b.cls j] at hl
    obtain ⟨h1, h2⟩ := List.mem_filter.mp hl
    exact ⟨h1, of_decide_eq_true h2⟩
  rcases h with ⟨rfl, h⟩ | ⟨j, e, ne, lt⟩
  · refine absurd ?_ least.some
    unfold enoughL
    rw [List.filter_eq_nil_iff]
    intro l hl
    rw [h l (mem hl).1]
    exact Bool.false_ne_true
  · have e2 : due = enoughL zs cl j := by
      unfold enoughL
      rw [e, ← b.cls j, List.filter_filter]
      exact List.filter_congr fun l _ => Bool.and_comm _ _
    have : j = k := LeastN.uniq ⟨by rw [← e2]; exact ne, fun i hi => by
      unfold enoughL
      rw [List.filter_eq_nil_iff]
      intro l hl
      obtain ⟨h1, h2⟩ := mem hl
      rw [lt l h1 (by omega)]
      exact Bool.false_ne_true⟩ least
    rw [e2, this]
end L2

set_option Elab.async false
set_option linter.all false
set_option maxRecDepth 100000
set_option maxHeartbeats 4000000
namespace K83
open PySem PySem.Spec PyProof.Rows L2
theorem sub_after {ys zs : List Str} (s : ys.Sublist zs) : ∀ {i : Nat} {a b : Str}, ys[i]? = some a → b ∈ ys.drop (i + 1) → ∃ j, zs[j]? = some a ∧ b ∈ zs.drop (j + 1) := by
  induction s with
  | slnil => intro i a b h; simp at h
  | cons c s ih =>
    intro i a b h hb
    obtain ⟨j, h1, h2⟩ := ih h hb
    exact ⟨j + 1, h1, h2⟩
  | cons_cons c s ih =>
    intro i a b h hb
    cases i with
    | zero => exact ⟨0, h, s.subset hb⟩
    | succ i =>
      obtain ⟨j, h1, h2⟩ := ih h hb
      exact ⟨j + 1, h1, h2⟩
theorem after_uniq {zs : List Str} (nd : zs.Nodup) {i j : Nat} {a b : Str} (h1 : zs[i]? = some a) (h2 : b ∈ zs.drop (i + 1)) (h3 : zs[j]? = some b) (h4 : a ∈ zs.drop (j + 1)) : False := by
  obtain ⟨m, hm⟩ := List.mem_iff_getElem?.mp h2
  obtain ⟨n, hn⟩ := List.mem_iff_getElem?.mp h4
  rw [List.getElem?_drop] at hm hn
  have e1 := nodup_ix nd hm h3
  have e2 := nodup_ix nd hn h1
  omega
/-- what the law goes through: nobody before another, over any third -/
def NoFar (zs : List Str) (f : Str × Str → V) (sp : Int) (ys : List Str) (n : Nat) : Prop := ∀ i a b, i < n → ys[i]? = some a → b ∈ ys.drop (i + 1) → ∀ c ∈ zs, farV (mkAt zs f (a, c)) (mkAt zs f (b, c)) sp = false
theorem noFar_all {zs ys : List Str} {f : Str × Str → V} {sp : Int} (nd : zs.Nodup) (s : ys.Sublist zs) (h : NoFar zs f sp ys ys.length) : togetherB (clashes zs f sp) ys = true := by
  unfold togetherB
  rw [Bool.not_eq_true', List.any_eq_false]
  intro t ht c
  rw [Bool.and_eq_true, decide_eq_true_eq, decide_eq_true_eq] at c
  obtain ⟨j, a, _, ha, e, hb, hc, far⟩ := clashA_mem.mp ht
  obtain ⟨x, y, z⟩ := t
  dsimp only at e hb hc far c
  subst e
  obtain ⟨i, hi⟩ := List.mem_iff_getElem?.mp c.1
  obtain ⟨i2, hi2⟩ := List.mem_iff_getElem?.mp c.2
  have li := (List.getElem?_eq_some_iff.mp hi).1
  have li2 := (List.getElem?_eq_some_iff.mp hi2).1
  rcases Nat.lt_trichotomy i i2 with lt | eq | gt
  · have : y ∈ ys.drop (i + 1) := List.mem_iff_getElem?.mpr ⟨i2 - (i + 1), by rw [List.getElem?_drop, show i + 1 + (i2 - (i + 1)) = i2 by omega]; exact hi2⟩
    rw [h i x y li hi this z hc] at far
    cases far
  · subst eq
    rw [hi] at hi2
    obtain rfl := Option.some.inj hi2
    obtain ⟨m, hm⟩ := List.mem_iff_getElem?.mp hb
    rw [List.getElem?_drop] at hm
    have := nodup_ix nd hm ha
    omega
  · have : x ∈ ys.drop (i2 + 1) := List.mem_iff_getElem?.mpr ⟨i - (i2 + 1), by rw [List.getElem?_drop, show i2 + 1 + (i - (i2 + 1)) = i by omega]; exact hi⟩
    obtain ⟨j2, h1, h2⟩ := sub_after s hi2 this
    exact after_uniq nd ha hb h1 h2
theorem far_one {zs ys : List Str} {f : Str × Str → V} {sp : Int} (s : ys.Sublist zs) {i : Nat} {a b c : Str} (h1 : ys[i]? = some a) (h2 : b ∈ ys.drop (i + 1)) (hc : c ∈ zs) (far : farV (mkAt zs f (a, c)) (mkAt zs f (b, c)) sp = true) : togetherB (clashes zs f sp) ys = false := by
  unfold togetherB
  rw [Bool.not_eq_false', List.any_eq_true]
  obtain ⟨j, h3, h4⟩ := sub_after s h1 h2
  refine ⟨(a, b, c), clashA_mem.mpr ⟨j, a, (List.getElem?_eq_some_iff.mp h3).1, h3, rfl, h4, hc, far⟩, ?_⟩
  rw [decide_eq_true (List.mem_of_getElem? h1), decide_eq_true (List.mem_of_mem_drop h2)]
  rfl
theorem sheet_some {zs : List Str} {f : Str × Str → V} {q : Str × Str} (h : (valV (sheetOf zs f) (key2 q)).isSome = true) : q ∈ pairsOf zs := by
  rw [← valV_any, List.any_eq_true] at h
  obtain ⟨kv, hkv, e⟩ := h
  unfold sheetOf at hkv
  obtain ⟨p, hp, rfl⟩ := List.mem_map.mp hkv
  have e : key2 p = key2 q := of_decide_eq_true e
  obtain ⟨a, b⟩ := p
  obtain ⟨c, d⟩ := q
  unfold key2 at e
  simp at e
  obtain ⟨rfl, rfl⟩ := e
  exact hp
def spEnough : Sp := fun vs H Q _ => ∃ (d wl : Addr) (sp : Int) (zs ys : List Str) (m : Int) (f : Str × Str → V), vs = [.ref d, .ref wl, .int sp] ∧ H d = some (.dT (sheetOf zs f)) ∧ H wl = some (.lst (ys.map V.str)) ∧ ys.Sublist zs ∧ zs.Nodup ∧ zs.length ≤ 8 ∧ (∀ p ∈ pairsOf zs, mkOk m (f p) = true) ∧
  ∀ H', Same H H' → Q (.bl (togetherB (clashes zs f sp) ys)) H'
section
variable {P : Program} {w : World} {K : PySem.W.Frag} {mg : Str → Option Value} {base : Heap}
theorem ok_enough {fA : Addr} {fd : FuncData} (F : Fun K "_law_is_enough" "_law_is_enough" sIsEnough fA fd) (ze : mg "enumerate" = none) :
    FnOk P w K mg base CX0 1 fA fd ["_law_marks_here", "_law_words_here", "_law_spread"] spEnough := by
  refine F.ok scIsEnough (fun vs H Q E h => ?_) (fun cdv A outer s H vs Q E hr h => ?_)
  · obtain ⟨d, wl, sp, zs, ys, m, f, rfl, _⟩ := h
    rfl
  · obtain ⟨d, wl, sp, zs, ys, m, f, rfl, hd, hw, sub, nd, z8, mk, q⟩ := h
    have hu1 : (A.deeper (envOfC "_law_is_enough" (defScope sIsEnough) s.heap.objs.size fA cdv)).units + 1 < cLine := by
      have := hr.units
      omega
    refine ⟨_, pss_cons (ps_for PassesOwn.never rfl (pi_enum (by rfl) ze (pa_cons (pv 1) pa_nil)) (pg_tup rfl (pgs_cons (pg_name (i := 3) scIsEnough.nd rfl (.inl rfl)) (pgs_cons (pg_name (i := 4) scIsEnough.nd rfl (.inl rfl)) pgs_nil)))
        (pss_one (ps_for PassesOwn.never rfl (pi_list (pe_slice sl_list (pv 1) (po_some (pe_op op_add (pv 3) pe_int)) po_none)) (pg_name (i := 5) scIsEnough.nd rfl (.inl rfl))
          (pss_one (ps_lock (ps_for PassesOwn.never rfl (pi_keys (pv 0)) (pg_name (i := 6) scIsEnough.nd rfl (.inl rfl))
            (pss_one (ps_if (PW.pt (pw_and (pt_cmpR op_eq (pe_ix (r := rIxT K) ix_tup (pv 6) pe_int (fun _ _ => rfl)) (pv 4) (nomark _)) (pw_and1 (pt_cmp (pc_din (by exact hu1) (pe_tup (pa_cons (pv 5) (pa_cons (pe_ix (r := rIxT K) ix_tup (pv 6) pe_int (fun _ _ => rfl)) pa_nil))) (pv 0)) (by rfl)))))
              (pss_cons (ps_par (i := 7) (j := 8) (by rfl) scIsEnough.nd rfl rfl (by decide) rfl rfl (pa_cons (pe_dget (by exact hu1) (pv 0) (pv 6) (fun _ _ => rfl)) (pa_cons (pe_dget (by exact hu1) (pv 0) (pe_tup (pa_cons (pv 5) (pa_cons (pe_ix (r := rIxT K) ix_tup (pv 6) pe_int (fun _ _ => rfl)) pa_nil))) (fun _ _ => rfl)) pa_nil)) (by rfl))
              (pss_one (ps_if (PW.pt (pw_and (pt_cmpR op_notN (pv 7) pe_non (nomark _)) (pw_and (pt_cmpR op_notN (pv 8) pe_non (nomark _)) (pw_and1 (PW.pt (pw_or (pt_cmpR op_gt (pe_op op_sub (pv 7) (pv 8)) (pv 2) (nomark _)) (pw_or1 (pt_cmpR op_gt (pe_op op_sub (pv 8) (pv 7)) (pv 2) (nomark _)))))))))
                (pss_one (ps_ret pe_bl)) pss_nil))) pss_nil))))))))
      (pss_one (ps_ret pe_bl)), ?_⟩
    refine ⟨_, rfl, wl, ys.map V.str, rfl, SqL.of hw, ?_⟩
    refine for_it (walk_enum (K := K) (a := wl) (xs := ys.map V.str)) (fun i σ G => ∃ (v3 v4 v5 v6 v7 v8 : Option V), σ = [some (.ref d), some (.ref wl), some (.int sp), v3, v4, v5, v6, v7, v8] ∧ Same H G ∧ NoFar zs f sp ys i)
      ⟨_, _, _, _, _, _, rfl, Same.refl _, fun i a b h => absurd h (Nat.not_lt_zero _)⟩ (fun i σ G _ h => ?_) ?_ ?_
    · obtain ⟨_, _, _, _, _, _, _, s, _⟩ := h
      exact SqL.of (s _ _ hw)
    · rintro i y σ G G0 hi ⟨v3, v4, v5, v6, v7, v8, rfl, sG, nf⟩ ⟨T, v, u, rfl, nT, rfl, hv, hu⟩
      obtain rfl := Option.some.inj hv
      rw [List.length_map] at hi
      dsimp only at hu
      rw [List.getElem?_map, List.getElem?_eq_getElem hi] at hu
      obtain rfl := Option.some.inj hu
      have hz := List.getElem?_eq_getElem hi
      generalize ys[i] = a at hz
      have am : a ∈ zs := sub.subset (List.mem_of_getElem? hz)
      have s4 : Same G (upd G T (.tup [.int (i : Nat), .str a])) := same_new nT
      have hT : upd G T (.tup [.int (i : Nat), .str a]) T = some (.tup [.int (i : Nat), .str a]) := upd_same
      generalize upd G T (.tup [.int (i : Nat), .str a]) = G1 at s4 hT
      refine ⟨T, _, rfl, SqT.of hT, rfl, _, _, rfl, _, _, rfl, rfl, ?_⟩
      refine ⟨_, rfl, _, rfl, _, _, rfl, rfl, _, rfl, wl, _, rfl, SqL.of (s4 _ _ (sG _ _ hw)), fun l nl => ?_⟩
      have ec : cutV (ys.map V.str) (some ((i : Int) + 1)) none = (ys.drop (i + 1)).map V.str := by
        rw [show (i : Int) + 1 = ((i + 1 : Nat) : Int) from rfl, km_drop, List.map_drop]
      rw [ec]
      have s5 : Same G1 (upd G1 l (.lst ((ys.drop (i + 1)).map V.str))) := same_new nl
      have hl : upd G1 l (.lst ((ys.drop (i + 1)).map V.str)) l = some (.lst ((ys.drop (i + 1)).map V.str)) := upd_same
      generalize upd G1 l (.lst ((ys.drop (i + 1)).map V.str)) = G2 at s5 hl
      have s2 : Same H G2 := (sG.trans s4).trans s5
      refine ⟨l, rfl, ⟨_, SqL.of hl⟩, ?_⟩
      refine for_list (K := K) (a := l) (xs := (ys.drop (i + 1)).map V.str) (fun j σ G => ∃ (v5 v6 v7 v8 : Option V), σ = [some (.ref d), some (.ref wl), some (.int sp), some (.int (i : Nat)), some (.str a), v5, v6, v7, v8] ∧ Same G2 G ∧ ∀ b ∈ (ys.drop (i + 1)).take j, ∀ c ∈ zs, farV (mkAt zs f (a, c)) (mkAt zs f (b, c)) sp = false)
        ⟨_, _, _, _, rfl, Same.refl _, fun b hb => by simp at hb⟩ (fun j σ G _ h => ?_) ?_ ?_
      · obtain ⟨_, _, _, _, _, s, _⟩ := h
        exact SqL.of (s _ _ hl)
      · rintro j y σ G hy ⟨v5, v6, v7, v8, rfl, sG, seen⟩
        rw [List.getElem?_map] at hy
        obtain ⟨b, hb, rfl⟩ := Option.map_eq_some_iff.mp hy
        have bm := List.mem_of_getElem? hb
        have hdG : G d = some (.dT (sheetOf zs f)) := sG _ _ (s2 _ _ hd)
        dsimp only [List.set]
        refine ⟨d, _, hdG, trivial, fun od => ?_⟩
        have dL : upd G d (.frz od (.dT (sheetOf zs f))) d = some (.frz od (.dT (sheetOf zs f))) := upd_same
        have bL : But d G (upd G d (.frz od (.dT (sheetOf zs f)))) := fun b o nb e => by
          rw [upd_ne nb]
          exact e
        generalize upd G d (.frz od (.dT (sheetOf zs f))) = GL at dL bL
        have un : ∀ G', But d GL G' → Same G (upd G' d (.dT (sheetOf zs f))) := fun G' b' x o e => by
          by_cases c : x = d
          · rw [c] at e ⊢
            rw [upd_same, ← hdG]
            exact e
          · rw [upd_ne c]
            exact b' _ _ c (bL _ _ c e)
        refine ⟨_, rfl, d, od, rfl, .inr ⟨_, dL, ?_⟩⟩
        refine for_it (walk_keysT (d := d) (o := od) (kvs := sheetOf zs f)) (fun k σ G' => ∃ (v6 v7 v8 : Option V), σ = [some (.ref d), some (.ref wl), some (.int sp), some (.int (i : Nat)), some (.str a), some (.str b), v6, v7, v8] ∧ But d GL G' ∧ G' d = some (.frz od (.dT (sheetOf zs f))) ∧ ∀ p ∈ (pairsOf zs).take k, p.1 = a → farV (mkAt zs f (a, p.2)) (mkAt zs f (b, p.2)) sp = false)
          ⟨_, _, _, rfl, fun _ _ _ e => e, dL, fun p hp => by simp at hp⟩ (fun k σ G' _ h => ?_) ?_ ?_
        · obtain ⟨_, _, _, _, _, h, _⟩ := h
          exact h
        · rintro k y σ G' G'' hk ⟨v6, v7, v8, rfl, b', d', seenK⟩ ⟨rfl, key, v, qq, hkv, rfl, hqq⟩
          unfold sheetOf at hkv
          rw [List.getElem?_map] at hkv
          obtain ⟨p, hp, e⟩ := Option.map_eq_some_iff.mp hkv
          obtain ⟨rfl, rfl⟩ := Prod.mk.inj e
          have pm := List.mem_of_getElem? hp
          obtain ⟨x, c⟩ := p
          have tk : (pairsOf zs).take (k + 1) = (pairsOf zs).take k ++ [(x, c)] := by
            rw [List.take_add_one, hp]
            rfl
          have cm : c ∈ zs := by
            obtain ⟨x', _, h⟩ := List.mem_flatMap.mp pm
            obtain ⟨c', hc', e⟩ := List.mem_map.mp h
            cases e
            exact (List.mem_filter.mp hc').1
          have go : ∀ (w6 w7 w8 : Option V) (G3 : Hp), Same G'' G3 → (x = a → farV (mkAt zs f (a, c)) (mkAt zs f (b, c)) sp = false) → ∃ (v6 v7 v8 : Option V), [some (V.ref d), some (V.ref wl), some (V.int sp), some (V.int (i : Nat)), some (V.str a), some (V.str b), w6, w7, w8] = [some (V.ref d), some (V.ref wl), some (V.int sp), some (V.int (i : Nat)), some (V.str a), some (V.str b), v6, v7, v8] ∧ But d GL G3 ∧ G3 d = some (.frz od (.dT (sheetOf zs f))) ∧ ∀ p ∈ (pairsOf zs).take (k + 1), p.1 = a → farV (mkAt zs f (a, p.2)) (mkAt zs f (b, p.2)) sp = false := fun w6 w7 w8 G3 s3 hf => by
            refine ⟨_, _, _, rfl, fun z o nz e => s3 _ _ (b' z o nz e), s3 _ _ d', fun p hp2 hpa => ?_⟩
            rw [tk] at hp2
            rcases List.mem_append.mp hp2 with hp2 | hp2
            · exact seenK p hp2 hpa
            · obtain rfl := List.mem_singleton.mp hp2
              exact hf hpa
          dsimp only [List.set]
          refine ⟨_, rfl, qq, _, (0 : Int), _, rfl, rfl, SqT.of hqq, rfl, _, rfl, rfl, _, rfl, ite2 (fun c1 => ?_) (fun c1 => ?_)⟩
          · have xa : x = a := V.str.inj (of_decide_eq_true c1)
            subst xa
            have fa : mkAt zs f (x, c) = f (x, c) := if_pos pm
            have ret : ∀ G3, Same G'' G3 → farV (mkAt zs f (x, c)) (mkAt zs f (b, c)) sp = true → G3 d = some (.frz od (.dT (sheetOf zs f))) ∧ Q (.bl false) (upd G3 d (.dT (sheetOf zs f))) := fun G3 s3 far => by
              refine ⟨s3 _ _ d', ?_⟩
              have := q _ ((s2.trans sG).trans (un G3 fun z o nz e => s3 _ _ (b' z o nz e)))
              rw [far_one sub hz bm cm far] at this
              exact this
            refine ⟨_, rfl, _, rfl, qq, _, (1 : Int), _, rfl, rfl, SqT.of hqq, rfl, (by show 2 ≤ sizeLine; decide), fun t1 n1 => ?_⟩
            have s6 : Same G'' (upd G'' t1 (.tup ((key2 (b, c)).map kV))) := same_new n1
            have h6 : upd G'' t1 (.tup ((key2 (b, c)).map kV)) t1 = some (.tup ((key2 (b, c)).map kV)) := upd_same
            refine ⟨_, rfl, d, _, rfl, .inr ⟨_, key2 (b, c), t1, .inr ⟨od, s6 _ _ d'⟩, rfl, h6, rfl⟩, _, rfl, ite2 (fun c2 => ?_) (fun c2 => ?_)⟩
            · have qm := sheet_some c2
              have fb : mkAt zs f (b, c) = f (b, c) := if_pos qm
              refine ⟨_, rfl, _, rfl, d, mkAt zs f (x, c), rfl, (by rw [fa, ← valV_sheet pm]; exact .inr ⟨_, key2 (x, c), qq, .inr ⟨od, s6 _ _ d'⟩, rfl, s6 _ _ hqq, rfl⟩), ?_⟩
              refine ⟨_, rfl, _, rfl, _, rfl, qq, _, (1 : Int), _, rfl, rfl, SqT.of (s6 _ _ hqq), rfl, (by show 2 ≤ sizeLine; decide), fun t2 n2 => ?_⟩
              have s7 := same_new n2 (o := .tup ((key2 (b, c)).map kV))
              refine ⟨d, mkAt zs f (b, c), rfl, (by rw [fb, ← valV_sheet qm]; exact .inr ⟨_, key2 (b, c), t2, .inr ⟨od, s7 _ _ (s6 _ _ d')⟩, rfl, upd_same, rfl⟩), ?_⟩
              refine ⟨_, _, rfl, ?_⟩
              have s67 := s6.trans s7
              rcases mkAt_cases mk (x, c) with e1 | ⟨i1, e1⟩
              · have g := go (some (.ref qq)) (some .non) (some (mkAt zs f (b, c))) _ s67 fun _ => far_non (.inl e1)
                rw [e1]
                exact ⟨_, rfl, rfl, _, rfl, iteF g⟩
              · rcases mkAt_cases mk (b, c) with e2 | ⟨i2, e2⟩
                · have g := go (some (.ref qq)) (some (.int i1)) (some .non) _ s67 fun _ => far_non (.inr e2)
                  rw [e1, e2]
                  exact ⟨_, rfl, rfl, _, rfl, iteT ⟨_, rfl, rfl, _, rfl, iteF g⟩⟩
                · have ret2 := ret _ s67
                  have g := go (some (.ref qq)) (some (.int i1)) (some (.int i2)) _ s67
                  rw [e1, e2] at ret2 g ⊢
                  have eF : farV (.int i1) (.int i2) sp = decide (sp < if i1 - i2 < 0 then -(i1 - i2) else i1 - i2) := rfl
                  refine ⟨_, rfl, rfl, _, rfl, iteT ⟨_, rfl, rfl, _, rfl, iteT ?_⟩⟩
                  refine ⟨_, rfl, _, rfl, _, _, rfl, rfl, _, rfl, _, _, rfl, rfl, _, rfl, ite2 (fun c3 => ?_) (fun c3 => ?_)⟩
                  · have c3 := of_decide_eq_true c3
                    exact ret2 (by rw [eF]; exact decide_eq_true (by split <;> omega))
                  · have c3 : ¬ sp < i1 - i2 := fun h => c3 (decide_eq_true h)
                    refine ⟨_, rfl, _, rfl, _, _, rfl, rfl, _, rfl, _, _, rfl, rfl, _, rfl, ite2 (fun c4 => ?_) (fun c4 => ?_)⟩
                    · have c4 := of_decide_eq_true c4
                      exact ret2 (by rw [eF]; exact decide_eq_true (by split <;> omega))
                    · have c4 : ¬ sp < i2 - i1 := fun h => c4 (decide_eq_true h)
                      exact g fun _ => by rw [eF]; exact decide_eq_false (by split <;> omega)
            · exact go _ _ _ _ s6 fun _ => far_non (.inr (if_neg fun qm => c2 (by rw [valV_sheet qm]; rfl)))
          · exact go _ _ _ _ (Same.refl _) fun e => absurd (decide_eq_true (by rw [e]; rfl)) c1
        · rintro σ G' ⟨v6, v7, v8, rfl, b', d', seenK⟩
          rw [sheet_len, List.take_length] at seenK
          refine ⟨d', _, _, _, _, rfl, sG.trans (un G' b'), fun b2 hb2 c hc => ?_⟩
          rw [List.take_add_one, hb] at hb2
          rcases List.mem_append.mp hb2 with hb2 | hb2
          · exact seen b2 hb2 c hc
          · obtain rfl := List.mem_singleton.mp hb2
            by_cases pm : (a, c) ∈ pairsOf zs
            · exact seenK (a, c) pm rfl
            · exact far_non (.inl (if_neg pm))
      · rintro σ G ⟨v5, v6, v7, v8, rfl, sG, seen⟩
        rw [List.length_map, List.take_length] at seen
        refine ⟨_, _, _, _, _, _, rfl, s2.trans sG, fun i' a' b hi' h1 h2 => ?_⟩
        by_cases e : i' = i
        · subst e
          rw [hz] at h1
          obtain rfl := Option.some.inj h1
          exact seen b h2
        · exact nf i' a' b (by omega) h1 h2
    · rintro σ G ⟨v3, v4, v5, v6, v7, v8, rfl, sG, nf⟩
      rw [List.length_map] at nf
      have := q G sG
      rw [noFar_all nd sub nf] at this
      exact this
end
end K83

set_option Elab.async false
set_option linter.all false
set_option maxRecDepth 100000
set_option maxHeartbeats 4000000
/-! sorted(xs, key=f): by any f that gives ints; Iv is what holds of the states while it runs. -/
namespace L2
open PySem PySem.Spec PyProof.Rows PySem.W
/-- Iv does not look at the two lists of the sort's own -/
def Stays (Iv : Shared → Prop) (kS a : Addr) : Prop := ∀ (s : Shared) (h' : Heap) (tk : Nat), Iv s → (∀ b o, b ≠ kS → b ≠ a → s.heap.get? b = some o → h'.get? b = some o) → Iv { s with heap := h', toks := tk }
section
variable {prog : Program} {w : World} {A : Around} {E : Value → Shared → Prop} {s : Shared} {Iv : Shared → Prop} {a kS : Addr} {vs : List Value} {kz : List Int} {keys : Array Value} {e e1 : Nat} {P : PySem.Fin → Shared → Prop}
theorem key_tail {st : SortSt} (st0 : Stays Iv kS a) (k0 : Iv s) (nk : s.heap.get? kS = some (seqObj "list" keys e)) (na : s.heap.get? a = some (seqObj "list" #[] e1)) (hka : kS ≠ a) 
    (hk : IntsAre keys.toList kz) (hlen : kz.length = vs.length) (hZ : vs.length ≤ sizeLine) (hp : (arrOf st).Perm (keys.zip vs.toArray)) (hs : SortedTo (arrOf st) (arrOf st).size) (hfl : failedOf st = none) (hst : Stable intKind (arrOf st) (keys.zip vs.toArray))
    (h : ∀ s' out c, Iv s' → s'.heap.get? a = some (seqObj "list" out c) → KskOutSt false kz vs out.toList → P (.done (.ret .none)) s') :
    wpAny (model prog w) A (ksk_tail a false e1 (.ref kS) st) P E s := by
  have z2 := hZ
  rw [sizeLine_eq] at z2
  have lk : keys.size = vs.length := by
    have := hk.length
    rw [Array.length_toList] at this
    omega
  have ls : (arrOf st).size = vs.length := by rw [hp.size_eq, Array.size_zip, lk, List.size_toArray, Nat.min_self]
  have lo : ((arrOf st).map (·.2)).size = vs.length := by rw [Array.size_map, ls]
  have b1 := Heap.SameBut.update s.heap kS (Obj.mapSeq fun _ => (#[] : Array Value))
  have na1 := (b1.2 a hka.symm).trans na
  have b2 := Heap.SameBut.update (s.heap.update kS (Obj.mapSeq fun _ => (#[] : Array Value))) a (Obj.mapSeq fun _ => (arrOf st).map (·.2))
  obtain ⟨c2, hc2⟩ : ∃ c2, ((s.heap.update kS (Obj.mapSeq fun _ => (#[] : Array Value))).update a (Obj.mapSeq fun _ => (arrOf st).map (·.2))).get? a = some (seqObj "list" ((arrOf st).map (·.2)) c2) := ⟨_, get?_update_seq na1 fun _ => (arrOf st).map (·.2)⟩
  unfold ksk_tail
  try dsimp only
  refine wpAny_bind (listUpdate_at nk rfl ?_ (by rw [lk, sizeLine_eq]; omega) (Nat.zero_le _))
  refine wpAny_bind (wpAny_letGo ?_)
  refine wpAny_bind (seqEpoch_at na1 rfl ?_)
  refine wpAny_bind (listUpdate_at na1 rfl ?_ (Nat.zero_le _) (by
    show ((arrOf st).map (·.2)).size ≤ _
    rw [lo, sizeLine_eq]
    omega))
  rw [hfl]
  simp only [bne_self_eq_false, Bool.false_eq_true, if_false]
  refine wpAny_pure (h _ _ c2 (st0 s _ _ k0 fun b o n1 n2 e => (b2.2 b n2).trans ((b1.2 b n1).trans e)) hc2 ?_)
  have := ksk_outSt (b := false) hk hp hs hst
  simpa using this
theorem key_end (st0 : Stays Iv kS a) (k0 : Iv s) (nk : s.heap.get? kS = some (seqObj "list" keys e)) (na : s.heap.get? a = some (seqObj "list" #[] e1)) (hka : kS ≠ a) 
    (hk : IntsAre keys.toList kz) (hlen : kz.length = vs.length) (hZ : vs.length ≤ sizeLine)
    (h : ∀ s' out c, Iv s' → s'.heap.get? a = some (seqObj "list" out c) → KskOutSt false kz vs out.toList → P (.done (.ret .none)) s') :
    wpAny (model prog w) A (ksk_end a false vs.toArray e1 (.ref kS) keys) P E s := by
  have z2 := hZ
  rw [sizeLine_eq] at z2
  have lk : keys.size = vs.length := by
    have := hk.length
    rw [Array.length_toList] at this
    omega
  have lz : (keys.zip vs.toArray).size = vs.length := by rw [Array.size_zip, lk, List.size_toArray, Nat.min_self]
  unfold ksk_end
  try dsimp only
  simp only [Bool.false_eq_true, if_false]
  by_cases h2 : vs.toArray.size < 2
  · rw [if_pos h2, if_pos h2]
    refine wpAny_bind (wpAny_pure ?_)
    rw [StateT.run_pure]
    refine wpAny_bind (wpAny_pure ?_)
    try dsimp only
    refine key_tail (st := SortSt.mk' general' (keys.zip vs.toArray) #[] 7 none) st0 k0 nk na hka hk hlen hZ (Array.Perm.refl _) ?_ rfl (Stable.refl _) h
    intro i j hij hj
    have hj2 : j < (keys.zip vs.toArray).size := hj
    rw [lz] at hj2
    rw [List.size_toArray] at h2
    obtain rfl : i = j := by omega
    exact Int.le_refl _
  · rw [if_neg h2, if_neg h2]
    rw [List.size_toArray] at h2
    rw [ksk_kind hk (by rw [lk]; omega)]
    refine wpAny_bind (wpAny_pure ?_)
    refine wpAny_bind (wpAny_mono (wpS_sortRunsSt (κ := intKind) (a₀ := keys.zip vs.toArray) (st := SortSt.mk' oneType' (keys.zip vs.toArray) #[] 7 none)
      (Q := fun _ st' => (arrOf st').Perm (keys.zip vs.toArray) ∧ failedOf st' = none ∧ SortedTo (arrOf st') (arrOf st').size ∧ Stable intKind (arrOf st') (keys.zip vs.toArray))
      intKind_oneLt (ksk_keysOfInt (ksk_intKeys hk)) ⟨Array.Perm.refl _, rfl, rfl⟩ rfl (Stable.refl _) (by rw [lz]; omega) fun st' a1 a2 a3 a4 => ⟨a1, a2, by rw [a1.size_eq]; exact sortedTo_of_int a3, a4⟩) ?_ fun _ _ e => e)
    rintro ⟨⟨⟩, st'⟩ s' ⟨rfl, hp, hf, hs, hst⟩
    try dsimp only
    exact key_tail st0 k0 nk na hka hk hlen hZ hp hs hf hst h
end
end L2

set_option Elab.async false
set_option linter.all false
set_option maxRecDepth 100000
set_option maxHeartbeats 4000000
/-! sorted(xs, key=f), the keys asked. -/
namespace L2
open PySem PySem.Spec PyProof.Rows PySem.W
section
variable {prog : Program} {w : World} {A : Around} {E : Value → Shared → Prop} {s : Shared} {Iv : Shared → Prop} {a kS : Addr} {vs : List Value} {kz : List Int} {e1 : Nat} {P : PySem.Fin → Shared → Prop}
def KeyTurn (prog : Program) (w : World) (A : Around) (Iv : Shared → Prop) (kS a : Addr) (f : Value) (vs : List Value) (kz : List Int) : Prop :=
  ∀ (i : Nat) (v : Value) (k : Int), vs[i]? = some v → kz[i]? = some k → ∀ (s : Shared) (o1 o2 : Obj), Iv s → s.heap.get? kS = some o1 → s.heap.get? a = some o2 →
    wpAny (model prog w) A (call f [v]) (fun u s2 => ∃ t', u = .int k t' ∧ Iv s2 ∧ s2.heap.get? kS = some o1 ∧ s2.heap.get? a = some o2) (fun _ _ => False) s
theorem key_rest {f : Value} (st0 : Stays Iv kS a) (k0 : Iv s) (nk : s.heap.get? kS = some (seqObj "list" #[] 0)) (na : s.heap.get? a = some (seqObj "list" #[] e1)) (hka : kS ≠ a) 
    (hlen : kz.length = vs.length) (hZ : vs.length ≤ sizeLine) (turn : KeyTurn prog w A Iv kS a f vs kz)
    (h : ∀ s' out c, Iv s' → s'.heap.get? a = some (seqObj "list" out c) → KskOutSt false kz vs out.toList → P (.done (.ret .none)) s') :
    wpAny (model prog w) A (ksk_rest a f false vs.toArray e1 (.ref kS)) P E s := by
  have z2 := hZ
  rw [sizeLine_eq] at z2
  unfold ksk_rest
  refine wpAny_bind (wpAny_rule ?_)
  first
    | rw [List.forIn_toArray]
    | (rw [← Array.forIn_toList]; simp only [List.toList_toArray])
    | rw [← Array.forIn_toList]
  refine wpAny_bind (ksk_fold (fun i s' => ∃ kA e, Iv s' ∧ s'.heap.get? kS = some (seqObj "list" kA e) ∧ s'.heap.get? a = some (seqObj "list" #[] e1) ∧ IntsAre kA.toList (kz.take i)) vs 0 s
    ⟨#[], 0, k0, nk, na, by simpa using IntsAre.nil⟩ ?step ?done)
  case step =>
    rintro j x s' hx ⟨kA, e, k1, nk1, na1, hk⟩
    simp only [Nat.zero_add] at hk ⊢
    have hj : j < vs.length := (List.getElem?_eq_some_iff.mp hx).1
    obtain ⟨k, hkj⟩ : ∃ k, kz[j]? = some k := ⟨_, List.getElem?_eq_getElem (by omega)⟩
    have lA : kA.size ≤ vs.length := by
      have h1 := hk.length
      rw [Array.length_toList, List.length_take] at h1
      omega
    refine wpAny_bind (wpAny_attempt (wpAny_mono (turn j x k hx hkj s' _ _ k1 nk1 na1) (fun v s'' he => ?_) fun _ _ hF => hF.elim))
    obtain ⟨t2, rfl, k2, nk2, na2⟩ := he
    try dsimp only
    have b1 := Heap.SameBut.update s''.heap kS (Obj.mapSeq (·.push (.int k t2)))
    obtain ⟨c2, hc2⟩ : ∃ c2, ((s''.heap.update kS (Obj.mapSeq (·.push (.int k t2)))).get? kS) = some (seqObj "list" (kA.push (.int k t2)) c2) := ⟨_, get?_update_seq nk2 (·.push (.int k t2))⟩
    refine wpAny_bind (listUpdate_at nk2 rfl ?_ (by rw [sizeLine_eq]; omega) (Nat.le_trans (Nat.le_of_eq (Array.size_push ..)) (by rw [sizeLine_eq]; omega)))
    refine wpAny_pure ⟨rfl, kA.push (.int k t2), c2, st0 s'' _ _ k2 (fun b o n1 _ e => (b1.2 b n1).trans e), hc2, (b1.2 a hka.symm).trans na2, ?_⟩
    rw [show (kA.push (Value.int k t2)).toList = kA.toList ++ [Value.int k t2] by simp, show kz.take (j + 1) = kz.take j ++ [k] by rw [List.take_add_one, hkj]; rfl]
    exact ksk_snoc hk
  case done =>
    rintro s' ⟨kA, e, k1, nk1, na1, hk⟩
    have hk' : IntsAre kA.toList kz := by
      rw [show kz.take (0 + vs.length) = kz from List.take_of_length_le (by omega)] at hk
      exact hk
    try dsimp only
    refine wpAny_bind (listItems_at nk1 rfl ?_)
    exact key_end st0 k1 nk1 na1 hka hk' hlen hZ h
end
section
variable {prog : Program} {w : World} {A : Around} {E : Value → Shared → Prop} {s : Shared} {Iv : Shared → Prop} {l : Addr} {vs : List Value} {kz : List Int} {Q : Value → Shared → Prop}
theorem key_sorted {f : Value} {kw : List (Str × Value)} (hl : s.heap.IsList l vs.toArray) (hlen : kz.length = vs.length) (hZ : vs.length ≤ sizeLine)
    (ha1 : argsOk "sorted" ⟨[.ref l], kw⟩) (ha2 : ∀ x, argsOk "list.sort" ⟨[.ref x], kw⟩) (ht : ∀ x, Builtin.«list.sort» ⟨[.ref x], kw⟩ = ksk_tree x f false)
    (st0 : Stays Iv (s.heap.objs.size + 3) (s.heap.objs.size + 1)) (k0 : Iv s) (turn : KeyTurn prog w A.in1.in1 Iv (s.heap.objs.size + 3) (s.heap.objs.size + 1) f vs kz)
    (h : ∀ s' out c, Iv s' → s'.heap.get? (s.heap.objs.size + 1) = some (seqObj "list" out c) → KskOutSt false kz vs out.toList → Q (.ref (s.heap.objs.size + 1)) s') :
    wpAny (model prog w) A (call (.builtin "sorted") [.ref l] kw) Q E s := by
  have z2 := hZ
  rw [sizeLine_eq] at z2
  refine call_function_entry_kw kind_sorted plain_sorted entry_sorted ha1 ?_
  unfold Builtin.«sorted»
  refine wpAny_bind (m := checkCount "sorted" 1 1 _) (wpAny_pure ?_)
  refine wpAny_bind (collect_list hl ?_ (by rw [sizeLine_eq]; omega))
  refine wpAny_bind (wpAny_newList ?_ (by rw [sizeLine_eq]; omega))
  have sz : ((s.heap.push (seqObj "list" #[] 0)).update s.heap.objs.size (Obj.mapSeq (· ++ vs.toArray))).objs.size = s.heap.objs.size + 1 := by
    rw [Heap.size_update, size_push']
  have hD : (((s.heap.push (seqObj "list" #[] 0)).update s.heap.objs.size (Obj.mapSeq (· ++ vs.toArray))).push (seqObj "list" vs.toArray 0)).get? (s.heap.objs.size + 1) = some (seqObj "list" vs.toArray 0) := by
    rw [← sz]
    exact Heap.get?_push_size _ rfl
  have kp : ∀ b o, s.heap.get? b = some o → (((s.heap.push (seqObj "list" #[] 0)).update s.heap.objs.size (Obj.mapSeq (· ++ vs.toArray))).push (seqObj "list" vs.toArray 0)).get? b = some o := fun b o q => by
    have lt : b < s.heap.objs.size := Heap.lt_size q
    rw [Heap.get?_push_ne _ _ _ (by rw [sz]; exact Nat.ne_of_lt (Nat.lt_succ_of_lt lt)), Heap.get?_update_ne _ _ _ _ (Nat.ne_of_lt lt), Heap.get?_push_ne _ _ _ (Nat.ne_of_lt lt)]
    exact q
  show wpAny _ _ _ _ _ { s with heap := ((s.heap.push (seqObj "list" #[] 0)).update s.heap.objs.size (Obj.mapSeq (· ++ vs.toArray))).push (seqObj "list" vs.toArray 0) }
  have sz2 : (((s.heap.push (seqObj "list" #[] 0)).update s.heap.objs.size (Obj.mapSeq (· ++ vs.toArray))).push (seqObj "list" vs.toArray 0)).objs.size = s.heap.objs.size + 2 := by
    rw [size_push', sz]
  rw [sz]
  generalize ((s.heap.push (seqObj "list" #[] 0)).update s.heap.objs.size (Obj.mapSeq (· ++ vs.toArray))).push (seqObj "list" vs.toArray 0) = h1 at hD kp sz2
  refine wpAny_bind (wpAny_holding (wpAny_call_entry_kw slot_list_sort ⟨_, hD, rfl⟩ entry_list_sort ?body (ha2 _)))
  case body =>
    show wpAny (model prog w) A.in1.in1 (Builtin.«list.sort» ⟨[.ref (s.heap.objs.size + 1)], kw⟩) _ _ _
    rw [ht]
    have b1 := Heap.SameBut.update h1 (s.heap.objs.size + 1) (Obj.mapSeq fun _ => (#[] : Array Value))
    obtain ⟨e1, ho1⟩ : ∃ e1, ((h1.update (s.heap.objs.size + 1) (Obj.mapSeq fun _ => (#[] : Array Value))).get? (s.heap.objs.size + 1)) = some (seqObj "list" #[] e1) := ⟨_, get?_update_seq hD fun _ => #[]⟩
    have szk : ((h1.update (s.heap.objs.size + 1) (Obj.mapSeq fun _ => (#[] : Array Value))).push (seqObj "tuple" vs.toArray 0)).objs.size = s.heap.objs.size + 3 := by rw [size_push', Heap.size_update, sz2]
    unfold ksk_tree
    refine wpAny_bind (listItems_at hD rfl ?_)
    refine wpAny_bind (listUpdate_at hD rfl ?_ (by rw [List.size_toArray, sizeLine_eq]; omega) (Nat.zero_le _))
    refine wpAny_bind (seqEpoch_at ho1 rfl ?_)
    refine wpAny_bind (wpAny_newTuple ?_ (by show vs.length ≤ _; rw [sizeLine_eq]; omega))
    refine wpAny_bind (wpAny_newList ?_ (Nat.zero_le _))
    refine wpAny_holding ?_
    have hkS : ((((h1.update (s.heap.objs.size + 1) (Obj.mapSeq fun _ => (#[] : Array Value))).push (seqObj "tuple" vs.toArray 0)).push (seqObj "list" #[] 0)).get? (s.heap.objs.size + 3)) = some (seqObj "list" #[] 0) := by
      rw [← szk]
      exact Heap.get?_push_size _ rfl
    rw [szk]
    refine key_rest (Iv := Iv) (a := s.heap.objs.size + 1) (s := { s with heap := ((h1.update (s.heap.objs.size + 1) (Obj.mapSeq fun _ => (#[] : Array Value))).push (seqObj "tuple" vs.toArray 0)).push (seqObj "list" #[] 0) }) (kS := s.heap.objs.size + 3) (e1 := e1)
      st0 (st0 s _ s.toks k0 fun b o n1 n2 e => Heap.get?_push_of_some _ (Heap.get?_push_of_some _ ((b1.2 b n2).trans (kp b o e)))) hkS (Heap.get?_push_of_some _ (Heap.get?_push_of_some _ ho1)) (show s.heap.objs.size + 3 ≠ s.heap.objs.size + 1 by omega) hlen hZ turn fun s' out c a1 a2 a3 => ⟨_, rfl, ?_⟩
    exact wpAny_pure ⟨_, rfl, h s' out c a1 a2 a3⟩
end
end L2

set_option Elab.async false
set_option linter.all false
set_option maxRecDepth 100000
set_option maxHeartbeats 4000000
/-! sorted(xs, key=lambda x: body): xs a list of objects, the keys ints. -/
namespace L2
open PySem PySem.Spec PyProof.Rows PySem.W LamX
/-- us put in the order of their keys, equal keys in their order -/
def SortedBy (kz : List Int) (us ws : List Addr) : Prop := ∃ ps : List (Int × Addr), ps.Perm (kz.zip us) ∧ ws = ps.map Prod.snd ∧ (ps.Pairwise fun p q => p.1 ≤ q.1) ∧ ∀ c, (ps.filter fun p => p.1 == c) = (kz.zip us).filter fun p => p.1 == c
def backA : Value → Addr
  | .ref a => a
  | _ => 0
theorem sortedBy_of {kz : List Int} {us : List Addr} {out : List Value} (h : KskOutSt false kz (us.map Value.ref) out) : ∃ ws : List Addr, out = ws.map Value.ref ∧ SortedBy kz us ws := by
  obtain ⟨ps, hp, ho, hw, hf⟩ := h
  have ez : kz.zip (us.map Value.ref) = (kz.zip us).map fun p => (p.1, Value.ref p.2) := by
    rw [List.zip_map_right]
    rfl
  have eb2 : ∀ L : List (Int × Addr), (L.map fun p => (p.1, Value.ref p.2)).map (fun p => (p.1, backA p.2)) = L := fun L => by
    rw [List.map_map]
    exact (List.map_congr_left fun p _ => rfl).trans (List.map_id _)
  have eb := eb2 (kz.zip us)
  have all : ∀ p ∈ ps, ∃ a, p.2 = Value.ref a := fun p h => by
    have := hp.mem_iff.mp h
    rw [ez] at this
    obtain ⟨q, _, rfl⟩ := List.mem_map.mp this
    exact ⟨q.2, rfl⟩
  refine ⟨(ps.map fun p => (p.1, backA p.2)).map Prod.snd, ?_, ps.map fun p => (p.1, backA p.2), ?_, rfl, ?_, fun c => ?_⟩
  · rw [ho, List.map_map, List.map_map]
    refine List.map_congr_left fun p h => ?_
    obtain ⟨a, e⟩ := all p h
    show p.2 = Value.ref (backA p.2)
    rw [e]
    rfl
  · have := hp.map fun p => (p.1, backA p.2)
    rw [ez, eb] at this
    exact this
  · rw [List.pairwise_map]
    exact hw
  · have := congrArg (List.map fun p : Int × Value => (p.1, backA p.2)) (hf c)
    rw [ez] at this
    rw [List.filter_map]
    refine Eq.trans ?_ (this.trans ?_)
    · rfl
    · rw [List.filter_map]
      exact eb2 _
theorem refs_vals : ∀ {us : List Addr} {its : List Value}, Vals (us.map V.ref) its → its = us.map Value.ref
  | [], its, h => by
    cases h
    rfl
  | u :: us, its, h => by
    cases h with
    | cons e r =>
      rw [show _ = Value.ref u from e, refs_vals r]
      rfl
theorem lam_run1 {CX : CXT} {P : Program} {w : World} {K : PySem.W.Frag} {mg : Str → Option Value} {base : Heap} {k : Nat} {f c' : Addr} {qual : Str} {params : Arguments} {body : Expr} {scope : Scope} {pm ctv : Value} {N ps : List Str}
    {A : Around} {outer : List Env} {s : Shared} {H : Hp} {us : List Value} {vs : List V} {Q : VK} {E : XK} {t : TE}
    (ho : s.heap.get? f = some (kla_obj "<lambda>" qual params body scope [] pm c' ctv)) (hcd : s.heap.CodeRec (.ref c') qual) (S : FnScope N ps scope) (hr : Room (k + 1) A) (e0 : Env0 P w K mg base A outer s H)
    (hb : bindArgs (kla_fn "<lambda>" qual params body scope [] pm (.ref c') ctv) ⟨us, []⟩ = pure (ps.zip us)) (r : Vals vs us) (hl : vs.length = ps.length)
    (hbody : PE (cxOf CX P w K mg base N qual scope f (.ref c') A outer s H E) body t) (ht : t (L2.start N vs) H Q) : codeAny (model P w) A (.call (.ref f) ⟨us, []⟩) (CR CX outer P w H s Q E) s := by
  have lim : s.heap.NoLimit := e0.mod.nolimit.keeps fun b o e => (e0.bs b o e).1
  have hkind : ∀ y ∈ ps.zip us, scope.names.lookup y.1 = some .local ∨ (scope.names.lookup y.1 = some .cell ∧ ((cellsFrom (s.heap.objs.size + 1) scope.names []).lookup y.1).isSome = true) := fun ⟨n, v⟩ hy => by
    rcases S.par n (List.of_mem_zip hy).1 with q | q
    · exact .inl q
    · exact .inr ⟨q, PySem.W.cellsFrom_some _ _ _ (.inl q)⟩
  refine PySem.W.kla_callFunE hr.depth ho rfl S.co S.gen rfl hcd ?_
  rw [hb]
  refine wpAny_pure (wpAny_newFunctionEnv_cells S.kind hkind fun env he s1 x => ?_)
  subst he
  refine ⟨lim.keeps x.toInCall.keep, ?_⟩
  have I : Inv (cxOf CX P w K mg base N qual scope f (.ref c') A outer s H E) [] (L2.start N vs) H s1 := inv_start S hr.hd e0 hl r x
  refine PySem.W.kla_codeExpr (wpAny_mono (hbody.run [] s1 (L2.start N vs) H Q I ht) (fun v s' hq => ?_) fun e s' hq => hq)
  obtain ⟨w', H', J', rv, q⟩ := hq
  exact ⟨w', H', J'.os, J'.bare, J'.base, J'.hok, rv, q⟩
def tSortLam (T : List (Addr × Str)) (te tb : TE) : TE := fun σ H Q => tCons te tNil σ H fun vs H1 => Tabs T H1 ∧ ∃ (a : Addr) (us : List Addr), vs = [.ref a] ∧ H1 a = some (.lst (us.map V.ref)) ∧
  ∀ H2, ExtN H1 H2 → Tabs T H2 → ∃ kz : List Int, kz.length = us.length ∧ (∀ (i : Nat) (u : Addr) (k : Int), us[i]? = some u → kz[i]? = some k → tb [some (.ref u)] H2 fun v H' => v = .int k ∧ H' = H2) ∧
    ∀ p ws, H2 p = none → SortedBy kz us ws → Q (.ref p) (upd H2 p (.lst (ws.map V.ref)))
section
variable {X : Cx}
theorem pe_sortLam {T : List (Addr × Str)} {c P : Addr} {x : Str} {params : Arguments} {body : Expr} {scope : Scope} {e : Expr} {te tb : TE} {p lpos kpos pos : Pos}
    (hg : Gl X "sorted") (hm : X.mg "sorted" = none) (he : PE X e te) (TB : TabB X.base X.mg c P) (hcode : X.env.code = .ref c) (hmT : (P, X.env.qual ++ "<lambda>") ∈ T) (hu : ∀ p ∈ T, p.1 = P → p.2 = X.env.qual ++ "<lambda>")
    (hr : Room 4 X.A) (S : FnScope [x] [x] scope) (hdef : defaultsOf params X.env = ([], [])) (hclo : cloFrom X.env.cells scope.names [] = [])
    (hbind : ∀ (q : Str) (pm cv ctv u : Value), bindArgs (kla_fn "<lambda>" q params body scope [] pm cv ctv) ⟨[u], []⟩ = pure [(x, u)])
    (hbody : ∀ (A : Around) (outer : List Env) (s : Shared) (H : Hp) (f c' : Addr), PE (cxOf C8.CX0 X.prog X.w X.K X.mg X.base [x] (X.env.qual ++ "<lambda>") scope f (.ref c') A outer s H C8.E0) body tb)
    (h1 : backTo pos (starEach [e] X.env) = (false, eval e X.env) :: backTo pos (starEach [] X.env) := by rfl) (h2 : (backTo pos (starEach [e] X.env)).any (·.1) = false := by rfl)
    (h3 : (backToKw pos (keywordEach [⟨some "key", .Lambda params body scope lpos, kpos⟩] X.env)).all (·.1.isSome) = true := by rfl) (h4 : (backToKw pos (keywordEach [⟨some "key", .Lambda params body scope lpos, kpos⟩] X.env)).any (·.1.isNone) = false := by rfl)
    (hks : (backToKw pos (keywordEach [⟨some "key", .Lambda params body scope lpos, kpos⟩] X.env)).filterMap (·.1) = [Str.ofString "key"] := by rfl) (hst : starEach [e] X.env = (false, eval e X.env) :: starEach [] X.env := by rfl) :
    PE X (.Call (.Name "sorted" p) [e] [⟨some "key", .Lambda params body scope lpos, kpos⟩] pos) (tSortLam T te tb) := by
  refine ⟨fun pins s σ H Q I h => ?_⟩
  refine wpAny_Call_Name_kw (ld_blt I hg hm (by rfl) ?_ (by decide) (by decide))
  refine PyProof.Rows.callWith_kw (thn ((pa_cons he pa_nil hst).run pos pins s σ H _ I h) fun us' s1 ⟨vs, H1, I1, r1, hT, a, us, evs, ha, q1⟩ => ?_) h1 h2 h3 h4
  subst evs
  obtain rfl := Vals.ref1 r1
  rw [hks]
  show wpAny _ _ (evalAll ((do let v ← eval (.Lambda params body scope lpos) X.env; standAt pos; pure v) :: (backToKw pos (keywordEach [] X.env)).map (·.2))) _ _ s1
  refine wpAny_evalAll_cons (wpAny_bind (lam_make2 I1 TB hcode hmT hu hT hdef (fun y hy hf => absurd hf (S.nofree y hy)) fun f c' pm ctv H2 s2 I2 eN T2 hf hfn hfr hco => wpAny_bind (wpAny_standAt (wpAny_pure (wpAny_evalAll_nil ?_)))))
  rw [hclo] at hf
  obtain ⟨kz, lk, hkey, q⟩ := q1 H2 eN T2
  have ha2 : H2 a = some (.lst (us.map V.ref)) := eN _ _ ha fun ps z => nomatch z
  obtain ⟨its, rv, hl, hz⟩ := I2.list (SqL.of ha2)
  obtain rfl := refs_vals rv
  rw [List.length_map] at hz
  have nofr : ∀ b, s2.heap.objs.size ≤ b → b ∉ frs X.stack := fun b hb z => by
    rcases List.mem_cons.mp (I2.stkSub _ z) with e | e
    · have h1 := I2.lt
      rw [← e] at h1
      exact Nat.lt_irrefl _ (Nat.lt_of_lt_of_le h1 hb)
    · exact I2.nofs hb e
  have hlt : f < s2.heap.objs.size := Heap.lt_size hf
  have fresh : ∀ b, s2.heap.objs.size ≤ b → H2 b = none := fun b hb => I2.hok.fresh hb
  have fpD := I2.fpOk (Nat.le_succ _) (fresh _ (Nat.le_succ s2.heap.objs.size))
  have fpK := I2.fpOk (Nat.le_add_right _ 3) (fresh _ (Nat.le_add_right s2.heap.objs.size 3))
  refine key_sorted (Iv := fun s' => Inv X pins σ H2 s' ∧ s'.heap.get? f = some (kla_obj "<lambda>" (X.env.qual ++ "<lambda>") params body scope [] pm c' ctv)) (kz := kz) hl.isList (by rw [List.length_map]; exact lk) (by rw [List.length_map]; exact hz) (ksk_s1 _ _) (fun _ => ksk_l1 _ _) (fun x => ksk_t1 f x) (fun s' h' tk ⟨I', hf'⟩ k' => ?_) ⟨I2, hf⟩ ?_ (fun s' out c2 ⟨I', hf'⟩ hD hout => ?_)
  · refine ⟨I'.turnedL (ch := [s2.heap.objs.size + 3, s2.heap.objs.size + 1]) (fun b o hb e => ?_) (fun b hb => ?_), k' _ _ (Nat.ne_of_lt (Nat.lt_of_lt_of_le hlt (Nat.le_add_right _ 3))) (Nat.ne_of_lt (Nat.lt_succ_of_lt hlt)) hf'⟩
    · simp only [List.mem_cons, List.not_mem_nil, or_false, not_or] at hb
      exact k' b o hb.1 hb.2 e
    · simp only [List.mem_cons, List.not_mem_nil, or_false] at hb
      rcases hb with rfl | rfl
      · exact fpK
      · exact fpD
  · intro i v k hv hk s' o1 o2 ⟨I', hf'⟩ ho1 ho2
    rw [List.getElem?_map] at hv
    obtain ⟨u, hu', rfl⟩ := Option.map_eq_some_iff.mp hv
    obtain ⟨⟨oc, vs, t, hoc, hdc, hvc⟩, _, _⟩ := I'.hok c' _ hco
    refine wpAny_call (codeAny_mono (lam_run1 (k := 1) (N := [x]) (ps := [x]) (us := [.ref u]) (vs := [.ref u]) hf' ⟨c', oc, vs, t, rfl, hoc, hdc, hvc⟩ S hr.in1.in1 I'.env0.in1.in1 (hbind _ _ _ _ _) (.cons rfl .nil) rfl (hbody _ _ _ _ _ _) (hkey i u k hu' hk)) fun r s3 hq => ?_)
    cases r with
    | error e => exact (show False from hq).elim
    | ok fl =>
      cases fl with
      | ret w3 =>
        have hq : CE X.stack X.prog X.w H2 s' (fun v H' => v = .int k ∧ H' = H2) w3 s3 := hq
        have un := hq
        obtain ⟨_, H5, _, _, un, _, _, _, e5⟩ := un
        obtain ⟨v', H4, I4, rv', e1, e2⟩ := I'.after hq
        rw [e2] at I4
        subst e1
        obtain ⟨t', rfl⟩ := rv'
        exact ⟨t', rfl, ⟨I4, un.keep f _ hf' hfn hfr (fun z => nomatch (show f ∈ ([] : List Addr) from z))⟩, un.keep _ _ ho1 (fresh _ (Nat.le_add_right _ 3)) (nofr _ (Nat.le_add_right _ 3)) (fun z => by cases z), un.keep _ _ ho2 (fresh _ (Nat.le_succ _)) (nofr _ (Nat.le_succ _)) (fun z => by cases z)⟩
      | next => exact False.elim hq
      | brk => exact False.elim hq
      | cont => exact False.elim hq
  · obtain ⟨ws, ew, sb⟩ := sortedBy_of hout
    have lw : (ws.map V.ref).length ≤ sizeLine := by
      obtain ⟨ps, hp, e, _⟩ := sb
      rw [List.length_map, e, List.length_map, hp.length_eq, List.length_zip]
      omega
    have vals : Vals (ws.map V.ref) (ws.map Value.ref) := by
      clear ew sb lw
      induction ws with
      | nil => exact .nil
      | cons w0 ws ih => exact .cons rfl ih
    refine ⟨.ref (s2.heap.objs.size + 1), upd H2 (s2.heap.objs.size + 1) (.lst (ws.map V.ref)), ?_, rfl, q _ ws (fresh _ (Nat.le_succ _)) sb⟩
    have := I'.take (h' := s'.heap) (t' := s'.toks) (o := .lst (ws.map V.ref)) (fun b ob _ e => e) fpD ⟨lw, _, c2, vals, by rw [← ew]; simpa using hD⟩
    exact this
end
end L2

set_option Elab.async false
set_option linter.all false
set_option maxRecDepth 100000
set_option maxHeartbeats 4000000
/-! Sets of words sorted by size. -/
namespace L2
open PySem PySem.Spec PyProof.Rows
theorem zip_keys {us : List Addr} {g : Addr → Int} : (us.map g).zip us = us.map fun u => (g u, u) := by
  induction us with
  | nil => rfl
  | cons u us ih =>
    show (g u, u) :: (us.map g).zip us = _
    rw [ih]
    rfl
theorem bySize_of {zs : List Str} {us ws : List Addr} {g : Addr → List Str} (h : SortedBy (us.map fun u => ((g u).length : Int)) us ws) (e : us.map g = setsZ zs) : BySize zs (ws.map g) := by
  obtain ⟨ps, hp, rfl, hw, hf⟩ := h
  rw [zip_keys] at hp hf
  have key : ∀ p ∈ ps, p.1 = ((g p.2).length : Int) := fun p h => by
    obtain ⟨u, _, rfl⟩ := List.mem_map.mp (hp.mem_iff.mp h)
    rfl
  refine ⟨?_, fun k => ?_⟩
  · rw [List.pairwise_map, List.pairwise_map]
    refine hw.imp_of_mem fun {p q} hp' hq' hr => ?_
    rw [key p hp', key q hq'] at hr
    omega
  · have e1 : (ps.filter fun p => decide ((g p.2).length = k)) = ps.filter fun p => p.1 == (k : Int) := List.filter_congr fun p h => by
      rw [key p h]
      by_cases c : (g p.2).length = k
      · rw [decide_eq_true c, c]
        simp
      · rw [decide_eq_false c]
        symm
        simp
        omega
    have e2 : (us.map fun u => (((g u).length : Int), u)).filter (fun p => p.1 == (k : Int)) = (us.filter fun u => decide ((g u).length = k)).map fun u => (((g u).length : Int), u) := by
      rw [List.filter_map]
      refine congrArg _ (List.filter_congr fun u _ => ?_)
      show (((g u).length : Int) == (k : Int)) = decide ((g u).length = k)
      by_cases c : (g u).length = k
      · rw [decide_eq_true c, c]
        simp
      · rw [decide_eq_false c]
        simp
        omega
    rw [List.map_map, List.filter_map]
    show List.map (g ∘ Prod.snd) (ps.filter fun p => decide ((g p.2).length = k)) = _
    rw [e1, hf, e2, List.map_map, ← setsZ_combos, ← e, List.filter_map]
    rfl
/-- the words of a list, as the heap has them -/
def rowG (H : Hp) (u : Addr) : List Str := match H u with
  | some (.lst xs) => xs.filterMap fun v => match v with
    | .str z => some z
    | _ => none
  | _ => []
theorem rowG_of {H : Hp} {u : Addr} {l : List Str} (h : H u = some (.lst (l.map V.str))) : rowG H u = l := by
  unfold rowG
  rw [h]
  show List.filterMap _ (l.map V.str) = l
  rw [List.filterMap_map]
  exact List.filterMap_some
theorem rows_g {H : Hp} : ∀ {us : List Addr} {ls : List (List Str)}, Rows H us ls → us.map (rowG H) = ls ∧ ∀ u ∈ us, H u = some (.lst ((rowG H u).map V.str))
  | [], _, .nil => ⟨rfl, fun u h => by cases h⟩
  | u :: us, _, .cons (b := l) e r => by
    obtain ⟨h1, h2⟩ := rows_g r
    have e : H u = some (.lst (l.map V.str)) := e
    refine ⟨by rw [List.map_cons, h1, rowG_of e], fun v hv => ?_⟩
    rcases List.mem_cons.mp hv with rfl | hv
    · rw [rowG_of e]
      exact e
    · exact h2 v hv
theorem rows_map {H : Hp} {g : Addr → List Str} : ∀ {us : List Addr}, (∀ u ∈ us, H u = some (.lst ((g u).map V.str))) → Rows H us (us.map g)
  | [], _ => .nil
  | u :: us, h => .cons (h u List.mem_cons_self) (rows_map fun v hv => h v (List.mem_cons_of_mem _ hv))
theorem sortedBy_mem {kz : List Int} {us ws : List Addr} (h : SortedBy kz us ws) : ∀ u ∈ ws, u ∈ us := fun u hu => by
  obtain ⟨ps, hp, rfl, _⟩ := h
  obtain ⟨p, h, rfl⟩ := List.mem_map.mp hu
  exact (List.of_mem_zip (a := p.1) (b := p.2) (hp.mem_iff.mp h)).2
end L2

set_option Elab.async false
set_option linter.all false
set_option maxRecDepth 100000
set_option maxHeartbeats 4000000
namespace K83
open PySem PySem.Spec PyProof.Rows L2
theorem setsZ_row : ∀ {zs l : List Str}, l ∈ setsZ zs → l.length ≤ zs.length
  | [], l, h => by
    rw [List.mem_singleton.mp h]
    exact Nat.le_refl _
  | z :: zs, l, h => by
    rcases List.mem_append.mp h with h | h
    · obtain ⟨m, hm, rfl⟩ := List.mem_map.mp h
      exact Nat.succ_le_succ (setsZ_row hm)
    · exact Nat.le_succ_of_le (setsZ_row h)
abbrev lamQ : Str := ("_law_sets" : Str) ++ ".<locals>." ++ "<lambda>"
def spSets (T : List (Addr × Str)) : Sp := fun vs H Q _ => ∃ (wl : Addr) (zs : List Str), vs = [.ref wl] ∧ H wl = some (.lst (zs.map V.str)) ∧ zs.length ≤ 6 ∧ LamX.Tabs T H ∧
  ∀ H' p (us : List Addr) (ls : List (List Str)), LamX.ExtN H H' → LamX.Tabs T H' → H' p = some (.lst (us.map V.ref)) → Rows H' us ls → BySize zs ls → (∀ u ∈ us, H u = none) → Q (.ref p) H'
section
variable {P : Program} {w : World} {K : PySem.W.Frag} {mg : Str → Option Value} {base : Heap}
abbrev setN : List Str := ["_law_words_here", "_law_found", "_law_word", "_law_one"]
theorem ok_sets {f c Pt : Addr} {TT : List (Addr × Str)} {oc kV doc pm ct : Value} {od an : Option Addr} {osl : Array (Option Value)}
    (F : K.lookup f = some ⟨oc, od, .func (PySem.W.fnOf "_law_sets" "_law_sets" (defArgs sSets) (defBody sSets) (defScope sSets) .none kV doc pm an (.ref c) ct), osl⟩) (hcd : PySem.W.codeIn K (.ref c) "_law_sets" = true)
    (B : Bt mg) (zs_ : mg "sorted" = none) (TB : LamX.TabB base mg c Pt) (hmT : (Pt, lamQ) ∈ TT) (hTu : ∀ p ∈ TT, p.1 = Pt → p.2 = lamQ) :
    FnG P w K mg base CX0 6 f (PySem.W.fnOf "_law_sets" "_law_sets" (defArgs sSets) (defBody sSets) (defScope sSets) .none kV doc pm an (.ref c) ct) ["_law_words_here"] (spSets TT) := by
  refine okGC F hcd scSets (fun vs H Q E h => ?_) (fun A outer s H vs Q _ hg hr h => ?_)
  · obtain ⟨wl, zs, rfl, _⟩ := h
    rfl
  · obtain ⟨wl, zs, rfl, hw, z6, hT, q⟩ := h
    refine ⟨_, pss_cons (ps_set (i := 1) scSets.nd rfl (.inl rfl) (pe_lst (pa_cons (pe_lst pa_nil) pa_nil)))
      (pss_cons (ps_for PassesOwn.never rfl (pi_list (pe_revL (pv 0))) (pg_name (i := 2) scSets.nd rfl (.inr rfl))
        (pss_one (ps_set (i := 1) scSets.nd rfl (.inl rfl) (by
          refine' pe_op op_cat (pe_lc (own := [("_law_one", 3)]) (g := gName 3) (by rfl) scSets.nd ?k1 (blkOk_by (own := [("_law_one", 3)]) (N := setN) (sc := defScope sSets) (by decide +kernel)) (fun _ _ _ _ _ => pg_name (i := 3) scSets.nd rfl (Or.inl rfl)) (fun _ _ _ _ _ => pts_nil) ?k2) (pv 1)
          (case k1 => exact pi_list (pv 1))
          (case k2 => intro _ _ _ _ _; exact pe_op op_cat (pe_lst (pa_cons (pv 2) pa_nil)) (pv 3))))))
      (pss_one (ps_ret (pe_sortLam (T := TT) (c := c) (P := Pt) (x := "_law_one") (tb := tCB (rLenS K) (tCons (tVar 0) tNil)) (by rfl) zs_ (pv 1) TB rfl hmT hTu (hr.mono (by decide)) ⟨rfl, rfl, rfl, by decide +kernel, rfl, by decide +kernel, by decide +kernel⟩ rfl rfl (fun _ _ _ _ _ => rfl)
        (fun _ _ _ _ _ _ => by exact pe_callB (r := rLenS K) call_lenS (by rfl) B.len PySem.boot_len (pa_cons (pv 0) pa_nil)))))), ?_⟩
    refine ⟨Nat.zero_le _, fun e ne => ⟨(by show 1 ≤ sizeLine; decide), fun p np => ?_⟩⟩
    have se : Same H (upd H e (.lst [])) := same_new ne
    have he : upd H e (.lst []) e = some (.lst []) := upd_same
    generalize upd H e (.lst []) = H1 at se he np
    have sp : Same H1 (upd H1 p (.lst [.ref e])) := same_new np
    have hp : upd H1 p (.lst [.ref e]) p = some (.lst [.ref e]) := upd_same
    generalize upd H1 p (.lst [.ref e]) = H2 at sp hp
    have s2 := se.trans sp
    refine ⟨_, rfl, wl, _, rfl, SqL.of (s2 _ _ hw), fun l nl => ⟨l, rfl, ⟨_, SqL.of upd_same⟩, ?_⟩⟩
    have sl : Same H2 (upd H2 l (.lst (zs.map V.str).reverse)) := same_new nl
    have hl : upd H2 l (.lst (zs.map V.str).reverse) l = some (.lst (zs.reverse.map V.str)) := by
      rw [List.map_reverse]
      exact upd_same
    generalize upd H2 l (.lst (zs.map V.str).reverse) = H3 at sl hl
    have s3 := s2.trans sl
    refine for_list (K := K) (a := l) (xs := zs.reverse.map V.str) (fun j σ G => ∃ (v2 v3 : Option V) (p : Addr) (us : List Addr), σ = [some (.ref wl), some (.ref p), v2, v3] ∧ Same H3 G ∧ G p = some (.lst (us.map V.ref)) ∧ Rows G us (setsZ (zs.reverse.take j).reverse) ∧ ∀ u ∈ us, H u = none)
      ⟨_, _, p, [e], rfl, Same.refl _, sl _ _ hp, .cons (sl _ _ (sp _ _ he)) .nil, fun u hu => by rw [List.mem_singleton.mp hu]; exact ne⟩ (fun j σ G _ h => ?_) ?_ ?_
    · obtain ⟨_, _, _, _, _, s, _⟩ := h
      exact SqL.of (s _ _ hl)
    · rintro j y σ G hy ⟨v2, v3, p, us, rfl, sG, hpG, rows, frs⟩
      rw [List.getElem?_map] at hy
      obtain ⟨z, hz, rfl⟩ := Option.map_eq_some_iff.mp hy
      have jl := (List.getElem?_eq_some_iff.mp hz).1
      rw [List.length_reverse] at jl
      have tk : (zs.reverse.take (j + 1)).reverse = z :: (zs.reverse.take j).reverse := by
        rw [List.take_add_one, hz, List.reverse_append]
        rfl
      rw [tk]
      have lp : (zs.reverse.take j).reverse.length ≤ 6 := by
        rw [List.length_reverse, List.length_take]
        omega
      generalize (zs.reverse.take j).reverse = pre at rows lp
      have l64 : (setsZ pre).length ≤ 64 := by
        rw [setsZ_len]
        calc 2 ^ pre.length ≤ 2 ^ 6 := Nat.pow_le_pow_right (by decide) lp
          _ = 64 := by decide
      have lus : us.length ≤ 64 := by
        rw [Paired.length rows]
        exact l64
      have sHG := s3.trans sG
      dsimp only [List.set]
      refine ⟨_, rfl, p, rfl, ⟨_, SqL.of hpG⟩, fun D nD => ?_⟩
      refine nest_it (walk_list (K := K) (a := p) (xs := us.map V.ref)) (fun i G' => Same G G' ∧ ∃ vs : List Addr, G' D = some (.lst (vs.map V.ref)) ∧ Rows G' vs (((setsZ pre).take i).map (z :: ·)) ∧ ∀ v ∈ vs, G v = none) ⟨same_new nD, [], upd_same, .nil, fun v hv => by cases hv⟩ (fun i G' _ h => SqL.of (h.1 _ _ hpG)) ?_ ?_
      · rintro i y G' G2 hi ⟨s', vs, hD, rows', fr'⟩ ⟨rfl, hy⟩
        rw [List.length_map] at hi
        rw [List.getElem?_map] at hy
        obtain ⟨u, hu, rfl⟩ := Option.map_eq_some_iff.mp hy
        obtain ⟨row, hrow, hur⟩ := pair_get rows hu
        have hur : G u = some (.lst (row.map V.str)) := hur
        have lrow := setsZ_row (List.mem_of_getElem? hrow)
        refine ⟨rfl, _, rfl, (by show 1 ≤ sizeLine; decide), fun a1 na => ?_⟩
        have sa := same_new na (o := .lst [.str z])
        refine ⟨_, rfl, a1, u, _, _, rfl, rfl, upd_same, sa _ _ (s' _ _ hur), ?_, fun b nb => ?_⟩
        · rw [List.length_map]
          exact Nat.le_of_lt (small1000 (by show 1 + row.length ≤ 1000; omega))
        have sb := same_new nb (o := .lst ([V.str z] ++ row.map V.str))
        have sab := sa.trans sb
        have hD4 := sab _ _ hD
        refine ⟨_, hD4, ?_, same_at (s'.trans sab) nD, vs ++ [b], ?_, ?_, fun v hv => ?_⟩
        · rw [List.length_map, Paired.length rows', List.length_map, List.length_take]
          exact small1000 (by omega)
        · rw [upd_same, List.map_append]
          rfl
        · have nd : ∀ {v : Addr} {r : List Str}, upd (upd G2 a1 (.lst [.str z])) b (.lst ([V.str z] ++ row.map V.str)) v = some (.lst (r.map V.str)) → v ≠ D → upd (upd (upd G2 a1 (.lst [.str z])) b (.lst ([V.str z] ++ row.map V.str))) D (.lst (vs.map V.ref ++ [.ref b])) v = some (.lst (r.map V.str)) := fun h n => by
            rw [upd_ne n]
            exact h
          have tk2 : ((setsZ pre).take (i + 1)).map (z :: ·) = ((setsZ pre).take i).map (z :: ·) ++ [z :: row] := by
            rw [List.take_add_one, hrow, List.map_append]
            rfl
          rw [tk2]
          generalize ((setsZ pre).take i).map (z :: ·) = L at rows'
          refine Paired.snoc ?_ (nd upd_same fun z' => ?_)
          · cases vs with
            | nil =>
              cases rows'
              exact .nil
            | cons v0 vs =>
              refine Paired.mono (fun (v : Addr) (r : List Str) (h : G2 v = some (.lst (r.map V.str))) => nd (sab _ _ h) fun z' => ?_) rows'
              rw [z', hD] at h
              cases r with
              | nil => cases h
              | cons r0 r => cases h
          · rw [z'] at nb
            have := sa _ _ hD
            rw [this] at nb
            cases nb
        · rcases List.mem_append.mp hv with hv | hv
          · exact fr' v hv
          · rw [List.mem_singleton.mp hv]
            exact s'.free (sa.free nb)
      · rintro G' ⟨s', vs, hD, rows', fr'⟩
        rw [List.length_map, Paired.length rows, List.take_length] at rows'
        refine ⟨_, rfl, D, p, _, _, rfl, rfl, hD, s' _ _ hpG, ?_, fun r nr => ?_⟩
        · rw [List.length_map, List.length_map, Paired.length rows', List.length_map]
          exact Nat.le_of_lt (small1000 (by omega))
        have sr := same_new nr (o := .lst (vs.map V.ref ++ us.map V.ref))
        refine ⟨_, _, r, vs ++ us, rfl, sG.trans (s'.trans sr), by rw [upd_same, List.map_append], ?_, fun u hu => ?_⟩
        · exact paired_appC (Paired.mono (fun v t h => sr _ _ h) rows') (Paired.mono (fun v t h => (s'.trans sr) _ _ h) rows)
        · rcases List.mem_append.mp hu with hu | hu
          · exact sHG.free (fr' u hu)
          · exact frs u hu
    · rintro σ G ⟨v2, v3, p, us, rfl, sG, hpG, rows, frs⟩
      rw [List.length_map, List.take_length, List.reverse_reverse] at rows
      have sHG := s3.trans sG
      refine ⟨_, rfl, fun pq hpq => (hT pq hpq).ext sHG, p, us, rfl, hpG, fun H4 eN T4 => ?_⟩
      have rows4 : Rows H4 us (setsZ zs) := Paired.mono (fun (v : Addr) (t : List Str) (h : G v = some (.lst (t.map V.str))) => eN _ _ h fun ps z => HO.noConfusion z) rows
      obtain ⟨eg, hg4⟩ := rows_g rows4
      refine ⟨us.map fun u => ((rowG H4 u).length : Int), by rw [List.length_map], fun i u k hu hk => ?_, fun r ws nr sb => ?_⟩
      · rw [List.getElem?_map, hu] at hk
        obtain rfl := Option.some.inj hk
        refine ⟨_, rfl, u, (rowG H4 u).map V.str, rfl, .inl (SqL.of (hg4 u (List.mem_of_getElem? hu))), ?_, rfl⟩
        rw [List.length_map]
      · have sr := same_new nr (o := .lst (ws.map V.ref))
        have mem := sortedBy_mem sb
        refine q _ r ws (ws.map (rowG H4)) (fun b o h n => sr _ _ (eN _ _ (sHG _ _ h) n)) (fun pq hpq => (T4 pq hpq).ext sr) upd_same (rows_map fun u hu => sr _ _ (hg4 u (mem u hu))) (bySize_of sb eg) fun u hu => frs u (mem u hu)
end
end K83

set_option Elab.async false
set_option linter.all false
set_option maxRecDepth 100000
set_option maxHeartbeats 4000000
namespace K83
open PySem PySem.Spec PyProof.Rows L2
theorem ite2s {c : Bool} {A X : Prop} (S : Prop) (k : S → A) (h1 : c = true → S) (h2 : ¬ c = true → (S → A) → X) : if c = true then A else X := by
  by_cases h : c = true
  · rw [if_pos h]
    exact k (h1 h)
  · rw [if_neg h]
    exact h2 h k
theorem DueAt.few {zs : List Str} {cl : List Tri} {out due : List (List Str)} {j : Nat} (b : BySize zs out) (h : DueAt cl (out.take j) due) (z6 : zs.length ≤ 6) : due.length ≤ 64 := by
  rcases h with ⟨rfl, _⟩ | ⟨k, rfl, _⟩
  · exact Nat.zero_le _
  · have e : ((out.take j).filter fun l => decide (l.length = k) && coverB cl l) = ((out.take j).filter fun l => decide (l.length = k)).filter (coverB cl) := by
      rw [List.filter_filter]
      exact List.filter_congr fun l _ => Bool.and_comm _ _
    rw [e]
    refine Nat.le_trans (List.length_filter_le _ _) (Nat.le_trans ((List.take_sublist j out).filter _).length_le ?_)
    rw [b.cls k]
    refine Nat.le_trans (combos_len zs k) ?_
    calc 2 ^ zs.length ≤ 2 ^ 6 := Nat.pow_le_pow_right (by decide) z6
      _ = 64 := by decide
theorem page_ext {H H' : Hp} {C CP x : Addr} {zs : List Str} {m : Int} {f : Str × Str → V} (ok : PageOk H C CP x zs m f) (e : ∀ b o, H b = some o → (∀ ps, o ≠ .tbl ps) → H' b = some o) : PageOk H' C CP x zs m f := by
  obtain ⟨⟨dx, c, d, h1, ⟨dc, l, h4, h5⟩, h3⟩, h6, h7, h8⟩ := ok
  have e1 := e _ _ h1 fun ps z => HO.noConfusion z
  have e3 := e _ _ h3 fun ps z => HO.noConfusion z
  have e4 := e _ _ h4 fun ps z => HO.noConfusion z
  have e5 := e _ _ h5 fun ps z => HO.noConfusion z
  have e6 : CrowdOf H' C c zs m := ⟨dc, l, e4, e5⟩
  exact ⟨⟨dx, c, d, e1, e6, e3⟩, h6, h7, h8⟩
theorem sqL_ext {K : PySem.W.Frag} {H H2 : Hp} {a : Addr} {xs : List V} (s : LamX.ExtN H H2) (h : SqL K H a xs) : SqL K H2 a xs := by
  unfold SqL Rd at h ⊢
  rcases h with (h | ⟨o, h⟩) | h
  · exact .inl (.inl (s _ _ h fun ps z => HO.noConfusion z))
  · exact .inl (.inr ⟨o, s _ _ h fun ps z => HO.noConfusion z⟩)
  · exact .inr h
def rowsD (ls : List (List Str)) : List PyData := ls.map fun l => .list (l.map .str)
theorem rowsD_dp {K : PySem.W.Frag} {H : Hp} : ∀ {us : List Addr} {ls : List (List Str)}, Rows H us ls → DpAll K H (us.map V.ref) (rowsD ls)
  | [], _, .nil => .nil
  | u :: us, _, .cons (b := l) e r => .cons (.lst (SqL.of (show H u = some (.lst (l.map V.str)) from e)) (dp_strs l)) (rowsD_dp r)
theorem rowsD_lay : ∀ {ls : List (List Str)}, (∀ l ∈ ls, ∀ z ∈ l, PyData.strOk z = true) → PyData.canLayAll0 (rowsD ls) = true ∧ PyData.depthAll (rowsD ls) ≤ 5
  | [], _ => ⟨rfl, by simp [rowsD, PyData.depthAll]⟩
  | l :: ls, h => by
    obtain ⟨h1, h2⟩ := rowsD_lay fun m hm => h m (List.mem_cons_of_mem _ hm)
    have d := depth_strs l
    show PyData.canLayAll0 (PyData.list (l.map .str) :: rowsD ls) = true ∧ PyData.depthAll (PyData.list (l.map .str) :: rowsD ls) ≤ 5
    refine ⟨?_, ?_⟩
    · rw [PyData.canLayAll0, PyData.canLay0, lay_strs (h l List.mem_cons_self), h1]
      rfl
    · rw [PyData.depthAll, PyData.depth]
      omega
theorem rowsD_shaped {ls : List (List Str)} (h : ∀ l ∈ ls, ∀ z ∈ l, PyData.strOk z = true) : SeqAt.shaped (.list (rowsD ls)) = true ∧ PyData.eqv (.list (rowsD ls)) (.list (rowsD ls)) = true := by
  obtain ⟨h1, h2⟩ := rowsD_lay h
  refine ⟨?_, SeqAt.eqv_refl _ (by rw [PyData.canLay0]; exact h1)⟩
  unfold SeqAt.shaped
  rw [PyData.canLay0, h1, Bool.true_and]
  refine decide_eq_true ?_
  rw [PyData.depth]
  omega
def spLaw (K : PySem.W.Frag) (TT : List (Addr × Str)) : Sp := fun vs H Q _ => ∃ (a : Addr) (ns : List Int), vs = [.ref a] ∧ SqL K H a (ns.map V.int) ∧ ns.length ≤ 63 ∧ LamX.Tabs TT H ∧ ∀ H', Q (.bl true) H'
abbrev lawN : List Str := ["_law_script", "_law_k", "_law_pool", "_law_words_here", "_law_most", "_law_marks_here", "_law_page", "_law_spread", "_law_due", "_law_out", "_law_word", "_law_told", "_law_always"]
section
variable {P : Program} {w : World} {K : PySem.W.Frag} {mg : Str → Option Value} {base : Heap} {C CP CB : Addr}
theorem ok_law {fA fO fD fW fM fC fPI fL fG fZ fE : Addr} {fd dO dD dW dM dC dPI dL dG dZ dE : FuncData} {TT : List (Addr × Str)} (F : Fun K "law" "law" sLaw fA fd)
    (GO : FnOk P w K mg base CX0 2 fO dO ["_law_script", "_law_k", "_law_many"] (spOpenedC K)) (kO : PySem.W.keepIn K (.ref fO) = true) (bO : Binds K dO ["_law_script", "_law_k", "_law_many"] []) (gO : mg "_law_opened" = some (.ref fO))
    (GD : FnOk P w K mg base CX0 1 fD dD ["_law_pool", "_law_many"] spDrawC) (kD : PySem.W.keepIn K (.ref fD) = true) (bD : Binds K dD ["_law_pool", "_law_many"] []) (gD : mg "_law_draw" = some (.ref fD))
    (GW : FnOk P w K mg base CX0 2 fW dW ["_law_pool", "_law_many"] spWordsC) (kW : PySem.W.keepIn K (.ref fW) = true) (bW : Binds K dW ["_law_pool", "_law_many"] []) (gW : mg "_law_words" = some (.ref fW))
    (GM : FnOk P w K mg base CX0 2 fM dM ["_law_pool", "_law_game", "_law_missing"] spMarksC) (kM : PySem.W.keepIn K (.ref fM) = true) (bM : Binds K dM ["_law_pool", "_law_game", "_law_missing"] []) (gM : mg "_law_marks" = some (.ref fM))
    (GC : FnOk P w K mg base (L2.CX P w) 3 fC dC ["self", "people", "most"] (spCrowdNew K C CB)) (M : Mk K C fC) (gC : mg "Crowd" = some (.ref C)) (bC : Binds K dC ["self", "people", "most"] [])
    (MP : Mk K CP fPI) (GPI : FnOk P w K mg base CX0 6 fPI dPI ["self", "crowd", "marks"] (spPageInit C CP)) (gPg : mg "Page" = some (.ref CP)) (bPI : Binds K dPI ["self", "crowd", "marks"] [])
    (GL : FnOk P w K mg base CX0 5 fL dL ["page", "spread"] (spLeastOut C CP)) (kL : PySem.W.keepIn K (.ref fL) = true) (bL : Binds K dL ["page", "spread"] []) (gL : mg "least_left_out" = some (.ref fL))
    (GG : FnOk P w K mg base CX0 5 fG dG ["page", "spread"] (spAlways C CP)) (kG : PySem.W.keepIn K (.ref fG) = true) (bG : Binds K dG ["page", "spread"] []) (gG : mg "always_left_out" = some (.ref fG))
    (GZ : FnG P w K mg base CX0 6 fZ dZ ["_law_words_here"] (spSets TT)) (kZ : PySem.W.keepIn K (.ref fZ) = true) (bZ : Binds K dZ ["_law_words_here"] []) (gZ : mg "_law_sets" = some (.ref fZ))
    (GE : FnOk P w K mg base CX0 1 fE dE ["_law_marks_here", "_law_words_here", "_law_spread"] spEnough) (kE : PySem.W.keepIn K (.ref fE) = true) (bE : Binds K dE ["_law_marks_here", "_law_words_here", "_law_spread"] []) (gE : mg "_law_is_enough" = some (.ref fE))
    (B : Bt mg) : FnG P w K mg base CX0 8 fA fd ["_law_script"] (spLaw K TT) := by
  refine F.okG scLaw (fun vs H Q E h => ?_) (fun cdv A outer s H vs Q E hg hr h => ?_)
  · obtain ⟨a, ns, rfl, _⟩ := h
    rfl
  · obtain ⟨a, ns, rfl, hS, hlen, hT, q⟩ := h
    have hu64 : (A.deeper (envOfC "law" (defScope sLaw) s.heap.objs.size fA cdv)).units + 64 < cLine := by
      have := hr.un
      omega
    refine ⟨_, pss_cons (ps_for PassesOwn.never rfl (pi_range1 (by rfl) B.range (pa_cons (pe_callB (call_max2 rfl) (by rfl) B.max (by decide +kernel) (pa_cons pe_int (pa_cons (pe_callB (call_min2 rfl) (by rfl) B.min (by decide +kernel) (pa_cons (pe_callB call_len_seq (by rfl) B.len PySem.boot_len (pa_cons (pv 0) pa_nil)) (pa_cons pe_int pa_nil))) pa_nil))) pa_nil)) (pg_name (i := 1) scLaw.nd rfl (.inl rfl))
        (pss_cons (ps_set (i := 2) scLaw.nd rfl (.inl rfl) (pe_call GO (hr.mono (by decide)) (by rfl) gO kO bO .nil pass0 (pa_cons (pv 0) (pa_cons (pv 1) (pa_cons pe_int pa_nil)))))
        (pss_cons (ps_par (i := 3) (j := 4) (by rfl) scLaw.nd rfl rfl (by decide) rfl rfl (pa_cons (pe_call GW (hr.mono (by decide)) (by rfl) gW kW bW .nil pass0 (pa_cons (pv 2) (pa_cons (pe_op op_add pe_int (pe_call GD (hr.mono (by decide)) (by rfl) gD kD bD .nil pass0 (pa_cons (pv 2) (pa_cons pe_int pa_nil)))) pa_nil))) (pa_cons (pe_op op_add pe_int (pe_call GD (hr.mono (by decide)) (by rfl) gD kD bD .nil pass0 (pa_cons (pv 2) (pa_cons pe_int pa_nil)))) pa_nil)) (by rfl))
        (pss_cons (ps_set (i := 5) scLaw.nd rfl (.inl rfl) (pe_call GM (hr.mono (by decide)) (by rfl) gM kM bM .nil pass0 (pa_cons (pv 2) (pa_cons (pe_disp (pps_cons pe_str (pv 3) (pps_cons pe_str (pv 4) pps_nil)) (by rfl) (by rfl) (fun z => by cases z) (by decide)) (pa_cons (pe_op op_mul pe_int (pe_call GD (hr.mono (by decide)) (by rfl) gD kD bD .nil pass0 (pa_cons (pv 2) (pa_cons pe_int pa_nil)))) pa_nil)))))
        (C8.pss_cut (ps_set (i := 6) scLaw.nd rfl (.inl rfl) (pe_make MP GPI (hr.mono (by decide)) (by rfl) gPg bPI .nil pass0 (pa_cons (pe_make M GC (hr.mono (by decide)) (by rfl) gC bC .nil (E := fun _ _ _ => False) (passes_call LamX.takes0 fun _ _ _ _ z => z) (pa_cons (pv 3) (pa_cons (pv 4) pa_nil))) (pa_cons (pv 5) pa_nil))))
        (pss_one (ps_for PassesOwn.never rfl (pi_range1 (by rfl) B.range (pa_cons (pe_op op_add (pv 4) pe_int) pa_nil)) (pg_name (i := 7) scLaw.nd rfl (.inl rfl))
          (pss_cons (ps_set (i := 8) scLaw.nd rfl (.inr rfl) (pe_lst pa_nil))
          (C8.pss_cut (ps_for PassesOwn.never rfl (pi_list (pe_callG GZ (by exact hg) (hr.mono (by decide)) (by rfl) gZ kZ bZ (E := fun _ _ _ _ => False) (fun _ => pass0) (pa_cons (pv 3) pa_nil))) (pg_name (i := 9) scLaw.nd rfl (.inr rfl))
            (pss_one (ps_if (PW.pt (pw_or (pt_cmpR (op_eqD (by exact hu64)) (pv 8) (pe_lst pa_nil) (nomark _)) (pw_or1 (pt_cmpR op_eq (pe_callB (r := rLenS K) call_lenS (by rfl) B.len PySem.boot_len (pa_cons (pv 9) pa_nil)) (pe_callB (r := rLenS K) call_lenS (by rfl) B.len PySem.boot_len (pa_cons (pe_ix (r := rIxL K) ix_list (pv 8) pe_int (fun _ _ => rfl)) pa_nil)) (nomark _)))))
              (pss_one (ps_if (by
                refine' pt_val (pe_call GE (hr.mono (by decide)) (by rfl) gE kE bE .nil pass0 (pa_cons (pv 5) (pa_cons (pe_lc (own := [("_law_word", 10)]) (g := gName 10) (by rfl) scLaw.nd ?e1 (blkOk_by (own := [("_law_word", 10)]) (N := lawN) (sc := defScope sLaw) (by decide +kernel)) (fun _ _ _ _ _ => pg_name (i := 10) scLaw.nd rfl (by first | exact Or.inl rfl | exact Or.inr rfl)) ?e2 (fun _ _ _ _ _ => by exact pv 10)) (pa_cons (pv 7) pa_nil))))
                (case e1 => exact pi_list (pv 3))
                (case e2 => intro _ _ _ _ _; exact pts_one (pt_cmpR (r := rIn K true) op_notIn_seq (pv 10) (pv 9) (by rfl))))
                (pss_one (ps_expr (pe_bm PySem.F.plainAttrs_list PySem.F.slot_list_append PySem.F.type_list_append mt_append (pv 8) (pa_cons (pv 9) pa_nil)))) pss_nil)) pss_nil)))
          (pss_cons (ps_set (i := 11) scLaw.nd rfl (.inl rfl) (pe_call GL (hr.mono (by decide)) (by rfl) gL kL bL .nil pass0 (pa_cons (pv 6) (pa_cons (pv 7) pa_nil))))
          (pss_cons (ps_if (pt_cut (fun _ H c H2 => c = false ∧ Same H H2) (pt_cmpR (op_neD (by exact hu64)) (pv 11) (pv 8) (nomark _))) (pss_one (ps_ret pe_bl)) pss_nil)
          (pss_cons (by
            refine' ps_setLc (i := 12) (own := [("_law_word", 10)]) (g := gName 10) (by rfl) scLaw.nd rfl rfl (sw_true rfl rfl rfl (by decide +kernel)) ?c1 (blkOk_by (own := [("_law_word", 10)]) (N := lawN) (sc := defScope sLaw) (by decide +kernel)) (fun _ _ _ _ _ => pg_name (i := 10) scLaw.nd rfl (by first | exact Or.inl rfl | exact Or.inr rfl)) ?c2 (fun _ _ _ _ _ => by exact pv 10)
            (case c1 => exact pi_list (pv 3))
            (case c2 =>
              intro _ _ _ _ _
              refine' pts_one (pt_cmpR (r := rEqD K) (op_eqD (by exact hu64)) (pe_lc (own := [("_law_out", 9)]) (wi := iList K (tVar 8)) (g := gName 9) (by rfl) scLaw.nd ?k3 (blkOk_by (own := [("_law_out", 9)]) (N := lawN) (by kernel_rfl)) ?k4 ?k6 ?k5) (pe_lst pa_nil) (nomark _))
              (case k3 => exact pi_list (pv 8))
              (case k4 => intro _ _ _ _ _; exact pg_name (i := 9) scLaw.nd rfl (by first | exact Or.inl rfl | exact Or.inr rfl))
              (case k6 => intro _ _ _ _ _; exact pts_one (pt_cmpR (r := rIn K true) op_notIn_seq (pv 10) (pv 9) (by rfl)))
              (case k5 => intro _ _ _ _ _; exact pv 9)))
          (pss_cons (ps_if (pt_cut (fun _ H c H2 => c = false ∧ Same H H2) (pt_cmpR (op_neD (by exact hu64)) (pe_call GG (hr.mono (by decide)) (by rfl) gG kG bG .nil pass0 (pa_cons (pv 6) (pa_cons (pv 7) pa_nil))) (pv 12) (nomark _))) (pss_one (ps_ret pe_bl)) pss_nil)
          (pss_cons (ps_expr (pe_bm PySem.F.plainAttrs_list PySem.F.slot_list_append PySem.F.type_list_append mt_append (pe_ix (r := rIxL K) ix_list (pv 11) pe_int (fun _ _ => rfl)) (pa_cons pe_str pa_nil)))
          (pss_one (ps_if (pt_cut (fun _ H c H2 => c = false ∧ Same H H2) (pt_cmpR (op_neD (by exact hu64)) (pe_call GL (hr.mono (by decide)) (by rfl) gL kL bL .nil pass0 (pa_cons (pv 6) (pa_cons (pv 7) pa_nil))) (pv 8) (nomark _))) (pss_one (ps_ret pe_bl)) pss_nil))))))))))))))))
      (pss_one (ps_ret pe_bl)), ?_⟩
    have hR := rng_le ((ns.map V.int).length : Int) 5 (by decide)
    refine ⟨_, rfl, a, _, rfl, .inl hS, _, _, rfl, _, _, rfl, _, rfl, by omega, by omega, ?_⟩
    refine for_range (lo := 0) (fun i σ H' => ∃ v1 v2 v3 v4 v5 v6 v7 v8 v9 v10 v11 v12, σ = [some (.ref a), v1, v2, v3, v4, v5, v6, v7, v8, v9, v10, v11, v12] ∧ SqL K H' a (ns.map V.int) ∧ LamX.Tabs TT H') ⟨_, _, _, _, _, _, _, _, _, _, _, _, rfl, hS, hT⟩ ?_ ?_
    · rintro i σ H2 hi ⟨v1, v2, v3, v4, v5, v6, v7, v8, v9, v10, v11, v12, rfl, hS2, hT2⟩
      have hi4 : i ≤ 62 := by omega
      have hk : ns ≠ [] → i < ns.length := fun e => by
        have h1 : 0 < ns.length := List.length_pos_iff.mpr e
        rw [List.length_map] at hi
        by_cases c : (5 : Int) < (ns.length : Int)
        · omega
        · rw [if_neg c] at hi
          split at hi <;> omega
      refine ⟨_, rfl, _, rfl, a, ns, i, 190, by simp, hS2, hlen, hi4, hk, by decide, by decide, fun H3 po s3 npo P3 => ?_⟩
      refine ⟨_, rfl, _, rfl, po, 6, rfl, P3, by decide, fun r1 H4 r10 r11 P4 b4 => ?_⟩
      obtain ⟨n1, rfl⟩ : ∃ n1 : Nat, r1 = (n1 : Int) := ⟨r1.toNat, by omega⟩
      have sd4 : Same (del H3 po) (del H4 po) := del_but b4
      refine ⟨_, _, rfl, rfl, po, 1 + n1, (show [V.ref po, V.int ((1 : Int) + (n1 : Int))] = _ by rw [show (1 : Int) + (n1 : Int) = ((1 + n1 : Nat) : Int) by omega]), P4, by omega, by omega, fun H5 wl zs wz P5 sd5 nwl hwl => ?_⟩
      have nwp := P4.ne nwl
      refine ⟨_, rfl, po, 4, rfl, P5, by decide, fun r2 H6 r20 r21 P6 b6 => ?_⟩
      obtain ⟨n2, rfl⟩ : ∃ n2 : Nat, r2 = (n2 : Int) := ⟨r2.toNat, by omega⟩
      have hwl6 := b6 _ _ nwp hwl
      refine ⟨_, _, rfl, rfl, _, _, rfl, ?_⟩
      refine ⟨_, rfl, fun g ng => ?_⟩
      have s7 : Same H6 (upd H6 g (.dK [])) := same_new ng
      have hg7 : upd H6 g (.dK []) g = some (.dK []) := upd_same
      refine ⟨_, rfl, _, rfl, hg7, duoG wl ((1 + n2 : Nat) : Int), rfl, (by show 2 ≤ 15; decide), ?_⟩
      rw [duoG_merge]
      have sd8 : Same (del H6 po) (del (upd (upd H6 g (.dK [])) g (.dK (duoG wl ((1 + n2 : Nat) : Int)))) po) := del_upd (del_mono s7) ng
      have hg8 : upd (upd H6 g (.dK [])) g (.dK (duoG wl ((1 + n2 : Nat) : Int))) g = some (.dK (duoG wl ((1 + n2 : Nat) : Int))) := upd_same
      have ngp := P6.ne ng
      have P8 : PoolC (upd (upd H6 g (.dK [])) g (.dK (duoG wl ((1 + n2 : Nat) : Int)))) po := (P6.same s7).putD ngp hg7
      generalize upd (upd H6 g (.dK [])) g (.dK (duoG wl ((1 + n2 : Nat) : Int))) = H8 at sd8 hg8 P8
      have hwl8 := del_of (sd8 _ _ (del_at nwp hwl6))
      refine ⟨_, rfl, po, 2, rfl, P8, by decide, fun r3 H9 r30 r31 P9 b9 => ?_⟩
      have hg9 := b9 _ _ ngp hg8
      have hwl9 := b9 _ _ nwp hwl8
      have w8 := wz.six
      refine ⟨_, _, rfl, rfl, .inl ⟨by omega, by omega⟩, ?_⟩
      have few : (4 : Int) * r3 ≤ 100 := by omega
      refine ⟨po, g, wl, 4 * r3, zs, ((1 + n2 : Nat) : Int), rfl, P9, hg9, hwl9, nwp, wz.nd, by omega, by omega, by omega, few, fun H10 d f P10 b10 nd10 hd mks => ?_⟩
      have S10 : Same H2 H10 := by
        refine same_del npo s3 ?_
        exact ((((sd4.trans sd5).trans (del_but b6)).trans sd8).trans (del_but b9)).trans (del_but b10)
      have hwl10 := b10 _ _ nwp hwl9
      have w1 := wz.one
      clear b4 b6 b9 b10 sd4 sd5 sd8 s7 hg7 hwl hwl6 hwl8 hwl9 hg8 hg9
      generalize eM : 1 + n2 = M at mks
      have hM : ((1 : Int) + (n2 : Int)) = (M : Int) := by omega
      refine ⟨fun σ G => ∃ (x : Addr), σ = [some (.ref a), some (.int (i : Int)), some (.ref po), some (.ref wl), some (.int (M : Int)), some (.ref d), some (.ref x), v7, v8, v9, v10, v11, v12] ∧ Same H2 G ∧ PageOk G C CP x zs (M : Int) f ∧ G d = some (.dT (sheetOf zs f)) ∧ G wl = some (.lst (zs.map V.str)), ?_, ?_⟩
      · have mB : markB 1 10 (.int (M : Int)) = true := by
          show (decide (1 ≤ (M : Int)) && decide ((M : Int) ≤ 10)) = true
          rw [decide_eq_true (by omega), decide_eq_true (by omega)]
          rfl
        dsimp only [List.set]
        rw [hM, Int.zero_add]
        refine rd_page (by omega) wz.nd (g := f) (kvs := sheetOf zs f) sheet_len (sheet_marks mks) (fun p hp => valV_sheet hp) (fun Q1 k => ?_) fun H11 x s11 hy => ?_
        · refine st_cons ?_
          refine rd_made (xs := zs.map V.str) mB (fun Q2 k2 => ⟨_, rfl, _, rfl, k2 _ _ (Same.refl _) (.lst' hwl10 wz.items (by rw [List.length_map]; omega) wz.people)⟩) fun H' x dx p s nx np h1 h2 => ?_
          exact ⟨_, rfl, k _ _ _ s ⟨dx, p, h1, h2⟩ (s _ _ hd)⟩
        · exact ⟨x, rfl, S10.trans s11, ⟨hy.of, wz.nd, by omega, mks⟩, s11 _ _ hd, s11 _ _ hwl10⟩
      rintro σ G0 ⟨x, rfl, sG0, ok, hd0, w0⟩
      have M4 : M ≤ 4 := by omega
      have nd := ok.nd
      have mk := ok.mks
      have z6 := wz.six
      have hS0 := sqL_same sG0 hS2
      have hT0 : LamX.Tabs TT G0 := fun p hp => (hT2 p hp).ext sG0
      refine ⟨_, rfl, _, _, rfl, rfl, (M : Int) + 1, rfl, by omega, by omega, ?_⟩
      rw [show ((M : Int) + 1).toNat = M + 1 by omega]
      refine for_range (lo := 0) (n := M + 1) (fun r σ G => ∃ v7 v8 v9 v10 v11 v12, σ = [some (.ref a), some (.int (i : Int)), some (.ref po), some (.ref wl), some (.int (M : Int)), some (.ref d), some (.ref x), v7, v8, v9, v10, v11, v12] ∧ LamX.ExtN G0 G ∧ LamX.Tabs TT G) ⟨_, _, _, _, _, _, rfl, LamX.ExtN.refl _, hT0⟩ ?_ ?_
      · rintro r σ G hr ⟨v7, v8, v9, v10, v11, v12, rfl, eG, TG⟩
        dsimp only [List.set]
        rw [Int.zero_add]
        refine ⟨Nat.zero_le _, fun du ndu => ?_⟩
        have sD : Same G (upd G du (.lst [])) := same_new ndu
        have hdu : upd G du (.lst []) du = some (.lst []) := upd_same
        generalize upd G du (.lst []) = G1 at sD hdu
        have T1 : LamX.Tabs TT G1 := fun p hp => (TG p hp).ext sD
        have e1 : LamX.ExtN G0 G1 := fun b o h n => sD _ _ (eG _ _ h n)
        have w1 := e1 _ _ w0 fun ps z => HO.noConfusion z
        have n0 : ∀ b o, G0 b = some o → (∀ ps, o ≠ .tbl ps) → b ≠ du := fun b o h n z => by
          have := eG _ _ h n
          rw [z, ndu] at this
          cases this
        refine ⟨fun σ G2 => ∃ (v9 : Option V) (ds : List Addr), σ = [some (.ref a), some (.int (i : Int)), some (.ref po), some (.ref wl), some (.int (M : Int)), some (.ref d), some (.ref x), some (.int (r : Int)), some (.ref du), v9, v10, v11, v12] ∧ LamX.ExtN G0 G2 ∧ LamX.Tabs TT G2 ∧ G2 du = some (.lst (ds.map V.ref)) ∧ Rows G2 ds (enoughL zs (clashes zs f (r : Int)) (leastK zs f (r : Int))), ?_, ?_⟩
        · refine ⟨_, rfl, wl, zs, rfl, w1, z6, T1, fun Hs p us ls eS TS hp rows by_ fresh => ⟨p, rfl, ⟨_, SqL.of hp⟩, ?_⟩⟩
          have fdu : ∀ u ∈ us, u ≠ du := fun u hu z => by
            have := fresh u hu
            rw [z, hdu] at this
            cases this
          have hduS := eS _ _ hdu fun ps z => HO.noConfusion z
          have npd : p ≠ du := fun z => by
            rw [z, hduS] at hp
            cases us with
            | nil =>
              cases rows
              have := by_.cls 0
              rw [combos0] at this
              cases this
            | cons u us => cases hp
          have eS0 : LamX.ExtN G0 Hs := e1.trans eS
          have wS := eS0 _ _ w0 fun ps z => HO.noConfusion z
          have dS := eS0 _ _ hd0 fun ps z => HO.noConfusion z
          have nw := n0 _ _ w0 fun ps z => HO.noConfusion z
          have nd0 := n0 _ _ hd0 fun ps z => HO.noConfusion z
          refine for_list (K := K) (a := p) (xs := us.map V.ref) (fun j σ G' => ∃ (v9 : Option V) (ds : List Addr) (due : List (List Str)), σ = [some (.ref a), some (.int (i : Int)), some (.ref po), some (.ref wl), some (.int (M : Int)), some (.ref d), some (.ref x), some (.int (r : Int)), some (.ref du), v9, v10, v11, v12] ∧ But du Hs G' ∧ G' du = some (.lst (ds.map V.ref)) ∧ Rows G' ds due ∧ DueAt (clashes zs f (r : Int)) (ls.take j) due)
            ⟨_, [], [], rfl, fun _ _ _ h => h, hduS, .nil, DueAt.nil⟩ (fun j σ G' _ h => ?_) ?_ ?_
          · obtain ⟨_, _, _, _, b, _⟩ := h
            exact SqL.of (b _ _ npd hp)
          · rintro j y σ G' hy ⟨v9, ds, due, rfl, bG, hduG, rowsG, dueA⟩
            rw [List.getElem?_map] at hy
            obtain ⟨u, hu, rfl⟩ := Option.map_eq_some_iff.mp hy
            obtain ⟨row, hrow, hul⟩ := pair_get rows hu
            have hul : Hs u = some (.lst (row.map V.str)) := hul
            have hulG := bG _ _ (fdu u (List.mem_of_getElem? hu)) hul
            have tk : ls.take (j + 1) = ls.take j ++ [row] := by
              rw [List.take_add_one, hrow]
              rfl
            have up : ∀ m ∈ ls.take j, m.length ≤ row.length := fun m hm => by
              obtain ⟨hj, e⟩ := List.getElem?_eq_some_iff.mp hrow
              have e2 : ls = ls.take j ++ row :: ls.drop (j + 1) := by
                rw [← e, ← List.drop_eq_getElem_cons hj, List.take_append_drop]
              have := by_.up
              rw [e2] at this
              exact (List.pairwise_append.mp this).2.2 m hm row (List.mem_cons_self ..)
            rw [tk]
            have few := DueAt.few by_ dueA z6
            have lds : ds.length ≤ 64 := by
              rw [Paired.length rowsG]
              exact few
            have subL : ∀ l ∈ ls, l.Sublist zs := fun l hl => (combos_mem (k := l.length) (by rw [← by_.cls l.length]; exact List.mem_filter.mpr ⟨hl, decide_eq_true rfl⟩)).1
            have dueL : ∀ l ∈ due, l ∈ ls := fun l hl => by
              rcases id dueA with ⟨e, _⟩ | ⟨k, e, _⟩
              · rw [e] at hl
                cases hl
              · rw [e] at hl
                exact List.mem_of_mem_take (List.mem_filter.mp hl).1
            have okS : ∀ l ∈ due, ∀ z ∈ l, PyData.strOk z = true := fun l hl z hz => wz.ok z ((subL l (dueL l hl)).subset hz)
            dsimp only [List.set]
            refine ⟨_, rfl, Nat.zero_le _, fun e ne => ?_⟩
            have sE : Same G' (upd G' e (.lst [])) := same_new ne
            refine ⟨.list (rowsD due), .list [], .lst (SqL.of (sE _ _ hduG)) (rowsD_dp (show Rows (upd G' e (.lst [])) ds due from Paired.mono (fun (v : Addr) (t : List Str) (h : G' v = some (.lst (t.map V.str))) => sE _ _ h) rowsG)), .lst (SqL.of upd_same) .nil, (rowsD_shaped okS).1, (by decide +kernel), _, rfl, ?_⟩
            rw [eqv_nil]
            generalize upd G' e (.lst []) = GE0 at sE
            have bE : But du Hs GE0 := fun b o nb h => sE _ _ (bG b o nb h)
            have hduE := sE _ _ hduG
            have rowsE : Rows GE0 ds due := Paired.mono (fun (v : Addr) (t : List Str) (h : G' v = some (.lst (t.map V.str))) => sE _ _ h) rowsG
            refine ite2s (due = [] ∨ ∃ d0, due[0]? = some d0 ∧ row.length = d0.length) (fun S => ?_) (fun c => .inl (List.map_eq_nil_iff.mp (of_decide_eq_true c))) (fun c k => ?_)
            · have wE := bE _ _ nw wS
              have uE := sE _ _ hulG
              refine ⟨_, rfl, _, rfl, wl, rfl, ⟨_, SqL.of wE⟩, fun D nD => ?_⟩
              refine nest_it (walk_list (K := K) (a := wl) (xs := zs.map V.str)) (fun j G5 => Same GE0 G5 ∧ G5 D = some (.lst (((zs.take j).filter fun z => decide (z ∉ row)).map V.str))) ⟨same_new nD, upd_same⟩ (fun j G5 _ h => SqL.of (h.1 _ _ wE)) ?_ ?_
              · rintro j y G5 G6 hj ⟨s5, hD⟩ ⟨rfl, hy⟩
                rw [List.getElem?_map] at hy
                obtain ⟨z, hz, rfl⟩ := Option.map_eq_some_iff.mp hy
                have lG := s5 _ _ uE
                obtain ⟨k1, k2⟩ := keep_turn ok.few hz nD s5 hD
                refine ⟨rfl, _, rfl, _, rfl, u, _, rfl, .inl (SqL.of lG), rfl, all_flat_strs _, _, rfl, ?_⟩
                rw [if_pos rfl, inV_strs]
                by_cases c : z ∈ row
                · rw [decide_eq_true c]
                  exact iteF (k2 c)
                · rw [decide_eq_false c]
                  exact iteT ⟨_, rfl, k1 c⟩
              · rintro G5 ⟨s5, hD⟩
                rw [List.length_map, List.take_length] at hD
                refine ⟨_, rfl, d, D, (r : Int), zs, zs.filter fun z => decide (z ∉ row), (M : Int), f, rfl, s5 _ _ (bE _ _ nd0 dS), hD, List.filter_sublist, nd, ok.few, mk, fun H' s' => ⟨_, rfl, ?_⟩⟩
                rw [together_cover]
                have sZ := s5.trans s'
                have hduZ := sZ _ _ hduE
                have bZ : But du Hs H' := fun b o nb h => sZ _ _ (bE b o nb h)
                refine ite2 (fun ce => ?_) (fun ce => ?_)
                · refine ⟨_, rfl, .inl ⟨rfl, _, SqL.of hduZ⟩, _, rfl, du, _, _, rfl, rfl, hduZ, ?_, ?_⟩
                  · rw [List.length_map]
                    exact small1000 (by omega)
                  refine ⟨_, ds ++ [u], due ++ [row], rfl, fun b o nb h => by rw [upd_ne nb]; exact bZ b o nb h, by rw [upd_same, List.map_append]; rfl, ?_, dueA.yes up S ce⟩
                  refine Paired.snoc ?_ ?_
                  · cases ds with
                    | nil =>
                      cases rowsE
                      exact .nil
                    | cons d1 ds =>
                      refine Paired.mono (fun (v : Addr) (t : List Str) (h : GE0 v = some (.lst (t.map V.str))) => ?_) rowsE
                      show upd _ _ _ v = _
                      rw [upd_ne]
                      · exact sZ _ _ h
                      · intro z
                        rw [z, hduE] at h
                        cases t with
                        | nil => cases h
                        | cons t0 t => cases h
                  · show upd _ _ _ u = _
                    rw [upd_ne (fdu u (List.mem_of_getElem? hu))]
                    exact sZ _ _ uE
                · exact ⟨_, ds, due, rfl, bZ, hduZ, Paired.mono (fun (v : Addr) (t : List Str) (h : GE0 v = some (.lst (t.map V.str))) => sZ _ _ h) rowsE, dueA.no (Bool.eq_false_iff.mpr ce)⟩
            · cases due with
              | nil => exact absurd (by rfl) c
              | cons d0 due =>
                obtain ⟨a0, h0, h1⟩ := paired_at rowsE (show (d0 :: due)[0]? = some d0 from rfl)
                have h1 : GE0 a0 = some (.lst (d0.map V.str)) := h1
                refine ⟨_, rfl, u, _, rfl, .inl (SqL.of (sE _ _ hulG)), _, rfl, du, _, (0 : Int), .ref a0, rfl, rfl, SqL.of hduE, atI_nat (j := 0) (by rw [List.getElem?_map, h0]; rfl), a0, _, rfl, .inl (SqL.of h1), rfl, _, rfl, ite2 (fun c2 => k (.inr ⟨d0, rfl, ?_⟩)) (fun c2 => ?_)⟩
                · have := V.int.inj (of_decide_eq_true c2)
                  rw [List.length_map, List.length_map] at this
                  omega
                · refine ⟨_, ds, d0 :: due, rfl, bE, hduE, rowsE, DueAt.other dueA rfl up fun e => c2 (decide_eq_true ?_)⟩
                  rw [List.length_map, List.length_map, e]
          · rintro σ G' ⟨v9, ds, due, rfl, bG, hduG, rowsG, dueA⟩
            rw [List.length_map, Paired.length rows, List.take_length] at dueA
            have := DueAt.done by_ dueA (leastK_ok nd)
            subst this
            have e2 : LamX.ExtN G0 G' := fun b o h n => bG _ _ (n0 b o h n) (eS0 _ _ h n)
            refine ⟨_, ds, rfl, e2, fun pq hpq => ?_, hduG, rowsG⟩
            obtain ⟨ps, h1, h2, h3⟩ := TS pq hpq
            have nl : ∀ b o, Hs b = some o → (∀ xs, o ≠ .lst xs) → G' b = some o := fun b o h n => bG _ _ (fun z => by
              rw [z, hduS] at h
              exact n _ (Option.some.inj h).symm) h
            refine ⟨ps, nl _ _ h1 fun xs z => HO.noConfusion z, h2, fun pos cv hc => ?_⟩
            obtain ⟨c, e1, e2⟩ := h3 pos cv hc
            exact ⟨c, e1, nl _ _ e2 fun xs z => HO.noConfusion z⟩
        rintro σ G2 ⟨v9, ds, rfl, e2, T2, hdu2, rows2⟩
        have okT := page_ext ok e2
        have w2 := e2 _ _ w0 fun ps z => HO.noConfusion z
        have nw := n0 _ _ w0 fun ps z => HO.noConfusion z
        have okD : ∀ l ∈ enoughL zs (clashes zs f (r : Int)) (leastK zs f (r : Int)), ∀ z ∈ l, PyData.strOk z = true := fun l hl z hz => wz.ok z ((combos_mem (List.mem_filter.mp hl).1).1.subset hz)
        have d64 : (enoughL zs (clashes zs f (r : Int)) (leastK zs f (r : Int))).length ≤ 64 := by
          unfold enoughL
          refine Nat.le_trans (List.length_filter_le _ _) (Nat.le_trans (combos_len zs _) ?_)
          calc 2 ^ zs.length ≤ 2 ^ 6 := Nat.pow_le_pow_right (by decide) z6
            _ = 64 := by decide
        refine ⟨_, rfl, _, rfl, x, (r : Int), zs, (M : Int), f, rfl, okT, by omega, by omega, fun G3 l us k s3 nl hl least rows frs => ?_⟩
        obtain rfl : leastK zs f (r : Int) = k := leastK_eq least
        have shD := rowsD_shaped okD
        generalize hDL : enoughL zs (clashes zs f (r : Int)) (leastK zs f (r : Int)) = dl at okD d64 rows rows2 shD
        have hdu3 := s3 _ _ hdu2
        have rows3 : Rows G3 ds dl := Paired.mono (fun (v : Addr) (t : List Str) (h : G2 v = some (.lst (t.map V.str))) => s3 _ _ h) rows2
        refine ⟨?_, ?_⟩
        · refine ⟨_, rfl, _, rfl, _, _, .lst (SqL.of hl) (rowsD_dp rows), .lst (SqL.of hdu3) (rowsD_dp rows3), shD.1, shD.1, _, rfl, ?_⟩
          rw [shD.2]
          exact ⟨rfl, Same.refl _⟩
        rintro _ G4 ⟨rfl, s4⟩
        refine iteF ?_
        have w4 := s4 _ _ (s3 _ _ w2)
        have hdu4 := s4 _ _ hdu3
        have rows4 : Rows G4 ds dl := Paired.mono (fun (v : Addr) (t : List Str) (h : G3 v = some (.lst (t.map V.str))) => s4 _ _ h) rows3
        refine ⟨_, rfl, wl, rfl, ⟨_, SqL.of w4⟩, fun D nD => ?_⟩
        refine nest_it (walk_list (K := K) (a := wl) (xs := zs.map V.str)) (fun i G => Same G4 G ∧ G D = some (.lst (((zs.take i).filter fun z => dl.all fun lot => decide (z ∈ lot)).map V.str))) ⟨same_new nD, upd_same⟩ (fun i G _ h => SqL.of (h.1 _ _ w4)) ?_ ?_
        · rintro i' y G5 G6 hi' ⟨s5, hD⟩ ⟨rfl, hy⟩
          rw [List.getElem?_map] at hy
          obtain ⟨z, hz, rfl⟩ := Option.map_eq_some_iff.mp hy
          have hdu5 := s5 _ _ hdu4
          refine ⟨rfl, _, rfl, du, rfl, ⟨_, SqL.of hdu5⟩, fun D2 nD2 => ?_⟩
          refine nest_it (walk_list (K := K) (a := du) (xs := ds.map V.ref)) (fun j G' => Same G6 G' ∧ ∃ es : List Addr, G' D2 = some (.lst (es.map V.ref)) ∧ Rows G4 es ((dl.take j).filter fun lot => decide (z ∉ lot))) ⟨same_new nD2, [], upd_same, .nil⟩ (fun j G' _ h => SqL.of (h.1 _ _ hdu5)) ?_ ?_
          · rintro j y2 G' G7 hj ⟨s', es, hD2, rowsE⟩ ⟨rfl, hy2⟩
            rw [List.getElem?_map] at hy2
            obtain ⟨u, hu, rfl⟩ := Option.map_eq_some_iff.mp hy2
            obtain ⟨lot, hlot, hul⟩ := pair_get rows4 hu
            have hul : G4 u = some (.lst (lot.map V.str)) := hul
            have lG := s' _ _ (s5 _ _ hul)
            have lE : es.length ≤ 64 := by
              rw [Paired.length rowsE]
              exact Nat.le_trans (List.length_filter_le _ _) (Nat.le_trans (by rw [List.length_take]; omega) d64)
            refine ⟨rfl, _, rfl, _, rfl, u, _, rfl, .inl (SqL.of lG), rfl, all_flat_strs _, _, rfl, ?_⟩
            rw [if_pos rfl, inV_strs]
            have tk : (dl.take (j + 1)).filter (fun lot => decide (z ∉ lot)) = (dl.take j).filter (fun lot => decide (z ∉ lot)) ++ (if z ∉ lot then [lot] else []) := by
              rw [List.take_add_one, hlot, List.filter_append]
              refine congrArg _ ?_
              by_cases c : z ∈ lot
              · simp [c]
              · simp [c]
            by_cases c : z ∈ lot
            · rw [decide_eq_true c]
              refine iteF ⟨s', es, hD2, ?_⟩
              rw [tk, if_neg (fun h => h c), List.append_nil]
              exact rowsE
            · rw [decide_eq_false c]
              refine iteT ⟨_, rfl, _, hD2, ?_, same_at s' nD2, es ++ [u], ?_, ?_⟩
              · rw [List.length_map]
                exact small1000 (by omega)
              · rw [upd_same, List.map_append]
                rfl
              · rw [tk, if_pos c]
                exact Paired.snoc rowsE hul
          · rintro G7 ⟨s7, es, hD2, rowsE⟩
            rw [List.length_map, Paired.length rows4, List.take_length] at rowsE
            refine ⟨Nat.zero_le _, fun e ne => ?_⟩
            have sE := same_new ne (o := .lst [])
            refine ⟨.list (rowsD (dl.filter fun lot => decide (z ∉ lot))), .list [], .lst (SqL.of (sE _ _ hD2)) (rowsD_dp (show Rows (upd G7 e (.lst [])) es _ from Paired.mono (fun (v : Addr) (t : List Str) (h : G4 v = some (.lst (t.map V.str))) => sE _ _ (s7 _ _ (s5 _ _ h))) rowsE)), .lst (SqL.of upd_same) .nil, (rowsD_shaped fun l hl => okD l (List.mem_filter.mp hl).1).1, (by decide +kernel), _, rfl, ?_⟩
            rw [eqv_nil]
            have eB : decide (rowsD (dl.filter fun lot => decide (z ∉ lot)) = []) = dl.all fun lot => decide (z ∈ lot) := by
              rw [Bool.eq_iff_iff, decide_eq_true_iff, List.all_eq_true]
              unfold rowsD
              rw [List.map_eq_nil_iff, List.filter_eq_nil_iff]
              simp
            rw [eB]
            have sZ := (s7.trans sE)
            generalize upd G7 e (.lst []) = G8 at sZ
            have tk : (zs.take (i' + 1)).filter (fun z => dl.all fun lot => decide (z ∈ lot)) = (zs.take i').filter (fun z => dl.all fun lot => decide (z ∈ lot)) ++ (if (dl.all fun lot => decide (z ∈ lot)) = true then [z] else []) := by
              rw [List.take_add_one, hz, List.filter_append]
              refine congrArg _ ?_
              show List.filter _ [z] = _
              rw [List.filter_cons]
              rfl
            refine ite2 (fun c => ?_) (fun c => ?_)
            · refine ⟨_, rfl, _, sZ _ _ hD, ?_, same_at (s5.trans sZ) nD, ?_⟩
              · rw [List.length_map]
                have := List.length_filter_le (fun z => dl.all fun lot => decide (z ∈ lot)) (zs.take i')
                rw [List.length_take] at this
                exact small1000 (by omega)
              · rw [upd_same, tk, if_pos c, List.map_append]
                rfl
            · refine ⟨s5.trans sZ, ?_⟩
              rw [tk, if_neg c, List.append_nil]
              exact sZ _ _ hD
        · rintro G5 ⟨s5, hD⟩
          rw [List.length_map, List.take_length] at hD
          dsimp only [List.set]
          have okZ : ∀ z ∈ zs.filter (fun z => dl.all fun lot => decide (z ∈ lot)), PyData.strOk z = true := fun z hz => wz.ok z (List.mem_filter.mp hz).1
          refine ⟨?_, ?_⟩
          · refine ⟨_, rfl, _, rfl, x, (r : Int), zs, (M : Int), f, rfl, (okT.same s3).same (s4.trans s5), by omega, by omega, fun G6 l2 k2 s6 nl2 least2 hl2 => ?_⟩
            obtain rfl : leastK zs f (r : Int) = k2 := leastK_eq least2
            rw [hDL] at hl2
            refine ⟨_, rfl, _, _, .lst (SqL.of hl2) (dp_strs _), .lst (SqL.of (s6 _ _ hD)) (dp_strs _), shaped_strs okZ, shaped_strs okZ, _, rfl, ?_⟩
            rw [eqv_strs, decide_eq_true rfl]
            exact ⟨rfl, s6⟩
          rintro _ G6 ⟨rfl, s6⟩
          refine iteF ?_
          have s36 := s4.trans (s5.trans s6)
          obtain ⟨row, hr0⟩ : ∃ row, dl[0]? = some row := by
            cases e : dl with
            | nil => exact absurd (hDL.trans e) least.some
            | cons r t => exact ⟨r, rfl⟩
          obtain ⟨u, hu, hur⟩ := paired_at rows hr0
          have hur : G3 u = some (.lst (row.map V.str)) := hur
          have row8 : row.length ≤ 8 := by
            have := combos_mem (List.mem_filter.mp (show row ∈ enoughL zs (clashes zs f (r : Int)) (leastK zs f (r : Int)) from hDL ▸ List.mem_of_getElem? hr0)).1
            have := this.1.length_le
            omega
          refine ⟨_, rfl, l, _, (0 : Int), .ref u, rfl, rfl, SqL.of (s36 _ _ hl), atI_nat (j := 0) (by rw [List.getElem?_map, hu]; rfl), ?_⟩
          refine ⟨.inl ⟨rfl, _, SqL.of (s36 _ _ hur)⟩, u, _, _, rfl, rfl, s36 _ _ hur, ?_, ?_⟩
          · rw [List.length_map]
            exact small1000 (by omega)
          have nu := frs u (List.mem_of_getElem? hu)
          have sX : Same G2 (upd G6 u (.lst (row.map V.str ++ [V.str "zz"]))) := fun b o h => by
            rw [upd_ne (ne_of_none h nu)]
            exact s36 _ _ (s3 _ _ h)
          generalize upd G6 u (.lst (row.map V.str ++ [V.str "zz"])) = G7 at sX
          have rows7 : Rows G7 ds dl := Paired.mono (fun (v : Addr) (t : List Str) (h : G2 v = some (.lst (t.map V.str))) => sX _ _ h) rows2
          refine ⟨?_, ?_⟩
          · refine ⟨_, rfl, _, rfl, x, (r : Int), zs, (M : Int), f, rfl, okT.same sX, by omega, by omega, fun G8 l2 us2 k2 s8 nl2 hl2 least2 rows8 _ => ?_⟩
            obtain rfl : leastK zs f (r : Int) = k2 := leastK_eq least2
            rw [hDL] at rows8
            have rows9 : Rows G8 ds dl := Paired.mono (fun (v : Addr) (t : List Str) (h : G7 v = some (.lst (t.map V.str))) => s8 _ _ h) rows7
            refine ⟨_, rfl, _, _, .lst (SqL.of hl2) (rowsD_dp rows8), .lst (SqL.of (s8 _ _ (sX _ _ hdu2))) (rowsD_dp rows9), shD.1, shD.1, _, rfl, ?_⟩
            rw [shD.2]
            exact ⟨rfl, s8⟩
          rintro _ G8 ⟨rfl, s8⟩
          refine iteF ?_
          have s28 := sX.trans s8
          exact ⟨_, _, _, _, _, _, rfl, fun b o h n => s28 _ _ (e2 _ _ h n), fun p hp => (T2 p hp).ext s28⟩
      · rintro σ G ⟨v7, v8, v9, v10, v11, v12, rfl, eG, TG⟩
        exact ⟨_, _, _, _, _, _, _, _, _, _, _, _, rfl, sqL_ext eG hS0, TG⟩
    · rintro σ H2 ⟨v1, v2, v3, v4, v5, v6, v7, v8, v9, v10, v11, v12, rfl, hS2, hT2⟩
      exact q H2
end
end K83

set_option Elab.async false
set_option linter.all false
set_option maxRecDepth 100000
set_option maxHeartbeats 4000000
namespace K83
open PySem PySem.Spec PyProof.Rows L2
theorem all_mk {l : PySem.W.OpenLaw} {w : World} {K : PySem.W.Frag} {h : Heap} {mg : Str → Option Value} {fa cCR PCR fIsInteger fIsIntegerWithin fNeedNumber fIsWord fArePeople fNeedCrowd fIsMark fIsMarkOrNone fAreMarks fNeedAnyPage fFoundClashes fWithOneMore fFoundLeast fLeastLeftOut fAlwaysLeftOut fNumbers fOpened fDraw fWords fPairs fMarks fIsEnough fLaw fSets CMarksError CBadCrowd fBadCrowdInit CCrowd fCrowdInit fCrowdContains fCrowdPairs fCrowdIsPair fCrowdPeople pCrowdPeople CPage fPageInit fPageMarks pPageMarks : Addr} (X : K.In h) (G : h.Ns mainGlobals mg) (hfa : mg "law" = some (.ref fa))
    {ocIsInteger kVIsInteger dcIsInteger pmIsInteger cdIsInteger ctIsInteger : Value} {odIsInteger anIsInteger : Option Addr} {slIsInteger : Array (Option Value)}
    {ocIsIntegerWithin kVIsIntegerWithin dcIsIntegerWithin pmIsIntegerWithin cdIsIntegerWithin ctIsIntegerWithin : Value} {odIsIntegerWithin anIsIntegerWithin : Option Addr} {slIsIntegerWithin : Array (Option Value)}
    {ocNeedNumber kVNeedNumber dcNeedNumber pmNeedNumber cdNeedNumber ctNeedNumber : Value} {odNeedNumber anNeedNumber : Option Addr} {slNeedNumber : Array (Option Value)}
    {ocIsWord kVIsWord dcIsWord pmIsWord cdIsWord ctIsWord : Value} {odIsWord anIsWord : Option Addr} {slIsWord : Array (Option Value)}
    {ocArePeople kVArePeople dcArePeople pmArePeople cdArePeople ctArePeople : Value} {odArePeople anArePeople : Option Addr} {slArePeople : Array (Option Value)}
    {ocNeedCrowd kVNeedCrowd dcNeedCrowd pmNeedCrowd cdNeedCrowd ctNeedCrowd : Value} {odNeedCrowd anNeedCrowd : Option Addr} {slNeedCrowd : Array (Option Value)}
    {ocIsMark kVIsMark dcIsMark pmIsMark cdIsMark ctIsMark : Value} {odIsMark anIsMark : Option Addr} {slIsMark : Array (Option Value)}
    {ocIsMarkOrNone kVIsMarkOrNone dcIsMarkOrNone pmIsMarkOrNone cdIsMarkOrNone ctIsMarkOrNone : Value} {odIsMarkOrNone anIsMarkOrNone : Option Addr} {slIsMarkOrNone : Array (Option Value)}
    {ocAreMarks kVAreMarks dcAreMarks pmAreMarks cdAreMarks ctAreMarks : Value} {odAreMarks anAreMarks : Option Addr} {slAreMarks : Array (Option Value)}
    {ocNeedAnyPage kVNeedAnyPage dcNeedAnyPage pmNeedAnyPage cdNeedAnyPage ctNeedAnyPage : Value} {odNeedAnyPage anNeedAnyPage : Option Addr} {slNeedAnyPage : Array (Option Value)}
    {ocFoundClashes kVFoundClashes dcFoundClashes pmFoundClashes cdFoundClashes ctFoundClashes : Value} {odFoundClashes anFoundClashes : Option Addr} {slFoundClashes : Array (Option Value)}
    {ocWithOneMore kVWithOneMore dcWithOneMore pmWithOneMore cdWithOneMore ctWithOneMore : Value} {odWithOneMore anWithOneMore : Option Addr} {slWithOneMore : Array (Option Value)}
    {ocFoundLeast kVFoundLeast dcFoundLeast pmFoundLeast cdFoundLeast ctFoundLeast : Value} {odFoundLeast anFoundLeast : Option Addr} {slFoundLeast : Array (Option Value)}
    {ocLeastLeftOut kVLeastLeftOut dcLeastLeftOut pmLeastLeftOut cdLeastLeftOut ctLeastLeftOut : Value} {odLeastLeftOut anLeastLeftOut : Option Addr} {slLeastLeftOut : Array (Option Value)}
    {ocAlwaysLeftOut kVAlwaysLeftOut dcAlwaysLeftOut pmAlwaysLeftOut cdAlwaysLeftOut ctAlwaysLeftOut : Value} {odAlwaysLeftOut anAlwaysLeftOut : Option Addr} {slAlwaysLeftOut : Array (Option Value)}
    {ocNumbers kVNumbers dcNumbers pmNumbers cdNumbers ctNumbers : Value} {odNumbers anNumbers : Option Addr} {slNumbers : Array (Option Value)}
    {ocOpened kVOpened dcOpened pmOpened cdOpened ctOpened : Value} {odOpened anOpened : Option Addr} {slOpened : Array (Option Value)}
    {ocDraw kVDraw dcDraw pmDraw cdDraw ctDraw : Value} {odDraw anDraw : Option Addr} {slDraw : Array (Option Value)}
    {ocWords kVWords dcWords pmWords cdWords ctWords : Value} {odWords anWords : Option Addr} {slWords : Array (Option Value)}
    {ocPairs kVPairs dcPairs pmPairs cdPairs ctPairs : Value} {odPairs anPairs : Option Addr} {slPairs : Array (Option Value)}
    {ocMarks kVMarks dcMarks pmMarks cdMarks ctMarks : Value} {odMarks anMarks : Option Addr} {slMarks : Array (Option Value)}
    {ocIsEnough kVIsEnough dcIsEnough pmIsEnough cdIsEnough ctIsEnough : Value} {odIsEnough anIsEnough : Option Addr} {slIsEnough : Array (Option Value)}
    {ocLaw kVLaw dcLaw pmLaw cdLaw ctLaw : Value} {odLaw anLaw : Option Addr} {slLaw : Array (Option Value)}
    {ocSets kVSets dcSets pmSets ctSets : Value} {odSets anSets : Option Addr} {slSets : Array (Option Value)}
    {nmBadCrowd qBadCrowd : Str} {NBadCrowd : Addr} {bsBadCrowd : List Value} {snBadCrowd : List Str} {subBadCrowd : List Value} {abBadCrowd : Bool} {colBadCrowd : Option Bool} {ddBadCrowd : Option Addr} {m0BadCrowd m1BadCrowd m2BadCrowd m3BadCrowd m5BadCrowd : Option Value}
    {ocBadCrowdInit kVBadCrowdInit dcBadCrowdInit pmBadCrowdInit cdBadCrowdInit ctBadCrowdInit : Value} {odBadCrowdInit anBadCrowdInit : Option Addr} {slBadCrowdInit : Array (Option Value)}
    {ocCrowdInit kVCrowdInit dcCrowdInit pmCrowdInit cdCrowdInit ctCrowdInit : Value} {odCrowdInit anCrowdInit : Option Addr} {slCrowdInit : Array (Option Value)}
    {ocCrowdContains kVCrowdContains dcCrowdContains pmCrowdContains cdCrowdContains ctCrowdContains : Value} {odCrowdContains anCrowdContains : Option Addr} {slCrowdContains : Array (Option Value)}
    {ocCrowdPairs kVCrowdPairs dcCrowdPairs pmCrowdPairs cdCrowdPairs ctCrowdPairs : Value} {odCrowdPairs anCrowdPairs : Option Addr} {slCrowdPairs : Array (Option Value)}
    {ocCrowdIsPair kVCrowdIsPair dcCrowdIsPair pmCrowdIsPair cdCrowdIsPair ctCrowdIsPair : Value} {odCrowdIsPair anCrowdIsPair : Option Addr} {slCrowdIsPair : Array (Option Value)}
    {restCrowdPeople : List Value}
    {ocCrowdPeople kVCrowdPeople dcCrowdPeople pmCrowdPeople cdCrowdPeople ctCrowdPeople : Value} {odCrowdPeople anCrowdPeople : Option Addr} {slCrowdPeople : Array (Option Value)}
    {ocPageInit kVPageInit dcPageInit pmPageInit cdPageInit ctPageInit : Value} {odPageInit anPageInit : Option Addr} {slPageInit : Array (Option Value)}
    {restPageMarks : List Value}
    {ocPageMarks kVPageMarks dcPageMarks pmPageMarks cdPageMarks ctPageMarks : Value} {odPageMarks anPageMarks : Option Addr} {slPageMarks : Array (Option Value)}
    {t_LETTERS : Tok}
    {t_LONGEST : Tok}
    {t_MOST_PEOPLE : Tok}
    {t_GREATEST_MARK : Tok}
    (tb : PySem.W.CodeHd h cCR PCR ∧ h.get? PCR = some (PySem.W.tabObj #[]))
    (aIsInteger : PySem.W.nsIn K mainGlobals "is_integer" = some (some (.ref fIsInteger)))
    (lIsInteger : K.lookup fIsInteger = some ⟨ocIsInteger, odIsInteger, .func (PySem.W.fnOf "is_integer" "is_integer" (defArgs sIsInteger) (defBody sIsInteger) (defScope sIsInteger) .none kVIsInteger dcIsInteger pmIsInteger anIsInteger cdIsInteger ctIsInteger), slIsInteger⟩)
    (cIsInteger : PySem.W.codeIn K cdIsInteger "is_integer" = true)
    (kIsInteger : PySem.W.keepIn K (.ref fIsInteger) = true)
    (aIsIntegerWithin : PySem.W.nsIn K mainGlobals "is_integer_within" = some (some (.ref fIsIntegerWithin)))
    (lIsIntegerWithin : K.lookup fIsIntegerWithin = some ⟨ocIsIntegerWithin, odIsIntegerWithin, .func (PySem.W.fnOf "is_integer_within" "is_integer_within" (defArgs sIsIntegerWithin) (defBody sIsIntegerWithin) (defScope sIsIntegerWithin) .none kVIsIntegerWithin dcIsIntegerWithin pmIsIntegerWithin anIsIntegerWithin cdIsIntegerWithin ctIsIntegerWithin), slIsIntegerWithin⟩)
    (cIsIntegerWithin : PySem.W.codeIn K cdIsIntegerWithin "is_integer_within" = true)
    (kIsIntegerWithin : PySem.W.keepIn K (.ref fIsIntegerWithin) = true)
    (aNeedNumber : PySem.W.nsIn K mainGlobals "need_number" = some (some (.ref fNeedNumber)))
    (lNeedNumber : K.lookup fNeedNumber = some ⟨ocNeedNumber, odNeedNumber, .func (PySem.W.fnOf "need_number" "need_number" (defArgs sNeedNumber) (defBody sNeedNumber) (defScope sNeedNumber) .none kVNeedNumber dcNeedNumber pmNeedNumber anNeedNumber cdNeedNumber ctNeedNumber), slNeedNumber⟩)
    (cNeedNumber : PySem.W.codeIn K cdNeedNumber "need_number" = true)
    (kNeedNumber : PySem.W.keepIn K (.ref fNeedNumber) = true)
    (aIsWord : PySem.W.nsIn K mainGlobals "is_word" = some (some (.ref fIsWord)))
    (lIsWord : K.lookup fIsWord = some ⟨ocIsWord, odIsWord, .func (PySem.W.fnOf "is_word" "is_word" (defArgs sIsWord) (defBody sIsWord) (defScope sIsWord) .none kVIsWord dcIsWord pmIsWord anIsWord cdIsWord ctIsWord), slIsWord⟩)
    (cIsWord : PySem.W.codeIn K cdIsWord "is_word" = true)
    (kIsWord : PySem.W.keepIn K (.ref fIsWord) = true)
    (aArePeople : PySem.W.nsIn K mainGlobals "are_people" = some (some (.ref fArePeople)))
    (lArePeople : K.lookup fArePeople = some ⟨ocArePeople, odArePeople, .func (PySem.W.fnOf "are_people" "are_people" (defArgs sArePeople) (defBody sArePeople) (defScope sArePeople) .none kVArePeople dcArePeople pmArePeople anArePeople cdArePeople ctArePeople), slArePeople⟩)
    (cArePeople : PySem.W.codeIn K cdArePeople "are_people" = true)
    (kArePeople : PySem.W.keepIn K (.ref fArePeople) = true)
    (aNeedCrowd : PySem.W.nsIn K mainGlobals "need_crowd" = some (some (.ref fNeedCrowd)))
    (lNeedCrowd : K.lookup fNeedCrowd = some ⟨ocNeedCrowd, odNeedCrowd, .func (PySem.W.fnOf "need_crowd" "need_crowd" (defArgs sNeedCrowd) (defBody sNeedCrowd) (defScope sNeedCrowd) .none kVNeedCrowd dcNeedCrowd pmNeedCrowd anNeedCrowd cdNeedCrowd ctNeedCrowd), slNeedCrowd⟩)
    (cNeedCrowd : PySem.W.codeIn K cdNeedCrowd "need_crowd" = true)
    (kNeedCrowd : PySem.W.keepIn K (.ref fNeedCrowd) = true)
    (aIsMark : PySem.W.nsIn K mainGlobals "is_mark" = some (some (.ref fIsMark)))
    (lIsMark : K.lookup fIsMark = some ⟨ocIsMark, odIsMark, .func (PySem.W.fnOf "is_mark" "is_mark" (defArgs sIsMark) (defBody sIsMark) (defScope sIsMark) .none kVIsMark dcIsMark pmIsMark anIsMark cdIsMark ctIsMark), slIsMark⟩)
    (cIsMark : PySem.W.codeIn K cdIsMark "is_mark" = true)
    (kIsMark : PySem.W.keepIn K (.ref fIsMark) = true)
    (aIsMarkOrNone : PySem.W.nsIn K mainGlobals "is_mark_or_none" = some (some (.ref fIsMarkOrNone)))
    (lIsMarkOrNone : K.lookup fIsMarkOrNone = some ⟨ocIsMarkOrNone, odIsMarkOrNone, .func (PySem.W.fnOf "is_mark_or_none" "is_mark_or_none" (defArgs sIsMarkOrNone) (defBody sIsMarkOrNone) (defScope sIsMarkOrNone) .none kVIsMarkOrNone dcIsMarkOrNone pmIsMarkOrNone anIsMarkOrNone cdIsMarkOrNone ctIsMarkOrNone), slIsMarkOrNone⟩)
    (cIsMarkOrNone : PySem.W.codeIn K cdIsMarkOrNone "is_mark_or_none" = true)
    (kIsMarkOrNone : PySem.W.keepIn K (.ref fIsMarkOrNone) = true)
    (aAreMarks : PySem.W.nsIn K mainGlobals "are_marks" = some (some (.ref fAreMarks)))
    (lAreMarks : K.lookup fAreMarks = some ⟨ocAreMarks, odAreMarks, .func (PySem.W.fnOf "are_marks" "are_marks" (defArgs sAreMarks) (defBody sAreMarks) (defScope sAreMarks) .none kVAreMarks dcAreMarks pmAreMarks anAreMarks cdAreMarks ctAreMarks), slAreMarks⟩)
    (cAreMarks : PySem.W.codeIn K cdAreMarks "are_marks" = true)
    (kAreMarks : PySem.W.keepIn K (.ref fAreMarks) = true)
    (aNeedAnyPage : PySem.W.nsIn K mainGlobals "need_any_page" = some (some (.ref fNeedAnyPage)))
    (lNeedAnyPage : K.lookup fNeedAnyPage = some ⟨ocNeedAnyPage, odNeedAnyPage, .func (PySem.W.fnOf "need_any_page" "need_any_page" (defArgs sNeedAnyPage) (defBody sNeedAnyPage) (defScope sNeedAnyPage) .none kVNeedAnyPage dcNeedAnyPage pmNeedAnyPage anNeedAnyPage cdNeedAnyPage ctNeedAnyPage), slNeedAnyPage⟩)
    (cNeedAnyPage : PySem.W.codeIn K cdNeedAnyPage "need_any_page" = true)
    (kNeedAnyPage : PySem.W.keepIn K (.ref fNeedAnyPage) = true)
    (aFoundClashes : PySem.W.nsIn K mainGlobals "found_clashes" = some (some (.ref fFoundClashes)))
    (lFoundClashes : K.lookup fFoundClashes = some ⟨ocFoundClashes, odFoundClashes, .func (PySem.W.fnOf "found_clashes" "found_clashes" (defArgs sFoundClashes) (defBody sFoundClashes) (defScope sFoundClashes) .none kVFoundClashes dcFoundClashes pmFoundClashes anFoundClashes cdFoundClashes ctFoundClashes), slFoundClashes⟩)
    (cFoundClashes : PySem.W.codeIn K cdFoundClashes "found_clashes" = true)
    (kFoundClashes : PySem.W.keepIn K (.ref fFoundClashes) = true)
    (aWithOneMore : PySem.W.nsIn K mainGlobals "with_one_more" = some (some (.ref fWithOneMore)))
    (lWithOneMore : K.lookup fWithOneMore = some ⟨ocWithOneMore, odWithOneMore, .func (PySem.W.fnOf "with_one_more" "with_one_more" (defArgs sWithOneMore) (defBody sWithOneMore) (defScope sWithOneMore) .none kVWithOneMore dcWithOneMore pmWithOneMore anWithOneMore cdWithOneMore ctWithOneMore), slWithOneMore⟩)
    (cWithOneMore : PySem.W.codeIn K cdWithOneMore "with_one_more" = true)
    (kWithOneMore : PySem.W.keepIn K (.ref fWithOneMore) = true)
    (aFoundLeast : PySem.W.nsIn K mainGlobals "found_least" = some (some (.ref fFoundLeast)))
    (lFoundLeast : K.lookup fFoundLeast = some ⟨ocFoundLeast, odFoundLeast, .func (PySem.W.fnOf "found_least" "found_least" (defArgs sFoundLeast) (defBody sFoundLeast) (defScope sFoundLeast) .none kVFoundLeast dcFoundLeast pmFoundLeast anFoundLeast cdFoundLeast ctFoundLeast), slFoundLeast⟩)
    (cFoundLeast : PySem.W.codeIn K cdFoundLeast "found_least" = true)
    (kFoundLeast : PySem.W.keepIn K (.ref fFoundLeast) = true)
    (aLeastLeftOut : PySem.W.nsIn K mainGlobals "least_left_out" = some (some (.ref fLeastLeftOut)))
    (lLeastLeftOut : K.lookup fLeastLeftOut = some ⟨ocLeastLeftOut, odLeastLeftOut, .func (PySem.W.fnOf "least_left_out" "least_left_out" (defArgs sLeastLeftOut) (defBody sLeastLeftOut) (defScope sLeastLeftOut) .none kVLeastLeftOut dcLeastLeftOut pmLeastLeftOut anLeastLeftOut cdLeastLeftOut ctLeastLeftOut), slLeastLeftOut⟩)
    (cLeastLeftOut : PySem.W.codeIn K cdLeastLeftOut "least_left_out" = true)
    (kLeastLeftOut : PySem.W.keepIn K (.ref fLeastLeftOut) = true)
    (aAlwaysLeftOut : PySem.W.nsIn K mainGlobals "always_left_out" = some (some (.ref fAlwaysLeftOut)))
    (lAlwaysLeftOut : K.lookup fAlwaysLeftOut = some ⟨ocAlwaysLeftOut, odAlwaysLeftOut, .func (PySem.W.fnOf "always_left_out" "always_left_out" (defArgs sAlwaysLeftOut) (defBody sAlwaysLeftOut) (defScope sAlwaysLeftOut) .none kVAlwaysLeftOut dcAlwaysLeftOut pmAlwaysLeftOut anAlwaysLeftOut cdAlwaysLeftOut ctAlwaysLeftOut), slAlwaysLeftOut⟩)
    (cAlwaysLeftOut : PySem.W.codeIn K cdAlwaysLeftOut "always_left_out" = true)
    (kAlwaysLeftOut : PySem.W.keepIn K (.ref fAlwaysLeftOut) = true)
    (aNumbers : PySem.W.nsIn K mainGlobals "_law_numbers" = some (some (.ref fNumbers)))
    (lNumbers : K.lookup fNumbers = some ⟨ocNumbers, odNumbers, .func (PySem.W.fnOf "_law_numbers" "_law_numbers" (defArgs sNumbers) (defBody sNumbers) (defScope sNumbers) .none kVNumbers dcNumbers pmNumbers anNumbers cdNumbers ctNumbers), slNumbers⟩)
    (cNumbers : PySem.W.codeIn K cdNumbers "_law_numbers" = true)
    (kNumbers : PySem.W.keepIn K (.ref fNumbers) = true)
    (aOpened : PySem.W.nsIn K mainGlobals "_law_opened" = some (some (.ref fOpened)))
    (lOpened : K.lookup fOpened = some ⟨ocOpened, odOpened, .func (PySem.W.fnOf "_law_opened" "_law_opened" (defArgs sOpened) (defBody sOpened) (defScope sOpened) .none kVOpened dcOpened pmOpened anOpened cdOpened ctOpened), slOpened⟩)
    (cOpened : PySem.W.codeIn K cdOpened "_law_opened" = true)
    (kOpened : PySem.W.keepIn K (.ref fOpened) = true)
    (aDraw : PySem.W.nsIn K mainGlobals "_law_draw" = some (some (.ref fDraw)))
    (lDraw : K.lookup fDraw = some ⟨ocDraw, odDraw, .func (PySem.W.fnOf "_law_draw" "_law_draw" (defArgs sDraw) (defBody sDraw) (defScope sDraw) .none kVDraw dcDraw pmDraw anDraw cdDraw ctDraw), slDraw⟩)
    (cDraw : PySem.W.codeIn K cdDraw "_law_draw" = true)
    (kDraw : PySem.W.keepIn K (.ref fDraw) = true)
    (aWords : PySem.W.nsIn K mainGlobals "_law_words" = some (some (.ref fWords)))
    (lWords : K.lookup fWords = some ⟨ocWords, odWords, .func (PySem.W.fnOf "_law_words" "_law_words" (defArgs sWords) (defBody sWords) (defScope sWords) .none kVWords dcWords pmWords anWords cdWords ctWords), slWords⟩)
    (cWords : PySem.W.codeIn K cdWords "_law_words" = true)
    (kWords : PySem.W.keepIn K (.ref fWords) = true)
    (aPairs : PySem.W.nsIn K mainGlobals "_law_pairs" = some (some (.ref fPairs)))
    (lPairs : K.lookup fPairs = some ⟨ocPairs, odPairs, .func (PySem.W.fnOf "_law_pairs" "_law_pairs" (defArgs sPairs) (defBody sPairs) (defScope sPairs) .none kVPairs dcPairs pmPairs anPairs cdPairs ctPairs), slPairs⟩)
    (cPairs : PySem.W.codeIn K cdPairs "_law_pairs" = true)
    (kPairs : PySem.W.keepIn K (.ref fPairs) = true)
    (aMarks : PySem.W.nsIn K mainGlobals "_law_marks" = some (some (.ref fMarks)))
    (lMarks : K.lookup fMarks = some ⟨ocMarks, odMarks, .func (PySem.W.fnOf "_law_marks" "_law_marks" (defArgs sMarks) (defBody sMarks) (defScope sMarks) .none kVMarks dcMarks pmMarks anMarks cdMarks ctMarks), slMarks⟩)
    (cMarks : PySem.W.codeIn K cdMarks "_law_marks" = true)
    (kMarks : PySem.W.keepIn K (.ref fMarks) = true)
    (aIsEnough : PySem.W.nsIn K mainGlobals "_law_is_enough" = some (some (.ref fIsEnough)))
    (lIsEnough : K.lookup fIsEnough = some ⟨ocIsEnough, odIsEnough, .func (PySem.W.fnOf "_law_is_enough" "_law_is_enough" (defArgs sIsEnough) (defBody sIsEnough) (defScope sIsEnough) .none kVIsEnough dcIsEnough pmIsEnough anIsEnough cdIsEnough ctIsEnough), slIsEnough⟩)
    (cIsEnough : PySem.W.codeIn K cdIsEnough "_law_is_enough" = true)
    (kIsEnough : PySem.W.keepIn K (.ref fIsEnough) = true)
    (aLaw : PySem.W.nsIn K mainGlobals "law" = some (some (.ref fLaw)))
    (lLaw : K.lookup fLaw = some ⟨ocLaw, odLaw, .func (PySem.W.fnOf "law" "law" (defArgs sLaw) (defBody sLaw) (defScope sLaw) .none kVLaw dcLaw pmLaw anLaw cdLaw ctLaw), slLaw⟩)
    (cLaw : PySem.W.codeIn K cdLaw "law" = true)
    (kLaw : PySem.W.keepIn K (.ref fLaw) = true)
    (aSets : PySem.W.nsIn K mainGlobals "_law_sets" = some (some (.ref fSets)))
    (lSets : K.lookup fSets = some ⟨ocSets, odSets, .func (PySem.W.fnOf "_law_sets" "_law_sets" (defArgs sSets) (defBody sSets) (defScope sSets) .none kVSets dcSets pmSets anSets (.ref cCR) ctSets), slSets⟩)
    (cSets : PySem.W.codeIn K (.ref cCR) "_law_sets" = true)
    (kSets : PySem.W.keepIn K (.ref fSets) = true)
    (nT : K.lookup PCR = none)
    (aMarksError : PySem.W.nsIn K mainGlobals "MarksError" = some (some (.ref CMarksError)))
    (aBadCrowd : PySem.W.nsIn K mainGlobals "BadCrowd" = some (some (.ref CBadCrowd)))
    (gaBadCrowd : PySem.W.findIn K (.ref CBadCrowd) "__getattribute__" = some (some (.builtin "BaseException.__getattribute__")))
    (ggBadCrowd : PySem.W.findIn K (.ref CBadCrowd) "__getattr__" = some none)
    (exBadCrowd : PySem.W.subIn K (.ref CBadCrowd) (.type "BaseException") = some true)
    (hdBadCrowd : PySem.W.hasDictIn K CBadCrowd = true)
    (noBadCrowd : PySem.W.findIn K (.ref CBadCrowd) "part" = some none)
    (ccBadCrowd : PySem.W.findIn K (.ref CBadCrowd) "__class__" = some (some (.builtin "object.__class__")))
    (mrBadCrowd : PySem.W.mroIn K CBadCrowd (.type "object") = some true)
    (spg : PySem.W.specialIn K (.builtin "object.__class__") "__get__" = some (some (.builtin "getset_descriptor.__get__")))
    (tkc : PySem.W.takesIn K (.builtin "object.__class__") = some true)
    (xBadCrowd : K.lookup CBadCrowd = some (excClassObj nmBadCrowd qBadCrowd CBadCrowd NBadCrowd bsBadCrowd (.ref CMarksError :: [.type "ValueError", .type "Exception", .type "BaseException", .type "object"]) true snBadCrowd subBadCrowd abBadCrowd colBadCrowd ddBadCrowd m0BadCrowd m1BadCrowd m2BadCrowd m3BadCrowd m5BadCrowd "ValueError.__new__"))
    (ssBadCrowd : PySem.W.subIn K (.ref CBadCrowd) (.ref CBadCrowd) = some true)
    (saBadCrowd : PySem.W.findIn K (.ref CBadCrowd) "__setattr__" = some (some (.builtin "object.__setattr__")))
    (tyBadCrowd : PySem.W.typeIn K (.ref CBadCrowd) = some (.type "type"))
    (kkBadCrowd : PySem.W.keepIn K (.ref CBadCrowd) = true)
    (iBadCrowd : PySem.W.findIn K (.ref CBadCrowd) "__init__" = some (some (.ref fBadCrowdInit)))
    (tBadCrowd : PySem.W.typeIn K (.ref fBadCrowdInit) = some (.type "function"))
    (lBadCrowdInit : K.lookup fBadCrowdInit = some ⟨ocBadCrowdInit, odBadCrowdInit, .func (PySem.W.fnOf "__init__" "BadCrowd.__init__" (defArgs sBadCrowdInit) (defBody sBadCrowdInit) (defScope sBadCrowdInit) .none kVBadCrowdInit dcBadCrowdInit pmBadCrowdInit anBadCrowdInit cdBadCrowdInit ctBadCrowdInit), slBadCrowdInit⟩)
    (cBadCrowdInit : PySem.W.codeIn K cdBadCrowdInit "BadCrowd.__init__" = true)
    (kBadCrowdInit : PySem.W.keepIn K (.ref fBadCrowdInit) = true)
    (aCrowd : PySem.W.nsIn K mainGlobals "Crowd" = some (some (.ref CCrowd)))
    (pgCrowd : PySem.W.plainGet K CCrowd Str.empty = true)
    (hdCrowd : PySem.W.hasDictIn K CCrowd = true)
    (poCrowd : PySem.W.plainOver K CCrowd = true)
    (saCrowd : PySem.W.findIn K (.ref CCrowd) "__setattr__" = some (some (.builtin "object.__setattr__")))
    (mkCrowd : PySem.W.makesIn K CCrowd = true)
    (kcCrowd : PySem.W.keepIn K (.ref CCrowd) = true)
    (ccCrowd : PySem.W.findIn K (.ref CCrowd) "__class__" = some (some (.builtin "object.__class__")))
    (mrCrowd : PySem.W.mroIn K CCrowd (.type "object") = some true)
    (kitCrowd : PySem.W.kitOne K (.ref CCrowd) (.ref CCrowd) = some true)
    (noCrowd_people : PySem.W.findIn K (.ref CCrowd) "_people" = some none)
    (noCrowdmost : PySem.W.findIn K (.ref CCrowd) "most" = some none)
    (mCrowdInit : PySem.W.findIn K (.ref CCrowd) "__init__" = some (some (.ref fCrowdInit)))
    (isfCrowdInit : PySem.W.isFn K (.ref fCrowdInit) = true)
    (lCrowdInit : K.lookup fCrowdInit = some ⟨ocCrowdInit, odCrowdInit, .func (PySem.W.fnOf "__init__" "Crowd.__init__" (defArgs sCrowdInit) (defBody sCrowdInit) (defScope sCrowdInit) .none kVCrowdInit dcCrowdInit pmCrowdInit anCrowdInit cdCrowdInit ctCrowdInit), slCrowdInit⟩)
    (cCrowdInit : PySem.W.codeIn K cdCrowdInit "Crowd.__init__" = true)
    (kCrowdInit : PySem.W.keepIn K (.ref fCrowdInit) = true)
    (mCrowdContains : PySem.W.findIn K (.ref CCrowd) "__contains__" = some (some (.ref fCrowdContains)))
    (isfCrowdContains : PySem.W.isFn K (.ref fCrowdContains) = true)
    (lCrowdContains : K.lookup fCrowdContains = some ⟨ocCrowdContains, odCrowdContains, .func (PySem.W.fnOf "__contains__" "Crowd.__contains__" (defArgs sCrowdContains) (defBody sCrowdContains) (defScope sCrowdContains) .none kVCrowdContains dcCrowdContains pmCrowdContains anCrowdContains cdCrowdContains ctCrowdContains), slCrowdContains⟩)
    (cCrowdContains : PySem.W.codeIn K cdCrowdContains "Crowd.__contains__" = true)
    (kCrowdContains : PySem.W.keepIn K (.ref fCrowdContains) = true)
    (mCrowdPairs : PySem.W.findIn K (.ref CCrowd) "pairs" = some (some (.ref fCrowdPairs)))
    (isfCrowdPairs : PySem.W.isFn K (.ref fCrowdPairs) = true)
    (lCrowdPairs : K.lookup fCrowdPairs = some ⟨ocCrowdPairs, odCrowdPairs, .func (PySem.W.fnOf "pairs" "Crowd.pairs" (defArgs sCrowdPairs) (defBody sCrowdPairs) (defScope sCrowdPairs) .none kVCrowdPairs dcCrowdPairs pmCrowdPairs anCrowdPairs cdCrowdPairs ctCrowdPairs), slCrowdPairs⟩)
    (cCrowdPairs : PySem.W.codeIn K cdCrowdPairs "Crowd.pairs" = true)
    (kCrowdPairs : PySem.W.keepIn K (.ref fCrowdPairs) = true)
    (mCrowdIsPair : PySem.W.findIn K (.ref CCrowd) "is_pair" = some (some (.ref fCrowdIsPair)))
    (isfCrowdIsPair : PySem.W.isFn K (.ref fCrowdIsPair) = true)
    (lCrowdIsPair : K.lookup fCrowdIsPair = some ⟨ocCrowdIsPair, odCrowdIsPair, .func (PySem.W.fnOf "is_pair" "Crowd.is_pair" (defArgs sCrowdIsPair) (defBody sCrowdIsPair) (defScope sCrowdIsPair) .none kVCrowdIsPair dcCrowdIsPair pmCrowdIsPair anCrowdIsPair cdCrowdIsPair ctCrowdIsPair), slCrowdIsPair⟩)
    (cCrowdIsPair : PySem.W.codeIn K cdCrowdIsPair "Crowd.is_pair" = true)
    (kCrowdIsPair : PySem.W.keepIn K (.ref fCrowdIsPair) = true)
    (mCrowdPeople : PySem.W.findIn K (.ref CCrowd) "people" = some (some (.ref pCrowdPeople)))
    (pgCrowdPeople : PySem.W.specialIn K (.ref pCrowdPeople) "__get__" = some (some (.builtin "property.__get__")))
    (ptCrowdPeople : PySem.W.takesIn K (.ref pCrowdPeople) = some true)
    (prCrowdPeople : PySem.W.recIn K pCrowdPeople "property" = some (.ref fCrowdPeople :: restCrowdPeople))
    (lCrowdPeople : K.lookup fCrowdPeople = some ⟨ocCrowdPeople, odCrowdPeople, .func (PySem.W.fnOf "people" "Crowd.people" (defArgs sCrowdPeople) (defBody sCrowdPeople) (defScope sCrowdPeople) .none kVCrowdPeople dcCrowdPeople pmCrowdPeople anCrowdPeople cdCrowdPeople ctCrowdPeople), slCrowdPeople⟩)
    (cCrowdPeople : PySem.W.codeIn K cdCrowdPeople "Crowd.people" = true)
    (kCrowdPeople : PySem.W.keepIn K (.ref fCrowdPeople) = true)
    (aPage : PySem.W.nsIn K mainGlobals "Page" = some (some (.ref CPage)))
    (pgPage : PySem.W.plainGet K CPage Str.empty = true)
    (hdPage : PySem.W.hasDictIn K CPage = true)
    (poPage : PySem.W.plainOver K CPage = true)
    (saPage : PySem.W.findIn K (.ref CPage) "__setattr__" = some (some (.builtin "object.__setattr__")))
    (mkPage : PySem.W.makesIn K CPage = true)
    (kcPage : PySem.W.keepIn K (.ref CPage) = true)
    (ccPage : PySem.W.findIn K (.ref CPage) "__class__" = some (some (.builtin "object.__class__")))
    (mrPage : PySem.W.mroIn K CPage (.type "object") = some true)
    (kitPage : PySem.W.kitOne K (.ref CPage) (.ref CPage) = some true)
    (noPagecrowd : PySem.W.findIn K (.ref CPage) "crowd" = some none)
    (noPage_marks : PySem.W.findIn K (.ref CPage) "_marks" = some none)
    (mPageInit : PySem.W.findIn K (.ref CPage) "__init__" = some (some (.ref fPageInit)))
    (isfPageInit : PySem.W.isFn K (.ref fPageInit) = true)
    (lPageInit : K.lookup fPageInit = some ⟨ocPageInit, odPageInit, .func (PySem.W.fnOf "__init__" "Page.__init__" (defArgs sPageInit) (defBody sPageInit) (defScope sPageInit) .none kVPageInit dcPageInit pmPageInit anPageInit cdPageInit ctPageInit), slPageInit⟩)
    (cPageInit : PySem.W.codeIn K cdPageInit "Page.__init__" = true)
    (kPageInit : PySem.W.keepIn K (.ref fPageInit) = true)
    (mPageMarks : PySem.W.findIn K (.ref CPage) "marks" = some (some (.ref pPageMarks)))
    (pgPageMarks : PySem.W.specialIn K (.ref pPageMarks) "__get__" = some (some (.builtin "property.__get__")))
    (ptPageMarks : PySem.W.takesIn K (.ref pPageMarks) = some true)
    (prPageMarks : PySem.W.recIn K pPageMarks "property" = some (.ref fPageMarks :: restPageMarks))
    (lPageMarks : K.lookup fPageMarks = some ⟨ocPageMarks, odPageMarks, .func (PySem.W.fnOf "marks" "Page.marks" (defArgs sPageMarks) (defBody sPageMarks) (defScope sPageMarks) .none kVPageMarks dcPageMarks pmPageMarks anPageMarks cdPageMarks ctPageMarks), slPageMarks⟩)
    (cPageMarks : PySem.W.codeIn K cdPageMarks "Page.marks" = true)
    (kPageMarks : PySem.W.keepIn K (.ref fPageMarks) = true)
    (z_len : PySem.W.nsIn K mainGlobals "len" = some none)
    (z_max : PySem.W.nsIn K mainGlobals "max" = some none)
    (z_min : PySem.W.nsIn K mainGlobals "min" = some none)
    (z_int : PySem.W.nsIn K mainGlobals "int" = some none)
    (z_range : PySem.W.nsIn K mainGlobals "range" = some none)
    (z_isinstance : PySem.W.nsIn K mainGlobals "isinstance" = some none)
    (z_str : PySem.W.nsIn K mainGlobals "str" = some none)
    (z_bool : PySem.W.nsIn K mainGlobals "bool" = some none)
    (z_list : PySem.W.nsIn K mainGlobals "list" = some none)
    (z_tuple : PySem.W.nsIn K mainGlobals "tuple" = some none)
    (z_set : PySem.W.nsIn K mainGlobals "set" = some none)
    (z_all : PySem.W.nsIn K mainGlobals "all" = some none)
    (z_dict : PySem.W.nsIn K mainGlobals "dict" = some none)
    (z_repr : PySem.W.nsIn K mainGlobals "repr" = some none)
    (z_abs : PySem.W.nsIn K mainGlobals "abs" = some none)
    (z_enumerate : PySem.W.nsIn K mainGlobals "enumerate" = some none)
    (z_sorted : PySem.W.nsIn K mainGlobals "sorted" = some none)
    (z_LETTERS : PySem.W.nsIn K mainGlobals "LETTERS" = some (some (.str letters t_LETTERS)))
    (z_LONGEST : PySem.W.nsIn K mainGlobals "LONGEST" = some (some (.int 8 t_LONGEST)))
    (z_MOST_PEOPLE : PySem.W.nsIn K mainGlobals "MOST_PEOPLE" = some (some (.int 8 t_MOST_PEOPLE)))
    (z_GREATEST_MARK : PySem.W.nsIn K mainGlobals "GREATEST_MARK" = some (some (.int 10 t_GREATEST_MARK))) :
    LawAtG l w K 8 63 "_law_script" mg fa h := by
  have e := hfa.symm.trans (PySem.W.mg_of X G aLaw)
  cases e
  have B : Bt mg := ⟨PySem.W.mg_none_of X G z_len, PySem.W.mg_none_of X G z_max, PySem.W.mg_none_of X G z_min, PySem.W.mg_none_of X G z_int, PySem.W.mg_none_of X G z_range⟩
  have T : Tx mg := ⟨PySem.W.mg_none_of X G z_isinstance, PySem.W.mg_none_of X G z_str, PySem.W.mg_none_of X G z_bool, PySem.W.mg_none_of X G z_list, PySem.W.mg_none_of X G z_tuple, PySem.W.mg_none_of X G z_set, PySem.W.mg_none_of X G z_all, ⟨_, PySem.W.mg_of X G z_LETTERS⟩, ⟨_, PySem.W.mg_of X G z_LONGEST⟩, ⟨_, PySem.W.mg_of X G z_MOST_PEOPLE⟩, ⟨_, PySem.W.mg_of X G z_GREATEST_MARK⟩⟩
  have Z : Tp mg := ⟨PySem.W.mg_none_of X G z_dict, PySem.W.mg_none_of X G z_repr⟩
  have FIsInteger := fun_mk (st := sIsInteger) lIsInteger cIsInteger kIsInteger
  have FIsIntegerWithin := fun_mk (st := sIsIntegerWithin) lIsIntegerWithin cIsIntegerWithin kIsIntegerWithin
  have FNeedNumber := fun_mk (st := sNeedNumber) lNeedNumber cNeedNumber kNeedNumber
  have FIsWord := fun_mk (st := sIsWord) lIsWord cIsWord kIsWord
  have FArePeople := fun_mk (st := sArePeople) lArePeople cArePeople kArePeople
  have FNeedCrowd := fun_mk (st := sNeedCrowd) lNeedCrowd cNeedCrowd kNeedCrowd
  have FIsMark := fun_mk (st := sIsMark) lIsMark cIsMark kIsMark
  have FIsMarkOrNone := fun_mk (st := sIsMarkOrNone) lIsMarkOrNone cIsMarkOrNone kIsMarkOrNone
  have FAreMarks := fun_mk (st := sAreMarks) lAreMarks cAreMarks kAreMarks
  have FNeedAnyPage := fun_mk (st := sNeedAnyPage) lNeedAnyPage cNeedAnyPage kNeedAnyPage
  have FFoundClashes := fun_mk (st := sFoundClashes) lFoundClashes cFoundClashes kFoundClashes
  have FWithOneMore := fun_mk (st := sWithOneMore) lWithOneMore cWithOneMore kWithOneMore
  have FFoundLeast := fun_mk (st := sFoundLeast) lFoundLeast cFoundLeast kFoundLeast
  have FLeastLeftOut := fun_mk (st := sLeastLeftOut) lLeastLeftOut cLeastLeftOut kLeastLeftOut
  have FAlwaysLeftOut := fun_mk (st := sAlwaysLeftOut) lAlwaysLeftOut cAlwaysLeftOut kAlwaysLeftOut
  have FNumbers := fun_mk (st := sNumbers) lNumbers cNumbers kNumbers
  have FOpened := fun_mk (st := sOpened) lOpened cOpened kOpened
  have FDraw := fun_mk (st := sDraw) lDraw cDraw kDraw
  have FWords := fun_mk (st := sWords) lWords cWords kWords
  have FPairs := fun_mk (st := sPairs) lPairs cPairs kPairs
  have FMarks := fun_mk (st := sMarks) lMarks cMarks kMarks
  have FIsEnough := fun_mk (st := sIsEnough) lIsEnough cIsEnough kIsEnough
  have FSets := fun_mk (st := sSets) lSets cSets kSets
  have FBadCrowdInit := fun_mk (st := sBadCrowdInit) lBadCrowdInit cBadCrowdInit kBadCrowdInit
  have FCrowdInit := fun_mk (st := sCrowdInit) lCrowdInit cCrowdInit kCrowdInit
  have FCrowdContains := fun_mk (st := sCrowdContains) lCrowdContains cCrowdContains kCrowdContains
  have FCrowdPairs := fun_mk (st := sCrowdPairs) lCrowdPairs cCrowdPairs kCrowdPairs
  have FCrowdIsPair := fun_mk (st := sCrowdIsPair) lCrowdIsPair cCrowdIsPair kCrowdIsPair
  have FCrowdPeople := fun_mk (st := sCrowdPeople) lCrowdPeople cCrowdPeople kCrowdPeople
  have FPageInit := fun_mk (st := sPageInit) lPageInit cPageInit kPageInit
  have FPageMarks := fun_mk (st := sPageMarks) lPageMarks cPageMarks kPageMarks
  have FLaw := fun_mk (st := sLaw) lLaw cLaw kLaw
  have bIsInteger := FIsInteger.binds (ps := ["value"]) fun _ _ _ _ _ _ us hl => match us, hl with | [_], _ => rfl
  have bIsIntegerWithin := FIsIntegerWithin.binds (ps := ["value", "least", "most"]) fun _ _ _ _ _ _ us hl => match us, hl with | [_, _, _], _ => rfl
  have bNeedNumber := FNeedNumber.binds (ps := ["number", "least", "most"]) fun _ _ _ _ _ _ us hl => match us, hl with | [_, _, _], _ => rfl
  have bIsWord := FIsWord.binds (ps := ["value"]) fun _ _ _ _ _ _ us hl => match us, hl with | [_], _ => rfl
  have bArePeople := FArePeople.binds (ps := ["value"]) fun _ _ _ _ _ _ us hl => match us, hl with | [_], _ => rfl
  have bNeedCrowd := FNeedCrowd.binds (ps := ["crowd"]) fun _ _ _ _ _ _ us hl => match us, hl with | [_], _ => rfl
  have bIsMark := FIsMark.binds (ps := ["crowd", "value"]) fun _ _ _ _ _ _ us hl => match us, hl with | [_, _], _ => rfl
  have bIsMarkOrNone := FIsMarkOrNone.binds (ps := ["crowd", "value"]) fun _ _ _ _ _ _ us hl => match us, hl with | [_, _], _ => rfl
  have bAreMarks := FAreMarks.binds (ps := ["crowd", "value"]) fun _ _ _ _ _ _ us hl => match us, hl with | [_, _], _ => rfl
  have bNeedAnyPage := FNeedAnyPage.binds (ps := ["page"]) fun _ _ _ _ _ _ us hl => match us, hl with | [_], _ => rfl
  have bFoundClashes := FFoundClashes.binds (ps := ["page", "spread"]) fun _ _ _ _ _ _ us hl => match us, hl with | [_, _], _ => rfl
  have bWithOneMore := FWithOneMore.binds (ps := ["people", "lots"]) fun _ _ _ _ _ _ us hl => match us, hl with | [_, _], _ => rfl
  have bFoundLeast := FFoundLeast.binds (ps := ["page", "spread"]) fun _ _ _ _ _ _ us hl => match us, hl with | [_, _], _ => rfl
  have bLeastLeftOut := FLeastLeftOut.binds (ps := ["page", "spread"]) fun _ _ _ _ _ _ us hl => match us, hl with | [_, _], _ => rfl
  have bAlwaysLeftOut := FAlwaysLeftOut.binds (ps := ["page", "spread"]) fun _ _ _ _ _ _ us hl => match us, hl with | [_, _], _ => rfl
  have bNumbers := FNumbers.binds (ps := ["_law_cell", "_law_salt", "_law_many"]) fun _ _ _ _ _ _ us hl => match us, hl with | [_, _, _], _ => rfl
  have bOpened := FOpened.binds (ps := ["_law_script", "_law_k", "_law_many"]) fun _ _ _ _ _ _ us hl => match us, hl with | [_, _, _], _ => rfl
  have bDraw := FDraw.binds (ps := ["_law_pool", "_law_many"]) fun _ _ _ _ _ _ us hl => match us, hl with | [_, _], _ => rfl
  have bWords := FWords.binds (ps := ["_law_pool", "_law_many"]) fun _ _ _ _ _ _ us hl => match us, hl with | [_, _], _ => rfl
  have bPairs := FPairs.binds (ps := ["_law_words_here"]) fun _ _ _ _ _ _ us hl => match us, hl with | [_], _ => rfl
  have bMarks := FMarks.binds (ps := ["_law_pool", "_law_game", "_law_missing"]) fun _ _ _ _ _ _ us hl => match us, hl with | [_, _, _], _ => rfl
  have bIsEnough := FIsEnough.binds (ps := ["_law_marks_here", "_law_words_here", "_law_spread"]) fun _ _ _ _ _ _ us hl => match us, hl with | [_, _, _], _ => rfl
  have bSets := FSets.binds (ps := ["_law_words_here"]) fun _ _ _ _ _ _ us hl => match us, hl with | [_], _ => rfl
  have bBadCrowdInit := FBadCrowdInit.binds (ps := ["self", "part"]) fun _ _ _ _ _ _ us hl => match us, hl with | [_, _], _ => rfl
  have bCrowdInit := FCrowdInit.binds (ps := ["self", "people", "most"]) fun _ _ _ _ _ _ us hl => match us, hl with | [_, _, _], _ => rfl
  have bCrowdContains := FCrowdContains.binds (ps := ["self", "x"]) fun _ _ _ _ _ _ us hl => match us, hl with | [_, _], _ => rfl
  have bCrowdPairs := FCrowdPairs.binds (ps := ["self"]) fun _ _ _ _ _ _ us hl => match us, hl with | [_], _ => rfl
  have bCrowdIsPair := FCrowdIsPair.binds (ps := ["self", "value"]) fun _ _ _ _ _ _ us hl => match us, hl with | [_, _], _ => rfl
  have bCrowdPeople := FCrowdPeople.binds (ps := ["self"]) fun _ _ _ _ _ _ us hl => match us, hl with | [_], _ => rfl
  have bPageInit := FPageInit.binds (ps := ["self", "crowd", "marks"]) fun _ _ _ _ _ _ us hl => match us, hl with | [_, _, _], _ => rfl
  have bPageMarks := FPageMarks.binds (ps := ["self"]) fun _ _ _ _ _ _ us hl => match us, hl with | [_], _ => rfl
  have ER_BadCrowd : Er K mg "BadCrowd" CBadCrowd := ⟨PySem.W.mg_of X G aBadCrowd, ⟨⟨_, _, _, _, _, _, _, _, _, _, _, _, _, _, _, xBadCrowd, by show PySem.HandSPX.refsVE [.type "ValueError", .type "Exception", .type "BaseException", .type "object"] = true; decide +kernel⟩, saBadCrowd, exBadCrowd, tyBadCrowd, kkBadCrowd⟩, ⟨gaBadCrowd, ggBadCrowd, exBadCrowd, hdBadCrowd⟩, ⟨gaBadCrowd, ggBadCrowd, exBadCrowd, hdBadCrowd, ccBadCrowd, spg, tkc, mrBadCrowd⟩, PySem.W.exm_ref exBadCrowd hdBadCrowd tyBadCrowd ssBadCrowd⟩
  have clCrowd : Cls K CCrowd := ⟨pgCrowd, hdCrowd, poCrowd, saCrowd⟩
  have ioCrowd : IsOwn K CCrowd := ⟨clCrowd, ccCrowd, spg, tkc, mrCrowd⟩
  have MCrowd : Mk K CCrowd fCrowdInit := ⟨mkCrowd, mCrowdInit, isfCrowdInit, kcCrowd⟩
  have clPage : Cls K CPage := ⟨pgPage, hdPage, poPage, saPage⟩
  have ioPage : IsOwn K CPage := ⟨clPage, ccPage, spg, tkc, mrPage⟩
  have MPage : Mk K CPage fPageInit := ⟨mkPage, mPageInit, isfPageInit, kcPage⟩
  have ppCrowdPeople : PropOf K CCrowd "people" pCrowdPeople fCrowdPeople := ⟨mCrowdPeople, pgCrowdPeople, ptCrowdPeople, _, prCrowdPeople⟩
  have ppPageMarks : PropOf K CPage "marks" pPageMarks fPageMarks := ⟨mPageMarks, pgPageMarks, ptPageMarks, _, prPageMarks⟩
  have MCrowdPairs : Meth K CCrowd "pairs" fCrowdPairs := ⟨mCrowdPairs, isfCrowdPairs, kCrowdPairs⟩
  have MCrowdIsPair : Meth K CCrowd "is_pair" fCrowdIsPair := ⟨mCrowdIsPair, isfCrowdIsPair, kCrowdIsPair⟩
  refine ⟨PySem.W.fnOf "law" "law" (defArgs sLaw) (defBody sLaw) (defScope sLaw) .none kVLaw dcLaw pmLaw anLaw cdLaw ctLaw, [(cCR, PCR)], spLaw K [(PCR, lamQ)], fun p hp => ?_, fun s v => .of_eq rfl, fun H a ns hl hT hS => ⟨a, ns, rfl, hS, hl, fun p hp => ?_, fun _ => rfl⟩, fun b0 _ _ hTB => ?_⟩
  · rw [List.mem_singleton.mp hp]
    exact ⟨tb.2, nT, tb.1⟩
  · rw [List.mem_singleton.mp hp]
    exact ⟨#[], hT _ (List.mem_singleton.mpr rfl), by first | exact trivial | exact .nil | constructor, fun _ _ z => by cases z⟩
  have TB := hTB _ (List.mem_singleton.mpr rfl)
  have GA := ok_arePeople (P := l.prog) (w := w) (mg := mg) (base := b0) FArePeople FIsWord bIsWord (PySem.W.mg_of X G aIsWord) B T
  have GN := ok_within (P := l.prog) (w := w) (mg := mg) (base := b0) FIsIntegerWithin FIsInteger bIsInteger (PySem.W.mg_of X G aIsInteger) B T
  have GNn := ok_needNum (P := l.prog) (w := w) (mg := mg) (base := b0) FNeedNumber GN kIsIntegerWithin bIsIntegerWithin (PySem.W.mg_of X G aIsIntegerWithin)
  have GB := ok_badCrowdInit (P := l.prog) (w := w) (mg := mg) (base := b0) (C := CBadCrowd) FBadCrowdInit
  have GC := ok_crowdNew (P := l.prog) (w := w) (mg := mg) (base := b0) (C := CCrowd) FCrowdInit GA kArePeople bArePeople (PySem.W.mg_of X G aArePeople) GN kIsIntegerWithin bIsIntegerWithin (PySem.W.mg_of X G aIsIntegerWithin) GB bBadCrowdInit iBadCrowd tBadCrowd ER_BadCrowd noBadCrowd clCrowd noCrowd_people noCrowdmost T
  have GPe := ok_crowdPeople (P := l.prog) (w := w) (mg := mg) (base := b0) FCrowdPeople clCrowd noCrowd_people T
  have GHas := ok_crowdHas (P := l.prog) (w := w) (mg := mg) (base := b0) FCrowdContains clCrowd noCrowd_people T
  have GIs := ok_crowdIsPair (P := l.prog) (w := w) (mg := mg) (base := b0) FCrowdIsPair GHas mCrowdContains isfCrowdContains bCrowdContains B T
  have GPa := ok_crowdPairs (P := l.prog) (w := w) (mg := mg) (base := b0) FCrowdPairs clCrowd noCrowd_people
  have GNC := ok_needCrowd (P := l.prog) (w := w) (mg := mg) (base := b0) FNeedCrowd (PySem.W.mg_of X G aCrowd) kitCrowd ioCrowd T
  have GM := ok_isMark (P := l.prog) (w := w) (mg := mg) (base := b0) FIsMark GN kIsIntegerWithin bIsIntegerWithin (PySem.W.mg_of X G aIsIntegerWithin) clCrowd noCrowdmost
  have GMN := ok_isMarkN (P := l.prog) (w := w) (mg := mg) (base := b0) FIsMarkOrNone GM kIsMark bIsMark (PySem.W.mg_of X G aIsMark)
  have GAM := ok_areMarks (P := l.prog) (w := w) (mg := mg) (base := b0) FAreMarks GMN kIsMarkOrNone bIsMarkOrNone (PySem.W.mg_of X G aIsMarkOrNone) clCrowd MCrowdPairs GPa bCrowdPairs MCrowdIsPair GIs bCrowdIsPair B T Z
  have GPI := ok_pageInit (P := l.prog) (w := w) (mg := mg) (base := b0) FPageInit GNC kNeedCrowd bNeedCrowd (PySem.W.mg_of X G aNeedCrowd) GAM kAreMarks bAreMarks (PySem.W.mg_of X G aAreMarks) clCrowd MCrowdPairs GPa bCrowdPairs clPage noPagecrowd noPage_marks
  have GPM := ok_pageMarks (P := l.prog) (w := w) (mg := mg) (base := b0) (C := CCrowd) FPageMarks clPage noPage_marks
  have GNP := ok_needPage (P := l.prog) (w := w) (mg := mg) (base := b0) FNeedAnyPage (PySem.W.mg_of X G aPage) kitPage ioPage T
  have GF := ok_found (P := l.prog) (w := w) (mg := mg) (base := b0) FFoundClashes clCrowd ppCrowdPeople GPe bCrowdPeople clPage noPagecrowd ppPageMarks GPM bPageMarks (PySem.W.mg_none_of X G z_enumerate) (PySem.W.mg_none_of X G z_abs)
  have GWm := ok_more (P := l.prog) (w := w) (mg := mg) (base := b0) FWithOneMore B
  have GFl := ok_least (P := l.prog) (w := w) (mg := mg) (base := b0) FFoundLeast GF kFoundClashes bFoundClashes (PySem.W.mg_of X G aFoundClashes) GWm kWithOneMore bWithOneMore (PySem.W.mg_of X G aWithOneMore) clCrowd ppCrowdPeople GPe bCrowdPeople clPage noPagecrowd (PySem.W.mg_none_of X G z_sorted) B T
  have GLo := ok_leastOut (P := l.prog) (w := w) (mg := mg) (base := b0) FLeastLeftOut GNP kNeedAnyPage bNeedAnyPage (PySem.W.mg_of X G aNeedAnyPage) GNn kNeedNumber bNeedNumber (PySem.W.mg_of X G aNeedNumber) GFl kFoundLeast bFoundLeast (PySem.W.mg_of X G aFoundLeast) clCrowd noCrowdmost clPage noPagecrowd
  have GAl := ok_always (P := l.prog) (w := w) (mg := mg) (base := b0) FAlwaysLeftOut GNP kNeedAnyPage bNeedAnyPage (PySem.W.mg_of X G aNeedAnyPage) GNn kNeedNumber bNeedNumber (PySem.W.mg_of X G aNeedNumber) GFl kFoundLeast bFoundLeast (PySem.W.mg_of X G aFoundLeast) clCrowd noCrowdmost ppCrowdPeople GPe bCrowdPeople clPage noPagecrowd T
  have GNu := ok_numbers (P := l.prog) (w := w) (mg := mg) (base := b0) FNumbers B
  have GOp := ok_openedC (P := l.prog) (w := w) (mg := mg) (base := b0) FOpened GNu kNumbers bNumbers (PySem.W.mg_of X G aNumbers)
  have GD := ok_drawC (P := l.prog) (w := w) (mg := mg) (base := b0) FDraw B
  have GWo := ok_wordsC (P := l.prog) (w := w) (mg := mg) (base := b0) FWords GD kDraw bDraw (PySem.W.mg_of X G aDraw)
  have GLp := ok_lawPairs (P := l.prog) (w := w) (mg := mg) (base := b0) FPairs
  have GMk := ok_marksC (P := l.prog) (w := w) (mg := mg) (base := b0) FMarks GD kDraw bDraw (PySem.W.mg_of X G aDraw) GLp (PySem.W.mg_of X G aPairs) kPairs bPairs B
  have GEn := ok_enough (P := l.prog) (w := w) (mg := mg) (base := b0) FIsEnough (PySem.W.mg_none_of X G z_enumerate)
  have GSe := ok_sets (P := l.prog) (w := w) (mg := mg) (base := b0) (TT := [(PCR, lamQ)]) lSets cSets B (PySem.W.mg_none_of X G z_sorted) TB (List.mem_singleton.mpr rfl) (fun p hp _ => by rw [List.mem_singleton.mp hp])
  exact ok_law FLaw GOp kOpened bOpened (PySem.W.mg_of X G aOpened) GD kDraw bDraw (PySem.W.mg_of X G aDraw) GWo kWords bWords (PySem.W.mg_of X G aWords) GMk kMarks bMarks (PySem.W.mg_of X G aMarks) GC MCrowd (PySem.W.mg_of X G aCrowd) bCrowdInit MPage GPI (PySem.W.mg_of X G aPage) bPageInit GLo kLeastLeftOut bLeastLeftOut (PySem.W.mg_of X G aLeastLeftOut) GAl kAlwaysLeftOut bAlwaysLeftOut (PySem.W.mg_of X G aAlwaysLeftOut) GSe kSets bSets (PySem.W.mg_of X G aSets) GEn kIsEnough bIsEnough (PySem.W.mg_of X G aIsEnough) B
end K83
open PySem PySem.W PyProof.Rows in
set_option maxRecDepth 100000 in
set_option maxHeartbeats 0 in
theorem PySem.Challenge.cw_ownmarks_k83_whole_markers_left_out_holds : PySem.Challenge.rw_ownmarks_k83_whole_markers_left_out.Holds := by
  w_on; o_law; k_head; (case hw => w_witness2)
  k_fill
  refine L2.walk_ofGT (l := PySem.Challenge.rw_ownmarks_k83_whole_markers_left_out) (n := 63) (k := 8) (x := "_law_script") rfl (by decide) rfl ⟨rfl, by decide, by decide⟩ (fun w h Y => by first | exact PySem.W.kIn_of Y | exact Y.1) ?F (fun _ _ _ _ z => z)
  case F =>
    intro w mg fa h Y KX G hmg tabs
    refine' K83.all_mk KX G hmg (tabs _ "_law_sets" _ _ ?frec ?ftab) ?aIsInteger ?lIsInteger ?cIsInteger ?kIsInteger ?aIsIntegerWithin ?lIsIntegerWithin ?cIsIntegerWithin ?kIsIntegerWithin ?aNeedNumber ?lNeedNumber ?cNeedNumber ?kNeedNumber ?aIsWord ?lIsWord ?cIsWord ?kIsWord ?aArePeople ?lArePeople ?cArePeople ?kArePeople ?aNeedCrowd ?lNeedCrowd ?cNeedCrowd ?kNeedCrowd ?aIsMark ?lIsMark ?cIsMark ?kIsMark ?aIsMarkOrNone ?lIsMarkOrNone ?cIsMarkOrNone ?kIsMarkOrNone ?aAreMarks ?lAreMarks ?cAreMarks ?kAreMarks ?aNeedAnyPage ?lNeedAnyPage ?cNeedAnyPage ?kNeedAnyPage ?aFoundClashes ?lFoundClashes ?cFoundClashes ?kFoundClashes ?aWithOneMore ?lWithOneMore ?cWithOneMore ?kWithOneMore ?aFoundLeast ?lFoundLeast ?cFoundLeast ?kFoundLeast ?aLeastLeftOut ?lLeastLeftOut ?cLeastLeftOut ?kLeastLeftOut ?aAlwaysLeftOut ?lAlwaysLeftOut ?cAlwaysLeftOut ?kAlwaysLeftOut ?aNumbers ?lNumbers ?cNumbers ?kNumbers ?aOpened ?lOpened ?cOpened ?kOpened ?aDraw ?lDraw ?cDraw ?kDraw ?aWords ?lWords ?cWords ?kWords ?aPairs ?lPairs ?cPairs ?kPairs ?aMarks ?lMarks ?cMarks ?kMarks ?aIsEnough ?lIsEnough ?cIsEnough ?kIsEnough ?aLaw ?lLaw ?cLaw ?kLaw ?aSets ?lSets ?cSets ?kSets ?nT ?aMarksError ?aBadCrowd ?gaBadCrowd ?ggBadCrowd ?exBadCrowd ?hdBadCrowd ?noBadCrowd ?ccBadCrowd ?mrBadCrowd ?spg ?tkc ?xBadCrowd ?ssBadCrowd ?saBadCrowd ?tyBadCrowd ?kkBadCrowd ?iBadCrowd ?tBadCrowd ?lBadCrowdInit ?cBadCrowdInit ?kBadCrowdInit ?aCrowd ?pgCrowd ?hdCrowd ?poCrowd ?saCrowd ?mkCrowd ?kcCrowd ?ccCrowd ?mrCrowd ?kitCrowd ?noCrowd_people ?noCrowdmost ?mCrowdInit ?isfCrowdInit ?lCrowdInit ?cCrowdInit ?kCrowdInit ?mCrowdContains ?isfCrowdContains ?lCrowdContains ?cCrowdContains ?kCrowdContains ?mCrowdPairs ?isfCrowdPairs ?lCrowdPairs ?cCrowdPairs ?kCrowdPairs ?mCrowdIsPair ?isfCrowdIsPair ?lCrowdIsPair ?cCrowdIsPair ?kCrowdIsPair ?mCrowdPeople ?pgCrowdPeople ?ptCrowdPeople ?prCrowdPeople ?lCrowdPeople ?cCrowdPeople ?kCrowdPeople ?aPage ?pgPage ?hdPage ?poPage ?saPage ?mkPage ?kcPage ?ccPage ?mrPage ?kitPage ?noPagecrowd ?noPage_marks ?mPageInit ?isfPageInit ?lPageInit ?cPageInit ?kPageInit ?mPageMarks ?pgPageMarks ?ptPageMarks ?prPageMarks ?lPageMarks ?cPageMarks ?kPageMarks ?z_len ?z_max ?z_min ?z_int ?z_range ?z_isinstance ?z_str ?z_bool ?z_list ?z_tuple ?z_set ?z_all ?z_dict ?z_repr ?z_abs ?z_enumerate ?z_sorted ?z_LETTERS ?z_LONGEST ?z_MOST_PEOPLE ?z_GREATEST_MARK
    (case frec => first | k_is | k_exc | rfl)
    (case ftab => first | k_is | k_exc | rfl)
    (case aIsInteger => first | k_is | k_exc | rfl)
    (case lIsInteger => first | k_is | k_exc | rfl)
    (case cIsInteger => first | k_is | k_exc | rfl)
    (case kIsInteger => first | k_is | k_exc | rfl)
    (case aIsIntegerWithin => first | k_is | k_exc | rfl)
    (case lIsIntegerWithin => first | k_is | k_exc | rfl)
    (case cIsIntegerWithin => first | k_is | k_exc | rfl)
    (case kIsIntegerWithin => first | k_is | k_exc | rfl)
    (case aNeedNumber => first | k_is | k_exc | rfl)
    (case lNeedNumber => first | k_is | k_exc | rfl)
    (case cNeedNumber => first | k_is | k_exc | rfl)
    (case kNeedNumber => first | k_is | k_exc | rfl)
    (case aIsWord => first | k_is | k_exc | rfl)
    (case lIsWord => first | k_is | k_exc | rfl)
    (case cIsWord => first | k_is | k_exc | rfl)
    (case kIsWord => first | k_is | k_exc | rfl)
    (case aArePeople => first | k_is | k_exc | rfl)
    (case lArePeople => first | k_is | k_exc | rfl)
    (case cArePeople => first | k_is | k_exc | rfl)
    (case kArePeople => first | k_is | k_exc | rfl)
    (case aNeedCrowd => first | k_is | k_exc | rfl)
    (case lNeedCrowd => first | k_is | k_exc | rfl)
    (case cNeedCrowd => first | k_is | k_exc | rfl)
    (case kNeedCrowd => first | k_is | k_exc | rfl)
    (case aIsMark => first | k_is | k_exc | rfl)
    (case lIsMark => first | k_is | k_exc | rfl)
    (case cIsMark => first | k_is | k_exc | rfl)
    (case kIsMark => first | k_is | k_exc | rfl)
    (case aIsMarkOrNone => first | k_is | k_exc | rfl)
    (case lIsMarkOrNone => first | k_is | k_exc | rfl)
    (case cIsMarkOrNone => first | k_is | k_exc | rfl)
    (case kIsMarkOrNone => first | k_is | k_exc | rfl)
    (case aAreMarks => first | k_is | k_exc | rfl)
    (case lAreMarks => first | k_is | k_exc | rfl)
    (case cAreMarks => first | k_is | k_exc | rfl)
    (case kAreMarks => first | k_is | k_exc | rfl)
    (case aNeedAnyPage => first | k_is | k_exc | rfl)
    (case lNeedAnyPage => first | k_is | k_exc | rfl)
    (case cNeedAnyPage => first | k_is | k_exc | rfl)
    (case kNeedAnyPage => first | k_is | k_exc | rfl)
    (case aFoundClashes => first | k_is | k_exc | rfl)
    (case lFoundClashes => first | k_is | k_exc | rfl)
    (case cFoundClashes => first | k_is | k_exc | rfl)
    (case kFoundClashes => first | k_is | k_exc | rfl)
    (case aWithOneMore => first | k_is | k_exc | rfl)
    (case lWithOneMore => first | k_is | k_exc | rfl)
    (case cWithOneMore => first | k_is | k_exc | rfl)
    (case kWithOneMore => first | k_is | k_exc | rfl)
    (case aFoundLeast => first | k_is | k_exc | rfl)
    (case lFoundLeast => first | k_is | k_exc | rfl)
    (case cFoundLeast => first | k_is | k_exc | rfl)
    (case kFoundLeast => first | k_is | k_exc | rfl)
    (case aLeastLeftOut => first | k_is | k_exc | rfl)
    (case lLeastLeftOut => first | k_is | k_exc | rfl)
    (case cLeastLeftOut => first | k_is | k_exc | rfl)
    (case kLeastLeftOut => first | k_is | k_exc | rfl)
    (case aAlwaysLeftOut => first | k_is | k_exc | rfl)
    (case lAlwaysLeftOut => first | k_is | k_exc | rfl)
    (case cAlwaysLeftOut => first | k_is | k_exc | rfl)
    (case kAlwaysLeftOut => first | k_is | k_exc | rfl)
    (case aNumbers => first | k_is | k_exc | rfl)
    (case lNumbers => first | k_is | k_exc | rfl)
    (case cNumbers => first | k_is | k_exc | rfl)
    (case kNumbers => first | k_is | k_exc | rfl)
    (case aOpened => first | k_is | k_exc | rfl)
    (case lOpened => first | k_is | k_exc | rfl)
    (case cOpened => first | k_is | k_exc | rfl)
    (case kOpened => first | k_is | k_exc | rfl)
    (case aDraw => first | k_is | k_exc | rfl)
    (case lDraw => first | k_is | k_exc | rfl)
    (case cDraw => first | k_is | k_exc | rfl)
    (case kDraw => first | k_is | k_exc | rfl)
    (case aWords => first | k_is | k_exc | rfl)
    (case lWords => first | k_is | k_exc | rfl)
    (case cWords => first | k_is | k_exc | rfl)
    (case kWords => first | k_is | k_exc | rfl)
    (case aPairs => first | k_is | k_exc | rfl)
    (case lPairs => first | k_is | k_exc | rfl)
    (case cPairs => first | k_is | k_exc | rfl)
    (case kPairs => first | k_is | k_exc | rfl)
    (case aMarks => first | k_is | k_exc | rfl)
    (case lMarks => first | k_is | k_exc | rfl)
    (case cMarks => first | k_is | k_exc | rfl)
    (case kMarks => first | k_is | k_exc | rfl)
    (case aIsEnough => first | k_is | k_exc | rfl)
    (case lIsEnough => first | k_is | k_exc | rfl)
    (case cIsEnough => first | k_is | k_exc | rfl)
    (case kIsEnough => first | k_is | k_exc | rfl)
    (case aLaw => first | k_is | k_exc | rfl)
    (case lLaw => first | k_is | k_exc | rfl)
    (case cLaw => first | k_is | k_exc | rfl)
    (case kLaw => first | k_is | k_exc | rfl)
    (case aSets => first | k_is | k_exc | rfl)
    (case lSets => first | k_is | k_exc | rfl)
    (case cSets => first | k_is | k_exc | rfl)
    (case kSets => first | k_is | k_exc | rfl)
    (case nT => first | k_is | k_exc | rfl)
    (case aMarksError => first | k_is | k_exc | rfl)
    (case aBadCrowd => first | k_is | k_exc | rfl)
    (case gaBadCrowd => first | k_is | k_exc | rfl)
    (case ggBadCrowd => first | k_is | k_exc | rfl)
    (case exBadCrowd => first | k_is | k_exc | rfl)
    (case hdBadCrowd => first | k_is | k_exc | rfl)
    (case noBadCrowd => first | k_is | k_exc | rfl)
    (case ccBadCrowd => first | k_is | k_exc | rfl)
    (case mrBadCrowd => first | k_is | k_exc | rfl)
    (case spg => first | k_is | k_exc | rfl)
    (case tkc => first | k_is | k_exc | rfl)
    (case xBadCrowd => first | k_is | k_exc | rfl)
    (case ssBadCrowd => first | k_is | k_exc | rfl)
    (case saBadCrowd => first | k_is | k_exc | rfl)
    (case tyBadCrowd => first | k_is | k_exc | rfl)
    (case kkBadCrowd => first | k_is | k_exc | rfl)
    (case iBadCrowd => first | k_is | k_exc | rfl)
    (case tBadCrowd => first | k_is | k_exc | rfl)
    (case lBadCrowdInit => first | k_is | k_exc | rfl)
    (case cBadCrowdInit => first | k_is | k_exc | rfl)
    (case kBadCrowdInit => first | k_is | k_exc | rfl)
    (case aCrowd => first | k_is | k_exc | rfl)
    (case pgCrowd => first | k_is | k_exc | rfl)
    (case hdCrowd => first | k_is | k_exc | rfl)
    (case poCrowd => first | k_is | k_exc | rfl)
    (case saCrowd => first | k_is | k_exc | rfl)
    (case mkCrowd => first | k_is | k_exc | rfl)
    (case kcCrowd => first | k_is | k_exc | rfl)
    (case ccCrowd => first | k_is | k_exc | rfl)
    (case mrCrowd => first | k_is | k_exc | rfl)
    (case kitCrowd => first | k_is | k_exc | rfl)
    (case noCrowd_people => first | k_is | k_exc | rfl)
    (case noCrowdmost => first | k_is | k_exc | rfl)
    (case mCrowdInit => first | k_is | k_exc | rfl)
    (case isfCrowdInit => first | k_is | k_exc | rfl)
    (case lCrowdInit => first | k_is | k_exc | rfl)
    (case cCrowdInit => first | k_is | k_exc | rfl)
    (case kCrowdInit => first | k_is | k_exc | rfl)
    (case mCrowdContains => first | k_is | k_exc | rfl)
    (case isfCrowdContains => first | k_is | k_exc | rfl)
    (case lCrowdContains => first | k_is | k_exc | rfl)
    (case cCrowdContains => first | k_is | k_exc | rfl)
    (case kCrowdContains => first | k_is | k_exc | rfl)
    (case mCrowdPairs => first | k_is | k_exc | rfl)
    (case isfCrowdPairs => first | k_is | k_exc | rfl)
    (case lCrowdPairs => first | k_is | k_exc | rfl)
    (case cCrowdPairs => first | k_is | k_exc | rfl)
    (case kCrowdPairs => first | k_is | k_exc | rfl)
    (case mCrowdIsPair => first | k_is | k_exc | rfl)
    (case isfCrowdIsPair => first | k_is | k_exc | rfl)
    (case lCrowdIsPair => first | k_is | k_exc | rfl)
    (case cCrowdIsPair => first | k_is | k_exc | rfl)
    (case kCrowdIsPair => first | k_is | k_exc | rfl)
    (case mCrowdPeople => first | k_is | k_exc | rfl)
    (case pgCrowdPeople => first | k_is | k_exc | rfl)
    (case ptCrowdPeople => first | k_is | k_exc | rfl)
    (case prCrowdPeople => first | k_is | k_exc | rfl)
    (case lCrowdPeople => first | k_is | k_exc | rfl)
    (case cCrowdPeople => first | k_is | k_exc | rfl)
    (case kCrowdPeople => first | k_is | k_exc | rfl)
    (case aPage => first | k_is | k_exc | rfl)
    (case pgPage => first | k_is | k_exc | rfl)
    (case hdPage => first | k_is | k_exc | rfl)
    (case poPage => first | k_is | k_exc | rfl)
    (case saPage => first | k_is | k_exc | rfl)
    (case mkPage => first | k_is | k_exc | rfl)
    (case kcPage => first | k_is | k_exc | rfl)
    (case ccPage => first | k_is | k_exc | rfl)
    (case mrPage => first | k_is | k_exc | rfl)
    (case kitPage => first | k_is | k_exc | rfl)
    (case noPagecrowd => first | k_is | k_exc | rfl)
    (case noPage_marks => first | k_is | k_exc | rfl)
    (case mPageInit => first | k_is | k_exc | rfl)
    (case isfPageInit => first | k_is | k_exc | rfl)
    (case lPageInit => first | k_is | k_exc | rfl)
    (case cPageInit => first | k_is | k_exc | rfl)
    (case kPageInit => first | k_is | k_exc | rfl)
    (case mPageMarks => first | k_is | k_exc | rfl)
    (case pgPageMarks => first | k_is | k_exc | rfl)
    (case ptPageMarks => first | k_is | k_exc | rfl)
    (case prPageMarks => first | k_is | k_exc | rfl)
    (case lPageMarks => first | k_is | k_exc | rfl)
    (case cPageMarks => first | k_is | k_exc | rfl)
    (case kPageMarks => first | k_is | k_exc | rfl)
    (case z_len => first | k_is | k_exc | rfl)
    (case z_max => first | k_is | k_exc | rfl)
    (case z_min => first | k_is | k_exc | rfl)
    (case z_int => first | k_is | k_exc | rfl)
    (case z_range => first | k_is | k_exc | rfl)
    (case z_isinstance => first | k_is | k_exc | rfl)
    (case z_str => first | k_is | k_exc | rfl)
    (case z_bool => first | k_is | k_exc | rfl)
    (case z_list => first | k_is | k_exc | rfl)
    (case z_tuple => first | k_is | k_exc | rfl)
    (case z_set => first | k_is | k_exc | rfl)
    (case z_all => first | k_is | k_exc | rfl)
    (case z_dict => first | k_is | k_exc | rfl)
    (case z_repr => first | k_is | k_exc | rfl)
    (case z_abs => first | k_is | k_exc | rfl)
    (case z_enumerate => first | k_is | k_exc | rfl)
    (case z_sorted => first | k_is | k_exc | rfl)
    (case z_LETTERS => first | k_is | k_exc | rfl)
    (case z_LONGEST => first | k_is | k_exc | rfl)
    (case z_MOST_PEOPLE => first | k_is | k_exc | rfl)
    (case z_GREATEST_MARK => first | k_is | k_exc | rfl)


