import PyProof.Rows.All
import Wide.All
import OpenK.AllK
import Wide.FinOn
import HandS.Base
import HandS.Call
import HandS.List
import HandS.Strs
import HandS.SetKeys
import HandS.ForMost
import HandS.Walk
import HandS.ForExc
import HandS.ExcInit
import HandS.ExcField
import HandS.ExcIs
import HandS.IsInst
import KE.KExcIs
import HandS.ExcValue
import KE.KExcInit
import HandS.Words
import HandS.Ends
import HandS.Property
import PyProof.InstNe
import PyProof.FactsAll.range_iterator_1
import HandS.NamedTupSort
import PyProof.ReprRoads
import HandS.IterNext
import HandS.TryMany
import HandS.OwnEq
import HandS.OwnIter
import HandS.IterVal
import KE.KOwnIter
import HandS.EndTab
import KE.KNest
import HandS.Conv
import HandS.MakeKwOnly
import HandS.Lambda
import HandS.DictComp
import HandS.DictTup
import HandS.TupLen
import HandS.Iter
import KE.KDictWalk
import KE.KDictCopyH
import KE.KDictKeyed
import KE.KDictPairs
import KE.KDictItemsList
import PyProof.P3Eq
import PySem.Challenge.RW_ownmarks_k04_pages_told
import HandS.TupLe
import HandS.Style
import HandS.ClsMeth
import HandS.Dict
import HandS.WordsDict
import HandS.Deep
import HandS.Finally
set_option Elab.async false
set_option linter.all false
set_option maxRecDepth 100000
/-! Sets made of a list or a tuple of keys of any kind, however many: what is in them and how many there are. -/
namespace Km
open PySem PySem.Spec PyProof.Rows
section
variable {K : Type} [DecidableEq K]
def addU (l : List K) (k : K) : List K := if k ∈ l then l else l ++ [k]
def uniq (ks : List K) : List K := ks.foldl addU []
theorem uniq_snoc (ks : List K) (k : K) : uniq (ks ++ [k]) = addU (uniq ks) k := by
  unfold uniq
  rw [List.foldl_append]
  rfl
theorem mem_addU {l : List K} {k j : K} : j ∈ addU l k ↔ j ∈ l ∨ j = k := by
  unfold addU
  split
  · constructor
    · exact .inl
    · rintro (h | rfl) <;> assumption
  · simp
theorem rev_ind {P : List K → Prop} (h0 : P []) (h1 : ∀ l k, P l → P (l ++ [k])) (l : List K) : P l := by
  have h : ∀ r : List K, P r.reverse := by
    intro r
    induction r with
    | nil => exact h0
    | cons a r ih =>
      rw [List.reverse_cons]
      exact h1 _ _ ih
  have := h l.reverse
  rwa [List.reverse_reverse] at this
theorem mem_uniq (ks : List K) (j : K) : j ∈ uniq ks ↔ j ∈ ks := by
  induction ks using rev_ind with
  | h0 => simp [uniq]
  | h1 l k ih => rw [uniq_snoc, mem_addU, ih, List.mem_append, List.mem_singleton]
theorem uniq_le (ks : List K) : (uniq ks).length ≤ ks.length := by
  induction ks using rev_ind with
  | h0 => exact Nat.le_refl _
  | h1 l k ih =>
    rw [uniq_snoc, List.length_append, List.length_singleton]
    unfold addU
    split
    · omega
    · rw [List.length_append, List.length_singleton]
      omega
theorem uniq_full (ks : List K) : (uniq ks).length = ks.length ↔ ks.Nodup := by
  induction ks using rev_ind with
  | h0 => simp [uniq]
  | h1 l k ih =>
    have h2 := uniq_le l
    rw [uniq_snoc, List.length_append, List.length_singleton, List.nodup_append, ← ih]
    unfold addU
    by_cases h : k ∈ uniq l
    · rw [if_pos h]
      have h' := (mem_uniq l k).mp h
      constructor
      · intro e
        omega
      · rintro ⟨_, _, z⟩
        exact absurd rfl (z k h' k (List.mem_singleton.mpr rfl))
    · rw [if_neg h, List.length_append, List.length_singleton]
      have h' : k ∉ l := fun z => h ((mem_uniq l k).mpr z)
      constructor
      · intro e
        refine ⟨by omega, by simp, fun a ha b hb z => ?_⟩
        rw [List.mem_singleton.mp hb] at z
        exact h' (z ▸ ha)
      · rintro ⟨z, _⟩
        omega
theorem addU_len (l : List K) (k : K) : (addU l k).length = if decide (k ∈ l) = true then l.length else l.length + 1 := by
  unfold addU
  by_cases h : k ∈ l
  · rw [if_pos h, if_pos (decide_eq_true h)]
  · rw [if_neg h, if_neg (by simpa using h), List.length_append, List.length_singleton]
end
section
variable {prog : Program} {w : World} {K : Type} [DecidableEq K] {knd : KeyKind prog w K}
theorem setOf_eq {h : Heap} {a : Addr} {S T : K → Bool} {n m : Nat} (z : h.SetOf knd a S n) (e1 : ∀ k, S k = T k) (e2 : n = m) : h.SetOf knd a T m := by
  rw [← funext e1, ← e2]
  exact z
variable {A : Around} {R : Result → Shared → Prop} {I S : Addr} {fp wr : List Addr} {G : Array GenState → Array GenState → Prop} {n : Nat} {P : Nat → Value → Prop} {St : Nat → Shared → Prop}
def inU (ks : List K) (i : Nat) : K → Bool := fun k => decide (k ∈ uniq (ks.take i))
theorem inU_next {ks : List K} {i : Nat} {k : K} (hk : ks[i]? = some k) (j : K) : (inU ks i j || decide (j = k)) = inU ks (i + 1) j := by
  unfold inU
  rw [List.take_add_one, hk]
  show _ = decide (j ∈ uniq (ks.take i ++ [k]))
  rw [uniq_snoc, ← Bool.decide_or]
  exact decide_eq_decide.mpr mem_addU.symm
theorem cnt_next {ks : List K} {i : Nat} {k : K} (hk : ks[i]? = some k) : (if inU ks i k = true then (uniq (ks.take i)).length else (uniq (ks.take i)).length + 1) = (uniq (ks.take (i + 1))).length := by
  rw [List.take_add_one, hk]
  show _ = (uniq (ks.take i ++ [k])).length
  rw [uniq_snoc, addU_len]
  rfl
/-- the filling of a fresh set, from turn i on -/
theorem fill (W : WalksS prog w A.in1 I fp wr G n P St) (hS : S ∉ fp) (ks : List K) (hn : ks.length = n) (hroom : n + 1 < scanBound)
    (hval : ∀ i v, P i v → ∃ k, ks[i]? = some k ∧ knd.is k v = true ∧ v.scannable = true) :
    ∀ (left i : Nat) (s : Shared), left = n - i → i ≤ n → St i s → s.heap.SetOf knd S (inU ks i) (uniq (ks.take i)).length →
      (∀ s2, Moved (S :: wr) G s s2 → s2.heap.SetOf knd S (inU ks n) (uniq (ks.take n)).length → R (.ok (.ret .none)) s2) →
      codeAny (model prog w) A (.builtin "set.update.loop" ⟨[.ref S, .ref I], []⟩) R s
  | 0, i, s, hl, hi, st, z, hR => by
    have e : i = n := by omega
    rw [e] at st z
    refine codeAny_builtin PyProof.Rows.F.entry_set_update_loop ?_
    rw [Around.under_plainId PyProof.Rows.F.plain_set_update_loop _]
    refine wpAny_bind (W.done s _ _ st fun s2 mv => ?_)
    have hw : S ∉ wr := fun q => hS (W.sub _ q)
    refine wpAny_pure (hR s2 (mv.mono fun b hb => List.mem_cons_of_mem _ hb) ?_)
    obtain ⟨o, es, ep, t, ho, r⟩ := z
    exact ⟨o, es, ep, t, mv.heap S _ hw ho, r⟩
  | left + 1, i, s, hl, hi, st, z, hR => by
    have lt : i < n := by omega
    have hw : S ∉ wr := fun q => hS (W.sub _ q)
    refine codeAny_builtin PyProof.Rows.F.entry_set_update_loop ?_
    rw [Around.under_plainId PyProof.Rows.F.plain_set_update_loop _]
    refine wpAny_bind (W.item i s _ _ lt st fun v s1 hv st1 mv => ?_)
    obtain ⟨k, hk, his, hsc⟩ := hval i v hv
    have z1 : s1.heap.SetOf knd S (inU ks i) (uniq (ks.take i)).length := by
      obtain ⟨o, es, ep, t, ho, r⟩ := z
      exact ⟨o, es, ep, t, mv.heap S _ hw ho, r⟩
    refine wpAny_bind (wpAny_holding ?_)
    unfold setAdd
    refine wpAny_holding (wpAny_bind (knd.pyHash his ?_))
    have room : (uniq (ks.take i)).length + 1 < scanBound := by
      have h1 := uniq_le (ks.take i)
      have h2 : (ks.take i).length ≤ i := by
        rw [List.length_take]
        omega
      omega
    refine wpAny_setAddHashed_of (s := { s1 with toks := s1.toks + 1 }) his hsc z1 room fun h2 sb z2 => ?_
    have z3 : h2.SetOf knd S (inU ks (i + 1)) (uniq (ks.take (i + 1))).length := setOf_eq z2 (inU_next hk) (cnt_next hk)
    refine wpAny_pure ⟨plainId_quiet PyProof.Rows.F.plain_set_update_loop _, fill W hS ks hn hroom hval left (i + 1) _ (by omega) lt (W.frame _ s1 _ _ st1 (Nat.le_succ _) fun b hb o e => ?_) z3 fun s3 mv3 z4 => ?_⟩
    · have nb : b ≠ S := fun q => hS (q ▸ hb)
      rw [sb.2 b nb]
      exact e
    · refine hR s3 (Moved.trans W.gtrans ((mv.mono fun b hb => List.mem_cons_of_mem _ hb).then_heap (Nat.le_succ _) fun b o hb e => ?_) mv3) z4
      have nb : b ≠ S := fun q => hb (q ▸ List.mem_cons_self)
      rw [sb.2 b nb]
      exact e
end
end Km
namespace Km
open PySem PySem.Spec PyProof.Rows
section
variable {prog : Program} {w : World} {A : Around} {E : Value → Shared → Prop} {s : Shared} {K : Type} [DecidableEq K] {knd : KeyKind prog w K}
def fresh (led : Bool) : Obj := { cls := .type "set", dict := none, data := .set #[] 0 (.fresh 0 0 led) }
/-- what __init__ is to leave: all of keys in the set at D, what stood before stands -/
def Left (knd : KeyKind prog w K) (s : Shared) (ks : List K) (s2 : Shared) : Prop :=
  ∃ h2 tk, s2 = { s with heap := h2, toks := tk } ∧ h2.SetOf knd s.heap.objs.size (inU ks ks.length) (uniq ks).length ∧ ∀ b o, s.heap.get? b = some o → h2.get? b = some o
/-- set(x), given what its __init__ does with the fresh set -/
theorem set_of_init {x : Value} {ks : List K} {Q : Value → Shared → Prop}
    (hinit : ∀ (led : Bool) (B : Around), (A.handled = none → B.handled = none) → wpAny (model prog w) B (Builtin.«set.__init__» ⟨[.ref s.heap.objs.size, x], []⟩)
      (fun r s2 => r = .done (.ret .none) ∧ Left knd s ks s2) E { s with heap := s.heap.push (fresh led) })
    (h : ∀ s2, Left knd s ks s2 → Q (.ref s.heap.objs.size) s2) : wpAny (model prog w) A (call (.type "set") [x]) Q E s := by
  obtain ⟨c, tl, hmro⟩ := PySem.F.called_set.mro
  have a1 := PySem.F.called_set.made
  have a2 := PySem.F.called_set.sub
  refine wpAny_call (codeAny_of_tree ?_)
  refine wpAny_pure ⟨Code.quiet_builtin _ (by decide +kernel), codeAny_builtin PySem.F.entry_type_call ?_⟩
  rw [Around.under_plain (weight_type_call_type "set" [x] []) rfl]
  have a3 := PySem.F.called_set.notType
  have a4 := PySem.F.called_set.canCreate
  have a5 := PySem.F.typeCall_set_1 x
  repeat (any_goals (first | assumption | wp_step))
  refine codeAny_mono (code_set_new_1 x (E := E) (Q₁ := fun o s1 => ∃ led : Bool, o = .ref s.heap.objs.size ∧ s1 = { s with heap := s.heap.push (fresh led) }) fun led => ⟨led, rfl, rfl⟩) fun r s1 hr => ?_
  cases r with
  | error e => exact hr
  | ok fl =>
    cases fl with
    | ret o =>
      obtain ⟨led, rfl, rfl⟩ := hr
      have at1 : (s.heap.push (fresh led)).get? s.heap.objs.size = some (fresh led) := Heap.get?_push_size _ rfl
      have ty1 : Shared.TypeIs { s with heap := s.heap.push (fresh led) } (.ref s.heap.objs.size) "set" := ⟨_, at1, rfl⟩
      have a6 := PySem.F.called_set.init.lookup
      have a7 := PySem.F.called_set.init.bind (.ref s.heap.objs.size)
      repeat (any_goals (first | assumption | wp_step))
      refine codeAny_mono (codeAny_call_builtin (R := wants (fun r s2 => r = .none ∧ Left knd s ks s2) E) PySem.F.called_set.init.plain PySem.F.entry_set_init (check_set_init_1 ty1 ?_)) fun r2 s2 hr2 => ?_
      · refine wpAny_mono (hinit led _ fun q => ?_) (fun r s2 z => ?_) (fun _ _ z => z)
        · simp [q]
        · obtain ⟨rfl, z⟩ := z
          exact ⟨rfl, z⟩
      · cases r2 with
        | error e => exact hr2
        | ok f2 =>
          cases f2 with
          | ret r =>
            obtain ⟨rfl, z⟩ := hr2
            repeat (any_goals (first | assumption | wp_step))
            exact h _ z
          | _ => exact hr2.elim
    | _ => exact hr.elim
/-- set.__init__ over a list -/
theorem init_list {l : Addr} {items : Array Value} {ks : List K} (led : Bool) (hh : A.handled = none) (hl : s.heap.IsList l items) (hn : ks.length = items.size) (hroom : items.size + 1 < scanBound)
    (hval : ∀ (i : Nat) (v : Value), items[i]? = some v → ∃ k, ks[i]? = some k ∧ knd.is k v = true ∧ v.scannable = true) :
    wpAny (model prog w) A (Builtin.«set.__init__» ⟨[.ref s.heap.objs.size, .ref l], []⟩) (fun r s2 => r = .done (.ret .none) ∧ Left knd s ks s2) E { s with heap := s.heap.push (fresh led) } := by
  have at1 : (s.heap.push (fresh led)).get? s.heap.objs.size = some (fresh led) := Heap.get?_push_size _ rfl
  have ty1 : Shared.TypeIs { s with heap := s.heap.push (fresh led) } (.ref s.heap.objs.size) "set" := ⟨_, at1, rfl⟩
  obtain ⟨⟨oc, odict, od, osl⟩, ho, hc, nl, hd⟩ := hl
  simp only at hc hd
  subst hc hd
  have ho1 : (s.heap.push (fresh led)).get? l = some { cls := .type "list", dict := odict, data := .seq items nl, slots := osl } := Heap.get?_push_of_some _ ho
  have b1 := PySem.F.sub_list_set
  have b2 := PySem.F.sub_list_frozenset
  have b3 : (Value.type "list" == Value.type "dict") = false := by decide
  have hl1 : (s.heap.push (fresh led)).IsList l items := ⟨_, ho1, rfl, nl, rfl⟩
  unfold Builtin.«set.__init__» noKeywords Builtin.Frozenset.updateFrom
  generalize hPI : pyIter = PI
  wp_walk
  subst hPI
  refine wpAny_pyIter_list hl1 ?_
  refine wpAny_bind (wpAny_runValue ?_)
  have lS : l < s.heap.objs.size := Heap.lt_size ho
  have h1 : A.in1.handled = none := by simp [hh]
  have sz : (s.heap.push (fresh led)).objs.size = s.heap.objs.size + 1 := Heap.size_push ..
  have nI : l ≠ (s.heap.push (fresh led)).objs.size := by
    rw [sz]
    exact Nat.ne_of_lt (Nat.lt_succ_of_lt lS)
  have nf : s.heap.objs.size ∉ [(s.heap.push (fresh led)).objs.size, l] := by
    rw [sz]
    intro q
    rcases List.mem_cons.mp q with q | q
    · exact absurd q (Nat.ne_of_lt (Nat.lt_succ_self _))
    · exact absurd (List.mem_singleton.mp q) (Nat.ne_of_gt lS)
  refine fill (knd := knd) ((Walks.list h1 _ l nI items).toS) nf ks hn hroom hval (items.size - 0) 0 _ rfl (Nat.zero_le _) ⟨⟨_, Heap.get?_push_size _ rfl, rfl, rfl⟩, hl1.push _⟩ ?_ ?_
  · have at2 : ((s.heap.push (fresh led)).push { cls := .type "list_iterator", data := .fields #[.ref l, .int 0 0] }).get? s.heap.objs.size = some (fresh led) := Heap.get?_push_of_some _ at1
    exact setOf_eq ((PyProof.Rows.setObjOf_fresh (knd := knd) led).setOf at2 (by unfold scanBound; omega)) (fun _ => by simp [inU, uniq]) (by simp [uniq])
  · intro s2 mv z
    obtain ⟨h2, g2, d2, t2, o2⟩ := s2
    obtain rfl : g2 = s.gens := mv.gens
    obtain rfl : d2 = s.drawn := mv.drawn
    obtain rfl : o2 = s.os := mv.os
    refine wpAny_pure (wpAny_pure ⟨rfl, h2, t2, rfl, ?_, fun b o e => ?_⟩)
    · rw [← hn, List.take_length] at z
      exact z
    · have bS : b < s.heap.objs.size := Heap.lt_size e
      refine mv.heap b o (fun q => ?_) (Heap.get?_push_of_some _ (Heap.get?_push_of_some _ e))
      rcases List.mem_cons.mp q with q | q
      · exact absurd q (Nat.ne_of_lt bS)
      · have q' := List.mem_singleton.mp q
        rw [sz] at q'
        exact absurd q' (Nat.ne_of_lt (Nat.lt_succ_of_lt bS))
/-- set.__init__ over a tuple -/
theorem init_tuple {l : Addr} {items : Array Value} {ks : List K} (led : Bool) (hh : A.handled = none) (hl : s.heap.IsTuple l items) (hn : ks.length = items.size) (hroom : items.size + 1 < scanBound)
    (hval : ∀ (i : Nat) (v : Value), items[i]? = some v → ∃ k, ks[i]? = some k ∧ knd.is k v = true ∧ v.scannable = true) :
    wpAny (model prog w) A (Builtin.«set.__init__» ⟨[.ref s.heap.objs.size, .ref l], []⟩) (fun r s2 => r = .done (.ret .none) ∧ Left knd s ks s2) E { s with heap := s.heap.push (fresh led) } := by
  have at1 : (s.heap.push (fresh led)).get? s.heap.objs.size = some (fresh led) := Heap.get?_push_size _ rfl
  have ty1 : Shared.TypeIs { s with heap := s.heap.push (fresh led) } (.ref s.heap.objs.size) "set" := ⟨_, at1, rfl⟩
  obtain ⟨⟨oc, odict, od, osl⟩, ho, hc, nl, hd⟩ := hl
  simp only at hc hd
  subst hc hd
  have ho1 : (s.heap.push (fresh led)).get? l = some { cls := .type "tuple", dict := odict, data := .seq items nl, slots := osl } := Heap.get?_push_of_some _ ho
  have b1 := PySem.F.sub_tuple_set
  have b2 := PySem.F.sub_tuple_frozenset
  have b3 : (Value.type "tuple" == Value.type "dict") = false := by decide
  have hl1 : (s.heap.push (fresh led)).IsTuple l items := ⟨_, ho1, rfl, nl, rfl⟩
  unfold Builtin.«set.__init__» noKeywords Builtin.Frozenset.updateFrom
  generalize hPI : pyIter = PI
  wp_walk
  subst hPI
  refine wpAny_pyIter_tuple hl1 ?_
  refine wpAny_bind (wpAny_runValue ?_)
  have lS : l < s.heap.objs.size := Heap.lt_size ho
  have h1 : A.in1.handled = none := by simp [hh]
  have sz : (s.heap.push (fresh led)).objs.size = s.heap.objs.size + 1 := Heap.size_push ..
  have nI : l ≠ (s.heap.push (fresh led)).objs.size := by
    rw [sz]
    exact Nat.ne_of_lt (Nat.lt_succ_of_lt lS)
  have nf : s.heap.objs.size ∉ [(s.heap.push (fresh led)).objs.size, l] := by
    rw [sz]
    intro q
    rcases List.mem_cons.mp q with q | q
    · exact absurd q (Nat.ne_of_lt (Nat.lt_succ_self _))
    · exact absurd (List.mem_singleton.mp q) (Nat.ne_of_gt lS)
  refine fill (knd := knd) ((Walks.tuple h1 _ l nI items).toS) nf ks hn hroom hval (items.size - 0) 0 _ rfl (Nat.zero_le _) ⟨⟨_, Heap.get?_push_size _ rfl, rfl, rfl⟩, hl1.push _⟩ ?_ ?_
  · have at2 : ((s.heap.push (fresh led)).push { cls := .type "tuple_iterator", data := .fields #[.ref l, .int 0 0] }).get? s.heap.objs.size = some (fresh led) := Heap.get?_push_of_some _ at1
    exact setOf_eq ((PyProof.Rows.setObjOf_fresh (knd := knd) led).setOf at2 (by unfold scanBound; omega)) (fun _ => by simp [inU, uniq]) (by simp [uniq])
  · intro s2 mv z
    obtain ⟨h2, g2, d2, t2, o2⟩ := s2
    obtain rfl : g2 = s.gens := mv.gens
    obtain rfl : d2 = s.drawn := mv.drawn
    obtain rfl : o2 = s.os := mv.os
    refine wpAny_pure (wpAny_pure ⟨rfl, h2, t2, rfl, ?_, fun b o e => ?_⟩)
    · rw [← hn, List.take_length] at z
      exact z
    · have bS : b < s.heap.objs.size := Heap.lt_size e
      refine mv.heap b o (fun q => ?_) (Heap.get?_push_of_some _ (Heap.get?_push_of_some _ e))
      rcases List.mem_cons.mp q with q | q
      · exact absurd q (Nat.ne_of_lt bS)
      · have q' := List.mem_singleton.mp q
        rw [sz] at q'
        exact absurd q' (Nat.ne_of_lt (Nat.lt_succ_of_lt bS))
end
end Km

set_option Elab.async false
set_option linter.all false
set_option maxRecDepth 100000
set_option maxHeartbeats 2000000
namespace L2
open PySem PySem.Spec PyProof.Rows
/-- set(x), x a list or a tuple of ints and texts -/
def rSetK (P : Program) (w : World) (K : PySem.W.Frag) : List V → Hp → VK → Prop := fun xs H Q => ∃ (l : Addr) (ks : List Key), xs = [.ref l] ∧ (SqL K H l (ks.map kV) ∨ SqT K H l (ks.map kV)) ∧ ks.length ≤ 1000 ∧
  ∀ p, H p = none → Q (.ref p) (upd H p (SetK P w p (Km.inU ks ks.length) (Km.uniq ks).length))
section
variable {X : Cx}
theorem km_keys_at {P : Program} {w : World} {ks : List Key} {its : List Value} (r : Vals (ks.map kV) its) (i : Nat) (v : Value) (h : its.toArray[i]? = some v) : ∃ k, ks[i]? = some k ∧ (mixKind P w).is k v = true ∧ v.scannable = true := by
  have h2 : its[i]? = some v := by simpa using h
  have hl : i < ks.length := by
    have e := r.length
    rw [List.length_map] at e
    rw [e]
    exact (List.getElem?_eq_some_iff.mp h2).1
  obtain ⟨u, hu, ru⟩ := r.get (i := i) (x := kV ks[i]) (by simp [hl])
  rw [h2] at hu
  cases hu
  exact ⟨ks[i], List.getElem?_eq_getElem hl, kV_is ru, key_scan ru⟩
theorem cr_setK (hc : X.calm = true) : CallR X (.type "set") (rSetK X.prog X.w X.K) := by
  intro pins s σ H xs us Q I r h
  obtain ⟨l, ks, rfl, hq, hroom, q⟩ := h
  rw [Vals.ref1 r]
  have hd := I.ok.hd hc
  have fin : ∀ s2, Km.Left (mixKind X.prog X.w) s ks s2 → EP X pins σ Q (.ref s.heap.objs.size) s2 := fun s2 ⟨h2, tk, e, z, k⟩ => by
    subst e
    exact ⟨.ref _, _, I.laid (t' := tk) k (Nat.le_refl _) (setK_new z), rfl, q _ (I.hok.fresh (Nat.le_refl _))⟩
  rcases hq with hq | hq
  · obtain ⟨its, rr, pl, hz⟩ := I.list hq
    have hn : ks.length = its.toArray.size := by rw [List.size_toArray, ← rr.length, List.length_map]
    exact Km.set_of_init (knd := mixKind X.prog X.w) (ks := ks) (fun led B hB => Km.init_list led (hB hd) pl.isList hn (by unfold scanBound; omega) (km_keys_at rr)) fin
  · obtain ⟨its, rr, pl, hz⟩ := I.tuple hq
    have hn : ks.length = its.toArray.size := by rw [List.size_toArray, ← rr.length, List.length_map]
    exact Km.set_of_init (knd := mixKind X.prog X.w) (ks := ks) (fun led B hB => Km.init_tuple led (hB hd) pl hn (by unfold scanBound; omega) (km_keys_at rr)) fin
/-- len(S) -/
def rLenK (P : Program) (w : World) : List V → Hp → VK → Prop := fun xs H Q => ∃ (a : Addr) (S : Key → Bool) (n : Nat), xs = [.ref a] ∧ H a = some (SetK P w a S n) ∧ n ≤ 1000 ∧ Q (.int n) H
theorem cr_lenK : CallR X (.builtin "len") (rLenK X.prog X.w) := by
  intro pins s σ H xs us Q I r h
  obtain ⟨a, S, n, rfl, ha, hn, q⟩ := h
  rw [Vals.ref1 r]
  obtain ⟨o, es, ep, t, ho, hex, hd, _, _, _, hf, hz⟩ := setK_get I ha
  refine call_len_set ho hex hd hf (by rw [hz]; omega) ⟨.int n, H, I.tok _, ⟨_, by rw [hz]⟩, q⟩
end
end L2
namespace L2
open PySem PySem.Spec PyProof.Rows
theorem same_new {H : Hp} {p : Addr} {o : HO} (h : H p = none) : Same H (upd H p o) := fun b x e => by
  rw [upd_ne (ne_of_none e h)]
  exact e
/-- a new object: from then on the heap is a letter -/
theorem newH {H : Hp} {p : Addr} {o : HO} (n : H p = none) {P : Hp → Prop} (h : ∀ H2, Same H H2 → H2 p = some o → P H2) : P (upd H p o) := h _ (same_new n) upd_same
section
variable {J : It} {n : Nat} {G : Hp → Prop}
/-- a comprehension without a test whose element keeps what was tracked -/
theorem lc_map {xs ys : List V} (w : Walk J n G (YAt xs)) (hy : ys.length = n) (hsz : n < sizeLine) {slot : Nat} {te : TE} {vs : List Nat} {σ : St} {H1 : Hp} {D : Addr} {Qd : Hp → Prop} (hD : H1 D = none)
    (hG : ∀ H, Same H1 H → G H) (hw : ∀ x, wipe ((wipe σ vs).set slot (some x)) vs = wipe σ vs)
    (hs : ∀ (i : Nat) (x y : V) (H : Hp) (Q : VK), xs[i]? = some x → ys[i]? = some y → Same H1 H → (∀ H4, Same H H4 → Q y H4) → te ((wipe σ vs).set slot (some x)) H Q)
    (hd : ∀ H, Same H1 H → H D = some (.lst ys) → Qd H) :
    ∃ W : Nat → Nat → Hp → Prop, (∃ m, W 0 m (upd H1 D (.lst []))) ∧ ∀ i m H, W i m H →
      (J.stop i H ∧ Qd H) ∨ (J.go i H ∧ ∃ Nx : Hp → Prop, (∀ H', Nx H' → ∃ m', m' < m ∧ W (i + 1) m' H') ∧ ∀ x H', J.yld i H x H' → gName slot x (wipe σ vs) H' fun σ2 H2 => wipe σ2 vs = wipe σ vs ∧ tYes σ2 H2 fun b H3 =>
        if b = true then te σ2 H3 fun y H4 => ∃ acc, H4 D = some (.lst acc) ∧ acc.length < sizeLine ∧ Nx (upd H4 D (.lst (acc ++ [y]))) else Nx H3) := by
  refine lc_it w (fun i H => Same H1 H ∧ H D = some (.lst (ys.take i))) ⟨same_new hD, upd_same⟩ (fun i H _ h => hG H h.1) (fun i x H H' hi h y => ?_) (fun H h => hd H h.1 (by rw [h.2, ← hy, List.take_length]))
  obtain ⟨s1, hl⟩ := h
  obtain ⟨rfl, hx⟩ := y
  have hyi : ys[i]? = some (ys[i]'(by omega)) := List.getElem?_eq_getElem (by omega)
  refine ⟨hw x, ?_⟩
  unfold tYes
  dsimp only
  rw [if_pos rfl]
  refine hs i x _ H' _ hx hyi s1 fun H4 s4 => ⟨ys.take i, s4 _ _ hl, ?_, ?_, ?_⟩
  · rw [List.length_take]
    omega
  · intro b o e
    rw [upd_ne (ne_of_none e hD)]
    exact s4 _ _ (s1 _ _ e)
  · rw [upd_same, List.take_add_one, hyi]
    rfl
end
section
variable {X : Cx} {CX : CXT} {k : Nat} {f C : Addr} {fd : FuncData} {ps : List Str} {sp : Sp} {E : St → XK} {x : Str} {p pos : Pos} {e : Expr} {es : List Expr} {t : TA}
/-- C(e, ..) where what its __init__ raises is wished for at the caller's slots -/
def tMakeS (C : Addr) (sp : Sp) (E : St → XK) (t : TA) : TE := fun σ H Q => t σ H fun vs H1 => ∀ x dx, H1 x = none → H1 dx = none → dx ≠ x → sp (.ref x :: vs) (upd (upd H1 dx (.own x)) x (.ins C dx [])) (fun v H2 => v = .non ∧ Q (.ref x) H2) (E σ)
theorem pe_makeS (M : Mk X.K C f) (F : FnOk X.prog X.w X.K X.mg X.base CX k f fd ps sp) (hr : Room (k + 1) X.A) (hg : Gl X x) (hm : X.mg x = some (.ref C)) (hb : Binds X.K fd ps []) (hx : ∀ σ, PassesAt CX X σ (E σ))
    (ha : PA X (e :: es) t) (hdb : (x == ("__debug__" : Str)) = false := by decide) (he : starEach (e :: es) X.env = (false, eval e X.env) :: starEach es X.env := by rfl) (hpl : (backTo pos (starEach es X.env)).any (·.1) = false := by rfl) :
    PE X (.Call (.Name x p) (e :: es) [] pos) (tMakeS C sp E t) := by
  constructor
  intro pins s σ H Q I h
  refine wpAny_Call_Name_kw (ld_glob I hg hm ?_ hdb)
  refine PySem.W.callWith_K (h₀ := X.base) I.ok.mod.kin M.kp (thn (ha.run pos pins s σ H _ I h) fun us s1 q0 => ?_) he hpl
  obtain ⟨vs, H1, I1, r, q⟩ := q0
  refine ⟨I1.kIn, ?_⟩
  have q1 := q (s1.heap.objs.size + 1) s1.heap.objs.size (I1.hok.fresh (Nat.le_succ _)) (I1.hok.fresh (Nat.le_refl _)) (Nat.ne_of_lt (Nat.lt_succ_self _))
  have I2 := Inv.made (C := C) I1
  have r2 : Vals (V.ref (s1.heap.objs.size + 1) :: vs) (Value.ref (s1.heap.objs.size + 1) :: us) := .cons rfl r
  have hl : (Value.ref (s1.heap.objs.size + 1) :: us).length = ps.length := by
    rw [← r2.length]
    exact F.len _ _ _ _ q1
  have b := hb _ (Value.ref (s1.heap.objs.size + 1) :: us) I2.kIn (by rw [List.append_nil]; exact hl)
  rw [List.append_nil] at b
  refine wpAny_call (make_map (f := f) I1.kIn M.makes M.init (beq_iff_eq.mp M.fn) (codeAny_mono (F.run _ X.stack _ _ ⟨_ :: us, []⟩ _ _ _ (E σ) (hr.make C us []) (I2.env0.make C us []) b r2 q1) fun z s2 hz => ?_))
  cases z with
  | error err => exact hx σ pins _ _ err s2 I2 hz
  | ok fl =>
    cases fl with
    | ret u =>
      obtain ⟨v, H3, I3, rv, ev, q3⟩ := I2.after hz
      subst ev
      exact ⟨rv, V.ref _, H3, I3, rfl, q3⟩
    | next => exact False.elim hz
    | brk => exact False.elim hz
    | cont => exact False.elim hz
end
/-- isinstance(e, c), e the exception that the suite holds, with its own dict or without -/
def rIsX (K : PySem.W.Frag) (D a : Addr) (cls : Value) (d : Option Addr) : List V → Hp → VK → Prop := fun xs H Q => ∃ (c : V) (cv : Value) (b : Bool), xs = [.ref a, c] ∧ (∀ u, RelV c u → u = cv) ∧ cls = .ref D ∧ (∀ dx, d = some dx → ∃ fs, H dx = some (.xd fs)) ∧ PySem.W.kitOne K (.ref D) cv = some b ∧ Q (.bl b) H
theorem call_isX {X : Cx} {a D : Addr} {oe : Obj} {cls : Value} {d : Option Addr} {pn : List (Addr × Obj)} (C : ExcC X.K D) (hz : Zc cls d oe) (hf : ∃ vs, oe.data = .fields vs) :
    CallR (X.suite a ((a, oe) :: pn)) (.builtin "isinstance") (rIsX X.K D a cls d) := by
  intro pins s σ H xs us Q I r h
  obtain ⟨c, cv, b, rfl, hcv, ecl, hd, e, q⟩ := h
  obtain ⟨u1, u2, rfl, r1, r2⟩ := vals2 r
  cases r1
  obtain rfl := hcv _ r2
  obtain ⟨hget, _⟩ := I.pin (a, oe) (List.mem_append.mpr (.inl List.mem_cons_self))
  obtain ⟨vs, hv⟩ := hf
  obtain ⟨h1, h2⟩ := hz
  have hcl : (PySem.W.clsIn X.K D).isSome = true := by
    obtain ⟨cd, hc, _⟩ := PySem.W.any_some C.hd
    rw [hc] <;> rfl
  have nc : PySem.W.notCls oe = true := by
    unfold PySem.W.notCls
    rw [hv] <;> rfl
  rw [ecl] at h1
  have J : ∃ od, PySem.W.InstAt s.heap a oe D od := by
    cases d with
    | none => exact ⟨none, hget, h1, nc, by rw [h2]; trivial⟩
    | some dx =>
      obtain ⟨fs, hx⟩ := hd dx rfl
      have z : ObjOk X.prog X.w H s.heap dx (.xd fs) := I.hok dx _ hx
      obtain ⟨mA, hns, _⟩ := z
      obtain ⟨od, ho, _⟩ := lookIn_ns hns
      exact ⟨some od, hget, h1, nc, by rw [h2]; exact ho⟩
  obtain ⟨od, J⟩ := J
  exact PySem.W.kia_one (PySem.W.kitx_exc hcl C.hg C.hk C.hs C.ha C.hn C.ht C.hm) I.kIn J e (fun z => nomatch z) fun tk => ⟨.bl b, H, I.kept (t' := tk) fun _ _ z => z, rfl, q⟩
end L2
namespace L2
open PySem PySem.Spec PyProof.Rows
section
variable {X : Cx} {e : Expr} {t : TE} {st : Stmt} {u : TS}
/-- an expression by a contract: ways meet -/
def tCut (P : St → Hp → V → Hp → Prop) (t : TE) : TE := fun σ H Q => t σ H (P σ H) ∧ ∀ v H', P σ H v H' → Q v H'
theorem pe_cut (P : St → Hp → V → Hp → Prop) (h : PE X e t) : PE X e (tCut P t) := ⟨fun pins s σ H Q I z => thn (h.run pins s σ H _ I z.1) fun _ _ q => by
  obtain ⟨x, H1, I1, r, p⟩ := q
  exact ⟨x, H1, I1, r, z.2 x H1 p⟩⟩
end
/-! the pool of the laws: two numbers -/
def Pool (H : Hp) (a : Addr) : Prop := ∃ g q : Int, H a = some (.lst [.int g, .int q]) ∧ 0 ≤ g ∧ 0 ≤ q ∧ q < 2147483647
/-- all but what stands at a is as it was -/
def But (a : Addr) (H H' : Hp) : Prop := ∀ b o, b ≠ a → H b = some o → H' b = some o
theorem But.of_same {a : Addr} {H H' : Hp} (s : Same H H') : But a H H' := fun b o _ e => s b o e
theorem But.upd {a : Addr} {H : Hp} {o : HO} : But a H (upd H a o) := fun b _ n e => by
  rw [upd_ne n]
  exact e
theorem But.trans {a : Addr} {H H1 H2 : Hp} (x : But a H H1) (y : But a H1 H2) : But a H H2 := fun b o n e => y b o n (x b o n e)
theorem But.same {a : Addr} {H H1 : Hp} (x : But a H H1) (n : H a = none) : Same H H1 := fun b o e => x b o (ne_of_none e n) e
theorem perm_pop {α : Type} : ∀ {l : List α} {k : Nat} {y : α}, l[k]? = some y → (y :: l.eraseIdx k).Perm l
  | [], _, _, h => by simp at h
  | a :: l, 0, y, h => by
    have e : a = y := Option.some.inj h
    rw [e]
    exact .refl _
  | a :: l, k + 1, y, h => (List.Perm.swap a y _).trans ((perm_pop (l := l) h).cons a)
theorem eraseIdx_map {α β : Type} (f : α → β) : ∀ (l : List α) (k : Nat), (l.map f).eraseIdx k = (l.eraseIdx k).map f
  | [], _ => rfl
  | _ :: _, 0 => rfl
  | a :: l, k + 1 => congrArg (f a :: ·) (eraseIdx_map f l k)
def names8 : List Str := ["ann", "bo", "cy", "dee", "eve", "fay", "gus", "z"]
theorem names8_nd : names8.Nodup := by decide +kernel
def spOpened (K : PySem.W.Frag) : Sp := fun vs H Q _ => ∃ (a : Addr) (ns : List Int) (k : Nat), vs = [.ref a, .int k] ∧ SqL K H a (ns.map V.int) ∧ k ≤ 62 ∧
  ∀ H' p, Same H H' → H p = none → Pool H' p → Q (.ref p) H'
def spDraw : Sp := fun vs H Q _ => ∃ (a : Addr) (m : Int), vs = [.ref a, .int m] ∧ Pool H a ∧ 1 ≤ m ∧ m ≤ 1000 ∧ ∀ (r : Int) H', 0 ≤ r → r < m → Pool H' a → But a H H' → Q (.int r) H'
def spPeople : Sp := fun vs H Q _ => ∃ (a : Addr) (m : Nat), vs = [.ref a, .int m] ∧ Pool H a ∧ m ≤ 8 ∧
  ∀ H' p (xs : List Str), Pool H' a → But a H H' → H p = none → H' p = some (.lst (xs.map V.str)) → xs.length = m → xs.Nodup → (∀ x ∈ xs, x ∈ names8) → Q (.ref p) H'
end L2
namespace L2
open PySem PySem.Spec PyProof.Rows
/-! types of any values -/
def knownT : List String := ["NoneType", "bool", "int", "str", "list", "tuple", "dict"]
def TyN (K : PySem.W.Frag) (H : Hp) (v : V) (T : String) : Prop := TyX K H v (.type T) ∧ T ∈ knownT
section
variable {K : PySem.W.Frag} {H H' : Hp} {v : V} {T : String}
theorem TyX.same {t : Value} (s : Same H H') (h : TyX K H v t) : TyX K H' v t := by
  cases h with
  | base b =>
    refine .base ?_
    cases b with
    | non => exact .non
    | bl x => exact .bl x
    | int i => exact .int i
    | str x => exact .str x
    | flt x => exact .flt x
    | lst e => exact .lst (s _ _ e)
    | frz e => exact .frz (s _ _ e)
    | tup e => exact .tup (s _ _ e)
    | dK e => exact .dK (s _ _ e)
    | dT e => exact .dT (s _ _ e)
    | ins e cl ha hn htk hm => exact .ins (s _ _ e) cl ha hn htk hm
  | byt b => exact .byt b
  | set e => exact .set (s _ _ e)
  | kList e c => exact .kList e c
  | kTuple e c => exact .kTuple e c
  | kDict e c => exact .kDict e c
  | fTuple e => exact .fTuple (s _ _ e)
  | fDict e => exact .fDict (s _ _ e)
theorem TyN.same (s : Same H H') (h : TyN K H v T) : TyN K H' v T := ⟨TyX.same s h.1, h.2⟩
theorem kit_str (h : T ∈ knownT) : kitB T "str" = some (decide (T = "str")) := by
  simp only [knownT, List.mem_cons, List.not_mem_nil, or_false] at h
  rcases h with rfl | rfl | rfl | rfl | rfl | rfl | rfl <;> decide +kernel
theorem kit_bool (h : T ∈ knownT) : kitB T "bool" = some (decide (T = "bool")) := by
  simp only [knownT, List.mem_cons, List.not_mem_nil, or_false] at h
  rcases h with rfl | rfl | rfl | rfl | rfl | rfl | rfl <;> decide +kernel
theorem kit_int (h : T ∈ knownT) : kitB T "int" = some (decide (T = "int") || decide (T = "bool")) := by
  simp only [knownT, List.mem_cons, List.not_mem_nil, or_false] at h
  rcases h with rfl | rfl | rfl | rfl | rfl | rfl | rfl <;> decide +kernel
theorem kit_list (h : T ∈ knownT) : kitB T "list" = some (decide (T = "list")) := by
  simp only [knownT, List.mem_cons, List.not_mem_nil, or_false] at h
  rcases h with rfl | rfl | rfl | rfl | rfl | rfl | rfl <;> decide +kernel
theorem kit_tuple (h : T ∈ knownT) : kitB T "tuple" = some (decide (T = "tuple")) := by
  simp only [knownT, List.mem_cons, List.not_mem_nil, or_false] at h
  rcases h with rfl | rfl | rfl | rfl | rfl | rfl | rfl <;> decide +kernel
theorem kit_listTuple (h : T ∈ knownT) : PySem.W.kitAny K (.type T) [.type "list", .type "tuple"] = some (decide (T = "list") || decide (T = "tuple")) := by
  refine kitAny_cons (kit_ty (kit_list h)) (fun e => ?_) fun e => ?_
  · rw [e, Bool.false_or]
    exact kitAny_cons (kit_ty (kit_tuple h)) (fun e => by rw [e]; exact kitAny_nil) fun e => e
  · rw [e]
    rfl
theorem ty_str' {t : Value} (h : TyX K H v t) (e : t = .type "str") : ∃ z, v = .str z := by
  cases h with
  | base b =>
    cases b with
    | str x => exact ⟨x, rfl⟩
    | ins e2 cl ha hn htk hm => cases e
    | _ =>
      injection e with e
      exact absurd e (by decide)
  | _ =>
    injection e with e
    exact absurd e (by decide)
theorem ty_str (h : TyX K H v (.type "str")) : ∃ z, v = .str z := ty_str' h rfl
theorem ty_int' {t : Value} (h : TyX K H v t) (e : t = .type "int") : ∃ z, v = .int z := by
  cases h with
  | base b =>
    cases b with
    | int x => exact ⟨x, rfl⟩
    | ins e2 cl ha hn htk hm => cases e
    | _ =>
      injection e with e
      exact absurd e (by decide)
  | _ =>
    injection e with e
    exact absurd e (by decide)
theorem ty_int (h : TyX K H v (.type "int")) : ∃ z, v = .int z := ty_int' h rfl
theorem str_ty {z : Str} (h : TyX K H (.str z) (.type T)) : T = "str" := by
  cases h with
  | base b => cases b with
    | str x => rfl
theorem int_ty {i : Int} (h : TyX K H (.int i) (.type T)) : T = "int" := by
  cases h with
  | base b => cases b with
    | int x => rfl
end
/-! words -/
def letters : Str := "abcdefghijklmnopqrstuvwxyz"
def wordB (z : Str) : Bool := (decide (1 ≤ z.length) && decide (z.length ≤ 8)) && z.cps.toList.all fun c => decide (c ∈ letters.cps.toList)
def isW : V → Bool
  | .str z => wordB z
  | _ => false
def peopleB (xs : List V) : Bool := (decide (1 ≤ xs.length) && decide (xs.length ≤ 8)) && (xs.all isW && decide xs.Nodup)
def markB (lo hi : Int) : V → Bool
  | .int i => decide (lo ≤ i) && decide (i ≤ hi)
  | _ => false
/-- an item that may stand in what is given for people -/
def ItemOk (K : PySem.W.Frag) (H : Hp) (x : V) : Prop := (∃ T, TyN K H x T) ∧ ∀ z, x = .str z → z.length ≤ 1000
theorem ItemOk.same {K : PySem.W.Frag} {H H' : Hp} {x : V} (s : Same H H') (h : ItemOk K H x) : ItemOk K H' x := by
  obtain ⟨⟨T, t⟩, z⟩ := h
  exact ⟨⟨T, t.same s⟩, z⟩
/-- any value given for people: whether it is people, and its items -/
inductive ArgP (K : PySem.W.Frag) (H : Hp) : V → Bool → List V → Prop where
  | no {v : V} {T : String} (t : TyN K H v T) (h1 : T ≠ "list") (h2 : T ≠ "tuple") : ArgP K H v false []
  | lst {a : Addr} {xs : List V} (e : H a = some (.lst xs)) (h : ∀ x ∈ xs, ItemOk K H x) (hl : xs.length ≤ 1000) : ArgP K H (.ref a) (peopleB xs) xs
  | tup {a : Addr} {xs : List V} (e : H a = some (.tup xs)) (h : ∀ x ∈ xs, ItemOk K H x) (hl : xs.length ≤ 1000) : ArgP K H (.ref a) (peopleB xs) xs
theorem ArgP.same {K : PySem.W.Frag} {H H' : Hp} {v : V} {b : Bool} {xs : List V} (s : Same H H') (h : ArgP K H v b xs) : ArgP K H' v b xs := by
  cases h with
  | no t h1 h2 => exact .no (t.same s) h1 h2
  | lst e h hl => exact .lst (s _ _ e) (fun x hx => (h x hx).same s) hl
  | tup e h hl => exact .tup (s _ _ e) (fun x hx => (h x hx).same s) hl
def spIsInteger (K : PySem.W.Frag) : Sp := fun vs H Q _ => ∃ (v : V) (T : String), vs = [v] ∧ TyN K H v T ∧ Q (.bl (decide (T = "int"))) H
def spWithin (K : PySem.W.Frag) : Sp := fun vs H Q _ => ∃ (v : V) (lo hi : Int), vs = [v, .int lo, .int hi] ∧ (∃ T, TyN K H v T) ∧ Q (.bl (markB lo hi v)) H
def spIsWord (K : PySem.W.Frag) : Sp := fun vs H Q _ => ∃ v : V, vs = [v] ∧ ItemOk K H v ∧ ∀ H', Same H H' → Q (.bl (isW v)) H'
def spArePeople (K : PySem.W.Frag) : Sp := fun vs H Q _ => ∃ (v : V) (b : Bool) (xs : List V), vs = [v] ∧ ArgP K H v b xs ∧ ∀ H', Same H H' → Q (.bl b) H'
end L2
namespace L2
open PySem PySem.Spec PyProof.Rows
def kmSigns (z : Str) : List V := z.cps.toList.map fun c => V.str ⟨#[c]⟩
theorem walk_kmSigns {z : Str} : Walk (Its z) (kmSigns z).length (fun _ => True) (YAt (kmSigns z)) := by
  have e : (kmSigns z).length = z.cps.size := by
    unfold kmSigns
    rw [List.length_map, Array.length_toList]
  rw [e]
  refine walk_str.mono (fun _ h => h) fun i H x H' _ _ y => ?_
  obtain ⟨h, c, hc, hx⟩ := y
  refine ⟨h, ?_⟩
  unfold kmSigns
  rw [List.getElem?_map, Array.getElem?_toList, hc, hx]
  rfl
theorem all_bl (bs : List Bool) : (bs.map V.bl).length = bs.length := List.length_map ..
end L2
namespace L2
open PySem PySem.Spec PyProof.Rows
/-! an own error with one field -/
structure Er (K : PySem.W.Frag) (mg : Str → Option Value) (x : Str) (C : Addr) : Prop where
  g : mg x = some (.ref C)
  ox : OexC K C
  xf : XfC K C
  ec : ExcC K C
  exm : PySem.W.exmOne K (.ref C) (.ref C) = some true
def spErrInit (K : PySem.W.Frag) (C : Addr) (f : Str) : Sp := fun vs H Q _ => ∃ (a : Addr) (v : V), vs = [.ref a, v] ∧ OexC K C ∧ PySem.W.findIn K (.ref C) f = some none ∧ H a = some (exo a C none) ∧
  ∀ d, H d = none → d ≠ a → Q .non (upd (upd H d (exd d [(f, v)])) a (exo a C (some d)))
/-- what a raise of such an error leaves -/
def Raised (H H' : Hp) (d : Addr) (f : Str) (v : V) : Prop := Same H H' ∧ H d = none ∧ H' d = some (.xd [(f, v)])
theorem raised_mk {H : Hp} {a d C : Addr} {f : Str} {v : V} (na : H a = none) (nd : H d = none) (nda : d ≠ a) :
    Raised H (upd (del (upd (upd (upd H a (exo a C none)) d (exd d [(f, v)])) a (exo a C (some d))) a) d (.xd [(f, v)])) d f v := by
  refine ⟨fun b o e => ?_, nd, upd_same⟩
  rw [upd_ne (ne_of_none e nd), del_ne (ne_of_none e na), upd_ne (ne_of_none e na), upd_ne (ne_of_none e nd), upd_ne (ne_of_none e na)]
  exact e
theorem strs_of_isW : ∀ {xs : List V}, xs.all isW = true → ∃ zs : List Str, xs = zs.map V.str
  | [], _ => ⟨[], rfl⟩
  | x :: xs, h => by
    rw [List.all_cons, Bool.and_eq_true] at h
    obtain ⟨zs, rfl⟩ := strs_of_isW h.2
    cases x with
    | str z => exact ⟨z :: zs, rfl⟩
    | _ => cases h.1
theorem keys_of_strs (zs : List Str) : zs.map V.str = (zs.map (Sum.inr : Str → Key)).map kV := by
  rw [List.map_map]
  rfl
theorem nodup_map_inj {α β : Type} {f : α → β} (hf : ∀ a b, f a = f b → a = b) {l : List α} : (l.map f).Nodup ↔ l.Nodup := by
  induction l with
  | nil => simp
  | cons a l ih =>
    rw [List.map_cons, List.nodup_cons, List.nodup_cons, ih, List.mem_map]
    constructor
    · rintro ⟨h1, h2⟩
      exact ⟨fun h => h1 ⟨a, h, rfl⟩, h2⟩
    · rintro ⟨h1, h2⟩
      exact ⟨fun ⟨b, hb, e⟩ => h1 (hf _ _ e ▸ hb), h2⟩
theorem uniq_strs (zs : List Str) : decide (V.int ((Km.uniq (zs.map (Sum.inr : Str → Key))).length : Nat) = V.int ((zs.map V.str).length : Nat)) = decide (zs.map V.str).Nodup := by
  refine decide_eq_decide.mpr ?_
  have h1 := Km.uniq_full (zs.map (Sum.inr : Str → Key))
  rw [nodup_map_inj (f := (Sum.inr : Str → Key)) (fun _ _ e => Sum.inr.inj e), List.length_map] at h1
  rw [nodup_map_inj (f := V.str) (fun _ _ e => V.str.inj e), ← h1, List.length_map]
  constructor
  · intro e
    have := V.int.inj e
    omega
  · intro e
    rw [e]
end L2
namespace L2
open PySem PySem.Spec PyProof.Rows
/-- what a crowd's instance holds -/
def crowdFs (p : Addr) (m : Int) : List (Str × V) := [("_people", V.ref p), ("most", V.int m)]
def CrowdAt (H : Hp) (C x : Addr) (xs : List V) (m : Int) : Prop := ∃ dx p, H x = some (.ins C dx (crowdFs p m)) ∧ H p = some (.lst xs)
theorem CrowdAt.same {H H' : Hp} {C x : Addr} {xs : List V} {m : Int} (s : Same H H') (h : CrowdAt H C x xs m) : CrowdAt H' C x xs m := by
  obtain ⟨dx, p, h1, h2⟩ := h
  exact ⟨dx, p, s _ _ h1, s _ _ h2⟩
def spCrowdInit (K : PySem.W.Frag) (C CB : Addr) : Sp := fun vs H Q E => ∃ (x dx : Addr) (v m : V) (b : Bool) (xs : List V), vs = [.ref x, v, m] ∧ H x = some (.ins C dx []) ∧ ArgP K H v b xs ∧ (∃ T, TyN K H m T) ∧
  (b = false → ∀ H' d, Raised H H' d "part" (.str "people") → E (.ref CB) (some d) H') ∧
  (b = true → markB 1 10 m = false → ∀ H' d, Raised H H' d "part" (.str "most") → E (.ref CB) (some d) H') ∧
  (b = true → ∀ i, m = .int i → markB 1 10 m = true → ∀ H', But x H H' → CrowdAt H' C x xs i → Q .non H')
theorem putF_new {f : Str} {v : V} : putF f v [] = [(f, v)] := rfl
theorem crowd_put {p : Addr} {m : Int} : putF "most" (.int m) [(("_people" : Str), V.ref p)] = crowdFs p m := by
  show (if (("_people" : Str)) = "most" then _ else _) = _
  rw [if_neg (by decide +kernel)]
  rfl
end L2
namespace L2
open PySem PySem.Spec PyProof.Rows
theorem ArgP.seq {K : PySem.W.Frag} {H : Hp} {v : V} {b : Bool} {xs : List V} (h : ArgP K H v b xs) (e : b = true) : ∃ l, v = .ref l ∧ (SqL K H l xs ∨ SqT K H l xs) := by
  cases h with
  | no t h1 h2 => cases e
  | lst e1 h hl => exact ⟨_, rfl, .inl (SqL.of e1)⟩
  | tup e1 h hl => exact ⟨_, rfl, .inr (SqT.of e1)⟩
/-- what the law's own look at a making tells: taken, or the part -/
def toldP (b m : Bool) : Option Str := if b = false then some "people" else if m = false then some "most" else none
def spTold (K : PySem.W.Frag) : Sp := fun vs H Q _ => ∃ (v m : V) (b : Bool) (xs : List V), vs = [v, m] ∧ ArgP K H v b xs ∧ (∃ T, TyN K H m T) ∧
  (∀ H' p z, toldP b (markB 1 10 m) = some z → Same H H' → H' p = some (.lst [.str z, .bl true]) → Q (.ref p) H') ∧
  (toldP b (markB 1 10 m) = none → ∀ H', Same H H' → Q (.str "taken") H')
end L2
namespace L2
open PySem PySem.Spec PyProof.Rows
theorem rng_le (l c : Int) (hc : 1 ≤ c) : 1 ≤ (if (if c < l then c else l) > 1 then (if c < l then c else l) else (1 : Int)) ∧ (if (if c < l then c else l) > 1 then (if c < l then c else l) else (1 : Int)) ≤ c := by
  by_cases h : c < l
  · rw [if_pos h]
    split <;> omega
  · rw [if_neg h]
    split <;> omega
theorem names8_ok : ∀ z ∈ names8, wordB z = true ∧ z.length ≤ 8 := by decide +kernel
abbrev BadP (K : PySem.W.Frag) (H : Hp) (v : V) : Prop := ∃ xs, ArgP K H v false xs
theorem BadP.same {K : PySem.W.Frag} {H H' : Hp} {v : V} (s : Same H H') (h : BadP K H v) : BadP K H' v := by
  obtain ⟨xs, h⟩ := h
  exact ⟨xs, h.same s⟩
theorem ArgP.lst' {K : PySem.W.Frag} {H : Hp} {a : Addr} {xs : List V} {b : Bool} (e : H a = some (.lst xs)) (h : ∀ x ∈ xs, ItemOk K H x) (hl : xs.length ≤ 1000) (hb : peopleB xs = b) : ArgP K H (.ref a) b xs := by
  subst hb
  exact .lst e h hl
theorem ArgP.tup' {K : PySem.W.Frag} {H : Hp} {a : Addr} {xs : List V} {b : Bool} (e : H a = some (.tup xs)) (h : ∀ x ∈ xs, ItemOk K H x) (hl : xs.length ≤ 1000) (hb : peopleB xs = b) : ArgP K H (.ref a) b xs := by
  subst hb
  exact .tup e h hl
section
variable {K : PySem.W.Frag} {H : Hp}
theorem item_str {z : Str} (h : z.length ≤ 1000) : ItemOk K H (.str z) := ⟨⟨"str", .base (.str z), by decide⟩, fun y e => by
  rw [← V.str.inj e]
  exact h⟩
theorem item_non : ItemOk K H .non := ⟨⟨"NoneType", .base .non, by decide⟩, fun y e => by cases e⟩
theorem item_int {i : Int} : ItemOk K H (.int i) := ⟨⟨"int", .base (.int i), by decide⟩, fun y e => by cases e⟩
theorem item_bl {i : Bool} : ItemOk K H (.bl i) := ⟨⟨"bool", .base (.bl i), by decide⟩, fun y e => by cases e⟩
theorem item_lst {a : Addr} {xs : List V} (h : H a = some (.lst xs)) : ItemOk K H (.ref a) := ⟨⟨"list", .base (.lst h), by decide⟩, fun y e => by cases e⟩
/-- people as the laws draw them -/
structure Drawn8 (zs : List Str) : Prop where
  nd : zs.Nodup
  mem : ∀ z ∈ zs, z ∈ names8
theorem Drawn8.items {zs : List Str} (d : Drawn8 zs) : ∀ x ∈ zs.map V.str, ItemOk K H x := by
  intro x hx
  obtain ⟨z, hz, rfl⟩ := List.mem_map.mp hx
  exact item_str (Nat.le_trans (names8_ok z (d.mem z hz)).2 (by decide))
theorem Drawn8.allW {zs : List Str} (d : Drawn8 zs) : (zs.map V.str).all isW = true := by
  rw [List.all_eq_true]
  intro x hx
  obtain ⟨z, hz, rfl⟩ := List.mem_map.mp hx
  exact (names8_ok z (d.mem z hz)).1
theorem Drawn8.people {zs : List Str} (d : Drawn8 zs) (h1 : 1 ≤ zs.length) (h2 : zs.length ≤ 8) : peopleB (zs.map V.str) = true := by
  show ((decide (1 ≤ (zs.map V.str).length) && decide ((zs.map V.str).length ≤ 8)) && ((zs.map V.str).all isW && decide (zs.map V.str).Nodup)) = true
  rw [d.allW, List.length_map, decide_eq_true h1, decide_eq_true h2, decide_eq_true ((nodup_map_inj (f := V.str) (fun _ _ e => V.str.inj e)).mpr d.nd)]
  rfl
theorem not_people_of_isW {xs : List V} {y : V} (h : isW y = false) : peopleB (xs ++ [y]) = false := by
  show (_ && ((xs ++ [y]).all isW && _)) = false
  rw [List.all_append, List.all_cons, h, Bool.false_and, Bool.and_false, Bool.false_and, Bool.and_false]
theorem not_people_of_twice {x : V} {xs : List V} : peopleB ((x :: xs) ++ [x]) = false := by
  show (_ && (_ && decide ((x :: xs) ++ [x]).Nodup)) = false
  have : ¬ ((x :: xs) ++ [x]).Nodup := fun h => by
    rw [List.cons_append, List.nodup_cons] at h
    exact h.1 (List.mem_append_right _ (List.mem_singleton.mpr rfl))
  rw [decide_eq_false this, Bool.and_false, Bool.and_false]
theorem bad_append {a : Addr} {xs : List V} {y : V} (e : H a = some (.lst (xs ++ [y]))) (hx : ∀ x ∈ xs, ItemOk K H x) (hl : xs.length ≤ 8) (hy : ItemOk K H y) (h : isW y = false) : BadP K H (.ref a) :=
  ⟨_, .lst' e (fun x hm => by
    rcases List.mem_append.mp hm with hm | hm
    · exact hx x hm
    · rw [List.mem_singleton.mp hm]
      exact hy) (by rw [List.length_append, List.length_singleton]; omega) (not_people_of_isW h)⟩
end
section
variable {σ : St} {H : Hp} {Q : VK}
/-- l + [e] -/
theorem rd_cat1 {i : Nat} {l : Addr} {xs : List V} {te : TE} (y : V) (h : σ[i]? = some (some (.ref l))) (hl : H l = some (.lst xs)) (hx : xs.length ≤ 8)
    (hte : ∀ Q' : VK, (∀ H1, Same H H1 → Q' y H1) → te σ H Q') (k : ∀ H' p, Same H H' → H' p = some (.lst (xs ++ [y])) → Q (.ref p) H') : tOp rCat (tVar i) (tLst (tCons te tNil)) σ H Q := by
  refine ⟨_, h, hte _ fun H1 s1 => ⟨(by show 1 ≤ sizeLine; decide), fun b nb => ⟨l, b, xs, [y], rfl, rfl, same_new nb _ _ (s1 _ _ hl), upd_same, ?_, fun p np => ?_⟩⟩⟩
  · rw [List.length_singleton]
    exact Nat.le_of_lt (small1000 (by omega))
  · exact k _ p ((s1.trans (same_new nb)).trans (same_new np)) upd_same
theorem dp_told {K : PySem.W.Frag} {p : Addr} {z : Str} (h : H p = some (.lst [.str z, .bl true])) : Dp K H (.ref p) (.list [.str z, .bool true]) := .lst (SqL.of h) (.cons (.str z) (.cons (.bl true) .nil))
end
end L2
namespace L2
open PySem PySem.Spec PyProof.Rows
theorem shaped_taken : SeqAt.shaped (.str "taken") = true := by decide +kernel
theorem eqv_taken : PyData.eqv (.str "taken") (.str "taken") = true := by decide +kernel
theorem shaped_people : SeqAt.shaped (.list [.str "people", .bool true]) = true := by decide +kernel
theorem shaped_most : SeqAt.shaped (.list [.str "most", .bool true]) = true := by decide +kernel
theorem eqv_people : PyData.eqv (.list [.str "people", .bool true]) (.list [.str "people", .bool true]) = true := by decide +kernel
theorem eqv_most : PyData.eqv (.list [.str "most", .bool true]) (.list [.str "most", .bool true]) = true := by decide +kernel
end L2
namespace L2
open PySem PySem.Spec PyProof.Rows
theorem toldP_most {m : Bool} (h : m = false) : toldP true m = some "most" := by
  rw [h]
  rfl
theorem toldP_taken {m : Bool} (h : m = true) : toldP true m = none := by
  rw [h]
  rfl
end L2

set_option Elab.async false
set_option linter.all false
set_option maxRecDepth 100000
set_option maxHeartbeats 4000000
/-! Own errors over any built-in base, with an own __init__ that stores: made as values or raised, their fields. -/
namespace L2
open PySem PySem.Spec PyProof.Rows
structure EcC (K : PySem.W.Frag) (C : Addr) : Prop where
  base : ∃ (B newId initId : String) (bmB : List Value), PySem.ExcBaseFacts B newId initId bmB ∧ PySem.StoreFacts B bmB "object.__setattr__" "object" ∧ PySem.W.excInitIn K C bmB newId = true ∧ PySem.W.excOver K C bmB = true
  sa : PySem.W.findIn K (.ref C) "__setattr__" = some (some (.builtin "object.__setattr__"))
  hd : PySem.W.hasDictIn K C = true
  exC : PySem.W.subIn K (.ref C) (.type "BaseException") = some true
  tyC : PySem.W.typeIn K (.ref C) = some (.type "type")
  kC : PySem.W.keepIn K (.ref C) = true
section
variable {X : Cx} {pins : List (Addr × Obj)} {σ : St} {H : Hp} {s : Shared} {a C : Addr} {f : Str} {y : V} {u : Value} {Q : Unit → Shared → Prop} {E : Value → Shared → Prop} {A : Around}
/-- self.f = y, the first field -/
theorem ec_store (T : EcC X.K C) (I : Inv X pins σ H s) (e : H a = some (exo a C none)) (hno : PySem.W.findIn X.K (.ref C) f = some none) (ry : RelV y u)
    (h : ∀ dx s', H dx = none → dx ≠ a → Inv X pins σ (upd (upd H dx (exd dx [(f, y)])) a (exo a C (some dx))) s' → Q () s') : wpAny (model X.prog X.w) A (setAttr (.ref a) f u) Q E s := by
  obtain ⟨B, newId, initId, bmB, FB, SF, hin, hov⟩ := T.base
  obtain ⟨t1, ho⟩ := exo_at I.hok e
  obtain ⟨hp, g, d, t, os⟩ := s
  have J0 : PySem.W.InstAt hp a { cls := .ref C, dict := none, data := .fields #[.ref t1, .none, .none, .none, .bool false, .none] } C none := ⟨ho, rfl, rfl, trivial⟩
  have tk : PySem.W.takerIn X.K C f = some none := by
    unfold PySem.W.takerIn
    rw [hno]
    rfl
  have lt : a < hp.objs.size := Heap.lt_size ho
  refine PySem.W.set_plain I.kIn J0 T.sa ?_
  refine PySem.W.osa_openX SF I.kIn J0 hov tk fun b => ?_
  obtain ⟨cd, hcd, hhd⟩ := PySem.W.any_some T.hd
  have L := PySem.W.looks_clsIn (M := model X.prog X.w) I.kIn hcd
  show wpAny _ _ (Builtin.ObjectAttr.storeInOwnDict (.ref a) (.ref C) (.str f _) f u b) _ _ _
  unfold Builtin.ObjectAttr.storeInOwnDict Builtin.ObjectAttr.ownDictForStores
  obtain ⟨cnm, cbs, cmro, cns, cqn, chd, csn, csb, cab, ccol, cdel⟩ := cd
  dsimp only at hhd
  subst hhd
  have xs : a ≠ hp.objs.size := Nat.ne_of_lt lt
  repeat (first
    | with_reducible refine PySem.HandSPX.store_in_new ?_ ?_
    | with_reducible refine wpAny_loadPart_at ho ?_
    | with_reducible refine L.at ?_
    | wp_step)
  · exact ⟨_, #[], _, (Heap.get?_update_ne _ _ _ _ xs.symm).trans (Heap.get?_push_at rfl rfl), rfl, fun e he => absurd he (by simp), fun _ => rfl⟩
  intro h' tk' hn hsb
  have old : ∀ b o, b ≠ a → hp.get? b = some o → h'.get? b = some o := fun b o nb q => by
    rw [hsb.2 b (Nat.ne_of_lt (Heap.lt_size q)), Heap.get?_update_ne _ _ _ _ nb]
    exact Heap.get?_push_of_some _ q
  have own : h'.get? a = some { cls := .ref C, dict := some hp.objs.size, data := .fields #[.ref t1, .none, .none, .none, .bool false, .none] } := by
    rw [hsb.2 a xs]
    exact Heap.get?_update_self _ (Heap.get?_push_of_some _ ho) rfl
  have nd : H hp.objs.size = none := I.hok.fresh (Nat.le_refl _)
  have lts : ∀ {b o}, hp.get? b = some o → b ≠ hp.objs.size := fun q => Nat.ne_of_lt (Heap.lt_size q)
  have free1 : ∀ {b}, H b = none → b ≠ a := fun n z => by
    rw [z, e] at n
    cases n
  have un : Un X.fs [] H (upd (upd H hp.objs.size (exd hp.objs.size [(f, y)])) a (exo a C (some hp.objs.size))) hp h' := by
    refine ⟨fun b o q n _ _ => old b o (free1 n) q, fun b o q n _ _ => ⟨o.slots, old b o (free1 n) q⟩, fun b o q n _ => ?_, fun b o q _ => ?_, fun b xs q => ?_, fun b o v q => ?_, fun b ps q => ?_⟩
    · rw [upd_ne (free1 n), upd_ne (lts q)]
      exact n
    · by_cases z : b = a
      · rw [z]
        exact ⟨_, own⟩
      · exact ⟨o, old b o z q⟩
    · rw [upd_ne (at_ne e q exo_tup), upd_ne (ne_of_none q nd)]
      exact q
    · rw [upd_ne (at_ne e q exo_frz), upd_ne (ne_of_none q nd)]
      exact q
    · refine ⟨#[], ?_⟩
      rw [upd_ne (at_ne e q exo_tbl), upd_ne (ne_of_none q nd), q]
      simp
  refine h hp.objs.size _ nd xs.symm (I.un (t' := tk') un fun b o q => ?_)
  by_cases z : b = a
  · rw [z, upd_same] at q
    rw [z, ← Option.some.inj q]
    exact exo_ok own
  · rw [upd_ne z] at q
    by_cases z2 : b = hp.objs.size
    · rw [z2, upd_same] at q
      rw [z2, ← Option.some.inj q]
      exact exd_ok hn (relO_put (fs := []) ry fun _ => trivial)
    · rw [upd_ne z2] at q
      refine (I.hok b o q).stay (fun c v hc k => old c v ?_ k) (fun c hc => ?_) fun c xs hc => ?_
      · rcases hc with hc | hc
        · rw [hc]
          exact z
        · exact at_ne e hc exo_own
      · rw [upd_ne (at_ne e hc exo_own), upd_ne (ne_of_none hc nd)]
        exact hc
      · rw [upd_ne (at_ne e hc exo_tup), upd_ne (ne_of_none hc nd)]
        exact hc
end
end L2
namespace L2
open PySem PySem.Spec PyProof.Rows
/-- self.f = e in an error's own __init__ -/
def tEcS (K : PySem.W.Frag) (f : Str) (to te : TE) : TS := fun D σ H => te σ H fun y H1 => to σ H1 fun x H2 => ∃ a C : Addr, x = .ref a ∧ EcC K C ∧ PySem.W.findIn K (.ref C) f = some none ∧ H2 a = some (exo a C none) ∧
  ∀ dx, H2 dx = none → dx ≠ a → D.nx σ (upd (upd H2 dx (exd dx [(f, y)])) a (exo a C (some dx)))
section
variable {X : Cx} {o e : Expr} {es : List Expr} {to te : TE} {ta : TA} {f : Str} {p p' pos : Pos}
theorem ps_ec (ho : PE X o to) (he : PE X e te) (hs : swapsWith e (some (.Attribute o f p')) pos.line X.env = pure false := by rfl) : PS X (.Assign [.Attribute o f p'] e pos) (tEcS X.K f to te) := by
  constructor
  intro pins s σ H D I h
  refine plainObj_wpAny_Assign_Attribute (thn (he.run pins s σ H _ I h) fun v s1 q0 => ?_) hs
  obtain ⟨y, H1, I1, r1, q1⟩ := q0
  refine thn (ho.run pins s1 σ H1 _ I1 q1) fun u s2 q2 => ?_
  obtain ⟨x, H2, I2, r2, a, C, ex, T, hno, ea, q⟩ := q2
  subst ex
  obtain rfl : u = Value.ref a := r2
  exact ec_store T I2 ea hno r1 fun dx s3 n ne J => ⟨σ, _, J, q dx n ne⟩
def spEcInit (K : PySem.W.Frag) (C : Addr) (f : Str) : Sp := fun vs H Q _ => ∃ (a : Addr) (v : V), vs = [.ref a, v] ∧ EcC K C ∧ PySem.W.findIn K (.ref C) f = some none ∧ H a = some (exo a C none) ∧
  ∀ d, H d = none → d ≠ a → Q .non (upd (upd H d (exd d [(f, v)])) a (exo a C (some d)))
/-- the call C(u, ..) of such a class: its __init__ at the fresh error -/
theorem ec_call {CX : CXT} {C fI : Addr} {k : Nat} {fd : FuncData} {ps : List Str} {sp : Sp} {pins : List (Addr × Obj)} {s : Shared} {σ : St} {H : Hp} {us : List Value} {vs : List V} {E : XK} {Q : Addr → VK} {R : Value → Shared → Prop} (T : EcC X.K C)
    (iC : PySem.W.findIn X.K (.ref C) "__init__" = some (some (.ref fI))) (tI : PySem.W.typeIn X.K (.ref fI) = some (.type "function")) (F : FnOk X.prog X.w X.K X.mg X.base CX k fI fd ps sp) (hr : Room (k + 1) X.A) (hb : Binds X.K fd ps []) (hx : Passes CX X E)
    (I : Inv X pins σ H s) (r : Vals vs us) (hl : vs.length ≤ 1000) (q : ∀ a, H a = none → sp (.ref a :: vs) (upd H a (exo a C none)) (Q a) E)
    (fin : ∀ (a : Addr) (hp2 : Heap) (v : V) (H2 : Hp) (s2 : Shared), s.heap.objs.size ≤ a → (∀ b o, s.heap.get? b = some o → hp2.get? b = some o) → Inv X pins σ H2 s2 → Un (frs X.stack) [] (upd H a (exo a C none)) H2 hp2 s2.heap →
      HOk X.prog X.w H2 s2.heap → s2.os = s.os → AllBare s2.gens → Q a v H2 → v = .non ∧ R (.ref a) s2) : wpAny (model X.prog X.w) X.A (call (.ref C) us) R X.xe s := by
  obtain ⟨B, newId, initId, bmB, FB, SF, hin, hov⟩ := T.base
  obtain ⟨nm, N, qn, bs, bm, hdct, sn, sub, ab, col, dd, k0, k1, k2, k3, k5, hC, hT⟩ := PySem.W.excInit_of I.kIn hin
  obtain ⟨hp, g, dr, tk, os⟩ := s
  have fresh1 : H (hp.objs.size + 1) = none := I.hok.fresh (Nat.le_succ _)
  have q1 := q _ fresh1
  have kept : ∀ b o, hp.get? b = some o → ((hp.push (PySem.W.kdv_tup us)).push (PySem.HandSPX.excO C hp.objs.size)).get? b = some o := fun b o z => Heap.get?_push_of_some _ (Heap.get?_push_of_some _ z)
  have there : ((hp.push (PySem.W.kdv_tup us)).push (PySem.HandSPX.excO C hp.objs.size)).get? (hp.objs.size + 1) = some (PySem.HandSPX.excO C hp.objs.size) := by heap_get
  have J : Inv X pins σ (upd H (hp.objs.size + 1) (exo (hp.objs.size + 1) C none)) ⟨(hp.push (PySem.W.kdv_tup us)).push (PySem.HandSPX.excO C hp.objs.size), g, dr, tk, os⟩ :=
    I.laid (t' := tk) (a := hp.objs.size + 1) (h' := (hp.push (PySem.W.kdv_tup us)).push (PySem.HandSPX.excO C hp.objs.size)) kept (Nat.le_succ _) (exo_ok there)
  have r2 : Vals (V.ref (hp.objs.size + 1) :: vs) (Value.ref (hp.objs.size + 1) :: us) := .cons rfl r
  have len2 : (Value.ref (hp.objs.size + 1) :: us).length = ps.length := by
    rw [← r2.length]
    exact F.len _ _ _ _ q1
  have b := hb ⟨_, g, dr, tk, os⟩ (Value.ref (hp.objs.size + 1) :: us) J.kIn (by rw [List.append_nil]; exact len2)
  rw [List.append_nil] at b
  have room : us.length ≤ sizeLine := by
    rw [← r.length, sizeLine_eq]
    omega
  refine wpAny_call (PySem.HandSPX.call_own FB hT hC (PySem.W.looks_findIn I.kIn iC) (fun self => PySem.W.bind_fn I.kIn self tI) room (codeAny_mono (F.run _ X.stack _ _ ⟨_ :: us, []⟩ _ _ _ E (hr.make C us []) (J.env0.make C us []) b r2 q1) fun z s2 hz => ?_))
  cases z with
  | error er => exact hx pins σ _ _ er s2 J hz
  | ok fl =>
    cases fl with
    | ret u =>
      obtain ⟨v, H2, os2, bare2, un2, hok2, rv, q2⟩ := hz
      obtain ⟨hh, g2, d2, t2, o2⟩ := s2
      obtain rfl : o2 = os := os2
      have I2 : Inv X pins σ H2 ⟨hh, g2, d2, t2, o2⟩ := J.call (h' := hh) (g' := g2) (d' := d2) (t' := t2) (ch := []) un2 hok2 bare2 (fun b z => absurd z (by simp))
      obtain ⟨ev, z⟩ := fin (hp.objs.size + 1) _ v H2 ⟨hh, g2, d2, t2, o2⟩ (Nat.le_succ _) kept I2 un2 hok2 rfl bare2 q2
      subst ev
      exact ⟨rv, z⟩
    | next => exact False.elim hz
    | brk => exact False.elim hz
    | cont => exact False.elim hz
/-- C(e, ..) as a value -/
def tEcV (C : Addr) (sp : Sp) (E : XK) (ta : TA) : TE := fun σ H Q => ta σ H fun vs H1 => vs.length ≤ 1000 ∧ ∀ a, H1 a = none → sp (.ref a :: vs) (upd H1 a (exo a C none)) (fun v H2 => v = .non ∧ Q (.ref a) H2) E
variable {CX : CXT} {x : Str} {C fI : Addr} {k : Nat} {fd : FuncData} {ps : List Str} {sp : Sp} {E : XK}
theorem pe_ecv (T : EcC X.K C) (iC : PySem.W.findIn X.K (.ref C) "__init__" = some (some (.ref fI))) (tI : PySem.W.typeIn X.K (.ref fI) = some (.type "function")) (F : FnOk X.prog X.w X.K X.mg X.base CX k fI fd ps sp) (hr : Room (k + 1) X.A)
    (hb : Binds X.K fd ps []) (hx : Passes CX X E) (hg : Gl X x) (hm : X.mg x = some (.ref C)) (ha : PA X (e :: es) ta) (hdb : (x == ("__debug__" : Str)) = false := by decide)
    (he : starEach (e :: es) X.env = (false, eval e X.env) :: starEach es X.env := by rfl) (hpl : (backTo pos (starEach es X.env)).any (·.1) = false := by rfl) : PE X (.Call (.Name x p) (e :: es) [] pos) (tEcV C sp E ta) := by
  constructor
  intro pins s σ H Q I h
  refine wpAny_Call_Name_kw (ld_glob I hg hm ?_ hdb)
  refine PySem.W.callWith_K (h₀ := X.base) I.ok.mod.kin T.kC (thn (ha.run pos pins s σ H _ I h) fun us s1 q0 => ?_) he hpl
  obtain ⟨vs, H1, I1, r1, hl, q1⟩ := q0
  refine ⟨I1.kIn, ec_call (Q := fun a v H2 => v = .non ∧ Q (.ref a) H2) T iC tI F hr hb hx I1 r1 hl q1 fun a hp2 v H2 s2 _ _ I2 _ _ _ _ q2 => ⟨q2.1, ?_⟩⟩
  exact ⟨.ref a, H2, I2, rfl, q2.2⟩
/-- C(e, ..) to be raised -/
def tEcR (C : Addr) (sp : Sp) (ta : TA) : St → Hp → XK → Prop := fun σ H Q => ta σ H fun vs H1 => vs.length ≤ 1000 ∧ ∀ a, H1 a = none → sp (.ref a :: vs) (upd H1 a (exo a C none))
  (fun v H2 => v = .non ∧ ∃ (d : Addr) (fs : List (Str × V)), H2 a = some (exo a C (some d)) ∧ H2 d = some (exd d fs) ∧ H1 d = none ∧ Q (.ref C) (some d) (upd (del H2 a) d (.xd fs))) (fun _ _ _ => False)
theorem pmk_ec (T : EcC X.K C) (iC : PySem.W.findIn X.K (.ref C) "__init__" = some (some (.ref fI))) (tI : PySem.W.typeIn X.K (.ref fI) = some (.type "function")) (F : FnOk X.prog X.w X.K X.mg X.base CX k fI fd ps sp) (hr : Room (k + 1) X.A)
    (hb : Binds X.K fd ps []) (hx : Passes CX X (fun _ _ _ => False)) (hg : Gl X x) (hm : X.mg x = some (.ref C)) (ha : PA X (e :: es) ta) (hdb : (x == ("__debug__" : Str)) = false := by decide)
    (he : starEach (e :: es) X.env = (false, eval e X.env) :: starEach es X.env := by rfl) (hpl : (backTo pos (starEach es X.env)).any (·.1) = false := by rfl) : PMk X (.Call (.Name x p) (e :: es) [] pos) (tEcR C sp ta) := by
  intro pins s σ H Q I h
  refine wpAny_Call_Name_kw (ld_glob I hg hm ?_ hdb)
  refine PySem.W.callWith_K (h₀ := X.base) I.ok.mod.kin T.kC (thn (ha.run pos pins s σ H _ I h) fun us s1 q0 => ?_) he hpl
  obtain ⟨vs, H1, I1, r1, hl, q1⟩ := q0
  obtain ⟨hp, g, dr, tk, os⟩ := s1
  refine ⟨I1.kIn, ec_call (Q := fun a v H2 => v = .non ∧ ∃ (d : Addr) (fs : List (Str × V)), H2 a = some (exo a C (some d)) ∧ H2 d = some (exd d fs) ∧ H1 d = none ∧ Q (.ref C) (some d) (upd (del H2 a) d (.xd fs))) T iC tI F hr hb hx I1 r1 hl q1
    fun a hp2 v H2 s2 ha2 kept I2 un hok ho bare q2 => ⟨q2.1, ?_⟩⟩
  obtain ⟨_, d, fs, ea, ed, hd1, q3⟩ := q2
  obtain ⟨h2, g2, d2, t2, o2⟩ := s2
  exact mk_end (raises_own T.exC T.tyC) I1 ha2 kept un hok ho bare ea ed hd1 q3
/-- e.f, e an error that is held as a value -/
def tEcF (K : PySem.W.Frag) (te : TE) (f : Str) : TE := fun σ H Q => te σ H fun x H1 => ∃ (a C d : Addr) (fs : List (Str × V)) (v : V), x = .ref a ∧ XfC K C ∧ PySem.W.findIn K (.ref C) f = some none ∧ H1 a = some (exo a C (some d)) ∧ H1 d = some (exd d fs) ∧ fs.lookup f = some v ∧ Q v H1
theorem pe_ecf (he : PE X e te) (hb : attributeBase e f X.env (eval e X.env) = eval e X.env := by rfl) : PE X (.Attribute e f pos) (tEcF X.K te f) := by
  constructor
  intro pins s σ H Q I h
  refine attr_of hb (thn (he.run pins s σ H _ I h) fun u s1 q0 => ?_)
  obtain ⟨y, H1, I1, r1, a, C, d, fs, v, rfl, T, no, ea, ed, l, q⟩ := q0
  obtain rfl : u = Value.ref a := r1
  obtain ⟨t1, ho⟩ := exo_at I1.hok ea
  obtain ⟨mA, hns, rel⟩ := exd_at I1.hok ed
  obtain ⟨od, hod, hl⟩ := lookIn_ns hns
  have rr := rel f
  rw [l] at rr
  obtain ⟨w, hw, rw'⟩ := RelO.some_of (v := v) (o := mA f) rr
  have J : PySem.W.InstAt s1.heap a { cls := .ref C, dict := some d, data := .fields #[.ref t1, .none, .none, .none, .bool false, .none] } C (some od) := ⟨ho, rfl, rfl, hod⟩
  exact HandSPX.exc_get I1.kIn J T.ga T.gg T.exC (PySem.W.findObj_own T.hdC no rfl (by rw [hl, hw])) (handed_of rw') ⟨v, H1, I1.tok _, rw', q⟩
/-- isinstance(x, c), x an error that is held as a value -/
def rIsV (K : PySem.W.Frag) : List V → Hp → VK → Prop := fun xs H Q => ∃ (a C : Addr) (d : Option Addr) (c : V) (cv : Value) (b : Bool), xs = [.ref a, c] ∧ ClsV c cv ∧ ExcC K C ∧ H a = some (exo a C d) ∧ (∀ dx, d = some dx → ∃ fs, H dx = some (exd dx fs)) ∧ PySem.W.kitOne K (.ref C) cv = some b ∧ Q (.bl b) H
theorem call_isV : CallR X (.builtin "isinstance") (rIsV X.K) := by
  intro pins s σ H xs us Q I r h
  obtain ⟨a, C, d, c, cv, b, rfl, hc, T, ea, hd, ek, q⟩ := h
  obtain ⟨u1, u2, rfl, r1, r2⟩ := vals2 r
  cases r1
  obtain rfl := hc.eq r2
  obtain ⟨t1, ho⟩ := exo_at I.hok ea
  have hcl : (PySem.W.clsIn X.K C).isSome = true := by
    obtain ⟨cd, hc, _⟩ := PySem.W.any_some T.hd
    rw [hc] <;> rfl
  have J : ∃ od, PySem.W.InstAt s.heap a { cls := .ref C, dict := d, data := .fields #[.ref t1, .none, .none, .none, .bool false, .none] } C od := by
    cases d with
    | none => exact ⟨none, ho, rfl, rfl, trivial⟩
    | some dx =>
      obtain ⟨fs, hx⟩ := hd dx rfl
      obtain ⟨mA, hns, _⟩ := exd_at I.hok hx
      obtain ⟨od, hod, _⟩ := lookIn_ns hns
      exact ⟨some od, ho, rfl, rfl, hod⟩
  obtain ⟨od, J⟩ := J
  exact PySem.W.kia_one (PySem.W.kitx_exc hcl T.hg T.hk T.hs T.ha T.hn T.ht T.hm) I.kIn J ek (fun z => nomatch z) fun tk => ⟨.bl b, H, I.kept (t' := tk) fun _ _ z => z, rfl, q⟩
end
end L2

set_option Elab.async false
set_option linter.all false
set_option maxRecDepth 100000
set_option maxHeartbeats 4000000
/-! Promises of defs for callers beneath which no guarded built-in runs: what repr of containers asks. -/
namespace L2
open PySem PySem.Spec PyProof.Rows
structure FnG (P : Program) (w : World) (K : PySem.W.Frag) (mg : Str → Option Value) (base : Heap) (CX : CXT) (k : Nat) (f : Addr) (fd : FuncData) (ps : List Str) (sp : Sp) : Prop where
  len : ∀ vs H Q E, sp vs H Q E → vs.length = ps.length
  go : ∀ (A : Around) (outer : List Env) (s : Shared) (H : Hp) (args : Args) (us : List Value) (vs : List V) (Q : VK) (E : XK), A.guards = some [] → Room k A → Env0 P w K mg base A outer s H →
    BindsTo s fd args (ps.zip us) → Vals vs us → sp vs H Q E → codeAny (model P w) A (.call (.ref f) args) (CR CX outer P w H s Q E) s
section
variable {P : Program} {w : World} {K : PySem.W.Frag} {mg : Str → Option Value} {base : Heap} {CX : CXT} {k : Nat} {f : Addr} {fd : FuncData} {ps : List Str} {sp : Sp}
theorem FnOk.g (F : FnOk P w K mg base CX k f fd ps sp) : FnG P w K mg base CX k f fd ps sp :=
  { len := F.len, go := fun A outer s H args us vs Q E _ => F.run A outer s H args us vs Q E }
theorem FnG.up {j : Nat} (F : FnG P w K mg base CX j f fd ps sp) (h : j ≤ k) : FnG P w K mg base CX k f fd ps sp :=
  { len := F.len, go := fun A outer s H args us vs Q E hg hr => F.go A outer s H args us vs Q E hg (hr.mono h) }
theorem Fun.okG {x qual : Str} {st : Stmt} {N : List Str} (F : Fun K x qual st f fd) (S : FnScope N ps (defScope st)) (len : ∀ vs H Q E, sp vs H Q E → vs.length = ps.length)
    (body : ∀ (cdv : Value) (A : Around) (outer : List Env) (s : Shared) (H : Hp) (vs : List V) (Q : VK) (E : XK), (A.deeper (envOfC qual (defScope st) s.heap.objs.size f cdv)).guards = some [] →
      Room k (A.deeper (envOfC qual (defScope st) s.heap.objs.size f cdv)) → sp vs H Q E →
      ∃ t, PSs (cxOf CX0 P w K mg base N qual (defScope st) f cdv A outer s H E).nox (defBody st) t ∧ t { nx := fun _ H' => Q .non H', rt := Q } (start N vs) H) : FnG P w K mg base CX0 (k + 1) f fd ps sp := by
  obtain ⟨oc, od, kV, doc, pm, an, cdv, ct, osl, rfl, lk, hcd⟩ := F.ex
  refine { len := len, go := fun A outer s H args us vs Q E hg hr e0 hb r hsp => ?_ }
  have up := fun b o e => (e0.bs b o e).1
  refine Att.call_fn (e0.mod.kin.keeps up) (e0.mod.nolimit.keeps up) lk hcd hr.depth hb ?_ (fun s1 ic => ?_) S.co S.gen S.kind
  · refine List.all_eq_true.mpr fun y hy => ?_
    obtain ⟨n, v⟩ := y
    rcases S.par n (List.of_mem_zip hy).1 with q | q <;> (dsimp only; rw [q]; rfl)
  · obtain ⟨t, ht, hq⟩ := body cdv A outer s H vs Q E hg (hr.deeper _) hsp
    have I := inv_start (CX := CX0) (E := E) S hr.hd e0 (len _ _ _ _ hsp) r ic
    refine wpAny_mono (ht.nox.run [] s1 _ H _ I hq) (fun fl s2 h => ?_) fun _ _ h => h
    cases fl with
    | ret u =>
      obtain ⟨v, _, H2, J, rv, h⟩ := h
      exact ⟨v, H2, J.os, J.bare, J.base, J.hok, rv, h⟩
    | next =>
      obtain ⟨_, H2, J, h⟩ := h
      exact ⟨.non, H2, J.os, J.bare, J.base, J.hok, rfl, h⟩
    | brk => obtain ⟨_, _, _, h⟩ := h; exact h.elim
    | cont => obtain ⟨_, _, _, h⟩ := h; exact h.elim
end
/-- the abstract heap of the script alone -/
theorem script_heap {P : Program} {w : World} {K : PySem.W.Frag} {h : Heap} {a : Addr} {vs : List Value} {ns : List Int} (X : K.In h) (ha : h.get? a = some { cls := .type "list", data := .seq vs.toArray }) (hi : IntsAre vs ns) (hl : ns.length ≤ sizeLine) :
    ∃ H : Hp, SqL K H a (ns.map V.int) ∧ HOk P w H h ∧ ∀ b u, H b = some u → b = a ∧ K.lookup a = none ∧ ∃ o xs, u = .frz o (.lst xs) := by
  have rv := vals_ints hi
  by_cases n : K.lookup a = none
  · refine ⟨fun b => if b = a then some (.frz { cls := .type "list", data := .seq vs.toArray } (.lst (ns.map V.int))) else none, .inl (.inr ⟨_, if_pos rfl⟩), fun b u z => ?_, fun b u z => ?_⟩
    all_goals
      dsimp only at z
      split at z
      case isFalse => cases z
      rename_i eb
      cases z
    · subst eb
      exact ⟨ha, by rw [List.length_map]; exact hl, vs, 0, rv, ha⟩
    · exact ⟨eb, n, _, _, rfl⟩
  · obtain ⟨o, ho⟩ := Option.ne_none_iff_exists'.mp n
    have e := (X a o ho).symm.trans ha
    cases e
    exact ⟨fun _ => none, .inr ⟨_, vs.toArray, _, ho, rfl, rfl, rfl, by rw [List.size_toArray, hi.length]; exact hl, rv⟩, fun _ _ z => (nomatch z), fun _ _ z => (nomatch z)⟩
/-- the law's def, called on the script -/
theorem law_callG {P : Program} {w : World} {K : PySem.W.Frag} {mg mb : Str → Option Value} {k : Nat} {fa a : Addr} {fd : FuncData} {x : Str} {sp : Sp} {s1 : Shared} {vs : List Value} {ns : List Int} (KX : K.In s1.heap) (hns : s1.heap.Ns mainGlobals mg)
    (hb : s1.heap.Ns builtinsNs mb ∧ ∀ y : Str, y ≠ "__name__" → mb y = bootBuiltins y) (hlim : s1.heap.NoLimit) (hg : s1.gens = #[]) (ha : s1.heap.get? a = some { cls := .type "list", data := .seq vs.toArray }) (hi : IntsAre vs ns) (hl : ns.length ≤ sizeLine)
    (hr : Room k callerA) (F : ∀ b0 : Heap, K.In b0 → b0.Ns mainGlobals mg → FnG P w K mg b0 CX0 k fa fd [x] sp) (bind : ∀ (s : Shared) (u : Value), BindsTo s fd ⟨[u], []⟩ [(x, u)])
    (hsp : ∀ H : Hp, Only H → SqL K H a (ns.map V.int) → sp [.ref a] H (fun v _ => v = .bl true) fun _ _ _ => False) (noX : ∀ H e s', CX0 [] H s1 (fun _ _ _ => False) e s' → False) :
    codeAny (model P w) callerA (.call (.ref fa) ⟨[.ref a], []⟩) (fun r s' => r = .ok (.ret (.bool true)) ∧ OldK s1.heap s'.heap ∧ s'.os = s1.os ∧ AllBare s'.gens) s1 := by
  obtain ⟨H, hS, hok, hA⟩ := script_heap (P := P) (w := w) KX ha hi hl
  have tell : ∀ b, H b = none ∨ b = a ∧ K.lookup a = none ∧ ∃ o xs, H b = some (.frz o (.lst xs)) := fun b => by
    cases q : H b with
    | none => exact .inl rfl
    | some u =>
      obtain ⟨e1, e2, o, xs, e3⟩ := hA b u q
      exact .inr ⟨e1, e2, o, xs, by rw [e3]⟩
  have only : Only H := fun b => (tell b).imp id fun z => z.2.2
  have low : ∀ {b : Addr} {m : Str → Option Value}, s1.heap.Ns b m → (hidT s1.heap H).Ns b m := fun {b m} n => by
    obtain ⟨o, es, ep, e, d, r⟩ := n
    refine ⟨o, es, ep, hidT_get e ?_, d, r⟩
    rcases tell b with z | ⟨z, _⟩
    · exact z
    · rw [z, ha] at e
      cases e
      cases d
  have kin : K.In (hidT s1.heap H) := fun b o e => hidT_get (KX b o e) ((tell b).elim id fun z => by
    rw [z.1, z.2.1] at e
    cases e)
  obtain ⟨mc, l1, l2⟩ := hlim
  have e0 : Env0 P w K mg (hidT s1.heap H) callerA [] s1 H :=
    { frames := rfl, mod := { kin := kin, glob := low hns, blt := ⟨mb, low hb.1, hb.2⟩, nolimit := ⟨mc, low l1, l2⟩ }, bs := fun _ _ e => of_hidT e, bsz := Nat.le_of_eq (hidT_size _ _), funs := trivial, frf := fun _ z => (nomatch z), hok := hok, bare := .of_eq hg }
  refine codeAny_mono ((F _ kin (low hns)).go callerA [] s1 H _ [.ref a] [.ref a] _ _ rfl hr e0 (bind s1 (.ref a)) (.cons rfl .nil) (hsp H only hS)) fun r s2 h => ?_
  rcases r with e | fl
  · exact (noX H e s2 h).elim
  rcases fl with _ | _ | _ | u <;> try exact False.elim h
  obtain ⟨v, H2, os, bare, un, ok2, rv, q⟩ := h
  cases (q : v = .bl true)
  cases (rv : u = Value.bool true)
  refine ⟨rfl, OldK.of_keep fun b o e => ?_, os, bare⟩
  rcases tell b with z | ⟨_, _, ob, xs, z⟩
  · exact un.keep b o e z (fun y => by cases y) fun y => by cases y
  · have k1 := (hok b _ z).1
    rw [← e, k1] at *
    exact (ok2 b _ (un.frzs b ob _ z)).1
theorem walk_ofG {l : PySem.W.OpenLaw} {n k : Nat} {q : Program} {loose : List Str} {XP : (Str → Option Value) → Heap → Prop} {YP : World → Heap → Prop} {d : DefRec} {K : Params → PySem.W.Frag} {sp : PySem.W.Frag → Sp} {x : Str} (hn : l.most = some n) (hn2 : n ≤ sizeLine)
    (hdf : d.params.defaults = []) (hr : Room k callerA) (hY : ∀ (w : World) (h : Heap), YP w h → (K w.params).In h)
    (F : ∀ (w : World) (mg : Str → Option Value) (fa : Addr) (h : Heap), (K w.params).In h → h.Ns mainGlobals mg → mg d.name = some (.ref fa) → ∃ fd : FuncData, (∀ (s : Shared) (u : Value), BindsTo s fd ⟨[u], []⟩ [(x, u)]) ∧
      ∀ b0 : Heap, (K w.params).In b0 → b0.Ns mainGlobals mg → FnG l.prog w (K w.params) mg b0 CX0 k fa fd [x] (sp (K w.params)))
    (hsp : ∀ (K : PySem.W.Frag) (H : Hp) (a : Addr) (ns : List Int), ns.length ≤ n → Only H → SqL K H a (ns.map V.int) → sp K [.ref a] H (fun v _ => v = .bl true) fun _ _ _ => False)
    (noX : ∀ (H : Hp) (s : Shared) (e : Value) (s' : Shared), CX0 [] H s (fun _ _ _ => False) e s' → False) : PySem.W.WalkO q loose XP YP l.row.toRowW d [] (fun f vs => PySem.call f vs) := by
  refine Att.attach_call hn hdf fun w s0 s1 mg mb fa o pm cd doc a vs ns G Y _ _ _ hmg hobj hints hlen hg => ?_
  obtain ⟨fd, hb, hF⟩ := F w mg fa _ (hY w _ Y) G.T.g hmg
  exact law_callG (hY w _ Y) G.T.g ⟨G.T.b, G.T.builtins⟩ G.T.nolimit hg hobj hints (Nat.le_trans hlen hn2) hr hF hb (fun H => hsp _ H a ns hlen) fun H => noX H s1
end L2

set_option Elab.async false
set_option linter.all false
set_option maxRecDepth 100000
set_option maxHeartbeats 4000000
/-! Own `in`, `len`, `==` of an own class whose instances have a dict; calls of defs that ask for no guarded built-in beneath. -/
namespace L2
open PySem PySem.Spec PyProof.Rows
section
variable {X : Cx} {CX : CXT} {k : Nat} {f C : Addr} {fd : FuncData} {ps : List Str} {sp : Sp} {E : XK}
theorem run_in1 {pins : List (Addr × Obj)} {σ : St} {H : Hp} {s : Shared} {Q : VK} {us : List Value} {vs : List V} (F : FnOk X.prog X.w X.K X.mg X.base CX k f fd ps sp) (hr : Room (k + 1) X.A) (hb : Binds X.K fd ps []) (hx : Passes CX X E)
    (I : Inv X pins σ H s) (r : Vals vs us) (h : sp vs H Q E) : wpAny (model X.prog X.w) X.A.in1 (call (.ref f) us) (EP X pins σ Q) X.xe s := by
  have len : us.length = ps.length := r.length.symm.trans (F.len _ _ _ _ h)
  have b := hb s us I.kIn (by rw [List.append_nil]; exact len)
  rw [List.append_nil] at b
  refine wpAny_call (codeAny_mono (F.run X.A.in1 X.stack s H ⟨us, []⟩ us vs Q E hr.in1 I.env0.in1 b r h) fun z s2 q => ?_)
  rcases z with e | fl
  · exact hx pins σ H s e s2 I q
  · rcases fl with _ | _ | _ | u <;> first | exact False.elim q | exact I.after q
theorem truthy_bl {M : Model} {A : Around} {E' : Value → Shared → Prop} {s : Shared} {b : Bool} {Q : Bool → Shared → Prop} (q : Q b s) : wpAny M A (truthy (.bool b)) Q E' s := by
  wp_walk
  exact q
/-- x in o, o an instance with an own __contains__ -/
def rInOwn (C : Addr) (sp : Sp) (E : XK) (neg : Bool) : R2 := fun x y H Q => ∃ (a dx : Addr) (fs : List (Str × V)), y = .ref a ∧ H a = some (.ins C dx fs) ∧ sp [.ref a, x] H (fun v H2 => ∃ b, v = .bl b ∧ Q (.bl (b != neg)) H2) E
theorem op_inOwn (hs : PySem.W.findIn X.K (.ref C) "__contains__" = some (some (.ref f))) (hf : PySem.W.isFn X.K (.ref f) = true) (F : FnOk X.prog X.w X.K X.mg X.base CX k f fd ps sp) (hr : Room k X.A) (hb : Binds X.K fd ps []) (hx : Passes CX X E) :
    OpR X (compareOp .In) (rInOwn C sp E false) := by
  intro pins s σ H x y v u Q I rx ry h
  obtain ⟨a, dx, fs, rfl, ea, q⟩ := h
  cases ry
  obtain ⟨mA, O, _, _, _, _⟩ := ins_get I.hok ea
  obtain ⟨od, J, _⟩ := O.look
  obtain ⟨m, hF⟩ := I.fr
  refine PySem.W.in_K hF I.ok.mod.kin J hs hf (wpAny_mono (run_fn (ds := []) (dvs := []) (vs := [.ref a, x]) (us := [.ref a, v]) F hr hb .nil hx I (.cons rfl (.cons rx .nil)) q) (fun r s2 z => ?_) fun _ _ z => z)
  obtain ⟨w', H2, I2, rw', b, rfl, q2⟩ := z
  cases rw'
  rw [Bool.bne_false] at q2
  exact truthy_bl ⟨.bl b, H2, I2, rfl, q2⟩
theorem op_notInOwn (hs : PySem.W.findIn X.K (.ref C) "__contains__" = some (some (.ref f))) (hf : PySem.W.isFn X.K (.ref f) = true) (F : FnOk X.prog X.w X.K X.mg X.base CX k f fd ps sp) (hr : Room k X.A) (hb : Binds X.K fd ps []) (hx : Passes CX X E) :
    OpR X (compareOp .NotIn) (rInOwn C sp E true) := by
  intro pins s σ H x y v u Q I rx ry h
  obtain ⟨a, dx, fs, rfl, ea, q⟩ := h
  cases ry
  obtain ⟨mA, O, _, _, _, _⟩ := ins_get I.hok ea
  obtain ⟨od, J, _⟩ := O.look
  obtain ⟨m, hF⟩ := I.fr
  refine PySem.W.notIn_K hF I.ok.mod.kin J hs hf (wpAny_mono (run_fn (ds := []) (dvs := []) (vs := [.ref a, x]) (us := [.ref a, v]) F hr hb .nil hx I (.cons rfl (.cons rx .nil)) q) (fun r s2 z => ?_) fun _ _ z => z)
  obtain ⟨w', H2, I2, rw', b, rfl, q2⟩ := z
  cases rw'
  rw [Bool.bne_true] at q2
  exact truthy_bl ⟨.bl (!b), H2, I2, rfl, q2⟩
/-- len(o), o an instance with an own __len__ -/
def rLenOwn (C : Addr) (sp : Sp) (E : XK) : List V → Hp → VK → Prop := fun xs H Q => ∃ (a dx : Addr) (fs : List (Str × V)), xs = [.ref a] ∧ H a = some (.ins C dx fs) ∧ sp [.ref a] H (fun v H2 => ∃ n : Nat, v = .int n ∧ n ≤ 1000000 ∧ Q (.int n) H2) E
theorem call_lenOwn (hs : PySem.W.findIn X.K (.ref C) "__len__" = some (some (.ref f))) (hf : PySem.W.isFn X.K (.ref f) = true) (F : FnOk X.prog X.w X.K X.mg X.base CX k f fd ps sp) (hr : Room (k + 1) X.A) (hb : Binds X.K fd ps []) (hx : Passes CX X E) :
    CallR X (.builtin "len") (rLenOwn C sp E) := by
  intro pins s σ H xs us Q I r h
  obtain ⟨a, dx, fs, rfl, ea, q⟩ := h
  obtain ⟨u, rfl, ru⟩ := vals1 r
  cases ru
  obtain ⟨mA, O, _, _, _, _⟩ := ins_get I.hok ea
  obtain ⟨od, J, _⟩ := O.look
  obtain ⟨m, hF⟩ := I.fr
  refine PySem.W.len_K hF I.ok.mod.kin J hs hf (wpAny_mono (run_in1 (vs := [.ref a]) (us := [.ref a]) F hr hb hx I (.cons rfl .nil) q) (fun r s2 z => ?_) fun _ _ z => z)
  obtain ⟨w', H2, I2, rw', n, rfl, hn, q2⟩ := z
  obtain ⟨t, rfl⟩ := rw'
  exact ⟨⟨by omega, by omega⟩, .int n, H2, I2.tok _, ⟨_, rfl⟩, q2⟩
/-- how an object's class is known: an instance with a dict, or a list -/
inductive ClsOf (H : Hp) (b : Addr) : Value → Prop where
  | ins {C dx : Addr} {fs : List (Str × V)} (e : H b = some (.ins C dx fs)) : ClsOf H b (.ref C)
  | lst {xs : List V} (e : H b = some (.lst xs)) : ClsOf H b (.type "list")
theorem ClsOf.looks {pins : List (Addr × Obj)} {σ : St} {H : Hp} {s : Shared} {b : Addr} {tb : Value} (I : Inv X pins σ H s) (c : ClsOf H b tb) : PySem.W.Looks (model X.prog X.w) s.heap (typeOf (.ref b)) tb := by
  cases c with
  | ins e =>
    obtain ⟨mA, O, _, _, _, _⟩ := ins_get I.hok e
    obtain ⟨od, J, _⟩ := O.look
    exact J.type
  | lst e =>
    obtain ⟨_, its, n, _, ho⟩ := I.hok b _ e
    exact fun A Q E s k q => wpAny_typeOf_ref (k _ _ ho) q
/-- x == y, x an instance with an own __eq__ -/
def rEqOwn (K : PySem.W.Frag) (C : Addr) (sp : Sp) (E : XK) : R2 := fun x y H Q => ∃ (a dx b : Addr) (fs : List (Str × V)) (tb : Value), x = .ref a ∧ y = .ref b ∧ H a = some (.ins C dx fs) ∧ ClsOf H b tb ∧ PySem.W.notFirst K C tb = true ∧ sp [.ref a, .ref b] H (fun v H2 => ∃ c, v = .bl c ∧ Q (.bl c) H2) E
theorem op_eqOwn (hs : PySem.W.findIn X.K (.ref C) "__eq__" = some (some (.ref f))) (hf : PySem.W.isFn X.K (.ref f) = true) (F : FnOk X.prog X.w X.K X.mg X.base CX k f fd ps sp) (hr : Room k X.A) (hb : Binds X.K fd ps []) (hx : Passes CX X E) :
    OpR X (compareOp .Eq) (rEqOwn X.K C sp E) := by
  intro pins s σ H x y v u Q I rx ry h
  obtain ⟨a, dx, b, fs, tb, rfl, rfl, ea, cb, nf, q⟩ := h
  cases rx
  cases ry
  obtain ⟨mA, O, _, _, _, _⟩ := ins_get I.hok ea
  obtain ⟨od, J, _⟩ := O.look
  obtain ⟨m, hF⟩ := I.fr
  refine PySem.W.cmp_K (op := .Eq) (tb := tb) hr.units0 hF I.ok.mod.kin J (cb.looks I) nf hs hf ?_
  refine wpAny_mono (run_fn (ds := []) (dvs := []) (vs := [.ref a, .ref b]) (us := [.ref a, .ref b]) F hr hb .nil hx I (.cons rfl (.cons rfl .nil)) q) (fun w' s2 z => ?_) fun _ _ z => z
  obtain ⟨w2, H2, I2, rw', c, rfl, q2⟩ := z
  cases rw'
  exact ⟨.bl c, H2, I2, rfl, q2⟩
end
section
variable {X : Cx} {CX : CXT} {k : Nat} {f : Addr} {fd : FuncData} {ps : List Str} {sp : Sp} {E : St → XK} {x : Str} {p pos : Pos} {e : Expr} {es : List Expr} {t : TA}
/-- f(e, ..), f a def that asks that no guarded built-in runs beneath -/
def tCallG (sp : Sp) (E : St → XK) (t : TA) : TE := fun σ H Q => t σ H fun vs H1 => sp vs H1 Q (E σ)
theorem pe_callG (F : FnG X.prog X.w X.K X.mg X.base CX k f fd ps sp) (hgd : X.A.guards = some []) (hr : Room k X.A) (hg : Gl X x) (hm : X.mg x = some (.ref f)) (hk : PySem.W.keepIn X.K (.ref f) = true) (hb : Binds X.K fd ps []) (hx : ∀ σ, Passes CX X (E σ))
    (ha : PA X (e :: es) t) (hdb : (x == ("__debug__" : Str)) = false := by decide) (he : starEach (e :: es) X.env = (false, eval e X.env) :: starEach es X.env := by rfl) (hpl : (backTo pos (starEach es X.env)).any (·.1) = false := by rfl) :
    PE X (.Call (.Name x p) (e :: es) [] pos) (tCallG sp E t) := by
  constructor
  intro pins s σ H Q I h
  refine wpAny_Call_Name_kw (ld_glob I hg hm ?_ hdb)
  refine PySem.W.callWith_K (h₀ := X.base) I.ok.mod.kin hk (thn (ha.run pos pins s σ H _ I h) fun us s1 q0 => ?_) he hpl
  obtain ⟨vs, H1, I1, r, q⟩ := q0
  have len : us.length = ps.length := r.length.symm.trans (F.len _ _ _ _ q)
  have b := hb s1 us I1.kIn (by rw [List.append_nil]; exact len)
  rw [List.append_nil] at b
  refine ⟨I1.kIn, wpAny_call (codeAny_mono (F.go X.A X.stack s1 H1 ⟨us, []⟩ us vs Q (E σ) hgd hr I1.env0 b r q) fun z s2 q2 => ?_)⟩
  rcases z with er | fl
  · exact hx σ pins σ H1 s1 er s2 I1 q2
  · rcases fl with _ | _ | _ | u <;> first | exact False.elim q2 | exact I1.after q2
end
end L2
namespace L2
open PySem PySem.Spec PyProof.Rows
section
variable {X : Cx} {CX : CXT} {k : Nat} {f C : Addr} {fd : FuncData} {ps : List Str} {sp : Sp} {E : XK}
/-- object.__ne__ of an instance with an own __eq__ -/
theorem ne_entry {A : Around} {E' : Value → Shared → Prop} {s : Shared} {x : Addr} {b : Value} {ox : Obj} {od : Option Obj} {Q : Fin → Shared → Prop} (XK : X.K.In s.heap) (J : PySem.W.InstAt s.heap x ox C od) (hu : A.units < cLine)
    (hs : PySem.W.findIn X.K (.ref C) "__eq__" = some (some (.ref f))) (hf : PySem.W.isFn X.K (.ref f) = true)
    (h : wpAny (model X.prog X.w) A (call (.ref f) [.ref x, b]) (fun v s2 => ∃ c, v = .bool c ∧ Q (.done (.ret (.bool (!c)))) s2) E' s) : wpAny (model X.prog X.w) A (Builtin.«object.__ne__» ⟨[.ref x, b], []⟩) Q E' s := by
  have one : wpAny (model X.prog X.w) A (callSpecialIfBound? (.ref x) "__eq__" [b]) (fun r s2 => ∃ c, r = some (.bool c) ∧ Q (.done (.ret (.bool (!c)))) s2) E' s :=
    PySem.W.ifBound_K XK J hs hf (wpAny_mono h (fun v s2 hv => by obtain ⟨c, e, q⟩ := hv; exact ⟨c, by rw [e], q⟩) fun _ _ z => z)
  unfold Builtin.«object.__ne__»
  repeat (first
    | with_reducible refine wpAny_cRoomFor hu ?_
    | refine wpAny_bind (m := callSpecialIfBound? (.ref x) (Str.ofString "__eq__") [b]) (wpAny_mono one (fun r s2 hr => ?_) fun _ _ z => z)
    | wp_step)
  obtain ⟨c, rfl, q⟩ := hr
  repeat (first | exact q | exact wpAny_pure q | refine wpAny_bind (m := truthy (.bool _)) (truthy_bl ?_) | wp_step)
/-- x != y, two instances of a class with an own __eq__ and no own __ne__ -/
def rNeOwn (C : Addr) (sp : Sp) (E : XK) : R2 := fun x y H Q => ∃ (a dx b dy : Addr) (fs gs : List (Str × V)), x = .ref a ∧ y = .ref b ∧ H a = some (.ins C dx fs) ∧ H b = some (.ins C dy gs) ∧ sp [.ref a, .ref b] H (fun v H2 => ∃ c, v = .bl c ∧ Q (.bl (!c)) H2) E
theorem op_neOwn (hs : PySem.W.findIn X.K (.ref C) "__eq__" = some (some (.ref f))) (hn : PySem.W.findIn X.K (.ref C) "__ne__" = some (some (.builtin "object.__ne__"))) (hm : PySem.W.mroIn X.K C (.type "object") = some true)
    (hf : PySem.W.isFn X.K (.ref f) = true) (F : FnOk X.prog X.w X.K X.mg X.base CX k f fd ps sp) (hr : Room (k + 1) X.A) (hb : Binds X.K fd ps []) (hx : Passes CX X E) : OpR X (compareOp .NotEq) (rNeOwn C sp E) := by
  intro pins s σ H x y v u Q I rx ry h
  obtain ⟨a, dx, b, dy, fs, gs, rfl, rfl, ea, eb, q⟩ := h
  cases rx
  cases ry
  obtain ⟨mA, O, _, _, _, _⟩ := ins_get I.hok ea
  obtain ⟨od, J, _⟩ := O.look
  obtain ⟨mB, O2, _, _, _, _⟩ := ins_get I.hok eb
  obtain ⟨od2, J2, _⟩ := O2.look
  have un := hr.un
  have inst : PySem.W.Looks (model X.prog X.w) s.heap (isInstance (.ref a) (.type "object")) true := J.type.andThen (PySem.W.looks_mroIn I.kIn hm)
  have look : PySem.W.Looks (model X.prog X.w) s.heap (specialOf (.ref a) "__ne__") (some (.builtin "object.__ne__")) := J.type.andThen (PySem.W.looks_findIn I.kIn hn)
  have body : wpAny (model X.prog X.w) X.A (call (.builtin "object.__ne__") [.ref a, .ref b]) (fun v s2 => ∃ c, v = .bool c ∧ EP X pins σ Q (.bool c) s2) X.xe s := by
    refine wpAny_call (codeAny_call_builtin (by decide +kernel) PySem.F.cmpEntry_ne (PySem.W.check_slot PySem.F.cmpKind_ne PySem.F.cmpSplit_ne inst (PySem.F.cmpArgs_ne _ _) ?_))
    refine ne_entry (A := X.A.in1) I.kIn J (by show X.A.units + 1 < cLine; omega) hs hf (wpAny_mono (run_in1 (vs := [.ref a, .ref b]) (us := [.ref a, .ref b]) F hr hb hx I (.cons rfl (.cons rfl .nil)) q) (fun w2 s2 z => ?_) fun _ _ z => z)
    obtain ⟨w3, H2, I2, rw3, c, rfl, q2⟩ := z
    cases rw3
    exact ⟨c, rfl, !c, rfl, .bl (!c), H2, I2, rfl, q2⟩
  have asked : wpAny (model X.prog X.w) X.A (tryCompare (.ref a) "__ne__" (.ref b)) (fun r s2 => ∃ c, r = some (.bool c) ∧ EP X pins σ Q (.bool c) s2) X.xe s := by
    unfold tryCompare
    refine wpAny_bind (NtL.csib look (PySem.F.slot_range_iterator_ne.bind _) (wpAny_mono body (fun v s2 hv => ?_) fun _ _ z => z))
    obtain ⟨c, rfl, q2⟩ := hv
    exact wpAny_pure ⟨c, rfl, q2⟩
  unfold compareOp
  clear body q
  unfold richCompare
  simp only [oneThing_ref]
  refine wpAny_holding (wpAny_bind (wpAny_cRoomFor (by omega) ?_))
  rw [cmpInfo_NotEq]
  refine wpAny_bind (J.type.here (wpAny_bind (J2.type.here ?_)))
  rw [if_neg (by simp : ¬ (Value.ref C != Value.ref C) = true)]
  refine wpAny_bind (wpAny_pure ?_)
  rw [if_neg Bool.false_ne_true]
  refine wpAny_bind (wpAny_mono asked (fun r s2 hr2 => ?_) fun _ _ z => z)
  obtain ⟨c, rfl, q2⟩ := hr2
  exact wpAny_pure q2
end
end L2

set_option Elab.async false
set_option linter.all false
set_option maxRecDepth 100000
set_option maxHeartbeats 4000000
/-! repr of a list of data. -/
namespace L2
open PySem PySem.Spec PyProof.Rows
def keyD : Key → PyData
  | .inl i => .int i
  | .inr x => .str x
theorem pairs_data {P : Program} {w : World} {h : Heap} : ∀ {es : List DictEntry} {vs : List (Key × Value)} {kvs : List (Key × Int)}, Pairs (mixKind P w) es vs → KV (kvs.map fun p => (p.1, V.int p.2)) vs →
    ReadsAll h (es.map (·.key)) (kvs.map fun p => keyD p.1) [] ∧ ReadsAll h (es.map (·.val)) (kvs.map fun p => PyData.int p.2) []
  | _, _, [], p, r => by
    cases r
    cases p
    exact ⟨.nil, .nil⟩
  | _, _, (k, i) :: l, p, r => by
    cases r with
    | cons r1 r2 =>
      cases p with
      | cons p1 p2 p3 =>
        obtain ⟨e1, t, e2⟩ := r1
        obtain ⟨q1, q2⟩ := pairs_data p3 r2
        dsimp only at e1 e2
        refine ⟨.cons (as := []) (bs := []) ?_ q1, .cons (as := []) (bs := []) ?_ q2⟩
        · rw [← e1] at p1
          rcases keyIs_shape p1 with ⟨j, u, ek, ev⟩ | ⟨y, u, ek, ev⟩
          · dsimp only
            rw [ev, show k = _ from ek]
            exact .int j u
          · dsimp only
            rw [ev, show k = _ from ek]
            exact .str y u
        · dsimp only
          rw [p2, e2]
          exact .int i t
/-- data: without dicts, or one dict of whole numbers -/
def Dd (K : PySem.W.Frag) (H : Hp) (v : V) (d : PyData) : Prop := (Dp K H v d ∧ d.hasDict = false) ∨
  ∃ (b : Addr) (kvs : List (Key × Int)), v = .ref b ∧ H b = some (.dK (kvs.map fun p => (p.1, V.int p.2))) ∧ d = .dict ((kvs.map fun p => keyD p.1).zip (kvs.map fun p => PyData.int p.2))
section
variable {X : Cx} {pins : List (Addr × Obj)} {σ : St} {H : Hp} {s : Shared}
theorem Dd.reads {v : V} {d : PyData} {u : Value} (I : Inv X pins σ H s) (D : Dd X.K H v d) (r : RelV v u) : ∃ as, Reads s.heap u d as ∧ (d.hasDict = true → sysModules ∉ as) := by
  rcases D with ⟨D, n⟩ | ⟨b, kvs, rfl, e, rfl⟩
  · obtain ⟨as, q⟩ := Dp.reads I d v u D r
    exact ⟨as, q, fun z => by rw [n] at z; cases z⟩
  · cases r
    obtain ⟨_, ns, vs, kv, o, es, ep, ho, hx, hd, _, pr, _⟩ := I.hok b _ e
    obtain ⟨q1, q2⟩ := pairs_data (h := s.heap) pr kv
    refine ⟨b :: [] ++ [], Reads.dict ho hx.1 hd ?_ ?_, fun _ z => ?_⟩
    · rw [List.map_fst_zip (by simp)]
      exact q1
    · rw [List.map_snd_zip (by simp)]
      exact q2
    · simp only [List.append_nil, List.mem_singleton] at z
      rw [← z] at ns
      simp at ns
theorem dd_all {d : PyData} (I : Inv X pins σ H s) : ∀ {vs : List V} {us : List Value}, (∀ v ∈ vs, Dd X.K H v d) → Vals vs us → ∃ as, ReadsAll s.heap us (List.replicate vs.length d) as ∧ (d.hasDict = true → sysModules ∉ as)
  | _, _, _, .nil => ⟨[], .nil, fun _ z => nomatch z⟩
  | _, _, D, .cons r1 r2 => by
    obtain ⟨as, q1, n1⟩ := (D _ (List.mem_cons_self ..)).reads I r1
    obtain ⟨bs, q2, n2⟩ := dd_all I (fun v hv => D v (List.mem_cons_of_mem _ hv)) r2
    exact ⟨as ++ bs, .cons q1 q2, fun z => by rw [List.mem_append]; exact fun y => y.elim (n1 z) (n2 z)⟩
/-- repr(xs), a list whose items all are the same data -/
def rReprL (K : PySem.W.Frag) : List V → Hp → VK → Prop := fun xs H Q => ∃ (a : Addr) (ys : List V) (d : PyData), xs = [.ref a] ∧ H a = some (.lst ys) ∧ ys ≠ [] ∧ (∀ y ∈ ys, Dd K H y d) ∧ d.showable = true ∧ PyData.depthAll (List.replicate ys.length d) ≤ 100 ∧
  (listText (PyData.shownAll (List.replicate ys.length d))).length ≤ sizeLine ∧ Q (.str (listText (PyData.shownAll (List.replicate ys.length d)))) H
theorem show_rep (d : PyData) : ∀ n, PyData.showableAll (List.replicate n d) = true ∨ d.showable = false
  | 0 => .inl rfl
  | n + 1 => by
    cases e : d.showable with
    | false => exact .inr rfl
    | true =>
      rcases show_rep d n with z | z
      · exact .inl (by rw [List.replicate_succ, PyData.showableAll, e, z]; rfl)
      · rw [e] at z
        cases z
theorem dict_rep (d : PyData) : ∀ n, PyData.hasDictAll (List.replicate n d) = true → d.hasDict = true
  | 0, h => by cases h
  | n + 1, h => by
    rw [List.replicate_succ, PyData.hasDictAll, Bool.or_eq_true] at h
    exact h.elim id (dict_rep d n)
theorem call_reprL (hg : X.A.guards = some []) (hu : X.A.units + 200 < cLine) : CallR X (.builtin "repr") (rReprL X.K) := by
  intro pins s σ H xs us Q I r h
  obtain ⟨a, ys, d, rfl, e, hne, hd, hs, hdep, hz, q⟩ := h
  obtain ⟨u, rfl, ru⟩ := vals1 r
  cases ru
  obtain ⟨_, its, n, rv, ho⟩ := I.hok a _ e
  obtain ⟨as, ra, ns⟩ := dd_all I hd rv
  have sh : PyData.showableAll (List.replicate ys.length d) = true := (show_rep d _).resolve_right (by rw [hs]; simp)
  obtain ⟨bs, hb, hk⟩ := ReprAllK.of_readsAll (prog := X.prog) (w := X.w) ra sh (fun z => ns (dict_rep d _ z)) fun t ht => Nat.le_trans (listText_mem_le ht) hz
  have hna : a ∉ bs := not_mem_of_deeper (Reads.list ho rfl rfl (by exact ra)) (by simp only [PyData.depth]; omega) hb
  have ty : s.TypeIs (.ref a) "list" := ⟨_, ho, rfl⟩
  refine call_repr_slot (by omega) ty F.slot_list_repr.toG ?_
  cases its with
  | nil =>
    cases rv
    exact (hne rfl).elim
  | cons x l =>
    exact call_list_reprK ho rfl rfl hna hk.length_eq (fun i y z => hk.item i y (by simpa using z)) hg (fun b _ => Clear.nil b) (by show X.A.units + 1 + _ < cLine; omega) (fun _ _ z => z)
      (fun h' u tk k => ⟨_, _, rfl, .str _, H, I.kept (t' := tk) k, ⟨_, rfl⟩, q⟩) hz
end
end L2
namespace L2
open PySem PySem.Spec PyProof.Rows
section
variable {X : Cx}
/-- repr(x), x data without dicts -/
def rReprD (K : PySem.W.Frag) : List V → Hp → VK → Prop := fun xs H Q => ∃ (x : V) (d : PyData), xs = [x] ∧ Dp K H x d ∧ d.hasDict = false ∧ d.showable = true ∧ d.depth ≤ 100 ∧ d.shown.length ≤ sizeLine ∧ Q (.str d.shown) H
theorem call_reprD (hg : X.A.guards = some []) (hu : X.A.units + 200 < cLine) : CallR X (.builtin "repr") (rReprD X.K) := by
  intro pins s σ H xs us Q I r h
  obtain ⟨x, d, rfl, D, nd, sh, dep, hz, q⟩ := h
  obtain ⟨u, rfl, ru⟩ := vals1 r
  have whole : ∀ a, u = .ref a → wpAny (model X.prog X.w) X.A (call (.builtin "repr") [u]) (EP X pins σ Q) X.xe s := fun a e => by
    subst e
    obtain ⟨as, ra⟩ := Dp.reads I d x _ D ru
    exact repr_of_reads' ra sh (fun z => by rw [nd] at z; cases z) hg (by omega) (fun _ _ z => z) (fun h2 t tk k => ⟨.str d.shown, H, I.kept (t' := tk) k, ⟨_, rfl⟩, q⟩) hz
  cases D with
  | non =>
    cases ru
    simp only [PyData.shown] at q
    exact PySem.P.repr_of_none ⟨.str _, H, I.tok _, ⟨_, rfl⟩, q⟩
  | bl b =>
    cases ru
    simp only [PyData.shown] at q
    exact PySem.P.repr_of_bool ⟨.str _, H, I.tok _, ⟨_, rfl⟩, q⟩
  | int i =>
    obtain ⟨t, rfl⟩ := ru
    simp only [PyData.shown] at q
    exact PySem.P.repr_of_int (of_decide_eq_true (by simpa [PyData.showable] using sh)) ⟨.str _, H, I.tok _, ⟨_, rfl⟩, q⟩
  | str z =>
    obtain ⟨t, rfl⟩ := ru
    simp only [PyData.shown] at q hz
    exact PySem.P.repr_of_str ⟨.str _, H, I.tok _, ⟨_, rfl⟩, q⟩ hz
  | lst _ _ => exact whole _ ru
  | tup _ _ => exact whole _ ru
end
end L2

set_option Elab.async false
set_option linter.all false
set_option maxRecDepth 100000
set_option maxHeartbeats 4000000
/-! What the methods of a crowd promise. -/
namespace L2
open PySem PySem.Spec PyProof.Rows
def hasB (v : V) (zs : List Str) : Bool := match v with
  | .str z => decide (z ∈ zs)
  | _ => false
theorem inV_strs (z : Str) : ∀ zs : List Str, inV (.str z) (zs.map V.str) = decide (z ∈ zs)
  | [] => rfl
  | y :: zs => by
    have e := inV_strs z zs
    unfold inV at e ⊢
    rw [List.map_cons, List.any_cons, e]
    show ((y == z) || _) = _
    rw [Bool.eq_iff_iff]
    simp only [Bool.or_eq_true, beq_iff_eq, decide_eq_true_eq, List.mem_cons]
    exact or_congr_left eq_comm
theorem all_flat_strs (zs : List Str) : (zs.map V.str).all flatV = true := by
  rw [List.all_map]
  exact List.all_eq_true.mpr fun _ _ => rfl
theorem eqvAll_strs : ∀ zs ys : List Str, PyData.eqvAll (zs.map .str) (ys.map .str) = decide (zs = ys)
  | [], [] => rfl
  | [], _ :: _ => rfl
  | _ :: _, [] => rfl
  | z :: zs, y :: ys => by
    show PyData.eqvAll (PyData.str z :: _) (PyData.str y :: _) = _
    rw [PyData.eqvAll, eqvAll_strs zs ys, PyData.eqv, Bool.eq_iff_iff]
    simp
theorem eqv_strs (zs ys : List Str) : PyData.eqv (.list (zs.map .str)) (.list (ys.map .str)) = decide (zs = ys) := by
  rw [PyData.eqv, eqvAll_strs]
theorem lay_strs : ∀ {zs : List Str}, (∀ z ∈ zs, PyData.strOk z = true) → PyData.canLayAll0 (zs.map .str) = true
  | [], _ => rfl
  | z :: zs, h => by
    show PyData.canLayAll0 (PyData.str z :: _) = true
    rw [PyData.canLayAll0, PyData.canLay0, h z (List.mem_cons_self ..), lay_strs fun y hy => h y (List.mem_cons_of_mem _ hy)]
    rfl
theorem depth_strs : ∀ zs : List Str, PyData.depthAll (zs.map .str) ≤ 1
  | [] => by simp [PyData.depthAll]
  | z :: zs => by
    have := depth_strs zs
    simp only [List.map_cons, PyData.depthAll, PyData.depth]
    omega
theorem shaped_strs {zs : List Str} (h : ∀ z ∈ zs, PyData.strOk z = true) : SeqAt.shaped (.list (zs.map .str)) = true := by
  have := depth_strs zs
  unfold SeqAt.shaped
  rw [PyData.canLay0, lay_strs h, Bool.true_and]
  refine decide_eq_true ?_
  rw [PyData.depth]
  omega
theorem dp_strs {K : PySem.W.Frag} {H : Hp} : ∀ zs : List Str, DpAll K H (zs.map V.str) (zs.map PyData.str)
  | [] => .nil
  | z :: zs => .cons (.str z) (dp_strs zs)
structure Folk (zs : List Str) : Prop where
  ok : ∀ z ∈ zs, PyData.strOk z = true
  nd : zs.Nodup
  one : 1 ≤ zs.length
  most : zs.length ≤ 8
def CrowdOf (H : Hp) (C x : Addr) (zs : List Str) (m : Int) : Prop := CrowdAt H C x (zs.map V.str) m
theorem CrowdOf.same {H H2 : Hp} {C x : Addr} {zs : List Str} {m : Int} (s : Same H H2) (h : CrowdOf H C x zs m) : CrowdOf H2 C x zs m := CrowdAt.same s h
def spCrowdPeople (C : Addr) : Sp := fun vs H Q _ => ∃ (x : Addr) (zs : List Str) (m : Int), vs = [.ref x] ∧ CrowdOf H C x zs m ∧ zs.length ≤ 1000 ∧ ∀ H2 p, Same H H2 → H p = none → H2 p = some (.lst (zs.map V.str)) → Q (.ref p) H2
def spCrowdLen (C : Addr) : Sp := fun vs H Q _ => ∃ (x : Addr) (zs : List Str) (m : Int), vs = [.ref x] ∧ CrowdOf H C x zs m ∧ Q (.int zs.length) H
def spCrowdHas (K : PySem.W.Frag) (C : Addr) : Sp := fun vs H Q _ => ∃ (x : Addr) (v : V) (zs : List Str) (m : Int) (T : String), vs = [.ref x, v] ∧ CrowdOf H C x zs m ∧ TyN K H v T ∧ Q (.bl (hasB v zs)) H
def spCrowdEq (K : PySem.W.Frag) (C : Addr) : Sp := fun vs H Q _ => ∃ (x y : Addr) (zs : List Str) (m : Int), vs = [.ref x, .ref y] ∧ CrowdOf H C x zs m ∧ (∀ z ∈ zs, PyData.strOk z = true) ∧
  ((∃ ys n, CrowdOf H C y ys n ∧ (∀ z ∈ ys, PyData.strOk z = true) ∧ Q (.bl (decide (m = n) && decide (zs = ys))) H) ∨ ((∃ ys, H y = some (.lst ys)) ∧ Q (.bl false) H))
/-- a word that is asked for: it is there, or NotThere -/
def spNeed (K : PySem.W.Frag) (C CN : Addr) : Sp := fun vs H Q E => ∃ (x : Addr) (v : V) (zs : List Str) (m : Int) (T : String), vs = [.ref x, v] ∧ CrowdOf H C x zs m ∧ TyN K H v T ∧
  (hasB v zs = true → Q .non H) ∧ (hasB v zs = false → ∀ H2 d, Raised H H2 d "word" v → E (.ref CN) (some d) H2)
def spPlace (K : PySem.W.Frag) (C CN : Addr) : Sp := fun vs H Q E => ∃ (x : Addr) (v : V) (zs : List Str) (m : Int) (T : String), vs = [.ref x, v] ∧ CrowdOf H C x zs m ∧ TyN K H v T ∧
  (∀ i z, v = .str z → zs.idxOf z = i → z ∈ zs → Q (.int (i : Nat)) H) ∧ (hasB v zs = false → ∀ H2 d, Raised H H2 d "word" v → E (.ref CN) (some d) H2)
end L2
namespace L2
open PySem PySem.Spec PyProof.Rows
/-- an own class whose instances isinstance asks for -/
structure IsOwn (K : PySem.W.Frag) (C : Addr) : Prop where
  cl : Cls K C
  ha : PySem.W.findIn K (.ref C) "__class__" = some (some (.builtin "object.__class__"))
  hn : PySem.W.specialIn K (.builtin "object.__class__") "__get__" = some (some (.builtin "getset_descriptor.__get__"))
  ht : PySem.W.takesIn K (.builtin "object.__class__") = some true
  hm : PySem.W.mroIn K C (.type "object") = some true
theorem IsOwn.ty {K : PySem.W.Frag} {H : Hp} {a C dx : Addr} {fs : List (Str × V)} (i : IsOwn K C) (e : H a = some (.ins C dx fs)) : TyX K H (.ref a) (.ref C) := .base (.ins e i.cl i.ha i.hn i.ht i.hm)
theorem hasB_ty {K : PySem.W.Frag} {H : Hp} {v : V} {T : String} {zs : List Str} (t : TyN K H v T) (h : ¬ T = "str") : hasB v zs = false := by
  obtain ⟨ty, _⟩ := t
  cases v with
  | str z =>
    cases ty with
    | base b => cases b; exact absurd rfl h
  | _ => rfl
end L2
namespace L2
open PySem PySem.Spec PyProof.Rows
def isPairB (a b : V) (zs : List Str) : Bool := hasB a zs && (hasB b zs && !decide (a = b))
/-- a value that is asked whether it is a pair, and the answer -/
inductive PairArg (K : PySem.W.Frag) (H : Hp) (zs : List Str) : V → Bool → Prop where
  | no {v : V} {T : String} (t : TyN K H v T) (h : ¬ T = "tuple") : PairArg K H zs v false
  | len {p : Addr} {xs : List V} (e : H p = some (.tup xs)) (h : ¬ xs.length = 2) : PairArg K H zs (.ref p) false
  | two {p : Addr} {a b : V} {S T : String} (e : H p = some (.tup [a, b])) (s : TyN K H a S) (t : TyN K H b T) : PairArg K H zs (.ref p) (isPairB a b zs)
def spIsPair (K : PySem.W.Frag) (C : Addr) : Sp := fun vs H Q _ => ∃ (x : Addr) (v : V) (zs : List Str) (m : Int) (b : Bool), vs = [.ref x, v] ∧ CrowdOf H C x zs m ∧ PairArg K H zs v b ∧ Q (.bl b) H
end L2
namespace L2
open PySem PySem.Spec PyProof.Rows
def spCrowdIter (C : Addr) : Sp := fun vs H Q _ => ∃ (x dx l : Addr) (xs : List V) (m : Int), vs = [.ref x] ∧ H x = some (.ins C dx (crowdFs l m)) ∧ H l = some (.lst xs) ∧ ∀ it, H it = none → Q (.ref it) (upd H it (ItO l it 0))
end L2

set_option Elab.async false
set_option linter.all false
set_option maxRecDepth 100000
set_option maxHeartbeats 4000000
/-! A walk whose turns are anything, for comprehensions within comprehensions; the pairs of a crowd. -/
namespace L2
open PySem PySem.Spec PyProof.Rows
theorem nest_it {J : It} {n : Nat} {G : Hp → Prop} {Y : Nat → Hp → V → Hp → Prop} (w : Walk J n G Y) {B : V → Hp → (Hp → Prop) → Prop} {H0 : Hp} {Qd : Hp → Prop} (Pv : Nat → Hp → Prop) (h0 : Pv 0 H0) (hG : ∀ i H, i ≤ n → Pv i H → G H)
    (hs : ∀ i x H H', i < n → Pv i H → Y i H x H' → B x H' (Pv (i + 1))) (hd : ∀ H, Pv n H → Qd H) :
    ∃ W : Nat → Nat → Hp → Prop, (∃ m, W 0 m H0) ∧ ∀ i m H, W i m H → (J.stop i H ∧ Qd H) ∨ (J.go i H ∧ ∃ Nx : Hp → Prop, (∀ H', Nx H' → ∃ m', m' < m ∧ W (i + 1) m' H') ∧ ∀ x H', J.yld i H x H' → B x H' Nx) := by
  refine ⟨fun i m H => m = n - i ∧ i ≤ n ∧ Pv i H, ⟨n, rfl, Nat.zero_le _, h0⟩, fun i m H h => ?_⟩
  obtain ⟨rfl, hi, p⟩ := h
  rcases Nat.lt_or_ge i n with lt | ge
  · refine .inr ⟨w.goes i H lt (hG i H hi p), Pv (i + 1), fun H2 q => ⟨n - (i + 1), by omega, rfl, lt, q⟩, fun x H2 y => hs i x H H2 lt p (w.yields i H x H2 lt (hG i H hi p) y)⟩
  · obtain rfl : i = n := Nat.le_antisymm hi ge
    exact .inl ⟨w.stops H (hG i H hi p), hd H p⟩
def rowOf (zs : List Str) (a : Str) : List (Str × Str) := (zs.filter fun b => a ≠ b).map fun b => (a, b)
def pairsOf (zs : List Str) : List (Str × Str) := zs.flatMap (rowOf zs)
/-- a list of new tuples of two words, apart from D -/
def Tups (D : Addr) (H : Hp) (acc : List V) (ps : List (Str × Str)) : Prop := acc.length = ps.length ∧ ∀ (j : Nat) (y : V) (q : Str × Str), acc[j]? = some y → ps[j]? = some q → ∃ t, y = .ref t ∧ t ≠ D ∧ H t = some (.tup [.str q.1, .str q.2])
theorem Tups.but {D : Addr} {H H2 : Hp} {acc : List V} {ps : List (Str × Str)} (t : Tups D H acc ps) (b : But D H H2) : Tups D H2 acc ps := ⟨t.1, fun j y q h1 h2 => by
  obtain ⟨p, e, n, h⟩ := t.2 j y q h1 h2
  exact ⟨p, e, n, b _ _ n h⟩⟩
theorem Tups.add {D p : Addr} {H : Hp} {acc : List V} {ps : List (Str × Str)} {a b : Str} (t : Tups D H acc ps) (n : p ≠ D) (h : H p = some (.tup [.str a, .str b])) : Tups D H (acc ++ [.ref p]) (ps ++ [(a, b)]) := by
  refine ⟨by rw [List.length_append, List.length_append, t.1]; rfl, fun j y q h1 h2 => ?_⟩
  rcases Nat.lt_trichotomy j acc.length with c | c | c
  · rw [List.getElem?_append_left c] at h1
    rw [List.getElem?_append_left (by rw [← t.1]; exact c)] at h2
    exact t.2 j y q h1 h2
  · subst c
    rw [List.getElem?_append_right (Nat.le_refl _), Nat.sub_self] at h1
    rw [t.1, List.getElem?_append_right (Nat.le_refl _), Nat.sub_self] at h2
    cases h1
    cases h2
    exact ⟨p, rfl, n, h⟩
  · rw [List.getElem?_eq_none (by rw [List.length_append, List.length_singleton]; omega)] at h1
    cases h1
theorem pairs_take (zs : List Str) (i : Nat) (a : Str) (h : zs[i]? = some a) : (zs.take (i + 1)).flatMap (rowOf zs) = (zs.take i).flatMap (rowOf zs) ++ rowOf zs a := by
  rw [List.take_add_one, h, List.flatMap_append]
  simp
theorem row_take (zs : List Str) (a b : Str) (j : Nat) (h : zs[j]? = some b) : ((zs.take (j + 1)).filter fun c => a ≠ c) = ((zs.take j).filter fun c => a ≠ c) ++ (if a ≠ b then [b] else []) := by
  rw [List.take_add_one, h, List.filter_append]
  congr 1
  by_cases e : a = b
  · subst e
    simp
  · simp [e]
def spCrowdPairs (C : Addr) : Sp := fun vs H Q _ => ∃ (x : Addr) (zs : List Str) (m : Int), vs = [.ref x] ∧ CrowdOf H C x zs m ∧ zs.length ≤ 8 ∧ ∀ H2 p ys, Same H H2 → H p = none → H2 p = some (.lst ys) → Tups p H2 ys (pairsOf zs) → Q (.ref p) H2
theorem pairs_len {zs : List Str} (h : zs.length ≤ 8) : ∀ {ys : List Str}, ys.length ≤ 8 → (ys.flatMap (rowOf zs)).length ≤ 64 := fun {ys} hy => by
  have key : ∀ l : List Str, (l.flatMap (rowOf zs)).length ≤ 8 * l.length := fun l => by
    induction l with
    | nil => simp
    | cons a l ih =>
      rw [List.flatMap_cons, List.length_append, List.length_cons]
      have : (rowOf zs a).length ≤ 8 := by
        unfold rowOf
        rw [List.length_map]
        exact Nat.le_trans (List.length_filter_le _ _) h
      omega
  have := key ys
  omega
end L2
namespace L2
open PySem PySem.Spec PyProof.Rows
/-- a list of tuples of two words -/
def Tps (H : Hp) (acc : List V) (ps : List (Str × Str)) : Prop := acc.length = ps.length ∧ ∀ (j : Nat) (y : V) (q : Str × Str), acc[j]? = some y → ps[j]? = some q → ∃ t, y = .ref t ∧ H t = some (.tup [.str q.1, .str q.2])
theorem Tups.tps {D : Addr} {H : Hp} {acc : List V} {ps : List (Str × Str)} (t : Tups D H acc ps) : Tps H acc ps := ⟨t.1, fun j y q h1 h2 => by
  obtain ⟨p, e, _, h⟩ := t.2 j y q h1 h2
  exact ⟨p, e, h⟩⟩
theorem Tps.same {H H2 : Hp} {acc : List V} {ps : List (Str × Str)} (t : Tps H acc ps) (s : Same H H2) : Tps H2 acc ps := ⟨t.1, fun j y q h1 h2 => by
  obtain ⟨p, e, h⟩ := t.2 j y q h1 h2
  exact ⟨p, e, s _ _ h⟩⟩
theorem Tps.append {H : Hp} {a1 a2 : List V} {p1 p2 : List (Str × Str)} (t1 : Tps H a1 p1) (t2 : Tps H a2 p2) : Tps H (a1 ++ a2) (p1 ++ p2) := by
  refine ⟨by rw [List.length_append, List.length_append, t1.1, t2.1], fun j y q h1 h2 => ?_⟩
  rcases Nat.lt_or_ge j a1.length with c | c
  · rw [List.getElem?_append_left c] at h1
    rw [List.getElem?_append_left (by rw [← t1.1]; exact c)] at h2
    exact t1.2 j y q h1 h2
  · rw [List.getElem?_append_right c] at h1
    rw [List.getElem?_append_right (by rw [← t1.1]; exact c), ← t1.1] at h2
    exact t2.2 _ y q h1 h2
def spLawPairs (K : PySem.W.Frag) : Sp := fun vs H Q _ => ∃ (l : Addr) (zs : List Str), vs = [.ref l] ∧ H l = some (.lst (zs.map V.str)) ∧ zs.length ≤ 8 ∧ ∀ H2 p ys, Same H H2 → H p = none → H2 p = some (.lst ys) → Tps H2 ys (pairsOf zs) → Q (.ref p) H2
end L2

set_option Elab.async false
set_option linter.all false
set_option maxRecDepth 100000
set_option maxHeartbeats 4000000
/-! Several clauses «except X as e», all by one name. -/
namespace L2
open PySem PySem.Spec PyProof.Rows
def offEnds (i : Nat) (D : Ends) : Ends := { nx := fun σ H => D.nx (σ.set i none) H, rt := D.rt, bk := fun σ H => D.bk (σ.set i none) H, ct := fun σ H => D.ct (σ.set i none) H }
def wAll (K : PySem.W.Frag) (i : Nat) (Wout : WX) (D : Ends) : List (Value × (Addr → Value → Option Addr → TS)) → WX
  | [] => Wout
  | p :: r => fun cls d σ H => ∃ b, PySem.W.exmOne K cls p.1 = some b ∧ (b = true → ∀ a, H a = none → p.2 a cls d (offEnds i D) (σ.set i (some (.ref a))) H) ∧ (b = false → wAll K i Wout D r cls d σ H)
inductive AllAs (X : Cx) (n : Str) : List ExceptHandler → List (Value × (Addr → Value → Option Addr → TS)) → Prop
  | nil : AllAs X n [] []
  | cons {x : Str} {c : Value} {ts : Addr → Value → Option Addr → TS} {b0 : Stmt} {rest : List Stmt} {p1 p2 : Pos} {hs : List ExceptHandler} {l : List (Value × (Addr → Value → Option Addr → TS))} (names : Names X x c)
      (suite : ∀ (a : Addr) (o : Obj) (cls : Value) (d : Option Addr) (pn : List (Addr × Obj)), Zc cls d o → (∃ vs, o.data = .fields vs) → PSs (X.suite a ((a, o) :: pn)) (b0 :: rest) (ts a cls d)) (more : AllAs X n hs l) :
      AllAs X n (.ExceptHandler (some (.Name x p1)) (some n) (b0 :: rest) p2 :: hs) ((c, ts) :: l)
section
variable {X : Cx} {n : Str} {i : Nat} {Wout : WX} {D : Ends} {pins : List (Addr × Obj)} {σ : St} {H : Hp} {sI : Shared} {a : Addr} {B : Heap} {cls : Value} {d : Option Addr}
theorem no_frame {L : List Env} {h : Heap} {o : Obj} {vs : Array Value} (ff : h.FunFrames B L) (e : h.get? a = some o) (q : o.data = .fields vs) : a ∉ frs L := fun m => by
  obtain ⟨_, o2, e2, no⟩ := ff.mem m
  cases e.symm.trans e2
  exact no _ q
/-- the clauses are looked at, one after another, while the exception is held -/
theorem look_all (hs : X.stack = X.env :: X.outer) (hf : X.env.frame = some X.env.locals) (hN : X.N.Nodup) (hi : X.N[i]? = some n) (hln : X.env.kindOf n = some .local) (tk : Takes X Wout) {s2 : Shared} {h3 : Heap} (J : Inv X pins σ H sI)
    (nb : ∀ b o, sI.heap.get? b = some o → b ∉ frs X.stack → B.get? b = some o) (os : s2.os = sI.os) (ag : AllBare s2.gens) (na : H a = none) (fl : HandSPX.FlyingZ B (X.env :: X.outer) a (Zc cls d) h3) (up : sI.heap.UpToSlots h3)
    {hds : List ExceptHandler} {l : List (Value × (Addr → Value → Option Addr → TS))} (cl : AllAs X n hds l) (w : wAll X.K i Wout D l cls d σ H) :
    wpAny (model X.prog X.w) X.A (handleBy (.ref a) X.env hds) (SP X pins D) X.xe { s2 with heap := h3 } := by
  have onground : ∀ {h : Heap}, HandSPX.FlyingZ B (X.env :: X.outer) a (Zc cls d) h → sI.heap.UpToSlots h → Inv X pins σ H { s2 with heap := h } := fun {h} f u => J.landed nb f.1 u os ag
  obtain ⟨o3, v3, e3, z3, q3⟩ := fl.there
  have nfr := no_frame fl.2.2.1 e3 q3
  have nL : a ≠ X.env.locals := fun z => nfr (List.mem_filterMap.mpr ⟨X.env, List.mem_cons_self, by rw [hf, z]⟩)
  have nF : a ∉ X.fs := fun m => by
    obtain ⟨v, hv, q⟩ := List.mem_filterMap.mp m
    exact nfr (List.mem_filterMap.mpr ⟨v, List.mem_cons_of_mem _ hv, q⟩)
  have J3 := onground fl up
  have T3 := J3.suite e3 q3 na nL nF
  induction cl with
  | nil =>
    obtain ⟨_, _, _, o, vs, T, oT, ts, eo, _, qo, one, _⟩ := id fl
    have out : wpAny (model X.prog X.w) X.A (setFlight (.ref a) X.env.frame) (fun _ s4 => wpAny (model X.prog X.w) X.A (throw (.ref a) : Sem Flow) (SP X pins D) X.xe s4) X.xe { s2 with heap := h3 } := by
      rw [hf]
      refine HandSPX.setFlight_upZ fl fun h4 f4 u4 => wpAny_throw (tk _ _ ⟨a, B, sI, pins, σ, H, cls, d, rfl, J, nb, up.trans u4, ?_, na, os, ag, w⟩)
      rw [hs]
      exact .inr (.inr f4)
    refine wpAny_handleBy_nil ?_
    unfold PySem.passOn
    refine wpAny_bind (wpAny_field eo qo one ?_)
    rw [if_neg (by simp : ¬ ((Value.ref T == Value.none) = true))]
    first | exact wpAny_bind out | exact wpAny_bind (wpAny_pure (wpAny_bind out))
  | @cons x c ts b0 rest p1 p2 hds l names suite more ih =>
    obtain ⟨b, hb, yes, no⟩ := w
    have meets := PySem.W.exm_one (M := model X.prog X.w) J3.kIn (fun A Q E s k q => wpAny_typeOf_ref (k _ _ e3) (by rw [z3.1]; exact q)) hb
    have named : ∀ {Q : Value → Shared → Prop} {E : Value → Shared → Prop}, Q c { s2 with heap := h3 } → wpAny (model X.prog X.w) (X.A.mark (some (.ref a))) (eval (.Name x p1) X.env) Q E { s2 with heap := h3 } := fun {Q E} q => by
      rcases names with ⟨gl, db, hm | ⟨hm, hv, hn⟩⟩
      · exact ld_glob (X := X.suite a ((a, o3) :: (X.pn ++ pins))) T3 gl hm q db
      · exact ld_blt (X := X.suite a ((a, o3) :: (X.pn ++ pins))) T3 gl hm hv q hn db
    refine wpAny_handleBy_cons (codeAny_handlers_test (named (meets.here ?_))) (fun z => by cases z)
    cases b with
    | false => exact ih (no rfl)
    | true =>
      refine codeAny_handlers_suite_as (HandSPX.lands_againZ fl fun h4 f4 u4 => ?_)
      obtain ⟨o4, v4, e4, z4, q4⟩ := f4.there
      have T4 := (onground f4 (up.trans u4)).suite e4 q4 na nL nF
      refine store_ok (X := X.suite a ((a, o4) :: (X.pn ++ pins))) (v := .ref a) T4 hN hi (.inl hln) rfl (fun s5 T5 => ?_) (.inr hln)
      refine wpAny_mono ((suite a o4 cls d (X.pn ++ pins) z4 ⟨_, q4⟩).run [] s5 _ H _ T5 (yes rfl a na)) (fun f s6 h6 => ?_) fun _ _ z => z.elim
      have last : ∀ {τ : St} {G : Hp} {Q : Shared → Prop}, Inv (X.suite a ((a, o4) :: (X.pn ++ pins))) [] τ G s6 → (∀ s7, Inv X pins (τ.set i none) G s7 → Q s7) →
          wpAny (model X.prog X.w) X.A (do bindName X.env n .none; unbindBehindTheSuite X.env n p2) (fun _ s7 => Q s7) X.xe s6 := fun {τ G Q} T6 q => gone_ok (T6.unsuite J.ok) hN hi hln q
      cases f with
      | ret u =>
        obtain ⟨_, _, _, T6, r6, q6⟩ := h6
        exact last T6 fun _ J7 => ⟨_, _, _, J7, r6, q6⟩
      | next => obtain ⟨_, _, T6, q6⟩ := h6; exact last T6 fun _ J7 => ⟨_, _, J7, q6⟩
      | brk => obtain ⟨_, _, T6, q6⟩ := h6; exact last T6 fun _ J7 => ⟨_, _, J7, q6⟩
      | cont => obtain ⟨_, _, T6, q6⟩ := h6; exact last T6 fun _ J7 => ⟨_, _, J7, q6⟩
/-- try: .. / except X as e: .. / except Y as e: .. -/
theorem ps_try_all {body : List Stmt} {h0 : ExceptHandler} {hds : List ExceptHandler} {l : List (Value × (Addr → Value → Option Addr → TS))} {pos : Pos} {tb : WX → TS} (hs : X.stack = X.env :: X.outer) (hf : X.env.frame = some X.env.locals) (hN : X.N.Nodup)
    (hi : X.N[i]? = some n) (hln : X.env.kindOf n = some .local) (tk : Takes X Wout) (hb : ∀ (W : WX) (pn : List (Addr × Obj)) (xe : Value → Shared → Prop), Takes (X.tr pn xe) W → PassesOwn (model X.prog X.w) X.A X.env xe → PSs (X.tr pn xe) body (tb W))
    (cl : AllAs X n (h0 :: hds) l) : PS X (.Try body (h0 :: hds) [] [] pos) (fun D σ H => tb (wAll X.K i Wout D l) D σ H) := by
  constructor
  intro pins s σ H D I h
  have fr : X.A.frames = some (X.env :: X.outer) := I.ok.frames.trans (by rw [hs])
  refine wpAny_Try_except (wpAny_mono ((hb (wAll X.K i Wout D l) (X.pn ++ pins) (fun e s1 => wpAny (model X.prog X.w) X.A (noteFrame e X.env) (fun _ s2 => wpAny (model X.prog X.w) X.A (setFlight e none)
    (fun _ s3 => wpAny (model X.prog X.w) X.A (handleBy e X.env (h0 :: hds)) (SP X pins D) X.xe s3) X.xe s2) X.xe s1) (fun u s2 z => ?_) PassesOwn.looking).run [] s σ H D (I.toTry _) h) (fun f s1 q => ?_) fun _ _ z => z)
  · obtain ⟨a, B, sI, ps, τ, G, cls, d, rfl, J, nb, up, sky, na, os, ag, w⟩ := z
    rw [show (X.tr (X.pn ++ pins) _).stack = X.env :: X.outer from hs] at sky
    exact Sky.land Zc.steady fr hf sky fun h3 f3 u3 => look_all hs hf hN hi hln tk (J.ofTry I.ok) nb os ag na f3 (up.trans u3) cl w
  · cases f with
    | next => obtain ⟨τ, G, J, q⟩ := q; exact wpAny_execs_nil ⟨τ, G, J.ofTry I.ok, q⟩
    | ret u => obtain ⟨v, τ, G, J, r, q⟩ := q; exact ⟨v, τ, G, J.ofTry I.ok, r, q⟩
    | brk => obtain ⟨τ, G, J, q⟩ := q; exact ⟨τ, G, J.ofTry I.ok, q⟩
    | cont => obtain ⟨τ, G, J, q⟩ := q; exact ⟨τ, G, J.ofTry I.ok, q⟩
end
end L2
namespace L2
open PySem PySem.Spec PyProof.Rows
theorem takes_len {X : Cx} {W : WX} (t : Takes X W) : Takes X (fun c d σ H => σ.length = X.N.length → W c d σ H) := fun u s2 x => by
  obtain ⟨a, B, sI, ps, σ, H, cls, d, e, I, nb, up, sky, na, os, ag, w⟩ := x
  exact t u s2 ⟨a, B, sI, ps, σ, H, cls, d, e, I, nb, up, sky, na, os, ag, w I.len⟩
/-- what a clause «except C as e: return [w, repr(e.f)]» asks -/
def askOne (K : PySem.W.Frag) (C : Addr) (f w : Str) (cls : Value) (d : Option Addr) (H : Hp) (Q : VK) : Prop := cls = .ref C ∧ ∃ (dx : Addr) (v : V) (D : PyData), d = some dx ∧ H dx = some (.xd [(f, v)]) ∧ Dp K H v D ∧ D.hasDict = false ∧ D.showable = true ∧ D.depth ≤ 100 ∧
  D.shown.length ≤ sizeLine ∧ ∀ G p, Same H G → H p = none → G p = some (.lst [.str w, .str D.shown]) → Q (.ref p) G
def asks (K : PySem.W.Frag) : List (Addr × Str × Str) → Value → Option Addr → Hp → VK → Prop
  | [], _, _, _, _ => False
  | p :: r, cls, d, H, Q => ∃ b, PySem.W.exmOne K cls (.ref p.1) = some b ∧ (b = true → askOne K p.1 p.2.1 p.2.2 cls d H Q) ∧ (b = false → asks K r cls d H Q)
/-- try: call() / except C as e: return [w, repr(e.f)] .. / return ["none"] -/
def TTref (K : PySem.W.Frag) (l : List (Addr × Str × Str)) : (XK → Hp → VK → Prop) → Hp → VK → Prop := fun tl H Q => tl (fun cls d G => asks K l cls d G Q) H (fun _ G => ([V.str "none"] : List V).length ≤ sizeLine ∧ ∀ p, G p = none → Q (.ref p) (upd G p (.lst [.str "none"])))
structure Ef (K : PySem.W.Frag) (mg : Str → Option Value) (name f : Str) (C : Addr) : Prop where
  g : mg name = some (.ref C)
  xf : XfC K C
  no : PySem.W.findIn K (.ref C) f = some none
end L2
namespace L2
open PySem PySem.Spec PyProof.Rows
def tAsk (K : PySem.W.Frag) (C : Addr) (f w : Str) : Addr → Value → Option Addr → TS := fun a cls d => tRet (tLst (tCons (tC (.str w)) (tCons (tCB (rReprD K) (tCons (tXf a cls d C f (tVar 1)) tNil)) tNil)))
theorem ask_ret {K : PySem.W.Frag} {C a : Addr} {f w : Str} {cls : Value} {d : Option Addr} {H : Hp} {Q : VK} {D : Ends} {σ : St} (len : σ.length = 2) (hQ : D.rt = Q) (h : askOne K C f w cls d H Q) : tAsk K C f w a cls d (offEnds 1 D) (σ.set 1 (some (.ref a))) H := by
  obtain ⟨rfl, dx, v, dd, rfl, hx, dp, nd, sh, de, sz, q⟩ := h
  refine ⟨.ref a, by rw [List.getElem?_set_self (by omega)], rfl, rfl, dx, _, v, rfl, hx, by simp, v, dd, rfl, dp, nd, sh, de, sz, (by show 2 ≤ sizeLine; decide), fun p np => ?_⟩
  show D.rt _ _
  rw [hQ]
  exact q _ p (same_new np) np upd_same
theorem asks_all {K : PySem.W.Frag} {cls : Value} {d : Option Addr} {H : Hp} {Q : VK} {D : Ends} {σ : St} (len : σ.length = 2) (hQ : D.rt = Q) : ∀ {l : List (Addr × Str × Str)}, asks K l cls d H Q →
    wAll K 1 (fun _ _ _ _ => False) D (l.map fun p => (Value.ref p.1, tAsk K p.1 p.2.1 p.2.2)) cls d σ H
  | [], h => h
  | p :: l, h => by
    obtain ⟨b, e, yes, no⟩ := h
    exact ⟨b, e, fun hb a na => ask_ret len hQ (yes hb), fun hb => asks_all len hQ (no hb)⟩
end L2

set_option Elab.async false
set_option linter.all false
set_option maxRecDepth 100000
set_option maxHeartbeats 4000000
/-! list(o), o an instance whose own __iter__ gives a list's iterator and that has an own __len__. -/
namespace L2
open PySem PySem.Spec PyProof.Rows
section
variable {prog : Program} {w : World} {A : Around} {E' : Value → Shared → Prop} {s : Shared} {it l : Addr} {i : Nat} {items : Array Value}
theorem next_one {x : Value} {Q : Option Value → Shared → Prop} (ho : s.heap.get? it = some (GNX.itObj l i)) (hl : s.heap.IsList l items) (hx : items[i]? = some x)
    (hQ : ∀ h2, h2.get? it = some (GNX.itObj l (i + 1)) → Heap.SameBut it s.heap h2 → Q (some x) { s with heap := h2 }) : wpAny (model prog w) A (pyNext (.ref it)) Q E' s := by
  have ty : s.TypeIs (.ref it) "list_iterator" := ⟨_, ho, rfl⟩
  unfold pyNext
  refine wpAny_bind (wpAny_attempt (wpAny_callSpecial?_slot (name := Str.ofString "__next__") ty slot_listiter_next (wpAny_call_entry slot_listiter_next ty entry_listiter_next ?_ (args_listiter_next _))))
  refine wpAny_mono (GNX.next_item (Q := fun v s2 => v = x ∧ Q (some x) s2) ho hl hx fun h2 e sb => ⟨rfl, hQ h2 e sb⟩) (fun f s2 q => ?_) fun _ _ z => z
  obtain ⟨v, rfl, rfl, q⟩ := q
  exact ⟨v, rfl, wpAny_pure q⟩
theorem next_over {Q : Option Value → Shared → Prop} (hh : A.handled = none) (ho : s.heap.get? it = some (GNX.itObj l i)) (hl : s.heap.IsList l items) (hx : items[i]? = none)
    (hQ : ∀ h1 h2, h1.get? it = some (GNX.itEnd i) → Heap.SameBut it s.heap h1 → (∀ b o, h1.get? b = some o → h2.get? b = some o) → Q none { s with heap := h2 }) : wpAny (model prog w) A (pyNext (.ref it)) Q E' s := by
  have ty : s.TypeIs (.ref it) "list_iterator" := ⟨_, ho, rfl⟩
  unfold pyNext
  refine wpAny_bind (wpAny_attempt (wpAny_callSpecial?_slot (name := Str.ofString "__next__") ty slot_listiter_next (wpAny_call_entry slot_listiter_next ty entry_listiter_next ?_ (args_listiter_next _))))
  refine wpAny_mono (GNX.next_end (Q := fun _ _ => False) hh ho hl hx fun h1 h2 e vs e1 sb k _ he _ => ?_) (fun f s2 q => ?_) fun _ _ z => z
  · refine wpAny_bind (wpAny_isInstance (T := "StopIteration") (b := true) ⟨_, he, rfl⟩ isSubtype_stop ?_)
    exact wpAny_pure (hQ h1 h2 e1 sb k)
  · obtain ⟨_, _, z⟩ := q
    exact z.elim
end
section
variable {X : Cx} {pins : List (Addr × Obj)} {σ : St} {H : Hp} {s : Shared} {A A1 : Around} {CX : CXT} {k : Nat} {f : Addr} {fd : FuncData} {ps : List Str} {sp : Sp} {E : XK}
theorem run_sub (sb : Sub X k A) (F : FnOk X.prog X.w X.K X.mg X.base CX k f fd ps sp) (hb : Binds X.K fd ps []) (hx : Passes CX X E) {Q : VK} {us : List Value} {vs : List V} (I : Inv X pins σ H s) (r : Vals vs us) (h : sp vs H Q E) :
    wpAny (model X.prog X.w) A (call (.ref f) us) (EP X pins σ Q) X.xe s := by
  have len : us.length = ps.length := r.length.symm.trans (F.len _ _ _ _ h)
  have b := hb s us I.kIn (by rw [List.append_nil]; exact len)
  rw [List.append_nil] at b
  have e0 : Env0 X.prog X.w X.K X.mg X.base A X.stack s H := { I.env0 with frames := by rw [sb.fr]; exact I.env0.frames }
  refine wpAny_call (codeAny_mono (F.run A X.stack s H ⟨us, []⟩ us vs Q E sb.room e0 b r h) fun z s2 q => ?_)
  rcases z with e | fl
  · exact hx pins σ H s e s2 I q
  · rcases fl with _ | _ | _ | u <;> first | exact False.elim q | exact I.after q
/-- the list at q takes the rest of the list at l -/
theorem it_fill {q it l : Addr} {xs : List V} {H0 : Hp} {Rs : Result → Shared → Prop} (hh : A1.in1.handled = none) (hl : H0 l = some (.lst xs)) (lq : l ≠ q) (li : l ≠ it) (iq : it ≠ q) (hsz : xs.length < sizeLine)
    (fin : ∀ H2 s2, Inv X pins σ H2 s2 → H2 q = some (.lst xs) → (∀ b o, b ≠ q → b ≠ it → H0 b = some o → H2 b = some o) → Rs (.ok (.ret .none)) s2) :
    ∀ (k i : Nat) (H : Hp) (s : Shared), i + k = xs.length → Inv X pins σ H s → H q = some (.lst (xs.take i)) → H it = some (ItO l it i) → (∀ b o, b ≠ q → b ≠ it → H0 b = some o → H b = some o) →
      codeAny (model X.prog X.w) A1 (.builtin "list.extend.loop" ⟨[.ref q, .ref it, .none], []⟩) Rs s := by
  intro k
  induction k with
  | zero =>
    intro i H s hi I hq hit hk
    have ei : i = xs.length := hi
    subst ei
    rw [List.take_length] at hq
    refine codeAny_builtin PySem.F.entry_extend_loop ?_
    rw [Around.under_plainId PySem.F.plain_extend_loop _]
    obtain ⟨its, rv, pl, _⟩ := I.list (SqL.of (hk _ _ lq li hl))
    have mu : Mut (H it) := by rw [hit]; exact True.intro
    have z : its.toArray[xs.length]? = none := by rw [List.getElem?_toArray]; exact List.getElem?_eq_none (Nat.le_of_eq rv.length.symm)
    show wpAny _ A1.in1 (pyNext (.ref it) >>= _) _ _ s
    refine wpAny_bind (next_over hh (itO_get I hit) pl.isList z fun h1 h2 e1 sb kp => ?_)
    have I1 : Inv X pins σ (upd H it (ItE it xs.length)) { s with heap := h1 } := I.write (x := it) (e := it) (t' := s.toks) mu (.inl rfl) (fun b o nb e => (sb.2 b nb).trans e) ⟨_, e1⟩ (itE_ok e1)
    refine wpAny_pure (fin (upd H it (ItE it xs.length)) { s with heap := h2 } (I1.kept (t' := s.toks) kp) ?_ fun b o b1 b2 e => ?_)
    · rw [upd_ne (Ne.symm iq)]
      exact hq
    · rw [upd_ne b2]
      exact hk b o b1 b2 e
  | succ k ih =>
    intro i H s hi I hq hit hk
    have lt : i < xs.length := by omega
    refine codeAny_builtin PySem.F.entry_extend_loop ?_
    rw [Around.under_plainId PySem.F.plain_extend_loop _]
    obtain ⟨its, rv, pl, _⟩ := I.list (SqL.of (hk _ _ lq li hl))
    have mu : Mut (H it) := by rw [hit]; exact True.intro
    obtain ⟨u, hu, ru⟩ := rv.get (List.getElem?_eq_getElem lt)
    show wpAny _ A1.in1 (pyNext (.ref it) >>= _) _ _ s
    refine wpAny_bind (next_one (x := u) (itO_get I hit) pl.isList (by rw [List.getElem?_toArray]; exact hu) fun h2 e2 sb => ?_)
    have I1 : Inv X pins σ (upd H it (ItO l it (i + 1))) { s with heap := h2 } := I.write (x := it) (e := it) (t' := s.toks) mu (.inl rfl) (fun b o nb e => (sb.2 b nb).trans e) ⟨_, e2⟩ (itO_ok e2)
    have hq1 : upd H it (ItO l it (i + 1)) q = some (.lst (xs.take i)) := by rw [upd_ne (Ne.symm iq)]; exact hq
    obtain ⟨_, its2, c2, r2, len2, e3⟩ := I1.lstM hq1
    have l2 : its2.length = i := by rw [← r2.length, List.length_take]; omega
    refine wpAny_bind (m := updateSeq q (·.push u)) (wpAny_updateSeq e3 rfl ?_ (by rw [List.size_toArray]; omega) (by show (its2.toArray.push u).size ≤ sizeLine + 1; rw [Array.size_push, List.size_toArray]; omega))
    refine wpAny_pure ⟨plainId_quiet PySem.F.plain_extend_loop _, ih (i + 1) _ _ (by omega) (I1.lset (its' := its2 ++ [u]) (ys := xs.take i ++ [xs[i]]) (t' := s.toks) hq1 e3 (by simp) (r2.append (.cons ru .nil)) ?_) ?_ ?_ fun b o b1 b2 e => ?_⟩
    · rw [List.length_append, List.length_singleton, List.length_take]
      omega
    · rw [upd_same, List.take_add_one, List.getElem?_eq_getElem lt]
      rfl
    · rw [upd_ne iq, upd_same]
    · rw [upd_ne b1, upd_ne b2]
      exact hk b o b1 b2 e
end
end L2

set_option Elab.async false
set_option linter.all false
set_option maxRecDepth 100000
set_option maxHeartbeats 4000000
namespace L2
open PySem PySem.Spec PyProof.Rows
section
variable {X : Cx} {pins : List (Addr × Obj)} {σ : St} {H : Hp} {s : Shared} {A A1 : Around}
variable {kL : Nat} {fl C a dx : Addr} {fs : List (Str × V)} {fdL : FuncData} {psL : List Str} {spL : Sp} {EL : XK}
theorem run_sub0 {k : Nat} {f : Addr} {fd : FuncData} {ps : List Str} {sp : Sp} {E : XK} (sb : Sub X k A) (F : FnOk X.prog X.w X.K X.mg X.base CX0 k f fd ps sp) (hb : Binds X.K fd ps []) {Q : VK} {us : List Value} {vs : List V} (I : Inv X pins σ H s) (r : Vals vs us)
    (h : sp vs H Q E) : wpAny (model X.prog X.w) A (call (.ref f) us) (EP X pins σ Q) (fun _ _ => False) s := by
  have len : us.length = ps.length := r.length.symm.trans (F.len _ _ _ _ h)
  have b := hb s us I.kIn (by rw [List.append_nil]; exact len)
  rw [List.append_nil] at b
  have e0 : Env0 X.prog X.w X.K X.mg X.base A X.stack s H := { I.env0 with frames := by rw [sb.fr]; exact I.env0.frames }
  refine wpAny_call (codeAny_mono (F.run A X.stack s H ⟨us, []⟩ us vs Q E sb.room e0 b r h) fun z s2 q => ?_)
  rcases z with e | fl
  · exact q
  · rcases fl with _ | _ | _ | u <;> first | exact False.elim q | exact I.after q
theorem hint_own (sb : Sub X (kL + 1) A) (hs : PySem.W.findIn X.K (.ref C) "__len__" = some (some (.ref fl))) (hf : PySem.W.isFn X.K (.ref fl) = true) (FL : FnOk X.prog X.w X.K X.mg X.base CX0 kL fl fdL psL spL) (bL : Binds X.K fdL psL [])
    (I : Inv X pins σ H s) (ha : H a = some (.ins C dx fs)) (hsp : spL [.ref a] H (fun v H2 => ∃ n : Nat, v = .int n ∧ n ≤ 100000 ∧ H2 = H) EL) {Q : Bool → Shared → Prop} {E' : Value → Shared → Prop} (q : ∀ b s2, Inv X pins σ H s2 → Q b s2) :
    wpAny (model X.prog X.w) A (Builtin.List.listLengthHint (.ref a)) Q E' s := by
  obtain ⟨mA, O, _, _, _, _⟩ := ins_get I.hok ha
  obtain ⟨od, J, _⟩ := O.look
  obtain ⟨m, hF⟩ := I.fr
  have said : wpAny (model X.prog X.w) A (call (.builtin "len") [.ref a]) (fun r s2 => ∃ (n : Nat) (t : Tok), r = .int n t ∧ n ≤ 100000 ∧ Inv X pins σ H s2) (fun _ _ => False) s := by
    refine PySem.W.len_K hF I.ok.mod.kin J hs hf (wpAny_mono (run_sub0 (vs := [.ref a]) (us := [.ref a]) (Sub.in1 sb) FL bL I (.cons rfl .nil) hsp) (fun r s2 z => ?_) fun _ _ z => z)
    obtain ⟨w2, H2, I2, rw2, n, rfl, hn, rfl⟩ := z
    obtain ⟨t, rfl⟩ := rw2
    exact ⟨⟨by omega, by omega⟩, n, _, rfl, hn, I2.tok _⟩
  unfold Builtin.List.listLengthHint
  refine wpAny_bind (wpAny_bind (J.type.here ((PySem.W.looks_findIn I.kIn hs).here ?_)))
  refine PySem.W.KFB.if_not rfl ?_
  refine wpAny_ite_split (fun _ => ?_) (fun z => absurd rfl z)
  refine wpAny_bind (wpAny_rule ?_)
  refine wpAny_bind (wpAny_attempt (wpAny_mono said (fun r s2 z => ?_) fun _ _ z => z.elim))
  obtain ⟨n, t, rfl, hn, I2⟩ := z
  refine wpAny_bind (wpAny_of_eq (a := some (n : Int)) rfl ?_)
  refine PySem.W.KFB.if_not ?_ (wpAny_pure (q _ _ I2))
  exact notLongL (by show n ≤ sizeLine; rw [sizeLine_eq]; omega)
theorem upd_self {q : Addr} {o : HO} (h : H q = some o) : upd H q o = H := by
  funext b
  by_cases e : b = q
  · rw [e, upd_same, h]
  · rw [upd_ne e]
/-- room is made in an empty list -/
theorem touch_own {q : Addr} {E' : Value → Shared → Prop} {Q : Unit → Shared → Prop} (I : Inv X pins σ H s) (hq : H q = some (.lst [])) (h : ∀ s2, Inv X pins σ H s2 → Q () s2) :
    wpAny (model X.prog X.w) A (updateSeq q (·.push .none) >>= fun _ => updateSeq q (·.pop)) Q E' s := by
  obtain ⟨_, its, c, r, _, e⟩ := I.lstM hq
  cases r
  have one : 1 ≤ sizeLine := by rw [sizeLine_eq]; decide
  have I1 := I.lset (f := (·.push Value.none)) (its' := [Value.none]) (ys := [.non]) (t' := s.toks) hq e (by simp) (.cons rfl .nil) one
  refine wpAny_bind (wpAny_updateSeq e rfl ?_)
  obtain ⟨_, its2, c2, r2, _, e2⟩ := I1.lstM upd_same
  obtain ⟨v, rfl, _⟩ := vals1 r2
  have I2 := I1.lset (f := (·.pop)) (its := [v]) (its' := []) (ys := []) (t' := s.toks) upd_same e2 (by rfl) .nil (Nat.zero_le _)
  rw [upd_upd, upd_self hq] at I2
  exact wpAny_updateSeq e2 rfl (h _ I2) one (Nat.zero_le _)
variable {kI : Nat} {fi l q : Addr} {fdI : FuncData} {psI : List Str} {spI : Sp} {EI : XK} {xs : List V} {Rs : Result → Shared → Prop}
theorem extend_own (sbL : Sub X (kL + 1) A1.in1) (sbI : Sub X kI A1.in1) (hs : PySem.W.findIn X.K (.ref C) "__len__" = some (some (.ref fl))) (hf : PySem.W.isFn X.K (.ref fl) = true) (FL : FnOk X.prog X.w X.K X.mg X.base CX0 kL fl fdL psL spL) (bL : Binds X.K fdL psL [])
    (hi : PySem.W.findIn X.K (.ref C) "__iter__" = some (some (.ref fi))) (hfi : PySem.W.isFn X.K (.ref fi) = true) (FI : FnOk X.prog X.w X.K X.mg X.base CX0 kI fi fdI psI spI) (bI : Binds X.K fdI psI [])
    (hh : A1.in1.handled = none) (I : Inv X pins σ H s) (ha : H a = some (.ins C dx fs)) (hq : H q = some (.lst [])) (hl : H l = some (.lst xs)) (lq : l ≠ q) (hsz : xs.length < sizeLine)
    (qI : spI [.ref a] H (fun v H2 => ∃ it, v = .ref it ∧ H it = none ∧ H2 = upd H it (ItO l it 0)) EI)
    (qL : ∀ H2, H2 a = some (.ins C dx fs) → H2 l = some (.lst xs) → (∀ b o, H b = some o → H2 b = some o) → spL [.ref a] H2 (fun v H3 => ∃ n : Nat, v = .int n ∧ n ≤ 100000 ∧ H3 = H2) EL)
    (fin : ∀ H2 s2, Inv X pins σ H2 s2 → H2 q = some (.lst xs) → (∀ b o, b ≠ q → H b = some o → H2 b = some o) → Rs (.ok (.ret .none)) s2) :
    wpAny (model X.prog X.w) A1.in1 (Builtin.List.listExtendWith (.ref q) (.ref a) .none) (fun f s2 => match f with | .done r => Rs (.ok r) s2 | .again c => c.quiet = true ∧ codeAny (model X.prog X.w) A1 c Rs s2) (fun e s2 => Rs (.error e) s2) s := by
  have qa : q ≠ a := ne_of hq ha fun z => by cases z
  obtain ⟨mA, O, _, _, _, _⟩ := ins_get I.hok ha
  obtain ⟨od, J, _⟩ := O.look
  obtain ⟨m, hF⟩ := I.fr
  unfold Builtin.List.listExtendWith
  refine wpAny_bind (J.type.here ?_)
  have g1 : Builtin.List.listSameRef (.ref q) (.ref a) = false := by simp [Builtin.List.listSameRef, qa]
  have g2 : (Value.ref C == Value.type "list" || Value.ref C == Value.type "tuple") = false := rfl
  refine PySem.W.KFB.if_not (by rw [g1]; exact g2) ?_
  refine wpAny_bind (PySem.W.owit_iter hF I.ok.mod.kin J hi hfi (wpAny_mono (run_sub0 (vs := [.ref a]) (us := [.ref a]) sbI FI bI I (.cons rfl .nil) qI) (fun r s2 z => ?_) fun _ _ z => z.elim))
  obtain ⟨w2, H2, I2, rw2, it, rfl, nit, rfl⟩ := z
  cases rw2
  have hit : upd H it (ItO l it 0) it = some (ItO l it 0) := upd_same
  have old : ∀ b o, H b = some o → upd H it (ItO l it 0) b = some o := fun b o e => by
    rw [upd_ne (ne_of_none e nit)]
    exact e
  have ty : s2.TypeIs (.ref it) "list_iterator" := ⟨_, itO_get I2 hit, rfl⟩
  unfold PySem.W.OwitIt
  refine wpAny_specialOf (name := Str.ofString "__next__") ty slot_listiter_next.lookup ?_
  refine wpAny_bind (wpAny_holding (hint_own sbL hs hf FL bL I2 (old _ _ ha) (qL _ (old _ _ ha) (old _ _ hl) old) fun b s3 I3 => ?_))
  · have loop : ∀ s4, Inv X pins σ (upd H it (ItO l it 0)) s4 → codeAny (model X.prog X.w) A1 (.builtin "list.extend.loop" ⟨[.ref q, .ref it, .none], []⟩) Rs s4 := fun s4 I4 =>
      it_fill (H0 := H) hh hl lq (ne_of_none hl nit) (Ne.symm (ne_of_none hq nit)) hsz (fun H5 s5 I5 h5 k5 => fin H5 s5 I5 h5 fun b o nb e => k5 b o nb (ne_of_none e nit) e) xs.length 0 _ s4 (Nat.zero_add _) I4 (old _ _ hq) hit fun b o _ _ e => old b o e
    refine wpAny_ite_split (fun _ => ?_) (fun _ => wpAny_pure ⟨plainId_quiet PySem.F.plain_extend_loop _, loop _ I3⟩)
    refine wpAny_bind (wpAny_rule ?_)
    refine wpAny_bind (touch_own I3 (old _ _ hq) fun s4 I4 => ?_)
    exact wpAny_pure ⟨plainId_quiet PySem.F.plain_extend_loop _, loop _ I4⟩
/-- list(o) -/
def rListOwn (C : Addr) (spI spL : Sp) (EI EL : XK) : List V → Hp → VK → Prop := fun vs H Q => ∃ (a dx l : Addr) (fs : List (Str × V)) (xs : List V), vs = [.ref a] ∧ H a = some (.ins C dx fs) ∧ H l = some (.lst xs) ∧ xs.length < sizeLine ∧
  (∀ G, (∀ b o, H b = some o → G b = some o) → spI [.ref a] G (fun v H2 => ∃ it, v = .ref it ∧ G it = none ∧ H2 = upd G it (ItO l it 0)) EI) ∧
  (∀ G, (∀ b o, H b = some o → G b = some o) → spL [.ref a] G (fun v H3 => ∃ n : Nat, v = .int n ∧ n ≤ 100000 ∧ H3 = G) EL) ∧
  ∀ G q, Same H G → H q = none → G q = some (.lst xs) → Q (.ref q) G
theorem call_listIt (hs : PySem.W.findIn X.K (.ref C) "__len__" = some (some (.ref fl))) (hf : PySem.W.isFn X.K (.ref fl) = true) (FL : FnOk X.prog X.w X.K X.mg X.base CX0 kL fl fdL psL spL) (bL : Binds X.K fdL psL [])
    (hi : PySem.W.findIn X.K (.ref C) "__iter__" = some (some (.ref fi))) (hfi : PySem.W.isFn X.K (.ref fi) = true) (FI : FnOk X.prog X.w X.K X.mg X.base CX0 kI fi fdI psI spI) (bI : Binds X.K fdI psI [])
    (hrL : Room (kL + 3) X.A) (hrI : Room (kI + 2) X.A) : CallR X (.type "list") (rListOwn C spI spL EI EL) := by
  intro pins s σ H vs us Q I rv h
  obtain ⟨a, dx, l, fs, xs, rfl, ha, hl, hz, qI, qL, q⟩ := h
  obtain ⟨u, rfl, ru⟩ := vals1 rv
  cases ru
  have sbL : Sub X (kL + 1) X.A.in1.in1 := Sub.in1 (Sub.in1 ⟨hrL, rfl⟩)
  have sbI : Sub X kI X.A.in1.in1 := Sub.in1 (Sub.in1 ⟨hrI, rfl⟩)
  refine callType_codes (Q₁ := fun o s1 => o = .ref s.heap.objs.size ∧ s1 = { s with heap := s.heap.push { cls := .type "list", data := .seq #[] } }) PySem.F.called_list (PySem.F.typeCall_list_1 _) PySem.F.entry_list_init (code_list_new _ ⟨rfl, rfl⟩) fun o s1 h1 => ?_
  obtain ⟨rfl, rfl⟩ := h1
  have there : (s.heap.push { cls := .type "list", data := .seq #[] }).get? s.heap.objs.size = some { cls := .type "list", data := .seq #[] } := Heap.get?_push_size _ rfl
  refine ⟨⟨_, there, rfl⟩, PySem.F.args_list_init_2 _ _, ?_⟩
  have nq : H s.heap.objs.size = none := I.hok.fresh (Nat.le_refl _)
  have old : ∀ b o, H b = some o → upd H s.heap.objs.size (.lst []) b = some o := same_new nq
  have I1 : Inv X pins σ (upd H s.heap.objs.size (.lst [])) { s with heap := s.heap.push { cls := .type "list", data := .seq #[] } } := I.lnew (its := []) (t' := s.toks) .nil (Nat.zero_le _)
  show wpAny _ _ (Builtin.List.listItems (.ref s.heap.objs.size) >>= fun z => updateSeq s.heap.objs.size (fun _ => #[]) >>= fun _ => letGo z.toList.reverse >>= fun _ => Builtin.List.listExtendWith (.ref s.heap.objs.size) (.ref a) .none) _ _ _
  refine wpAny_bind (m := Builtin.List.listItems _) ?_
  unfold Builtin.List.listItems
  refine wpAny_bind (wpAny_seqItems there rfl (wpAny_pure (wpAny_bind (wpAny_updateSeq there rfl (wpAny_bind (wpAny_letGo ?_))))))
  have I2 := I1.lset (f := fun _ => #[]) (its := []) (its' := []) (ys := []) (t' := s.toks) upd_same there rfl .nil (Nat.zero_le _)
  rw [upd_upd] at I2
  exact extend_own (A1 := X.A.in1) (l := l) (xs := xs) (spI := spI) (spL := spL) (EI := EI) (EL := EL) (Rs := wants (fun r s2 => r = .none ∧ EP X pins σ Q (.ref s.heap.objs.size) s2) X.xe) sbL sbI hs hf FL bL hi hfi FI bI hrL.hd I2 (old _ _ ha) upd_same (old _ _ hl) (ne_of_none hl nq) hz
    (qI _ old) (fun G h1 h2 h3 => qL G fun b o e => h3 b o (old b o e)) fun G s2 J hq k => ⟨rfl, .ref s.heap.objs.size, G, J, rfl, q G _ (fun b o e => k b o (ne_of_none e nq) (old b o e)) nq hq⟩
end
end L2

set_option Elab.async false
set_option linter.all false
set_option maxRecDepth 100000
set_option maxHeartbeats 4000000
/-! The end of a law whose defs make lambdas and ask that no guarded built-in runs beneath. -/
namespace L2
open PySem PySem.Spec PyProof.Rows
/-- the abstract heap of the script and of tables of code objects -/
theorem script_heapT {P : Program} {w : World} {K : PySem.W.Frag} {h : Heap} {a : Addr} {vs : List Value} {ns : List Int} {T : List Addr} (X : K.In h) (ha : h.get? a = some { cls := .type "list", data := .seq vs.toArray }) (hi : IntsAre vs ns) (hl : ns.length ≤ sizeLine)
    (hT : ∀ p ∈ T, h.get? p = some { cls := .none, data := .fields #[] }) :
    ∃ H : Hp, SqL K H a (ns.map V.int) ∧ HOk P w H h ∧ (∀ p ∈ T, H p = some (.tbl #[])) ∧ ∀ b, H b = none ∨ (b ∈ T ∧ H b = some (.tbl #[])) ∨ (b = a ∧ K.lookup a = none ∧ ∃ o xs, H b = some (.frz o (.lst xs))) := by
  obtain ⟨H0, hS, hok, hA⟩ := script_heap (P := P) (w := w) X ha hi hl
  have aT : a ∉ T := fun z => by
    have e := (hT a z).symm.trans ha
    cases e
  have out : ∀ b, b ∉ T → (if b ∈ T then some (HO.tbl #[]) else H0 b) = H0 b := fun b n => if_neg n
  refine ⟨fun b => if b ∈ T then some (.tbl #[]) else H0 b, ?_, fun b u z => ?_, fun p hp => if_pos hp, fun b => ?_⟩
  · unfold SqL Rd at hS ⊢
    simp only [if_neg aT]
    exact hS
  · by_cases hb : b ∈ T
    · cases (if_pos hb).symm.trans z
      exact hT b hb
    · have z2 := (if_neg hb).symm.trans z
      obtain ⟨_, _, o, xs, rfl⟩ := hA b u z2
      exact hok b _ z2
  · by_cases hb : b ∈ T
    · exact .inr (.inl ⟨hb, if_pos hb⟩)
    · dsimp only
      rw [if_neg hb]
      cases q : H0 b with
      | none => exact .inl rfl
      | some u =>
        obtain ⟨e1, e2, o, xs, rfl⟩ := hA b u q
        exact .inr (.inr ⟨e1, e2, o, xs, rfl⟩)
theorem law_callGT {P : Program} {w : World} {K : PySem.W.Frag} {mg mb : Str → Option Value} {k : Nat} {fa a : Addr} {cs : List (Addr × Addr)} {fd : FuncData} {x : Str} {sp : Sp} {s1 : Shared} {vs : List Value} {ns : List Int} (KX : K.In s1.heap) (hns : s1.heap.Ns mainGlobals mg)
    (hb : s1.heap.Ns builtinsNs mb ∧ ∀ y : Str, y ≠ "__name__" → mb y = bootBuiltins y) (hlim : s1.heap.NoLimit) (hg : s1.gens = #[]) (hT : ∀ p ∈ cs, s1.heap.get? p.2 = some { cls := .none, data := .fields #[] }) (nT : ∀ p ∈ cs, K.lookup p.2 = none) (hC : ∀ p ∈ cs, PySem.W.CodeHd s1.heap p.1 p.2)
    (hm : ∃ (bm : Addr) (ob : Obj), mg "__builtins__" = some (.ref bm) ∧ bm ≠ builtinsNs ∧ s1.heap.get? bm = some ob ∧ ob.cls = .type "module" ∧ ob.dict = some builtinsNs ∧ ob.data = .plain) (ha : s1.heap.get? a = some { cls := .type "list", data := .seq vs.toArray }) (hi : IntsAre vs ns) (hl : ns.length ≤ sizeLine)
    (hr : Room k callerA) (F : ∀ b0 : Heap, K.In b0 → b0.Ns mainGlobals mg → (∀ p ∈ cs, LamX.TabB b0 mg p.1 p.2) → FnG P w K mg b0 CX0 k fa fd [x] sp) (bind : ∀ (s : Shared) (u : Value), BindsTo s fd ⟨[u], []⟩ [(x, u)])
    (hsp : ∀ H : Hp, (∀ p ∈ cs, H p.2 = some (.tbl #[])) → SqL K H a (ns.map V.int) → sp [.ref a] H (fun v _ => v = .bl true) fun _ _ _ => False) (noX : ∀ H e s', CX0 [] H s1 (fun _ _ _ => False) e s' → False) :
    codeAny (model P w) callerA (.call (.ref fa) ⟨[.ref a], []⟩) (fun r s' => r = .ok (.ret (.bool true)) ∧ OldK s1.heap s'.heap ∧ s'.os = s1.os ∧ AllBare s'.gens) s1 := by
  have inT : ∀ {b}, b ∈ cs.map (·.2) → s1.heap.get? b = some { cls := .none, data := .fields #[] } := fun {b} m => by
    obtain ⟨p, hp, e⟩ := List.mem_map.mp m
    exact e ▸ hT p hp
  obtain ⟨H, hS, hok, hH, tell⟩ := script_heapT (P := P) (w := w) (T := cs.map (·.2)) KX ha hi hl fun _ m => inT m
  have tabs : ∀ p ∈ cs, H p.2 = some (.tbl #[]) := fun p hp => hH _ (List.mem_map.mpr ⟨p, hp, rfl⟩)
  -- what is neither the script nor a table is in the ground
  have base1 : ∀ {b : Addr} {o : Obj}, s1.heap.get? b = some o → (∀ v n, o.data ≠ .seq v n) → o.data ≠ .fields #[] → (hidT s1.heap H).get? b = some o := fun {b o} e n1 n2 => hidT_get e (by
    rcases tell b with z | ⟨m, _⟩ | ⟨z, _⟩
    · exact z
    · cases e.symm.trans (inT m)
      exact (n2 rfl).elim
    · rw [z, ha] at e
      cases e
      exact (n1 _ _ rfl).elim)
  have low : ∀ {b : Addr} {m : Str → Option Value}, s1.heap.Ns b m → (hidT s1.heap H).Ns b m := fun {b m} n => by
    obtain ⟨o, es, ep, e, d, r⟩ := n
    exact ⟨o, es, ep, base1 e (fun v n z => by rw [d] at z; cases z) (fun z => by rw [d] at z; cases z), d, r⟩
  have kin : K.In (hidT s1.heap H) := fun b o e => hidT_get (KX b o e) (by
    rcases tell b with z | ⟨m, _⟩ | ⟨z, y, _⟩
    · exact z
    · obtain ⟨p, hp, ep⟩ := List.mem_map.mp m
      rw [← ep, nT p hp] at e
      cases e
    · rw [z, y] at e
      cases e)
  have tb : ∀ p ∈ cs, LamX.TabB (hidT s1.heap H) mg p.1 p.2 := fun p hp => by
    have hp2 := hT p hp
    obtain ⟨og, eg, pg, gg, dg, _⟩ := hns
    refine ⟨?_, ?_, fun z => by rw [z, hp2] at gg; cases gg; cases dg⟩
    · obtain ⟨o, v, c3, c4, c5, c6, c7, c8, c9, e1, e2, e3, e4, rest⟩ := hC p hp
      exact ⟨o, v, c3, c4, c5, c6, c7, c8, c9, base1 e1 (fun v n z => by rw [e3] at z; cases z) (fun z => by rw [e3] at z; cases z; simp at e4), e2, e3, e4, rest⟩
    · obtain ⟨bm, ob, b1, b2, b3, b4, b5, b6⟩ := hm
      refine ⟨bm, ob, b1, b2, fun z => ?_, fun z => ?_, base1 b3 (fun v n z => by rw [b6] at z; cases z) (fun z => by rw [b6] at z; cases z), b4, b5, b6⟩
      · rw [z, gg] at b3
        cases b3
        rw [dg] at b6
        cases b6
      · rw [z, hp2] at b3
        cases b3
        cases b6
  obtain ⟨mc, l1, l2⟩ := hlim
  have e0 : Env0 P w K mg (hidT s1.heap H) callerA [] s1 H :=
    { frames := rfl, mod := { kin := kin, glob := low hns, blt := ⟨mb, low hb.1, hb.2⟩, nolimit := ⟨mc, low l1, l2⟩ }, bs := fun _ _ e => of_hidT e, bsz := Nat.le_of_eq (hidT_size _ _), funs := trivial, frf := fun _ z => (nomatch z), hok := hok, bare := .of_eq hg }
  refine codeAny_mono ((F _ kin (low hns) tb).go callerA [] s1 H _ [.ref a] [.ref a] _ _ rfl hr e0 (bind s1 (.ref a)) (.cons rfl .nil) (hsp H tabs hS)) fun r s2 h => ?_
  rcases r with e | fl
  · exact (noX H e s2 h).elim
  rcases fl with _ | _ | _ | u <;> try exact False.elim h
  obtain ⟨v, H2, os, bare, un, ok2, rv, q⟩ := h
  cases (q : v = .bl true)
  cases (rv : u = Value.bool true)
  have grown : ∀ p ∈ cs, ∃ more : Array Value, s2.heap.get? p.2 = some { cls := .none, data := .fields more } := fun p hp => by
    obtain ⟨more, z⟩ := un.tbls p.2 #[] (tabs p hp)
    exact ⟨_, ok2 p.2 _ z⟩
  have rest : ∀ b o, b ∉ cs.map (·.2) → s1.heap.get? b = some o → s2.heap.get? b = some o := fun b o n e => by
    rcases tell b with z | ⟨m, _⟩ | ⟨_, _, ob, xs, z⟩
    · exact un.keep b o e z (fun y => by cases y) fun y => by cases y
    · exact (n m).elim
    · have k1 := (hok b _ z).1
      rw [← e, k1] at *
      exact (ok2 b _ (un.frzs b ob _ z)).1
  refine ⟨rfl, ⟨fun b o e => ?_, fun b o e => ?_⟩, os, bare⟩
  · by_cases m : b ∈ cs.map (·.2)
    · obtain ⟨p, hp, rfl⟩ := List.mem_map.mp m
      obtain ⟨more, hm2⟩ := grown p hp
      cases e.symm.trans (hT p hp)
      exact .inr (.inl ⟨((hC p hp).tab (hT p hp)).isCodeTable, rfl, #[], more, rfl, by rw [Array.empty_append]; exact hm2⟩)
    · exact .inl (rest b o m e)
  · by_cases m : b ∈ cs.map (·.2)
    · obtain ⟨p, hp, rfl⟩ := List.mem_map.mp m
      obtain ⟨more, hm2⟩ := grown p hp
      exact ⟨_, hm2⟩
    · exact ⟨o, rest b o m e⟩
/-- what is known of the law's promise at the head's heap h, tables among it -/
def LawAtG (l : PySem.W.OpenLaw) (w : World) (K : PySem.W.Frag) (k n : Nat) (x : Str) (mg : Str → Option Value) (fa : Addr) (h : Heap) : Prop :=
  ∃ (fd : FuncData) (cs : List (Addr × Addr)) (sp : Sp), (∀ p ∈ cs, h.get? p.2 = some { cls := .none, data := .fields #[] } ∧ K.lookup p.2 = none ∧ PySem.W.CodeHd h p.1 p.2) ∧ (∀ (s : Shared) (u : Value), BindsTo s fd ⟨[u], []⟩ [(x, u)]) ∧
    (∀ (H : Hp) (a : Addr) (ns : List Int), ns.length ≤ n → (∀ p ∈ cs, H p.2 = some (.tbl #[])) → SqL K H a (ns.map V.int) → sp [.ref a] H (fun v _ => v = .bl true) fun _ _ _ => False) ∧
    ∀ b0 : Heap, K.In b0 → b0.Ns mainGlobals mg → (∀ p ∈ cs, LamX.TabB b0 mg p.1 p.2) → FnG l.prog w K mg b0 CX0 k fa fd [x] sp
theorem walk_ofGT {l : PySem.W.OpenLaw} {n k : Nat} {q : Program} {loose : List Str} {XP : (Str → Option Value) → Heap → Prop} {YP : World → Heap → Prop} {d : DefRec} {K : Params → PySem.W.Frag} {x : Str} (hn : l.most = some n) (hn2 : n ≤ sizeLine)
    (hdf : d.params.defaults = []) (hr : Room k callerA) (hY : ∀ (w : World) (h : Heap), YP w h → (K w.params).In h)
    (F : ∀ (w : World) (mg : Str → Option Value) (fa : Addr) (h : Heap), YP w h → (K w.params).In h → h.Ns mainGlobals mg → mg d.name = some (.ref fa) →
      (∀ (e : DefRec) (y : Str) (c p : Addr), (recsOf q).find? (fun r => r.name == y) = some e → PySem.W.tabIn (K w.params) y = some (c, p) → PySem.W.CodeHd h c p ∧ h.get? p = some { cls := .none, data := .fields #[] }) → LawAtG l w (K w.params) k n x mg fa h)
    (noX : ∀ (H : Hp) (s : Shared) (e : Value) (s' : Shared), CX0 [] H s (fun _ _ _ => False) e s' → False) : PySem.W.WalkO q loose XP YP l.row.toRowW d [] (fun f vs => PySem.call f vs) := by
  refine Att.attach_call hn hdf fun w s0 s1 mg mb fa o pm cd doc a vs ns G Y _ _ _ hmg hobj hints hlen hg => ?_
  obtain ⟨fd, cs, sp, hT, hb, hsp, hF⟩ := F w mg fa _ Y (hY w _ Y) G.T.g hmg fun _ _ _ _ e1 e2 => PySem.W.tab_of G.T (hY w _ Y) e1 e2
  exact law_callGT (hY w _ Y) G.T.g ⟨G.T.b, G.T.builtins⟩ G.T.nolimit hg (fun p hp => (hT p hp).1) (fun p hp => (hT p hp).2.1) (fun p hp => (hT p hp).2.2) G.T.bmain hobj hints (Nat.le_trans hlen hn2) hr hF hb (fun H => hsp H a ns hlen) fun H => noX H s1
/-- as Fun.okG, the code object being known (a def that makes lambdas) -/
theorem okGC {P : Program} {w : World} {K : PySem.W.Frag} {mg : Str → Option Value} {base : Heap} {k : Nat} {f c : Addr} {ps : List Str} {sp : Sp} {x qual : Str} {st : Stmt} {N : List Str} {oc kV doc pm ct : Value} {od an : Option Addr} {osl : Array (Option Value)}
    (lk : K.lookup f = some ⟨oc, od, .func (PySem.W.fnOf x qual (defArgs st) (defBody st) (defScope st) .none kV doc pm an (.ref c) ct), osl⟩) (hcd : PySem.W.codeIn K (.ref c) qual = true) (S : FnScope N ps (defScope st)) (len : ∀ vs H Q E, sp vs H Q E → vs.length = ps.length)
    (body : ∀ (A : Around) (outer : List Env) (s : Shared) (H : Hp) (vs : List V) (Q : VK) (E : XK), (A.deeper (envOfC qual (defScope st) s.heap.objs.size f (.ref c))).guards = some [] →
      Room k (A.deeper (envOfC qual (defScope st) s.heap.objs.size f (.ref c))) → sp vs H Q E →
      ∃ t, PSs (cxOf CX0 P w K mg base N qual (defScope st) f (.ref c) A outer s H E).nox (defBody st) t ∧ t { nx := fun _ H' => Q .non H', rt := Q } (start N vs) H) :
    FnG P w K mg base CX0 (k + 1) f (PySem.W.fnOf x qual (defArgs st) (defBody st) (defScope st) .none kV doc pm an (.ref c) ct) ps sp := by
  refine { len := len, go := fun A outer s H args us vs Q E hg hr e0 hb r hsp => ?_ }
  have up := fun b o e => (e0.bs b o e).1
  refine Att.call_fn (e0.mod.kin.keeps up) (e0.mod.nolimit.keeps up) lk hcd hr.depth hb ?_ (fun s1 ic => ?_) S.co S.gen S.kind
  · refine List.all_eq_true.mpr fun y hy => ?_
    obtain ⟨n, v⟩ := y
    rcases S.par n (List.of_mem_zip hy).1 with q | q <;> (dsimp only; rw [q]; rfl)
  · obtain ⟨t, ht, hq⟩ := body A outer s H vs Q E hg (hr.deeper _) hsp
    have I := inv_start (CX := CX0) (E := E) S hr.hd e0 (len _ _ _ _ hsp) r ic
    refine wpAny_mono (ht.nox.run [] s1 _ H _ I hq) (fun fl s2 h => ?_) fun _ _ h => h
    cases fl with
    | ret u =>
      obtain ⟨v, _, H2, J, rv, h⟩ := h
      exact ⟨v, H2, J.os, J.bare, J.base, J.hok, rv, h⟩
    | next =>
      obtain ⟨_, H2, J, h⟩ := h
      exact ⟨.non, H2, J.os, J.bare, J.base, J.hok, rfl, h⟩
    | brk => obtain ⟨_, _, _, h⟩ := h; exact h.elim
    | cont => obtain ⟨_, _, _, h⟩ := h; exact h.elim
end L2

set_option Elab.async false
set_option linter.all false
set_option maxRecDepth 100000
set_option maxHeartbeats 4000000
/-! How long the text of a list of pairs of short words is. -/
namespace L2
open PySem PySem.Spec PyProof.Rows
theorem from_len : ∀ (ts : List Str) (k m : Nat) (acc : Str), (∀ t ∈ ts, t.length ≤ m) → (textFrom k acc ts).length ≤ acc.length + ts.length * (m + 2)
  | [], k, m, acc, _ => by
    show acc.length ≤ _
    omega
  | t :: ts, k, m, acc, h => by
    have ih := from_len ts (k + 1) m (acc ++ (if k > 0 then ", " else "" : String) ++ t) fun u hu => h u (List.mem_cons_of_mem _ hu)
    have h1 := h t (List.mem_cons_self ..)
    have h2 : (Str.ofString (if k > 0 then ", " else "")).length ≤ 2 := by
      split <;> decide
    show (textFrom (k + 1) (acc ++ (if k > 0 then ", " else "" : String) ++ t) ts).length ≤ _
    rw [Str.length_append, Str.length_append] at ih
    rw [List.length_cons, Nat.succ_mul]
    omega
def pairD (p : Str × Str) : PyData := .tuple [.str p.1, .str p.2]
theorem pair_text {p : Str × Str} (h1 : (reprText p.1).length ≤ 12) (h2 : (reprText p.2).length ≤ 12) : (pairD p).shown.length ≤ 30 := by
  unfold pairD
  simp only [PyData.shown, PyData.shownAll]
  have e := join_length_add [reprText p.1, reprText p.2] (by simp)
  rw [piled_cons, piled_cons, piled_nil] at e
  unfold tupleText
  rw [Str.length_append, Str.length_append]
  have c1 : (Str.ofString "(").length = 1 := by decide
  have c2 : (Str.ofString (if ([reprText p.1, reprText p.2].length == 1) = true then ",)" else ")")).length ≤ 2 := by
    split <;> decide
  omega
theorem pairs_data_ok : ∀ ps : List (Str × Str), PyData.showableAll (ps.map pairD) = true ∧ PyData.hasDictAll (ps.map pairD) = false ∧ PyData.depthAll (ps.map pairD) ≤ 2
  | [] => ⟨rfl, rfl, by simp [PyData.depthAll]⟩
  | p :: ps => by
    obtain ⟨h1, h2, h3⟩ := pairs_data_ok ps
    refine ⟨?_, ?_, ?_⟩
    · rw [List.map_cons, PyData.showableAll, h1]
      rfl
    · rw [List.map_cons, PyData.hasDictAll, h2]
      rfl
    · simp only [List.map_cons, PyData.depthAll]
      have : (pairD p).depth ≤ 2 := by
        unfold pairD
        simp [PyData.depth, PyData.depthAll]
      omega
theorem pairs_shown : ∀ {ps : List (Str × Str)}, (∀ p ∈ ps, (reprText p.1).length ≤ 12 ∧ (reprText p.2).length ≤ 12) → ∀ t ∈ PyData.shownAll (ps.map pairD), t.length ≤ 30
  | [], _, t, h => by cases h
  | p :: ps, hp, t, h => by
    rw [List.map_cons, PyData.shownAll] at h
    rcases List.mem_cons.mp h with e | e
    · rw [e]
      obtain ⟨h1, h2⟩ := hp p (List.mem_cons_self ..)
      exact pair_text h1 h2
    · exact pairs_shown (fun q hq => hp q (List.mem_cons_of_mem _ hq)) t e
theorem shownAll_len : ∀ ds : List PyData, (PyData.shownAll ds).length = ds.length
  | [] => rfl
  | d :: ds => by
    rw [PyData.shownAll, List.length_cons, List.length_cons, shownAll_len ds]
/-- repr of a list of pairs: all that rReprD asks -/
theorem pairs_repr {ps : List (Str × Str)} (hp : ∀ p ∈ ps, (reprText p.1).length ≤ 12 ∧ (reprText p.2).length ≤ 12) (hl : ps.length ≤ 64) :
    (PyData.list (ps.map pairD)).hasDict = false ∧ (PyData.list (ps.map pairD)).showable = true ∧ (PyData.list (ps.map pairD)).depth ≤ 100 ∧ (PyData.list (ps.map pairD)).shown.length ≤ sizeLine := by
  obtain ⟨h1, h2, h3⟩ := pairs_data_ok ps
  refine ⟨by rw [PyData.hasDict]; exact h2, by rw [PyData.showable]; exact h1, by rw [PyData.depth]; omega, ?_⟩
  rw [PyData.shown]
  unfold listText
  rw [Str.length_append]
  have h4 := from_len (PyData.shownAll (ps.map pairD)) 0 30 "[" (pairs_shown hp)
  rw [shownAll_len, List.length_map] at h4
  have c1 : (Str.ofString "[").length = 1 := by decide
  have c2 : (Str.ofString "]").length = 1 := by decide
  have h5 : ps.length * (30 + 2) ≤ 64 * 32 := Nat.mul_le_mul_right _ hl
  rw [sizeLine_eq]
  omega
theorem Tps.dp {K : PySem.W.Frag} {H : Hp} : ∀ {ys : List V} {ps : List (Str × Str)}, Tps H ys ps → DpAll K H ys (ps.map pairD)
  | [], [], _ => .nil
  | y :: ys, p :: ps, t => by
    obtain ⟨q, rfl, h⟩ := t.2 0 y p rfl rfl
    exact .cons (.tup (SqT.of h) (.cons (.str _) (.cons (.str _) .nil))) (Tps.dp ⟨Nat.succ.inj t.1, fun j z r h1 h2 => t.2 (j + 1) z r (by simpa using h1) (by simpa using h2)⟩)
  | [], _ :: _, t => by cases t.1
  | _ :: _, [], t => by cases t.1
theorem names_short : ∀ z ∈ names8, (reprText z).length ≤ 12 ∧ PyData.strOk z = true := by decide +kernel
theorem strOk_app {a b : Str} (h1 : PyData.strOk a = true) (h2 : PyData.strOk b = true) : PyData.strOk (a ++ b) = true := by
  unfold PyData.strOk at *
  show (a.cps ++ b.cps).all _ = true
  rw [Array.all_append, h1, h2]
  rfl
theorem strOk_from : ∀ {ts : List Str} {k : Nat} {acc : Str}, PyData.strOk acc = true → (∀ t ∈ ts, PyData.strOk t = true) → PyData.strOk (textFrom k acc ts) = true
  | [], _, _, h, _ => h
  | t :: ts, k, acc, h, ht => by
    refine strOk_from (ts := ts) (strOk_app (strOk_app h ?_) (ht t (List.mem_cons_self ..))) fun u hu => ht u (List.mem_cons_of_mem _ hu)
    split <;> decide +kernel
theorem strOk_list {ts : List Str} (h : ∀ t ∈ ts, PyData.strOk t = true) : PyData.strOk (listText ts) = true := strOk_app (strOk_from (by decide +kernel) h) (by decide +kernel)
theorem strOk_one {t : Str} (h : PyData.strOk t = true) : PyData.strOk (tupleText [t]) = true := by
  show PyData.strOk ((("(" : Str) ++ t) ++ ((if ([t] : List Str).length == 1 then ",)" else ")" : String) : Str)) = true
  exact strOk_app (strOk_app (by decide +kernel) h) (by show PyData.strOk (Str.ofString ",)") = true; decide +kernel)
theorem names_text : ∀ z ∈ names8, PyData.strOk (reprText z) = true := by decide +kernel
theorem eqvAll_bls : ∀ bs : List Bool, PyData.eqvAll (bs.map .bool) (bs.map .bool) = true
  | [] => rfl
  | b :: bs => by
    rw [List.map_cons, PyData.eqvAll, eqvAll_bls bs, PyData.eqv]
    simp
theorem lay_bls : ∀ bs : List Bool, PyData.canLayAll0 (bs.map .bool) = true ∧ PyData.depthAll (bs.map .bool) ≤ 1
  | [] => ⟨rfl, by simp [PyData.depthAll]⟩
  | b :: bs => by
    obtain ⟨h1, h2⟩ := lay_bls bs
    refine ⟨by rw [List.map_cons, PyData.canLayAll0, h1]; rfl, ?_⟩
    simp only [List.map_cons, PyData.depthAll, PyData.depth]
    omega
theorem bls_ok (bs : List Bool) : SeqAt.shaped (.list (bs.map .bool)) = true ∧ PyData.eqv (.list (bs.map .bool)) (.list (bs.map .bool)) = true := by
  obtain ⟨h1, h2⟩ := lay_bls bs
  refine ⟨?_, by rw [PyData.eqv, eqvAll_bls]⟩
  unfold SeqAt.shaped
  rw [PyData.canLay0, h1, Bool.true_and, PyData.depth]
  exact decide_eq_true (by omega)
theorem eqvAll_ints : ∀ ns : List Int, PyData.eqvAll (ns.map .int) (ns.map .int) = true
  | [] => rfl
  | n :: ns => by
    rw [List.map_cons, PyData.eqvAll, eqvAll_ints ns, PyData.eqv]
    simp
theorem lay_ints : ∀ ns : List Int, PyData.canLayAll0 (ns.map .int) = true ∧ PyData.depthAll (ns.map .int) ≤ 1
  | [] => ⟨rfl, by simp [PyData.depthAll]⟩
  | n :: ns => by
    obtain ⟨h1, h2⟩ := lay_ints ns
    refine ⟨by rw [List.map_cons, PyData.canLayAll0, h1]; rfl, ?_⟩
    simp only [List.map_cons, PyData.depthAll, PyData.depth]
    omega
theorem ints_ok (ns : List Int) : SeqAt.shaped (.list (ns.map .int)) = true ∧ PyData.eqv (.list (ns.map .int)) (.list (ns.map .int)) = true := by
  obtain ⟨h1, h2⟩ := lay_ints ns
  refine ⟨?_, by rw [PyData.eqv, eqvAll_ints]⟩
  unfold SeqAt.shaped
  rw [PyData.canLay0, h1, Bool.true_and, PyData.depth]
  exact decide_eq_true (by omega)
theorem dp_ints {K : PySem.W.Frag} {H : Hp} : ∀ ns : List Int, DpAll K H (ns.map V.int) (ns.map PyData.int)
  | [] => .nil
  | n :: ns => .cons (.int n) (dp_ints ns)
theorem small_int : ∀ k : Nat, k ≤ 10 → (PyData.int k).showable = true ∧ (PyData.int k).shown.length ≤ sizeLine := by decide +kernel
theorem mem_pairs {zs : List Str} {p : Str × Str} (h : p ∈ pairsOf zs) : p.1 ∈ zs ∧ p.2 ∈ zs ∧ p.1 ≠ p.2 := by
  obtain ⟨a, ha, hp⟩ := List.mem_flatMap.mp h
  obtain ⟨b, hb, rfl⟩ := List.mem_map.mp hp
  obtain ⟨h1, h2⟩ := List.mem_filter.mp hb
  exact ⟨ha, h1, of_decide_eq_true h2⟩
theorem rgV0 (n : Nat) : rgV 0 (n : Int) = ((List.range n).map fun i : Nat => (i : Int)).map V.int := by
  unfold rgV
  rw [List.map_map]
  have e : ((n : Int) - 0).toNat = n := by omega
  rw [e]
  refine List.map_congr_left fun i _ => ?_
  show V.int (0 + (i : Int)) = V.int (i : Int)
  rw [Int.zero_add]
theorem isPair_true {zs : List Str} {p : Str × Str} (h : p ∈ pairsOf zs) : isPairB (.str p.1) (.str p.2) zs = true := by
  obtain ⟨h1, h2, h3⟩ := mem_pairs h
  unfold isPairB
  show (decide (p.1 ∈ zs) && (decide (p.2 ∈ zs) && !decide (V.str p.1 = V.str p.2))) = true
  rw [decide_eq_true h1, decide_eq_true h2, decide_eq_false fun z => h3 (V.str.inj z)]
  rfl
theorem shown_words : ∀ zs : List Str, PyData.shownAll (zs.map .str) = zs.map reprText
  | [] => rfl
  | z :: zs => by
    rw [List.map_cons, PyData.shownAll, shown_words zs, PyData.shown]
    rfl
theorem words_flat : ∀ zs : List Str, PyData.showableAll (zs.map .str) = true ∧ PyData.hasDictAll (zs.map .str) = false
  | [] => ⟨rfl, rfl⟩
  | z :: zs => by
    obtain ⟨h1, h2⟩ := words_flat zs
    exact ⟨by rw [List.map_cons, PyData.showableAll, h1]; rfl, by rw [List.map_cons, PyData.hasDictAll, h2]; rfl⟩
/-- all that repr asks of data, and that its text can be laid -/
def ReprOk (D : PyData) : Prop := D.hasDict = false ∧ D.showable = true ∧ D.depth ≤ 100 ∧ D.shown.length ≤ sizeLine ∧ PyData.strOk D.shown = true
theorem words_repr {zs : List Str} (h : ∀ z ∈ zs, (reprText z).length ≤ 12 ∧ PyData.strOk (reprText z) = true) (hl : zs.length ≤ 8) : ReprOk (.list (zs.map .str)) := by
  obtain ⟨h1, h2⟩ := words_flat zs
  have h3 := depth_strs zs
  refine ⟨by rw [PyData.hasDict]; exact h2, by rw [PyData.showable]; exact h1, by rw [PyData.depth]; omega, ?_, ?_⟩
  · rw [PyData.shown, shown_words]
    unfold listText
    rw [Str.length_append]
    have h4 := from_len (zs.map reprText) 0 12 "[" (fun t ht => by
      obtain ⟨z, hz, rfl⟩ := List.mem_map.mp ht
      exact (h z hz).1)
    rw [List.length_map] at h4
    have c1 : (Str.ofString "[").length = 1 := by decide
    have c2 : (Str.ofString "]").length = 1 := by decide
    have h5 : zs.length * (12 + 2) ≤ 8 * 14 := Nat.mul_le_mul_right _ hl
    rw [sizeLine_eq]
    omega
  · rw [PyData.shown, shown_words]
    exact strOk_list fun t ht => by
      obtain ⟨z, hz, rfl⟩ := List.mem_map.mp ht
      exact (h z hz).2
theorem one_repr : ∀ z ∈ names8, ReprOk (.tuple [.str z]) := by
  unfold ReprOk
  decide +kernel
theorem odd_repr : ReprOk .none ∧ ReprOk (.int 5) ∧ ReprOk (.str "") ∧ ReprOk (.str "nobody") ∧ ReprOk (.str "A") ∧ ReprOk (.bool true) := by
  unfold ReprOk
  decide +kernel
theorem names_not : ∀ z ∈ names8, z ≠ "" ∧ z ≠ "nobody" ∧ z ≠ "A" ∧ z ≠ "ab" := by decide +kernel
theorem tyN_ext {K : PySem.W.Frag} {H : Hp} : True := trivial
end L2

set_option Elab.async false
set_option linter.all false
set_option maxRecDepth 100000
set_option maxHeartbeats 4000000
/-! An own error made by its field's name. -/
namespace Km
open PySem PySem.W PySem.Calls PySem.HandSPX
section
variable {prog : Program} {w : World} {A : Around} {E : Value → Shared → Prop} {R : Result → Shared → Prop} {h : Heap} {g : Array GenState} {d : Drawn} {t : Nat} {os : OsState}
variable {nm q : Str} {C N : Addr} {bs bm bmB : List Value} {hdct : Bool} {sn : List Str} {sub : List Value} {ab : Bool} {col : Option Bool} {dd : Option Addr} {k0 k1 k2 k3 k5 : Option Value} {B newId initId : String} {kw : List (Str × Value)}
theorem kw_check {M : Model} (F : ExcBaseFacts B newId initId bmB) (hT : ∀ X : String, bm.contains (.type X) = bmB.contains (.type X)) {Q : Unit → Shared → Prop}
    (hC : h.get? C = some (excClassObj nm q C N bs bm hdct sn sub ab col dd k0 k1 k2 k3 k5 newId)) (hq : Q () ⟨h, g, d, t, os⟩) :
    wpAny M A (checkBuiltinCall newId ⟨[.ref C], kw⟩) Q E ⟨h, g, d, t, os⟩ := by
  have inB : (Value.ref C :: bm).contains (.type B) = true := by rw [List.contains_cons, hT, F.hasB, Bool.or_true]
  have star := F.noStar
  simp only [checkBuiltinCall, F.newKind, F.newSplit, F.newRow]
  repeat (first
    | refine wpAny_loadPart_at hC ?_
    | (refine wpAny_isSubtype_exc hC ?_; rw [inB])
    | refine wpAny_staticBase_exc hC ?_
    | refine wpAny_madeBy_exc hC ?_
    | simp only [bne_self_eq_false, Bool.false_eq_true, if_false]
    | wp_step)
  exact hq
theorem kw_new (F : ExcBaseFacts B newId initId bmB) (hT : ∀ X : String, bm.contains (.type X) = bmB.contains (.type X))
    (hC : h.get? C = some (excClassObj nm q C N bs bm hdct sn sub ab col dd k0 k1 k2 k3 k5 newId))
    (hq : R (.ok (.ret (.ref (h.objs.size + 1)))) ⟨(h.push (kdv_tup [])).push (excO C h.objs.size), g, d, t, os⟩) :
    codeAny (model prog w) A (.builtin newId ⟨[.ref C], kw⟩) R ⟨h, g, d, t, os⟩ := by
  have ends := F.ends
  have inB : (Value.ref C :: bm).contains (.type B) = true := by rw [List.contains_cons, hT, F.hasB, Bool.or_true]
  have inA : (Value.ref C :: bm).contains (.type "AttributeError") = false := by rw [List.contains_cons, hT, F.noAttr]; rfl
  have inN : (Value.ref C :: bm).contains (.type "NameError") = false := by rw [List.contains_cons, hT, F.noName]; rfl
  refine codeAny_builtinAt F.entry ?_
  unfold Builtin.«BaseException.__new__»
  refine PySem.wpAt_bind ?_
  refine PySem.wpAt_bind (PySem.wpAt_stack fun p below => PySem.wpAt_of_wpAny ?_)
  wp_walk
  refine PySem.wpAt_of_wpAny ?_
  rw [F.owner]
  repeat (first
    | with_reducible refine wpAny_madeHere_exc F.canon hC ?_
    | with_reducible refine wpAny_loadPart_at hC ?_
    | (with_reducible refine wpAny_isSubtype_exc hC ?_; first | rw [inB] | rw [inA] | rw [inN])
    | wp_step)
  show R _ _
  rw [Heap.size_push]
  exact hq
theorem kw_type (F : ExcBaseFacts B newId initId bmB) (hT : ∀ X : String, bm.contains (.type X) = bmB.contains (.type X)) {fI : Addr} {Q : PySem.Fin → Shared → Prop}
    (hC : h.get? C = some (excClassObj nm q C N bs bm hdct sn sub ab col dd k0 k1 k2 k3 k5 newId))
    (hi : W.Looks (model prog w) h (typeLookup (.ref C) "__init__") (some (.ref fI))) (hb : ∀ self, W.Looks (model prog w) h (bindSpecial (.ref fI) self) (.ref fI, [self]))
    (hq : codeAny (model prog w) A (.call (.ref fI) ⟨[.ref (h.objs.size + 1)], kw⟩)
      (fun r s2 => match r with
        | .ok (.ret v) => v = .none ∧ Q (.done (.ret (.ref (h.objs.size + 1)))) s2
        | .ok _ => False
        | .error e => E e s2) ⟨(h.push (kdv_tup [])).push (excO C h.objs.size), g, d, t, os⟩) :
    wpAny (model prog w) A (Builtin.«type.__call__» ⟨[.ref C], kw⟩) Q E ⟨h, g, d, t, os⟩ := by
  repeat (first
    | with_reducible refine wpAny_loadPart_at hC ?_
    | with_reducible refine wpAny_madeBy_exc hC ?_
    | wp_step)
  refine codeAny_call_builtin_code (Code.quiet_builtin _ F.quiet) (kw_check F hT hC ?_)
  refine kw_new F hT hC ?_
  show wpAny _ _ _ _ _ _
  have kept : ∀ b o, h.get? b = some o → ((h.push (kdv_tup [])).push (excO C h.objs.size)).get? b = some o := fun b o z => Heap.get?_push_of_some _ (Heap.get?_push_of_some _ z)
  have hC1 := kept _ _ hC
  have there : ((h.push (kdv_tup [])).push (excO C h.objs.size)).get? (h.objs.size + 1) = some (excO C h.objs.size) := by heap_get
  have inC : (Value.ref C :: bm).contains (.ref C) = true := by simp
  have i1 := hi.keeps kept
  have b1 := (hb (.ref (h.objs.size + 1))).keeps kept
  unfold isInstance
  repeat (first
    | with_reducible refine wpAny_loadPart_at there ?_
    | (with_reducible refine wpAny_isSubtype_exc hC1 ?_; rw [inC])
    | wp_step)
  refine i1.at ?_
  refine wpAny_holding (wpAny_bind (b1.at ?_))
  refine wpAny_bind (wpAny_call (codeAny_mono hq fun r s2 z => ?_))
  cases r with
  | error e => exact z
  | ok fl =>
    cases fl with
    | ret v =>
      obtain ⟨rfl, z⟩ := z
      first
        | exact wpAny_pure (wpAny_pure z)
        | (wp_walk; exact z)
    | _ => exact z.elim
theorem kw_call (F : ExcBaseFacts B newId initId bmB) (hT : ∀ X : String, bm.contains (.type X) = bmB.contains (.type X)) {fI : Addr}
    (hC : h.get? C = some (excClassObj nm q C N bs bm hdct sn sub ab col dd k0 k1 k2 k3 k5 newId))
    (hi : W.Looks (model prog w) h (typeLookup (.ref C) "__init__") (some (.ref fI))) (hb : ∀ self, W.Looks (model prog w) h (bindSpecial (.ref fI) self) (.ref fI, [self]))
    (hq : codeAny (model prog w) (A.under (.builtin "type.__call__" ⟨[.ref C], kw⟩)) (.call (.ref fI) ⟨[.ref (h.objs.size + 1)], kw⟩) (W.InitBack (h.objs.size + 1) R)
      ⟨(h.push (kdv_tup [])).push (excO C h.objs.size), g, d, t, os⟩) : codeAny (model prog w) A (.call (.ref C) ⟨[], kw⟩) R ⟨h, g, d, t, os⟩ := by
  have f1 := tc_lookup
  have f2 := tc_bind (.ref C)
  have ty : (⟨h, g, d, t, os⟩ : Shared).TypeIs (.ref C) "type" := ⟨_, hC, rfl⟩
  refine codeAny_of_tree ?_
  show wpAny _ _ (callAny (.ref C) _) _ _ _
  repeat (any_goals (first
    | assumption
    | with_reducible refine wpAny_loadPart_at hC ?_
    | wp_step))
  refine ⟨rfl, ?_⟩
  refine codeAny_call_builtin_at (Code.quiet_builtin _ (by decide +kernel)) entry_typeCall (wpAny_check_type_call_sub hC (kw_type F hT hC hi hb (codeAny_mono hq fun r s2 z => ?_)))
  cases r with
  | error e => exact z
  | ok fl =>
    cases fl with
    | ret v => exact z
    | _ => exact z
end
end Km


set_option Elab.async false
set_option linter.all false
set_option maxRecDepth 100000
set_option maxHeartbeats 4000000
/-! Errors made by their field's name; errors without an own __init__; isinstance of either. -/
namespace L2
open PySem PySem.Spec PyProof.Rows
section
variable {X : Cx} {CX : CXT} {x f : Str} {C fI : Addr} {k : Nat} {fd : FuncData} {ps : List Str} {sp : Sp} {E : XK} {e : Expr} {te : TE} {p pos kpos : Pos}
/-- C(f=e), of one parameter beside self -/
def tEcK (C : Addr) (sp : Sp) (E : XK) (tk : TA) : TE := fun σ H Q => tk σ H fun zs H1 => ∃ v, zs = [v] ∧ ∀ a, H1 a = none → sp [.ref a, v] (upd H1 a (exo a C none)) (fun w H2 => w = .non ∧ Q (.ref a) H2) E
theorem pe_eck (T : EcC X.K C) (iC : PySem.W.findIn X.K (.ref C) "__init__" = some (some (.ref fI))) (tI : PySem.W.typeIn X.K (.ref fI) = some (.type "function")) (F : FnOk X.prog X.w X.K X.mg X.base CX k fI fd ps sp) (hr : Room (k + 1) X.A)
    (hb : ∀ (s : Shared) (a u : Value), BindsTo s fd ⟨[a], [(f, u)]⟩ (ps.zip [a, u])) (hx : Passes CX X E) (hg : Gl X x) (hm : X.mg x = some (.ref C)) (he : PE X e te) (hdb : (x == ("__debug__" : Str)) = false := by decide)
    (hall : (backToKw pos (keywordEach [⟨some f, e, kpos⟩] X.env)).all (·.1.isSome) = true := by rfl) (hks : (backToKw pos (keywordEach [⟨some f, e, kpos⟩] X.env)).filterMap (·.1) = [f] := by rfl)
    (hpl : ((backTo pos (starEach [] X.env)).any (·.1) || (backToKw pos (keywordEach [⟨some f, e, kpos⟩] X.env)).any (·.1.isNone)) = false := by rfl) : PE X (.Call (.Name x p) [] [⟨some f, e, kpos⟩] pos) (tEcK C sp E (tCons te tNil)) := by
  constructor
  intro pins s σ H Q I h
  refine wpAny_Call_Name_kw (ld_glob I hg hm ?_ hdb)
  refine PySem.W.callWith_KW0 (h₀ := X.base) I.ok.mod.kin T.kC hall ?_ hpl
  refine thn ((pk_cons (nm := some f) (kpos := kpos) he pk_nil).run pos pins s σ H _ I h) fun ws s1 q0 => ?_
  obtain ⟨zs, H1, I1, r1, v, rfl, q1⟩ := q0
  obtain ⟨u, rfl, ru⟩ := vals1 r1
  rw [hks]
  refine ⟨I1.kIn, ?_⟩
  show wpAny _ _ (call (.ref C) [] [(f, u)]) _ _ _
  obtain ⟨B, newId, initId, bmB, FB, SF, hin, hov⟩ := T.base
  obtain ⟨nm, N, qn, bs, bm, hdct, sn, sub, ab, col, dd, k0, k1, k2, k3, k5, hC, hT⟩ := PySem.W.excInit_of I1.kIn hin
  obtain ⟨hp, g, dr, tk, os⟩ := s1
  have n1 : H1 (hp.objs.size + 1) = none := I1.hok.fresh (Nat.le_succ _)
  have q2 := q1 _ n1
  have kept : ∀ b o, hp.get? b = some o → ((hp.push (PySem.W.kdv_tup [])).push (PySem.HandSPX.excO C hp.objs.size)).get? b = some o := fun b o z => Heap.get?_push_of_some _ (Heap.get?_push_of_some _ z)
  have there : ((hp.push (PySem.W.kdv_tup [])).push (PySem.HandSPX.excO C hp.objs.size)).get? (hp.objs.size + 1) = some (PySem.HandSPX.excO C hp.objs.size) := by heap_get
  have J : Inv X pins σ (upd H1 (hp.objs.size + 1) (exo (hp.objs.size + 1) C none)) ⟨(hp.push (PySem.W.kdv_tup [])).push (PySem.HandSPX.excO C hp.objs.size), g, dr, tk, os⟩ :=
    I1.laid (t' := tk) (a := hp.objs.size + 1) (h' := (hp.push (PySem.W.kdv_tup [])).push (PySem.HandSPX.excO C hp.objs.size)) kept (Nat.le_succ _) (exo_ok there)
  have r2 : Vals [V.ref (hp.objs.size + 1), v] [Value.ref (hp.objs.size + 1), u] := .cons rfl (.cons ru .nil)
  refine wpAny_call (Km.kw_call FB hT hC (PySem.W.looks_findIn I1.kIn iC) (fun self => PySem.W.bind_fn I1.kIn self tI) (codeAny_mono (F.run _ X.stack _ _ ⟨[.ref (hp.objs.size + 1)], [(f, u)]⟩ [.ref (hp.objs.size + 1), u] _ _ E (hr.make C [] [(f, u)]) (J.env0.make C [] [(f, u)]) (hb _ _ _) r2 q2) fun z s2 hz => ?_))
  cases z with
  | error er => exact hx pins σ _ _ er s2 J hz
  | ok fl =>
    cases fl with
    | ret w =>
      obtain ⟨v2, H2, os2, bare2, un2, hok2, rv, e2, q3⟩ := hz
      obtain ⟨hh, g2, d2, t2, o2⟩ := s2
      obtain rfl : o2 = os := os2
      subst e2
      exact ⟨rv, .ref (hp.objs.size + 1), H2, J.call (h' := hh) (g' := g2) (d' := d2) (t' := t2) (ch := []) un2 hok2 bare2 (fun b z => absurd z (by simp)), rfl, q3⟩
    | next => exact False.elim hz
    | brk => exact False.elim hz
    | cont => exact False.elim hz
/-- an error, made by an own __init__ or without one, not raised -/
def Held (H : Hp) (a C : Addr) : Prop := (∃ d : Option Addr, H a = some (exo a C d) ∧ ∀ dx, d = some dx → ∃ fs, H dx = some (exd dx fs)) ∨ H a = some (ExO (.ref C) a)
/-- isinstance(x, c), x an error that is held -/
def rIsH (K : PySem.W.Frag) : List V → Hp → VK → Prop := fun xs H Q => ∃ (a C : Addr) (c : V) (cv : Value) (b : Bool), xs = [.ref a, c] ∧ ClsV c cv ∧ ExcC K C ∧ Held H a C ∧ PySem.W.kitOne K (.ref C) cv = some b ∧ Q (.bl b) H
theorem call_isH : CallR X (.builtin "isinstance") (rIsH X.K) := by
  intro pins s σ H xs us Q I r h
  obtain ⟨a, C, c, cv, b, rfl, hc, T, hh, ek, q⟩ := h
  rcases hh with ⟨d, ea, hd⟩ | ea
  · exact call_isV pins s σ H _ us Q I r ⟨a, C, d, c, cv, b, rfl, hc, T, ea, hd, ek, q⟩
  obtain ⟨u1, u2, rfl, r1, r2⟩ := vals2 r
  cases r1
  obtain rfl := hc.eq r2
  obtain ⟨⟨oe, fs, ho, hz, hdat, _, _, _⟩, _, _⟩ := I.hok a _ ea
  have hcl : (PySem.W.clsIn X.K C).isSome = true := by
    obtain ⟨cd, hc, _⟩ := PySem.W.any_some T.hd
    rw [hc] <;> rfl
  have J : PySem.W.InstAt s.heap a oe C none := ⟨ho, hz.1, by rw [PySem.W.notCls, hdat], by rw [hz.2]; trivial⟩
  exact PySem.W.kia_one (PySem.W.kitx_exc hcl T.hg T.hk T.hs T.ha T.hn T.ht T.hm) I.kIn J ek (fun z => nomatch z) fun tk => ⟨.bl b, H, I.kept (t' := tk) fun _ _ z => z, rfl, q⟩
/-- X(), an own error class without own __init__ -/
theorem pe_exc0 {bmB : List Value} {B newId initId : String} (F : ExcBaseFacts B newId initId bmB) (q : PySem.W.excIn X.K C bmB newId = true) (gC : X.mg x = some (.ref C)) (kC : PySem.W.keepIn X.K (.ref C) = true) (hg : Gl X x) (hdb : (x == ("__debug__" : Str)) = false := by decide) :
    PE X (.Call (.Name x p) [] [] pos) (fun σ H Q => ∀ a, H a = none → Q (.ref a) (upd H a (ExO (.ref C) a))) := by
  constructor
  intro pins s σ H Q I h
  refine wpAny_Call_Name_kw (ld_glob I hg gC ?_ hdb)
  refine PySem.W.callWith_K0 I.kIn kC ?_
  obtain ⟨bm, N, nm, qn, bs, hdct, sn, sub, ab, col, dd, k0, k1, k2, k3, k5, mN, hC, hN, hni, T⟩ := exc_obj I.kIn q
  refine wpAny_call_exc_subT (rest := []) F T hC hN hni (fun h2 a hm => ?_) (Nat.zero_le _)
  obtain ⟨t, ht, _⟩ := hm.there
  exact ⟨.ref a, upd H a (ExO (.ref C) a), I.laidN hm.keeps hm.new (I.hok.gone hm.new) (exO_ok ht ⟨rfl, rfl⟩ rfl rfl rfl (show 4 < 6 by decide)), rfl, h a (I.hok.gone hm.new)⟩
end
end L2

set_option Elab.async false
set_option linter.all false
set_option maxRecDepth 100000
set_option maxHeartbeats 4000000
/-! An error class with one field, all that is asked of it; comprehensions with new objects as items. -/
namespace L2
open PySem PySem.Spec PyProof.Rows
structure Ek (P : Program) (w : World) (K : PySem.W.Frag) (mg : Str → Option Value) (base : Heap) (name f : Str) (C : Addr) : Prop where
  g : mg name = some (.ref C)
  ec : EcC K C
  xf : XfC K C
  xc : ExcC K C
  no : PySem.W.findIn K (.ref C) f = some none
  init : ∃ (fI : Addr) (fd : FuncData), PySem.W.findIn K (.ref C) "__init__" = some (some (.ref fI)) ∧ PySem.W.typeIn K (.ref fI) = some (.type "function") ∧ FnOk P w K mg base CX0 1 fI fd ["self", f] (spEcInit K C f) ∧
    Binds K fd ["self", f] [] ∧ ∀ (s : Shared) (a u : Value), BindsTo s fd ⟨[a], [(f, u)]⟩ ((["self", f] : List Str).zip [a, u])
/-- e is a held error of the class at C whose field f is v -/
def Er1 (H : Hp) (C : Addr) (f : Str) (v e : V) : Prop := ∃ a d, e = .ref a ∧ H a = some (exo a C (some d)) ∧ H d = some (exd d [(f, v)])
theorem Er1.same {H H2 : Hp} {C : Addr} {f : Str} {v e : V} (r : Er1 H C f v e) (s : Same H H2) : Er1 H2 C f v e := by
  obtain ⟨a, d, e1, h1, h2⟩ := r
  exact ⟨a, d, e1, s _ _ h1, s _ _ h2⟩
def tMade (C : Addr) (f : Str) (i : Nat) : TE := fun σ H Q => ∃ v, σ[i]? = some (some v) ∧ ∀ e H2, Same H H2 → Er1 H2 C f v e → Q e H2
section
variable {X : Cx} {name f : Str} {C : Addr} {e : Expr} {i : Nat} {p pos kpos : Pos}
theorem made_of {K : PySem.W.Frag} {H : Hp} {v : V} {Q : VK} {E : XK} (T : EcC K C) (no : PySem.W.findIn K (.ref C) f = some none) (q : ∀ e H2, Same H H2 → Er1 H2 C f v e → Q e H2) {a : Addr} (na : H a = none) :
    spEcInit K C f [.ref a, v] (upd H a (exo a C none)) (fun w H2 => w = .non ∧ Q (.ref a) H2) E := by
  refine ⟨a, v, rfl, T, no, upd_same, fun d nd ne => ⟨rfl, q _ _ (fun b o z => ?_) ⟨a, d, rfl, upd_same, by rw [upd_ne ne, upd_same]⟩⟩⟩
  have ba := ne_of_none z na
  have nd1 : H d = none := by
    rw [upd_ne ne] at nd
    exact nd
  rw [upd_ne ba, upd_ne (ne_of_none z nd1), upd_ne ba]
  exact z
theorem pe_mkP (E : Ek X.prog X.w X.K X.mg X.base name f C) (hr : Room 2 X.A) (hg : Gl X name) (he : PE X e (tVar i)) (hdb : (name == ("__debug__" : Str)) = false := by decide)
    (hs : starEach [e] X.env = (false, eval e X.env) :: starEach [] X.env := by rfl) : PE X (.Call (.Name name p) [e] [] pos) (tMade C f i) := by
  obtain ⟨fI, fd, ii, tt, F, b, _⟩ := E.init
  constructor
  intro pins s σ H Q I h
  obtain ⟨v, hv, q⟩ := h
  exact (pe_ecv (E := fun _ _ _ => False) E.ec ii tt F hr b pass0 hg E.g (pa_cons he pa_nil (hs := hs)) hdb hs rfl).run pins s σ H Q I ⟨v, hv, (by show 1 ≤ 1000; decide), fun a na => made_of E.ec E.no q na⟩
theorem pe_mkN (E : Ek X.prog X.w X.K X.mg X.base name f C) (hr : Room 2 X.A) (hg : Gl X name) (he : PE X e (tVar i)) (hdb : (name == ("__debug__" : Str)) = false := by decide)
    (hall : (backToKw pos (keywordEach [⟨some f, e, kpos⟩] X.env)).all (·.1.isSome) = true := by rfl) (hks : (backToKw pos (keywordEach [⟨some f, e, kpos⟩] X.env)).filterMap (·.1) = [f] := by rfl)
    (hpl : ((backTo pos (starEach [] X.env)).any (·.1) || (backToKw pos (keywordEach [⟨some f, e, kpos⟩] X.env)).any (·.1.isNone)) = false := by rfl) : PE X (.Call (.Name name p) [] [⟨some f, e, kpos⟩] pos) (tMade C f i) := by
  obtain ⟨fI, fd, ii, tt, F, _, b⟩ := E.init
  constructor
  intro pins s σ H Q I h
  obtain ⟨v, hv, q⟩ := h
  exact (pe_eck (E := fun _ _ _ => False) E.ec ii tt F hr b pass0 hg E.g he hdb hall hks hpl).run pins s σ H Q I ⟨v, hv, v, rfl, fun a na => made_of E.ec E.no q na⟩
end
section
variable {J : It} {n : Nat} {G : Hp → Prop}
/-- a comprehension without a test whose items are known by what is true of them, apart from the list that grows -/
theorem lc_rel {xs : List V} (w : Walk J n G (YAt xs)) (hsz : n < sizeLine) {slot : Nat} {te : TE} {vs : List Nat} {σ : St} {H1 : Hp} {D : Addr} {Qd : Hp → Prop} (R : Nat → V → Hp → Prop) (hR : ∀ i y H H', R i y H → But D H H' → R i y H') (hD : H1 D = none)
    (hG : ∀ H, Same H1 H → G H) (hw : ∀ x, wipe ((wipe σ vs).set slot (some x)) vs = wipe σ vs)
    (hs : ∀ (i : Nat) (x : V) (H : Hp) (Q : VK), xs[i]? = some x → Same H1 H → (∃ o, H D = some o) → (∀ y H4, Same H H4 → R i y H4 → Q y H4) → te ((wipe σ vs).set slot (some x)) H Q)
    (hd : ∀ (H : Hp) (ys : List V), Same H1 H → H D = some (.lst ys) → ys.length = n → (∀ (i : Nat) (y : V), ys[i]? = some y → R i y H) → Qd H) :
    ∃ W : Nat → Nat → Hp → Prop, (∃ m, W 0 m (upd H1 D (.lst []))) ∧ ∀ i m H, W i m H →
      (J.stop i H ∧ Qd H) ∨ (J.go i H ∧ ∃ Nx : Hp → Prop, (∀ H', Nx H' → ∃ m', m' < m ∧ W (i + 1) m' H') ∧ ∀ x H', J.yld i H x H' → gName slot x (wipe σ vs) H' fun σ2 H2 => wipe σ2 vs = wipe σ vs ∧ tYes σ2 H2 fun b H3 =>
        if b = true then te σ2 H3 fun y H4 => ∃ acc, H4 D = some (.lst acc) ∧ acc.length < sizeLine ∧ Nx (upd H4 D (.lst (acc ++ [y]))) else Nx H3) := by
  refine lc_it w (fun i H => Same H1 H ∧ ∃ acc : List V, H D = some (.lst acc) ∧ acc.length = i ∧ ∀ (j : Nat) (y : V), acc[j]? = some y → R j y H) ⟨same_new hD, [], upd_same, rfl, fun j y z => by simp at z⟩ (fun i H _ h => hG H h.1) (fun i x H H' hi h y => ?_) (fun H h => by
    obtain ⟨s, acc, h1, h2, h3⟩ := h
    exact hd H acc s h1 h2 h3)
  obtain ⟨s1, acc, hl, len, ha⟩ := h
  obtain ⟨rfl, hx⟩ := y
  refine ⟨hw x, ?_⟩
  unfold tYes
  dsimp only
  rw [if_pos rfl]
  refine hs i x _ _ hx s1 ⟨_, hl⟩ fun y H4 s4 hy => ⟨acc, s4 _ _ hl, by omega, fun b o e => ?_, acc ++ [y], upd_same, by rw [List.length_append, len]; rfl, fun j z hz => ?_⟩
  · rw [upd_ne (ne_of_none e hD)]
    exact s4 _ _ (s1 _ _ e)
  · rcases Nat.lt_or_ge j acc.length with q | q
    · rw [List.getElem?_append_left q] at hz
      exact hR _ _ _ _ (hR _ _ _ _ (ha j z hz) (But.of_same s4)) But.upd
    · rw [List.getElem?_append_right q] at hz
      have ej : j - acc.length = 0 := by
        rcases Nat.eq_zero_or_pos (j - acc.length) with z | z
        · exact z
        · rw [List.getElem?_eq_none (by rw [List.length_singleton]; exact z)] at hz
          cases hz
      rw [ej] at hz
      obtain rfl : y = z := by simpa using hz
      obtain rfl : j = i := by omega
      exact hR _ _ _ _ hy But.upd
theorem dp_list {K : PySem.W.Frag} {H : Hp} : ∀ {ys : List V} {ds : List PyData}, ys.length = ds.length → (∀ (i : Nat) (y : V) (d : PyData), ys[i]? = some y → ds[i]? = some d → Dp K H y d) → DpAll K H ys ds
  | [], [], _, _ => .nil
  | y :: ys, d :: ds, l, h => .cons (h 0 y d rfl rfl) (dp_list (Nat.succ.inj l) fun i z e a b => h (i + 1) z e (by simpa using a) (by simpa using b))
  | [], _ :: _, l, _ => by cases l
  | _ :: _, [], l, _ => by cases l
theorem dp_bls {K : PySem.W.Frag} {H : Hp} : ∀ bs : List Bool, DpAll K H (bs.map V.bl) (bs.map PyData.bool)
  | [] => .nil
  | b :: bs => .cons (.bl b) (dp_bls bs)
end
end L2

set_option Elab.async false
set_option linter.all false
set_option maxRecDepth 100000
set_option maxHeartbeats 4000000
/-! A crowd that is made, its own list new; comparisons of crowds; tests whose ways meet; slices. -/
namespace L2
open PySem PySem.Spec PyProof.Rows
section
variable {X : Cx} {e : Expr} {t : TT}
/-- a test by a contract: ways meet -/
def tCutT (P : St → Hp → Bool → Hp → Prop) (t : TT) : TT := fun σ H Q => t σ H (P σ H) ∧ ∀ c H', P σ H c H' → Q c H'
theorem pt_cut (P : St → Hp → Bool → Hp → Prop) (h : PT X e t) : PT X e (tCutT P t) := ⟨fun pins s σ H Q I z => thn (h.run pins s σ H _ I z.1) fun _ _ q => by
  obtain ⟨H1, I1, p⟩ := q
  exact ⟨H1, I1, z.2 _ H1 p⟩⟩
end
/-- Crowd.__init__, the list that it keeps being new -/
def spCrowdNew (K : PySem.W.Frag) (C CB : Addr) : Sp := fun vs H Q E => ∃ (x dx : Addr) (v m : V) (b : Bool) (xs : List V), vs = [.ref x, v, m] ∧ H x = some (.ins C dx []) ∧ ArgP K H v b xs ∧ (∃ T, TyN K H m T) ∧
  (b = false → ∀ H' d, Raised H H' d "part" (.str "people") → E (.ref CB) (some d) H') ∧
  (b = true → markB 1 10 m = false → ∀ H' d, Raised H H' d "part" (.str "most") → E (.ref CB) (some d) H') ∧
  (b = true → ∀ i, m = .int i → markB 1 10 m = true → ∀ H' dx p, But x H H' → H p = none → H' x = some (.ins C dx (crowdFs p i)) → H' p = some (.lst xs) → Q .non H')
section
variable {K : PySem.W.Frag} {σ : St} {H : Hp} {Q : VK}
theorem rd_made {C CB : Addr} {m : Int} {xs : List V} {t : TA} (hm : markB 1 10 (.int m) = true) (ht : ∀ Q' : List V → Hp → Prop, (∀ H1 v, Same H H1 → ArgP K H1 v true xs → Q' [v, .int m] H1) → t σ H Q')
    (k : ∀ H' x dx p, Same H H' → H x = none → H p = none → H' x = some (.ins C dx (crowdFs p m)) → H' p = some (.lst xs) → Q (.ref x) H') : tMake C (spCrowdNew K C CB) [] (fun _ _ _ => False) t σ H Q := by
  refine ht _ fun H1 v s1 ha => ?_
  intro x dx nx ndx nex
  have s2 : Same H1 (upd (upd H1 dx (.own x)) x (.ins C dx [])) := fun c o e => by
    rw [upd_ne (ne_of_none e nx), upd_ne (ne_of_none e ndx)]
    exact e
  refine ⟨x, dx, v, .int m, true, xs, rfl, upd_same, ha.same s2, ⟨"int", .base (.int m), by decide⟩, fun z => (nomatch z), fun _ z => ?_, fun _ i hi _ H' dx2 p hB np h1 h2 => ?_⟩
  · rw [hm] at z
    cases z
  · cases V.int.inj hi
    exact ⟨rfl, k H' x dx2 p (s1.trans fun c o e => hB c o (ne_of_none e nx) (s2 _ _ e)) (s1.free nx) (s1.free (s2.free np)) h1 h2⟩
variable {C a b : Addr} {zs ys : List Str} {m n : Int} {E : XK}
theorem rd_eqC (nf : PySem.W.notFirst K C (.ref C) = true) (ha : CrowdOf H C a zs m) (hb : CrowdOf H C b ys n) (oz : ∀ z ∈ zs, PyData.strOk z = true) (oy : ∀ z ∈ ys, PyData.strOk z = true) (q : Q (.bl (decide (m = n) && decide (zs = ys))) H) :
    rEqOwn K C (spCrowdEq K C) E (.ref a) (.ref b) H Q := by
  obtain ⟨dx, p, h1, h2⟩ := id ha
  obtain ⟨dy, p2, h3, h4⟩ := id hb
  exact ⟨a, dx, b, _, _, rfl, rfl, h1, .ins h3, nf, a, b, zs, m, rfl, ha, oz, .inl ⟨ys, n, hb, oy, _, rfl, q⟩⟩
theorem rd_eqL {xs : List V} (nf : PySem.W.notFirst K C (.type "list") = true) (ha : CrowdOf H C a zs m) (hb : H b = some (.lst xs)) (oz : ∀ z ∈ zs, PyData.strOk z = true) (q : Q (.bl false) H) :
    rEqOwn K C (spCrowdEq K C) E (.ref a) (.ref b) H Q := by
  obtain ⟨dx, p, h1, h2⟩ := id ha
  exact ⟨a, dx, b, _, _, rfl, rfl, h1, .lst hb, nf, a, b, zs, m, rfl, ha, oz, .inr ⟨⟨_, hb⟩, _, rfl, q⟩⟩
theorem rd_neC (ha : CrowdOf H C a zs m) (hb : CrowdOf H C b ys n) (oz : ∀ z ∈ zs, PyData.strOk z = true) (oy : ∀ z ∈ ys, PyData.strOk z = true) (q : Q (.bl (!(decide (m = n) && decide (zs = ys)))) H) :
    rNeOwn C (spCrowdEq K C) E (.ref a) (.ref b) H Q := by
  obtain ⟨dx, p, h1, h2⟩ := id ha
  obtain ⟨dy, p2, h3, h4⟩ := id hb
  exact ⟨a, dx, b, dy, _, _, rfl, rfl, h1, h3, a, b, zs, m, rfl, ha, oz, .inl ⟨ys, n, hb, oy, _, rfl, q⟩⟩
end
section
variable {i j : Nat} {ta : TE} {tr t : TA} {T U : TS} {D : Ends} {v : V} {σ : St} {H : Hp} {Q : List V → Hp → Prop} {R : St → Hp → Prop}
theorem st_name (h : R (List.set σ i (some v)) H) : gName i v σ H R := h
theorem st_seq (h : T { nx := U D, rt := D.rt, bk := D.bk, ct := D.ct } σ H) : tSeq T U D σ H := h
theorem st_par (h : t σ H fun vs H1 => ∃ v w, vs = [v, w] ∧ D.nx ((List.set σ i (some v)).set j (some w)) H1) : tPar i j t D σ H := h
theorem st_cons (h : ta σ H fun x H1 => tr σ H1 fun xs H2 => Q (x :: xs) H2) : tCons ta tr σ H Q := h
end
theorem km_take {xs : List V} (k : Nat) : cutV xs none (some (k : Int)) = xs.take k := by
  unfold cutV
  rw [HT.sIx_none, HT.sIx_nat, List.drop_zero, Nat.sub_zero]
  rcases Nat.le_total k xs.length with h | h
  · rw [Nat.min_eq_left h]
  · rw [Nat.min_eq_right h, List.take_of_length_le h, List.take_of_length_le (Nat.le_refl _)]
theorem km_drop {xs : List V} (k : Nat) : cutV xs (some (k : Int)) none = xs.drop k := by
  unfold cutV
  rw [HT.sIx_none, HT.sIx_nat]
  rcases Nat.le_total k xs.length with h | h
  · rw [Nat.min_eq_left h, List.take_of_length_le (by rw [List.length_drop]; exact Nat.le_refl _)]
  · rw [Nat.min_eq_right h, List.drop_of_length_le h, List.drop_of_length_le (Nat.le_refl _), List.take_nil]
theorem extN_sq {K : PySem.W.Frag} {H G : Hp} {a : Addr} {xs : List V} (e : LamX.ExtN H G) (h : SqL K H a xs) : SqL K G a xs := by
  unfold SqL Rd at h ⊢
  rcases h with (h | ⟨o, h⟩) | h
  · exact .inl (.inl (e _ _ h fun ps z => (nomatch z)))
  · exact .inl (.inr ⟨o, e _ _ h fun ps z => (nomatch z)⟩)
  · exact .inr h
theorem CrowdAt.extN {H G : Hp} {C x : Addr} {xs : List V} {m : Int} (e : LamX.ExtN H G) (h : CrowdAt H C x xs m) : CrowdAt G C x xs m := by
  obtain ⟨dx, p, h1, h2⟩ := h
  exact ⟨dx, p, e _ _ h1 fun ps z => (nomatch z), e _ _ h2 fun ps z => (nomatch z)⟩
theorem more_word : wordB "more" = true ∧ ("more" : Str) ∉ names8 ∧ PyData.strOk "more" = true ∧ ("more" : Str).length ≤ 1000 := by decide +kernel
theorem Drawn8.more {zs : List Str} (d : Drawn8 zs) (h : zs.length < 8) : peopleB ((zs ++ [("more" : Str)]).map V.str) = true := by
  show ((decide (1 ≤ ((zs ++ [("more" : Str)]).map V.str).length) && decide (((zs ++ [("more" : Str)]).map V.str).length ≤ 8)) && (((zs ++ [("more" : Str)]).map V.str).all isW && decide ((zs ++ [("more" : Str)]).map V.str).Nodup)) = true
  have nd : (zs ++ [("more" : Str)]).Nodup := by
    rw [List.nodup_append]
    refine ⟨d.nd, by simp, fun a ha b hb e => ?_⟩
    rw [List.mem_singleton] at hb
    subst hb
    subst e
    exact more_word.2.1 (d.mem _ ha)
  have al : ((zs ++ [("more" : Str)]).map V.str).all isW = true := by
    rw [List.map_append, List.all_append, d.allW]
    show (true && (wordB "more" && true)) = true
    rw [more_word.1]
    rfl
  rw [al, List.length_map, List.length_append, List.length_singleton, decide_eq_true (show 1 ≤ zs.length + 1 by omega), decide_eq_true (show zs.length + 1 ≤ 8 by omega), decide_eq_true ((nodup_map_inj (f := V.str) (fun _ _ e => V.str.inj e)).mpr nd)]
  rfl
theorem Drawn8.sub {zs ys : List Str} (d : Drawn8 zs) (h : ys.Sublist zs) : Drawn8 ys := ⟨d.nd.sublist h, fun z hz => d.mem z (h.subset hz)⟩
theorem Drawn8.perm {zs ys : List Str} (d : Drawn8 zs) (h : ys.Perm zs) : Drawn8 ys := ⟨h.nodup_iff.mpr d.nd, fun z hz => d.mem z (h.mem_iff.mp hz)⟩
theorem rev_ne {zs : List Str} (nd : zs.Nodup) (h : 1 < zs.length) : zs.reverse ≠ zs := fun e => by
  match zs, nd, h with
  | a :: b :: zr, nd, h =>
    have e1 : (a :: b :: zr).reverse.getLast? = (a :: b :: zr).getLast? := by rw [e]
    rw [List.getLast?_reverse] at e1
    have e2 : (a :: b :: zr).getLast? = some a := e1.symm
    have e3 : a ∈ b :: zr := by
      rw [List.getLast?_cons_cons] at e2
      exact List.mem_of_getLast? e2
    exact (List.nodup_cons.mp nd).1 e3
  | [a], nd, h => exact absurd h (Nat.lt_irrefl 1)
  | [], nd, h => exact absurd h (by decide)
end L2

set_option Elab.async false
set_option linter.all false
set_option maxRecDepth 100000
set_option maxHeartbeats 4000000
/-! Dicts whose keys are tuples: their values and items walked, comprehensions that make them. -/
namespace L2
open PySem PySem.Spec PyProof.Rows
section
variable {X : Cx} {pins : List (Addr × Obj)} {σ : St} {H : Hp} {s : Shared} {d : Addr} {o : Obj}
theorem Inv.frzTV {kvs : List (List Key × V)} (I : Inv X pins σ H s) (h : H d = some (.frz o (.dT kvs))) :
    (d == sysModules) = false ∧ ∃ (es : Array DictEntry) (ep : Nat), s.heap.DictRaw d es ep ∧ o.data = .dict es ep ∧ es.size = kvs.length ∧
      ∀ (i : Nat) (k : List Key) (v : V), kvs[i]? = some (k, v) → ∃ (hi : i < es.size) (q : Addr), es[i].key = .ref q ∧ H q = some (.tup (k.map kV)) ∧ RelV v es[i].val := by
  obtain ⟨hd, z, hs, xs, pr, o', es, ep, ho, hx, hdt, he, _⟩ := I.hok d _ h
  rw [hd] at ho
  cases ho
  have l1 : es.size = xs.length := size_of_entries he
  have l2 : kvs.length = xs.length := Paired.length pr
  refine ⟨hs, es, ep, ⟨o, hd, hx, hdt⟩, hdt, by omega, fun i k v e => ?_⟩
  obtain ⟨b, hb, e1, e2, e3⟩ := paired_get pr e
  have hi : i < es.size := by
    have := (List.getElem?_eq_some_iff.mp e).1
    omega
  have q := entry_at he i
  rw [hb, Array.getElem?_eq_getElem hi, Option.map_some] at q
  have q2 := Option.some.inj q
  exact ⟨hi, b.2.1, by rw [q2]; rfl, e2, by rw [q2]; exact e3⟩
end
theorem raw_noDict {h : Heap} {d : Addr} {es : Array DictEntry} {ep : Nat} (r : h.DictRaw d es ep) : ∀ b, Value.ref d = .ref b → ∃ ob, h.get? b = some ob ∧ ob.dict = none := fun b e => by
  cases e
  obtain ⟨o, ho, hc, _⟩ := r
  exact ⟨o, ho, hc.2.1⟩
/-- the values of the locked dict at d, its keys tuples -/
def Itvt (d : Addr) (o : Obj) (kvs : List (List Key × V)) : It :=
  ⟨fun i H => H d = some (.frz o (.dT kvs)) ∧ i < kvs.length, fun i H x H' => H' = H ∧ ∃ k, kvs[i]? = some (k, x), fun i H => H d = some (.frz o (.dT kvs)) ∧ kvs.length ≤ i⟩
/-- the pairs, each a new tuple of the key's own tuple and the value -/
def Itit (d : Addr) (o : Obj) (kvs : List (List Key × V)) : It :=
  ⟨fun i H => H d = some (.frz o (.dT kvs)) ∧ i < kvs.length, fun i H x H' => ∃ T k v q, kvs[i]? = some (k, v) ∧ x = .ref T ∧ H T = none ∧ H q = some (.tup (k.map kV)) ∧ H' = upd H T (.tup [.ref q, v]), fun i H => H d = some (.frz o (.dT kvs)) ∧ kvs.length ≤ i⟩
section
variable {P : Program} {w : World} {K : PySem.W.Frag} {tg : Expr} {d : Addr} {o : Obj} {es : Array DictEntry} {ep : Nat}
theorem turn_valsT {kvs : List (List Key × V)} (it : Addr) (hod : o.data = .dict es ep) : Turn P w K tg (Itvt d o kvs) [it] it (fun i h => h.IsValIter it d i kvs.length ep) where
  mem := by simp
  obj := fun i h st b hb => by
    have e : b = it := by simpa using hb
    subst e
    obtain ⟨oi, e, c, dd⟩ := st
    exact ⟨oi, e, fun v z => by rw [dd] at z; cases z⟩
  keep := fun i h h' st k => st.at fun oi e => k it (by simp) oi e
  item := by
    intro X hP hw hK hc i pins s σ H E I hf st hg
    subst hP hw hK
    obtain ⟨hd, hi⟩ := hg
    obtain ⟨f0, f1, f2, f3, f4, f5⟩ := hf it (by simp)
    obtain ⟨hs, es', ep', hr, hdt, hsz, ent⟩ := I.frzTV hd
    obtain ⟨rfl, rfl⟩ := dict_ep hod hdt
    obtain ⟨⟨k, v⟩, hkv⟩ : ∃ p, kvs[i]? = some p := ⟨kvs[i], List.getElem?_eq_getElem hi⟩
    obtain ⟨hie, q, hkey, hq, rv⟩ := ent i k v hkv
    rw [← hsz] at st
    refine PySem.wpAny_pyNext_values_item_raw st hr hie fun h' st' sb => ?_
    have I1 : Inv X pins σ H { s with heap := h' } := I.turned (t' := s.toks) (fun b ob hb e => (sb.2 b hb).trans e) f0 f1 f3 f4 f5
    obtain ⟨oi, e, c, dd⟩ := id st'
    refine ⟨_, rfl, go_of (s := { s with heap := h' }) e c dd (by decide) ⟨v, H, I1, rv, ⟨rfl, k, hkv⟩, ?_, fun b hb => (hf b hb).1⟩⟩
    show h'.IsValIter it d (i + 1) kvs.length _
    rw [← hsz]
    exact st'
  done := by
    intro X hP hw hK hc i pins s σ H E I hf st hg
    subst hP hw hK
    obtain ⟨hd, hi⟩ := hg
    obtain ⟨f0, f1, f2, f3, f4, f5⟩ := hf it (by simp)
    obtain ⟨hs, es', ep', hr, hdt, hsz, ent⟩ := I.frzTV hd
    obtain ⟨rfl, rfl⟩ := dict_ep hod hdt
    rw [← hsz] at st
    exact PySem.wpAny_pyNext_values_end_raw (I.ok.hd hc) st hr (by omega) fun h' eb => ⟨rfl, I.turned (t' := s.toks) (fun b ob hb e => eb b ob hb e) f0 f1 f3 f4 f5⟩
  self := fun A i s Q E st h => wpAny_pyIter_valiter st h
theorem turn_itemsT {kvs : List (List Key × V)} {elts : List Expr} {kk : Nat} {tpos : Pos} (it : Addr) (hod : o.data = .dict es ep) :
    Turn P w K (.Tuple elts kk tpos) (Itit d o kvs) [it] it (fun i h => ∃ ok ov, IsItemIter h it d i kvs.length ep ok ov) where
  mem := by simp
  obj := fun i h st b hb => by
    have e : b = it := by simpa using hb
    subst e
    obtain ⟨ok, ov, e⟩ := st
    exact ⟨_, e, fun v z => nomatch z⟩
  keep := fun i h h' st k => let ⟨ok, ov, e⟩ := st; ⟨ok, ov, k it (by simp) _ e⟩
  item := by
    intro X hP hw hK hc i pins s σ H E I hf st hg
    subst hP hw hK
    obtain ⟨hd, hi⟩ := hg
    obtain ⟨hs, es', ep', hr, hdt, hsz, ent⟩ := I.frzTV hd
    obtain ⟨rfl, rfl⟩ := dict_ep hod hdt
    obtain ⟨⟨k, v⟩, hkv⟩ : ∃ p, kvs[i]? = some p := ⟨kvs[i], List.getElem?_eq_getElem hi⟩
    obtain ⟨hie, q, hkey, hq, rv⟩ := ent i k v hkv
    obtain ⟨ok, ov, he⟩ := st
    rw [← hsz] at he
    have hlt : it < s.heap.objs.size := Heap.lt_size he
    refine PySem.wpAny_pyNext_items_item_raw he hr hie fun h' ho hT hz hk => ?_
    refine ⟨_, rfl, wpAny_letOwnedTupleGo_items (s := { s with heap := h' }) ho fun h'' he' sb => ?_⟩
    have hT2 : h''.get? s.heap.objs.size = some { cls := .type "tuple", data := .seq #[es'[i].key, es'[i].val] } := (sb.2 _ (Nat.ne_of_gt hlt)).trans hT
    have new : ObjOk X.prog X.w (upd H s.heap.objs.size (.tup [.ref q, v])) h'' s.heap.objs.size (.tup [.ref q, v]) :=
      ⟨by show 2 ≤ sizeLine; decide, [es'[i].key, es'[i].val], .cons (by rw [hkey]; rfl) (.cons rv .nil), ⟨_, hT2, rfl, _, rfl⟩⟩
    have I1 : Inv X pins σ (upd H s.heap.objs.size (.tup [.ref q, v])) { s with heap := h'' } :=
      I.turnedNew (t' := s.toks) (ch := [it]) (fun b ob hb e => (sb.2 b (by simpa using hb)).trans (hk b ob (by simpa using hb) e)) hf (Nat.le_refl _) new
    refine ⟨.ref s.heap.objs.size, _, I1, rfl, ⟨_, k, v, q, hkv, rfl, I.hok.fresh (Nat.le_refl _), hq, rfl⟩, ⟨es'[i].key, es'[i].val, ?_⟩, fun b hb => ?_⟩
    · rw [← hsz]; exact he'
    · have e : b = it := by simpa using hb
      rw [e, upd_ne (Nat.ne_of_lt hlt)]
      exact (hf it (by simp)).1
  done := by
    intro X hP hw hK hc i pins s σ H E I hf st hg
    subst hP hw hK
    obtain ⟨hd, hi⟩ := hg
    obtain ⟨f0, f1, f2, f3, f4, f5⟩ := hf it (by simp)
    obtain ⟨hs, es', ep', hr, hdt, hsz, ent⟩ := I.frzTV hd
    obtain ⟨rfl, rfl⟩ := dict_ep hod hdt
    obtain ⟨ok, ov, he⟩ := st
    rw [← hsz] at he
    exact PySem.wpAny_pyNext_items_end_raw (I.ok.hd hc) he hr (by omega) fun h' eb => ⟨rfl, I.turned (t' := s.toks) (fun b ob hb e => eb b ob hb e) f0 f1 f3 f4 f5⟩
  self := fun A i s Q E st h => let ⟨_, _, e⟩ := st; PySem.W.kcp_self e h
end
def iValsT (td : TE) : TI := fun σ H R => td σ H fun x H1 => ∃ d o kvs, x = .ref d ∧ H1 d = some (.frz o (.dT kvs)) ∧ R (Itvt d o kvs) H1
def iItemsT (td : TE) : TI := fun σ H R => td σ H fun x H1 => ∃ d o kvs, x = .ref d ∧ H1 d = some (.frz o (.dT kvs)) ∧ R (Itit d o kvs) H1
section
variable {X : Cx} {tg e : Expr} {td : TE} {apos cpos : Pos}
theorem pi_valuesT (he : PE X e td) (hbase : attributeBase e "values" X.env (eval e X.env) = eval e X.env := by rfl) (hline : (apos.endLine == cpos.line) = true := by rfl) : PI X tg (.Call (.Attribute e "values" apos) [] [] cpos) (iValsT td) := by
  refine ⟨fun pins s σ H R I h => ?_⟩
  refine wpAny_Call_method (T := "dict") (id := "dict.values") hbase rfl hline F.plainAttrs_dict F.slot_dict_values F.type_dict_values (thn (he.run pins s σ H _ I h) fun u s1 ⟨x, H1, I1, rx, d, o, kvs, ex, hd, q⟩ => ?_)
  subst ex
  obtain rfl : u = Value.ref d := rx
  obtain ⟨hs, es, ep, hr, hdt, hsz, ent⟩ := I1.frzTV hd
  refine ⟨hr.typeIs, raw_noDict hr, ?_⟩
  have I2 : Inv X pins σ H1 { s1 with heap := s1.heap.push { cls := .type "dict_values", data := .fields #[.ref d] } } := I1.kept (t' := s1.toks) fun b ob q => Heap.get?_push_of_some _ q
  have fin : wpAny (model X.prog X.w) X.A (pyIter (.ref s1.heap.objs.size)) (PIE X pins σ tg R) X.xe { s1 with heap := s1.heap.push { cls := .type "dict_values", data := .fields #[.ref d] } } := by
    refine PySem.wpAny_pyIter_values_raw (d := d) ⟨_, Heap.get?_push_size _ rfl, rfl, rfl⟩ (hr.push _) (pi_one (tk := s1.toks) I2 _ (turn_valsT _ hdt) ⟨_, Heap.get?_push_size _ rfl, rfl, ?_⟩ q)
    rw [hsz] <;> rfl
  show wpAny _ _ (callWith cpos (.builtin "dict.values") [.ref d] [] []) _ X.xe s1
  exact method_meetsIn F.slot_dict_values F.entry_dict_values rfl (PySem.evalArgs_none ⟨rfl, hr.typeIs, F.args_dict_values_1 _, _, PySem.meets_dict_values_raw d hs, ⟨_, _, hr⟩, fin⟩)
theorem pi_itemsT {elts : List Expr} {kk : Nat} {tpos : Pos} (he : PE X e td) (hbase : attributeBase e "items" X.env (eval e X.env) = eval e X.env := by rfl) (hline : (apos.endLine == cpos.line) = true := by rfl) :
    PI X (.Tuple elts kk tpos) (.Call (.Attribute e "items" apos) [] [] cpos) (iItemsT td) := by
  refine ⟨fun pins s σ H R I h => ?_⟩
  refine wpAny_Call_method (T := "dict") (id := "dict.items") hbase rfl hline F.plainAttrs_dict F.slot_dict_items F.type_dict_items (thn (he.run pins s σ H _ I h) fun u s1 ⟨x, H1, I1, rx, d, o, kvs, ex, hd, q⟩ => ?_)
  subst ex
  obtain rfl : u = Value.ref d := rx
  obtain ⟨hs, es, ep, hr, hdt, hsz, ent⟩ := I1.frzTV hd
  refine ⟨hr.typeIs, raw_noDict hr, ?_⟩
  have I2 : Inv X pins σ H1 { s1 with heap := s1.heap.push { cls := .type "dict_items", data := .fields #[.ref d] } } := I1.kept (t' := s1.toks) fun b ob q => Heap.get?_push_of_some _ q
  have fin : wpAny (model X.prog X.w) X.A (pyIter (.ref s1.heap.objs.size)) (PIE X pins σ (.Tuple elts kk tpos) R) X.xe { s1 with heap := s1.heap.push { cls := .type "dict_items", data := .fields #[.ref d] } } := by
    refine PySem.wpAny_pyIter_items_raw (d := d) ⟨_, Heap.get?_push_size _ rfl, rfl, rfl⟩ (hr.push _) (pi_one (tk := s1.toks) I2 _ (turn_itemsT _ hdt) ⟨.none, .none, ?_⟩ q)
    rw [← hsz]
    exact Heap.get?_push_size _ rfl
  show wpAny _ _ (callWith cpos (.builtin "dict.items") [.ref d] [] []) _ X.xe s1
  exact method_meetsIn F.slot_dict_items F.entry_dict_items rfl (PySem.evalArgs_none ⟨rfl, hr.typeIs, F.args_dict_items_1 _, _, PySem.meets_dict_items_raw d hs, ⟨_, _, hr⟩, fin⟩)
end
theorem walk_valuesT {d : Addr} {o : Obj} {kvs : List (List Key × V)} : Walk (Itvt d o kvs) kvs.length (fun H => H d = some (.frz o (.dT kvs))) (fun i H x H' => H' = H ∧ ∃ k, kvs[i]? = some (k, x)) :=
  { goes := fun _ _ hi q => ⟨q, hi⟩, stops := fun _ q => ⟨q, Nat.le_refl _⟩, yields := fun _ _ _ _ _ _ y => y }
theorem walk_itemsT {d : Addr} {o : Obj} {kvs : List (List Key × V)} : Walk (Itit d o kvs) kvs.length (fun H => H d = some (.frz o (.dT kvs)))
    (fun i H x H' => ∃ T k v q, kvs[i]? = some (k, v) ∧ x = .ref T ∧ H T = none ∧ H q = some (.tup (k.map kV)) ∧ H' = upd H T (.tup [.ref q, v])) :=
  { goes := fun _ _ hi q => ⟨q, hi⟩, stops := fun _ q => ⟨q, Nat.le_refl _⟩, yields := fun _ _ _ _ _ _ y => y }
end L2

set_option Elab.async false
set_option linter.all false
set_option maxRecDepth 100000
set_option maxHeartbeats 4000000
/-! {k: v for target in iter if ..} with tuple keys. -/
namespace L2
open PySem PySem.Spec PyProof.Rows
/-- one entry more, by a comprehension -/
theorem dT_set {X : Cx} {pins : List (Addr × Obj)} {σ : St} {H : Hp} {s : Shared} {E : Value → Shared → Prop} {D b : Addr} {kvs : List (List Key × V)} {k : List Key} {v : V} {u r : Value} {Q : Unit → Shared → Prop}
    (hu : X.A.units + 1 < cLine) (I : Inv X pins σ H s) (hD : H D = some (.dT kvs)) (hb : H b = some (.tup (k.map kV))) (hz : kvs.length < sizeLine) (ry : RelV (.ref b) u) (rv : RelV v r)
    (h : ∀ s', Inv X pins σ (upd H D (.dT (putK kvs k v))) s' → Q () s') : wpAny (model X.prog X.w) X.A (dictSet D u r) Q E s := by
  cases (show u = Value.ref b from ry)
  obtain ⟨z, low, xs, rel, dd⟩ := dt_of I.hok hD
  have lx : xs.length ≤ sizeLine := (Paired.length rel) ▸ z
  have lp : (putK kvs k v).length ≤ sizeLine := Nat.le_trans (length_putK kvs k v) hz
  refine PySem.wpAny_dictSet_heap (hsz := lx) (by show X.A.units < cLine; omega) (key_of I.hok hb) dd fun h' dd' hs => h _ ?_
  obtain ⟨q, es, ep, hq, a2, a3, a4, _, a5⟩ := dd'
  have keep : ∀ c ys, H c = some (.tup ys) → upd H D (.dT (putK kvs k v)) c = some (.tup ys) := fun c ys ec => (upd_ne (ne_of ec hD (fun z => nomatch z))).trans ec
  exact d_write I (by rw [hD]; exact True.intro) hs ⟨q, hq⟩ ⟨lp, low, _, (rel.put k hb rv).keeps keep, q, es, ep, hq, a2, a3, a4, a5⟩
/-- what one turn asks: the new dict stands at D -/
def dcTurn (D : Addr) (tt : TT) (tk tv : TE) (Nx : Hp → Prop) : St → Hp → Prop := fun σ H => tt σ H fun b H3 => if b = true then tk σ H3 fun y H4 => tv σ H4 fun z H5 =>
  ∃ kvs k c, y = .ref c ∧ H5 c = some (.tup (k.map kV)) ∧ H5 D = some (.dT kvs) ∧ kvs.length < sizeLine ∧ Nx (upd H5 D (.dT (putK kvs k z))) else Nx H3
def tDcT (wi : TI) (g : TG) (tt : TT) (tk tv : TE) (vs : List Nat) : TE := fun σ H Q => wi σ H fun J H1 => ∀ D, H1 D = none → ∃ W : Nat → Nat → Hp → Prop, (∃ m, W 0 m (upd H1 D (.dT []))) ∧ ∀ i m H, W i m H →
  (J.stop i H ∧ Q (.ref D) H) ∨ (J.go i H ∧ ∃ Nx : Hp → Prop, (∀ H', Nx H' → ∃ m', m' < m ∧ W (i + 1) m' H') ∧ ∀ x H', J.yld i H x H' → g x (wipe σ vs) H' fun σ2 H2 => wipe σ2 vs = wipe σ vs ∧ dcTurn D tt tk tv Nx σ2 H2)
section
variable {X : Cx}
theorem dcT_core {kx vx tg iter : Expr} {ifs : List Expr} {scope : Scope} {own : List (Str × Nat)} {pos : Pos} {wi : TI} {g : TG} {tt : TT} {tk tv : TE} {pins : List (Addr × Obj)} {s : Shared} {σ : St} {H : Hp} {Q : VK} {pos' : Pos} {use : Option (Value → Sem Unit)} {Qf : Value → Shared → Prop} (I : Inv X pins σ H s) (hu : X.A.units + 1 < cLine) (hc : X.calm = true) (hN : X.N.Nodup) (hi : PI X tg iter wi) (ok : BlkOk X.N X.env.scope scope own)
    (hg : ∀ (s : Shared) (H : Hp) (C : Addr) (cl : List (Str × Addr)) (fp : List Addr), PG (X.blk s H scope (compEnvC scope cl C X.env) fp) tg g)
    (ht : ∀ (s : Shared) (H : Hp) (C : Addr) (cl : List (Str × Addr)) (fp : List Addr), PTs (X.blk s H scope (compEnvC scope cl C X.env) fp) ifs tt)
    (hk : ∀ (s : Shared) (H : Hp) (C : Addr) (cl : List (Str × Addr)) (fp : List Addr), PE (X.blk s H scope (compEnvC scope cl C X.env) fp) kx tk)
    (he : ∀ (s : Shared) (H : Hp) (C : Addr) (cl : List (Str × Addr)) (fp : List Addr), PE (X.blk s H scope (compEnvC scope cl C X.env) fp) vx tv)
    (hs : ∀ x, foldedSetIterable iter X.env x = pure x) (h : tDcT wi g tt tk tv (own.map (·.2)) σ H Q)
    (hRR : ∀ D C s' m H', Inv X pins σ H' s' → Q (.ref D) H' → s'.heap.Ns C m → FpOk X pins H' C → compPost (model X.prog X.w) X.A X.xe use Qf (.ref D) C (.ok .next) s') :
    wpAny (model X.prog X.w) X.A (comprehension (.DictComp kx vx [⟨tg, iter, ifs, 0⟩] scope pos) scope X.env pos' newDict false (eval iter X.env) use) Qf X.xe s := by
  have cells : ∀ y ∈ scope.names, y.2 = .free → ∃ c, X.env.cells.lookup y.1 = some c := fun y hy e => (ok.free y hy e).elim (fun k => I.ok.has _ (.inl k)) fun k => I.ok.has _ (.inr k)
  refine wpAny_comprehension_free (use := use) rfl hs (closure_ok cells) ok.kind (fun y hy e => by rw [ok.uniq y hy, e]) (thn (hi.run pins s σ H _ I h) fun xv s1 hx => thn hx fun itv s2 h2 => ?_)
  obtain ⟨it, fp, tn, J, H2, rfl, I2, T, st2, f2, q⟩ := h2
  refine wpAny_newObj_type (newEnv_comp ?_)
  generalize eD : s2.heap.objs.size = D
  obtain ⟨W, ⟨m0, w0⟩, turn⟩ := q D (I2.hok.fresh (Nat.le_of_eq eD))
  generalize e3 : ({ s2 with heap := s2.heap.push { cls := .type "dict", data := .dict #[] } } : Shared) = s3
  have up3 : s3.heap = s2.heap.push { cls := .type "dict", data := .dict #[] } := by rw [← e3]
  have I3 : Inv X pins σ (upd H2 D (.dT [])) s3 := by
    rw [← e3, ← eD]
    exact I2.laid (t' := s2.toks) (fun b o e => Heap.get?_push_of_some _ e) (Nat.le_refl _) (dt_empty s2.heap I2.big)
  have grown : ∀ {b o}, s2.heap.get? b = some o → s3.heap.get? b = some o := fun e => by rw [up3]; exact Heap.get?_push_of_some _ e
  have f3 : ∀ b ∈ fp, FpOk X pins (upd H2 D (.dT [])) b ∧ b < s3.heap.objs.size := fun b hb => by
    obtain ⟨o, e, _⟩ := T.obj _ _ st2 b hb
    have lt := Heap.lt_size e
    refine ⟨⟨?_, (f2 b hb).2⟩, by rw [up3, Heap.size_push]; exact Nat.lt_succ_of_lt lt⟩
    rw [upd_ne (by rw [← eD]; exact Nat.ne_of_lt lt)]
    exact (f2 b hb).1
  have I4 := block_start I3 ok hN f3
  have pg := hg s3 (upd H2 D (.dT [])) s3.heap.objs.size (cellsFrom (s3.heap.objs.size + 1) scope.names (cloFrom X.env.cells scope.names [])) fp
  have pt := ht s3 (upd H2 D (.dT [])) s3.heap.objs.size (cellsFrom (s3.heap.objs.size + 1) scope.names (cloFrom X.env.cells scope.names [])) fp
  have pk := hk s3 (upd H2 D (.dT [])) s3.heap.objs.size (cellsFrom (s3.heap.objs.size + 1) scope.names (cloFrom X.env.cells scope.names [])) fp
  have pv := he s3 (upd H2 D (.dT [])) s3.heap.objs.size (cellsFrom (s3.heap.objs.size + 1) scope.names (cloFrom X.env.cells scope.names [])) fp
  show codeAny (model X.prog X.w) X.A (.compStart (.DictComp kx vx [⟨tg, iter, ifs, 0⟩] scope pos) 0 (.ref it) (.ref D) (compEnvC scope (cellsFrom (s3.heap.objs.size + 1) scope.names (cloFrom X.env.cells scope.names [])) s3.heap.objs.size X.env))
    (compPost (model X.prog X.w) X.A X.xe use Qf (.ref D) s3.heap.objs.size) { s3 with heap := pushCells (s3.heap.push { cls := .type "dict", data := .dict #[] }) scope.names }
  generalize ec : compEnvC scope (cellsFrom (s3.heap.objs.size + 1) scope.names (cloFrom X.env.cells scope.names [])) s3.heap.objs.size X.env = ce at I4 pg pt pk pv ⊢
  have cl : ce.locals = s3.heap.objs.size := by rw [← ec]; rfl
  generalize e4 : ({ s3 with heap := pushCells (s3.heap.push { cls := .type "dict", data := .dict #[] }) scope.names } : Shared) = s4 at I4 ⊢
  generalize eH : upd H2 D (.dT []) = H3 at I3 I4 pg pt pk pv w0 f3
  have st4 : tn 0 s4.heap := T.keep _ _ _ st2 fun b _ o e => by
    rw [← e4]
    exact pushCells_keeps _ _ _ _ (Heap.get?_push_of_some _ (grown e))
  have foot : ∀ {σ' : St} {H' : Hp} {s' : Shared}, Inv (X.blk s3 H3 scope ce fp) [] σ' H' s' → (∀ b ∈ fp, H' b = none) → ∀ b ∈ fp, FpOk (X.blk s3 H3 scope ce fp) [] H' b := fun J' hn b hb =>
    ⟨hn b hb, (J'.ok.exf b hb).1, J'.ok.exfs b hb, .inl hb, fun x c e => (J'.ok.exf b hb).2 x c e, fun p hp => absurd (show p ∈ ([] : List (Addr × Obj)) ++ [] from hp) (by simp)⟩
  have loop : codeAny (model X.prog X.w) X.A (.compLoop (.DictComp kx vx [⟨tg, iter, ifs, 0⟩] scope pos) 0 (.ref it) (.ref D) ce)
      (compPost (model X.prog X.w) X.A X.xe use Qf (.ref D) s3.heap.objs.size) s4 := by
    refine compLoop_anyD (fun n s' => ∃ i H', Inv (X.blk s3 H3 scope ce fp) [] (wipe σ (own.map (·.2))) H' s' ∧ tn i s'.heap ∧ (∀ b ∈ fp, H' b = none) ∧ W i n H') ?_ m0 ⟨0, H3, I4, st4, fun b hb => (f3 b hb).1.1, w0⟩
    rintro n s5 ⟨i, H5, I5, st5, n5, w5⟩
    rcases turn i n H5 w5 with ⟨stop, qq⟩ | ⟨go, Nx, hNx, step⟩
    · refine thnF (T.done (X.blk s3 H3 scope ce fp) rfl rfl rfl hc i [] s5 _ H5 (fun _ _ => False) I5 (foot I5 n5) st5 stop) fun r s6 z => ?_
      obtain ⟨rfl, I6⟩ := z
      have I7 : Inv X pins σ H5 s6 := I3.call' (ch := fp) I6.os I6.base I6.hok I6.bare fun b hb => ⟨(f3 b hb).1.2.2.2.1, (f3 b hb).1.2.1, (f3 b hb).1.2.2.2.2.1, (f3 b hb).1.2.2.2.2.2⟩
      obtain ⟨m, hn, _⟩ := I6.loc
      have free : H5 s3.heap.objs.size = none := cl ▸ (show H5 ce.locals = none from I6.free)
      exact hRR D s3.heap.objs.size s6 m H5 I7 qq (cl ▸ (show s6.heap.Ns ce.locals m from hn)) (I3.fpOk (Nat.le_refl _) free)
    · refine thnF (T.item (X.blk s3 H3 scope ce fp) rfl rfl rfl hc i [] s5 _ H5 (fun _ _ => False) I5 (foot I5 n5) st5 go) fun r s6 z => ?_
      obtain ⟨u, rfl, h6⟩ := z
      refine thnF h6 fun _ s7 z7 => ?_
      obtain ⟨x, H7, I7, r7, y7, st7, n7⟩ := z7
      refine thnF (pg.run _ s7 _ H7 x u _ (I7.pinned (foot I7 n7) (T.obj _ _ st7)) r7 (step x H7 y7)) fun _ s8 z8 => ?_
      obtain ⟨σ8, H8, I8, hw8, q8⟩ := z8
      refine thnF (pt.run _ s8 σ8 H8 _ I8 q8) fun b s9 z9 => ?_
      obtain ⟨H9, I9, q9⟩ := z9
      have close : ∀ {s' : Shared} {H' : Hp}, Inv (X.blk s3 H3 scope ce fp) ([] ++ pinsAt fp s7.heap) σ8 H' s' → Nx H' → ∃ m, m < n ∧ ∃ i H', Inv (X.blk s3 H3 scope ce fp) [] (wipe σ (own.map (·.2))) H' s' ∧ tn i s'.heap ∧ (∀ b ∈ fp, H' b = none) ∧ W i m H' := fun {s' H'} I' nx => by
        obtain ⟨m', lt, w'⟩ := hNx H' nx
        have pin : ∀ b ∈ fp, ∀ o, s7.heap.get? b = some o → s'.heap.get? b = some o ∧ H' b = none := fun b hb o e =>
          let z := I'.pin (b, o) (List.mem_append_right _ (List.mem_append_right _ (mem_pinsAt hb e)))
          ⟨z.1, z.2.1⟩
        refine ⟨m', lt, i + 1, H', (I'.unpinned (pins := [])).weak (by rw [← hw8, wipe_length]) (fun j v e => ?_), T.keep _ _ _ st7 fun b hb o e => (pin b hb o e).1, fun b hb => ?_, w'⟩
        · exact (wipe_some (hw8.symm ▸ e)).1
        · obtain ⟨o, e, _⟩ := T.obj _ _ st7 b hb
          exact (pin b hb o e).2
      cases b with
      | false => exact close I9 q9
      | true =>
        refine thnF (pk.run _ s9 σ8 H9 _ I9 q9) fun z s10 z10 => ?_
        obtain ⟨yk, H10, I10, r10, q10⟩ := z10
        refine thnF (pv.run _ s10 σ8 H10 _ I10 q10) fun z2 s11 z11 => ?_
        obtain ⟨yv, H11, I11, r11, kvs, k, c, rfl, hcK, hD, hz, nx⟩ := z11
        exact dT_set (X := X.blk s3 H3 scope ce fp) hu I11 hD hcK hz r10 r11 fun s12 I12 => close I12 nx
  exact codeAny_compStart_dict loop (T.self X.A 0 _ _ _ st4 loop)

theorem pe_dcT {kx vx tg iter : Expr} {ifs : List Expr} {scope : Scope} {own : List (Str × Nat)} {pos : Pos} {wi : TI} {g : TG} {tt : TT} {tk tv : TE} (hu : X.A.units + 1 < cLine) (hc : X.calm = true) (hN : X.N.Nodup) (hi : PI X tg iter wi) (ok : BlkOk X.N X.env.scope scope own)
    (hg : ∀ (s : Shared) (H : Hp) (C : Addr) (cl : List (Str × Addr)) (fp : List Addr), PG (X.blk s H scope (compEnvC scope cl C X.env) fp) tg g)
    (ht : ∀ (s : Shared) (H : Hp) (C : Addr) (cl : List (Str × Addr)) (fp : List Addr), PTs (X.blk s H scope (compEnvC scope cl C X.env) fp) ifs tt)
    (hk : ∀ (s : Shared) (H : Hp) (C : Addr) (cl : List (Str × Addr)) (fp : List Addr), PE (X.blk s H scope (compEnvC scope cl C X.env) fp) kx tk)
    (he : ∀ (s : Shared) (H : Hp) (C : Addr) (cl : List (Str × Addr)) (fp : List Addr), PE (X.blk s H scope (compEnvC scope cl C X.env) fp) vx tv)
    (hs : ∀ x, foldedSetIterable iter X.env x = pure x := by intro _; rfl) : PE X (.DictComp kx vx [⟨tg, iter, ifs, 0⟩] scope pos) (tDcT wi g tt tk tv (own.map (·.2))) := by
  refine ⟨fun pins s σ H Q I h => ?_⟩
  rw [arm_eval_DictComp]
  refine dcT_core I hu hc hN hi ok hg ht hk he hs h fun D C s' m H' I' q hn f => ⟨m, hn, fun h'' sb => ?_⟩
  obtain ⟨g0, g1, _, g3, g4, g5⟩ := f
  exact ⟨.ref D, H', I'.turned (t' := s'.toks) (fun b o hb e => (sb.2 b hb).trans e) g0 g1 g3 g4 g5, rfl, q⟩
theorem swD_true {scope : Scope} {pos py : Pos} {kx vx : Expr} {gs : List Comprehension} {y : Str} {l : Nat} {env : Env} (hk : env.scope.kind = .function) (hy : env.scope.names.lookup y = some .local) (hl : (py.line == pos.line) = true)
    (ha : (scope.names.any fun (n, k) => n == y && (k == .local || k == .cell)) = false) : swapsWith (.DictComp kx vx gs scope pos) (some (.Name y py)) l env = pure true := by
  have b1 : env.kindOf y = some .local := hy
  have b2 : env.blockKind = .function := by
    unfold Env.blockKind
    rw [hk]
    rfl
  unfold swapsWith
  simp only [b1, b2, ha, Expr.pos, hl]
  rfl
/-- name = {..} on one line -/
theorem ps_setDcT {kx vx tg iter : Expr} {ifs : List Expr} {scope : Scope} {own : List (Str × Nat)} {pos : Pos} {wi : TI} {g : TG} {tt : TT} {tk tv : TE} {i : Nat} {y : Str} {py spos : Pos} (hu : X.A.units + 1 < cLine) (hc : X.calm = true) (hN : X.N.Nodup) (hy : X.N[i]? = some y) (hyl : X.env.scope.names.lookup y = some .local) (hsw : swapsWith (.DictComp kx vx [⟨tg, iter, ifs, 0⟩] scope pos) (some (.Name y py)) spos.line X.env = pure true)
    (hi : PI X tg iter wi) (ok : BlkOk X.N X.env.scope scope own)
    (hg : ∀ (s : Shared) (H : Hp) (C : Addr) (cl : List (Str × Addr)) (fp : List Addr), PG (X.blk s H scope (compEnvC scope cl C X.env) fp) tg g)
    (ht : ∀ (s : Shared) (H : Hp) (C : Addr) (cl : List (Str × Addr)) (fp : List Addr), PTs (X.blk s H scope (compEnvC scope cl C X.env) fp) ifs tt)
    (hk : ∀ (s : Shared) (H : Hp) (C : Addr) (cl : List (Str × Addr)) (fp : List Addr), PE (X.blk s H scope (compEnvC scope cl C X.env) fp) kx tk)
    (he : ∀ (s : Shared) (H : Hp) (C : Addr) (cl : List (Str × Addr)) (fp : List Addr), PE (X.blk s H scope (compEnvC scope cl C X.env) fp) vx tv) (hs : ∀ x, foldedSetIterable iter X.env x = pure x := by intro _; rfl) : PS X (.Assign [.Name y py] (.DictComp kx vx [⟨tg, iter, ifs, 0⟩] scope pos) spos) (tAsg (tDcT wi g tt tk tv (own.map (·.2))) (gName i)) := by
  refine ⟨fun pins s σ H D I h => ?_⟩
  rw [exec_Assign_Name_used _ _ _ _ hsw]
  refine wpAny_bind (wpAny_standAt (wpAny_bind ?_))
  show wpAny _ X.A (do let _ ← comprehension (.DictComp kx vx [⟨tg, iter, ifs, 0⟩] scope pos) scope X.env (firstIterPos [⟨tg, iter, ifs, 0⟩] pos) newDict false (eval iter X.env) (some (assign (.Name y py) X.env))) _ _ s
  have z : tDcT wi g tt tk tv (own.map (·.2)) σ H (fun x H1 => gName i x σ H1 D.nx) := h
  refine wpAny_bind (thn (dcT_core (Qf := fun _ s' => SP X pins D .next s') I hu hc hN hi ok hg ht hk he hs z fun L C s' m H' I' q hn f => ?_) fun _ s' hq => wpAny_pure (wpAny_pure hq))
  obtain ⟨g0, g1, _, g3, g4, g5⟩ := f
  show wpAny _ _ (assign (.Name y py) X.env (.ref L)) _ _ _
  refine wpAny_assign_Name (store_ok2 (v := V.ref L) I' hN hy (.inl hyl) rfl (fun s2 I2 st => ?_) (.inr hyl))
  obtain ⟨a, sb, ha⟩ := st
  have apart : C ≠ a := ha.elim (fun z => z ▸ g1) fun z e => g4 y a z e.symm
  exact ⟨m, hn.sameBut sb apart, fun h3 sb3 => ⟨_, H', I2.turned (t' := s2.toks) (fun b o hb e => (sb3.2 b hb).trans e) g0 g1 g3 g4 g5, q⟩⟩
end
end L2

set_option Elab.async false
set_option linter.all false
set_option maxRecDepth 100000
set_option maxHeartbeats 4000000
/-! Dicts with tuple keys: d.clear(), list(d.values()), dict(list of pairs). -/
namespace L2
open PySem PySem.Spec PyProof.Rows
theorem vals_at : ∀ {xs : List V} {us : List Value}, xs.length = us.length → (∀ (j : Nat) x u, xs[j]? = some x → us[j]? = some u → RelV x u) → Vals xs us
  | [], [], _, _ => .nil
  | [], _ :: _, h, _ => by cases h
  | _ :: _, [], h, _ => by cases h
  | x :: xs, u :: us, h, r => .cons (r 0 x u rfl rfl) (vals_at (Nat.succ.inj h) fun j a b h1 h2 => r (j + 1) a b h1 h2)
section
variable {X : Cx}
/-- the entries of a dict with tuple keys -/
theorem Inv.rawT {pins : List (Addr × Obj)} {σ : St} {H : Hp} {s : Shared} {d : Addr} {kvs : List (List Key × V)} (I : Inv X pins σ H s) (h : H d = some (.dT kvs)) :
    (d == sysModules) = false ∧ ∃ (es : Array DictEntry) (ep : Nat), s.heap.DictRaw d es ep ∧ es.size = kvs.length ∧ kvs.length ≤ sizeLine ∧
      ∀ (i : Nat) (k : List Key) (v : V), kvs[i]? = some (k, v) → ∃ (hi : i < es.size) (q : Addr), es[i].key = .ref q ∧ H q = some (.tup (k.map kV)) ∧ RelV v es[i].val := by
  obtain ⟨z, low, xs, pr, o, es, ep, ho, hx, hdt, he, _⟩ := (show ObjOk X.prog X.w H s.heap d (.dT kvs) from I.hok d _ h)
  have l1 : es.size = xs.length := size_of_entries he
  have l2 : kvs.length = xs.length := Paired.length pr
  refine ⟨low, es, ep, ⟨o, ho, hx, hdt⟩, by omega, z, fun i k v e => ?_⟩
  obtain ⟨b, hb, _, e2, e3⟩ := paired_get pr e
  have hi : i < es.size := by
    have := (List.getElem?_eq_some_iff.mp e).1
    omega
  have q := entry_at he i
  rw [hb, Array.getElem?_eq_getElem hi, Option.map_some] at q
  have q2 := Option.some.inj q
  exact ⟨hi, b.2.1, by rw [q2]; rfl, e2, by rw [q2]; exact e3⟩
def rClearT : V → List V → Hp → VK → Prop := fun x xs H Q => ∃ (a : Addr) (kvs : List (List Key × V)), x = .ref a ∧ xs = [] ∧ H a = some (.dT kvs) ∧ Q .non (upd H a (.dT []))
theorem mt_clearT : MtR X "dict.clear" rClearT := by
  intro pins s σ H x xs v us Q I rx rxs h
  obtain ⟨a, kvs, rfl, rfl, ha, q⟩ := h
  cases rx
  cases rxs
  obtain ⟨low, es, ep, hr, hsz, z, _⟩ := I.rawT ha
  refine call_meetsIn PySem.F.slot_dict_clear hr.typeIs PySem.F.entry_dict_clear (PySem.F.args_dict_clear_1 _) (meets_dict_clear_raw a) ⟨es, ep, hr, by omega, fun h' hr' hs' => ?_⟩
  obtain ⟨o, ho, hc, hdat⟩ := hr'
  exact ⟨.non, _, d_write (t' := s.toks) (ob := .dT []) I (by rw [ha]; exact True.intro) hs' ⟨o, ho⟩ (show ObjOk X.prog X.w _ _ _ (.dT []) from ⟨Nat.zero_le _, low, [], .nil, o, #[], ep + 1, ho, hc, hdat, rfl, List.nodup_nil⟩), rfl, q⟩
/-- the view d.values() at p -/
def valsO (p d : Addr) : HO := .ext fun h => h.IsValuesView p d
def rValuesT : V → List V → Hp → VK → Prop := fun x xs H Q => ∃ (a : Addr) (kvs : List (List Key × V)), x = .ref a ∧ xs = [] ∧ H a = some (.dT kvs) ∧ ∀ p, H p = none → Q (.ref p) (upd H p (valsO p a))
theorem mt_valuesT : MtR X "dict.values" rValuesT := by
  intro pins s σ H x xs v us Q I rx rxs h
  obtain ⟨a, kvs, rfl, rfl, ha, q⟩ := h
  cases rx
  cases rxs
  obtain ⟨low, es, ep, hr, hsz, z, _⟩ := I.rawT ha
  refine call_meetsIn PySem.F.slot_dict_values hr.typeIs PySem.F.entry_dict_values (PySem.F.args_dict_values_1 _) (meets_dict_values_raw a low) ⟨⟨es, ep, hr⟩, ?_⟩
  have e : (s.heap.push { cls := .type "dict_values", data := .fields #[.ref a] }).get? s.heap.objs.size = some { cls := .type "dict_values", data := .fields #[.ref a] } := Heap.get?_push_size _ rfl
  refine ⟨.ref s.heap.objs.size, upd H s.heap.objs.size (valsO s.heap.objs.size a), I.laid (t' := s.toks) (fun b u e => Heap.get?_push_of_some _ e) (Nat.le_refl _) ?_, rfl, q _ (I.hok.fresh (Nat.le_refl _))⟩
  exact ⟨⟨_, e, rfl, rfl⟩, ⟨_, e⟩, fun h1 h2 x k => let ⟨o, ho, r⟩ := x; ⟨o, k o ho, r⟩⟩
/-- list(d.values()) -/
theorem call_list_vals (hc : X.calm = true) : CallR X (.type "list") (fun xs H Q => ∃ p d kvs, xs = [V.ref p] ∧ H p = some (valsO p d) ∧ H d = some (.dT kvs) ∧ ∀ l, H l = none → Q (.ref l) (upd H l (.lst (kvs.map (·.2))))) := by
  intro pins s σ H xs us Q I r h
  obtain ⟨p, d, kvs, rfl, hp, hd, q⟩ := h
  obtain ⟨u, rfl, rx⟩ := r.one
  cases rx
  obtain ⟨low, es, ep, hr, hsz, z, ent⟩ := I.rawT hd
  have hv : s.heap.IsValuesView p d := (show ObjOk X.prog X.w H s.heap p (valsO p d) from I.hok p _ hp).1
  refine PySem.W.kdl_call (KdlSrc.rawValues (r := p) (d := d) (es := es) (ep := ep)) (I.ok.hd hc) ⟨hv, hr⟩ (by omega) fun h' tk acc' c' kp e it => ?_
  have len : acc'.toList.length = kvs.length := by rw [Array.length_toList, it.1, hsz]
  have rv : Vals (kvs.map (·.2)) acc'.toList := vals_at (by rw [List.length_map, len]) fun j x u hx hu => by
    rw [List.getElem?_map] at hx
    cases hj : kvs[j]? with
    | none =>
      rw [hj] at hx
      cases hx
    | some kv =>
      rw [hj] at hx
      obtain rfl := Option.some.inj hx
      obtain ⟨hi, q, _, _, r2⟩ := ent j kv.1 kv.2 hj
      obtain ⟨hi2, e2⟩ := it.2 j u (by rw [← Array.getElem?_toList]; exact hu)
      rw [e2]
      exact r2
  refine ⟨.ref s.heap.objs.size, _, I.laid (t' := tk) (o := .lst (kvs.map (·.2))) kp (Nat.le_refl _) ?_, rfl, q _ (I.hok.fresh (Nat.le_refl _))⟩
  exact ⟨by rw [List.length_map]; exact z, acc'.toList, c', rv, by rw [Array.toArray_toList]; exact e⟩
end
end L2

set_option Elab.async false
set_option linter.all false
set_option maxRecDepth 100000
set_option maxHeartbeats 4000000
/-! dict(list of pairs), the first of each a tuple, all unlike. -/
namespace L2
open PySem PySem.Spec PyProof.Rows
/-- the pairs of a list that makes a dict with tuple keys: p a tuple of the key's tuple and the value -/
def IsPairT (H : Hp) (p : Addr) (kv : List Key × V) : Prop := ∃ q, H p = some (.tup [.ref q, kv.2]) ∧ H q = some (.tup (kv.1.map kV))
section
variable {X : Cx}
theorem pairsT_of {pins : List (Addr × Obj)} {σ : St} {H : Hp} {s : Shared} (I : Inv X pins σ H s) : ∀ {ps : List Addr} {kvs : List (List Key × V)}, Paired (IsPairT H) ps kvs →
    ∃ xs : List (List Key × Addr × Value), KT H kvs xs ∧ xs.length = ps.length ∧ ∀ (j : Nat) (x : List Key × Addr × Value), xs[j]? = some x → ∃ b, ps[j]? = some b ∧ s.heap.IsTuple b #[.ref x.2.1, x.2.2] ∧ H x.2.1 = some (.tup (x.1.map kV))
  | _, _, .nil => ⟨[], .nil, rfl, fun j x e => by simp at e⟩
  | _, _, .cons (a := p) (b := kv) h t => by
    obtain ⟨xs, r, hl, hp⟩ := pairsT_of I t
    obtain ⟨q, h1, h2⟩ := h
    obtain ⟨_, its, rv, ht⟩ := (show ObjOk X.prog X.w H s.heap p (.tup [.ref q, kv.2]) from I.hok p _ h1)
    obtain ⟨u, y, rfl, ru, ry⟩ := vals2 rv
    cases ru
    refine ⟨(kv.1, q, y) :: xs, .cons ⟨rfl, h2, ry⟩ r, by rw [List.length_cons, List.length_cons, hl], fun j x e => ?_⟩
    cases j with
    | zero =>
      obtain rfl := Option.some.inj e
      exact ⟨p, rfl, by obtain ⟨o, a, b, n, c⟩ := ht; exact ⟨o, a, b, n, c⟩, h2⟩
    | succ j => exact hp j x e
theorem call_dictT (hc : X.calm = true) (hu : X.A.units + 2 < cLine) : CallR X (.type "dict") (fun xs H Q => ∃ (a : Addr) (ps : List Addr) (kvs : List (List Key × V)), xs = [.ref a] ∧ H a = some (.lst (ps.map V.ref)) ∧ Paired (IsPairT H) ps kvs ∧ (kvs.map (·.1)).Nodup ∧
    ∀ p, H p = none → Q (.ref p) (upd H p (.dT kvs))) := by
  intro pins s σ H xs us Q I r h
  obtain ⟨a, ps, kvs, rfl, ha, hp, nd, q⟩ := h
  obtain ⟨u, rfl, rx⟩ := r.one
  cases rx
  obtain ⟨z, its, n, rv, ho⟩ := (show ObjOk X.prog X.w H s.heap a (.lst (ps.map V.ref)) from I.hok a _ ha)
  obtain rfl := refs_at rv
  rw [List.length_map] at z
  obtain ⟨ys, rel, hl, at_⟩ := pairsT_of I hp
  have lk : kvs.length = ys.length := Paired.length rel
  have keys : ys.map (·.1) = kvs.map (·.1) := by
    clear at_ hl lk nd q hp
    induction rel with
    | nil => rfl
    | cons h t ih => rw [List.map_cons, List.map_cons, ih, h.1]
  have ndy : (ys.map (·.1)).Nodup := keys ▸ nd
  let Ts : Nat → Addr := fun j => (ps[j]?).getD 0
  let prs : List (Value × Value) := ys.map fun x => (Value.ref x.2.1, x.2.2)
  have lp : prs.length = ys.length := List.length_map ..
  have items : PairItems s.heap (ps.map Value.ref).toArray Ts prs := by
    refine ⟨by rw [List.size_toArray, List.length_map, lp, hl], fun j k v e => ?_⟩
    rw [List.getElem?_map] at e
    cases hj : ys[j]? with
    | none =>
      rw [hj] at e
      cases e
    | some x =>
      rw [hj] at e
      cases e
      obtain ⟨b, hb, ht, _⟩ := at_ j x hj
      have eT : Ts j = b := by show (ps[j]?).getD 0 = b; rw [hb]; rfl
      rw [eT]
      exact ⟨by rw [List.getElem?_toArray, List.getElem?_map, hb]; rfl, .inl ht⟩
  have stay : ∀ h', (∀ b o, b ≠ s.heap.objs.size → b ∉ ([] : List Addr) → s.heap.get? b = some o → h'.get? b = some o) → ∀ x ∈ ys, (tupleKind (mixKind X.prog X.w)).is h' x.1 x.2.1 := fun h' hk x hx => by
    obtain ⟨j, hj⟩ := List.mem_iff_getElem?.mp hx
    obtain ⟨b, _, _, hq⟩ := at_ j x hj
    obtain ⟨o, arr, m, k1, k2, k3, k4⟩ := key_of I.hok hq
    exact ⟨o, arr, m, hk _ _ (Nat.ne_of_lt (Heap.lt_size k1)) (by simp) k1, k2, k3, k4⟩
  refine call_dict_pairsH (knd := tupleKind (mixKind X.prog X.w)) (ps := ys) (PairArg.list a (ps.map Value.ref).toArray Ts prs) (I.ok.hd hc) (by show X.A.units + 1 + 1 < cLine; exact hu) ⟨⟨_, n, ho, rfl, rfl, rfl⟩, items⟩ ⟨lp.symm, fun i key v e => ?_⟩ stay (by omega) fun h' tk hd' hk => ?_
  · have e2 : (ys.map fun x => (Value.ref x.2.1, x.2.2))[i]? = some (key, v) := e
    rw [List.getElem?_map] at e2
    cases hj : ys[i]? with
    | none =>
      rw [hj] at e2
      cases e2
    | some x =>
      rw [hj] at e2
      cases e2
      exact ⟨x.1, x.2.1, rfl, rfl⟩
  · rw [storedAllH_nil_of_nodup ys ndy] at hd'
    have low : (s.heap.objs.size == sysModules) = false := beq_eq_false_iff_ne.mpr (Nat.ne_of_gt I.big)
    obtain ⟨o, es, ep, g1, g2, g3, g4, _, g5⟩ := hd'
    have new : ∀ c zs, H c = some (.tup zs) → upd H s.heap.objs.size (.dT kvs) c = some (.tup zs) := fun c zs e => (upd_ne (Nat.ne_of_lt (I.hok.lt e))).trans e
    refine ⟨.ref s.heap.objs.size, upd H s.heap.objs.size (.dT kvs), I.laid (t' := tk) (fun b o e => hk b o (by simp) e) (Nat.le_refl _) (show ObjOk X.prog X.w _ _ _ (.dT kvs) from ⟨by omega, low, ys, rel.keeps new, o, es, ep, g1, g2, g3, g4, g5⟩), rfl, q _ (I.hok.fresh (Nat.le_refl _))⟩
end
end L2

set_option Elab.async false
set_option linter.all false
set_option maxRecDepth 100000
set_option maxHeartbeats 4000000
/-! == and != of two dicts with tuple keys, their values None and integers. -/
namespace L2
open PySem PySem.Spec PyProof.Rows
/-- None, or an integer -/
def isMk : V → Bool
  | .non => true
  | .int _ => true
  | _ => false
theorem eqAt_mk {A : Around} {s : Shared} {v w : V} {u u' : Value} (hv : isMk v = true) (hw : isMk w = true) (r : RelV v u) (r' : RelV w u') : SeqAt.EqAt A s u u' (decide (v = w)) := by
  cases v with
  | non =>
    cases (show u = Value.none from r)
    cases w with
    | non =>
      cases (show u' = Value.none from r')
      exact SeqAt.EqAt.same _
    | int j =>
      obtain ⟨t, rfl⟩ := (show ∃ t, u' = Value.int j t from r')
      exact SeqAt.EqAt.none_int j t
    | _ => cases hw
  | int i =>
    obtain ⟨t, rfl⟩ := (show ∃ t, u = Value.int i t from r)
    cases w with
    | non =>
      cases (show u' = Value.none from r')
      exact SeqAt.EqAt.int_none i t
    | int j =>
      obtain ⟨t', rfl⟩ := (show ∃ t, u' = Value.int j t from r')
      have e : decide (V.int i = V.int j) = (i == j) := by
        by_cases h : i = j
        · subst h
          simp
        · rw [decide_eq_false (fun z => h (V.int.inj z))]
          simp [h]
      rw [e]
      exact SeqAt.EqAt.int_int i t j t'
    | _ => cases hw
  | _ => cases hv
theorem valV_mem {κ : Type} [DecidableEq κ] {kvs : List (κ × V)} {k : κ} {v : V} (h : valV kvs k = some v) : ∃ q ∈ kvs, q.2 = v := by
  unfold valV at h
  obtain ⟨q, hq, e⟩ := Option.map_eq_some_iff.mp h
  exact ⟨q, List.mem_of_find?_eq_some hq, e⟩
/-- the entries of ka are those of kb -/
def sameB (ka kb : List (List Key × V)) : Bool := decide (ka.length = kb.length) && ka.all fun p => decide (valV kb p.1 = some p.2)
section
variable {X : Cx} {pins : List (Addr × Obj)} {σ : St} {H : Hp} {s : Shared} {E : Value → Shared → Prop} {a b : Addr} {ka kb : List (List Key × V)}
theorem samePairsT {A : Around} {nm : String} {Q : Bool → Shared → Prop} (hu : A.units + 1 < cLine) (I : Inv X pins σ H s) (ha : H a = some (.dT ka)) (hb : H b = some (.dT kb)) (ma : ∀ p ∈ ka, isMk p.2 = true) (mb : ∀ p ∈ kb, isMk p.2 = true) (h : Q (sameB ka kb) s) :
    wpAny (model X.prog X.w) A (Builtin.Dict.samePairs nm a b) Q E s := by
  obtain ⟨za, lowa, xa, ra, oa, es, ep, hoa, _, hda, hea, hia, _⟩ := dt_of I.hok ha
  obtain ⟨zb, lowb, xb, rb, ob, es', ep', hob, _, hdb, heb, hib, hnb⟩ := dt_of I.hok hb
  have la : es.size = ka.length := (size_of_entries hea).trans (Paired.length ra).symm
  have lb : es'.size = kb.length := (size_of_entries heb).trans (Paired.length rb).symm
  have room : (tupleKind (mixKind X.prog X.w)).room A := by
    show A.units < cLine
    omega
  unfold Builtin.Dict.samePairs Builtin.Dict.showsAll
  rw [if_neg (by rw [lowa]; exact Bool.false_ne_true), if_neg (by rw [lowb]; exact Bool.false_ne_true)]
  refine wpAny_bind (wpAny_pure (wpAny_bind (wpAny_pure (wpAny_bind (wpAny_dictEntries hoa hda ?_)))))
  dsimp only
  refine wpAny_bind (wpAny_dictEntries hob hdb ?_)
  by_cases hsz : es.size = es'.size
  case neg =>
    have e : sameB ka kb = false := by
      unfold sameB
      rw [decide_eq_false (by omega), Bool.false_and]
    rw [e] at h
    rw [if_pos (by simpa using hsz)]
    exact wpAny_bind (wpAny_rule (wpAny_pure h))
  have e0 : sameB ka kb = ka.all fun p => decide (valV kb p.1 = some p.2) := by
    unfold sameB
    rw [decide_eq_true (by omega), Bool.true_and]
  rw [e0] at h
  rw [if_neg (by rw [hsz]; simp)]
  refine wpAny_bind (wpAny_dictEpoch hoa hda (wpAny_bind ?_))
  rw [Std.Legacy.Range.forIn_eq_forIn_range']
  simp only [Std.Legacy.Range.size, Nat.sub_zero, Nat.add_sub_cancel, Nat.div_one]
  refine wpAny_forIn_list _
    (fun rest q s' => s' = s ∧ q = (none, ()) ∧ ∃ i, rest = List.range' i (es.size - i) ∧ i ≤ es.size ∧ (ka.all fun p => decide (valV kb p.1 = some p.2)) = (ka.drop i).all fun p => decide (valV kb p.1 = some p.2))
    _ ?_ ?_ _ _ ⟨rfl, rfl, 0, by simp, Nat.zero_le _, rfl⟩
  · rintro x rest q s' ⟨rfl, rfl, i, hr, hi, pre⟩
    have hlt : i < es.size := Nat.lt_of_not_le fun z => by
      rw [Nat.sub_eq_zero_of_le z] at hr
      simp at hr
    obtain ⟨rfl, hrest⟩ : x = i ∧ rest = List.range' (i + 1) (es.size - (i + 1)) := by
      rw [show es.size - i = (es.size - (i + 1)) + 1 by omega, List.range'_succ] at hr
      injection hr with h1 h2
      exact ⟨h1, h2⟩
    refine wpAny_bind (wpAny_dictEntries hoa hda ?_)
    have hk : x < ka.length := by omega
    obtain ⟨y, hy, y1, y2, y3⟩ := paired_get ra (List.getElem?_eq_getElem hk)
    have en := entry_at hea x
    rw [hy] at en
    rw [en, Option.map_some]
    have drop : ka.drop x = ka[x] :: ka.drop (x + 1) := List.drop_eq_getElem_cons hk
    rw [drop, List.all_cons] at pre
    have mk1 : isMk ka[x].2 = true := ma _ (List.getElem_mem hk)
    have key : (tupleKind (mixKind X.prog X.w)).is s'.heap y.1 y.2.1 := hia _ (List.mem_of_getElem? hy)
    generalize ka[x] = p at y1 y2 y3 pre mk1
    refine wpAny_bind (wpAny_holding (wpAny_bind ?_))
    refine PySem.wpAny_dictFind_heap room key hob hdb heb hib hnb (fun none_ => ?_) fun j z hj => ?_
    · have miss : valV kb p.1 = none := by
        rw [y1]
        have this := rb.val y.1
        rw [atKey_none_of_get none_, Option.map_none] at this
        cases hv : valV kb y.1 with
        | none => rfl
        | some v =>
          rw [hv] at this
          cases this
      rw [miss, decide_eq_false (by simp), Bool.false_and] at pre
      rw [pre] at h
      refine wpAny_pure ?_
      show wpAny _ _ (if (!false) = true then _ else _) _ _ _
      rw [if_pos (by decide)]
      exact wpAny_pure (wpAny_pure h)
    · have enb := entry_at heb j
      rw [hj] at enb
      refine wpAny_bind (wpAny_dictEntries hob hdb ?_)
      rw [enb, Option.map_some]
      obtain ⟨v2, hv2, rv2, mk2⟩ : ∃ v2, valV kb p.1 = some v2 ∧ RelV v2 z.2 ∧ isMk v2 = true := by
        rw [y1]
        have hat : atKey xb y.1 = some z := atKey_of_get hnb hj
        have := rb.val y.1
        rw [hat, Option.map_some] at this
        cases hv : valV kb y.1 with
        | none =>
          rw [hv] at this
          cases this
        | some v2 =>
          rw [hv] at this
          refine ⟨v2, rfl, this, ?_⟩
          obtain ⟨q, hq, e⟩ := valV_mem hv
          rw [← e]
          exact mb q hq
      refine wpAny_holding (eqAt_mk mk1 mk2 y3 rv2 X.prog X.w _ _ ?_)
      rw [hv2] at pre
      have ed : decide (some v2 = some p.2) = decide (p.2 = v2) := by
        by_cases e : p.2 = v2
        · rw [e]
          simp
        · rw [decide_eq_false e, decide_eq_false (fun z => e (Option.some.inj z).symm)]
      rw [ed] at pre
      cases hd : decide (p.2 = v2) with
      | false =>
        rw [hd, Bool.false_and] at pre
        rw [pre] at h
        show wpAny _ _ (if (!false) = true then _ else _) _ _ _
        rw [if_pos (by decide)]
        exact wpAny_pure (wpAny_pure h)
      | true =>
        rw [hd, Bool.true_and] at pre
        show wpAny _ _ (if (!true) = true then _ else _) _ _ _
        rw [if_neg (by decide)]
        refine wpAny_bind (wpAny_dictEpoch hoa hda ?_)
        rw [if_neg (by simp)]
        exact wpAny_pure ⟨rfl, rfl, x + 1, hrest, hlt, pre⟩
  · rintro q s' ⟨rfl, rfl, i, hr, hi, pre⟩
    have all : es.size ≤ i := Nat.le_of_not_lt fun z => by
      rw [show es.size - i = (es.size - (i + 1)) + 1 by omega, List.range'_succ] at hr
      cases hr
    rw [List.drop_of_length_le (by omega), List.all_nil] at pre
    rw [pre] at h
    exact wpAny_pure h
end
end L2

set_option Elab.async false
set_option linter.all false
set_option maxRecDepth 100000
set_option maxHeartbeats 4000000
namespace L2
open PySem PySem.Spec PyProof.Rows
def rEqT (neg : Bool) : R2 := fun x y H Q => ∃ a b ka kb, x = .ref a ∧ y = .ref b ∧ H a = some (.dT ka) ∧ H b = some (.dT kb) ∧ (∀ p ∈ ka, isMk p.2 = true) ∧ (∀ p ∈ kb, isMk p.2 = true) ∧ Q (.bl (neg ^^ sameB ka kb)) H
section
variable {X : Cx}
theorem op_eqT (hu : X.A.units + 2 < cLine) : OpR X (compareOp .Eq) (rEqT false) := by
  intro pins s σ H x y v u Q I rx ry h
  obtain ⟨a, b, ka, kb, rfl, rfl, ha, hb, ma, mb, q⟩ := h
  cases rx
  cases ry
  obtain ⟨_, _, _, da, _, _, _⟩ := I.rawT ha
  obtain ⟨_, _, _, db, _, _, _⟩ := I.rawT hb
  refine wpAny_richCompare_same_room (op := .Eq) da.typeIs db.typeIs PySem.F.slot_dict_eq (wpAny_call_entry PySem.F.slot_dict_eq da.typeIs PySem.F.entry_dict_eq ?_ (PySem.F.args_dict_eq_2 _ _)) (by omega)
  refine wpAny_bind ?_
  unfold Builtin.Dict.dictSlotArgs
  refine wpAny_bind (wpAny_notOrdered_dict da.typeIs ?_)
  show wpAny _ _ (pure (Value.ref a, Value.ref b)) _ _ s
  refine wpAny_pure (wpAny_bind (wpAny_isInstance (T := "dict") db.typeIs PySem.F.sub_dict_dict ?_))
  simp only [Bool.not_true, Bool.false_eq_true, if_false]
  refine wpAny_bind (wpAny_pure (wpAny_bind (wpAny_pure (wpAny_bind (samePairsT (by show X.A.units + 1 + 1 < cLine; exact hu) I ha hb ma mb (wpAny_pure ⟨_, rfl, by simp, ?_⟩))))))
  rw [Bool.false_xor] at q
  exact ⟨.bl (sameB ka kb), H, I, by show Value.bool (sameB ka kb == true) = _; cases sameB ka kb <;> rfl, q⟩
theorem op_neT (hu : X.A.units + 2 < cLine) : OpR X (compareOp .NotEq) (rEqT true) := by
  intro pins s σ H x y v u Q I rx ry h
  obtain ⟨a, b, ka, kb, rfl, rfl, ha, hb, ma, mb, q⟩ := h
  cases rx
  cases ry
  obtain ⟨_, _, _, da, _, _, _⟩ := I.rawT ha
  obtain ⟨_, _, _, db, _, _, _⟩ := I.rawT hb
  refine wpAny_richCompare_same_room (op := .NotEq) da.typeIs db.typeIs PySem.F.slot_dict_ne (wpAny_call_entry PySem.F.slot_dict_ne da.typeIs PySem.F.entry_dict_ne ?_ (PySem.F.args_dict_ne_2 _ _)) (by omega)
  refine wpAny_bind ?_
  unfold Builtin.Dict.dictSlotArgs
  refine wpAny_bind (wpAny_notOrdered_dict da.typeIs ?_)
  show wpAny _ _ (pure (Value.ref a, Value.ref b)) _ _ s
  refine wpAny_pure (wpAny_bind (wpAny_isInstance (T := "dict") db.typeIs PySem.F.sub_dict_dict ?_))
  simp only [Bool.not_true, Bool.false_eq_true, if_false]
  refine wpAny_bind (wpAny_pure (wpAny_bind (wpAny_pure (wpAny_bind (samePairsT (by show X.A.units + 1 + 1 < cLine; exact hu) I ha hb ma mb (wpAny_pure ⟨_, rfl, by simp, ?_⟩))))))
  rw [Bool.true_xor] at q
  exact ⟨.bl (!sameB ka kb), H, I, by show Value.bool (sameB ka kb == false) = _; cases sameB ka kb <;> rfl, q⟩
end
end L2

set_option Elab.async false
set_option linter.all false
set_option maxRecDepth 100000
set_option maxHeartbeats 4000000
/-! Pages: a crowd, and a dict from its pairs to marks. -/
namespace L2
open PySem PySem.Spec PyProof.Rows
theorem unlock_same {H H' : Hp} {d : Addr} {u : HO} {od : Obj} (hd : H d = some u) (s : Same (upd H d (.frz od u)) H') : Same H (upd H' d u) := fun b o e => by
  by_cases h : b = d
  · subst h
    rw [upd_same, ← hd, e]
  · rw [upd_ne h]
    exact s _ _ (by rw [upd_ne h]; exact e)
theorem kit_dict {T : String} (h : T ∈ knownT) : kitB T "dict" = some (decide (T = "dict")) := by
  simp only [knownT, List.mem_cons, List.not_mem_nil, or_false] at h
  rcases h with rfl | rfl | rfl | rfl | rfl | rfl | rfl <;> decide +kernel
/-- the key of a pair -/
def key2 (p : Str × Str) : List Key := [.inr p.1, .inr p.2]
theorem key2_inj {p q : Str × Str} (h : key2 p = key2 q) : p = q := by
  unfold key2 at h
  injection h with h1 h2
  injection h2 with h2 _
  exact Prod.ext (Sum.inr.inj h1) (Sum.inr.inj h2)
theorem key2_val (p : Str × Str) : (key2 p).map kV = [V.str p.1, V.str p.2] := rfl
/-- the entries of a page, by what it has for each pair -/
def sheetOf (zs : List Str) (f : Str × Str → V) : List (List Key × V) := (pairsOf zs).map fun p => (key2 p, f p)
theorem sheet_keys (zs : List Str) (f : Str × Str → V) : (sheetOf zs f).map (·.1) = (pairsOf zs).map key2 := by
  unfold sheetOf
  rw [List.map_map]
  rfl
theorem pairs_nodup {zs : List Str} (h : zs.Nodup) : (pairsOf zs).Nodup := by
  have key : ∀ l : List Str, l.Nodup → (l.flatMap (rowOf zs)).Nodup := fun l hl => by
    induction l with
    | nil => exact List.nodup_nil
    | cons a l ih =>
      obtain ⟨ha, hl⟩ := List.nodup_cons.mp hl
      rw [List.flatMap_cons, List.nodup_append]
      refine ⟨?_, ih hl, fun x hx y hy e => ?_⟩
      · unfold rowOf
        exact (nodup_map_inj (f := fun b => (a, b)) (fun b c e => (Prod.mk.inj e).2)).mpr (h.filter _)
      · subst e
        unfold rowOf at hx
        obtain ⟨b, _, rfl⟩ := List.mem_map.mp hx
        obtain ⟨c, hc, hx2⟩ := List.mem_flatMap.mp hy
        unfold rowOf at hx2
        obtain ⟨b2, _, e2⟩ := List.mem_map.mp hx2
        exact ha ((Prod.mk.inj e2).1 ▸ hc)
  exact key zs h
theorem sheet_nodup {zs : List Str} (h : zs.Nodup) (f : Str × Str → V) : ((sheetOf zs f).map (·.1)).Nodup := by
  rw [sheet_keys]
  exact (nodup_map_inj (fun _ _ e => key2_inj e)).mpr (pairs_nodup h)
theorem valV_map2 {f : Str × Str → V} {p : Str × Str} : ∀ {l : List (Str × Str)}, p ∈ l → valV (l.map fun p => (key2 p, f p)) (key2 p) = some (f p)
  | a :: l, h => by
    by_cases e : a = p
    · subst e
      exact valV_pos rfl
    · rw [List.map_cons, valV_neg (fun z => e (key2_inj z))]
      rcases List.mem_cons.mp h with e2 | h
      · exact absurd e2.symm e
      · exact valV_map2 h
theorem valV_sheet {zs : List Str} {f : Str × Str → V} {p : Str × Str} (h : p ∈ pairsOf zs) : valV (sheetOf zs f) (key2 p) = some (f p) := valV_map2 h
theorem sheet_len {zs : List Str} {f : Str × Str → V} : (sheetOf zs f).length = (pairsOf zs).length := List.length_map ..
/-- a mark up to m, or None -/
def mkOk (m : Int) (v : V) : Bool := decide (v = .non) || markB 0 m v
theorem mkOk_isMk {m : Int} {v : V} (h : mkOk m v = true) : isMk v = true := by
  cases v with
  | non => rfl
  | int i => rfl
  | _ => cases h
theorem mkOk_ty {K : PySem.W.Frag} {H : Hp} {m : Int} {v : V} (h : mkOk m v = true) : ∃ T, TyN K H v T := by
  cases v with
  | non => exact ⟨"NoneType", .base .non, by decide⟩
  | int i => exact ⟨"int", .base (.int i), by decide⟩
  | _ => cases h
/-- what an instance of Page holds -/
def pageFs (c d : Addr) : List (Str × V) := [("crowd", V.ref c), ("_marks", V.ref d)]
def PageOf (H : Hp) (C CP x : Addr) (zs : List Str) (m : Int) (f : Str × Str → V) : Prop := ∃ dx c d, H x = some (.ins CP dx (pageFs c d)) ∧ CrowdOf H C c zs m ∧ H d = some (.dT (sheetOf zs f))
theorem PageOf.same {H H2 : Hp} {C CP x : Addr} {zs : List Str} {m : Int} {f : Str × Str → V} (s : Same H H2) (h : PageOf H C CP x zs m f) : PageOf H2 C CP x zs m f := by
  obtain ⟨dx, c, d, h1, h2, h3⟩ := h
  exact ⟨dx, c, d, s _ _ h1, h2.same s, s _ _ h3⟩
/-- a page made since H -/
def PageNew (H H2 : Hp) (C CP x : Addr) (zs : List Str) (m : Int) (f : Str × Str → V) : Prop := H x = none ∧ ∃ dx c d, H d = none ∧ H2 x = some (.ins CP dx (pageFs c d)) ∧ CrowdOf H2 C c zs m ∧ H2 d = some (.dT (sheetOf zs f))
theorem PageNew.of {H H2 : Hp} {C CP x : Addr} {zs : List Str} {m : Int} {f : Str × Str → V} (h : PageNew H H2 C CP x zs m f) : PageOf H2 C CP x zs m f := by
  obtain ⟨_, dx, c, d, _, h1, h2, h3⟩ := h
  exact ⟨dx, c, d, h1, h2, h3⟩
/-- the dict at sd is not the page's own -/
def NotOwn (H : Hp) (CP x sd : Addr) : Prop := ∀ dx c d, H x = some (.ins CP dx (pageFs c d)) → d ≠ sd
theorem PageNew.notOwn {H H2 : Hp} {C CP x sd : Addr} {zs : List Str} {m : Int} {f : Str × Str → V} {o : HO} (h : PageNew H H2 C CP x zs m f) (e : H sd = some o) : NotOwn H2 CP x sd := fun dx2 c2 d2 e2 => by
  obtain ⟨_, dx, c, d, n, h1, _⟩ := h
  rw [h1] at e2
  have e3 := Option.some.inj e2
  injection e3 with _ _ e3
  injection e3 with _ e3
  injection e3 with e3 _
  have e4 : d = d2 := V.ref.inj (Prod.mk.inj e3).2
  exact fun z => by
    rw [← e4] at z
    exact ne_of_none e n z.symm
def spIsMark (K : PySem.W.Frag) (C : Addr) : Sp := fun vs H Q _ => ∃ (c : Addr) (v : V) (zs : List Str) (m : Int), vs = [.ref c, v] ∧ CrowdOf H C c zs m ∧ (∃ T, TyN K H v T) ∧ Q (.bl (markB 0 m v)) H
def spIsMarkN (K : PySem.W.Frag) (C : Addr) : Sp := fun vs H Q _ => ∃ (c : Addr) (v : V) (zs : List Str) (m : Int), vs = [.ref c, v] ∧ CrowdOf H C c zs m ∧ (∃ T, TyN K H v T) ∧ Q (.bl (mkOk m v)) H
/-- marks for all pairs of a crowd -/
def MarksAt (H : Hp) (zs : List Str) (m : Int) (d : Addr) (kvs : List (List Key × V)) : Prop := H d = some (.dT kvs) ∧ kvs.length = (pairsOf zs).length ∧ ∀ e ∈ kvs, (∃ p ∈ pairsOf zs, e.1 = key2 p) ∧ mkOk m e.2 = true
def MarksAll (zs : List Str) (kvs : List (List Key × V)) : Prop := ∀ p ∈ pairsOf zs, ∃ v, valV kvs (key2 p) = some v
def spAreMarks (C : Addr) : Sp := fun vs H Q _ => ∃ (c d : Addr) (zs : List Str) (m : Int) (kvs : List (List Key × V)), vs = [.ref c, .ref d] ∧ CrowdOf H C c zs m ∧ zs.length ≤ 8 ∧ MarksAt H zs m d kvs ∧ ∀ H', Same H H' → Q (.bl true) H'
theorem put_take {E : List (List Key × V)} (nd : (E.map (·.1)).Nodup) {i : Nat} {k : List Key} {v : V} (h : E[i]? = some (k, v)) : putK (E.take i) k v = E.take (i + 1) := by
  have hi := (List.getElem?_eq_some_iff.mp h).1
  have none_ : valV (E.take i) k = none := by
    cases hv : valV (E.take i) k with
    | none => rfl
    | some w =>
      have m1 := valV_in hv
      have e : E = E.take i ++ E.drop i := (List.take_append_drop i E).symm
      rw [e, List.map_append, List.nodup_append] at nd
      have m2 : k ∈ (E.drop i).map (·.1) := by
        refine List.mem_map.mpr ⟨(k, v), ?_, rfl⟩
        rw [List.mem_iff_getElem?]
        exact ⟨0, by rw [List.getElem?_drop, Nat.add_zero]; exact h⟩
      exact absurd rfl (nd.2.2 _ m1 _ m2)
  rw [putK_new v none_, List.take_add_one, h]
  rfl
theorem sheet_at {zs : List Str} {f : Str × Str → V} {i : Nat} {p : Str × Str} (h : (pairsOf zs)[i]? = some p) : (sheetOf zs f)[i]? = some (key2 p, f p) := by
  unfold sheetOf
  rw [List.getElem?_map, h]
  rfl
def spNeedCrowd (C : Addr) : Sp := fun vs H Q _ => ∃ (c : Addr) (zs : List Str) (m : Int), vs = [.ref c] ∧ CrowdOf H C c zs m ∧ Q .non H
def spPageInit (C CP : Addr) : Sp := fun vs H Q _ => ∃ (x dx c d : Addr) (zs : List Str) (m : Int) (kvs : List (List Key × V)), vs = [.ref x, .ref c, .ref d] ∧ H x = some (.ins CP dx []) ∧ CrowdOf H C c zs m ∧ zs.length ≤ 8 ∧ zs.Nodup ∧ MarksAt H zs m d kvs ∧ MarksAll zs kvs ∧
  ∀ H' dx' e, But x H H' → H e = none → H' x = some (.ins CP dx' (pageFs c e)) → H' e = some (.dT (sheetOf zs fun p => (valV kvs (key2 p)).getD .non)) → Q .non H'
theorem page_put {c d : Addr} : putF "_marks" (V.ref d) (putF "crowd" (V.ref c) []) = pageFs c d := by
  show (if (("crowd" : Str)) = "_marks" then _ else _) = _
  rw [if_neg (by decide +kernel)]
  rfl
def spPageMarks (C CP : Addr) : Sp := fun vs H Q _ => ∃ (x : Addr) (zs : List Str) (m : Int) (f : Str × Str → V), vs = [.ref x] ∧ PageOf H C CP x zs m f ∧ zs.length ≤ 8 ∧ zs.Nodup ∧ ∀ H' p, Same H H' → H p = none → H' p = some (.dT (sheetOf zs f)) → Q (.ref p) H'
def fullB (zs : List Str) (f : Str × Str → V) : Bool := (pairsOf zs).all fun p => !decide (f p = .non)
def spPageFull (C CP : Addr) : Sp := fun vs H Q _ => ∃ (x : Addr) (zs : List Str) (m : Int) (f : Str × Str → V), vs = [.ref x] ∧ PageOf H C CP x zs m f ∧ zs.length ≤ 8 ∧ ∀ H', Same H H' → Q (.bl (fullB zs f)) H'
def spPageGet (C CP : Addr) : Sp := fun vs H Q _ => ∃ (x t : Addr) (zs : List Str) (m : Int) (f : Str × Str → V) (p : Str × Str), vs = [.ref x, .ref t] ∧ PageOf H C CP x zs m f ∧ p ∈ pairsOf zs ∧ H t = some (.tup [.str p.1, .str p.2]) ∧ Q (f p) H
def likeB (zs : List Str) (f g : Str × Str → V) : Bool := (pairsOf zs).all fun p => decide (f p = g p)
def spPageEq (C CP : Addr) : Sp := fun vs H Q _ => ∃ (x y : Addr) (zs : List Str) (m : Int) (f : Str × Str → V), vs = [.ref x, .ref y] ∧ PageOf H C CP x zs m f ∧ zs.Nodup ∧ (∀ z ∈ zs, PyData.strOk z = true) ∧ (∀ p ∈ pairsOf zs, isMk (f p) = true) ∧
  ((∃ ys n g, PageOf H C CP y ys n g ∧ (∀ z ∈ ys, PyData.strOk z = true) ∧ (∀ p ∈ pairsOf ys, isMk (g p) = true) ∧ Q (.bl (decide (m = n) && (decide (zs = ys) && likeB zs f g))) H) ∨ ((∃ kvs, H y = some (.dT kvs)) ∧ Q (.bl false) H) ∨ ((∃ ys n, CrowdOf H C y ys n) ∧ Q (.bl false) H))
theorem same_sheets {zs : List Str} (nd : zs.Nodup) (f g : Str × Str → V) : sameB (sheetOf zs f) (sheetOf zs g) = likeB zs f g := by
  unfold sameB likeB
  rw [sheet_len, sheet_len, decide_eq_true rfl, Bool.true_and]
  have key : ∀ l : List (Str × Str), (∀ p ∈ l, p ∈ pairsOf zs) → ((l.map fun p => (key2 p, f p)).all fun e => decide (valV (sheetOf zs g) e.1 = some e.2)) = l.all fun p => decide (f p = g p) := fun l => by
    induction l with
    | nil => intro _; rfl
    | cons p l ih =>
      intro h
      rw [List.map_cons, List.all_cons, List.all_cons, ih fun q hq => h q (List.mem_cons_of_mem _ hq)]
      dsimp only
      rw [valV_sheet (h p (List.mem_cons_self ..))]
      have e : decide (some (g p) = some (f p)) = decide (f p = g p) := by
        by_cases e : f p = g p
        · rw [e]
          simp
        · rw [decide_eq_false e, decide_eq_false (fun z => e (Option.some.inj z).symm)]
      rw [e]
  exact key (pairsOf zs) fun _ h => h
theorem sheet_mk {zs : List Str} {f : Str × Str → V} (h : ∀ p ∈ pairsOf zs, isMk (f p) = true) : ∀ e ∈ sheetOf zs f, isMk e.2 = true := fun e he => by
  unfold sheetOf at he
  obtain ⟨p, hp, rfl⟩ := List.mem_map.mp he
  exact h p hp
theorem valV_none {κ : Type} [DecidableEq κ] {kvs : List (κ × V)} {k : κ} (h : k ∉ kvs.map (·.1)) : valV kvs k = none := by
  cases hv : valV kvs k with
  | none => rfl
  | some v => exact absurd (valV_in hv) h
/-- the row of somebody: its marks for the others -/
def rowK (l : List Str) (f : Str × Str → V) (a : Str) : List (Key × V) := (l.filter fun b => a ≠ b).map fun b => (Sum.inr b, f (a, b))
theorem rowK_take (zs : List Str) (f : Str × Str → V) (a b : Str) (i : Nat) (h : zs[i]? = some b) : rowK (zs.take (i + 1)) f a = rowK (zs.take i) f a ++ (if a ≠ b then [(Sum.inr b, f (a, b))] else []) := by
  unfold rowK
  rw [row_take zs a b i h, List.map_append]
  congr 1
  split <;> rfl
theorem rowK_new {zs : List Str} (nd : zs.Nodup) (f : Str × Str → V) (a b : Str) (i : Nat) (h : zs[i]? = some b) : valV (rowK (zs.take i) f a) (Sum.inr b : Key) = none := by
  refine valV_none fun m => ?_
  unfold rowK at m
  rw [List.map_map] at m
  obtain ⟨c, hc, e⟩ := List.mem_map.mp m
  have e2 : c = b := Sum.inr.inj e
  subst e2
  have m1 := (List.mem_filter.mp hc).1
  have m2 : c ∈ zs.drop i := List.mem_iff_getElem?.mpr ⟨0, by rw [List.getElem?_drop, Nat.add_zero]; exact h⟩
  have e3 : zs = zs.take i ++ zs.drop i := (List.take_append_drop i zs).symm
  rw [e3, List.nodup_append] at nd
  exact absurd rfl (nd.2.2 _ m1 _ m2)
theorem rowK_len {l : List Str} {f : Str × Str → V} {a : Str} : (rowK l f a).length ≤ l.length := by
  unfold rowK
  rw [List.length_map]
  exact List.length_filter_le ..
def spPageRow (C CP : Addr) : Sp := fun vs H Q _ => ∃ (x : Addr) (zs : List Str) (m : Int) (f : Str × Str → V) (a : Str), vs = [.ref x, .str a] ∧ PageOf H C CP x zs m f ∧ zs.Nodup ∧ zs.length ≤ 8 ∧ a ∈ zs ∧ ∀ H' p, Same H H' → H p = none → H' p = some (.dK (rowK zs f a)) → Q (.ref p) H'
theorem mem_pairsOf {zs : List Str} {a b : Str} (ha : a ∈ zs) (hb : b ∈ zs) (h : a ≠ b) : (a, b) ∈ pairsOf zs := by
  unfold pairsOf
  refine List.mem_flatMap.mpr ⟨a, ha, ?_⟩
  unfold rowOf
  exact List.mem_map.mpr ⟨b, List.mem_filter.mpr ⟨hb, by simpa using h⟩, rfl⟩
theorem sheet_congr {zs : List Str} {f g : Str × Str → V} (h : ∀ p ∈ pairsOf zs, f p = g p) : sheetOf zs f = sheetOf zs g := by
  unfold sheetOf
  exact List.map_congr_left fun p hp => by rw [h p hp]
def withF (f : Str × Str → V) (q : Str × Str) (v : V) : Str × Str → V := fun p => if p = q then v else f p
theorem put_sheet {zs : List Str} {f : Str × Str → V} {q : Str × Str} {v : V} (h : q ∈ pairsOf zs) : putK (sheetOf zs f) (key2 q) v = sheetOf zs (withF f q v) := by
  unfold putK
  have any : ((sheetOf zs f).any fun kv => decide (kv.1 = key2 q)) = true := by
    rw [valV_any, valV_sheet h]
    rfl
  rw [if_pos any]
  unfold sheetOf
  rw [List.map_map]
  refine List.map_congr_left fun p hp => ?_
  show (if key2 p = key2 q then (key2 p, v) else (key2 p, f p)) = (key2 p, withF f q v p)
  unfold withF
  by_cases e : p = q
  · subst e
    rw [if_pos rfl, if_pos rfl]
  · rw [if_neg (fun z => e (key2_inj z)), if_neg e]
section
variable {σ : St} {H : Hp} {Q : VK} {C CP : Addr} {zs : List Str} {m : Int} {g : Str × Str → V}
theorem md_page {c d : Addr} {kvs : List (List Key × V)} {H1 : Hp} {R : VK} {E : XK} (s1 : Same H H1) (hc : CrowdOf H1 C c zs m) (z8 : zs.length ≤ 8) (nd : zs.Nodup) (hM : MarksAt H1 zs m d kvs) (hv : ∀ p ∈ pairsOf zs, valV kvs (key2 p) = some (g p))
    (k : ∀ H' x, Same H H' → PageNew H H' C CP x zs m g → R (.ref x) H') : ∀ x dx, H1 x = none → H1 dx = none → dx ≠ x → spPageInit C CP [.ref x, .ref c, .ref d] (upd (upd H1 dx (.own x)) x (.ins CP dx [])) (fun v H2 => v = .non ∧ R (.ref x) H2) E := by
  intro x dx nx ndx nex
  have s2 : Same H1 (upd (upd H1 dx (.own x)) x (.ins CP dx [])) := fun b o e => by
    rw [upd_ne (ne_of_none e nx), upd_ne (ne_of_none e ndx)]
    exact e
  obtain ⟨hd, hl, hk⟩ := hM
  refine ⟨x, dx, c, d, zs, m, kvs, rfl, upd_same, hc.same s2, z8, nd, ⟨s2 _ _ hd, hl, hk⟩, fun p hp => ⟨_, hv p hp⟩, fun H' dx2 e hB ne h1 h2 => ⟨rfl, k H' x (s1.trans fun b o z => hB b o (ne_of_none z nx) (s2 _ _ z)) ⟨s1.free nx, dx2, c, e, s1.free (s2.free ne), h1, ?_, ?_⟩⟩⟩
  · obtain ⟨dc, l, e1, e2⟩ := hc
    exact ⟨dc, l, hB _ _ (ne_of_none e1 nx) (s2 _ _ e1), hB _ _ (ne_of_none e2 nx) (s2 _ _ e2)⟩
  · rw [h2, sheet_congr (g := g) fun p hp => by rw [hv p hp]; rfl]
theorem rd_page {E : XK} {kvs : List (List Key × V)} {t : TA} (z8 : zs.length ≤ 8) (nd : zs.Nodup) (hl : kvs.length = (pairsOf zs).length) (hk : ∀ e ∈ kvs, (∃ p ∈ pairsOf zs, e.1 = key2 p) ∧ mkOk m e.2 = true) (hv : ∀ p ∈ pairsOf zs, valV kvs (key2 p) = some (g p))
    (ht : ∀ Q' : List V → Hp → Prop, (∀ H1 c d, Same H H1 → CrowdOf H1 C c zs m → H1 d = some (.dT kvs) → Q' [.ref c, .ref d] H1) → t σ H Q') (k : ∀ H' x, Same H H' → PageNew H H' C CP x zs m g → Q (.ref x) H') : tMake CP (spPageInit C CP) [] E t σ H Q := by
  refine ht _ fun H1 c d s1 hc hd => ?_
  exact md_page s1 hc z8 nd ⟨hd, hl, hk⟩ hv k
end
theorem sheet_marks {zs : List Str} {m : Int} {f : Str × Str → V} (mk : ∀ p ∈ pairsOf zs, mkOk m (f p) = true) : ∀ e ∈ sheetOf zs f, (∃ p ∈ pairsOf zs, e.1 = key2 p) ∧ mkOk m e.2 = true := fun e he => by
  unfold sheetOf at he
  obtain ⟨p, hp, rfl⟩ := List.mem_map.mp he
  exact ⟨⟨p, hp, rfl⟩, mk p hp⟩
def spWithMark (C CP : Addr) : Sp := fun vs H Q _ => ∃ (x t : Addr) (v : V) (zs : List Str) (m : Int) (f : Str × Str → V) (p : Str × Str), vs = [.ref x, .ref t, v] ∧ PageOf H C CP x zs m f ∧ zs.Nodup ∧ zs.length ≤ 8 ∧ (∀ z ∈ zs, PyData.strOk z = true) ∧
  (∀ p ∈ pairsOf zs, mkOk m (f p) = true) ∧ p ∈ pairsOf zs ∧ H t = some (.tup [.str p.1, .str p.2]) ∧ mkOk m v = true ∧ ∀ H' y, Same H H' → PageNew H H' C CP y zs m (withF f p v) → Q (.ref y) H'
def spFilled (C CP : Addr) : Sp := fun vs H Q _ => ∃ (c : Addr) (v : V) (zs : List Str) (m : Int), vs = [.ref c, v] ∧ CrowdOf H C c zs m ∧ zs.Nodup ∧ zs.length ≤ 8 ∧ mkOk m v = true ∧ ∀ H' y, Same H H' → PageNew H H' C CP y zs m (fun _ => v) → Q (.ref y) H'
theorem eqv_pairD (p q : Str × Str) : PyData.eqv (pairD p) (pairD q) = decide (p = q) := by
  show PyData.eqv (.tuple ([p.1, p.2].map .str)) (.tuple ([q.1, q.2].map .str)) = _
  rw [PyData.eqv, eqvAll_strs]
  refine decide_eq_decide.mpr ⟨fun h => ?_, fun h => by rw [h]⟩
  injection h with h1 h2
  injection h2 with h2 _
  exact Prod.ext h1 h2
theorem shaped_pairD {p : Str × Str} (h1 : PyData.strOk p.1 = true) (h2 : PyData.strOk p.2 = true) : SeqAt.shaped (pairD p) = true := by
  have ok : ∀ z ∈ [p.1, p.2], PyData.strOk z = true := fun z hz => by
    rcases List.mem_cons.mp hz with rfl | hz
    · exact h1
    · rw [List.mem_singleton.mp hz]
      exact h2
  have := depth_strs [p.1, p.2]
  show SeqAt.shaped (.tuple ([p.1, p.2].map .str)) = true
  unfold SeqAt.shaped
  rw [PyData.canLay0, lay_strs ok, Bool.true_and]
  refine decide_eq_true ?_
  rw [PyData.depth]
  omega
theorem dp_pair {K : PySem.W.Frag} {H : Hp} {t : Addr} {p : Str × Str} (h : H t = some (.tup [.str p.1, .str p.2])) : Dp K H (.ref t) (pairD p) := .tup (SqT.of h) (.cons (.str _) (.cons (.str _) .nil))
/-- a row that is given: words and marks -/
def rowD (es : List (Str × V)) : List (Key × V) := es.map fun e => (Sum.inr e.1, e.2)
def RowFor (zs : List Str) (m : Int) (a : Str) (es : List (Str × V)) : Prop := es.length + 1 = zs.length ∧ ∀ e ∈ es, e.1 ∈ zs ∧ e.1 ≠ a ∧ mkOk m e.2 = true
def spIsRow (C : Addr) : Sp := fun vs H Q _ => ∃ (c r : Addr) (a : Str) (zs : List Str) (m : Int) (es : List (Str × V)), vs = [.ref c, .str a, .ref r] ∧ CrowdOf H C c zs m ∧ zs.length ≤ 8 ∧ H r = some (.dK (rowD es)) ∧ RowFor zs m a es ∧ ∀ H', Same H H' → Q (.bl true) H'
def putRow (f : Str × Str → V) (a : Str) (es : List (Str × V)) : Str × Str → V := es.foldl (fun g e => withF g (a, e.1) e.2) f
theorem putRow_snoc (f : Str × Str → V) (a : Str) (es : List (Str × V)) (e : Str × V) : putRow f a (es ++ [e]) = withF (putRow f a es) (a, e.1) e.2 := by
  unfold putRow
  rw [List.foldl_append]
  rfl
theorem putRow_mk {m : Int} {a : Str} {ps : List (Str × Str)} : ∀ {es : List (Str × V)} {f : Str × Str → V}, (∀ e ∈ es, mkOk m e.2 = true) → (∀ p ∈ ps, mkOk m (f p) = true) → ∀ p ∈ ps, mkOk m (putRow f a es p) = true
  | [], _, _, h2 => h2
  | e :: es, f, h1, h2 => fun p hp => by
    refine putRow_mk (es := es) (f := withF f (a, e.1) e.2) (fun x hx => h1 x (List.mem_cons_of_mem _ hx)) (fun q hq => ?_) p hp
    unfold withF
    split
    · exact h1 e (List.mem_cons_self ..)
    · exact h2 q hq
def spWithRow (C CP : Addr) : Sp := fun vs H Q _ => ∃ (x r : Addr) (a : Str) (zs : List Str) (m : Int) (f : Str × Str → V) (es : List (Str × V)), vs = [.ref x, .str a, .ref r] ∧ PageOf H C CP x zs m f ∧ zs.Nodup ∧ zs.length ≤ 8 ∧ a ∈ zs ∧
  (∀ p ∈ pairsOf zs, mkOk m (f p) = true) ∧ H r = some (.dK (rowD es)) ∧ RowFor zs m a es ∧ ∀ H' y, Same H H' → PageNew H H' C CP y zs m (putRow f a es) → Q (.ref y) H'
/-- a law's plan of a crowd: its people and the greatest mark -/
def planK (l : Addr) (m : Int) : List (Key × V) := [(Sum.inr "people", V.ref l), (Sum.inr "most", V.int m)]
theorem plan_people {l : Addr} {m : Int} : valV (planK l m) (Sum.inr "people" : Key) = some (V.ref l) := valV_pos rfl
theorem plan_most {l : Addr} {m : Int} : valV (planK l m) (Sum.inr "most" : Key) = some (V.int m) := by
  unfold planK
  rw [valV_neg (fun z => absurd (Sum.inr.inj z) (by decide +kernel))]
  exact valV_pos rfl
theorem get_people {H : Hp} {pl l : Addr} {m : Int} (h : H pl = some (.dK (planK l m))) : DGet H pl (.str "people") (some (.ref l)) := .inl ⟨_, Sum.inr "people", .inl h, rfl, plan_people.symm⟩
theorem get_most {H : Hp} {pl l : Addr} {m : Int} (h : H pl = some (.dK (planK l m))) : DGet H pl (.str "most") (some (.int m)) := .inl ⟨_, Sum.inr "most", .inl h, rfl, plan_most.symm⟩
def spSheet (K : PySem.W.Frag) : Sp := fun vs H Q _ => ∃ (a pl l : Addr) (r : Int) (zs : List Str) (m : Int), vs = [.ref a, .ref pl, .int r] ∧ Pool H a ∧ H pl = some (.dK (planK l m)) ∧ H l = some (.lst (zs.map V.str)) ∧ zs.Nodup ∧ zs.length ≤ 8 ∧ 1 ≤ m ∧ m ≤ 10 ∧ r ≤ 100 ∧
  ∀ H' p f, Pool H' a → But a H H' → H p = none → H' p = some (.dT (sheetOf zs f)) → (∀ q ∈ pairsOf zs, mkOk m (f q) = true) → Q (.ref p) H'
theorem sheet_take_with {zs : List Str} (nd : zs.Nodup) {f : Str × Str → V} {q : Str × Str} {v : V} {i : Nat} (h : (pairsOf zs)[i]? = some q) : (sheetOf zs (withF f q v)).take i = (sheetOf zs f).take i := by
  unfold sheetOf
  rw [← List.map_take, ← List.map_take]
  refine List.map_congr_left fun p hp => ?_
  have ne : p ≠ q := fun e => by
    subst e
    have e2 : pairsOf zs = (pairsOf zs).take i ++ (pairsOf zs).drop i := (List.take_append_drop i _).symm
    have n := pairs_nodup nd
    rw [e2, List.nodup_append] at n
    exact absurd rfl (n.2.2 _ hp _ (List.mem_iff_getElem?.mpr ⟨0, by rw [List.getElem?_drop, Nat.add_zero]; exact h⟩))
  unfold withF
  rw [if_neg ne]
end L2

set_option Elab.async false
set_option linter.all false
set_option maxRecDepth 100000
set_option maxHeartbeats 4000000
/-! list(d.items()), the keys numbers or texts. -/
namespace L2
open PySem PySem.Spec PyProof.Rows
section
variable {X : Cx}
theorem Inv.rawK {pins : List (Addr × Obj)} {σ : St} {H : Hp} {s : Shared} {d : Addr} {kvs : List (Key × V)} (I : Inv X pins σ H s) (h : H d = some (.dK kvs)) :
    (d == sysModules) = false ∧ ∃ (es : Array DictEntry) (ep : Nat), s.heap.DictRaw d es ep ∧ es.size = kvs.length ∧ kvs.length ≤ sizeLine ∧
      ∀ (i : Nat) (k : Key) (v : V), kvs[i]? = some (k, v) → ∃ (hi : i < es.size), RelV (kV k) es[i].key ∧ RelV v es[i].val := by
  obtain ⟨z, low, vs, rel, dd⟩ := dk_of I.hok h
  obtain ⟨es, ep, hr, hs, he⟩ := dd.raw
  have l : kvs.length = vs.length := Paired.length rel
  refine ⟨low, es, ep, hr, by omega, z, fun i k v e => ?_⟩
  obtain ⟨u, hu, ru⟩ := kv_get rel e
  have hi : i < es.size := by
    have := (List.getElem?_eq_some_iff.mp e).1
    omega
  obtain ⟨e1, e2⟩ := he i hi k u hu
  exact ⟨hi, relV_key (show keyIs k es[i].key = true from e1), by rw [e2]; exact ru⟩
def rItemsK : V → List V → Hp → VK → Prop := fun x xs H Q => ∃ (a : Addr) (kvs : List (Key × V)), x = .ref a ∧ xs = [] ∧ H a = some (.dK kvs) ∧ ∀ p, H p = none → Q (.ref p) (upd H p (DX.itemsO p a))
theorem mt_itemsK : MtR X "dict.items" rItemsK := by
  intro pins s σ H x xs v us Q I rx rxs h
  obtain ⟨a, kvs, rfl, rfl, ha, q⟩ := h
  cases rx
  cases rxs
  obtain ⟨low, es, ep, hr, _⟩ := I.rawK ha
  refine call_meetsIn PySem.F.slot_dict_items hr.typeIs PySem.F.entry_dict_items (PySem.F.args_dict_items_1 _) (meets_dict_items_raw a low) ⟨⟨es, ep, hr⟩, ?_⟩
  exact ⟨.ref s.heap.objs.size, upd H s.heap.objs.size (DX.itemsO s.heap.objs.size a), I.laid (t' := s.toks) (fun b u e => Heap.get?_push_of_some _ e) (Nat.le_refl _) (DX.itemsO_ok (Heap.get?_push_size _ rfl)), rfl, q _ (I.hok.fresh (Nat.le_refl _))⟩
/-- new tuples of the entries of a dict -/
def ItemsK (H : Hp) (ts : List Addr) (kvs : List (Key × V)) : Prop := ts.length = kvs.length ∧ ∀ (j : Nat) (t : Addr) (kv : Key × V), ts[j]? = some t → kvs[j]? = some kv → H t = some (.tup [kV kv.1, kv.2])
theorem call_list_items (hc : X.calm = true) : CallR X (.type "list") (fun xs H Q => ∃ p d kvs, xs = [V.ref p] ∧ H p = some (DX.itemsO p d) ∧ H d = some (.dK kvs) ∧ ∀ H' l ts, Same H H' → H' l = some (.lst (ts.map V.ref)) → ItemsK H' ts kvs → Q (.ref l) H') := by
  intro pins s σ H xs us Q I r h
  obtain ⟨p, d, kvs, rfl, hp, hd, q⟩ := h
  obtain ⟨u, rfl, rx⟩ := r.one
  cases rx
  obtain ⟨low, es, ep, hr, hsz, z, ent⟩ := I.rawK hd
  have hv : s.heap.IsItemsView p d := (show ObjOk X.prog X.w H s.heap p (DX.itemsO p d) from I.hok p _ hp).1
  refine PySem.W.dil_call (es := es) (ep := ep) (I.ok.hd hc) hv hr (by omega) fun h' tk acc c as kp hl len G ea => ?_
  have free : H s.heap.objs.size = none := I.hok.fresh (Nat.le_refl _)
  have I1 : Inv X pins σ (upd H s.heap.objs.size (.lst (as.map V.ref))) { s with heap := h', toks := tk } := by
    refine I.laid (t' := tk) (o := .lst (as.map V.ref)) kp (Nat.le_refl _) ⟨by rw [List.length_map]; omega, acc.toList, c, ?_, by rw [Array.toArray_toList]; exact hl⟩
    rw [ea]
    exact vals_refs as
  have nd : as.Nodup := G.rise.imp fun h => Nat.ne_of_lt h
  obtain ⟨H2, I2, g, qt⟩ := DX.takeT (P := fun b vs => ∃ (j : Nat) (kv : Key × V), as[j]? = some b ∧ kvs[j]? = some kv ∧ vs = [kV kv.1, kv.2]) I as _ I1 nd fun b hb => by
    obtain ⟨j, hj⟩ := List.mem_iff_getElem?.mp hb
    obtain ⟨hje, hg⟩ := G.pairs j b hj
    have hk : j < kvs.length := by omega
    obtain ⟨_, r1, r2⟩ := ent j kvs[j].1 kvs[j].2 (List.getElem?_eq_getElem hk)
    have hbl := G.above b hb
    refine ⟨Nat.le_of_lt hbl, ?_, [kV kvs[j].1, kvs[j].2], ⟨j, kvs[j], hj, List.getElem?_eq_getElem hk, rfl⟩, fun H3 => ⟨by show 2 ≤ sizeLine; decide, [es[j].key, es[j].val], .cons r1 (.cons r2 .nil), ⟨_, hg, rfl, _, rfl⟩⟩⟩
    rw [upd_ne (Nat.ne_of_gt hbl)]
    exact I.hok.fresh (Nat.le_of_lt hbl)
  refine ⟨.ref s.heap.objs.size, H2, I2, rfl, q H2 _ as (fun b o e => g b o (by rw [upd_ne (ne_of_none e free)]; exact e)) (g _ _ upd_same) ⟨by omega, fun j t kv h1 h2 => ?_⟩⟩
  obtain ⟨vs, ⟨i, kv2, j1, j2, ev⟩, hH⟩ := qt t (List.mem_of_getElem? h1)
  have eij : j = i := (List.getElem?_inj (List.getElem?_eq_some_iff.mp h1).1 nd).mp (h1.trans j1.symm)
  subst eij
  obtain rfl := Option.some.inj (h2.symm.trans j2)
  rw [hH, ev]
end
end L2

set_option Elab.async false
set_option linter.all false
set_option maxRecDepth 100000
set_option maxHeartbeats 4000000
/-! Marks, and rows of marks, as data: their texts, and that they are equal to themselves. -/
namespace L2
open PySem PySem.Spec PyProof.Rows
/-- data of few signs -/
def Small (d : PyData) : Prop := d.hasDict = false ∧ d.showable = true ∧ d.depth ≤ 2 ∧ d.shown.length ≤ 30 ∧ d.canLay0 = true
theorem small_all : ∀ {ds : List PyData}, (∀ d ∈ ds, Small d) → PyData.hasDictAll ds = false ∧ PyData.showableAll ds = true ∧ PyData.depthAll ds ≤ 2 ∧ (∀ t ∈ PyData.shownAll ds, t.length ≤ 30) ∧ PyData.canLayAll0 ds = true
  | [], _ => ⟨rfl, rfl, by simp [PyData.depthAll], fun t h => (nomatch h), rfl⟩
  | d :: ds, h => by
    obtain ⟨h1, h2, h3, h4, h5⟩ := small_all fun e he => h e (List.mem_cons_of_mem _ he)
    obtain ⟨k1, k2, k3, k4, k5⟩ := h d (List.mem_cons_self ..)
    refine ⟨?_, ?_, ?_, fun t ht => ?_, ?_⟩
    · rw [PyData.hasDictAll, k1, h1]
      rfl
    · rw [PyData.showableAll, k2, h2]
      rfl
    · simp only [PyData.depthAll]
      omega
    · rw [PyData.shownAll] at ht
      rcases List.mem_cons.mp ht with e | e
      · rw [e]
        exact k4
      · exact h4 t e
    · rw [PyData.canLayAll0, k5, h5]
      rfl
theorem small_list {ds : List PyData} (h : ∀ d ∈ ds, Small d) (hl : ds.length ≤ 64) : (PyData.list ds).hasDict = false ∧ (PyData.list ds).showable = true ∧ (PyData.list ds).depth ≤ 100 ∧ (PyData.list ds).shown.length ≤ sizeLine := by
  obtain ⟨h1, h2, h3, h4, _⟩ := small_all h
  refine ⟨by rw [PyData.hasDict]; exact h1, by rw [PyData.showable]; exact h2, by rw [PyData.depth]; omega, ?_⟩
  rw [PyData.shown]
  unfold listText
  rw [Str.length_append]
  have k := from_len (PyData.shownAll ds) 0 30 "[" h4
  rw [shownAll_len] at k
  have c1 : (Str.ofString "[").length = 1 := by decide
  have c2 : (Str.ofString "]").length = 1 := by decide
  have h5 : ds.length * (30 + 2) ≤ 64 * 32 := Nat.mul_le_mul_right _ hl
  rw [sizeLine_eq]
  omega
theorem small_shaped {ds : List PyData} (h : ∀ d ∈ ds, Small d) : SeqAt.shaped (.list ds) = true := by
  obtain ⟨_, _, h3, _, h5⟩ := small_all h
  unfold SeqAt.shaped
  rw [PyData.canLay0, h5, Bool.true_and]
  refine decide_eq_true ?_
  rw [PyData.depth]
  omega
theorem small_eqv {ds : List PyData} (h : ∀ d ∈ ds, Small d) : PyData.eqv (.list ds) (.list ds) = true := by
  obtain ⟨_, _, _, _, h5⟩ := small_all h
  exact SeqAt.eqv_refl _ (by rw [PyData.canLay0]; exact h5)
def markD : V → PyData
  | .int i => .int i
  | _ => .none
theorem mark_cases {m : Int} {v : V} (h : mkOk m v = true) (hm : m ≤ 10) : v = .non ∨ ∃ k : Nat, k < 11 ∧ v = .int (k : Int) := by
  cases v with
  | non => exact .inl rfl
  | int i =>
    have e : (decide (0 ≤ i) && decide (i ≤ m)) = true := by
      have : (decide (V.int i = V.non) || (decide (0 ≤ i) && decide (i ≤ m))) = true := h
      simpa using this
    rw [Bool.and_eq_true] at e
    have e1 := of_decide_eq_true e.1
    have e2 := of_decide_eq_true e.2
    exact .inr ⟨i.toNat, by omega, by rw [Int.toNat_of_nonneg e1]⟩
  | _ => cases h
theorem small_none : Small .none := by
  unfold Small
  decide +kernel
theorem small_int11 : ∀ k < 11, Small (.int ((k : Nat) : Int)) := by
  unfold Small
  decide +kernel
theorem small_mark {m : Int} {v : V} (h : mkOk m v = true) (hm : m ≤ 10) : Small (markD v) := by
  rcases mark_cases h hm with rfl | ⟨k, hk, rfl⟩
  · exact small_none
  · exact small_int11 k hk
theorem dp_mark {K : PySem.W.Frag} {H : Hp} {m : Int} {v : V} (h : mkOk m v = true) : Dp K H v (markD v) := by
  cases v with
  | non => exact .non
  | int i => exact .int i
  | _ => cases h
theorem dp_marks {K : PySem.W.Frag} {H : Hp} {m : Int} : ∀ {vs : List V}, (∀ v ∈ vs, mkOk m v = true) → DpAll K H vs (vs.map markD)
  | [], _ => .nil
  | v :: vs, h => .cons (dp_mark (h v (List.mem_cons_self ..))) (dp_marks fun x hx => h x (List.mem_cons_of_mem _ hx))
/-- a word and a mark -/
def rowDat (b : Str) (v : V) : PyData := .tuple [.str b, markD v]
theorem small_rows : ∀ b ∈ names8, Small (rowDat b .non) ∧ ∀ k < 11, Small (rowDat b (.int ((k : Nat) : Int))) := by
  unfold Small rowDat
  decide +kernel
theorem small_row {m : Int} {v : V} {b : Str} (hb : b ∈ names8) (h : mkOk m v = true) (hm : m ≤ 10) : Small (rowDat b v) := by
  rcases mark_cases h hm with rfl | ⟨k, hk, rfl⟩
  · exact (small_rows b hb).1
  · exact (small_rows b hb).2 k hk
theorem small_pairs : ∀ a ∈ names8, ∀ b ∈ names8, Small (pairD (a, b)) := by
  unfold Small pairD
  decide +kernel
theorem dp_row {K : PySem.W.Frag} {H : Hp} {m : Int} {t : Addr} {b : Str} {v : V} (h : H t = some (.tup [.str b, v])) (hv : mkOk m v = true) : Dp K H (.ref t) (rowDat b v) := .tup (SqT.of h) (.cons (.str _) (.cons (dp_mark hv) .nil))
theorem small_bool : ∀ b : Bool, (PyData.bool b).hasDict = false ∧ (PyData.bool b).showable = true ∧ (PyData.bool b).depth ≤ 100 ∧ (PyData.bool b).shown.length ≤ sizeLine := by
  intro b
  rw [sizeLine_eq]
  cases b <;> decide +kernel
section
variable {te : TE} {g : TG} {D : Ends} {σ : St} {H : Hp}
theorem st_asg (h : te σ H fun x H1 => g x σ H1 D.nx) : tAsg te g D σ H := h
end
/-- a page as its plan and its sheet tell -/
structure Told (zs : List Str) (m : Int) (f : Str × Str → V) : Prop where
  mem : ∀ z ∈ zs, z ∈ names8
  nd : zs.Nodup
  one : 1 ≤ zs.length
  most : zs.length ≤ 8
  m1 : 1 ≤ m
  m10 : m ≤ 10
  marks : ∀ p ∈ pairsOf zs, mkOk m (f p) = true
def spPageRight (C CP : Addr) : Sp := fun vs H Q _ => ∃ (x pl l sd : Addr) (zs : List Str) (m : Int) (f : Str × Str → V), vs = [.ref x, .ref pl, .ref sd] ∧ PageOf H C CP x zs m f ∧ NotOwn H CP x sd ∧ H pl = some (.dK (planK l m)) ∧ H l = some (.lst (zs.map V.str)) ∧ H sd = some (.dT (sheetOf zs f)) ∧ Told zs m f ∧ ∀ G, Same H G → Q (.bl true) G
theorem eqv_none {m : Int} {v : V} (h : mkOk m v = true) : PyData.eqv (markD v) .none = decide (v = .non) := by
  cases v with
  | non => decide +kernel
  | int i =>
    rw [decide_eq_false (by intro z; cases z)]
    show PyData.eqv (.int i) .none = false
    simp [PyData.eqv]
  | _ => cases h
theorem none_in {m : Int} : ∀ {vs : List V}, (∀ v ∈ vs, mkOk m v = true) → ((vs.map markD).any fun z => PyData.eqv z .none) = vs.any fun v => decide (v = .non)
  | [], _ => rfl
  | v :: vs, h => by
    rw [List.map_cons, List.any_cons, List.any_cons, eqv_none (h v (List.mem_cons_self ..)), none_in fun x hx => h x (List.mem_cons_of_mem _ hx)]
theorem likeB_self (zs : List Str) (f : Str × Str → V) : likeB zs f f = true := by
  unfold likeB
  rw [List.all_eq_true]
  intro p _
  exact decide_eq_true rfl
theorem isKeys_same {H H2 : Hp} (s : Same H H2) {kvs : List (List Key × V)} {bs : List Addr} (h : IsKeys H kvs bs) : IsKeys H2 kvs bs := by
  unfold IsKeys at h ⊢
  induction h with
  | nil => exact .nil
  | cons h t ih => exact .cons (s _ _ h) ih
theorem isKeys_dp {K : PySem.W.Frag} {H : Hp} {f : Str × Str → V} : ∀ {l : List (Str × Str)} {bs : List Addr}, IsKeys H (l.map fun p => (key2 p, f p)) bs → DpAll K H (bs.map V.ref) (l.map pairD)
  | [], _, h => by
    cases h
    exact .nil
  | p :: l, _, h => by
    cases h with
    | cons h t => exact .cons (.tup (SqT.of h) (.cons (.str _) (.cons (.str _) .nil))) (isKeys_dp t)
theorem small_pairsOf {zs : List Str} (h : ∀ z ∈ zs, z ∈ names8) : ∀ d ∈ (pairsOf zs).map pairD, Small d := fun d hd => by
  obtain ⟨p, hp, rfl⟩ := List.mem_map.mp hd
  obtain ⟨h1, h2, _⟩ := mem_pairs hp
  exact small_pairs p.1 (h _ h1) p.2 (h _ h2)
theorem small_sheet {zs : List Str} {m : Int} {f : Str × Str → V} (t : Told zs m f) : ∀ d ∈ ((pairsOf zs).map f).map markD, Small d := fun d hd => by
  obtain ⟨v, hv, rfl⟩ := List.mem_map.mp hd
  obtain ⟨p, hp, rfl⟩ := List.mem_map.mp hv
  exact small_mark (t.marks p hp) t.m10
theorem full_none {zs : List Str} {m : Int} {f : Str × Str → V} (t : Told zs m f) : (!(((pairsOf zs).map f).map markD).any fun z => PyData.eqv z .none) = fullB zs f := by
  rw [none_in (m := m) fun v hv => by obtain ⟨p, hp, rfl⟩ := List.mem_map.mp hv; exact t.marks p hp]
  unfold fullB
  rw [List.any_map]
  induction pairsOf zs with
  | nil => rfl
  | cons p l ih =>
    rw [List.any_cons, List.all_cons, ← ih, Bool.not_or]
    rfl
theorem ItemsK.snoc {H : Hp} {ts : List Addr} {kvs : List (Key × V)} {t : Addr} {k : Key} {v : V} (h : ItemsK H ts kvs) (e : H t = some (.tup [kV k, v])) : ItemsK H (ts ++ [t]) (kvs ++ [(k, v)]) := by
  refine ⟨by rw [List.length_append, List.length_append, h.1]; rfl, fun j x kv h1 h2 => ?_⟩
  rcases Nat.lt_trichotomy j ts.length with c | c | c
  · rw [List.getElem?_append_left c] at h1
    rw [List.getElem?_append_left (by rw [← h.1]; exact c)] at h2
    exact h.2 j x kv h1 h2
  · subst c
    rw [List.getElem?_append_right (Nat.le_refl _), Nat.sub_self] at h1
    rw [h.1, List.getElem?_append_right (Nat.le_refl _), Nat.sub_self] at h2
    cases h1
    cases h2
    exact e
  · rw [List.getElem?_eq_none (by rw [List.length_append, List.length_singleton]; omega)] at h1
    cases h1
theorem ItemsK.keep {H H2 : Hp} {ts : List Addr} {kvs : List (Key × V)} (h : ItemsK H ts kvs) (k : ∀ t ∈ ts, ∀ o, H t = some o → H2 t = some o) : ItemsK H2 ts kvs := ⟨h.1, fun j t kv h1 h2 => k t (List.mem_of_getElem? h1) _ (h.2 j t kv h1 h2)⟩
theorem itemsK_dp {K : PySem.W.Frag} {H : Hp} {m : Int} : ∀ {es : List (Str × V)} {ts : List Addr}, ItemsK H ts (rowD es) → (∀ e ∈ es, mkOk m e.2 = true) → DpAll K H (ts.map V.ref) (es.map fun e => rowDat e.1 e.2)
  | [], [], _, _ => .nil
  | [], t :: ts, h, _ => by cases h.1
  | e :: es, [], h, _ => by cases h.1
  | e :: es, t :: ts, h, hm => .cons (dp_row (h.2 0 t _ rfl rfl) (hm e (List.mem_cons_self ..))) (itemsK_dp ⟨Nat.succ.inj h.1, fun j x kv h1 h2 => h.2 (j + 1) x kv h1 h2⟩ fun x hx => hm x (List.mem_cons_of_mem _ hx))
/-- the row of somebody, word by word -/
def rowEs (zs : List Str) (f : Str × Str → V) (a : Str) : List (Str × V) := (zs.filter fun b => a ≠ b).map fun b => (b, f (a, b))
theorem rowK_es (zs : List Str) (f : Str × Str → V) (a : Str) : rowK zs f a = rowD (rowEs zs f a) := by
  unfold rowK rowD rowEs
  rw [List.map_map]
  rfl
theorem mem_rowEs {zs : List Str} {f : Str × Str → V} {a : Str} {e : Str × V} (h : e ∈ rowEs zs f a) : e.1 ∈ zs ∧ e.1 ≠ a ∧ e.2 = f (a, e.1) := by
  unfold rowEs at h
  obtain ⟨b, hb, rfl⟩ := List.mem_map.mp h
  obtain ⟨h1, h2⟩ := List.mem_filter.mp hb
  exact ⟨h1, fun z => (of_decide_eq_true h2) z.symm, rfl⟩
theorem small_rowEs {zs : List Str} {m : Int} {f : Str × Str → V} (t : Told zs m f) {a : Str} (ha : a ∈ zs) : ∀ d ∈ (rowEs zs f a).map fun e => rowDat e.1 e.2, Small d := fun d hd => by
  obtain ⟨e, he, rfl⟩ := List.mem_map.mp hd
  obtain ⟨h1, h2, h3⟩ := mem_rowEs he
  rw [h3]
  exact small_row (t.mem _ h1) (t.marks _ (mem_pairsOf ha h1 h2.symm)) t.m10
end L2

set_option Elab.async false
set_option linter.all false
set_option maxRecDepth 100000
set_option maxHeartbeats 4000000
namespace K04
open PySem PySem.Spec PyProof.Rows L2
def topS (i : Nat) : Stmt := PySem.Challenge.pw_ownmarks_k04_pages_told.main.body.getD i (.Pass ⟨0, 0, 0, 0⟩)
abbrev sIsInteger : Stmt := topS 12
theorem scIsInteger : FnScope ["value"] ["value"] (defScope sIsInteger) := ⟨rfl, rfl, rfl, by decide +kernel, rfl, by decide +kernel, by decide +kernel⟩
abbrev sIsIntegerWithin : Stmt := topS 13
theorem scIsIntegerWithin : FnScope ["value", "least", "most"] ["value", "least", "most"] (defScope sIsIntegerWithin) := ⟨rfl, rfl, rfl, by decide +kernel, rfl, by decide +kernel, by decide +kernel⟩
abbrev sIsWord : Stmt := topS 14
theorem scIsWord : FnScope ["value", "sign"] ["value"] (defScope sIsWord) := ⟨rfl, rfl, rfl, by decide +kernel, rfl, by decide +kernel, by decide +kernel⟩
abbrev sBadCrowdInit : Stmt := inClass (topS 3) 0
theorem scBadCrowdInit : FnScope ["self", "part"] ["self", "part"] (defScope sBadCrowdInit) := ⟨rfl, rfl, rfl, by decide +kernel, rfl, by decide +kernel, by decide +kernel⟩
abbrev sNotThereInit : Stmt := inClass (topS 8) 0
theorem scNotThereInit : FnScope ["self", "word"] ["self", "word"] (defScope sNotThereInit) := ⟨rfl, rfl, rfl, by decide +kernel, rfl, by decide +kernel, by decide +kernel⟩
abbrev sArePeople : Stmt := topS 18
theorem scArePeople : FnScope ["value", "person"] ["value"] (defScope sArePeople) := ⟨rfl, rfl, rfl, by decide +kernel, rfl, by decide +kernel, by decide +kernel⟩
abbrev sCrowdInit : Stmt := inClass (topS 19) 0
theorem scCrowdInit : FnScope ["self", "people", "most"] ["self", "people", "most"] (defScope sCrowdInit) := ⟨rfl, rfl, rfl, by decide +kernel, rfl, by decide +kernel, by decide +kernel⟩
abbrev sCrowdPeople : Stmt := inClass (topS 19) 1
theorem scCrowdPeople : FnScope ["self"] ["self"] (defScope sCrowdPeople) := ⟨rfl, rfl, rfl, by decide +kernel, rfl, by decide +kernel, by decide +kernel⟩
abbrev sCrowdLen : Stmt := inClass (topS 19) 2
theorem scCrowdLen : FnScope ["self"] ["self"] (defScope sCrowdLen) := ⟨rfl, rfl, rfl, by decide +kernel, rfl, by decide +kernel, by decide +kernel⟩
abbrev sCrowdContains : Stmt := inClass (topS 19) 3
theorem scCrowdContains : FnScope ["self", "x"] ["self", "x"] (defScope sCrowdContains) := ⟨rfl, rfl, rfl, by decide +kernel, rfl, by decide +kernel, by decide +kernel⟩
abbrev sCrowdIter : Stmt := inClass (topS 19) 4
theorem scCrowdIter : FnScope ["self"] ["self"] (defScope sCrowdIter) := ⟨rfl, rfl, rfl, by decide +kernel, rfl, by decide +kernel, by decide +kernel⟩
abbrev sCrowdEq : Stmt := inClass (topS 19) 5
theorem scCrowdEq : FnScope ["self", "other"] ["self", "other"] (defScope sCrowdEq) := ⟨rfl, rfl, rfl, by decide +kernel, rfl, by decide +kernel, by decide +kernel⟩
abbrev sCrowdPlace : Stmt := inClass (topS 19) 6
theorem scCrowdPlace : FnScope ["self", "person"] ["self", "person"] (defScope sCrowdPlace) := ⟨rfl, rfl, rfl, by decide +kernel, rfl, by decide +kernel, by decide +kernel⟩
abbrev sCrowdPairs : Stmt := inClass (topS 19) 7
theorem scCrowdPairs : FnScope ["self", "marker", "marked"] ["self"] (defScope sCrowdPairs) := ⟨rfl, rfl, rfl, by decide +kernel, rfl, by decide +kernel, by decide +kernel⟩
abbrev sCrowdIsPair : Stmt := inClass (topS 19) 8
theorem scCrowdIsPair : FnScope ["self", "value"] ["self", "value"] (defScope sCrowdIsPair) := ⟨rfl, rfl, rfl, by decide +kernel, rfl, by decide +kernel, by decide +kernel⟩
abbrev sNeedCrowd : Stmt := topS 20
theorem scNeedCrowd : FnScope ["crowd"] ["crowd"] (defScope sNeedCrowd) := ⟨rfl, rfl, rfl, by decide +kernel, rfl, by decide +kernel, by decide +kernel⟩
abbrev sNeedPerson : Stmt := topS 21
theorem scNeedPerson : FnScope ["crowd", "person"] ["crowd", "person"] (defScope sNeedPerson) := ⟨rfl, rfl, rfl, by decide +kernel, rfl, by decide +kernel, by decide +kernel⟩
abbrev sIsMark : Stmt := topS 23
theorem scIsMark : FnScope ["crowd", "value"] ["crowd", "value"] (defScope sIsMark) := ⟨rfl, rfl, rfl, by decide +kernel, rfl, by decide +kernel, by decide +kernel⟩
abbrev sIsMarkOrNone : Stmt := topS 24
theorem scIsMarkOrNone : FnScope ["crowd", "value"] ["crowd", "value"] (defScope sIsMarkOrNone) := ⟨rfl, rfl, rfl, by decide +kernel, rfl, by decide +kernel, by decide +kernel⟩
abbrev sAreMarks : Stmt := topS 25
theorem scAreMarks : FnScope ["crowd", "value", "pair", "mark"] ["crowd", "value"] (defScope sAreMarks) := ⟨rfl, rfl, rfl, by decide +kernel, rfl, by decide +kernel, by decide +kernel⟩
abbrev sIsRow : Stmt := topS 26
theorem scIsRow : FnScope ["crowd", "person", "value", "other", "mark"] ["crowd", "person", "value"] (defScope sIsRow) := ⟨rfl, rfl, rfl, by decide +kernel, rfl, by decide +kernel, by decide +kernel⟩
abbrev sPageInit : Stmt := inClass (topS 27) 0
theorem scPageInit : FnScope ["self", "crowd", "marks", "pair"] ["self", "crowd", "marks"] (defScope sPageInit) := ⟨rfl, rfl, rfl, by decide +kernel, rfl, by decide +kernel, by decide +kernel⟩
abbrev sPageMarks : Stmt := inClass (topS 27) 1
theorem scPageMarks : FnScope ["self", "pair", "mark"] ["self"] (defScope sPageMarks) := ⟨rfl, rfl, rfl, by decide +kernel, rfl, by decide +kernel, by decide +kernel⟩
abbrev sPageIsFull : Stmt := inClass (topS 27) 2
theorem scPageIsFull : FnScope ["self", "mark"] ["self"] (defScope sPageIsFull) := ⟨rfl, rfl, rfl, by decide +kernel, rfl, by decide +kernel, by decide +kernel⟩
abbrev sPageGetitem : Stmt := inClass (topS 27) 3
theorem scPageGetitem : FnScope ["self", "at"] ["self", "at"] (defScope sPageGetitem) := ⟨rfl, rfl, rfl, by decide +kernel, rfl, by decide +kernel, by decide +kernel⟩
abbrev sPageEq : Stmt := inClass (topS 27) 5
theorem scPageEq : FnScope ["self", "other"] ["self", "other"] (defScope sPageEq) := ⟨rfl, rfl, rfl, by decide +kernel, rfl, by decide +kernel, by decide +kernel⟩
abbrev sPageRow : Stmt := inClass (topS 27) 6
theorem scPageRow : FnScope ["self", "person", "other"] ["self", "person"] (defScope sPageRow) := ⟨rfl, rfl, rfl, by decide +kernel, rfl, by decide +kernel, by decide +kernel⟩
abbrev sPageWithMark : Stmt := inClass (topS 27) 7
theorem scPageWithMark : FnScope ["self", "pair", "mark", "at", "old"] ["self", "pair", "mark"] (defScope sPageWithMark) := ⟨rfl, rfl, rfl, by decide +kernel, rfl, by decide +kernel, by decide +kernel⟩
abbrev sPageWithRow : Stmt := inClass (topS 27) 8
theorem scPageWithRow : FnScope ["self", "person", "row", "marks", "pair", "mark", "other"] ["self", "person", "row"] (defScope sPageWithRow) := ⟨rfl, rfl, rfl, by decide +kernel, rfl, by decide +kernel, by decide +kernel⟩
abbrev sPageFilled : Stmt := inClass (topS 27) 9
theorem scPageFilled : FnScope ["crowd", "mark", "pair"] ["crowd", "mark"] (defScope sPageFilled) := ⟨rfl, rfl, rfl, by decide +kernel, rfl, by decide +kernel, by decide +kernel⟩
abbrev sOpened : Stmt := topS 30
theorem scOpened : FnScope ["_law_script", "_law_k", "_law_cell", "_law_great"] ["_law_script", "_law_k"] (defScope sOpened) := ⟨rfl, rfl, rfl, by decide +kernel, rfl, by decide +kernel, by decide +kernel⟩
abbrev sDraw : Stmt := topS 31
theorem scDraw : FnScope ["_law_pool", "_law_many", "_law_found"] ["_law_pool", "_law_many"] (defScope sDraw) := ⟨rfl, rfl, rfl, by decide +kernel, rfl, by decide +kernel, by decide +kernel⟩
abbrev sPick : Stmt := topS 32
theorem scPick : FnScope ["_law_pool", "_law_some"] ["_law_pool", "_law_some"] (defScope sPick) := ⟨rfl, rfl, rfl, by decide +kernel, rfl, by decide +kernel, by decide +kernel⟩
abbrev sPeople : Stmt := topS 33
theorem scPeople : FnScope ["_law_pool", "_law_many", "_law_menu", "_law_found", "_law_step"] ["_law_pool", "_law_many"] (defScope sPeople) := ⟨rfl, rfl, rfl, by decide +kernel, rfl, by decide +kernel, by decide +kernel⟩
abbrev sPairs : Stmt := topS 34
theorem scPairs : FnScope ["_law_people_here", "_law_found", "_law_one", "_law_other"] ["_law_people_here"] (defScope sPairs) := ⟨rfl, rfl, rfl, by decide +kernel, rfl, by decide +kernel, by decide +kernel⟩
abbrev sSheet : Stmt := topS 35
theorem scSheet : FnScope ["_law_pool", "_law_plan", "_law_rarely", "_law_found", "_law_pair", "_law_is_missing"] ["_law_pool", "_law_plan", "_law_rarely"] (defScope sSheet) := ⟨rfl, rfl, rfl, by decide +kernel, rfl, by decide +kernel, by decide +kernel⟩
abbrev sPageRight : Stmt := topS 36
theorem scPageRight : FnScope ["_law_page", "_law_plan", "_law_sheet_here", "_law_crowd", "_law_pair", "_law_person", "_law_due", "_law_other"] ["_law_page", "_law_plan", "_law_sheet_here"] (defScope sPageRight) := ⟨rfl, rfl, rfl, by decide +kernel, rfl, by decide +kernel, by decide +kernel⟩
abbrev sChangedRight : Stmt := topS 37
theorem scChangedRight : FnScope ["_law_pool", "_law_plan", "_law_sheet_here", "_law_page", "_law_pair", "_law_mark", "_law_later", "_law_one", "_law_person", "_law_row", "_law_found"] ["_law_pool", "_law_plan", "_law_sheet_here", "_law_page"] (defScope sChangedRight) := ⟨rfl, rfl, rfl, by decide +kernel, rfl, by decide +kernel, by decide +kernel⟩
abbrev sLaw : Stmt := topS 38
theorem scLaw : FnScope ["_law_script", "_law_k", "_law_pool", "_law_plan", "_law_sheet_here", "_law_given", "_law_crowd", "_law_pair", "_law_page", "_law_mark"] ["_law_script"] (defScope sLaw) := ⟨rfl, rfl, rfl, by decide +kernel, rfl, by decide +kernel, by decide +kernel⟩
abbrev sNeedPair : Stmt := topS 28
theorem scNeedPair : FnScope ["crowd", "pair"] ["crowd", "pair"] (defScope sNeedPair) := ⟨rfl, rfl, rfl, by decide +kernel, rfl, by decide +kernel, by decide +kernel⟩
/-! ### the law's own draws -/
section
variable {P : Program} {w : World} {K : PySem.W.Frag} {mg : Str → Option Value} {base : Heap}
structure Bt (mg : Str → Option Value) : Prop where
  len : mg "len" = none
  max : mg "max" = none
  min : mg "min" = none
  int : mg "int" = none
  range : mg "range" = none
theorem ok_opened {f : Addr} {fd : FuncData} (F : Fun K "_law_opened" "_law_opened" sOpened f fd) (B : Bt mg) : FnOk P w K mg base CX0 1 f fd ["_law_script", "_law_k"] (spOpened K) := by
  refine F.ok scOpened (fun vs H Q E h => ?_) (fun cdv A outer s H vs Q E hr h => ?_)
  · obtain ⟨a, ns, k, rfl, _⟩ := h
    rfl
  · obtain ⟨a, ns, k, rfl, hS, hk, q⟩ := h
    refine ⟨_, pss_cons (ps_set (i := 2) scOpened.nd rfl (.inl rfl) (pe_cut (fun _ H v H' => H' = H ∧ ∃ z : Int, v = .int z) (pe_ifExp (pt_cmpR op_lt (pv 1) (pe_callB call_len_seq (by rfl) B.len PySem.boot_len (pa_cons (pv 0) pa_nil)) (nomark _)) (pe_ix ix_list (pv 0) (pv 1) (fun _ _ => rfl)) pe_int)))
      (pss_cons (ps_set (i := 3) scOpened.nd rfl (.inl rfl) (pe_callB (call_max2 rfl) (by rfl) B.max (by decide +kernel) (pa_cons (pe_callTy call_int1 (by rfl) B.int (by decide +kernel) (pa_cons (pv 2) pa_nil))
        (pa_cons (pe_callTy call_int1 (by rfl) B.int (by decide +kernel) (pa_cons (pe_op op_sub (pe_un un_neg pe_int) (pv 2)) pa_nil)) pa_nil))))
      (pss_one (ps_ret (pe_lst (pa_cons (pe_op op_mul (pv 3) (pe_callTy call_int1 (by rfl) B.int (by decide +kernel) (pa_cons (pe_cmpR op_ge (pv 3) (pe_op op_pow pe_int pe_int) (nomark _)) pa_nil)))
        (pa_cons (pe_op op_mod (pe_callTy call_int1 (by rfl) B.int (by decide +kernel) (pa_cons (pe_op op_mul (pe_op op_add (pe_op op_add (pe_op op_mod (pv 3) pe_int) (pe_op op_mul pe_int (pv 1))) pe_int) pe_int) pa_nil)) pe_int) pa_nil)))))), ?_⟩
    refine ⟨?_, ?_⟩
    · -- the cell
      refine ⟨_, rfl, _, rfl, _, _, rfl, .inl hS, _, _, rfl, rfl, _, rfl, ite2 (fun c => ?_) (fun _ => ⟨rfl, 5, rfl⟩)⟩
      have c1 : (k : Int) < ((ns.map V.int).length : Int) := of_decide_eq_true c
      have c2 : k < ns.length := by
        rw [List.length_map] at c1
        omega
      exact ⟨_, rfl, _, rfl, a, _, k, .int ns[k], rfl, rfl, hS, atI_nat (by rw [List.getElem?_map, List.getElem?_eq_getElem c2]; rfl), rfl, _, rfl⟩
    · rintro v H1 ⟨rfl, z, rfl⟩
      refine ⟨_, rfl, .inl ⟨_, rfl, 1, rfl, _, rfl, _, _, rfl, rfl, .inl ⟨_, rfl, _, _, rfl, ?_⟩⟩⟩
      generalize hg : (if (-1 : Int) - z > z then -1 - z else z) = g
      have g0 : 0 ≤ g := by
        rw [← hg]
        split <;> omega
      refine ⟨_, rfl, _, rfl, _, _, rfl, rfl, ⟨by decide, by decide, by decide⟩, _, _, rfl, rfl, .inr ⟨_, rfl, _, _, rfl, rfl, .inr ?_, ?_⟩⟩
      · split <;> omega
      · have km : 0 ≤ g % 2147483629 ∧ g % 2147483629 < 2147483629 := ⟨Int.emod_nonneg _ (by decide), Int.emod_lt_of_pos _ (by decide)⟩
        refine ⟨_, rfl, _, _, rfl, rfl, (by show (0 : Int) < 2147483629; decide), _, rfl, _, _, rfl, rfl, .inl ⟨by omega, by omega⟩, _, _, rfl, rfl, _, _, rfl, rfl, _, _, rfl, rfl, .inr ⟨by decide, by decide⟩, .inl ⟨_, rfl, _, _, rfl, rfl, (by show (0 : Int) < 2147483647; decide), ?_, fun p hp => ?_⟩⟩
        · show 2 ≤ sizeLine
          decide
        · refine newH hp fun H2 s2 h2 => q H2 p s2 hp ⟨_, _, h2, ?_, Int.emod_nonneg _ (by decide), Int.emod_lt_of_pos _ (by decide)⟩
          split
          · omega
          · omega
theorem pool_set0 {g q x : Int} : ([V.int g, V.int q]).set 0 (.int x) = [V.int x, V.int q] := rfl
theorem ok_draw {f : Addr} {fd : FuncData} (F : Fun K "_law_draw" "_law_draw" sDraw f fd) (B : Bt mg) : FnOk P w K mg base CX0 1 f fd ["_law_pool", "_law_many"] spDraw := by
  refine F.ok scDraw (fun vs H Q E h => ?_) (fun cdv A outer s H vs Q E hr h => ?_)
  · obtain ⟨a, m, rfl, _⟩ := h
    rfl
  · obtain ⟨a, m, rfl, ⟨g, q, ha, hg, hq0, hq1⟩, m1, m2, kk⟩ := h
    refine ⟨_, pss_cons (ps_if (pt_cmpR op_gt (pe_ix ix_list (pv 0) pe_int (fun _ _ => rfl)) pe_int (nomark _))
        (pss_cons (ps_set (i := 2) scDraw.nd rfl (.inl rfl) (pe_op op_modN (pe_callTy call_int1 (by rfl) B.int (by decide +kernel) (pa_cons (pe_ix ix_list (pv 0) pe_int (fun _ _ => rfl)) pa_nil)) (pv 1)))
        (pss_cons (ps_asg (pe_op op_fdivN (pe_ix ix_list (pv 0) pe_int (fun _ _ => rfl)) (pv 1)) (pg_sub (pv 0) pe_int set_list)) (pss_one (ps_ret (pv 2))))) pss_nil)
      (pss_cons (ps_asg (pe_op op_mod (pe_callTy call_int1 (by rfl) B.int (by decide +kernel) (pa_cons (pe_op op_add (pe_op op_mul (pe_ix ix_list (pv 0) pe_int (fun _ _ => rfl)) pe_int) pe_int) pa_nil)) pe_int) (pg_sub (pv 0) pe_int set_list))
      (pss_one (ps_ret (pe_op op_modN (pe_op op_fdiv (pe_op op_mod (pe_callTy call_int1 (by rfl) B.int (by decide +kernel) (pa_cons (pe_op op_mul (pe_ix ix_list (pv 0) pe_int (fun _ _ => rfl)) (pe_ix ix_list (pv 0) pe_int (fun _ _ => rfl))) pa_nil)) pe_int) pe_int) (pv 1))))), ?_⟩
    have S0 := SqL.of (K := K) ha
    have x0 : atI [V.int g, V.int q] 0 = some (.int g) := rfl
    have x1 : atI [V.int g, V.int q] 1 = some (.int q) := rfl
    have mnz : m ≠ 0 := by omega
    refine ⟨_, rfl, a, _, 0, _, rfl, rfl, S0, x0, _, _, rfl, rfl, _, rfl, ite2 (fun c => ?_) (fun _ => ?_)⟩
    · refine ⟨_, rfl, a, _, 0, _, rfl, rfl, S0, x0, .inl ⟨_, rfl, _, rfl, _, _, rfl, rfl, mnz, ?_⟩⟩
      refine ⟨_, rfl, a, _, 0, _, rfl, rfl, S0, x0, _, rfl, _, _, rfl, rfl, ⟨mnz, by omega⟩, _, rfl, a, _, 0, 0, rfl, rfl, ha, rfl, ?_⟩
      refine ⟨_, rfl, kk _ _ (Int.fmod_nonneg_of_pos _ (by omega)) (Int.fmod_lt_of_pos _ (by omega)) ⟨g.fdiv m, q, upd_same, Int.fdiv_nonneg hg (by omega), hq0, hq1⟩ But.upd⟩
    · refine ⟨_, rfl, a, _, 1, _, rfl, rfl, S0, x1, _, _, rfl, rfl, .inr ⟨by decide, by decide⟩, _, _, rfl, rfl, .inl ⟨_, rfl, _, _, rfl, rfl, (by show (0 : Int) < 2147483647; decide), ?_⟩⟩
      have z0 : 0 ≤ (q * 39373 + 7) % 2147483647 := Int.emod_nonneg _ (by decide)
      have z1 : (q * 39373 + 7) % 2147483647 < 2147483647 := Int.emod_lt_of_pos _ (by decide)
      refine ⟨_, rfl, a, _, 1, 1, rfl, rfl, ha, rfl, ?_⟩
      have h2 : upd H a (.lst [V.int g, V.int ((q * 39373 + 7) % 2147483647)]) a = some (.lst [V.int g, V.int ((q * 39373 + 7) % 2147483647)]) := upd_same
      have S2 := SqL.of (K := K) h2
      have y1 : atI [V.int g, V.int ((q * 39373 + 7) % 2147483647)] 1 = some (.int ((q * 39373 + 7) % 2147483647)) := rfl
      refine ⟨_, rfl, a, _, 1, _, rfl, rfl, S2, y1, _, rfl, a, _, 1, _, rfl, rfl, S2, y1, _, _, rfl, rfl, .inl ⟨by omega, by omega⟩, .inl ⟨_, rfl, _, _, rfl, rfl, (by show (0 : Int) < 2147483629; decide), _, _, rfl, rfl, ⟨by decide, by decide⟩, _, rfl, _, _, rfl, rfl, mnz, ?_⟩⟩
      exact kk _ _ (Int.fmod_nonneg_of_pos _ (by omega)) (Int.fmod_lt_of_pos _ (by omega)) ⟨g, _, h2, hg, z0, z1⟩ But.upd
end

section
variable {P : Program} {w : World} {K : PySem.W.Frag} {mg : Str → Option Value} {base : Heap}
theorem ok_people {f fD : Addr} {fd fdD : FuncData} (F : Fun K "_law_people" "_law_people" sPeople f fd) (FD : Fun K "_law_draw" "_law_draw" sDraw fD fdD) (bD : Binds K fdD ["_law_pool", "_law_many"] []) (gD : mg "_law_draw" = some (.ref fD)) (B : Bt mg) :
    FnOk P w K mg base CX0 2 f fd ["_law_pool", "_law_many"] spPeople := by
  have GD : FnOk P w K mg base CX0 1 fD fdD ["_law_pool", "_law_many"] spDraw := ok_draw FD B
  refine F.ok scPeople (fun vs H Q E h => ?_) (fun cdv A outer s H vs Q E hr h => ?_)
  · obtain ⟨a, m, rfl, _⟩ := h
    rfl
  · obtain ⟨a, m, rfl, hP, hm, q⟩ := h
    refine ⟨_, pss_cons (ps_par (i := 2) (j := 3) (by rfl) scPeople.nd rfl rfl (by decide) rfl rfl (pa_cons (pe_lst (pa_cons pe_str (pa_cons pe_str (pa_cons pe_str (pa_cons pe_str (pa_cons pe_str (pa_cons pe_str (pa_cons pe_str (pa_cons pe_str pa_nil)))))))))
        (pa_cons (pe_lst pa_nil) pa_nil)) (by rfl))
      (pss_cons (ps_for PassesOwn.never rfl (pi_range1 (by rfl) B.range (pa_cons (pv 1) pa_nil)) (pg_name (i := 4) scPeople.nd rfl (.inl rfl))
        (pss_one (ps_expr (pe_bm PySem.F.plainAttrs_list PySem.F.slot_list_append PySem.F.type_list_append mt_append (pv 3) (pa_cons
          (pe_bm PySem.F.plainAttrs_list PySem.F.slot_list_pop PySem.F.type_list_pop mt_popAt (pv 2) (pa_cons
            (pe_call GD hr (by rfl) gD FD.kp bD .nil pass0 (pa_cons (pv 0) (pa_cons (pe_callB call_len_seq (by rfl) B.len PySem.boot_len (pa_cons (pv 2) pa_nil)) pa_nil))) pa_nil)) pa_nil)))))
      (pss_one (ps_ret (pv 3)))), ?_⟩
    refine ⟨(by show 8 ≤ sizeLine; decide), fun x nx => ?_⟩
    generalize e1 : upd H x _ = H1
    have s1 : Same H H1 := e1 ▸ same_new nx
    have hx : H1 x = some (.lst (names8.map V.str)) := e1 ▸ upd_same
    refine ⟨Nat.zero_le _, fun y ny => ?_⟩
    generalize e2 : upd H1 y _ = H2
    have s2 : Same H1 H2 := e2 ▸ same_new ny
    have hy : H2 y = some (.lst []) := e2 ▸ upd_same
    refine ⟨_, _, rfl, ?_⟩
    have hx2 := s2 _ _ hx
    have nxy : x ≠ y := fun e => by
      rw [e, ny] at hx
      cases hx
    have hP2 : Pool H2 a := by
      obtain ⟨g, r, ha, hb⟩ := hP
      exact ⟨g, r, s2 _ _ (s1 _ _ ha), hb⟩
    have nax : a ≠ x := fun e => by
      obtain ⟨g, r, ha, hb⟩ := hP
      rw [e, nx] at ha
      cases ha
    have nay : a ≠ y := fun e => by
      obtain ⟨g, r, ha, hb⟩ := hP
      have := s1 _ _ ha
      rw [e, ny] at this
      cases this
    refine ⟨_, rfl, m, rfl, by omega, by omega, for_range (lo := 0) (n := (m : Int).toNat) (fun i σ H' => ∃ (v : Option V) (menu found : List Str), σ = [some (.ref a), some (.int m), some (.ref x), some (.ref y), v] ∧ Pool H' a ∧ But a H H' ∧
      H' x = some (.lst (menu.map V.str)) ∧ H' y = some (.lst (found.map V.str)) ∧ found.length = i ∧ (found ++ menu).Perm names8)
      ⟨none, names8, [], rfl, hP2, But.of_same (s1.trans s2), hx2, hy, rfl, .refl _⟩ ?_ ?_⟩
    · rintro i σ H3 hi ⟨v, menu, found, rfl, hP3, hB, hx3, hy3, hl, hp⟩
      have len8 : found.length + menu.length = 8 := by
        have := hp.length_eq
        rw [List.length_append] at this
        exact this
      refine ⟨_, rfl, .inl ⟨rfl, _, SqL.of hy3⟩, _, rfl, .inl ⟨rfl, _, SqL.of hx3⟩, _, rfl, _, rfl, x, _, rfl, .inl (SqL.of hx3), ?_⟩
      refine ⟨a, _, rfl, hP3, by rw [List.length_map]; omega, by rw [List.length_map]; omega, fun r H4 r0 r1 hP4 hB4 => ?_⟩
      have hx4 := hB4 _ _ (Ne.symm nax) hx3
      have hy4 := hB4 _ _ (Ne.symm nay) hy3
      rw [List.length_map] at r1
      have hk : r.toNat < menu.length := by omega
      have hk' : menu[r.toNat]? = some menu[r.toNat] := List.getElem?_eq_getElem hk
      refine ⟨x, _, r, r.toNat, .str menu[r.toNat], rfl, rfl, hx4, by omega, by omega, seqIndex_of r0 (by rw [List.length_map]; omega), by rw [List.getElem?_map, hk']; rfl, ?_⟩
      have hy5 : upd H4 x (.lst ((menu.map V.str).eraseIdx r.toNat)) y = some (.lst (found.map V.str)) := by
        rw [upd_ne (Ne.symm nxy)]
        exact hy4
      refine ⟨y, _, _, rfl, rfl, hy5, by rw [List.length_map]; exact small1000 (by omega), ?_⟩
      refine ⟨_, menu.eraseIdx r.toNat, found ++ [menu[r.toNat]], rfl, ?_, ?_, ?_, ?_, ?_, ?_⟩
      · obtain ⟨g, z, ha, hb⟩ := hP4
        exact ⟨g, z, by rw [upd_ne nay, upd_ne nax]; exact ha, hb⟩
      · intro b o hb e
        have nbx : b ≠ x := fun z => by
          rw [z, nx] at e
          cases e
        have nby : b ≠ y := fun z => by
          have := s1 _ _ e
          rw [z, ny] at this
          cases this
        rw [upd_ne nby, upd_ne nbx]
        exact hB4 b o hb (hB b o hb e)
      · rw [upd_ne nxy, upd_same, eraseIdx_map]
      · rw [upd_same, List.map_append]
        rfl
      · rw [List.length_append, hl]
        rfl
      · rw [List.append_assoc]
        exact ((perm_pop hk').append_left found).trans hp
    · rintro σ H3 ⟨v, menu, found, rfl, hP3, hB, hx3, hy3, hl, hp⟩
      have nd : (found ++ menu).Nodup := hp.nodup_iff.mpr names8_nd
      exact ⟨_, rfl, q H3 y found hP3 hB (s1.free ny) hy3 (by omega) (List.nodup_append.mp nd).1 fun z hz => hp.mem_iff.mp (List.mem_append_left _ hz)⟩
end

/-! ### the program: integers, words, people -/
structure Tx (mg : Str → Option Value) : Prop where
  isi : mg "isinstance" = none
  str : mg "str" = none
  bool : mg "bool" = none
  list : mg "list" = none
  tuple : mg "tuple" = none
  set : mg "set" = none
  all : mg "all" = none
  letters : ∃ t, mg "LETTERS" = some (.str letters t)
  longest : ∃ t, mg "LONGEST" = some (.int 8 t)
  mostP : ∃ t, mg "MOST_PEOPLE" = some (.int 8 t)
  greatest : ∃ t, mg "GREATEST_MARK" = some (.int 10 t)
section
variable {P : Program} {w : World} {K : PySem.W.Frag} {mg : Str → Option Value} {base : Heap}
theorem ok_isInteger {f : Addr} {fd : FuncData} (F : Fun K "is_integer" "is_integer" sIsInteger f fd) (B : Bt mg) (T : Tx mg) : FnOk P w K mg base CX0 1 f fd ["value"] (spIsInteger K) := by
  refine F.ok scIsInteger (fun vs H Q E h => ?_) (fun cdv A outer s H vs Q E hr h => ?_)
  · obtain ⟨v, T, rfl, _⟩ := h
    rfl
  · obtain ⟨v, N, rfl, ⟨ty, hk⟩, q⟩ := h
    refine ⟨_, pss_one (ps_ret (pe_and (pe_callB call_isi (by rfl) T.isi (by decide +kernel) (pa_cons (pv 0) (pa_cons (pe_bltn (v := .ty "int") (by rfl) B.int (by decide +kernel) rfl) pa_nil)))
      (pe_one (pe_not (pe_callB call_isi (by rfl) T.isi (by decide +kernel) (pa_cons (pv 0) (pa_cons (pe_bltn (v := .ty "bool") (by rfl) T.bool (by decide +kernel) rfl) pa_nil))))))), ?_⟩
    refine ⟨_, rfl, v, .ty "int", _, _, _, rfl, .ty "int", ty, kit_ty (kit_int hk), _, rfl, ite2 (fun c => ?_) (fun c => ?_)⟩
    · refine ⟨_, rfl, v, .ty "bool", _, _, _, rfl, .ty "bool", ty, kit_ty (kit_bool hk), _, rfl, ?_⟩
      have e : (!decide (N = "bool")) = decide (N = "int") := by
        by_cases h1 : N = "bool"
        · subst h1
          rfl
        · rw [decide_eq_false h1, Bool.or_false] at c
          rw [decide_eq_false h1, c]
          rfl
      rw [e]
      exact q
    · have e : decide (N = "int") = false := by
        cases h1 : decide (N = "int") with
        | false => rfl
        | true =>
          rw [h1] at c
          exact absurd rfl c
      rw [e] at q
      exact q
theorem ok_within {f fI : Addr} {fd fdI : FuncData} (F : Fun K "is_integer_within" "is_integer_within" sIsIntegerWithin f fd) (FI : Fun K "is_integer" "is_integer" sIsInteger fI fdI) (bI : Binds K fdI ["value"] []) (gI : mg "is_integer" = some (.ref fI)) (B : Bt mg) (T : Tx mg) :
    FnOk P w K mg base CX0 2 f fd ["value", "least", "most"] (spWithin K) := by
  have GI : FnOk P w K mg base CX0 1 fI fdI ["value"] (spIsInteger K) := ok_isInteger FI B T
  refine F.ok scIsIntegerWithin (fun vs H Q E h => ?_) (fun cdv A outer s H vs Q E hr h => ?_)
  · obtain ⟨v, lo, hi, rfl, _⟩ := h
    rfl
  · obtain ⟨v, lo, hi, rfl, ⟨N, ty⟩, q⟩ := h
    refine ⟨_, pss_one (ps_ret (pe_and (pe_call GI hr (by rfl) gI FI.kp bI .nil pass0 (pa_cons (pv 0) pa_nil)) (pe_one (pe_chain op_le op_le (pv 1) (pv 0) (pv 2))))), ?_⟩
    refine ⟨_, rfl, v, N, rfl, ty, _, rfl, ite2 (fun c => ?_) (fun c => ?_)⟩
    · have e : N = "int" := of_decide_eq_true c
      subst e
      obtain ⟨i, rfl⟩ := ty_int ty.1
      refine ⟨_, rfl, _, rfl, _, _, rfl, rfl, _, rfl, ite2 (fun c1 => ?_) (fun c1 => ?_)⟩
      · refine ⟨_, rfl, _, _, rfl, rfl, ?_⟩
        have e : markB lo hi (.int i) = decide (i ≤ hi) := by
          show (decide (lo ≤ i) && decide (i ≤ hi)) = _
          rw [show decide (lo ≤ i) = true from c1, Bool.true_and]
        rw [e] at q
        exact q
      · have e : markB lo hi (.int i) = false := by
          show (decide (lo ≤ i) && decide (i ≤ hi)) = _
          rw [show decide (lo ≤ i) = false from Bool.eq_false_iff.mpr c1, Bool.false_and]
        rw [e] at q
        exact q
    · have e : markB lo hi v = false := by
        cases v with
        | int i => exact absurd (decide_eq_true (int_ty ty.1)) c
        | _ => rfl
      rw [e] at q
      exact q
theorem ok_isWord {f : Addr} {fd : FuncData} (F : Fun K "is_word" "is_word" sIsWord f fd) (B : Bt mg) (T : Tx mg) : FnOk P w K mg base CX0 1 f fd ["value"] (spIsWord K) := by
  obtain ⟨t1, g1⟩ := T.letters
  obtain ⟨t2, g2⟩ := T.longest
  refine F.ok scIsWord (fun vs H Q E h => ?_) (fun cdv A outer s H vs Q E hr h => ?_)
  · obtain ⟨v, rfl, _⟩ := h
    rfl
  · obtain ⟨v, rfl, ⟨⟨N, ty, hk⟩, hz⟩, q⟩ := h
    refine ⟨_, pss_cons (ps_if (PW.pt (pw_or (pt_not (pt_val (pe_callB call_isi (by rfl) T.isi (by decide +kernel) (pa_cons (pv 0) (pa_cons (pe_bltn (v := .ty "str") (by rfl) T.str (by decide +kernel) rfl) pa_nil)))))
        (pw_or1 (pt_not (pt_chain op_le op_le pe_int (pe_callB call_len (by rfl) B.len PySem.boot_len (pa_cons (pv 0) pa_nil)) (pe_glob (v := .int 8) (by rfl) g2 ⟨_, rfl⟩)))))) (pss_one (ps_ret pe_bl)) pss_nil)
      (pss_one (ps_ret (pe_callB (cr_all rfl) (by rfl) T.all (by decide +kernel) (pa_cons (pe_lc (own := [("sign", 1)]) (g := gName 1) (by rfl) scIsWord.nd (pi_str (pv 0)) (blkOk_by (own := [("sign", 1)]) (N := ["value", "sign"]) (sc := defScope sIsWord) (by decide +kernel))
        (fun _ _ _ _ _ => pg_name (i := 1) scIsWord.nd rfl (Or.inl rfl)) (fun _ _ _ _ _ => pts_nil) (fun _ _ _ _ _ => pe_cmpR op_in_sign (pv 1) (pe_glob (v := .str letters) (by rfl) g1 ⟨_, rfl⟩) (by rfl))) pa_nil)))), ?_⟩
    refine ⟨_, rfl, v, .ty "str", _, _, _, rfl, .ty "str", ty, kit_ty (kit_str hk), _, rfl, ?_⟩
    by_cases hs : N = "str"
    · subst hs
      obtain ⟨z, rfl⟩ := ty_str ty
      have hl := hz z rfl
      refine iteF ?_
      refine ⟨_, rfl, _, z.length, rfl, ⟨Nat.le_trans hl (by decide), rfl⟩, _, _, rfl, rfl, _, rfl, ite2 (fun c1 => ?_) (fun c1 => ?_)⟩
      · have h1 : 1 ≤ z.length := by
          have := of_decide_eq_true c1
          omega
        refine ⟨_, _, rfl, rfl, _, rfl, ?_⟩
        by_cases h2 : z.length ≤ 8
        · have h2' : decide (((z.length : Nat) : Int) ≤ 8) = true := decide_eq_true (by omega)
          rw [h2']
          refine iteF ?_
          refine ⟨_, rfl, z, rfl, fun D nD => ?_⟩
          refine lc_map (ys := (z.cps.toList.map fun c => decide (c ∈ letters.cps.toList)).map V.bl) walk_kmSigns (by unfold kmSigns; simp) ?_ nD (fun _ _ => trivial) (fun _ => rfl) (fun i x y H1 Q1 hx hy s1 k => ?_) (fun H1 s1 hD => ?_)
          · have : (kmSigns z).length = z.length := by
              unfold kmSigns
              rw [List.length_map, Array.length_toList]
              rfl
            rw [this]
            exact small1000 hl
          · unfold kmSigns at hx
            rw [List.getElem?_map] at hx hy
            rw [List.getElem?_map] at hy
            cases hc : z.cps.toList[i]? with
            | none =>
              rw [hc] at hx
              cases hx
            | some c =>
              rw [hc] at hx hy
              obtain rfl := Option.some.inj hx
              obtain rfl := Option.some.inj hy
              exact ⟨_, rfl, c, letters, rfl, rfl, k H1 (Same.refl H1)⟩
          · refine ⟨D, _, rfl, SqL.of hD, ?_⟩
            have e : isW (.str z) = (z.cps.toList.map fun c => decide (c ∈ letters.cps.toList)).all id := by
              show ((decide (1 ≤ z.length) && decide (z.length ≤ 8)) && _) = _
              rw [decide_eq_true h1, decide_eq_true h2, Bool.true_and, Bool.true_and, List.all_map]
              rfl
            rw [← e]
            exact q H1 s1
        · have h2' : decide (((z.length : Nat) : Int) ≤ 8) = false := decide_eq_false (by omega)
          rw [h2']
          refine iteT ?_
          have e : isW (.str z) = false := by
            show ((decide (1 ≤ z.length) && decide (z.length ≤ 8)) && _) = false
            rw [decide_eq_false h2, Bool.and_false, Bool.false_and]
          rw [e] at q
          exact q H (Same.refl H)
      · have h1 : ¬ 1 ≤ z.length := fun h => c1 (decide_eq_true (by omega))
        refine ⟨_, rfl, iteT ?_⟩
        have e : isW (.str z) = false := by
          show ((decide (1 ≤ z.length) && decide (z.length ≤ 8)) && _) = false
          rw [decide_eq_false h1, Bool.false_and, Bool.false_and]
        rw [e] at q
        exact q H (Same.refl H)
    · have e : decide (N = "str") = false := decide_eq_false hs
      rw [e]
      refine iteT (iteT ?_)
      have e2 : isW v = false := by
        cases v with
        | str z => exact absurd (str_ty ty) hs
        | _ => rfl
      rw [e2] at q
      exact q H (Same.refl H)
end

section
variable {P : Program} {w : World} {K : PySem.W.Frag} {mg : Str → Option Value} {base : Heap}
/-- the law of a list's or a tuple's items, given how it is walked and measured -/
theorem ok_arePeople {f fW : Addr} {fd fdW : FuncData} (F : Fun K "are_people" "are_people" sArePeople f fd) (FW : Fun K "is_word" "is_word" sIsWord fW fdW) (bW : Binds K fdW ["value"] []) (gW : mg "is_word" = some (.ref fW)) (B : Bt mg) (T : Tx mg) :
    FnOk P w K mg base CX0 2 f fd ["value"] (spArePeople K) := by
  have GW : FnOk P w K mg base CX0 1 fW fdW ["value"] (spIsWord K) := ok_isWord FW B T
  obtain ⟨t1, g1⟩ := T.mostP
  refine F.ok scArePeople (fun vs H Q E h => ?_) (fun cdv A outer s H vs Q E hr h => ?_)
  · obtain ⟨v, b, xs, rfl, _⟩ := h
    rfl
  · obtain ⟨v, b, xs, rfl, ha, q⟩ := h
    cases ha with
    | @no _ N t h1 h2 =>
      refine ⟨_, pss_cons (ps_if (PW.pt (pw_or (pt_not (pt_val (pe_callB call_isiT (by rfl) T.isi (by decide +kernel) (pa_cons (pv 0) (pa_cons (pe_tup (pa_cons (pe_bltn (v := .ty "list") (by rfl) T.list (by decide +kernel) rfl) (pa_cons (pe_bltn (v := .ty "tuple") (by rfl) T.tuple (by decide +kernel) rfl) pa_nil))) pa_nil)))))
          (pw_or1 (pt_not (pt_chain op_le op_le pe_int (pe_callB call_len_seq (by rfl) B.len PySem.boot_len (pa_cons (pv 0) pa_nil)) (pe_glob (v := .int 8) (by rfl) g1 ⟨_, rfl⟩)))))) (pss_one (ps_ret pe_bl)) pss_nil)
        (pss_one ps_never), ?_⟩
      refine ⟨_, rfl, (by show 2 ≤ sizeLine; decide), fun p np => ?_⟩
      refine ⟨v, p, _, _, _, _, rfl, upd_same, .cons (.ty "list") (.cons (.ty "tuple") .nil), TyX.same (same_new np) t.1, kit_listTuple t.2, _, rfl, ?_⟩
      rw [decide_eq_false h1, decide_eq_false h2]
      exact iteT (iteT (q _ (same_new np)))
    | @lst a _ e hx hl =>
      refine ⟨_, pss_cons (ps_if (PW.pt (pw_or (pt_not (pt_val (pe_callB call_isiT (by rfl) T.isi (by decide +kernel) (pa_cons (pv 0) (pa_cons (pe_tup (pa_cons (pe_bltn (v := .ty "list") (by rfl) T.list (by decide +kernel) rfl) (pa_cons (pe_bltn (v := .ty "tuple") (by rfl) T.tuple (by decide +kernel) rfl) pa_nil))) pa_nil)))))
          (pw_or1 (pt_not (pt_chain op_le op_le pe_int (pe_callB call_len_seq (by rfl) B.len PySem.boot_len (pa_cons (pv 0) pa_nil)) (pe_glob (v := .int 8) (by rfl) g1 ⟨_, rfl⟩)))))) (pss_one (ps_ret pe_bl)) pss_nil)
        (pss_one (ps_ret (pe_and (pe_callB (cr_all rfl) (by rfl) T.all (by decide +kernel) (pa_cons (pe_lc (own := [("person", 1)]) (g := gName 1) (by rfl) scArePeople.nd (pi_list (pv 0)) (blkOk_by (own := [("person", 1)]) (N := ["value", "person"]) (sc := defScope sArePeople) (by decide +kernel))
            (fun _ _ _ _ _ => pg_name (i := 1) scArePeople.nd rfl (Or.inl rfl)) (fun _ _ _ _ _ => pts_nil) (fun _ _ _ _ _ => pe_call GW (by exact hr) (by rfl) gW FW.kp bW .nil pass0 (pa_cons (pv 1) pa_nil))) pa_nil))
          (pe_one (pe_cmpR op_eq (pe_callB cr_lenK (by rfl) B.len PySem.boot_len (pa_cons (pe_callTy (cr_setK rfl) (by rfl) T.set (by decide +kernel) (pa_cons (pv 0) pa_nil)) pa_nil)) (pe_callB call_len_seq (by rfl) B.len PySem.boot_len (pa_cons (pv 0) pa_nil)) (nomark _)))))), ?_⟩
      refine ⟨_, rfl, (by show 2 ≤ sizeLine; decide), fun p np => ?_⟩
      refine ⟨_, p, _, _, _, _, rfl, upd_same, .cons (.ty "list") (.cons (.ty "tuple") .nil), .base (.lst (same_new np _ _ e)), kit_listTuple (by decide), _, rfl, ?_⟩
      refine iteF ?_
      generalize e1 : upd H p _ = H1
      have s1 : Same H H1 := e1 ▸ same_new np
      have ha1 := s1 _ _ e
      refine ⟨_, rfl, a, xs, rfl, .inl (SqL.of ha1), _, _, rfl, rfl, _, rfl, ite2 (fun c1 => ?_) (fun c1 => ?_)⟩
      · have h1 : 1 ≤ xs.length := by
          have := of_decide_eq_true c1
          omega
        refine ⟨_, _, rfl, rfl, _, rfl, ?_⟩
        by_cases h2 : xs.length ≤ 8
        · rw [show decide (((xs.length : Nat) : Int) ≤ 8) = true from decide_eq_true (by omega)]
          refine iteF ?_
          refine ⟨_, rfl, a, rfl, ⟨xs, SqL.of ha1⟩, fun D nD => ?_⟩
          refine lc_map (ys := (xs.map isW).map V.bl) (w := walk_list (K := K) (a := a) (xs := xs)) (by simp) (small1000 hl) nD (fun H2 s2 => SqL.of (s2 _ _ ha1)) (fun _ => rfl) (fun i x y H2 Q2 hxi hyi s2 k => ?_) (fun H2 s2 hD => ?_)
          · rw [List.getElem?_map, List.getElem?_map, hxi] at hyi
            obtain rfl := Option.some.inj hyi
            exact ⟨_, rfl, x, rfl, (hx x (List.mem_of_getElem? hxi)).same (s1.trans s2), fun H3 s3 => k H3 s3⟩
          · refine ⟨D, xs.map isW, rfl, SqL.of hD, _, rfl, ite2 (fun c2 => ?_) (fun c2 => ?_)⟩
            · have c3 : xs.all isW = true := by
                rw [List.all_map] at c2
                exact c2
              obtain ⟨zs, rfl⟩ := strs_of_isW c3
              refine ⟨_, rfl, a, zs.map Sum.inr, rfl, .inl (by rw [← keys_of_strs]; exact SqL.of (s2 _ _ ha1)), (by rw [List.length_map] at hl ⊢; exact hl), fun r nr => ?_⟩
              refine ⟨r, _, _, rfl, upd_same, ?_, _, rfl, a, _, rfl, .inl (SqL.of (same_new nr _ _ (s2 _ _ ha1))), rfl, ?_⟩
              · have := Km.uniq_le (zs.map (Sum.inr : Str → Key))
                rw [List.length_map] at this hl
                omega
              · rw [uniq_strs]
                have e2 : peopleB (zs.map V.str) = decide (zs.map V.str).Nodup := by
                  show ((decide (1 ≤ (zs.map V.str).length) && decide ((zs.map V.str).length ≤ 8)) && ((zs.map V.str).all isW && _)) = _
                  rw [decide_eq_true h1, decide_eq_true h2, c3, Bool.true_and, Bool.true_and, Bool.true_and]
                rw [← e2]
                exact q _ ((s1.trans s2).trans (same_new nr))
            · have e2 : peopleB xs = false := by
                show ((decide (1 ≤ xs.length) && decide (xs.length ≤ 8)) && (xs.all isW && _)) = _
                have : xs.all isW = false := by
                  cases z : xs.all isW with
                  | false => rfl
                  | true =>
                    refine absurd ?_ c2
                    rw [List.all_map]
                    exact z
                rw [this, Bool.false_and, Bool.and_false]
              rw [e2] at q
              exact q H2 (s1.trans s2)
        · rw [show decide (((xs.length : Nat) : Int) ≤ 8) = false from decide_eq_false (by omega)]
          refine iteT ?_
          have e2 : peopleB xs = false := by
            show ((decide (1 ≤ xs.length) && decide (xs.length ≤ 8)) && _) = false
            rw [decide_eq_false h2, Bool.and_false, Bool.false_and]
          rw [e2] at q
          exact q H1 s1
      · have h1 : ¬ 1 ≤ xs.length := fun h => c1 (decide_eq_true (by omega))
        refine ⟨_, rfl, iteT ?_⟩
        have e2 : peopleB xs = false := by
          show ((decide (1 ≤ xs.length) && decide (xs.length ≤ 8)) && _) = false
          rw [decide_eq_false h1, Bool.false_and, Bool.false_and]
        rw [e2] at q
        exact q H1 s1
    | @tup a _ e hx hl =>
      refine ⟨_, pss_cons (ps_if (PW.pt (pw_or (pt_not (pt_val (pe_callB call_isiT (by rfl) T.isi (by decide +kernel) (pa_cons (pv 0) (pa_cons (pe_tup (pa_cons (pe_bltn (v := .ty "list") (by rfl) T.list (by decide +kernel) rfl) (pa_cons (pe_bltn (v := .ty "tuple") (by rfl) T.tuple (by decide +kernel) rfl) pa_nil))) pa_nil)))))
          (pw_or1 (pt_not (pt_chain op_le op_le pe_int (pe_callB call_len_seq (by rfl) B.len PySem.boot_len (pa_cons (pv 0) pa_nil)) (pe_glob (v := .int 8) (by rfl) g1 ⟨_, rfl⟩)))))) (pss_one (ps_ret pe_bl)) pss_nil)
        (pss_one (ps_ret (pe_and (pe_callB (cr_all rfl) (by rfl) T.all (by decide +kernel) (pa_cons (pe_lc (own := [("person", 1)]) (g := gName 1) (by rfl) scArePeople.nd (pi_tup (pv 0)) (blkOk_by (own := [("person", 1)]) (N := ["value", "person"]) (sc := defScope sArePeople) (by decide +kernel))
            (fun _ _ _ _ _ => pg_name (i := 1) scArePeople.nd rfl (Or.inl rfl)) (fun _ _ _ _ _ => pts_nil) (fun _ _ _ _ _ => pe_call GW (by exact hr) (by rfl) gW FW.kp bW .nil pass0 (pa_cons (pv 1) pa_nil))) pa_nil))
          (pe_one (pe_cmpR op_eq (pe_callB cr_lenK (by rfl) B.len PySem.boot_len (pa_cons (pe_callTy (cr_setK rfl) (by rfl) T.set (by decide +kernel) (pa_cons (pv 0) pa_nil)) pa_nil)) (pe_callB call_len_seq (by rfl) B.len PySem.boot_len (pa_cons (pv 0) pa_nil)) (nomark _)))))), ?_⟩
      refine ⟨_, rfl, (by show 2 ≤ sizeLine; decide), fun p np => ?_⟩
      refine ⟨_, p, _, _, _, _, rfl, upd_same, .cons (.ty "list") (.cons (.ty "tuple") .nil), .base (.tup (same_new np _ _ e)), kit_listTuple (by decide), _, rfl, ?_⟩
      refine iteF ?_
      generalize e1 : upd H p _ = H1
      have s1 : Same H H1 := e1 ▸ same_new np
      have ha1 := s1 _ _ e
      refine ⟨_, rfl, a, xs, rfl, .inr (SqT.of ha1), _, _, rfl, rfl, _, rfl, ite2 (fun c1 => ?_) (fun c1 => ?_)⟩
      · have h1 : 1 ≤ xs.length := by
          have := of_decide_eq_true c1
          omega
        refine ⟨_, _, rfl, rfl, _, rfl, ?_⟩
        by_cases h2 : xs.length ≤ 8
        · rw [show decide (((xs.length : Nat) : Int) ≤ 8) = true from decide_eq_true (by omega)]
          refine iteF ?_
          refine ⟨_, rfl, a, rfl, ⟨xs, SqT.of ha1⟩, fun D nD => ?_⟩
          refine lc_map (ys := (xs.map isW).map V.bl) (w := walk_tup (K := K) (a := a) (xs := xs)) (by simp) (small1000 hl) nD (fun H2 s2 => SqT.of (s2 _ _ ha1)) (fun _ => rfl) (fun i x y H2 Q2 hxi hyi s2 k => ?_) (fun H2 s2 hD => ?_)
          · rw [List.getElem?_map, List.getElem?_map, hxi] at hyi
            obtain rfl := Option.some.inj hyi
            exact ⟨_, rfl, x, rfl, (hx x (List.mem_of_getElem? hxi)).same (s1.trans s2), fun H3 s3 => k H3 s3⟩
          · refine ⟨D, xs.map isW, rfl, SqL.of hD, _, rfl, ite2 (fun c2 => ?_) (fun c2 => ?_)⟩
            · have c3 : xs.all isW = true := by
                rw [List.all_map] at c2
                exact c2
              obtain ⟨zs, rfl⟩ := strs_of_isW c3
              refine ⟨_, rfl, a, zs.map Sum.inr, rfl, .inr (by rw [← keys_of_strs]; exact SqT.of (s2 _ _ ha1)), (by rw [List.length_map] at hl ⊢; exact hl), fun r nr => ?_⟩
              refine ⟨r, _, _, rfl, upd_same, ?_, _, rfl, a, _, rfl, .inr (SqT.of (same_new nr _ _ (s2 _ _ ha1))), rfl, ?_⟩
              · have := Km.uniq_le (zs.map (Sum.inr : Str → Key))
                rw [List.length_map] at this hl
                omega
              · rw [uniq_strs]
                have e2 : peopleB (zs.map V.str) = decide (zs.map V.str).Nodup := by
                  show ((decide (1 ≤ (zs.map V.str).length) && decide ((zs.map V.str).length ≤ 8)) && ((zs.map V.str).all isW && _)) = _
                  rw [decide_eq_true h1, decide_eq_true h2, c3, Bool.true_and, Bool.true_and, Bool.true_and]
                rw [← e2]
                exact q _ ((s1.trans s2).trans (same_new nr))
            · have e2 : peopleB xs = false := by
                show ((decide (1 ≤ xs.length) && decide (xs.length ≤ 8)) && (xs.all isW && _)) = _
                have : xs.all isW = false := by
                  cases z : xs.all isW with
                  | false => rfl
                  | true =>
                    refine absurd ?_ c2
                    rw [List.all_map]
                    exact z
                rw [this, Bool.false_and, Bool.and_false]
              rw [e2] at q
              exact q H2 (s1.trans s2)
        · rw [show decide (((xs.length : Nat) : Int) ≤ 8) = false from decide_eq_false (by omega)]
          refine iteT ?_
          have e2 : peopleB xs = false := by
            show ((decide (1 ≤ xs.length) && decide (xs.length ≤ 8)) && _) = false
            rw [decide_eq_false h2, Bool.and_false, Bool.false_and]
          rw [e2] at q
          exact q H1 s1
      · have h1 : ¬ 1 ≤ xs.length := fun h => c1 (decide_eq_true (by omega))
        refine ⟨_, rfl, iteT ?_⟩
        have e2 : peopleB xs = false := by
          show ((decide (1 ≤ xs.length) && decide (xs.length ≤ 8)) && _) = false
          rw [decide_eq_false h1, Bool.false_and, Bool.false_and]
        rw [e2] at q
        exact q H1 s1
end

section
variable {P : Program} {w : World} {K : PySem.W.Frag} {mg : Str → Option Value} {base : Heap}
theorem ok_badCrowdInit {f C : Addr} {fd : FuncData} (F : Fun K "__init__" "BadCrowd.__init__" sBadCrowdInit f fd) : FnOk P w K mg base CX0 1 f fd ["self", "part"] (spErrInit K C "part") := by
  refine F.ok scBadCrowdInit (fun vs H Q E h => ?_) (fun cdv A outer s H vs Q E hr h => ?_)
  · obtain ⟨a, v, rfl, _⟩ := h
    rfl
  · obtain ⟨a, v, rfl, ox, nf, ha, q⟩ := h
    refine ⟨_, pss_one (ps_ost (f := "part") (pv 0) (pv 1)), ?_⟩
    exact ⟨_, rfl, _, rfl, a, C, rfl, ox, nf, .inl ⟨ha, fun d nd ne => q d nd ne⟩⟩
end
section
variable {P : Program} {w : World} {K : PySem.W.Frag} {mg : Str → Option Value} {base : Heap}
theorem ok_crowdNew {f fA fN fB C CB : Addr} {fd fdA fdN fdB : FuncData} (F : Fun K "__init__" "Crowd.__init__" sCrowdInit f fd)
    (GA : FnOk P w K mg base CX0 2 fA fdA ["value"] (spArePeople K)) (kA : PySem.W.keepIn K (.ref fA) = true) (bA : Binds K fdA ["value"] []) (gA : mg "are_people" = some (.ref fA))
    (GN : FnOk P w K mg base CX0 2 fN fdN ["value", "least", "most"] (spWithin K)) (kN : PySem.W.keepIn K (.ref fN) = true) (bN : Binds K fdN ["value", "least", "most"] []) (gN : mg "is_integer_within" = some (.ref fN))
    (GB : FnOk P w K mg base CX0 1 fB fdB ["self", "part"] (spErrInit K CB "part")) (bB : Binds K fdB ["self", "part"] []) (iB : PySem.W.findIn K (.ref CB) "__init__" = some (some (.ref fB))) (tB : PySem.W.typeIn K (.ref fB) = some (.type "function"))
    (EB : Er K mg "BadCrowd" CB) (nf : PySem.W.findIn K (.ref CB) "part" = some none) (cl : Cls K C) (n1 : NoAttr K C "_people") (n2 : NoAttr K C "most") (T : Tx mg) :
    FnOk P w K mg base (L2.CX P w) 3 f fd ["self", "people", "most"] (spCrowdNew K C CB) := by
  obtain ⟨t1, g1⟩ := T.greatest
  refine F.okX scCrowdInit (fun vs H Q E h => ?_) (fun cdv A outer s H vs Q E hr h => ?_)
  · obtain ⟨x, dx, v, m, b, xs, rfl, _⟩ := h
    rfl
  · obtain ⟨x, dx, v, m, b, xs, rfl, hx, ha, ⟨N, tm⟩, qp, qm, q⟩ := h
    refine ⟨_, pss_cons (ps_if (pt_not (pt_val (pe_call GA hr (by rfl) gA kA bA .nil pass0 (pa_cons (pv 1) pa_nil)))) (pss_one (ps_raise rfl (takes_of rfl rfl rfl rfl) (pmk_oex EB.ox iB tB GB hr bB .nil pass0 (by rfl) EB.g (pa_cons pe_str pa_nil)))) pss_nil)
      (pss_cons (ps_if (pt_not (pt_val (pe_call GN hr (by rfl) gN kN bN .nil pass0 (pa_cons (pv 2) (pa_cons pe_int (pa_cons (pe_glob (v := .int 10) (by rfl) g1 ⟨_, rfl⟩) pa_nil)))))) (pss_one (ps_raise rfl (takes_of rfl rfl rfl rfl) (pmk_oex EB.ox iB tB GB hr bB .nil pass0 (by rfl) EB.g (pa_cons pe_str pa_nil)))) pss_nil)
      (pss_cons (ps_fld (pv 0) (pe_callTy call_list_of (by rfl) T.list (by decide +kernel) (pa_cons (pv 1) pa_nil)) rfl)
      (pss_one (ps_fld (pv 0) (pv 2) rfl)))), ?_⟩
    refine ⟨_, rfl, v, b, xs, rfl, ha, fun H1 s1 => ⟨b, rfl, ?_⟩⟩
    cases b with
    | false =>
      refine iteT ⟨(by show 1 ≤ 1000; decide), fun a na => ⟨a, _, rfl, EB.ox, nf, upd_same, fun d nd nda => ?_⟩⟩
      have nd1 : H1 d = none := by
        rw [upd_ne nda] at nd
        exact nd
      refine ⟨rfl, d, _, upd_same, by rw [upd_ne nda, upd_same], nd1, ?_⟩
      obtain ⟨r1, r2, r3⟩ := raised_mk (C := CB) (f := "part") (v := V.str "people") na nd1 nda
      exact qp rfl _ d ⟨s1.trans r1, s1.free r2, r3⟩
    | true =>
      refine iteF ?_
      refine ⟨_, rfl, m, 1, 10, rfl, ⟨N, tm.same s1⟩, _, rfl, ?_⟩
      cases hm : markB 1 10 m with
      | false =>
        refine iteT ⟨(by show 1 ≤ 1000; decide), fun a na => ⟨a, _, rfl, EB.ox, nf, upd_same, fun d nd nda => ?_⟩⟩
        have nd1 : H1 d = none := by
          rw [upd_ne nda] at nd
          exact nd
        refine ⟨rfl, d, _, upd_same, by rw [upd_ne nda, upd_same], nd1, ?_⟩
        obtain ⟨r1, r2, r3⟩ := raised_mk (C := CB) (f := "part") (v := V.str "most") na nd1 nda
        exact qm rfl hm _ d ⟨s1.trans r1, s1.free r2, r3⟩
      | true =>
        refine iteF ?_
        obtain ⟨i, rfl⟩ : ∃ i, m = .int i := by
          cases m with
          | int i => exact ⟨i, rfl⟩
          | _ => cases hm
        obtain ⟨l, rfl, hl⟩ := (ha.same s1).seq rfl
        refine ⟨_, rfl, l, xs, rfl, hl, fun p np => ?_⟩
        generalize e2 : upd H1 p _ = H2
        have s2 : Same H1 H2 := e2 ▸ same_new np
        have hp : H2 p = some (.lst xs) := e2 ▸ upd_same
        have hx2 := s2 _ _ (s1 _ _ hx)
        have npx : p ≠ x := ne_of hp hx2 (by intro z; cases z)
        refine ⟨_, rfl, x, C, dx, [], rfl, hx2, cl, n1, (by show 0 < 1000; decide), ?_⟩
        refine ⟨_, rfl, _, rfl, x, C, dx, _, rfl, upd_same, cl, n2, (by show 1 < 1000; decide), ?_⟩
        refine q rfl i rfl hm _ dx p ?_ (s1.free np) (by rw [upd_same, putF_new, crowd_put]) (by rw [upd_ne npx, upd_ne npx]; exact hp)
        exact ((But.of_same (s1.trans s2)).trans But.upd).trans But.upd
end
/-! ### a crowd's methods -/
section
variable {P : Program} {w : World} {K : PySem.W.Frag} {mg : Str → Option Value} {base : Heap} {C CN : Addr}
theorem ok_crowdPeople {f : Addr} {fd : FuncData} (F : Fun K "people" "Crowd.people" sCrowdPeople f fd) (cl : Cls K C) (n1 : NoAttr K C "_people") (T : Tx mg) : FnOk P w K mg base CX0 1 f fd ["self"] (spCrowdPeople C) := by
  refine F.ok scCrowdPeople (fun vs H Q E h => ?_) (fun cdv A outer s H vs Q E hr h => ?_)
  · obtain ⟨x, zs, m, rfl, _⟩ := h
    rfl
  · obtain ⟨x, zs, m, rfl, ⟨dx, l, hx, hl⟩, len, q⟩ := h
    refine ⟨_, pss_one (ps_ret (pe_callTy call_list_of (by rfl) T.list (by decide +kernel) (pa_cons (pe_fld (pv 0) rfl) pa_nil))), ?_⟩
    exact ⟨_, rfl, x, C, dx, _, _, rfl, hx, cl, n1, rfl, l, _, rfl, .inl (SqL.of hl), fun p np => q _ p (same_new np) np upd_same⟩
theorem ok_crowdLen {f : Addr} {fd : FuncData} (F : Fun K "__len__" "Crowd.__len__" sCrowdLen f fd) (cl : Cls K C) (n1 : NoAttr K C "_people") (B : Bt mg) : FnOk P w K mg base CX0 1 f fd ["self"] (spCrowdLen C) := by
  refine F.ok scCrowdLen (fun vs H Q E h => ?_) (fun cdv A outer s H vs Q E hr h => ?_)
  · obtain ⟨x, zs, m, rfl, _⟩ := h
    rfl
  · obtain ⟨x, zs, m, rfl, ⟨dx, l, hx, hl⟩, q⟩ := h
    refine ⟨_, pss_one (ps_ret (pe_callB call_len_seq (by rfl) B.len PySem.boot_len (pa_cons (pe_fld (pv 0) rfl) pa_nil))), ?_⟩
    refine ⟨_, rfl, x, C, dx, _, _, rfl, hx, cl, n1, rfl, l, _, rfl, .inl (SqL.of hl), ?_⟩
    rw [List.length_map]
    exact q
theorem ok_crowdHas {f : Addr} {fd : FuncData} (F : Fun K "__contains__" "Crowd.__contains__" sCrowdContains f fd) (cl : Cls K C) (n1 : NoAttr K C "_people") (T : Tx mg) : FnOk P w K mg base CX0 1 f fd ["self", "x"] (spCrowdHas K C) := by
  refine F.ok scCrowdContains (fun vs H Q E h => ?_) (fun cdv A outer s H vs Q E hr h => ?_)
  · obtain ⟨x, v, zs, m, N, rfl, _⟩ := h
    rfl
  · obtain ⟨x, v, zs, m, N, rfl, ⟨dx, l, hx, hl⟩, ⟨ty, hk⟩, q⟩ := h
    refine ⟨_, pss_one (ps_ret (pe_and (pe_callB call_isi (by rfl) T.isi (by decide +kernel) (pa_cons (pv 1) (pa_cons (pe_bltn (v := .ty "str") (by rfl) T.str (by decide +kernel) rfl) pa_nil)))
      (pe_one (pe_cmpR op_in_seq (pv 1) (pe_fld (pv 0) rfl) (by rfl))))), ?_⟩
    refine ⟨_, rfl, v, .ty "str", _, _, _, rfl, .ty "str", ty, kit_ty (kit_str hk), _, rfl, ite2 (fun c => ?_) (fun c => ?_)⟩
    · obtain ⟨z, rfl⟩ := ty_str' ty (by rw [of_decide_eq_true c])
      refine ⟨_, rfl, _, rfl, x, C, dx, _, _, rfl, hx, cl, n1, rfl, l, _, rfl, .inl (SqL.of hl), rfl, all_flat_strs zs, ?_⟩
      show Q (.bl (inV _ _)) H
      rw [inV_strs]
      exact q
    · have e : hasB v zs = false := by
        cases v with
        | str z =>
          cases ty with
          | base b => cases b; exact absurd (decide_eq_true rfl) c
        | _ => rfl
      rw [e] at q
      exact q
theorem ok_crowdEq {f : Addr} {fd : FuncData} (F : Fun K "__eq__" "Crowd.__eq__" sCrowdEq f fd) (cl : Cls K C) (n1 : NoAttr K C "_people") (n2 : NoAttr K C "most") (gC : mg "Crowd" = some (.ref C)) (k1 : PySem.W.kitOne K (.ref C) (.ref C) = some true)
    (k2 : PySem.W.kitOne K (.type "list") (.ref C) = some false) (io : IsOwn K C) (T : Tx mg) : FnOk P w K mg base CX0 1 f fd ["self", "other"] (spCrowdEq K C) := by
  refine F.ok scCrowdEq (fun vs H Q E h => ?_) (fun cdv A outer s H vs Q E hr h => ?_)
  · obtain ⟨x, y, zs, m, rfl, _⟩ := h
    rfl
  · obtain ⟨x, y, zs, m, rfl, ⟨dx, l, hx, hl⟩, oz, h⟩ := h
    refine ⟨_, pss_one (ps_ret (pe_and (pe_callB call_isi (by rfl) T.isi (by decide +kernel) (pa_cons (pv 1) (pa_cons (pe_glob (v := .ref C) (by rfl) gC rfl) pa_nil)))
      (pe_and (pe_cmpR op_eq (pe_fld (pv 0) rfl) (pe_fld (pv 1) rfl) (nomark _)) (pe_one (pe_cmpR (op_eqD hr.units) (pe_fld (pv 0) rfl) (pe_fld (pv 1) rfl) (nomark _)))))), ?_⟩
    rcases h with ⟨ys, n, ⟨dy, k, hy, hk⟩, oy, q⟩ | ⟨⟨ys, hy⟩, q⟩
    · refine ⟨_, rfl, .ref y, .ref C, _, _, _, rfl, .own C, io.ty hy, k1, _, rfl, iteT ?_⟩
      refine ⟨_, rfl, x, C, dx, _, _, rfl, hx, cl, n2, rfl, _, rfl, y, C, dy, _, _, rfl, hy, cl, n2, rfl, rfl, _, rfl, ite2 (fun c => ?_) (fun c => ?_)⟩
      · have e : m = n := by
          have := of_decide_eq_true c
          cases this
          rfl
        subst e
        refine ⟨_, rfl, x, C, dx, _, _, rfl, hx, cl, n1, rfl, _, rfl, y, C, dy, _, _, rfl, hy, cl, n1, rfl, _, _, .lst (SqL.of hl) (dp_strs zs), .lst (SqL.of hk) (dp_strs ys), shaped_strs oz, shaped_strs oy, ?_⟩
        rw [eqv_strs]
        rw [decide_eq_true rfl, Bool.true_and] at q
        exact q
      · have e : ¬ m = n := fun e => c (by rw [e]; exact decide_eq_true rfl)
        rw [decide_eq_false e, Bool.false_and] at q
        exact q
    · refine ⟨_, rfl, .ref y, .ref C, _, _, _, rfl, .own C, .base (.lst hy), k2, _, rfl, iteF q⟩
theorem ok_NotThereInit {f D : Addr} {fd : FuncData} (F : Fun K "__init__" "NotThere.__init__" sNotThereInit f fd) : FnOk P w K mg base CX0 1 f fd ["self", "word"] (spEcInit K D "word") := by
  refine F.ok scNotThereInit (fun vs H Q E h => ?_) (fun cdv A outer s H vs Q E hr h => ?_)
  · obtain ⟨a, v, rfl, _⟩ := h
    rfl
  · obtain ⟨a, v, rfl, T, nf, ha, q⟩ := h
    refine ⟨_, pss_one (ps_ec (f := "word") (pv 0) (pv 1)), ?_⟩
    exact ⟨_, rfl, _, rfl, a, D, rfl, T, nf, ha, fun d nd ne => q d nd ne⟩
theorem ok_needPerson {f fH fI : Addr} {fd fdH fdI : FuncData} (F : Fun K "need_person" "need_person" sNeedPerson f fd) (GH : FnOk P w K mg base CX0 1 fH fdH ["self", "x"] (spCrowdHas K C)) (hs : PySem.W.findIn K (.ref C) "__contains__" = some (some (.ref fH)))
    (hf : PySem.W.isFn K (.ref fH) = true) (bH : Binds K fdH ["self", "x"] []) (TN : EcC K CN) (gN : mg "NotThere" = some (.ref CN)) (no : PySem.W.findIn K (.ref CN) "word" = some none) (iN : PySem.W.findIn K (.ref CN) "__init__" = some (some (.ref fI)))
    (tN : PySem.W.typeIn K (.ref fI) = some (.type "function")) (GI : FnOk P w K mg base CX0 1 fI fdI ["self", "word"] (spEcInit K CN "word")) (bI : Binds K fdI ["self", "word"] []) : FnOk P w K mg base (L2.CX P w) 3 f fd ["crowd", "person"] (spNeed K C CN) := by
  refine F.okX scNeedPerson (fun vs H Q E h => ?_) (fun cdv A outer s H vs Q E hr h => ?_)
  · obtain ⟨x, v, zs, m, N, rfl, _⟩ := h
    rfl
  · obtain ⟨x, v, zs, m, N, rfl, hc, ty, q1, q2⟩ := h
    refine ⟨_, pss_one (ps_if (pt_cmpR (op_notInOwn (E := fun _ _ _ => False) hs hf GH (hr.mono (by decide)) bH pass0) (pv 1) (pv 0) (by rfl)) (pss_one (ps_raise rfl (takes_of rfl rfl rfl rfl) (pmk_ec TN iN tN GI hr bI pass0 (by rfl) gN (pa_cons (pv 1) pa_nil)))) pss_nil), ?_⟩
    obtain ⟨dx, l, hx, hl⟩ := id hc
    refine ⟨_, rfl, _, rfl, x, dx, _, rfl, hx, x, v, zs, m, N, rfl, hc, ty, hasB v zs, rfl, _, rfl, ?_⟩
    cases e : hasB v zs with
    | true => exact iteF (q1 e)
    | false =>
      refine iteT ⟨_, rfl, (by show 1 ≤ 1000; decide), fun a na => ⟨a, _, rfl, TN, no, upd_same, fun d nd nda => ?_⟩⟩
      have nd1 : H d = none := by
        rw [upd_ne nda] at nd
        exact nd
      refine ⟨rfl, d, _, upd_same, by rw [upd_ne nda, upd_same], nd1, ?_⟩
      exact q2 e _ d (raised_mk (C := CN) (f := "word") (v := v) na nd1 nda)
theorem ok_crowdIsPair {f fH : Addr} {fd fdH : FuncData} (F : Fun K "is_pair" "Crowd.is_pair" sCrowdIsPair f fd) (GH : FnOk P w K mg base CX0 1 fH fdH ["self", "x"] (spCrowdHas K C)) (hs : PySem.W.findIn K (.ref C) "__contains__" = some (some (.ref fH)))
    (hf : PySem.W.isFn K (.ref fH) = true) (bH : Binds K fdH ["self", "x"] []) (B : Bt mg) (T : Tx mg) : FnOk P w K mg base CX0 2 f fd ["self", "value"] (spIsPair K C) := by
  refine F.ok scCrowdIsPair (fun vs H Q E h => ?_) (fun cdv A outer s H vs Q E hr h => ?_)
  · obtain ⟨x, v, zs, m, b, rfl, _⟩ := h
    rfl
  · obtain ⟨x, v, zs, m, b, rfl, hc, pa, q⟩ := h
    obtain ⟨dx, l, hx, hl⟩ := id hc
    refine ⟨_, pss_cons (ps_if (PW.pt (pw_or (pt_not (pt_val (pe_callB call_isi (by rfl) T.isi (by decide +kernel) (pa_cons (pv 1) (pa_cons (pe_bltn (v := .ty "tuple") (by rfl) T.tuple (by decide +kernel) rfl) pa_nil)))))
        (pw_or1 (pt_cmpR op_ne (pe_callB call_len_seq (by rfl) B.len PySem.boot_len (pa_cons (pv 1) pa_nil)) pe_int (nomark _))))) (pss_one (ps_ret pe_bl)) pss_nil)
      (pss_one (ps_ret (pe_and (pe_cmpR (op_inOwn (E := fun _ _ _ => False) hs hf GH hr bH pass0) (pe_ix ix_tup (pv 1) pe_int (fun _ _ => rfl)) (pv 0) (by rfl))
        (pe_and (pe_cmpR (op_inOwn (E := fun _ _ _ => False) hs hf GH hr bH pass0) (pe_ix ix_tup (pv 1) pe_int (fun _ _ => rfl)) (pv 0) (by rfl)) (pe_one (pe_cmpR op_ne (pe_ix ix_tup (pv 1) pe_int (fun _ _ => rfl)) (pe_ix ix_tup (pv 1) pe_int (fun _ _ => rfl)) (nomark _))))))), ?_⟩
    cases pa with
    | @no _ N ty h =>
      refine ⟨_, rfl, v, .ty "tuple", _, _, _, rfl, .ty "tuple", ty.1, kit_ty (kit_tuple ty.2), _, rfl, ?_⟩
      rw [decide_eq_false h]
      exact iteT (iteT q)
    | @len p xs e h =>
      refine ⟨_, rfl, .ref p, .ty "tuple", _, _, _, rfl, .ty "tuple", .base (.tup e), kit_ty (kit_tuple (by decide)), _, rfl, ?_⟩
      refine iteF ⟨_, rfl, p, xs, rfl, .inr (SqT.of e), rfl, _, rfl, ?_⟩
      rw [decide_eq_false (fun z => h (by have := V.int.inj z; omega))]
      exact iteT q
    | @two p a b S T2 e ts tt =>
      refine ⟨_, rfl, .ref p, .ty "tuple", _, _, _, rfl, .ty "tuple", .base (.tup e), kit_ty (kit_tuple (by decide)), _, rfl, ?_⟩
      refine iteF ⟨_, rfl, p, [a, b], rfl, .inr (SqT.of e), rfl, _, rfl, ?_⟩
      rw [show decide (V.int (([a, b] : List V).length : Nat) = V.int 2) = true from decide_eq_true rfl]
      refine iteF ?_
      refine ⟨_, rfl, p, [a, b], 0, a, rfl, rfl, SqT.of e, rfl, _, rfl, x, dx, _, rfl, hx, x, a, zs, m, S, rfl, hc, ts, _, rfl, _, rfl, ?_⟩
      unfold isPairB at q
      cases h1 : hasB a zs with
      | false =>
        rw [h1] at q
        exact iteF q
      | true =>
        rw [h1] at q
        refine iteT ⟨_, rfl, p, [a, b], 1, b, rfl, rfl, SqT.of e, rfl, _, rfl, x, dx, _, rfl, hx, x, b, zs, m, T2, rfl, hc, tt, _, rfl, _, rfl, ?_⟩
        cases h2 : hasB b zs with
        | false =>
          rw [h2] at q
          exact iteF q
        | true =>
          rw [h2] at q
          refine iteT ⟨_, rfl, p, [a, b], 0, a, rfl, rfl, SqT.of e, rfl, _, rfl, p, [a, b], 1, b, rfl, rfl, SqT.of e, rfl, ?_, q⟩
          cases a with
          | str z =>
            cases b with
            | str y => rfl
            | _ => cases h2
          | _ => cases h1
end

section
variable {P : Program} {w : World} {K : PySem.W.Frag} {mg : Str → Option Value} {base : Heap} {C : Addr}
theorem ok_crowdPairs {f : Addr} {fd : FuncData} (F : Fun K "pairs" "Crowd.pairs" sCrowdPairs f fd) (cl : Cls K C) (n1 : NoAttr K C "_people") : FnOk P w K mg base CX0 1 f fd ["self"] (spCrowdPairs C) := by
  refine F.ok scCrowdPairs (fun vs H Q E h => ?_) (fun cdv A outer s H vs Q E hr h => ?_)
  · obtain ⟨x, zs, m, rfl, _⟩ := h
    rfl
  · obtain ⟨x, zs, m, rfl, ⟨dx, l, hx, hl⟩, len, q⟩ := h
    refine ⟨_, pss_one (ps_ret (by
      refine' pe_lc2 (own := [("marker", 1), ("marked", 2)]) (vs1 := [2]) (wi1 := iList K (tFld K (tVar 0) "_people")) (g := gName 1) (g1 := gName 2) (by rfl) scCrowdPairs.nd ?h1 (blkOk_by (own := [("marker", 1), ("marked", 2)]) (N := ["self", "marker", "marked"]) (sc := defScope sCrowdPairs) (by decide +kernel)) (by decide) (fun _ _ _ _ _ => pg_name (i := 1) scCrowdPairs.nd rfl (Or.inl rfl)) (fun _ _ _ _ _ => pts_nil) ?h2 (fun _ _ _ _ _ => pg_name (i := 2) scCrowdPairs.nd rfl (Or.inl rfl)) ?h3 ?h4
      (case h1 => exact pi_list (pe_fld (pv 0) rfl))
      (case h2 => intro _ _ _ _ _; exact pi_list (pe_fld (pv 0) rfl))
      (case h3 => intro _ _ _ _ _; exact pts_one (pt_cmpR op_ne (pv 1) (pv 2) (nomark _)))
      (case h4 => intro _ _ _ _ _; exact pe_tup (pa_cons (pv 1) (pa_cons (pv 2) pa_nil))))), ?_⟩
    refine ⟨_, rfl, x, C, dx, _, _, rfl, hx, cl, n1, rfl, l, rfl, ⟨_, SqL.of hl⟩, fun D nD => ?_⟩
    refine nest_it (walk_list (K := K) (a := l) (xs := zs.map V.str)) (fun i G => Same H G ∧ ∃ acc, G D = some (.lst acc) ∧ Tups D G acc ((zs.take i).flatMap (rowOf zs))) ⟨same_new nD, [], upd_same, rfl, fun j y q h => by simp at h⟩ (fun i G _ h => SqL.of (h.1 _ _ hl)) ?_ ?_
    · rintro i z G G2 hi ⟨sG, acc, hD, tp⟩ ⟨rfl, hz⟩
      rw [List.getElem?_map] at hz
      rw [List.length_map] at hi
      rw [List.getElem?_eq_getElem hi] at hz
      obtain rfl := Option.some.inj hz
      have ha := List.getElem?_eq_getElem hi
      generalize zs[i] = a at ha
      refine ⟨rfl, ?_⟩
      unfold tYes
      dsimp only
      rw [if_pos rfl]
      refine ⟨_, rfl, x, C, dx, _, _, rfl, sG _ _ hx, cl, n1, rfl, l, rfl, ⟨_, SqL.of (sG _ _ hl)⟩, ?_⟩
      refine nest_it (walk_list (K := K) (a := l) (xs := zs.map V.str)) (fun j G => Same H G ∧ ∃ acc, G D = some (.lst acc) ∧ Tups D G acc ((zs.take i).flatMap (rowOf zs) ++ ((zs.take j).filter fun c => a ≠ c).map fun b => (a, b))) ⟨sG, acc, hD, by simpa using tp⟩ (fun j G _ h => SqL.of (h.1 _ _ hl)) ?_ ?_
      · rintro j z G3 G4 hj ⟨s3, acc3, hD3, tp3⟩ ⟨rfl, hz⟩
        rw [List.getElem?_map] at hz
        rw [List.length_map] at hj
        rw [List.getElem?_eq_getElem hj] at hz
        obtain rfl := Option.some.inj hz
        have hb := List.getElem?_eq_getElem hj
        generalize zs[j] = b at hb
        refine ⟨rfl, _, rfl, _, rfl, rfl, _, rfl, ?_⟩
        by_cases e : a = b
        · subst e
          rw [decide_eq_true (rfl : V.str a = V.str a)]
          refine iteF ?_
          rw [row_take zs a a j hb, if_neg (by simp), List.append_nil]
          exact ⟨s3, acc3, hD3, tp3⟩
        · rw [decide_eq_false (fun z => e (V.str.inj z) : ¬ V.str a = V.str b)]
          refine iteT ?_
          rw [row_take zs a b j hb, if_pos e, List.map_append, ← List.append_assoc]
          refine ⟨_, rfl, _, rfl, (by show 2 ≤ sizeLine; decide), fun p np => ?_⟩
          have pD : p ≠ D := fun z => by
            rw [z, hD3] at np
            cases np
          refine ⟨acc3, same_new np _ _ hD3, ?_, fun b o z => ?_, acc3 ++ [.ref p], upd_same, ?_⟩
          · rw [tp3.1, List.length_append, List.length_map]
            have k1 := pairs_len len (ys := zs.take i) (by rw [List.length_take]; omega)
            have k2 := List.length_filter_le (fun c => decide (a ≠ c)) (zs.take j)
            rw [List.length_take] at k2
            exact small1000 (by omega)
          · rw [upd_ne (ne_of_none z nD)]
            exact same_new np _ _ (s3 _ _ z)
          · refine ((tp3.but (But.of_same (same_new np))).but But.upd).add pD ?_
            rw [upd_ne pD, upd_same]
      · rintro G3 ⟨s3, acc3, hD3, tp3⟩
        refine ⟨s3, acc3, hD3, ?_⟩
        rw [pairs_take zs i a ha]
        rw [List.length_map, List.take_length] at tp3
        exact tp3
    · rintro G ⟨s3, acc3, hD3, tp3⟩
      rw [List.length_map, List.take_length] at tp3
      exact q G D acc3 s3 nD hD3 tp3
end

section
variable {P : Program} {w : World} {K : PySem.W.Frag} {mg : Str → Option Value} {base : Heap} {C : Addr}
theorem ok_crowdIter {f : Addr} {fd : FuncData} (F : Fun K "__iter__" "Crowd.__iter__" sCrowdIter f fd) (cl : Cls K C) (n1 : NoAttr K C "_people") (zi : mg "iter" = none) : FnOk P w K mg base CX0 1 f fd ["self"] (spCrowdIter C) := by
  refine F.ok scCrowdIter (fun vs H Q E h => ?_) (fun cdv A outer s H vs Q E hr h => ?_)
  · obtain ⟨x, dx, l, xs, m, rfl, _⟩ := h
    rfl
  · obtain ⟨x, dx, l, xs, m, rfl, hx, hl, q⟩ := h
    refine ⟨_, pss_one (ps_ret (pe_callB call_iterL (by rfl) zi (by decide +kernel) (pa_cons (pe_fld (pv 0) rfl) pa_nil))), ?_⟩
    exact ⟨_, rfl, x, C, dx, _, _, rfl, hx, cl, n1, rfl, l, xs, rfl, SqL.of hl, fun it nit => q it nit⟩
theorem ok_lawPairs {f : Addr} {fd : FuncData} (F : Fun K "_law_pairs" "_law_pairs" sPairs f fd) : FnOk P w K mg base CX0 1 f fd ["_law_people_here"] (spLawPairs K) := by
  refine F.ok scPairs (fun vs H Q E h => ?_) (fun cdv A outer s H vs Q E hr h => ?_)
  · obtain ⟨l, zs, rfl, _⟩ := h
    rfl
  · obtain ⟨l, zs, rfl, hl, len, q⟩ := h
    refine ⟨_, pss_cons (ps_set (i := 1) scPairs.nd rfl (.inl rfl) (pe_lst pa_nil))
      (pss_cons (ps_for PassesOwn.never rfl (pi_list (pv 0)) (pg_name (i := 2) scPairs.nd rfl (.inr rfl))
        (pss_one (ps_set (i := 1) scPairs.nd rfl (.inl rfl) (pe_op op_cat (pv 1) (pe_lc (own := [("_law_other", 3)]) (g := gName 3) (by rfl) scPairs.nd (pi_list (pv 0)) (blkOk_by (own := [("_law_other", 3)]) (N := ["_law_people_here", "_law_found", "_law_one", "_law_other"]) (sc := defScope sPairs) (by decide +kernel))
          (fun _ _ _ _ _ => pg_name (i := 3) scPairs.nd rfl (Or.inl rfl)) (fun _ _ _ _ _ => pts_one (pt_cmpR op_ne (pv 3) (pv 2) (nomark _))) (fun _ _ _ _ _ => by exact pe_tup (pa_cons (pv 2) (pa_cons (pv 3) pa_nil))))))))
      (pss_one (ps_ret (pv 1)))), ?_⟩
    refine ⟨Nat.zero_le _, fun p0 np0 => ?_⟩
    generalize e0 : upd H p0 _ = H0
    have s0 : Same H H0 := e0 ▸ same_new np0
    have h0 : H0 p0 = some (.lst []) := e0 ▸ upd_same
    refine ⟨_, rfl, l, rfl, ⟨_, SqL.of (s0 _ _ hl)⟩, ?_⟩
    refine for_list (K := K) (a := l) (xs := zs.map V.str) (fun i σ G => ∃ p acc v2 v3, σ = [some (.ref l), some (.ref p), v2, v3] ∧ Same H G ∧ H p = none ∧ G p = some (.lst acc) ∧ Tps G acc ((zs.take i).flatMap (rowOf zs))) ⟨p0, [], _, _, rfl, s0, np0, h0, rfl, fun j y q h => by simp at h⟩ (fun i σ G _ h => by
      obtain ⟨_, _, _, _, _, s, _⟩ := h
      exact SqL.of (s _ _ hl)) ?_ ?_
    · rintro i x σ G hx ⟨p, acc, v2, v3, rfl, sG, np, hp, tp⟩
      have hi : i < zs.length := by
        have := (List.getElem?_eq_some_iff.mp hx).1
        rw [List.length_map] at this
        exact this
      rw [List.getElem?_map, List.getElem?_eq_getElem hi] at hx
      obtain rfl := Option.some.inj hx
      have ha := List.getElem?_eq_getElem hi
      generalize zs[i] = a at ha
      refine ⟨_, rfl, _, rfl, l, rfl, ⟨_, SqL.of (sG _ _ hl)⟩, fun D nD => ?_⟩
      refine nest_it (walk_list (K := K) (a := l) (xs := zs.map V.str)) (fun j G2 => Same G G2 ∧ ∃ ac, G2 D = some (.lst ac) ∧ Tups D G2 ac (((zs.take j).filter fun c => a ≠ c).map fun b => (a, b))) ⟨same_new nD, [], upd_same, rfl, fun j y q h => by simp at h⟩ (fun j G2 _ h => SqL.of (h.1 _ _ (sG _ _ hl))) ?_ ?_
      · rintro j z G3 G4 hj ⟨s3, ac, hD, t3⟩ ⟨rfl, hz⟩
        rw [List.getElem?_map] at hz
        rw [List.length_map] at hj
        rw [List.getElem?_eq_getElem hj] at hz
        obtain rfl := Option.some.inj hz
        have hb := List.getElem?_eq_getElem hj
        generalize zs[j] = b at hb
        refine ⟨rfl, _, rfl, _, rfl, rfl, _, rfl, ?_⟩
        by_cases e : a = b
        · subst e
          rw [decide_eq_true (rfl : V.str a = V.str a)]
          refine iteF ?_
          rw [row_take zs a a j hb, if_neg (by simp), List.append_nil]
          exact ⟨s3, ac, hD, t3⟩
        · rw [decide_eq_false (fun z => e (V.str.inj z).symm : ¬ V.str b = V.str a)]
          refine iteT ?_
          rw [row_take zs a b j hb, if_pos e, List.map_append]
          refine ⟨_, rfl, _, rfl, (by show 2 ≤ sizeLine; decide), fun t nt => ?_⟩
          have tD : t ≠ D := fun z => by
            rw [z, hD] at nt
            cases nt
          refine ⟨ac, same_new nt _ _ hD, ?_, fun c o z => ?_, ac ++ [.ref t], upd_same, ?_⟩
          · rw [t3.1, List.length_map]
            have k2 := List.length_filter_le (fun c => decide (a ≠ c)) (zs.take j)
            rw [List.length_take] at k2
            exact small1000 (by omega)
          · rw [upd_ne (ne_of_none z nD)]
            exact same_new nt _ _ (s3 _ _ z)
          · refine ((t3.but (But.of_same (same_new nt))).but But.upd).add tD ?_
            rw [upd_ne tD, upd_same]
      · rintro G3 ⟨s3, ac, hD, t3⟩
        rw [List.length_map, List.take_length] at t3
        refine ⟨p, D, acc, ac, rfl, rfl, s3 _ _ hp, hD, ?_, fun p2 np2 => ?_⟩
        · rw [tp.1, t3.1, List.length_map]
          have k1 := pairs_len len (ys := zs.take i) (by rw [List.length_take]; omega)
          have k2 := List.length_filter_le (fun c => decide (a ≠ c)) zs
          exact Nat.le_of_lt (small1000 (by omega))
        · have s4 := sG.trans s3
          refine ⟨p2, acc ++ ac, _, _, rfl, s4.trans (same_new np2), s4.free np2, upd_same, ?_⟩
          rw [pairs_take zs i a ha]
          exact ((tp.same s3).append t3.tps).same (same_new np2)
    · rintro σ G ⟨p, acc, v2, v3, rfl, sG, np, hp, tp⟩
      rw [List.length_map, List.take_length] at tp
      exact ⟨_, rfl, q G p acc sG np hp tp⟩
end

def spPick : Sp := fun vs H Q _ => ∃ (a l : Addr) (xs : List V), vs = [.ref a, .ref l] ∧ Pool H a ∧ H l = some (.lst xs) ∧ l ≠ a ∧ 1 ≤ xs.length ∧ xs.length ≤ 1000 ∧ ∀ x H2, x ∈ xs → Pool H2 a → But a H H2 → Q x H2
section
variable {P : Program} {w : World} {K : PySem.W.Frag} {mg : Str → Option Value} {base : Heap}
theorem ok_pick {f fD : Addr} {fd fdD : FuncData} (F : Fun K "_law_pick" "_law_pick" sPick f fd) (GD : FnOk P w K mg base CX0 1 fD fdD ["_law_pool", "_law_many"] spDraw) (kD : PySem.W.keepIn K (.ref fD) = true) (bD : Binds K fdD ["_law_pool", "_law_many"] []) (gD : mg "_law_draw" = some (.ref fD)) (B : Bt mg) :
    FnOk P w K mg base CX0 2 f fd ["_law_pool", "_law_some"] spPick := by
  refine F.ok scPick (fun vs H Q E h => ?_) (fun cdv A outer s H vs Q E hr h => ?_)
  · obtain ⟨a, l, xs, rfl, _⟩ := h
    rfl
  · obtain ⟨a, l, xs, rfl, hP, hl, ne, h1, h2, q⟩ := h
    refine ⟨_, pss_one (ps_ret (pe_ix ix_list (pv 1) (pe_call GD hr (by rfl) gD kD bD .nil pass0 (pa_cons (pv 0) (pa_cons (pe_callB call_len_seq (by rfl) B.len PySem.boot_len (pa_cons (pv 1) pa_nil)) pa_nil))) (fun _ _ => rfl))), ?_⟩
    refine ⟨_, rfl, _, rfl, _, rfl, l, xs, rfl, .inl (SqL.of hl), a, _, rfl, hP, by omega, by omega, fun r H2 r0 r1 hP2 hB => ?_⟩
    have hr2 : r.toNat < xs.length := by omega
    refine ⟨l, xs, r, xs[r.toNat], rfl, rfl, SqL.of (hB _ _ ne hl), ?_, q _ _ (List.getElem_mem hr2) hP2 hB⟩
    obtain ⟨n, rfl⟩ : ∃ n : Nat, r = (n : Int) := ⟨r.toNat, by omega⟩
    exact atI_nat (List.getElem?_eq_getElem hr2)
end

end K04

set_option Elab.async false
set_option linter.all false
set_option maxRecDepth 100000
set_option maxHeartbeats 4000000
/-! C.m(..), m a staticmethod of the class at C. -/
namespace L2
open PySem PySem.Spec PyProof.Rows
/-- C.m is a staticmethod: its record at p, its def at g -/
structure SMet (K : PySem.W.Frag) (C : Addr) (mc : Value) (m : Str) (p g : Addr) : Prop where
  look : PySem.W.findCls K (.ref C) mc m = some (.get (.builtin "staticmethod.__get__") (.ref p) .none (.ref C))
  rcd : ∃ rest, PySem.W.recIn K p "staticmethod" = some (.ref g :: rest)
  keep : PySem.W.keepIn K (.ref g) = true
def tStatic (C : Addr) (sp : Sp) (E : XK) (ta : TE) (t : TA) : TE := fun σ H Q => ta σ H fun x H1 => x = .ref C ∧ t σ H1 fun vs H2 => sp vs H2 Q E
section
variable {X : Cx} {CX : CXT} {k : Nat} {C p g : Addr} {mc : Value} {m : Str} {fd : FuncData} {ps : List Str} {sp : Sp} {E : XK} {apos pos : Pos} {o e : Expr} {es : List Expr} {ta : TE} {t : TA}
theorem pe_static {pl : Sem Bool} (he : PE X o ta) (r : ClX.CRead X.K C mc) (c : SMet X.K C mc m p g) (F : FnOk X.prog X.w X.K X.mg X.base CX k g fd ps sp) (hr : Room k X.A) (hb : Binds X.K fd ps []) (hx : Passes CX X E) (ha : PA X (e :: es) t)
    (hst : starEach (e :: es) X.env = (false, eval e X.env) :: starEach es X.env := by rfl) (hpl : (backTo pos (starEach es X.env)).any (·.1) = false := by rfl)
    (ht : eval (.Call (.Attribute o m apos) (e :: es) [] pos) X.env = (do
      let ov ← eval o X.env
      standAt apos.atName
      let (f, first) ← holding [ov] (getMethod ov m pl)
      callWith pos f first (backTo pos (starEach (e :: es) X.env)) (backToKw pos (keywordEach [] X.env))) := by rfl) :
    PE X (.Call (.Attribute o m apos) (e :: es) [] pos) (tStatic C sp E ta t) := by
  refine ⟨fun pins s σ H Q I h => ?_⟩
  refine PySem.W.methodCall_KW (pl := pl) (thn (he.run pins s σ H _ I h) fun u s1 z => ?_) ht
  obtain ⟨x, H1, I1, rx, rfl, q⟩ := z
  obtain rfl : u = Value.ref C := rx
  obtain ⟨rest, hp⟩ := c.rcd
  refine PySem.W.method_cls I1.kIn r.ga (PySem.W.cls_bind I1.kIn r.rd c.look (wpAny_call (PySem.W.sm_get (s := { s1 with toks := s1.toks + 1 }) I1.kIn hp (PySem.W.handed_on rfl ?_))))
  have I2 : Inv X pins σ H1 { s1 with toks := s1.toks + 1 } := I1.tok _
  refine PySem.W.callWith_K (first := []) (h₀ := X.base) I2.ok.mod.kin c.keep (thn (ha.run pos pins _ σ H1 _ I2 q) fun us s2 z => ?_) hst hpl
  obtain ⟨vs, H2, I3, rv, q2⟩ := z
  exact ⟨I3.kIn, run_fn (ds := []) (dvs := []) (us := us) (vs := vs) F hr hb .nil hx I3 rv (by rw [List.append_nil]; exact q2)⟩
end
end L2

set_option Elab.async false
set_option linter.all false
set_option maxRecDepth 100000
set_option maxHeartbeats 4000000
/-! o[i], o an instance with an own __getitem__. -/
namespace L2
open PySem PySem.Spec PyProof.Rows
def tIxOwn (C : Addr) (sp : Sp) (E : XK) (to ti : TE) : TE := fun σ H Q => to σ H fun x H1 => ti σ H1 fun y H2 => ∃ (a dx : Addr) (fs : List (Str × V)), x = .ref a ∧ H2 a = some (.ins C dx fs) ∧ sp [.ref a, y] H2 Q E
section
variable {X : Cx} {CX : CXT} {k : Nat} {f C : Addr} {fd : FuncData} {ps : List Str} {sp : Sp} {E : XK} {o i : Expr} {pos : Pos} {to ti : TE}
theorem pe_ixOwn (ho : PE X o to) (hi : PE X i ti) (hs : PySem.W.findIn X.K (.ref C) "__getitem__" = some (some (.ref f))) (hfn : PySem.W.fnIn X.K f = true) (hf : PySem.W.isFn X.K (.ref f) = true) (F : FnOk X.prog X.w X.K X.mg X.base CX k f fd ps sp) (hr : Room (k + 1) X.A) (hb : Binds X.K fd ps []) (hx : Passes CX X E)
    (hsl : ∀ x j, subscripted i true (.ref x) j = runValue (.builtin "lifetime.subscript" ⟨[.ref x, j], []⟩) := by intro _ _; with_unfolding_all rfl) : PE X (.Subscript o i pos) (tIxOwn C sp E to ti) := by
  refine ⟨fun pins s σ H Q I h => ?_⟩
  refine Subscript_ (thn (ho.run pins s σ H _ I h) fun u s1 z1 => ?_)
  obtain ⟨x, H1, I1, rx, q1⟩ := z1
  refine thn (hi.run pins s1 σ H1 _ I1 q1) fun v s2 z2 => ?_
  obtain ⟨y, H2, I2, ry, a, dx, fs, rfl, ea, q⟩ := z2
  obtain rfl : u = Value.ref a := rx
  obtain ⟨mA, O, _, _, _, _⟩ := ins_get I2.hok ea
  obtain ⟨od, J, _⟩ := O.look
  obtain ⟨m, hF⟩ := I2.fr
  exact PySem.W.sub_K hF I2.ok.mod.kin J hs hfn hf (run_in1 (vs := [.ref a, y]) (us := [.ref a, v]) F hr hb hx I2 (.cons rfl (.cons ry .nil)) q) (hsl a v)
end
end L2

set_option Elab.async false
set_option linter.all false
set_option maxRecDepth 100000
set_option maxHeartbeats 4000000
namespace K04
open PySem PySem.Spec PyProof.Rows L2
structure Tp (mg : Str → Option Value) : Prop where
  dict : mg "dict" = none
  repr : mg "repr" = none
section
variable {P : Program} {w : World} {K : PySem.W.Frag} {mg : Str → Option Value} {base : Heap} {C CP : Addr}
theorem ok_isMark {f fN : Addr} {fd fdN : FuncData} (F : Fun K "is_mark" "is_mark" sIsMark f fd) (GN : FnOk P w K mg base CX0 2 fN fdN ["value", "least", "most"] (spWithin K)) (kN : PySem.W.keepIn K (.ref fN) = true) (bN : Binds K fdN ["value", "least", "most"] [])
    (gN : mg "is_integer_within" = some (.ref fN)) (cl : Cls K C) (nM : NoAttr K C "most") : FnOk P w K mg base CX0 3 f fd ["crowd", "value"] (spIsMark K C) := by
  refine F.ok scIsMark (fun vs H Q E h => ?_) (fun cdv A outer s H vs Q E hr h => ?_)
  · obtain ⟨c, v, zs, m, rfl, _⟩ := h
    rfl
  · obtain ⟨c, v, zs, m, rfl, hc, ht, q⟩ := h
    obtain ⟨dx, l, hx, hl⟩ := id hc
    refine ⟨_, pss_one (ps_ret (pe_call GN hr (by rfl) gN kN bN .nil pass0 (pa_cons (pv 1) (pa_cons pe_int (pa_cons (pe_fld (pv 0) rfl) pa_nil))))), ?_⟩
    exact ⟨_, rfl, _, rfl, c, C, dx, _, _, rfl, hx, cl, nM, rfl, v, 0, m, rfl, ht, q⟩
theorem ok_isMarkN {f fM : Addr} {fd fdM : FuncData} (F : Fun K "is_mark_or_none" "is_mark_or_none" sIsMarkOrNone f fd) (GM : FnOk P w K mg base CX0 3 fM fdM ["crowd", "value"] (spIsMark K C)) (kM : PySem.W.keepIn K (.ref fM) = true) (bM : Binds K fdM ["crowd", "value"] [])
    (gM : mg "is_mark" = some (.ref fM)) : FnOk P w K mg base CX0 4 f fd ["crowd", "value"] (spIsMarkN K C) := by
  refine F.ok scIsMarkOrNone (fun vs H Q E h => ?_) (fun cdv A outer s H vs Q E hr h => ?_)
  · obtain ⟨c, v, zs, m, rfl, _⟩ := h
    rfl
  · obtain ⟨c, v, zs, m, rfl, hc, ht, q⟩ := h
    refine ⟨_, pss_one (ps_ret (pe_or (pe_cmpR op_isN (pv 1) pe_non (nomark _)) (pe_one (pe_call GM hr (by rfl) gM kM bM .nil pass0 (pa_cons (pv 0) (pa_cons (pv 1) pa_nil)))))), ?_⟩
    unfold mkOk at q
    refine ⟨_, rfl, rfl, _, rfl, ?_⟩
    cases h1 : decide (v = .non) with
    | true =>
      rw [h1, Bool.true_or] at q
      exact iteT q
    | false =>
      rw [h1, Bool.false_or] at q
      exact iteF ⟨_, rfl, _, rfl, c, v, zs, m, rfl, hc, ht, q⟩
theorem ok_areMarks {f fM fPa fIs : Addr} {fd fdM dPa dIs : FuncData} (F : Fun K "are_marks" "are_marks" sAreMarks f fd) (GM : FnOk P w K mg base CX0 4 fM fdM ["crowd", "value"] (spIsMarkN K C)) (kM : PySem.W.keepIn K (.ref fM) = true) (bM : Binds K fdM ["crowd", "value"] [])
    (gM : mg "is_mark_or_none" = some (.ref fM)) (cl : Cls K C) (mPa : Meth K C "pairs" fPa) (GPa : FnOk P w K mg base CX0 1 fPa dPa ["self"] (spCrowdPairs C)) (bPa : Binds K dPa ["self"] [])
    (mIs : Meth K C "is_pair" fIs) (GIs : FnOk P w K mg base CX0 2 fIs dIs ["self", "value"] (spIsPair K C)) (bIs : Binds K dIs ["self", "value"] []) (B : Bt mg) (T : Tx mg) (Z : Tp mg) : FnOk P w K mg base CX0 5 f fd ["crowd", "value"] (spAreMarks C) := by
  refine F.ok scAreMarks (fun vs H Q E h => ?_) (fun cdv A outer s H vs Q E hr h => ?_)
  · obtain ⟨c, d, zs, m, kvs, rfl, _⟩ := h
    rfl
  · obtain ⟨c, d, zs, m, kvs, rfl, hc, z8, ⟨hd, hl, hk⟩, q⟩ := h
    obtain ⟨dx, lp, hx, hlp⟩ := id hc
    refine ⟨_, pss_cons (ps_if (PW.pt (pw_or (pt_not (pt_val (pe_callB call_isi (by rfl) T.isi (by decide +kernel) (pa_cons (pv 1) (pa_cons (pe_bltn (v := .ty "dict") (by rfl) Z.dict (by decide +kernel) rfl) pa_nil)))))
        (pw_or1 (pt_cmpR op_ne (pe_callB call_len_dT (by rfl) B.len PySem.boot_len (pa_cons (pv 1) pa_nil)) (pe_callB call_len_seq (by rfl) B.len PySem.boot_len (pa_cons (pe_meth0 (pv 0) cl mPa GPa (hr.mono (by decide)) bPa .nil pass0) pa_nil)) (nomark _))))) (pss_one (ps_ret pe_bl)) pss_nil)
      (pss_one (ps_ret (pe_callB (cr_all rfl) (by rfl) T.all (by decide +kernel) (pa_cons (pe_lock (pe_lc (own := [("pair", 2), ("mark", 3)]) (g := gTup K 2 (gCons (gName 2) (gCons (gName 3) gNil))) (by rfl) scAreMarks.nd (pi_itemsT (pv 1)) (blkOk_by (own := [("pair", 2), ("mark", 3)]) (N := ["crowd", "value", "pair", "mark"]) (sc := defScope sAreMarks) (by decide +kernel))
        (fun _ _ _ _ _ => by exact pg_tup rfl (pgs_cons (pg_name (i := 2) scAreMarks.nd rfl (Or.inl rfl)) (pgs_cons (pg_name (i := 3) scAreMarks.nd rfl (Or.inl rfl)) pgs_nil))) (fun _ _ _ _ _ => pts_nil)
        (fun _ _ _ _ _ => pe_and (pe_meth (pv 0) cl mIs GIs (Room.mono (by exact hr) (by decide)) bIs .nil pass0 (pa_cons (pv 2) pa_nil)) (pe_one (pe_call GM (by exact hr) (by rfl) gM kM bM .nil pass0 (pa_cons (pv 0) (pa_cons (pv 3) pa_nil))))))) pa_nil)))), ?_⟩
    refine ⟨_, rfl, .ref d, .ty "dict", _, _, _, rfl, .ty "dict", .base (.dT hd), kit_ty (kit_dict (by decide)), _, rfl, ?_⟩
    refine iteF ⟨_, rfl, d, kvs, rfl, hd, _, rfl, c, dx, _, rfl, hx, rfl, c, zs, m, rfl, hc, z8, fun H1 p1 ys1 s1 n1 h1 t1 => ?_⟩
    refine ⟨p1, ys1, rfl, .inl (SqL.of h1), rfl, _, rfl, ?_⟩
    rw [show decide (V.int ((kvs.length : Nat) : Int) = V.int ((ys1.length : Nat) : Int)) = true from decide_eq_true (by rw [hl, t1.1])]
    refine iteF ?_
    have hd1 := s1 _ _ hd
    have hx1 := s1 _ _ hx
    have hlp1 := s1 _ _ hlp
    have k64 : kvs.length ≤ 64 := by
      rw [hl]
      exact pairs_len z8 z8
    refine ⟨d, _, hd1, trivial, fun od => ?_⟩
    have dL : upd H1 d (.frz od (.dT kvs)) d = some (.frz od (.dT kvs)) := upd_same
    have bL : But d H1 (upd H1 d (.frz od (.dT kvs))) := But.upd
    have un : ∀ G, Same (upd H1 d (.frz od (.dT kvs))) G → Same H (upd G d (.dT kvs)) := fun G sG => s1.trans (unlock_same hd1 sG)
    generalize upd H1 d (.frz od (.dT kvs)) = HL at dL bL un
    have xL := bL _ _ (ne_of hx1 hd1 (fun z => nomatch z)) hx1
    have lL := bL _ _ (ne_of hlp1 hd1 (fun z => nomatch z)) hlp1
    refine ⟨_, rfl, d, od, kvs, rfl, dL, fun D nD => ?_⟩
    refine nest_it walk_itemsT (fun i G => Same HL G ∧ G D = some (.lst (List.replicate i (.bl true)))) ⟨same_new nD, upd_same⟩ (fun i G _ h => h.1 _ _ dL) ?_ ?_
    · rintro i y G G2 hi ⟨sG, hD⟩ ⟨t, k, v, q0, hkv, rfl, nT, hq, rfl⟩
      obtain ⟨⟨p, hp, rfl⟩, mk⟩ := hk _ (List.mem_of_getElem? hkv)
      have nTD : D ≠ t := ne_of_none hD nT
      have s2 : Same G (upd G t (.tup [.ref q0, v])) := same_new nT
      refine ⟨t, _, rfl, SqT.of upd_same, rfl, _, _, rfl, _, _, rfl, rfl, rfl, ?_⟩
      refine ⟨_, rfl, c, dx, _, rfl, s2 _ _ (sG _ _ xL), rfl, _, rfl, c, _, zs, m, _, rfl, ⟨dx, lp, s2 _ _ (sG _ _ xL), s2 _ _ (sG _ _ lL)⟩, .two (a := .str p.1) (b := .str p.2) (s2 _ _ hq) (S := "str") (T := "str") ⟨.base (.str _), by decide⟩ ⟨.base (.str _), by decide⟩, ?_⟩
      rw [isPair_true hp]
      refine ⟨_, rfl, iteT ⟨_, rfl, _, rfl, c, v, zs, m, rfl, ⟨dx, lp, s2 _ _ (sG _ _ xL), s2 _ _ (sG _ _ lL)⟩, mkOk_ty mk, ?_⟩⟩
      rw [show mkOk m v = true from mk]
      refine ⟨_, by rw [upd_ne nTD]; exact hD, by rw [List.length_replicate]; exact small1000 (by omega), fun b o e => ?_, ?_⟩
      · rw [upd_ne (ne_of_none e nD)]
        exact s2 _ _ (sG _ _ e)
      · rw [upd_same, List.replicate_succ']
    rintro G ⟨sG, hD⟩
    refine ⟨sG _ _ dL, D, List.replicate kvs.length true, rfl, ?_, ?_⟩
    · have nd : D ≠ d := ne_of hD (sG _ _ dL) (fun z => nomatch z)
      rw [List.map_replicate]
      exact SqL.of (by rw [upd_ne nd]; exact hD)
    · rw [show (List.replicate kvs.length true).all id = true by rw [List.all_eq_true]; intro x hx; exact List.eq_of_mem_replicate hx]
      exact q _ (un G sG)
end
end K04

set_option Elab.async false
set_option linter.all false
set_option maxRecDepth 100000
set_option maxHeartbeats 4000000
namespace K04
open PySem PySem.Spec PyProof.Rows L2
section
variable {P : Program} {w : World} {K : PySem.W.Frag} {mg : Str → Option Value} {base : Heap} {C CP : Addr}
theorem ok_needCrowd {f : Addr} {fd : FuncData} (F : Fun K "need_crowd" "need_crowd" sNeedCrowd f fd) (gC : mg "Crowd" = some (.ref C)) (k1 : PySem.W.kitOne K (.ref C) (.ref C) = some true) (io : IsOwn K C) (T : Tx mg) : FnOk P w K mg base CX0 1 f fd ["crowd"] (spNeedCrowd C) := by
  refine F.ok scNeedCrowd (fun vs H Q E h => ?_) (fun cdv A outer s H vs Q E hr h => ?_)
  · obtain ⟨c, zs, m, rfl, _⟩ := h
    rfl
  · obtain ⟨c, zs, m, rfl, ⟨dx, l, hx, hl⟩, q⟩ := h
    refine ⟨_, pss_one (ps_if (pt_not (pt_val (pe_callB call_isi (by rfl) T.isi (by decide +kernel) (pa_cons (pv 0) (pa_cons (pe_glob (v := .ref C) (by rfl) gC rfl) pa_nil))))) pss_never pss_nil), ?_⟩
    exact ⟨_, rfl, .ref c, .ref C, _, _, _, rfl, .own C, io.ty hx, k1, _, rfl, iteF q⟩
theorem ok_pageInit {f fNC fAM fPa : Addr} {fd dNC dAM dPa : FuncData} (F : Fun K "__init__" "Page.__init__" sPageInit f fd) (GNC : FnOk P w K mg base CX0 1 fNC dNC ["crowd"] (spNeedCrowd C)) (kNC : PySem.W.keepIn K (.ref fNC) = true) (bNC : Binds K dNC ["crowd"] []) (gNC : mg "need_crowd" = some (.ref fNC))
    (GAM : FnOk P w K mg base CX0 5 fAM dAM ["crowd", "value"] (spAreMarks C)) (kAM : PySem.W.keepIn K (.ref fAM) = true) (bAM : Binds K dAM ["crowd", "value"] []) (gAM : mg "are_marks" = some (.ref fAM))
    (cl : Cls K C) (mPa : Meth K C "pairs" fPa) (GPa : FnOk P w K mg base CX0 1 fPa dPa ["self"] (spCrowdPairs C)) (bPa : Binds K dPa ["self"] []) (clP : Cls K CP) (nC : NoAttr K CP "crowd") (nM : NoAttr K CP "_marks") : FnOk P w K mg base CX0 6 f fd ["self", "crowd", "marks"] (spPageInit C CP) := by
  refine F.ok scPageInit (fun vs H Q E h => ?_) (fun cdv A outer s H vs Q E hr h => ?_)
  · obtain ⟨x, dx, c, d, zs, m, kvs, rfl, _⟩ := h
    rfl
  · obtain ⟨x, dx, c, d, zs, m, kvs, rfl, hx, hc, z8, nd, hM, hA, q⟩ := h
    obtain ⟨dc, lc, hcx, hcl⟩ := id hc
    have hu1 : (A.deeper (envOfC "Page.__init__" (defScope sPageInit) s.heap.objs.size f cdv)).units + 1 < cLine := by
      have := hr.units
      omega
    refine ⟨_, pss_cons (ps_expr (pe_call GNC (hr.mono (by decide)) (by rfl) gNC kNC bNC .nil pass0 (pa_cons (pv 1) pa_nil)))
      (pss_cons (ps_if (pt_not (pt_val (pe_call GAM (hr.mono (by decide)) (by rfl) gAM kAM bAM .nil pass0 (pa_cons (pv 1) (pa_cons (pv 2) pa_nil))))) pss_never pss_nil)
      (pss_cons (ps_fld (pv 0) (pv 1) rfl)
      (pss_one (ps_fld (pv 0) (pe_dcT (own := [("pair", 3)]) (g := gName 3) (by exact hu1) (by rfl) scPageInit.nd (pi_list (pe_meth0 (pv 1) cl mPa GPa (hr.mono (by decide)) bPa .nil pass0)) (blkOk_by (own := [("pair", 3)]) (N := ["self", "crowd", "marks", "pair"]) (sc := defScope sPageInit) (by decide +kernel))
        (fun _ _ _ _ _ => pg_name (i := 3) scPageInit.nd rfl (Or.inl rfl)) (fun _ _ _ _ _ => pts_nil) (fun _ _ _ _ _ => pv 3) (fun _ _ _ _ _ => pe_dget (by exact hu1) (pv 2) (pv 3) (fun _ _ => rfl))) rfl)))), ?_⟩
    refine ⟨_, rfl, c, zs, m, rfl, hc, ?_⟩
    refine ⟨_, rfl, _, rfl, c, d, zs, m, kvs, rfl, hc, z8, hM, fun H1 s1 => ⟨true, rfl, iteF ?_⟩⟩
    have hx1 := s1 _ _ hx
    refine ⟨_, rfl, _, rfl, x, CP, dx, [], rfl, hx1, clP, nC, (by show 0 < 1000; decide), ?_⟩
    have cx : x ≠ c := ne_of hx hcx (fun z => by
      injection z with _ _ z
      cases z)
    have lx : lc ≠ x := ne_of hcl hx (fun z => nomatch z)
    have dxx : d ≠ x := ne_of hM.1 hx (fun z => nomatch z)
    generalize e2 : upd H1 x _ = H2
    have b2 : But x H1 H2 := e2 ▸ But.upd
    have hx2 : H2 x = some (.ins CP dx (putF "crowd" (.ref c) [])) := e2 ▸ upd_same
    have c2 : CrowdOf H2 C c zs m := ⟨dc, lc, b2 _ _ cx.symm (s1 _ _ hcx), b2 _ _ lx (s1 _ _ hcl)⟩
    have d2 := b2 _ _ dxx (s1 _ _ hM.1)
    refine ⟨_, rfl, c, dc, _, rfl, b2 _ _ cx.symm (s1 _ _ hcx), rfl, c, zs, m, rfl, c2, z8, fun H3 p3 ys s3 n3 h3 t3 => ?_⟩
    refine ⟨p3, rfl, ⟨_, SqL.of h3⟩, fun D nD => ?_⟩
    have len : ys.length = (pairsOf zs).length := t3.1
    have d3 := s3 _ _ d2
    refine nest_it (walk_list (K := K) (a := p3) (xs := ys)) (fun i G => Same H3 G ∧ G D = some (.dT ((sheetOf zs fun p => (valV kvs (key2 p)).getD .non).take i))) ⟨same_new nD, upd_same⟩ (fun i G _ h => SqL.of (h.1 _ _ h3)) ?_ ?_
    · rintro i y G G2 hi ⟨sG, hD⟩ ⟨rfl, hy⟩
      have hi2 : i < (pairsOf zs).length := by omega
      have hp := List.getElem?_eq_getElem hi2
      have hmem := List.getElem_mem hi2
      generalize (pairsOf zs)[i] = p at hp hmem
      obtain ⟨t, rfl, _, ht⟩ := t3.2 i y p hy hp
      obtain ⟨v, hv⟩ := hA p hmem
      have gt := DGet.t (sG _ _ d3) (k := key2 p) (sG _ _ ht)
      rw [hv] at gt
      refine ⟨rfl, _, rfl, _, rfl, _, rfl, d, v, rfl, gt, _, key2 p, t, rfl, sG _ _ ht, hD, ?_, fun b o e => ?_, ?_⟩
      · rw [List.length_take]
        exact Nat.lt_of_le_of_lt (Nat.min_le_left _ _) (small1000 (by have : (pairsOf zs).length ≤ 64 := pairs_len z8 z8; omega))
      · rw [upd_ne (ne_of_none e nD)]
        exact sG _ _ e
      · have at_ : (sheetOf zs fun p => (valV kvs (key2 p)).getD .non)[i]? = some (key2 p, (valV kvs (key2 p)).getD .non) := sheet_at hp
        rw [hv] at at_
        rw [upd_same]
        exact congrArg (fun z => some (HO.dT z)) (put_take (sheet_nodup nd _) at_)
    rintro G ⟨sG, hD⟩
    rw [len, ← sheet_len (f := fun p => (valV kvs (key2 p)).getD .non), List.take_length] at hD
    have hxG := sG _ _ (s3 _ _ hx2)
    have nDx : D ≠ x := ne_of hD hxG (fun z => nomatch z)
    refine ⟨_, rfl, x, CP, dx, _, rfl, hxG, clP, nM, (by show 1 < 1000; decide), ?_⟩
    refine q _ dx D ?_ (s1.free ?_) (by rw [upd_same]; exact congrArg (fun z => some (HO.ins CP dx z)) page_put) (by rw [upd_ne nDx]; exact hD)
    · exact (((But.of_same s1).trans b2).trans (But.of_same (s3.trans sG))).trans But.upd
    · have nD2 := s3.free nD
      rw [← e2, upd_ne nDx] at nD2
      exact nD2
end
end K04

set_option Elab.async false
set_option linter.all false
set_option maxRecDepth 100000
set_option maxHeartbeats 4000000
namespace K04
open PySem PySem.Spec PyProof.Rows L2
section
variable {P : Program} {w : World} {K : PySem.W.Frag} {mg : Str → Option Value} {base : Heap} {C CP : Addr}
theorem ok_pageMarks {fA : Addr} {fd : FuncData} (F : Fun K "marks" "Page.marks" sPageMarks fA fd) (clP : Cls K CP) (nM : NoAttr K CP "_marks") : FnOk P w K mg base CX0 1 fA fd ["self"] (spPageMarks C CP) := by
  refine F.ok scPageMarks (fun vs H Q E h => ?_) (fun cdv A outer s H vs Q E hr h => ?_)
  · obtain ⟨x, zs, m, f, rfl, _⟩ := h
    rfl
  · obtain ⟨x, zs, m, f, rfl, ⟨dx, c, d, hx, hc, hd⟩, z8, nd, q⟩ := h
    have hu1 : (A.deeper (envOfC "Page.marks" (defScope sPageMarks) s.heap.objs.size fA cdv)).units + 1 < cLine := by
      have := hr.units
      omega
    refine ⟨_, pss_one (ps_ret (pe_lock (pe_dcT (own := [("pair", 1), ("mark", 2)]) (g := gTup K 2 (gCons (gName 1) (gCons (gName 2) gNil))) (by exact hu1) (by rfl) scPageMarks.nd (pi_itemsT (pe_fld (pv 0) rfl)) (blkOk_by (own := [("pair", 1), ("mark", 2)]) (N := ["self", "pair", "mark"]) (sc := defScope sPageMarks) (by decide +kernel))
      (fun _ _ _ _ _ => by exact pg_tup rfl (pgs_cons (pg_name (i := 1) scPageMarks.nd rfl (Or.inl rfl)) (pgs_cons (pg_name (i := 2) scPageMarks.nd rfl (Or.inl rfl)) pgs_nil))) (fun _ _ _ _ _ => pts_nil) (fun _ _ _ _ _ => pv 1) (fun _ _ _ _ _ => pv 2)))), ?_⟩
    have l64 : (pairsOf zs).length ≤ 64 := pairs_len z8 z8
    refine ⟨d, _, hd, trivial, fun od => ?_⟩
    have dL : upd H d (.frz od (.dT (sheetOf zs f))) d = some (.frz od (.dT (sheetOf zs f))) := upd_same
    have bL : But d H (upd H d (.frz od (.dT (sheetOf zs f)))) := But.upd
    have un : ∀ G, Same (upd H d (.frz od (.dT (sheetOf zs f)))) G → Same H (upd G d (.dT (sheetOf zs f))) := fun G sG => unlock_same hd sG
    have nf : ∀ b, upd H d (.frz od (.dT (sheetOf zs f))) b = none → H b = none := fun b e => by
      by_cases h : b = d
      · rw [h, upd_same] at e
        cases e
      · rw [upd_ne h] at e
        exact e
    generalize upd H d (.frz od (.dT (sheetOf zs f))) = HL at dL bL un nf
    have xL := bL _ _ (ne_of hx hd (fun z => nomatch z)) hx
    refine ⟨_, rfl, x, CP, dx, _, _, rfl, xL, clP, nM, rfl, d, od, _, rfl, dL, fun D nD => ?_⟩
    refine nest_it walk_itemsT (fun i G => Same HL G ∧ G D = some (.dT ((sheetOf zs f).take i))) ⟨same_new nD, upd_same⟩ (fun i G _ h => h.1 _ _ dL) ?_ ?_
    · rintro i y G G2 hi ⟨sG, hD⟩ ⟨t, k, v, q0, hkv, rfl, nT, hq, rfl⟩
      have nTD : D ≠ t := ne_of_none hD nT
      have s2 : Same G (upd G t (.tup [.ref q0, v])) := same_new nT
      refine ⟨t, _, rfl, SqT.of upd_same, rfl, _, _, rfl, _, _, rfl, rfl, rfl, ?_⟩
      refine ⟨_, rfl, _, rfl, _, k, q0, rfl, s2 _ _ hq, by rw [upd_ne nTD]; exact hD, ?_, fun b o e => ?_, ?_⟩
      · rw [List.length_take]
        exact Nat.lt_of_le_of_lt (Nat.min_le_left _ _) (small1000 (by rw [sheet_len] at hi; omega))
      · rw [upd_ne (ne_of_none e nD)]
        exact s2 _ _ (sG _ _ e)
      · rw [upd_same, put_take (sheet_nodup nd f) hkv]
    rintro G ⟨sG, hD⟩
    rw [List.take_length] at hD
    have nDd : D ≠ d := ne_of hD (sG _ _ dL) (fun z => nomatch z)
    exact ⟨sG _ _ dL, q _ D (un G sG) (nf D nD) (by rw [upd_ne nDd]; exact hD)⟩
theorem ok_pageFull {fA : Addr} {fd : FuncData} (F : Fun K "is_full" "Page.is_full" sPageIsFull fA fd) (clP : Cls K CP) (nM : NoAttr K CP "_marks") (T : Tx mg) : FnOk P w K mg base CX0 1 fA fd ["self"] (spPageFull C CP) := by
  refine F.ok scPageIsFull (fun vs H Q E h => ?_) (fun cdv A outer s H vs Q E hr h => ?_)
  · obtain ⟨x, zs, m, f, rfl, _⟩ := h
    rfl
  · obtain ⟨x, zs, m, f, rfl, ⟨dx, c, d, hx, hc, hd⟩, z8, q⟩ := h
    refine ⟨_, pss_one (ps_ret (pe_callB (cr_all rfl) (by rfl) T.all (by decide +kernel) (pa_cons (pe_lock (pe_lc (own := [("mark", 1)]) (g := gName 1) (by rfl) scPageIsFull.nd (pi_valuesT (pe_fld (pv 0) rfl)) (blkOk_by (own := [("mark", 1)]) (N := ["self", "mark"]) (sc := defScope sPageIsFull) (by decide +kernel))
      (fun _ _ _ _ _ => pg_name (i := 1) scPageIsFull.nd rfl (Or.inl rfl)) (fun _ _ _ _ _ => pts_nil) (fun _ _ _ _ _ => pe_cmpR op_notN (pv 1) pe_non (nomark _)))) pa_nil))), ?_⟩
    have l64 : (pairsOf zs).length ≤ 64 := pairs_len z8 z8
    refine ⟨d, _, hd, trivial, fun od => ?_⟩
    have dL : upd H d (.frz od (.dT (sheetOf zs f))) d = some (.frz od (.dT (sheetOf zs f))) := upd_same
    have bL : But d H (upd H d (.frz od (.dT (sheetOf zs f)))) := But.upd
    have un : ∀ G, Same (upd H d (.frz od (.dT (sheetOf zs f)))) G → Same H (upd G d (.dT (sheetOf zs f))) := fun G sG => unlock_same hd sG
    generalize upd H d (.frz od (.dT (sheetOf zs f))) = HL at dL bL un
    have xL := bL _ _ (ne_of hx hd (fun z => nomatch z)) hx
    refine ⟨_, rfl, x, CP, dx, _, _, rfl, xL, clP, nM, rfl, d, od, _, rfl, dL, fun D nD => ?_⟩
    refine nest_it walk_valuesT (fun i G => Same HL G ∧ G D = some (.lst ((((sheetOf zs f).take i).map fun e => !decide (e.2 = .non)).map V.bl))) ⟨same_new nD, upd_same⟩ (fun i G _ h => h.1 _ _ dL) ?_ ?_
    · rintro i y G G2 hi ⟨sG, hD⟩ ⟨rfl, k, hkv⟩
      refine ⟨rfl, _, rfl, rfl, _, hD, ?_, fun b o e => ?_, ?_⟩
      · rw [List.length_map, List.length_map, List.length_take]
        exact Nat.lt_of_le_of_lt (Nat.min_le_left _ _) (small1000 (by rw [sheet_len] at hi; omega))
      · rw [upd_ne (ne_of_none e nD)]
        exact sG _ _ e
      · rw [upd_same, List.take_add_one, hkv, List.map_append, List.map_append]
        rfl
    rintro G ⟨sG, hD⟩
    rw [List.take_length] at hD
    have nDd : D ≠ d := ne_of hD (sG _ _ dL) (fun z => nomatch z)
    refine ⟨sG _ _ dL, D, _, rfl, SqL.of (by rw [upd_ne nDd]; exact hD), ?_⟩
    rw [show (((sheetOf zs f).map fun e => !decide (e.2 = .non)).all id) = fullB zs f by unfold sheetOf fullB; rw [List.map_map, List.all_map]; rfl]
    exact q _ (un G sG)
def spNeedPair (C : Addr) : Sp := fun vs H Q _ => ∃ (c t : Addr) (zs : List Str) (m : Int) (p : Str × Str), vs = [.ref c, .ref t] ∧ CrowdOf H C c zs m ∧ p ∈ pairsOf zs ∧ H t = some (.tup [.str p.1, .str p.2]) ∧ Q .non H
theorem ok_needPair {fA fIs : Addr} {fd dIs : FuncData} (F : Fun K "need_pair" "need_pair" sNeedPair fA fd) (cl : Cls K C) (mIs : Meth K C "is_pair" fIs) (GIs : FnOk P w K mg base CX0 2 fIs dIs ["self", "value"] (spIsPair K C)) (bIs : Binds K dIs ["self", "value"] []) :
    FnOk P w K mg base CX0 3 fA fd ["crowd", "pair"] (spNeedPair C) := by
  refine F.ok scNeedPair (fun vs H Q E h => ?_) (fun cdv A outer s H vs Q E hr h => ?_)
  · obtain ⟨c, t, zs, m, p, rfl, _⟩ := h
    rfl
  · obtain ⟨c, t, zs, m, p, rfl, hc, hp, ht, q⟩ := h
    obtain ⟨dc, lc, hcx, hcl⟩ := id hc
    refine ⟨_, pss_one (ps_if (pt_not (pt_val (pe_meth (pv 0) cl mIs GIs hr bIs .nil pass0 (pa_cons (pv 1) pa_nil)))) pss_never pss_nil), ?_⟩
    refine ⟨_, rfl, c, dc, _, rfl, hcx, rfl, _, rfl, c, _, zs, m, _, rfl, hc, .two ht (S := "str") (T := "str") ⟨.base (.str _), by decide⟩ ⟨.base (.str _), by decide⟩, ?_⟩
    rw [isPair_true hp]
    exact ⟨true, rfl, iteF q⟩
theorem ok_pageGet {fA fNP : Addr} {fd dNP : FuncData} (F : Fun K "__getitem__" "Page.__getitem__" sPageGetitem fA fd) (GNP : FnOk P w K mg base CX0 3 fNP dNP ["crowd", "pair"] (spNeedPair C)) (kNP : PySem.W.keepIn K (.ref fNP) = true) (bNP : Binds K dNP ["crowd", "pair"] []) (gNP : mg "need_pair" = some (.ref fNP))
    (clP : Cls K CP) (nC : NoAttr K CP "crowd") (nM : NoAttr K CP "_marks") : FnOk P w K mg base CX0 4 fA fd ["self", "at"] (spPageGet C CP) := by
  refine F.ok scPageGetitem (fun vs H Q E h => ?_) (fun cdv A outer s H vs Q E hr h => ?_)
  · obtain ⟨x, t, zs, m, f, p, rfl, _⟩ := h
    rfl
  · obtain ⟨x, t, zs, m, f, p, rfl, ⟨dx, c, d, hx, hc, hd⟩, hp, ht, q⟩ := h
    have hu1 : (A.deeper (envOfC "Page.__getitem__" (defScope sPageGetitem) s.heap.objs.size fA cdv)).units + 1 < cLine := by
      have := hr.units
      omega
    obtain ⟨dc, lc, hcx, hcl⟩ := id hc
    refine ⟨_, pss_cons (ps_expr (pe_call GNP (hr.mono (by decide)) (by rfl) gNP kNP bNP .nil pass0 (pa_cons (pe_fld (pv 0) rfl) (pa_cons (pv 1) pa_nil))))
      (pss_one (ps_ret (pe_dget (by exact hu1) (pe_fld (pv 0) rfl) (pv 1) (fun _ _ => rfl)))), ?_⟩
    refine ⟨_, rfl, x, CP, dx, _, _, rfl, hx, clP, nC, rfl, _, rfl, c, t, zs, m, p, rfl, hc, hp, ht, ?_⟩
    have gt := DGet.t hd (k := key2 p) ht
    rw [valV_sheet hp] at gt
    exact ⟨_, rfl, x, CP, dx, _, _, rfl, hx, clP, nM, rfl, _, rfl, d, _, rfl, gt, q⟩
end
end K04

set_option Elab.async false
set_option linter.all false
set_option maxRecDepth 100000
set_option maxHeartbeats 4000000
namespace K04
open PySem PySem.Spec PyProof.Rows L2
section
variable {P : Program} {w : World} {K : PySem.W.Frag} {mg : Str → Option Value} {base : Heap} {C CP CN : Addr}
theorem ok_pageEq {fA fEq : Addr} {fd dEq : FuncData} (F : Fun K "__eq__" "Page.__eq__" sPageEq fA fd) (gP : mg "Page" = some (.ref CP)) (k1 : PySem.W.kitOne K (.ref CP) (.ref CP) = some true) (k2 : PySem.W.kitOne K (.type "dict") (.ref CP) = some false) (k3 : PySem.W.kitOne K (.ref C) (.ref CP) = some false)
    (ioP : IsOwn K CP) (io : IsOwn K C) (hsEq : PySem.W.findIn K (.ref C) "__eq__" = some (some (.ref fEq))) (hfEq : PySem.W.isFn K (.ref fEq) = true) (GEq : FnOk P w K mg base CX0 1 fEq dEq ["self", "other"] (spCrowdEq K C)) (bEq : Binds K dEq ["self", "other"] []) (nfC : PySem.W.notFirst K C (.ref C) = true)
    (clP : Cls K CP) (nC : NoAttr K CP "crowd") (nM : NoAttr K CP "_marks") (T : Tx mg) : FnOk P w K mg base CX0 2 fA fd ["self", "other"] (spPageEq C CP) := by
  refine F.ok scPageEq (fun vs H Q E h => ?_) (fun cdv A outer s H vs Q E hr h => ?_)
  · obtain ⟨x, y, zs, m, f, rfl, _⟩ := h
    rfl
  · obtain ⟨x, y, zs, m, f, rfl, ⟨dx, c, d, hx, hc, hd⟩, nd, oz, mk, h⟩ := h
    have hu2 : (A.deeper (envOfC "Page.__eq__" (defScope sPageEq) s.heap.objs.size fA cdv)).units + 2 < cLine := by
      have := hr.units
      omega
    refine ⟨_, pss_one (ps_ret (pe_and (pe_callB call_isi (by rfl) T.isi (by decide +kernel) (pa_cons (pv 1) (pa_cons (pe_glob (v := .ref CP) (by rfl) gP rfl) pa_nil)))
      (pe_and (pe_cmpR (op_eqOwn (E := fun _ _ _ => False) hsEq hfEq GEq hr bEq pass0) (pe_fld (pv 0) rfl) (pe_fld (pv 1) rfl) (nomark _)) (pe_one (pe_cmpR (op_eqT (by exact hu2)) (pe_fld (pv 0) rfl) (pe_fld (pv 1) rfl) (nomark _)))))), ?_⟩
    rcases h with ⟨ys, n, g, ⟨dy, c2, d2, hy, hc2, hd2⟩, oy, mk2, q⟩ | ⟨⟨kvs, hy⟩, q⟩ | ⟨⟨ys, n, ⟨dy, l2, hy, _⟩⟩, q⟩
    · refine ⟨_, rfl, .ref y, .ref CP, _, _, _, rfl, .own CP, ioP.ty hy, k1, _, rfl, iteT ?_⟩
      refine ⟨_, rfl, x, CP, dx, _, _, rfl, hx, clP, nC, rfl, _, rfl, y, CP, dy, _, _, rfl, hy, clP, nC, rfl, rd_eqC nfC hc hc2 oz oy ⟨_, rfl, ?_⟩⟩
      cases e1 : decide (m = n) with
      | false =>
        rw [e1, Bool.false_and] at q
        exact iteF q
      | true =>
        rw [e1, Bool.true_and] at q
        cases e2 : decide (zs = ys) with
        | false =>
          rw [e2, Bool.false_and] at q
          exact iteF q
        | true =>
          rw [e2, Bool.true_and] at q
          have e3 := of_decide_eq_true e2
          subst e3
          refine iteT ⟨_, rfl, x, CP, dx, _, _, rfl, hx, clP, nM, rfl, _, rfl, y, CP, dy, _, _, rfl, hy, clP, nM, rfl, d, d2, _, _, rfl, rfl, hd, hd2, sheet_mk mk, sheet_mk mk2, ?_⟩
          rw [Bool.false_xor, same_sheets nd]
          exact q
    · exact ⟨_, rfl, .ref y, .ref CP, _, _, _, rfl, .own CP, .base (.dT hy), k2, _, rfl, iteF q⟩
    · exact ⟨_, rfl, .ref y, .ref CP, _, _, _, rfl, .own CP, io.ty hy, k3, _, rfl, iteF q⟩
theorem ok_pageRow {fA fNp fPe pP : Addr} {fd dNp dPe : FuncData} (F : Fun K "row" "Page.row" sPageRow fA fd) (GNp : FnOk P w K mg base (L2.CX P w) 3 fNp dNp ["crowd", "person"] (spNeed K C CN)) (kNp : PySem.W.keepIn K (.ref fNp) = true) (bNp : Binds K dNp ["crowd", "person"] []) (gNp : mg "need_person" = some (.ref fNp))
    (cl : Cls K C) (pp : PropOf K C "people" pP fPe) (GPe : FnOk P w K mg base CX0 1 fPe dPe ["self"] (spCrowdPeople C)) (bPe : Binds K dPe ["self"] []) (clP : Cls K CP) (nC : NoAttr K CP "crowd") (nM : NoAttr K CP "_marks") :
    FnOk P w K mg base CX0 4 fA fd ["self", "person"] (spPageRow C CP) := by
  refine F.ok scPageRow (fun vs H Q E h => ?_) (fun cdv A outer s H vs Q E hr h => ?_)
  · obtain ⟨x, zs, m, f, a, rfl, _⟩ := h
    rfl
  · obtain ⟨x, zs, m, f, a, rfl, ⟨dx, c, d, hx, hc, hd⟩, nd, z8, ha, q⟩ := h
    have hu1 : (A.deeper (envOfC "Page.row" (defScope sPageRow) s.heap.objs.size fA cdv)).units + 1 < cLine := by
      have := hr.units
      omega
    obtain ⟨dc, lc, hcx, hcl⟩ := id hc
    refine ⟨_, pss_cons (ps_expr (pe_call (E := fun _ _ _ => False) GNp hr (by rfl) gNp kNp bNp .nil (passes_call LamX.takes0 fun _ _ _ _ z => z) (pa_cons (pe_fld (pv 0) rfl) (pa_cons (pv 1) pa_nil))))
      (pss_one (ps_ret (pe_dc (own := [("other", 2)]) (g := gName 2) (by rfl) scPageRow.nd (pi_list (pe_prop (pe_fld (pv 0) rfl) cl pp GPe (hr.mono (by decide)) bPe .nil pass0 rfl)) (blkOk_by (own := [("other", 2)]) (N := ["self", "person", "other"]) (sc := defScope sPageRow) (by decide +kernel))
        (fun _ _ _ _ _ => pg_name (i := 2) scPageRow.nd rfl (Or.inl rfl)) (fun _ _ _ _ _ => pts_one (pt_cmpR op_ne (pv 2) (pv 1) (nomark _))) (fun _ _ _ _ _ => pv 2)
        (fun _ _ _ _ _ => pe_dget (td := tFld K (tVar 0) "_marks") (ty := tTup (tCons (tVar 1) (tCons (tVar 2) tNil))) (by exact hu1) (by exact pe_fld (pv 0) rfl) (by exact pe_tup (pa_cons (pv 1) (pa_cons (pv 2) pa_nil))) (fun _ _ => rfl))))), ?_⟩
    refine ⟨_, rfl, x, CP, dx, _, _, rfl, hx, clP, nC, rfl, _, rfl, c, .str a, zs, m, "str", rfl, hc, ⟨.base (.str _), by decide⟩, fun _ => ?_, fun z => ?_⟩
    · refine ⟨_, rfl, x, CP, dx, _, _, rfl, hx, clP, nC, rfl, c, dc, _, rfl, hcx, c, zs, m, rfl, hc, by omega, fun H1 p1 s1 n1 h1 => ?_⟩
      refine ⟨p1, rfl, ⟨_, SqL.of h1⟩, fun D nD => ?_⟩
      have hx1 := s1 _ _ hx
      have hd1 := s1 _ _ hd
      refine nest_it (walk_list (K := K) (a := p1) (xs := zs.map V.str)) (fun i G => Same H1 G ∧ G D = some (.dK (rowK (zs.take i) f a))) ⟨same_new nD, upd_same⟩ (fun i G _ h => SqL.of (h.1 _ _ h1)) ?_ ?_
      · rintro i y G G2 hi ⟨sG, hD⟩ ⟨rfl, hy⟩
        rw [List.getElem?_map] at hy
        cases hb : zs[i]? with
        | none =>
          rw [hb] at hy
          cases hy
        | some b =>
          rw [hb] at hy
          obtain rfl := Option.some.inj hy
          have hbm := List.mem_of_getElem? hb
          refine ⟨rfl, _, rfl, _, rfl, rfl, _, rfl, ?_⟩
          by_cases hab : a = b
          · subst hab
            rw [show (!decide (V.str a = V.str a)) = false by rw [decide_eq_true rfl]; rfl]
            refine iteF ⟨sG, ?_⟩
            rw [rowK_take zs f a a i hb, if_neg (by simp), List.append_nil]
            exact hD
          · rw [show (!decide (V.str b = V.str a)) = true by rw [decide_eq_false (fun z => hab (V.str.inj z).symm)]; rfl]
            refine iteT ⟨_, rfl, _, rfl, x, CP, dx, _, _, rfl, sG _ _ hx1, clP, nM, rfl, _, rfl, _, rfl, (by show 2 ≤ sizeLine; decide), fun t nt => ?_⟩
            have s2 : Same G2 (upd G2 t (.tup [.str a, .str b])) := same_new nt
            have gt := DGet.t (s2 _ _ (sG _ _ hd1)) (k := key2 (a, b)) (show upd G2 t (.tup [.str a, .str b]) t = some (.tup ((key2 (a, b)).map kV)) from upd_same)
            rw [valV_sheet (mem_pairsOf ha hbm hab)] at gt
            refine ⟨d, _, rfl, gt, _, Sum.inr b, rfl, s2 _ _ hD, ?_, fun u o e => ?_, ?_⟩
            · exact Nat.lt_of_le_of_lt rowK_len (small1000 (by rw [List.length_take]; omega))
            · rw [upd_ne (ne_of_none e nD)]
              exact s2 _ _ (sG _ _ e)
            · rw [upd_same, putK_new _ (rowK_new nd f a b i hb), rowK_take zs f a b i hb, if_pos hab]
      rintro G ⟨sG, hD⟩
      rw [List.length_map, List.take_length] at hD
      exact q _ D (s1.trans sG) (s1.free nD) hD
    · exact absurd ((show decide (a ∈ zs) = false from z).symm.trans (decide_eq_true ha)) (by simp)
end
end K04

set_option Elab.async false
set_option linter.all false
set_option maxRecDepth 100000
set_option maxHeartbeats 4000000
namespace K04
open PySem PySem.Spec PyProof.Rows L2
section
variable {P : Program} {w : World} {K : PySem.W.Frag} {mg : Str → Option Value} {base : Heap} {C CP CN : Addr}
theorem ok_withMark {fA fNP fMN fPI : Addr} {fd dNP dMN dPI : FuncData} (F : Fun K "with_mark" "Page.with_mark" sPageWithMark fA fd) (GNP : FnOk P w K mg base CX0 3 fNP dNP ["crowd", "pair"] (spNeedPair C)) (kNP : PySem.W.keepIn K (.ref fNP) = true) (bNP : Binds K dNP ["crowd", "pair"] []) (gNP : mg "need_pair" = some (.ref fNP))
    (GMN : FnOk P w K mg base CX0 4 fMN dMN ["crowd", "value"] (spIsMarkN K C)) (kMN : PySem.W.keepIn K (.ref fMN) = true) (bMN : Binds K dMN ["crowd", "value"] []) (gMN : mg "is_mark_or_none" = some (.ref fMN))
    (MP : Mk K CP fPI) (GPI : FnOk P w K mg base CX0 6 fPI dPI ["self", "crowd", "marks"] (spPageInit C CP)) (gP : mg "Page" = some (.ref CP)) (bPI : Binds K dPI ["self", "crowd", "marks"] []) (clP : Cls K CP) (nC : NoAttr K CP "crowd") (nM : NoAttr K CP "_marks") :
    FnOk P w K mg base CX0 8 fA fd ["self", "pair", "mark"] (spWithMark C CP) := by
  refine F.ok scPageWithMark (fun vs H Q E h => ?_) (fun cdv A outer s H vs Q E hr h => ?_)
  · obtain ⟨x, t, v, zs, m, f, p, rfl, _⟩ := h
    rfl
  · obtain ⟨x, t, v, zs, m, f, p, rfl, ⟨dx, c, d, hx, hc, hd⟩, nd, z8, oz, mk, hp, ht, mv, q⟩ := h
    have hu1 : (A.deeper (envOfC "Page.with_mark" (defScope sPageWithMark) s.heap.objs.size fA cdv)).units + 1 < cLine := by
      have := hr.units
      omega
    have hu64 : (A.deeper (envOfC "Page.with_mark" (defScope sPageWithMark) s.heap.objs.size fA cdv)).units + 64 < cLine := hr.units
    obtain ⟨dc, lc, hcx, hcl⟩ := id hc
    have l64 : (pairsOf zs).length ≤ 64 := pairs_len z8 z8
    refine ⟨_, pss_cons (ps_expr (pe_call GNP (hr.mono (by decide)) (by rfl) gNP kNP bNP .nil pass0 (pa_cons (pe_fld (pv 0) rfl) (pa_cons (pv 1) pa_nil))))
      (pss_cons (ps_if (pt_not (pt_val (pe_call GMN (hr.mono (by decide)) (by rfl) gMN kMN bMN .nil pass0 (pa_cons (pe_fld (pv 0) rfl) (pa_cons (pv 2) pa_nil))))) pss_never pss_nil)
      (pss_one (ps_ret (pe_make MP GPI (hr.mono (by decide)) (by rfl) gP bPI .nil pass0 (pa_cons (pe_fld (pv 0) rfl) (pa_cons (pe_lock (pe_dcT (own := [("at", 3), ("old", 4)]) (g := gTup K 2 (gCons (gName 3) (gCons (gName 4) gNil))) (by exact hu1) (by rfl) scPageWithMark.nd (pi_itemsT (pe_fld (pv 0) rfl)) (blkOk_by (own := [("at", 3), ("old", 4)]) (N := ["self", "pair", "mark", "at", "old"]) (sc := defScope sPageWithMark) (by decide +kernel))
        (fun _ _ _ _ _ => by exact pg_tup rfl (pgs_cons (pg_name (i := 3) scPageWithMark.nd rfl (Or.inl rfl)) (pgs_cons (pg_name (i := 4) scPageWithMark.nd rfl (Or.inl rfl)) pgs_nil))) (fun _ _ _ _ _ => pts_nil) (fun _ _ _ _ _ => pv 3)
        (fun _ _ _ _ _ => pe_ifExp (tA := tTest (tOp (rEqD K) (tVar 3) (tVar 1))) (by exact pt_cmpR (op_eqD hu64) (pv 3) (pv 1) (nomark _)) (pv 2) (pv 4)))) pa_nil)))))), ?_⟩
    refine ⟨_, rfl, x, CP, dx, _, _, rfl, hx, clP, nC, rfl, _, rfl, c, t, zs, m, p, rfl, hc, hp, ht, ?_⟩
    refine ⟨_, rfl, x, CP, dx, _, _, rfl, hx, clP, nC, rfl, _, rfl, c, v, zs, m, rfl, hc, mkOk_ty mv, ⟨true, by rw [mv], iteF ?_⟩⟩
    have dL : ∀ od, upd H d (.frz od (.dT (sheetOf zs f))) d = some (.frz od (.dT (sheetOf zs f))) := fun _ => upd_same
    refine ⟨_, rfl, x, CP, dx, _, _, rfl, hx, clP, nC, rfl, d, _, hd, trivial, fun od => ?_⟩
    have dL : upd H d (.frz od (.dT (sheetOf zs f))) d = some (.frz od (.dT (sheetOf zs f))) := upd_same
    have bL : But d H (upd H d (.frz od (.dT (sheetOf zs f)))) := But.upd
    have un : ∀ G, Same (upd H d (.frz od (.dT (sheetOf zs f)))) G → Same H (upd G d (.dT (sheetOf zs f))) := fun G sG => unlock_same hd sG
    generalize upd H d (.frz od (.dT (sheetOf zs f))) = HL at dL bL un
    have xL := bL _ _ (ne_of hx hd (fun z => nomatch z)) hx
    have tL := bL _ _ (ne_of ht hd (fun z => nomatch z)) ht
    refine ⟨_, rfl, x, CP, dx, _, _, rfl, xL, clP, nM, rfl, d, od, _, rfl, dL, fun D nD => ?_⟩
    refine nest_it walk_itemsT (fun i G => Same HL G ∧ G D = some (.dT ((sheetOf zs (withF f p v)).take i))) ⟨same_new nD, upd_same⟩ (fun i G _ h => h.1 _ _ dL) ?_ ?_
    · rintro i y G G2 hi ⟨sG, hD⟩ ⟨t2, k, v2, q0, hkv, rfl, nT, hq, rfl⟩
      rw [sheet_len] at hi
      have hpi := List.getElem?_eq_getElem hi
      have hmem := List.getElem_mem hi
      generalize (pairsOf zs)[i] = r at hpi hmem
      have at1 := sheet_at (f := f) hpi
      rw [at1] at hkv
      cases hkv
      have nTD : D ≠ t2 := ne_of_none hD nT
      have s2 : Same G (upd G t2 (.tup [.ref q0, f r])) := same_new nT
      have hr2 := mem_pairs hmem
      have hp2 := mem_pairs hp
      refine ⟨t2, _, rfl, SqT.of upd_same, rfl, _, _, rfl, _, _, rfl, rfl, rfl, ?_⟩
      refine ⟨_, rfl, ⟨_, rfl, _, rfl, L2.pairD r, L2.pairD p, dp_pair (s2 _ _ hq), dp_pair (s2 _ _ (sG _ _ tL)), shaped_pairD (oz _ hr2.1) (oz _ hr2.2.1), shaped_pairD (oz _ hp2.1) (oz _ hp2.2.1), _, rfl, ?_⟩⟩
      have at2 := sheet_at (f := withF f p v) hpi
      have fin : ∀ z, withF f p v r = z → ∃ kvs k c, V.ref q0 = .ref c ∧ upd G t2 (.tup [.ref q0, f r]) c = some (.tup (k.map kV)) ∧ upd G t2 (.tup [.ref q0, f r]) D = some (.dT kvs) ∧ kvs.length < sizeLine ∧
          (Same HL (upd (upd G t2 (.tup [.ref q0, f r])) D (.dT (putK kvs k z))) ∧ upd (upd G t2 (.tup [.ref q0, f r])) D (.dT (putK kvs k z)) D = some (.dT ((sheetOf zs (withF f p v)).take (i + 1)))) := fun z ez => by
        refine ⟨_, key2 r, q0, rfl, s2 _ _ hq, by rw [upd_ne nTD]; exact hD, ?_, fun b o e => ?_, ?_⟩
        · rw [List.length_take]
          exact Nat.lt_of_le_of_lt (Nat.min_le_left _ _) (small1000 (by omega))
        · rw [upd_ne (ne_of_none e nD)]
          exact s2 _ _ (sG _ _ e)
        · rw [ez] at at2
          rw [upd_same, put_take (sheet_nodup nd _) at2]
      rw [eqv_pairD]
      unfold withF at fin
      cases e : decide (r = p) with
      | true =>
        exact iteT ⟨_, rfl, fin _ (if_pos (of_decide_eq_true e))⟩
      | false =>
        exact iteF ⟨_, rfl, fin _ (if_neg (of_decide_eq_false e))⟩
    rintro G ⟨sG, hD⟩
    rw [sheet_len, ← sheet_len (f := withF f p v), List.take_length] at hD
    have nDd : D ≠ d := ne_of hD (sG _ _ dL) (fun z => nomatch z)
    refine ⟨sG _ _ dL, ?_⟩
    have S := un G sG
    have mk2 : ∀ r ∈ pairsOf zs, mkOk m (withF f p v r) = true := fun r hr3 => by
      unfold withF
      split
      · exact mv
      · exact mk r hr3
    exact md_page S (hc.same S) z8 nd ⟨by rw [upd_ne nDd]; exact hD, sheet_len, sheet_marks mk2⟩ (fun r hr3 => valV_sheet hr3) fun H' y s' pg => q H' y s' pg
end
end K04

set_option Elab.async false
set_option linter.all false
set_option maxRecDepth 100000
set_option maxHeartbeats 4000000
namespace K04
open PySem PySem.Spec PyProof.Rows L2
section
variable {P : Program} {w : World} {K : PySem.W.Frag} {mg : Str → Option Value} {base : Heap} {C CP CN : Addr}
theorem ok_isRow {fA fMN fHas fLen : Addr} {fd dMN dHas dLen : FuncData} (F : Fun K "is_row" "is_row" sIsRow fA fd) (GMN : FnOk P w K mg base CX0 4 fMN dMN ["crowd", "value"] (spIsMarkN K C)) (kMN : PySem.W.keepIn K (.ref fMN) = true) (bMN : Binds K dMN ["crowd", "value"] []) (gMN : mg "is_mark_or_none" = some (.ref fMN))
    (hsHas : PySem.W.findIn K (.ref C) "__contains__" = some (some (.ref fHas))) (hfHas : PySem.W.isFn K (.ref fHas) = true) (GHas : FnOk P w K mg base CX0 1 fHas dHas ["self", "x"] (spCrowdHas K C)) (bHas : Binds K dHas ["self", "x"] [])
    (hsLen : PySem.W.findIn K (.ref C) "__len__" = some (some (.ref fLen))) (hfLen : PySem.W.isFn K (.ref fLen) = true) (GLen : FnOk P w K mg base CX0 1 fLen dLen ["self"] (spCrowdLen C)) (bLen : Binds K dLen ["self"] []) (B : Bt mg) (T : Tx mg) (Z : Tp mg) :
    FnOk P w K mg base CX0 5 fA fd ["crowd", "person", "value"] (spIsRow C) := by
  refine F.ok scIsRow (fun vs H Q E h => ?_) (fun cdv A outer s H vs Q E hr h => ?_)
  · obtain ⟨c, r, a, zs, m, es, rfl, _⟩ := h
    rfl
  · obtain ⟨c, r, a, zs, m, es, rfl, hc, z8, hR, ⟨hl, hk⟩, q⟩ := h
    obtain ⟨dx, lp, hx, hlp⟩ := id hc
    refine ⟨_, pss_cons (ps_if (PW.pt (pw_or (pt_not (pt_val (pe_callB call_isi (by rfl) T.isi (by decide +kernel) (pa_cons (pv 2) (pa_cons (pe_bltn (v := .ty "dict") (by rfl) Z.dict (by decide +kernel) rfl) pa_nil)))))
        (pw_or1 (pt_cmpR op_ne (pe_callB call_lenD (by rfl) B.len PySem.boot_len (pa_cons (pv 2) pa_nil)) (pe_op op_sub (pe_callB (call_lenOwn (E := fun _ _ _ => False) hsLen hfLen GLen (hr.mono (by decide)) bLen pass0) (by rfl) B.len PySem.boot_len (pa_cons (pv 0) pa_nil)) pe_int) (nomark _))))) (pss_one (ps_ret pe_bl)) pss_nil)
      (pss_one (ps_ret (pe_callB (cr_all rfl) (by rfl) T.all (by decide +kernel) (pa_cons (pe_lock (pe_lc (own := [("other", 3), ("mark", 4)]) (g := gTup K 2 (gCons (gName 3) (gCons (gName 4) gNil))) (by rfl) scIsRow.nd (pi_items (pv 2)) (blkOk_by (own := [("other", 3), ("mark", 4)]) (N := ["crowd", "person", "value", "other", "mark"]) (sc := defScope sIsRow) (by decide +kernel))
        (fun _ _ _ _ _ => by exact pg_tup rfl (pgs_cons (pg_name (i := 3) scIsRow.nd rfl (Or.inl rfl)) (pgs_cons (pg_name (i := 4) scIsRow.nd rfl (Or.inl rfl)) pgs_nil))) (fun _ _ _ _ _ => pts_nil)
        (fun _ _ _ _ _ => pe_and (pe_cmpR (op_inOwn (E := fun _ _ _ => False) hsHas hfHas GHas (Room.mono (by exact hr) (by decide)) bHas pass0) (pv 3) (pv 0) (by rfl)) (pe_and (pe_cmpR op_ne (pv 3) (pv 1) (nomark _)) (pe_one (pe_call GMN (by exact hr) (by rfl) gMN kMN bMN .nil pass0 (pa_cons (pv 0) (pa_cons (pv 4) pa_nil)))))))) pa_nil)))), ?_⟩
    refine ⟨_, rfl, .ref r, .ty "dict", _, _, _, rfl, .ty "dict", .base (.dK hR), kit_ty (kit_dict (by decide)), _, rfl, ?_⟩
    refine iteF ⟨_, rfl, r, rowD es, rfl, hR, _, rfl, c, dx, _, rfl, hx, c, zs, m, rfl, hc, zs.length, rfl, by omega, _, _, rfl, rfl, rfl, _, rfl, ?_⟩
    rw [show decide (V.int (((rowD es).length : Nat) : Int) = V.int ((zs.length : Int) - 1)) = true from decide_eq_true (by unfold rowD; rw [List.length_map]; congr 1; omega)]
    refine iteF ?_
    refine ⟨r, _, hR, trivial, fun od => ?_⟩
    have dL : upd H r (.frz od (.dK (rowD es))) r = some (.frz od (.dK (rowD es))) := upd_same
    have bL : But r H (upd H r (.frz od (.dK (rowD es)))) := But.upd
    have un : ∀ G, Same (upd H r (.frz od (.dK (rowD es)))) G → Same H (upd G r (.dK (rowD es))) := fun G sG => unlock_same hR sG
    generalize upd H r (.frz od (.dK (rowD es))) = HL at dL bL un
    have xL := bL _ _ (ne_of hx hR (fun z => nomatch z)) hx
    have lL := bL _ _ (ne_of hlp hR (fun z => nomatch z)) hlp
    refine ⟨_, rfl, r, od, rowD es, rfl, dL, fun D nD => ?_⟩
    have lr : (rowD es).length = es.length := List.length_map ..
    refine nest_it walk_items (fun i G => Same HL G ∧ G D = some (.lst (List.replicate i (.bl true)))) ⟨same_new nD, upd_same⟩ (fun i G _ h => h.1 _ _ dL) ?_ ?_
    · rintro i y G G2 hi ⟨sG, hD⟩ ⟨t, k, v, rfl, nT, rfl, h1, h2⟩
      obtain ⟨e, he⟩ : ∃ e, es[i]? = some e := ⟨es[i]'(by omega), List.getElem?_eq_getElem (by omega)⟩
      have hrow : (rowD es)[i]? = some (Sum.inr e.1, e.2) := by
        unfold rowD
        rw [List.getElem?_map, he]
        rfl
      dsimp only at h1 h2
      rw [hrow] at h1 h2
      obtain rfl := Option.some.inj h1
      obtain rfl := Option.some.inj h2
      obtain ⟨k1, k2, k3⟩ := hk e (List.mem_of_getElem? he)
      have nTD : D ≠ t := ne_of_none hD nT
      refine ⟨t, _, rfl, SqT.of upd_same, rfl, _, _, rfl, _, _, rfl, rfl, rfl, ?_⟩
      generalize e2 : upd G t _ = G3
      have s2 : Same G G3 := e2 ▸ same_new nT
      have hD3 : G3 D = some (.lst (List.replicate i (.bl true))) := s2 _ _ hD
      have c3 : CrowdOf G3 C c zs m := ⟨dx, lp, s2 _ _ (sG _ _ xL), s2 _ _ (sG _ _ lL)⟩
      refine ⟨_, rfl, _, rfl, c, dx, _, rfl, s2 _ _ (sG _ _ xL), c, _, zs, m, "str", rfl, c3, ⟨.base (.str _), by decide⟩, _, rfl, ?_⟩
      refine ⟨_, rfl, ?_⟩
      rw [show hasB (kV (Sum.inr e.1)) zs = true from decide_eq_true k1]
      refine iteT ⟨_, rfl, _, rfl, rfl, _, rfl, ?_⟩
      rw [show (!decide (kV (Sum.inr e.1) = V.str a)) = true by rw [decide_eq_false (show ¬ (kV (Sum.inr e.1) = V.str a) from fun z => k2 (V.str.inj z))]; rfl]
      refine iteT ⟨_, rfl, _, rfl, c, e.2, zs, m, rfl, c3, mkOk_ty k3, ?_⟩
      rw [k3]
      refine ⟨_, hD3, by rw [List.length_replicate]; exact small1000 (by omega), fun b o ez => ?_, ?_⟩
      · rw [upd_ne (ne_of_none ez nD)]
        exact s2 _ _ (sG _ _ ez)
      · rw [upd_same, List.replicate_succ']
    rintro G ⟨sG, hD⟩
    refine ⟨sG _ _ dL, D, List.replicate (rowD es).length true, rfl, ?_, ?_⟩
    · have nd : D ≠ r := ne_of hD (sG _ _ dL) (fun z => nomatch z)
      rw [List.map_replicate]
      exact SqL.of (by rw [upd_ne nd]; exact hD)
    · rw [show (List.replicate (rowD es).length true).all id = true by rw [List.all_eq_true]; intro x hx; exact List.eq_of_mem_replicate hx]
      exact q _ (un G sG)
end
section
variable {P : Program} {w : World} {K : PySem.W.Frag} {mg : Str → Option Value} {base : Heap} {C CP CN : Addr}
theorem ok_withRow {fA fNp fIR fPI : Addr} {fd dNp dIR dPI : FuncData} (F : Fun K "with_row" "Page.with_row" sPageWithRow fA fd) (GNp : FnOk P w K mg base (L2.CX P w) 3 fNp dNp ["crowd", "person"] (spNeed K C CN)) (kNp : PySem.W.keepIn K (.ref fNp) = true) (bNp : Binds K dNp ["crowd", "person"] []) (gNp : mg "need_person" = some (.ref fNp))
    (GIR : FnOk P w K mg base CX0 5 fIR dIR ["crowd", "person", "value"] (spIsRow C)) (kIR : PySem.W.keepIn K (.ref fIR) = true) (bIR : Binds K dIR ["crowd", "person", "value"] []) (gIR : mg "is_row" = some (.ref fIR))
    (MP : Mk K CP fPI) (GPI : FnOk P w K mg base CX0 6 fPI dPI ["self", "crowd", "marks"] (spPageInit C CP)) (gP : mg "Page" = some (.ref CP)) (bPI : Binds K dPI ["self", "crowd", "marks"] []) (clP : Cls K CP) (nC : NoAttr K CP "crowd") (nM : NoAttr K CP "_marks") :
    FnOk P w K mg base CX0 8 fA fd ["self", "person", "row"] (spWithRow C CP) := by
  refine F.ok scPageWithRow (fun vs H Q E h => ?_) (fun cdv A outer s H vs Q E hr h => ?_)
  · obtain ⟨x, r, a, zs, m, f, es, rfl, _⟩ := h
    rfl
  · obtain ⟨x, r, a, zs, m, f, es, rfl, ⟨dx, c, d, hx, hc, hd⟩, nd, z8, ha, mk, hR, ⟨hl, hk⟩, q⟩ := h
    have hu1 : (A.deeper (envOfC "Page.with_row" (defScope sPageWithRow) s.heap.objs.size fA cdv)).units + 1 < cLine := by
      have := hr.units
      omega
    obtain ⟨dc, lc, hcx, hcl⟩ := id hc
    have l64 : (pairsOf zs).length ≤ 64 := pairs_len z8 z8
    refine ⟨_, pss_cons (ps_expr (pe_call (E := fun _ _ _ => False) GNp (hr.mono (by decide)) (by rfl) gNp kNp bNp .nil (passes_call LamX.takes0 fun _ _ _ _ z => z) (pa_cons (pe_fld (pv 0) rfl) (pa_cons (pv 1) pa_nil))))
      (pss_cons (ps_if (pt_not (pt_val (pe_call GIR (hr.mono (by decide)) (by rfl) gIR kIR bIR .nil pass0 (pa_cons (pe_fld (pv 0) rfl) (pa_cons (pv 1) (pa_cons (pv 2) pa_nil)))))) pss_never pss_nil)
      (pss_cons (ps_lock (ps_setDcT (i := 3) (own := [("pair", 4), ("mark", 5)]) (g := gTup K 2 (gCons (gName 4) (gCons (gName 5) gNil))) (by exact hu1) (by rfl) scPageWithRow.nd rfl rfl (swD_true rfl rfl rfl (by decide +kernel)) (pi_itemsT (pe_fld (pv 0) rfl)) (blkOk_by (own := [("pair", 4), ("mark", 5)]) (N := ["self", "person", "row", "marks", "pair", "mark", "other"]) (sc := defScope sPageWithRow) (by decide +kernel))
        (fun _ _ _ _ _ => by exact pg_tup rfl (pgs_cons (pg_name (i := 4) scPageWithRow.nd rfl (Or.inl rfl)) (pgs_cons (pg_name (i := 5) scPageWithRow.nd rfl (Or.inl rfl)) pgs_nil))) (fun _ _ _ _ _ => pts_nil) (fun _ _ _ _ _ => pv 4) (fun _ _ _ _ _ => pv 5)))
      (pss_cons (ps_lock (ps_for PassesOwn.never rfl (pi_items (pv 2)) (pg_tup rfl (pgs_cons (pg_name (i := 6) scPageWithRow.nd rfl (.inl rfl)) (pgs_cons (pg_name (i := 5) scPageWithRow.nd rfl (.inl rfl)) pgs_nil)))
        (pss_one (ps_dput (by exact hu1) (pv 3) (pe_tup (pa_cons (pv 1) (pa_cons (pv 6) pa_nil))) (pv 5) rfl))))
      (pss_one (ps_ret (pe_make MP GPI (hr.mono (by decide)) (by rfl) gP bPI .nil pass0 (pa_cons (pe_fld (pv 0) rfl) (pa_cons (pv 3) pa_nil)))))))), ?_⟩
    refine ⟨_, rfl, x, CP, dx, _, _, rfl, hx, clP, nC, rfl, _, rfl, c, .str a, zs, m, "str", rfl, hc, ⟨.base (.str _), by decide⟩, fun _ => ?_, fun z => ?_⟩
    · refine ⟨_, rfl, x, CP, dx, _, _, rfl, hx, clP, nC, rfl, _, rfl, _, rfl, c, r, a, zs, m, es, rfl, hc, z8, hR, ⟨hl, hk⟩, fun H1 s1 => ⟨true, rfl, iteF ?_⟩⟩
      have hx1 := s1 _ _ hx
      have hd1 := s1 _ _ hd
      have hR1 := s1 _ _ hR
      -- the marks, once more
      refine ⟨d, _, hd1, trivial, fun od => ?_⟩
      have dL : upd H1 d (.frz od (.dT (sheetOf zs f))) d = some (.frz od (.dT (sheetOf zs f))) := upd_same
      have bL : But d H1 (upd H1 d (.frz od (.dT (sheetOf zs f)))) := But.upd
      have un : ∀ G, Same (upd H1 d (.frz od (.dT (sheetOf zs f)))) G → Same H1 (upd G d (.dT (sheetOf zs f))) := fun G sG => unlock_same hd1 sG
      have nf : ∀ b, upd H1 d (.frz od (.dT (sheetOf zs f))) b = none → H1 b = none := fun b e => by
        by_cases h : b = d
        · rw [h, upd_same] at e
          cases e
        · rw [upd_ne h] at e
          exact e
      generalize upd H1 d (.frz od (.dT (sheetOf zs f))) = HL at dL bL un nf
      have xL := bL _ _ (ne_of hx1 hd1 (fun z => nomatch z)) hx1
      refine ⟨_, rfl, x, CP, dx, _, _, rfl, xL, clP, nM, rfl, d, od, _, rfl, dL, fun D nD => ?_⟩
      refine nest_it walk_itemsT (fun i G => Same HL G ∧ G D = some (.dT ((sheetOf zs f).take i))) ⟨same_new nD, upd_same⟩ (fun i G _ h => h.1 _ _ dL) ?_ ?_
      · rintro i y G G2 hi ⟨sG, hD⟩ ⟨t, k, v, q0, hkv, rfl, nT, hq, rfl⟩
        have nTD : D ≠ t := ne_of_none hD nT
        have s2 : Same G (upd G t (.tup [.ref q0, v])) := same_new nT
        refine ⟨t, _, rfl, SqT.of upd_same, rfl, _, _, rfl, _, _, rfl, rfl, rfl, ?_⟩
        refine ⟨_, rfl, _, rfl, _, k, q0, rfl, s2 _ _ hq, by rw [upd_ne nTD]; exact hD, ?_, fun b o e => ?_, ?_⟩
        · rw [List.length_take]
          exact Nat.lt_of_le_of_lt (Nat.min_le_left _ _) (small1000 (by rw [sheet_len] at hi; omega))
        · rw [upd_ne (ne_of_none e nD)]
          exact s2 _ _ (sG _ _ e)
        · rw [upd_same, put_take (sheet_nodup nd f) hkv]
      rintro G ⟨sG, hD⟩
      rw [List.take_length] at hD
      have nDd : D ≠ d := ne_of hD (sG _ _ dL) (fun z => nomatch z)
      refine ⟨sG _ _ dL, ?_⟩
      have s2 := un G sG
      have n2 := nf D nD
      have h2 : upd G d (.dT (sheetOf zs f)) D = some (.dT (sheetOf zs f)) := by rw [upd_ne nDd]; exact hD
      generalize upd G d (.dT (sheetOf zs f)) = H2 at s2 h2
      have hR2 := s2 _ _ hR1
      have nDr : D ≠ r := ne_of_none hR1 n2 |>.symm
      -- the row's marks
      refine ⟨r, _, hR2, trivial, fun od2 => ?_⟩
      have rL : upd H2 r (.frz od2 (.dK (rowD es))) r = some (.frz od2 (.dK (rowD es))) := upd_same
      have bL2 : But r H2 (upd H2 r (.frz od2 (.dK (rowD es)))) := But.upd
      have un2 : ∀ G, But D (upd H2 r (.frz od2 (.dK (rowD es)))) G → Same H1 (upd G r (.dK (rowD es))) := fun G bG b o e => by
        by_cases h : b = r
        · subst h
          rw [upd_same, ← hR1, e]
        · rw [upd_ne h]
          exact bG _ _ (ne_of_none e n2) (by rw [upd_ne h]; exact s2 _ _ e)
      have d2 := bL2 _ _ nDr h2
      generalize upd H2 r (.frz od2 (.dK (rowD es))) = HM at rL bL2 un2 d2
      refine ⟨_, rfl, r, od2, rowD es, rfl, rL, ?_⟩
      have lr : (rowD es).length = es.length := List.length_map ..
      refine for_it walk_items (fun i σ G => ∃ v4 v5 v6, σ = [some (.ref x), some (.str a), some (.ref r), some (.ref D), v4, v5, v6] ∧ But D HM G ∧ G D = some (.dT (sheetOf zs (putRow f a (es.take i))))) ⟨_, _, _, rfl, fun _ _ _ e => e, d2⟩ (fun i σ G _ h => ?_) ?_ ?_
      · obtain ⟨_, _, _, _, bG, _⟩ := h
        exact bG _ _ nDr.symm rL
      · rintro i y σ G G2 hi ⟨v4, v5, v6, rfl, bG, hD2⟩ ⟨t, k, v, rfl, nT, rfl, h1, h2⟩
        obtain ⟨e, he⟩ : ∃ e, es[i]? = some e := ⟨es[i]'(by omega), List.getElem?_eq_getElem (by omega)⟩
        have hrow : (rowD es)[i]? = some (Sum.inr e.1, e.2) := by
          unfold rowD
          rw [List.getElem?_map, he]
          rfl
        dsimp only at h1 h2
        rw [hrow] at h1 h2
        obtain rfl := Option.some.inj h1
        obtain rfl := Option.some.inj h2
        obtain ⟨k1, k2, k3⟩ := hk e (List.mem_of_getElem? he)
        have nTD : D ≠ t := ne_of_none hD2 nT
        refine ⟨t, _, rfl, SqT.of upd_same, rfl, _, _, rfl, _, _, rfl, rfl, ?_⟩
        generalize e2 : upd G t _ = G3
        have s3 : Same G G3 := e2 ▸ same_new nT
        refine ⟨_, rfl, _, rfl, _, rfl, _, rfl, (by show 2 ≤ sizeLine; decide), fun t2 nt2 => ?_⟩
        have s4 : Same G3 (upd G3 t2 (.tup [.str a, kV (Sum.inr e.1)])) := same_new nt2
        have nD2 : D ≠ t2 := ne_of_none (s3 _ _ hD2) nt2
        refine ⟨D, _, rfl, DPut.t (k := key2 (a, e.1)) (s4 _ _ (s3 _ _ hD2)) upd_same (by rw [sheet_len]; exact small1000 (by omega)), ?_⟩
        refine ⟨_, _, _, rfl, fun b o hb ez => ?_, ?_⟩
        · rw [upd_ne hb]
          exact s4 _ _ (s3 _ _ (bG _ _ hb ez))
        · rw [upd_same, put_sheet (mem_pairsOf ha k1 k2.symm), List.take_add_one, he]
          exact congrArg (fun z => some (HO.dT (sheetOf zs z))) (putRow_snoc f a _ e).symm
      · rintro σ G ⟨v4, v5, v6, rfl, bG, hD2⟩
        rw [lr, List.take_length] at hD2
        refine ⟨bG _ _ nDr.symm rL, ?_⟩
        have S := un2 G bG
        have hD3 : upd G r (.dK (rowD es)) D = some (.dT (sheetOf zs (putRow f a es))) := by rw [upd_ne nDr]; exact hD2
        generalize upd G r (.dK (rowD es)) = G4 at S hD3
        have S2 := s1.trans S
        refine ⟨_, rfl, x, CP, dx, _, _, rfl, S2 _ _ hx, clP, nC, rfl, _, rfl, ?_⟩
        exact md_page S2 (hc.same S2) z8 nd ⟨hD3, sheet_len, sheet_marks (putRow_mk (fun e he => (hk e he).2.2) mk)⟩ (fun p hp => valV_sheet hp) fun H' y s' pg => q H' y s' pg
    · exact absurd ((show decide (a ∈ zs) = false from z).symm.trans (decide_eq_true ha)) (by simp)
end
end K04

set_option Elab.async false
set_option linter.all false
set_option maxRecDepth 100000
set_option maxHeartbeats 4000000
namespace K04
open PySem PySem.Spec PyProof.Rows L2
section
variable {P : Program} {w : World} {K : PySem.W.Frag} {mg : Str → Option Value} {base : Heap} {C CP CN : Addr}
theorem ok_filled {fA fNC fMN fPI fPa : Addr} {fd dNC dMN dPI dPa : FuncData} (F : Fun K "filled" "Page.filled" sPageFilled fA fd) (GNC : FnOk P w K mg base CX0 1 fNC dNC ["crowd"] (spNeedCrowd C)) (kNC : PySem.W.keepIn K (.ref fNC) = true) (bNC : Binds K dNC ["crowd"] []) (gNC : mg "need_crowd" = some (.ref fNC))
    (GMN : FnOk P w K mg base CX0 4 fMN dMN ["crowd", "value"] (spIsMarkN K C)) (kMN : PySem.W.keepIn K (.ref fMN) = true) (bMN : Binds K dMN ["crowd", "value"] []) (gMN : mg "is_mark_or_none" = some (.ref fMN))
    (cl : Cls K C) (mPa : Meth K C "pairs" fPa) (GPa : FnOk P w K mg base CX0 1 fPa dPa ["self"] (spCrowdPairs C)) (bPa : Binds K dPa ["self"] [])
    (MP : Mk K CP fPI) (GPI : FnOk P w K mg base CX0 6 fPI dPI ["self", "crowd", "marks"] (spPageInit C CP)) (gP : mg "Page" = some (.ref CP)) (bPI : Binds K dPI ["self", "crowd", "marks"] []) :
    FnOk P w K mg base CX0 8 fA fd ["crowd", "mark"] (spFilled C CP) := by
  refine F.ok scPageFilled (fun vs H Q E h => ?_) (fun cdv A outer s H vs Q E hr h => ?_)
  · obtain ⟨c, v, zs, m, rfl, _⟩ := h
    rfl
  · obtain ⟨c, v, zs, m, rfl, hc, nd, z8, mv, q⟩ := h
    have hu1 : (A.deeper (envOfC "Page.filled" (defScope sPageFilled) s.heap.objs.size fA cdv)).units + 1 < cLine := by
      have := hr.units
      omega
    obtain ⟨dc, lc, hcx, hcl⟩ := id hc
    have l64 : (pairsOf zs).length ≤ 64 := pairs_len z8 z8
    refine ⟨_, pss_cons (ps_expr (pe_call GNC (hr.mono (by decide)) (by rfl) gNC kNC bNC .nil pass0 (pa_cons (pv 0) pa_nil)))
      (pss_cons (ps_if (pt_not (pt_val (pe_call GMN (hr.mono (by decide)) (by rfl) gMN kMN bMN .nil pass0 (pa_cons (pv 0) (pa_cons (pv 1) pa_nil))))) pss_never pss_nil)
      (pss_one (ps_ret (pe_make MP GPI (hr.mono (by decide)) (by rfl) gP bPI .nil pass0 (pa_cons (pv 0) (pa_cons (pe_dcT (own := [("pair", 2)]) (g := gName 2) (by exact hu1) (by rfl) scPageFilled.nd (pi_list (pe_meth0 (pv 0) cl mPa GPa (hr.mono (by decide)) bPa .nil pass0)) (blkOk_by (own := [("pair", 2)]) (N := ["crowd", "mark", "pair"]) (sc := defScope sPageFilled) (by decide +kernel))
        (fun _ _ _ _ _ => pg_name (i := 2) scPageFilled.nd rfl (Or.inl rfl)) (fun _ _ _ _ _ => pts_nil) (fun _ _ _ _ _ => pv 2) (fun _ _ _ _ _ => pv 1)) pa_nil)))))), ?_⟩
    refine ⟨_, rfl, c, zs, m, rfl, hc, ?_⟩
    refine ⟨_, rfl, _, rfl, c, v, zs, m, rfl, hc, mkOk_ty mv, ⟨true, by rw [mv], iteF ?_⟩⟩
    refine ⟨_, rfl, _, rfl, c, dc, _, rfl, hcx, rfl, c, zs, m, rfl, hc, z8, fun H3 p3 ys s3 n3 h3 t3 => ?_⟩
    refine ⟨p3, rfl, ⟨_, SqL.of h3⟩, fun D nD => ?_⟩
    have len : ys.length = (pairsOf zs).length := t3.1
    refine nest_it (walk_list (K := K) (a := p3) (xs := ys)) (fun i G => Same H3 G ∧ G D = some (.dT ((sheetOf zs fun _ => v).take i))) ⟨same_new nD, upd_same⟩ (fun i G _ h => SqL.of (h.1 _ _ h3)) ?_ ?_
    · rintro i y G G2 hi ⟨sG, hD⟩ ⟨rfl, hy⟩
      have hi2 : i < (pairsOf zs).length := by omega
      have hp := List.getElem?_eq_getElem hi2
      generalize (pairsOf zs)[i] = p at hp
      obtain ⟨t, rfl, _, ht⟩ := t3.2 i y p hy hp
      refine ⟨rfl, _, rfl, _, rfl, _, key2 p, t, rfl, sG _ _ ht, hD, ?_, fun b o e => ?_, ?_⟩
      · rw [List.length_take]
        exact Nat.lt_of_le_of_lt (Nat.min_le_left _ _) (small1000 (by omega))
      · rw [upd_ne (ne_of_none e nD)]
        exact sG _ _ e
      · rw [upd_same, put_take (sheet_nodup nd _) (sheet_at hp)]
    rintro G ⟨sG, hD⟩
    rw [len, ← sheet_len (f := fun _ => v), List.take_length] at hD
    have S := s3.trans sG
    exact md_page S (hc.same S) z8 nd ⟨hD, sheet_len, sheet_marks fun _ _ => mv⟩ (fun r hr3 => valV_sheet hr3) fun H' y s' pg => q H' y s' pg
theorem ok_sheet {fA fD fLp : Addr} {fd fdD dLp : FuncData} (F : Fun K "_law_sheet" "_law_sheet" sSheet fA fd) (GD : FnOk P w K mg base CX0 1 fD fdD ["_law_pool", "_law_many"] spDraw) (kD : PySem.W.keepIn K (.ref fD) = true) (bD : Binds K fdD ["_law_pool", "_law_many"] []) (gD : mg "_law_draw" = some (.ref fD))
    (GLp : FnOk P w K mg base CX0 1 fLp dLp ["_law_people_here"] (spLawPairs K)) (gLp : mg "_law_pairs" = some (.ref fLp)) (kLp : PySem.W.keepIn K (.ref fLp) = true) (bLp : Binds K dLp ["_law_people_here"] []) (B : Bt mg) : FnOk P w K mg base CX0 2 fA fd ["_law_pool", "_law_plan", "_law_rarely"] (spSheet K) := by
  refine F.ok scSheet (fun vs H Q E h => ?_) (fun cdv A outer s H vs Q E hr h => ?_)
  · obtain ⟨a, pl, l, r, zs, m, rfl, _⟩ := h
    rfl
  · obtain ⟨a, pl, l, r, zs, m, rfl, hP, hpl, hl, nd, z8, m1, m10, r100, q⟩ := h
    have hu1 : (A.deeper (envOfC "_law_sheet" (defScope sSheet) s.heap.objs.size fA cdv)).units + 1 < cLine := by
      have := hr.units
      omega
    have l64 : (pairsOf zs).length ≤ 64 := pairs_len z8 z8
    refine ⟨_, pss_cons (ps_set (i := 3) scSheet.nd rfl (.inl rfl) pe_dnewT)
      (pss_cons (ps_for PassesOwn.never rfl (pi_list (pe_call GLp hr (by rfl) gLp kLp bLp .nil pass0 (pa_cons (pe_dget (by exact hu1) (pv 1) pe_str (fun _ _ => rfl)) pa_nil))) (pg_name (i := 4) scSheet.nd rfl (.inl rfl))
        (pss_cons (ps_set (i := 5) scSheet.nd rfl (.inl rfl) (pe_cut (fun _ H v H2 => (∃ b, v = .bl b) ∧ Pool H2 a ∧ But a H H2) (pe_and (pe_cmpR op_gt (pv 2) pe_int (nomark _)) (pe_one (pe_cmpR op_eq (pe_call GD hr (by rfl) gD kD bD .nil pass0 (pa_cons (pv 0) (pa_cons (pe_callB (call_max2 rfl) (by rfl) B.max (by decide +kernel) (pa_cons pe_int (pa_cons (pv 2) pa_nil))) pa_nil))) pe_int (nomark _))))))
        (pss_one (ps_dput (by exact hu1) (pv 3) (pv 4) (pe_ifExp (pt_val (pv 5)) pe_non (pe_call GD hr (by rfl) gD kD bD .nil pass0 (pa_cons (pv 0) (pa_cons (pe_op op_add (pe_dget (by exact hu1) (pv 1) pe_str (fun _ _ => rfl)) pe_int) pa_nil)))) rfl))))
      (pss_one (ps_ret (pv 3)))), ?_⟩
    refine fun p np => ?_
    generalize e1 : upd H p _ = H1
    have s1 : Same H H1 := e1 ▸ same_new np
    have h1 : H1 p = some (.dT []) := e1 ▸ upd_same
    refine ⟨_, rfl, pl, _, rfl, get_people (s1 _ _ hpl), l, zs, rfl, s1 _ _ hl, z8, fun H2 p2 ys s2 n2 h2 t2 => ?_⟩
    have len : ys.length = (pairsOf zs).length := t2.1
    have P2 : Pool H2 a := by
      obtain ⟨g, r, ha, hb⟩ := hP
      exact ⟨g, r, s2 _ _ (s1 _ _ ha), hb⟩
    have nap : a ≠ p := fun e => by
      obtain ⟨g, r, ha, hb⟩ := hP
      rw [e, np] at ha
      cases ha
    have nap2 : p2 ≠ a := fun e => by
      obtain ⟨g, r, ha, hb⟩ := hP
      rw [e] at n2
      rw [s1 _ _ ha] at n2
      cases n2
    have npp2 : p2 ≠ p := fun e => by
      rw [e, h1] at n2
      cases n2
    refine ⟨p2, rfl, ⟨_, SqL.of h2⟩, ?_⟩
    have two : ∀ G, (∀ b o, b ≠ a → b ≠ p → H2 b = some o → G b = some o) → But a H G := fun G g b o hb e => by
      have hbp : b ≠ p := ne_of_none e np
      exact g b o hb hbp (s2 _ _ (s1 _ _ e))
    refine for_list (K := K) (a := p2) (xs := ys) (fun i σ G => ∃ v4 v5 f, σ = [some (.ref a), some (.ref pl), some (.int r), some (.ref p), v4, v5] ∧ Pool G a ∧ (∀ b o, b ≠ a → b ≠ p → H2 b = some o → G b = some o) ∧ G p = some (.dT ((sheetOf zs f).take i)) ∧
      ∀ q ∈ (pairsOf zs).take i, mkOk m (f q) = true) ⟨_, _, fun _ => .non, rfl, P2, fun _ _ _ _ e => e, s2 _ _ h1, fun q hq => by simp at hq⟩ (fun i σ G _ h => ?_) ?_ ?_
    · obtain ⟨_, _, _, _, _, g, _, _⟩ := h
      exact SqL.of (g _ _ nap2 npp2 h2)
    · rintro i y σ G hy ⟨v4, v5, f, rfl, hPG, g, hG, hm⟩
      have hi2 : i < (pairsOf zs).length := by
        have := (List.getElem?_eq_some_iff.mp hy).1
        omega
      have hp := List.getElem?_eq_getElem hi2
      have hmem := List.getElem_mem hi2
      generalize (pairsOf zs)[i] = pq at hp hmem
      obtain ⟨t, rfl, ht⟩ := t2.2 i y pq hy hp
      have npt : t ≠ p := fun e => by
        rw [e, s2 _ _ h1] at ht
        cases ht
      have nat_ : t ≠ a := fun e => by
        obtain ⟨g0, r0, ha, hb⟩ := P2
        rw [e, ha] at ht
        cases ht
      have npl : pl ≠ a := fun e => by
        obtain ⟨g0, r0, ha, hb⟩ := hP
        rw [e, ha] at hpl
        cases hpl
      have nplp : pl ≠ p := ne_of_none hpl np
      have fin : ∀ (G3 : Hp) (v w5 : V), Pool G3 a → (∀ b o, b ≠ a → b ≠ p → H2 b = some o → G3 b = some o) → G3 p = some (.dT ((sheetOf zs f).take i)) → mkOk m v = true → DPut G3 p (.ref t) v (upd G3 p (.dT (putK ((sheetOf zs f).take i) (key2 pq) v))) ∧
          ∃ v4 v5 f', [some (.ref a), some (.ref pl), some (.int r), some (.ref p), some (.ref t), some w5] = [some (V.ref a), some (.ref pl), some (.int r), some (.ref p), v4, v5] ∧ Pool (upd G3 p (.dT (putK ((sheetOf zs f).take i) (key2 pq) v))) a ∧
            (∀ b o, b ≠ a → b ≠ p → H2 b = some o → upd G3 p (.dT (putK ((sheetOf zs f).take i) (key2 pq) v)) b = some o) ∧ upd G3 p (.dT (putK ((sheetOf zs f).take i) (key2 pq) v)) p = some (.dT ((sheetOf zs f').take (i + 1))) ∧ ∀ q ∈ (pairsOf zs).take (i + 1), mkOk m (f' q) = true := fun G3 v w5 hP3 g3 hG3 mv => by
        refine ⟨DPut.t (k := key2 pq) hG3 (g3 _ _ nat_ npt ht) ?_, _, _, withF f pq v, rfl, ?_, fun b o h1 h2 e => ?_, ?_, fun q hq => ?_⟩
        · rw [List.length_take]
          exact Nat.lt_of_le_of_lt (Nat.min_le_left _ _) (small1000 (by omega))
        · obtain ⟨g0, r0, ha, hb⟩ := hP3
          exact ⟨g0, r0, by rw [upd_ne nap]; exact ha, hb⟩
        · rw [upd_ne h2]
          exact g3 b o h1 h2 e
        · have at2 : (sheetOf zs (withF f pq v))[i]? = some (key2 pq, v) := by
            rw [sheet_at hp]
            unfold withF
            rw [if_pos rfl]
          rw [upd_same, ← sheet_take_with nd hp (f := f) (v := v), put_take (sheet_nodup nd _) at2]
        · unfold withF
          by_cases e : q = pq
          · rw [if_pos e]
            exact mv
          · rw [if_neg e]
            rw [List.take_add_one, hp] at hq
            rcases List.mem_append.mp hq with hq | hq
            · exact hm q hq
            · exact absurd (List.mem_singleton.mp hq) e
      refine ⟨⟨_, rfl, _, _, rfl, rfl, _, rfl, ite2 (fun c => ?_) (fun _ => ⟨⟨_, rfl⟩, hPG, fun _ _ _ e => e⟩)⟩, ?_⟩
      · have c1 : (0 : Int) < r := of_decide_eq_true c
        refine ⟨_, rfl, _, rfl, _, _, rfl, a, _, rfl, hPG, ?_, ?_, fun r1 G3 r10 r11 hP3 b3 => ⟨rfl, ⟨_, rfl⟩, hP3, b3⟩⟩
        · split <;> omega
        · split <;> omega
      · rintro v G2 ⟨⟨b, rfl⟩, hP2, b2⟩
        have g2 : ∀ b o, b ≠ a → b ≠ p → H2 b = some o → G2 b = some o := fun b o h1 h2 e => b2 _ _ h1 (g b o h1 h2 e)
        have hG2 := b2 _ _ nap.symm hG
        refine ⟨_, rfl, b, rfl, ?_⟩
        cases b with
        | true =>
          obtain ⟨d1, d2⟩ := fin G2 .non (.bl true) hP2 g2 hG2 rfl
          exact iteT ⟨_, rfl, _, rfl, p, _, rfl, d1, d2⟩
        | false =>
          refine iteF ⟨_, rfl, _, rfl, pl, _, rfl, get_most (g2 _ _ npl nplp (s2 _ _ (s1 _ _ hpl))), _, _, rfl, rfl, a, _, rfl, hP2, by omega, by omega, fun r1 G3 r10 r11 hP3 b3 => ?_⟩
          obtain ⟨d1, d2⟩ := fin G3 (.int r1) (.bl false) hP3 (fun b o h1 h2 e => b3 _ _ h1 (g2 b o h1 h2 e)) (b3 _ _ nap.symm hG2) (by
            show (decide (V.int r1 = V.non) || (decide (0 ≤ r1) && decide (r1 ≤ m))) = true
            rw [decide_eq_true r10, decide_eq_true (show r1 ≤ m by omega)]
            simp)
          exact ⟨_, rfl, _, rfl, p, _, rfl, d1, d2⟩
    · rintro σ G ⟨v4, v5, f, rfl, hPG, g, hG, hm⟩
      rw [len, ← sheet_len (f := f), List.take_length] at hG
      rw [len, List.take_length] at hm
      exact ⟨_, rfl, q G p f hPG (two G g) np hG hm⟩
end
end K04

set_option Elab.async false
set_option linter.all false
set_option maxRecDepth 100000
set_option maxHeartbeats 4000000
namespace K04
open PySem PySem.Spec PyProof.Rows L2
section
variable {P : Program} {w : World} {K : PySem.W.Frag} {mg : Str → Option Value} {base : Heap} {C CP CB : Addr}
theorem ok_pageRight {fA fC fEq pM fM pF fF fLp fGet fRow : Addr} {fd dC dEq dM dF dLp dGet dRow : FuncData} (F : Fun K "_law_page_right" "_law_page_right" sPageRight fA fd)
    (GC : FnOk P w K mg base (L2.CX P w) 3 fC dC ["self", "people", "most"] (spCrowdNew K C CB)) (M : Mk K C fC) (gC : mg "Crowd" = some (.ref C)) (bC : Binds K dC ["self", "people", "most"] [])
    (hsEq : PySem.W.findIn K (.ref C) "__eq__" = some (some (.ref fEq))) (hnEq : PySem.W.findIn K (.ref C) "__ne__" = some (some (.builtin "object.__ne__"))) (hmO : PySem.W.mroIn K C (.type "object") = some true) (hfEq : PySem.W.isFn K (.ref fEq) = true)
    (GEq : FnOk P w K mg base CX0 1 fEq dEq ["self", "other"] (spCrowdEq K C)) (bEq : Binds K dEq ["self", "other"] [])
    (clP : Cls K CP) (nC : NoAttr K CP "crowd") (ppM : PropOf K CP "marks" pM fM) (GM : FnOk P w K mg base CX0 1 fM dM ["self"] (spPageMarks C CP)) (bM : Binds K dM ["self"] [])
    (ppF : PropOf K CP "is_full" pF fF) (GF : FnOk P w K mg base CX0 1 fF dF ["self"] (spPageFull C CP)) (bF : Binds K dF ["self"] [])
    (GLp : FnOk P w K mg base CX0 1 fLp dLp ["_law_people_here"] (spLawPairs K)) (gLp : mg "_law_pairs" = some (.ref fLp)) (kLp : PySem.W.keepIn K (.ref fLp) = true) (bLp : Binds K dLp ["_law_people_here"] [])
    (hsGet : PySem.W.findIn K (.ref CP) "__getitem__" = some (some (.ref fGet))) (fnGet : PySem.W.fnIn K fGet = true) (hfGet : PySem.W.isFn K (.ref fGet) = true) (GGet : FnOk P w K mg base CX0 4 fGet dGet ["self", "at"] (spPageGet C CP)) (bGet : Binds K dGet ["self", "at"] [])
    (mRow : Meth K CP "row" fRow) (GRow : FnOk P w K mg base CX0 4 fRow dRow ["self", "person"] (spPageRow C CP)) (bRow : Binds K dRow ["self", "person"] []) (B : Bt mg) (T : Tx mg) (Z : Tp mg) :
    FnG P w K mg base CX0 8 fA fd ["_law_page", "_law_plan", "_law_sheet_here"] (spPageRight C CP) := by
  refine F.okG scPageRight (fun vs H Q E h => ?_) (fun cdv A outer s H vs Q _ hg hr h => ?_)
  · obtain ⟨x, pl, l, sd, zs, m, f, rfl, _⟩ := h
    rfl
  · obtain ⟨x, pl, l, sd, zs, m, f, rfl, hPg, hno, hpl, hl, hsd, tl, q⟩ := h
    have hu200 : (A.deeper (envOfC "_law_page_right" (defScope sPageRight) s.heap.objs.size fA cdv)).units + 200 < cLine := by
      have := hr.un
      omega
    have hu1 : (A.deeper (envOfC "_law_page_right" (defScope sPageRight) s.heap.objs.size fA cdv)).units + 1 < cLine := by omega
    have hu2 : (A.deeper (envOfC "_law_page_right" (defScope sPageRight) s.heap.objs.size fA cdv)).units + 2 < cLine := by omega
    have hu65 : (A.deeper (envOfC "_law_page_right" (defScope sPageRight) s.heap.objs.size fA cdv)).units + 65 < cLine := by omega
    have hu64 : (A.deeper (envOfC "_law_page_right" (defScope sPageRight) s.heap.objs.size fA cdv)).units + 64 < cLine := by omega
    refine ⟨_, pss_cons (ps_set (i := 3) scPageRight.nd rfl (.inl rfl) (pe_make M GC (hr.mono (by decide)) (by rfl) gC bC .nil (E := fun _ _ _ => False) (passes_call LamX.takes0 fun _ _ _ _ z => z) (pa_cons (pe_dget (by exact hu1) (pv 1) pe_str (fun _ _ => rfl)) (pa_cons (pe_dget (by exact hu1) (pv 1) pe_str (fun _ _ => rfl)) pa_nil))))
      (pss_cons (ps_if (PW.pt (pw_or (pt_cmpR (op_neOwn (E := fun _ _ _ => False) hsEq hnEq hmO hfEq GEq (hr.mono (by decide)) bEq pass0) (pe_fld (pv 0) rfl) (pv 3) (nomark _)) (pw_or (pt_cmpR (op_neT (by exact hu2)) (pe_prop (pv 0) clP ppM GM (hr.mono (by decide)) bM .nil pass0 rfl) (pv 2) (nomark _))
          (pw_or1 (pt_cmpR (op_neD (by exact hu64)) (pe_callTy (call_list_dT rfl) (by rfl) T.list (by decide +kernel) (pa_cons (pe_prop (pv 0) clP ppM GM (hr.mono (by decide)) bM .nil pass0 rfl) pa_nil)) (pe_call GLp (hr.mono (by decide)) (by rfl) gLp kLp bLp .nil pass0 (pa_cons (pe_dget (by exact hu1) (pv 1) pe_str (fun _ _ => rfl)) pa_nil)) (nomark _)))))) (pss_one (ps_ret pe_bl)) pss_nil)
      (pss_cons (ps_if (pt_cmpR op_ne (pe_callB (call_reprD hg (by exact hu200)) (by rfl) Z.repr (by decide +kernel) (pa_cons (pe_lock (pe_lc (own := [("_law_pair", 4)]) (g := gName 4) (by rfl) scPageRight.nd (pi_keys (pv 2)) (blkOk_by (own := [("_law_pair", 4)]) (N := ["_law_page", "_law_plan", "_law_sheet_here", "_law_crowd", "_law_pair", "_law_person", "_law_due", "_law_other"]) (sc := defScope sPageRight) (by decide +kernel))
            (fun _ _ _ _ _ => pg_name (i := 4) scPageRight.nd rfl (Or.inl rfl)) (fun _ _ _ _ _ => pts_nil) (fun _ _ _ _ _ => pe_ixOwn (E := fun _ _ _ => False) (to := tVar 0) (ti := tVar 4) (by exact pv 0) (by exact pv 4) hsGet fnGet hfGet GGet (Room.mono (by exact hr) (by decide)) bGet pass0))) pa_nil))
          (pe_callB (call_reprD hg (by exact hu200)) (by rfl) Z.repr (by decide +kernel) (pa_cons (pe_lock (pe_lc (own := [("_law_pair", 4)]) (g := gName 4) (by rfl) scPageRight.nd (pi_keys (pv 2)) (blkOk_by (own := [("_law_pair", 4)]) (N := ["_law_page", "_law_plan", "_law_sheet_here", "_law_crowd", "_law_pair", "_law_person", "_law_due", "_law_other"]) (sc := defScope sPageRight) (by decide +kernel))
            (fun _ _ _ _ _ => pg_name (i := 4) scPageRight.nd rfl (Or.inl rfl)) (fun _ _ _ _ _ => pts_nil) (fun _ _ _ _ _ => pe_dget (by exact hu1) (pv 2) (pv 4) (fun _ _ => rfl)))) pa_nil)) (nomark _)) (pss_one (ps_ret pe_bl)) pss_nil)
      (pss_cons (ps_if (pt_cmpR op_ne (pe_callB (call_reprD hg (by exact hu200)) (by rfl) Z.repr (by decide +kernel) (pa_cons (pe_prop (pv 0) clP ppF GF (hr.mono (by decide)) bF .nil pass0 rfl) pa_nil))
          (pe_callB (call_reprD hg (by exact hu200)) (by rfl) Z.repr (by decide +kernel) (pa_cons (pe_cmpR (op_notInD (by exact hu65)) pe_non (pe_callTy (call_list_vals rfl) (by rfl) T.list (by decide +kernel) (pa_cons (pe_bm0 PySem.F.plainAttrs_dict PySem.F.slot_dict_values PySem.F.type_dict_values mt_valuesT (pv 2)) pa_nil)) (by rfl)) pa_nil)) (nomark _)) (pss_one (ps_ret pe_bl)) pss_nil)
      (pss_cons (ps_for PassesOwn.never rfl (pi_list (pe_dget (by exact hu1) (pv 1) pe_str (fun _ _ => rfl))) (pg_name (i := 5) scPageRight.nd rfl (.inr rfl))
        (pss_cons (ps_setLc (i := 6) (own := [("_law_other", 7)]) (g := gName 7) (by rfl) scPageRight.nd rfl rfl (sw_true rfl rfl rfl (by decide +kernel)) (pi_list (pe_dget (by exact hu1) (pv 1) pe_str (fun _ _ => rfl))) (blkOk_by (own := [("_law_other", 7)]) (N := ["_law_page", "_law_plan", "_law_sheet_here", "_law_crowd", "_law_pair", "_law_person", "_law_due", "_law_other"]) (sc := defScope sPageRight) (by decide +kernel))
            (fun _ _ _ _ _ => pg_name (i := 7) scPageRight.nd rfl (Or.inl rfl)) (fun _ _ _ _ _ => pts_one (pt_cmpR op_ne (pv 7) (pv 5) (nomark _))) (fun _ _ _ _ _ => by exact pe_tup (pa_cons (pv 7) (pa_cons (pe_dget (by exact hu1) (pv 2) (pe_tup (pa_cons (pv 5) (pa_cons (pv 7) pa_nil))) (fun _ _ => rfl)) pa_nil))))
        (pss_one (ps_if (pt_cmpR (op_neD (by exact hu64)) (pe_callTy (call_list_items rfl) (by rfl) T.list (by decide +kernel) (pa_cons (pe_bm0 PySem.F.plainAttrs_dict PySem.F.slot_dict_items PySem.F.type_dict_items mt_itemsK (pe_meth (pv 0) clP mRow GRow (hr.mono (by decide)) bRow .nil pass0 (pa_cons (pv 5) pa_nil))) pa_nil)) (pv 6) (nomark _)) (pss_one (ps_ret pe_bl)) pss_nil))))
      (pss_one (ps_ret pe_bl)))))), ?_⟩
    obtain ⟨dx, c, d, hx, hc, hd⟩ := id hPg
    have nds : d ≠ sd := hno _ _ _ hx
    obtain ⟨dc, lc, hcx, hcl⟩ := id hc
    have nd := tl.nd
    have z8 := tl.most
    have dr : Drawn8 zs := ⟨tl.nd, tl.mem⟩
    have l64 : (pairsOf zs).length ≤ 64 := pairs_len z8 z8
    have oz : ∀ z ∈ zs, PyData.strOk z = true := fun z h => (names_short z (tl.mem z h)).2
    have m1 : markB 1 10 (.int m) = true := by
      show (decide (1 ≤ m) && decide (m ≤ 10)) = true
      rw [decide_eq_true tl.m1, decide_eq_true tl.m10]
      rfl
    have mkf := sheet_mk fun p hp => mkOk_isMk (tl.marks p hp)
    refine st_seq ?_
    refine st_asg ?_
    refine rd_made (xs := zs.map V.str) m1 (fun Q1 k => ⟨_, rfl, pl, _, rfl, get_people hpl, _, rfl, pl, _, rfl, get_most hpl, k _ _ (Same.refl _) (.lst' hl dr.items (by rw [List.length_map]; omega) (dr.people tl.one z8))⟩) fun H1 x3 d3 q3 s1 nx3 nq3 hx3 hq3 => ?_
    have c3 : CrowdOf H1 C x3 zs m := ⟨d3, q3, hx3, hq3⟩
    -- the crowd, the marks
    refine ⟨_, rfl, x, CP, dx, _, _, rfl, s1 _ _ hx, clP, nC, rfl, _, rfl, rd_neC (hc.same s1) c3 oz oz ⟨_, rfl, ?_⟩⟩
    rw [decide_eq_true rfl, decide_eq_true rfl]
    refine iteF ?_
    refine ⟨_, rfl, x, dx, _, rfl, s1 _ _ hx, x, zs, m, f, rfl, hPg.same s1, z8, nd, fun H2 p2 s2 n2 h2 => ?_⟩
    have S2 := s1.trans s2
    refine ⟨_, rfl, p2, sd, _, _, rfl, rfl, h2, S2 _ _ hsd, mkf, mkf, _, rfl, ?_⟩
    rw [same_sheets nd, likeB_self]
    refine iteF ?_
    refine ⟨_, rfl, x, dx, _, rfl, S2 _ _ hx, x, zs, m, f, rfl, hPg.same S2, z8, nd, fun H3 p3 s3 n3 h3 => ?_⟩
    have S3 := S2.trans s3
    refine ⟨p3, _, rfl, .inl h3, fun l3 bs nl3 hbs => ?_⟩
    generalize e4 : upd H3 l3 _ = H4
    have s4 : Same H3 H4 := e4 ▸ same_new nl3
    have h4 : H4 l3 = some (.lst (bs.map V.ref)) := e4 ▸ upd_same
    have S4 := S3.trans s4
    refine ⟨_, rfl, pl, _, rfl, get_people (S4 _ _ hpl), l, zs, rfl, S4 _ _ hl, z8, fun H5 p5 ys5 s5 n5 h5 t5 => ?_⟩
    have S5 := S4.trans s5
    refine ⟨_, _, .lst (SqL.of (s5 _ _ h4)) (isKeys_dp (isKeys_same (s4.trans s5) hbs)), .lst (SqL.of h5) t5.dp, small_shaped (small_pairsOf tl.mem), small_shaped (small_pairsOf tl.mem), _, rfl, ?_⟩
    rw [small_eqv (small_pairsOf tl.mem)]
    refine iteF ?_
    clear e4
    -- the marks, one by one
    have sd5 := S5 _ _ hsd
    refine ⟨sd, _, sd5, trivial, fun od => ?_⟩
    have dL : upd H5 sd (.frz od (.dT (sheetOf zs f))) sd = some (.frz od (.dT (sheetOf zs f))) := upd_same
    have bL : But sd H5 (upd H5 sd (.frz od (.dT (sheetOf zs f)))) := But.upd
    have un : ∀ G, Same (upd H5 sd (.frz od (.dT (sheetOf zs f)))) G → Same H5 (upd G sd (.dT (sheetOf zs f))) := fun G sG => unlock_same sd5 sG
    generalize upd H5 sd (.frz od (.dT (sheetOf zs f))) = HL at dL bL un
    have nd5 : ∀ {b : Addr} {o : HO}, H b = some o → (∀ kvs, o ≠ .dT kvs) → HL b = some o := fun e ne => bL _ _ (ne_of (S5 _ _ e) sd5 (ne _)) (S5 _ _ e)
    have pgL : PageOf HL C CP x zs m f := ⟨dx, c, d, nd5 hx (fun _ z => nomatch z), ⟨dc, lc, nd5 hcx (fun _ z => nomatch z), nd5 hcl (fun _ z => nomatch z)⟩, bL _ _ nds (S5 _ _ hd)⟩
    refine ⟨_, rfl, sd, od, rfl, .inr ⟨_, dL, fun D nD => ?_⟩⟩
    refine nest_it walk_keysT (fun i G => Same HL G ∧ G D = some (.lst (((pairsOf zs).take i).map f))) ⟨same_new nD, upd_same⟩ (fun i G _ h => h.1 _ _ dL) ?_ ?_
    · rintro i y G G2 hi ⟨sG, hD⟩ ⟨rfl, k, v, t, hkv, rfl, ht⟩
      rw [sheet_len] at hi
      have hp := List.getElem?_eq_getElem hi
      have hmem := List.getElem_mem hi
      generalize (pairsOf zs)[i] = p at hp hmem
      rw [sheet_at hp] at hkv
      cases hkv
      obtain ⟨dx4, c4, d4, hx4, _, _⟩ := id (pgL.same sG)
      refine ⟨rfl, _, rfl, _, rfl, x, dx4, _, rfl, hx4, x, t, zs, m, f, p, rfl, pgL.same sG, hmem, ht, _, hD, ?_, fun b o e => ?_, ?_⟩
      · rw [List.length_map, List.length_take]
        exact Nat.lt_of_le_of_lt (Nat.min_le_left _ _) (small1000 (by omega))
      · rw [upd_ne (ne_of_none e nD)]
        exact sG _ _ e
      · rw [upd_same, List.take_add_one, hp, List.map_append]
        rfl
    rintro G6 ⟨sG6, hD6⟩
    rw [sheet_len, List.take_length] at hD6
    have nDs : D ≠ sd := ne_of hD6 (sG6 _ _ dL) (fun z => nomatch z)
    refine ⟨sG6 _ _ dL, ?_⟩
    have U6 := un G6 sG6
    have hD6b : upd G6 sd (.dT (sheetOf zs f)) D = some (.lst ((pairsOf zs).map f)) := by rw [upd_ne nDs]; exact hD6
    generalize upd G6 sd (.dT (sheetOf zs f)) = H6 at U6 hD6b
    clear dL bL un nd5 pgL
    have S6 := S5.trans U6
    have smf := small_sheet tl
    have len : (((pairsOf zs).map f).map markD).length ≤ 64 := by
      rw [List.length_map, List.length_map]
      exact l64
    obtain ⟨r1, r2, r3, r4⟩ := small_list smf len
    have mkv : ∀ v ∈ (pairsOf zs).map f, mkOk m v = true := fun v hv => by
      obtain ⟨p, hp, rfl⟩ := List.mem_map.mp hv
      exact tl.marks p hp
    refine ⟨.ref D, _, rfl, .lst (SqL.of hD6b) (dp_marks mkv), r1, r2, r3, r4, ?_⟩
    have sd6 := S6 _ _ hsd
    refine ⟨sd, _, sd6, trivial, fun od => ?_⟩
    have dL : upd H6 sd (.frz od (.dT (sheetOf zs f))) sd = some (.frz od (.dT (sheetOf zs f))) := upd_same
    have un : ∀ G, Same (upd H6 sd (.frz od (.dT (sheetOf zs f)))) G → Same H6 (upd G sd (.dT (sheetOf zs f))) := fun G sG => unlock_same sd6 sG
    generalize upd H6 sd (.frz od (.dT (sheetOf zs f))) = HL at dL un
    refine ⟨_, rfl, sd, od, rfl, .inr ⟨_, dL, fun D nD => ?_⟩⟩
    refine nest_it walk_keysT (fun i G => Same HL G ∧ G D = some (.lst (((pairsOf zs).take i).map f))) ⟨same_new nD, upd_same⟩ (fun i G _ h => h.1 _ _ dL) ?_ ?_
    · rintro i y G G2 hi ⟨sG, hD⟩ ⟨rfl, k, v, t, hkv, rfl, ht⟩
      rw [sheet_len] at hi
      have hp := List.getElem?_eq_getElem hi
      have hmem := List.getElem_mem hi
      generalize (pairsOf zs)[i] = p at hp hmem
      rw [sheet_at hp] at hkv
      cases hkv
      have gt : DGet G2 sd (.ref t) (some (f p)) := .inr ⟨_, key2 p, t, .inr ⟨od, sG _ _ dL⟩, rfl, ht, (valV_sheet hmem).symm⟩
      refine ⟨rfl, _, rfl, _, rfl, sd, _, rfl, gt, _, hD, ?_, fun b o e => ?_, ?_⟩
      · rw [List.length_map, List.length_take]
        exact Nat.lt_of_le_of_lt (Nat.min_le_left _ _) (small1000 (by omega))
      · rw [upd_ne (ne_of_none e nD)]
        exact sG _ _ e
      · rw [upd_same, List.take_add_one, hp, List.map_append]
        rfl
    rintro G7 ⟨sG7, hD7⟩
    rw [sheet_len, List.take_length] at hD7
    have nDs : D ≠ sd := ne_of hD7 (sG7 _ _ dL) (fun z => nomatch z)
    refine ⟨sG7 _ _ dL, ?_⟩
    have U7 := un G7 sG7
    have hD7b : upd G7 sd (.dT (sheetOf zs f)) D = some (.lst ((pairsOf zs).map f)) := by rw [upd_ne nDs]; exact hD7
    generalize upd G7 sd (.dT (sheetOf zs f)) = H7 at U7 hD7b
    clear dL un
    have S7 := S6.trans U7
    refine ⟨.ref D, _, rfl, .lst (SqL.of hD7b) (dp_marks mkv), r1, r2, r3, r4, rfl, _, rfl, ?_⟩
    rw [decide_eq_true rfl]
    refine iteF ?_
    -- whether it is full
    obtain ⟨b1, b2, b3, b4⟩ := small_bool (fullB zs f)
    refine ⟨_, rfl, x, dx, _, rfl, S7 _ _ hx, x, zs, m, f, rfl, hPg.same S7, z8, fun H8 s8 => ⟨.bl (fullB zs f), _, rfl, .bl _, b1, b2, b3, b4, ?_⟩⟩
    have S8 := S7.trans s8
    have sd8 := S8 _ _ hsd
    refine ⟨_, rfl, .inr (.inr (.inl ⟨rfl, .inr ⟨_, sd8⟩⟩)), sd, _, rfl, rfl, sd8, fun p9 np9 => ?_⟩
    have s9 : Same H8 (upd H8 p9 (valsO p9 sd)) := same_new np9
    refine ⟨p9, sd, _, rfl, upd_same, s9 _ _ sd8, fun l9 nl9 => ?_⟩
    generalize e9 : upd (upd H8 p9 (valsO p9 sd)) l9 _ = H9
    have s9b : Same (upd H8 p9 (valsO p9 sd)) H9 := e9 ▸ same_new nl9
    have vals : (sheetOf zs f).map (·.2) = (pairsOf zs).map f := by
      unfold sheetOf
      rw [List.map_map]
      rfl
    have h9 : H9 l9 = some (.lst ((pairsOf zs).map f)) := by rw [← e9, upd_same, vals]
    have S9 := S8.trans (s9.trans s9b)
    refine ⟨.none, _, .non, .lst (SqL.of h9) (dp_marks mkv), by decide, small_shaped smf, ?_⟩
    rw [full_none tl]
    refine ⟨.bl (fullB zs f), _, rfl, .bl _, b1, b2, b3, b4, rfl, _, rfl, ?_⟩
    rw [decide_eq_true rfl]
    refine iteF ?_
    clear e9
    -- the rows
    refine ⟨_, rfl, pl, _, rfl, get_people (S9 _ _ hpl), l, rfl, ⟨_, SqL.of (S9 _ _ hl)⟩, ?_⟩
    refine for_list (K := K) (a := l) (xs := zs.map V.str) (fun i σ G => ∃ v4 v5 v6 v7, σ = [some (.ref x), some (.ref pl), some (.ref sd), some (.ref x3), v4, v5, v6, v7] ∧ Same H9 G) ⟨_, _, _, _, rfl, Same.refl _⟩ (fun i σ G _ h => ?_) ?_ ?_
    · obtain ⟨_, _, _, _, _, sG⟩ := h
      exact SqL.of (sG _ _ (S9 _ _ hl))
    · rintro i y σ G hy ⟨v4, v5, v6, v7, rfl, sG⟩
      rw [List.getElem?_map] at hy
      obtain ⟨a, ha, rfl⟩ := Option.map_eq_some_iff.mp hy
      have hma := List.mem_of_getElem? ha
      have SG := S9.trans sG
      refine ⟨_, rfl, pl, _, rfl, get_people (SG _ _ hpl), l, rfl, ⟨_, SqL.of (SG _ _ hl)⟩, fun D nD => ?_⟩
      refine nest_it (walk_list (K := K) (a := l) (xs := zs.map V.str)) (fun i G' => Same G G' ∧ ∃ ts : List Addr, G' D = some (.lst (ts.map V.ref)) ∧ D ∉ ts ∧ ItemsK G' ts (rowK (zs.take i) f a)) ⟨same_new nD, [], upd_same, by simp, rfl, fun j t kv h1 _ => by simp at h1⟩ (fun i G' _ h => SqL.of (h.1 _ _ (SG _ _ hl))) ?_ ?_
      · rintro j y G' G2 hj ⟨sG', ts, hD, nDt, hts⟩ ⟨rfl, hy2⟩
        rw [List.getElem?_map] at hy2
        obtain ⟨b, hb, rfl⟩ := Option.map_eq_some_iff.mp hy2
        have hmb := List.mem_of_getElem? hb
        refine ⟨rfl, _, rfl, _, rfl, rfl, _, rfl, ?_⟩
        by_cases hab : a = b
        · subst hab
          rw [show (!decide (V.str a = V.str a)) = false by rw [decide_eq_true rfl]; rfl]
          refine iteF ⟨sG', ts, hD, nDt, ?_⟩
          rw [rowK_take zs f a a j hb, if_neg (by simp), List.append_nil]
          exact hts
        · rw [show (!decide (V.str b = V.str a)) = true by rw [decide_eq_false (fun z => hab (V.str.inj z).symm)]; rfl]
          refine iteT ⟨_, rfl, _, rfl, _, rfl, _, rfl, (by show 2 ≤ sizeLine; decide), fun t nt => ?_⟩
          have s2' : Same G2 (upd G2 t (.tup [.str a, .str b])) := same_new nt
          have gt := DGet.t (s2' _ _ (sG' _ _ (SG _ _ hsd))) (k := key2 (a, b)) (show upd G2 t (.tup [.str a, .str b]) t = some (.tup ((key2 (a, b)).map kV)) from upd_same)
          rw [valV_sheet (mem_pairsOf hma hmb hab)] at gt
          refine ⟨sd, _, rfl, gt, (by show 2 ≤ sizeLine; decide), fun t2 nt2 => ?_⟩
          generalize eg : upd (upd G2 t (.tup [.str a, .str b])) t2 _ = G3
          have s3' : Same (upd G2 t (.tup [.str a, .str b])) G3 := eg ▸ same_new nt2
          have ht2 : G3 t2 = some (.tup [.str b, f (a, b)]) := eg ▸ upd_same
          have s23 := s2'.trans s3'
          have hD3 := s23 _ _ hD
          have nDt2 : D ≠ t2 := ne_of hD3 ht2 (fun z => nomatch z)
          refine ⟨_, hD3, ?_, fun u o e => ?_, ts ++ [t2], ?_, ?_, ?_⟩
          · have := hts.1
            rw [List.length_map, this]
            exact Nat.lt_of_le_of_lt rowK_len (small1000 (by rw [List.length_take]; omega))
          · rw [upd_ne (ne_of_none e nD)]
            exact s23 _ _ (sG' _ _ e)
          · rw [upd_same, List.map_append]
            rfl
          · rw [List.mem_append]
            rintro (h | h)
            · exact nDt h
            · exact nDt2 (List.mem_singleton.mp h)
          · rw [rowK_take zs f a b j hb, if_pos hab]
            refine ItemsK.snoc (hts.keep fun t' ht' o e => ?_) ?_
            · rw [upd_ne (fun (z : t' = D) => nDt (z ▸ ht'))]
              exact s23 _ _ e
            · rw [upd_ne nDt2.symm]
              exact ht2
      · rintro G' ⟨sG', ts, hD, nDt, hts⟩
        rw [List.length_map, List.take_length] at hts
        have SG' := SG.trans sG'
        refine ⟨_, rfl, x, dx, _, rfl, SG' _ _ hx, rfl, _, rfl, x, zs, m, f, a, rfl, hPg.same SG', nd, z8, hma, fun K1 pr k1 nk1 hk1 => ?_⟩
        refine ⟨.inr (.inr (.inl ⟨rfl, .inl ⟨_, hk1⟩⟩)), pr, _, rfl, rfl, hk1, fun pv npv => ?_⟩
        have k2 : Same K1 (upd K1 pv (DX.itemsO pv pr)) := same_new npv
        refine ⟨pv, pr, _, rfl, upd_same, k2 _ _ hk1, fun K3 l3 ts3 k3 hl3 hts3 => ?_⟩
        have KK := k1.trans (k2.trans k3)
        have mes : ∀ e ∈ rowEs zs f a, mkOk m e.2 = true := fun e he => by
          obtain ⟨h1, h2, h3⟩ := mem_rowEs he
          rw [h3]
          exact tl.marks _ (mem_pairsOf hma h1 h2.symm)
        rw [rowK_es] at hts hts3
        refine ⟨_, rfl, _, _, .lst (SqL.of hl3) (itemsK_dp hts3 mes), .lst (SqL.of (KK _ _ hD)) (itemsK_dp (hts.keep fun t _ o e => KK _ _ e) mes), small_shaped (small_rowEs tl hma), small_shaped (small_rowEs tl hma), _, rfl, ?_⟩
        rw [small_eqv (small_rowEs tl hma)]
        refine iteF ?_
        exact ⟨_, _, _, _, rfl, sG.trans (sG'.trans KK)⟩
    · rintro σ G ⟨v4, v5, v6, v7, rfl, sG⟩
      exact q _ (S9.trans sG)
end
end K04

set_option Elab.async false
set_option linter.all false
set_option maxRecDepth 100000
set_option maxHeartbeats 4000000
/-! Lists of pairs of a page's pairs and their marks, made by a comprehension, for dict(..). -/
namespace L2
open PySem PySem.Spec PyProof.Rows
theorem paired_snoc {α β : Type} {R : α → β → Prop} {x : α} {y : β} : ∀ {xs : List α} {ys : List β}, Paired R xs ys → R x y → Paired R (xs ++ [x]) (ys ++ [y])
  | _, _, .nil, h => .cons h .nil
  | _, _, .cons a r, h => .cons a (paired_snoc r h)
theorem paired_imp {α β : Type} {R S : α → β → Prop} (f : ∀ x y, R x y → S x y) : ∀ {xs : List α} {ys : List β}, Paired R xs ys → Paired S xs ys
  | _, _, .nil => .nil
  | _, _, .cons a r => .cons (f _ _ a) (paired_imp f r)
theorem paired_len {α β : Type} {R : α → β → Prop} : ∀ {xs : List α} {ys : List β}, Paired R xs ys → xs.length = ys.length
  | _, _, .nil => rfl
  | _, _, .cons _ r => by rw [List.length_cons, List.length_cons, paired_len r]
theorem isPairT_same {H G : Hp} {u : Addr} {kv : List Key × V} (s : Same H G) (h : IsPairT H u kv) : IsPairT G u kv := by
  obtain ⟨q, a, b⟩ := h
  exact ⟨q, s _ _ a, s _ _ b⟩
theorem isPairT_upd {H : Hp} {u D : Addr} {kv : List Key × V} {xs ys : List V} (hD : H D = some (.lst xs)) (h : IsPairT H u kv) : IsPairT (upd H D (.lst ys)) u kv := by
  obtain ⟨q, a, b⟩ := h
  exact ⟨q, by rw [upd_ne (ne_of a hD (fun z => nomatch z))]; exact a, by rw [upd_ne (ne_of b hD (fun z => nomatch z))]; exact b⟩
theorem nest_pairs {J : It} {n : Nat} {Gd : Hp → Prop} {Y : Nat → Hp → V → Hp → Prop} (w : Walk J n Gd Y) {ps : List (Str × Str)} (hn : n = ps.length) (h64 : ps.length ≤ 64) {HL : Hp} {D : Addr} (nD : HL D = none)
    (hY : ∀ i x G G', Same HL G → Y i G x G' → G' = G ∧ ∃ p t, ps[i]? = some p ∧ x = .ref t ∧ G t = some (.tup [.str p.1, .str p.2])) (hG : ∀ G, Same HL G → Gd G) {B : V → Hp → (Hp → Prop) → Prop} (g : Str × Str → V)
    (hB : ∀ p t G Nx, p ∈ ps → Same HL G → G t = some (.tup [.str p.1, .str p.2]) → (∀ u G', Same G G' → G u = none → G' u = some (.tup [.ref t, g p]) → ∃ acc, G' D = some (.lst acc) ∧ acc.length < sizeLine ∧ Nx (upd G' D (.lst (acc ++ [.ref u])))) → B (.ref t) G Nx)
    {Qd : Hp → Prop} (hd : ∀ G us, Same HL G → G D = some (.lst (us.map V.ref)) → Paired (IsPairT G) us (ps.map fun p => (key2 p, g p)) → Qd G) :
    ∃ W : Nat → Nat → Hp → Prop, (∃ m, W 0 m (upd HL D (.lst []))) ∧ ∀ i m H, W i m H → (J.stop i H ∧ Qd H) ∨ (J.go i H ∧ ∃ Nx : Hp → Prop, (∀ H', Nx H' → ∃ m', m' < m ∧ W (i + 1) m' H') ∧ ∀ x H', J.yld i H x H' → B x H' Nx) := by
  refine nest_it w (fun i G => Same HL G ∧ ∃ us : List Addr, G D = some (.lst (us.map V.ref)) ∧ Paired (IsPairT G) us ((ps.take i).map fun p => (key2 p, g p))) ⟨same_new nD, [], upd_same, .nil⟩ (fun i G _ h => hG _ h.1) ?_ ?_
  · rintro i x G G' hi ⟨sG, us, hD, hus⟩ y
    obtain ⟨rfl, p, t, hp, rfl, ht⟩ := hY i x G G' sG y
    refine hB p t _ _ (List.mem_of_getElem? hp) sG ht fun u G2 s2 nu hu => ⟨_, s2 _ _ hD, ?_, fun b o e => ?_, us ++ [u], ?_, ?_⟩
    · rw [List.length_map, paired_len hus, List.length_map, List.length_take]
      exact Nat.lt_of_le_of_lt (Nat.min_le_left _ _) (small1000 (by omega))
    · rw [upd_ne (ne_of_none e nD)]
      exact s2 _ _ (sG _ _ e)
    · rw [upd_same, List.map_append]
      rfl
    · rw [List.take_add_one, hp, List.map_append]
      refine paired_snoc (paired_imp (fun _ _ z => isPairT_upd (s2 _ _ hD) (isPairT_same s2 z)) hus) ?_
      exact isPairT_upd (s2 _ _ hD) ⟨t, hu, s2 _ _ ht⟩
  · rintro G ⟨sG, us, hD, hus⟩
    rw [hn, List.take_length] at hus
    exact hd G us sG hD hus
/-- the keys of a sheet -/
theorem keys_sheet {zs : List Str} {f : Str × Str → V} {i : Nat} {x : V} {G G' : Hp} (h : G' = G ∧ ∃ (k : List Key) (v : V) (q : Addr), (sheetOf zs f)[i]? = some (k, v) ∧ x = .ref q ∧ G q = some (.tup (k.map kV))) :
    G' = G ∧ ∃ p t, (pairsOf zs)[i]? = some p ∧ x = .ref t ∧ G t = some (.tup [.str p.1, .str p.2]) := by
  obtain ⟨e, k, v, q, hk, hx, hq⟩ := h
  unfold sheetOf at hk
  rw [List.getElem?_map] at hk
  obtain ⟨p, hp, e2⟩ := Option.map_eq_some_iff.mp hk
  cases e2
  exact ⟨e, p, q, hp, hx, hq⟩
theorem nodup_keys2 {ps : List (Str × Str)} (h : ps.Nodup) (g : Str × Str → V) : ((ps.map fun p => (key2 p, g p)).map (·.1)).Nodup := by
  rw [List.map_map]
  refine List.Pairwise.map _ (fun a b n z => n (key2_inj z)) h
theorem merge_new {κ : List (Key × V)} : ∀ {kvs acc : List (Key × V)}, ((acc ++ kvs).map (·.1)).Nodup → mergeK acc kvs = acc ++ kvs
  | [], acc, _ => by rw [List.append_nil]; rfl
  | (k, v) :: r, acc, h => by
    have nk : k ∉ acc.map (·.1) := fun z => by
      rw [List.map_append, List.map_cons] at h
      exact (List.nodup_append.mp h).2.2 k z k (List.mem_cons_self ..) rfl
    have e : putK acc k v = acc ++ [(k, v)] := putK_new _ (valV_none nk)
    show mergeK (putK acc k v) r = _
    rw [e, merge_new (κ := κ) (kvs := r) (by rw [List.append_assoc]; exact h), List.append_assoc]
    rfl
theorem putRow_none {a b : Str} : ∀ {es : List (Str × V)} {f : Str × Str → V}, (∀ e ∈ es, e.1 ≠ b) → putRow f a es (a, b) = f (a, b)
  | [], _, _ => rfl
  | e :: es, f, h => by
    show putRow (withF f (a, e.1) e.2) a es (a, b) = _
    rw [putRow_none fun x hx => h x (List.mem_cons_of_mem _ hx)]
    unfold withF
    rw [if_neg fun z => h e (List.mem_cons_self ..) (Prod.mk.inj z).2.symm]
theorem putRow_else {a : Str} {p : Str × Str} (hp : p.1 ≠ a) : ∀ {es : List (Str × V)} {f : Str × Str → V}, putRow f a es p = f p
  | [], _ => rfl
  | e :: es, f => by
    show putRow (withF f (a, e.1) e.2) a es p = _
    rw [putRow_else hp]
    unfold withF
    rw [if_neg fun z => hp (by rw [z])]
theorem putRow_val {a b : Str} : ∀ {es : List (Str × V)} {f : Str × Str → V}, (es.map (·.1)).Nodup → b ∈ es.map (·.1) → valV (rowD es) (Sum.inr b : Key) = some (putRow f a es (a, b))
  | [], _, _, h => by cases h
  | e :: es, f, nd, h => by
    show valV ((Sum.inr e.1, e.2) :: rowD es) (Sum.inr b : Key) = some (putRow (withF f (a, e.1) e.2) a es (a, b))
    rw [List.map_cons, List.nodup_cons] at nd
    by_cases c : e.1 = b
    · subst c
      rw [valV_pos rfl, putRow_none fun x hx z => nd.1 (List.mem_map.mpr ⟨x, hx, z⟩)]
      unfold withF
      rw [if_pos rfl]
    · rw [List.map_cons] at h
      rcases List.mem_cons.mp h with z | z
      · exact absurd z.symm c
      · rw [valV_neg fun z => c (Sum.inr.inj z)]
        exact putRow_val nd.2 z
theorem isKeys_mem {H : Hp} {f : Str × Str → V} {b : Addr} : ∀ {l : List (Str × Str)} {bs : List Addr}, IsKeys H (l.map fun p => (key2 p, f p)) bs → b ∈ bs → ∃ p ∈ l, H b = some (.tup [.str p.1, .str p.2])
  | [], _, h, hb => by
    cases h
    cases hb
  | p :: l, _, h, hb => by
    cases h with
    | cons h t =>
      rcases List.mem_cons.mp hb with e | e
      · subst e
        exact ⟨p, List.mem_cons_self .., h⟩
      · obtain ⟨q, hq, k⟩ := isKeys_mem (l := l) t e
        exact ⟨q, List.mem_cons_of_mem _ hq, k⟩
theorem Told.put {zs : List Str} {m : Int} {f g : Str × Str → V} (t : Told zs m f) (h : ∀ p ∈ pairsOf zs, mkOk m (g p) = true) : Told zs m g := ⟨t.mem, t.nd, t.one, t.most, t.m1, t.m10, h⟩
theorem but_fresh {H G : Hp} {a p : Addr} {o : HO} (b : But a H G) (n : H p = none) : But a H (upd G p o) := fun c u nc e => by
  rw [upd_ne (ne_of_none e n)]
  exact b c u nc e
theorem Pool.lists {H : Hp} {a l : Addr} {zs : List Str} (h : Pool H a) (hl : H l = some (.lst (zs.map V.str))) (one : 1 ≤ zs.length) : l ≠ a := fun e => by
  obtain ⟨g, q, ha, _⟩ := h
  rw [e, ha] at hl
  cases zs with
  | nil => cases one
  | cons z zs => cases hl
theorem Pool.other {H : Hp} {a b : Addr} {o : HO} (h : Pool H a) (hb : H b = some o) (n : ∀ xs, o ≠ .lst xs) : b ≠ a := fun e => by
  obtain ⟨g, q, ha, _⟩ := h
  rw [e, ha] at hb
  exact n _ (Option.some.inj hb).symm
theorem PageOf.but {H G : Hp} {C CP x a : Addr} {zs : List Str} {m : Int} {f : Str × Str → V} (P : Pool H a) (b : But a H G) (one : 1 ≤ zs.length) (h : PageOf H C CP x zs m f) : PageOf G C CP x zs m f := by
  obtain ⟨dx, c, d, hx, ⟨dc, lc, hc, hl⟩, hd⟩ := h
  exact ⟨dx, c, d, b _ _ (P.other hx fun _ z => nomatch z) hx, ⟨dc, lc, b _ _ (P.other hc fun _ z => nomatch z) hc, b _ _ (P.lists hl one) hl⟩, b _ _ (P.other hd fun _ z => nomatch z) hd⟩
theorem Pool.same {H G : Hp} {a : Addr} (s : Same H G) (h : Pool H a) : Pool G a := by
  obtain ⟨g, q, ha, hb⟩ := h
  exact ⟨g, q, s _ _ ha, hb⟩
/-- a row of drawn marks -/
structure RowAt (a : Addr) (m : Int) (G : Hp) (us : List Addr) (es : List (Str × V)) (ks : List Str) : Prop where
  pool : Pool G a
  tups : Paired (fun u e => G u = some (.tup [.str e.1, e.2])) us es
  keys : es.map (·.1) = ks
  marks : ∀ e ∈ es, mkOk m e.2 = true
theorem nest_row {J : It} {n : Nat} {Gd : Hp → Prop} {Y : Nat → Hp → V → Hp → Prop} (w : Walk J n Gd Y) {ys : List Str} (hn : n = ys.length) (h8 : ys.length ≤ 8) {HL : Hp} {D a : Addr} {m : Int} {who : Str} (nD : HL D = none) (P : Pool HL a)
    (hY : ∀ i x G G', Y i G x G' → G' = G ∧ (ys.map V.str)[i]? = some x) (hG : ∀ G, But a HL G → Gd G) {B : V → Hp → (Hp → Prop) → Prop}
    (hB : ∀ b G Nx, b ∈ ys → Pool G a → But a HL G → (b = who → Nx G) → (b ≠ who → ∀ (r : Int) u G', 0 ≤ r → r ≤ m → Pool G' a → But a G G' → G' u = some (.tup [.str b, .int r]) → ∃ acc, G' D = some (.lst acc) ∧ acc.length < sizeLine ∧ Nx (upd G' D (.lst (acc ++ [.ref u])))) → B (.str b) G Nx)
    {Qd : Hp → Prop} (hd : ∀ G us es, But a HL G → G D = some (.lst (us.map V.ref)) → RowAt a m G us es (ys.filter fun b => b ≠ who) → Qd G) :
    ∃ W : Nat → Nat → Hp → Prop, (∃ m, W 0 m (upd HL D (.lst []))) ∧ ∀ i m H, W i m H → (J.stop i H ∧ Qd H) ∨ (J.go i H ∧ ∃ Nx : Hp → Prop, (∀ H', Nx H' → ∃ m', m' < m ∧ W (i + 1) m' H') ∧ ∀ x H', J.yld i H x H' → B x H' Nx) := by
  have nDa : D ≠ a := fun e => by
    obtain ⟨g, q, ha, _⟩ := P
    rw [e, ha] at nD
    cases nD
  refine nest_it w (fun i G => But a HL G ∧ ∃ (us : List Addr) (es : List (Str × V)), G D = some (.lst (us.map V.ref)) ∧ RowAt a m G us es ((ys.take i).filter fun b => b ≠ who)) ⟨But.of_same (same_new nD), [], [], upd_same, P.same (same_new nD), .nil, rfl, fun e he => by cases he⟩ (fun i G _ h => hG _ h.1) ?_ ?_
  · rintro i x G G' hi ⟨bG, us, es, hD, r⟩ y
    obtain ⟨rfl, hx⟩ := hY i x G G' y
    rw [List.getElem?_map] at hx
    obtain ⟨b, hb, rfl⟩ := Option.map_eq_some_iff.mp hx
    have tk : (ys.take (i + 1)).filter (fun b => b ≠ who) = ((ys.take i).filter fun b => b ≠ who) ++ ([b].filter fun b => b ≠ who) := by
      rw [List.take_add_one, hb, List.filter_append]
      rfl
    refine hB b _ _ (List.mem_of_getElem? hb) r.pool bG (fun e => ⟨bG, us, es, hD, r.pool, r.tups, ?_, r.marks⟩) fun ne rr u G2 h0 h1 P2 b2 hu => ⟨_, b2 _ _ nDa hD, ?_, fun c o nc e => ?_, us ++ [u], es ++ [(b, .int rr)], ?_, ?_, ?_, ?_, fun e he => ?_⟩
    · rw [tk, e, List.filter_cons_of_neg (by simp), List.filter_nil, List.append_nil]
      exact r.keys
    · rw [List.length_map, r.tups.length, ← List.length_map (f := (·.1)), r.keys]
      refine Nat.lt_of_le_of_lt (List.length_filter_le _ _) (small1000 ?_)
      rw [List.length_take]
      omega
    · rw [upd_ne (ne_of_none e nD)]
      exact b2 _ _ nc (bG _ _ nc e)
    · rw [upd_same, List.map_append]
      rfl
    · obtain ⟨g, q, ha, hq⟩ := P2
      exact ⟨g, q, by rw [upd_ne nDa.symm]; exact ha, hq⟩
    · refine Paired.snoc (Paired.mono (fun x e h => ?_) r.tups) ?_
      · rw [upd_ne (ne_of (b2 _ _ (r.pool.other h fun _ z => nomatch z) h) (b2 _ _ nDa hD) (fun z => nomatch z))]
        exact b2 _ _ (r.pool.other h fun _ z => nomatch z) h
      · rw [upd_ne (ne_of hu (b2 _ _ nDa hD) (fun z => nomatch z))]
        exact hu
    · rw [tk, List.map_append, r.keys, List.filter_cons_of_pos (by simpa using ne), List.filter_nil]
      rfl
    · rcases List.mem_append.mp he with h | h
      · exact r.marks e h
      · obtain rfl := List.mem_singleton.mp h
        show (decide (V.int rr = V.non) || (decide (0 ≤ rr) && decide (rr ≤ m))) = true
        rw [decide_eq_true h0, decide_eq_true h1]
        simp
  · rintro G ⟨bG, us, es, hD, r⟩
    rw [hn, List.take_length] at r
    exact hd G us es bG hD r
theorem isPairT_unl {H : Hp} {u d : Addr} {kv : List Key × V} {od : Obj} {o o' : HO} (hd : H d = some (.frz od o)) (h : IsPairT H u kv) : IsPairT (upd H d o') u kv := by
  obtain ⟨q, a, b⟩ := h
  exact ⟨q, by rw [upd_ne (ne_of a hd (fun z => nomatch z))]; exact a, by rw [upd_ne (ne_of b hd (fun z => nomatch z))]; exact b⟩
theorem paired_rowD {K : PySem.W.Frag} {G : Hp} : ∀ {us : List Addr} {es : List (Str × V)}, Paired (fun u e => G u = some (.tup [.str e.1, e.2])) us es → Paired (fun p kv => SqT K G p [kV kv.1, kv.2]) us (rowD es)
  | _, _, .nil => .nil
  | _, _, .cons h r => .cons (SqT.of h) (paired_rowD r)
theorem rowD_nodup {es : List (Str × V)} (h : (es.map (·.1)).Nodup) : ((rowD es).map (·.1)).Nodup := by
  unfold rowD
  rw [List.map_map]
  have : (es.map fun e => (Sum.inr e.1 : Key)) = (es.map (·.1)).map Sum.inr := by rw [List.map_map]; rfl
  show ((es.map fun e => (Sum.inr e.1 : Key))).Nodup
  rw [this]
  exact List.Pairwise.map _ (fun a b n z => n (Sum.inr.inj z)) h
theorem merge_row {es : List (Str × V)} (h : (es.map (·.1)).Nodup) : mergeK [] (rowD es) = rowD es := by
  rw [merge_new (κ := []) (by rw [List.nil_append]; exact rowD_nodup h), List.nil_append]
theorem len_filter_ne {zs : List Str} (nd : zs.Nodup) {a : Str} (h : a ∈ zs) : (zs.filter fun b => b ≠ a).length + 1 = zs.length := by
  induction zs with
  | nil => cases h
  | cons z zs ih =>
    rw [List.nodup_cons] at nd
    by_cases c : z = a
    · subst c
      rw [List.filter_cons_of_neg (by simp), List.length_cons]
      congr 1
      congr 1
      exact List.filter_eq_self.mpr fun b hb => by
        have : b ≠ z := fun e => nd.1 (e ▸ hb)
        simpa using this
    · rw [List.filter_cons_of_pos (by simpa using c), List.length_cons, List.length_cons, ih nd.2 ((List.mem_cons.mp h).resolve_left fun e => c e.symm)]
theorem rowFor_of {zs : List Str} {m : Int} {a : Str} {G : Hp} {pa : Addr} {us : List Addr} {es : List (Str × V)} (nd : zs.Nodup) (ha : a ∈ zs) (r : RowAt pa m G us es (zs.reverse.filter fun b => b ≠ a)) : RowFor zs m a es ∧ (es.map (·.1)).Nodup ∧ ∀ b ∈ zs, b ≠ a → b ∈ es.map (·.1) := by
  have nr : zs.reverse.Nodup := (List.reverse_perm zs).nodup_iff.mpr nd
  refine ⟨⟨?_, fun e he => ?_⟩, ?_, fun b hb n => ?_⟩
  · rw [← List.length_map (f := (·.1)), r.keys, len_filter_ne nr (List.mem_reverse.mpr ha), List.length_reverse]
  · have : e.1 ∈ es.map (·.1) := List.mem_map.mpr ⟨e, he, rfl⟩
    rw [r.keys] at this
    obtain ⟨h1, h2⟩ := List.mem_filter.mp this
    exact ⟨List.mem_reverse.mp h1, by simpa using h2, r.marks e he⟩
  · rw [r.keys]
    exact nr.filter _
  · rw [r.keys]
    exact List.mem_filter.mpr ⟨List.mem_reverse.mpr hb, by simpa using n⟩
theorem pairs_some {zs : List Str} (nd : zs.Nodup) (h : 2 ≤ zs.length) : 1 ≤ (pairsOf zs).length := by
  match zs, nd, h with
  | a :: b :: r, nd, _ =>
    have n : a ≠ b := fun e => by
      rw [e] at nd
      exact (List.nodup_cons.mp nd).1 (List.mem_cons_self ..)
    exact List.length_pos_of_mem (mem_pairsOf (List.mem_cons_self ..) (List.mem_cons_of_mem _ (List.mem_cons_self ..)) n)
end L2

set_option Elab.async false
set_option linter.all false
set_option maxRecDepth 100000
set_option maxHeartbeats 4000000
namespace K04
open PySem PySem.Spec PyProof.Rows L2
def spChanged (C CP : Addr) : Sp := fun vs H Q _ => ∃ (a x pl l sd : Addr) (zs : List Str) (m : Int) (f : Str × Str → V), vs = [.ref a, .ref pl, .ref sd, .ref x] ∧ Pool H a ∧ PageOf H C CP x zs m f ∧ H pl = some (.dK (planK l m)) ∧ H l = some (.lst (zs.map V.str)) ∧ H sd = some (.dT (sheetOf zs f)) ∧ Told zs m f ∧
  ∀ G, Pool G a → But a H G → Q (.bl true) G
section
variable {P : Program} {w : World} {K : PySem.W.Frag} {mg : Str → Option Value} {base : Heap} {C CP CB : Addr}
theorem ok_changedRight {fA fD fPk fR fWM fWR fEq : Addr} {fd dD dPk dR dWM dWR dEq : FuncData} (F : Fun K "_law_changed_right" "_law_changed_right" sChangedRight fA fd)
    (GD : FnOk P w K mg base CX0 1 fD dD ["_law_pool", "_law_many"] spDraw) (kD : PySem.W.keepIn K (.ref fD) = true) (bD : Binds K dD ["_law_pool", "_law_many"] []) (gD : mg "_law_draw" = some (.ref fD))
    (GPk : FnOk P w K mg base CX0 2 fPk dPk ["_law_pool", "_law_some"] spPick) (kPk : PySem.W.keepIn K (.ref fPk) = true) (bPk : Binds K dPk ["_law_pool", "_law_some"] []) (gPk : mg "_law_pick" = some (.ref fPk))
    (GR : FnG P w K mg base CX0 8 fR dR ["_law_page", "_law_plan", "_law_sheet_here"] (spPageRight C CP)) (kR : PySem.W.keepIn K (.ref fR) = true) (bR : Binds K dR ["_law_page", "_law_plan", "_law_sheet_here"] []) (gR : mg "_law_page_right" = some (.ref fR))
    (clP : Cls K CP) (mWM : Meth K CP "with_mark" fWM) (GWM : FnOk P w K mg base CX0 8 fWM dWM ["self", "pair", "mark"] (spWithMark C CP)) (bWM : Binds K dWM ["self", "pair", "mark"] [])
    (mWR : Meth K CP "with_row" fWR) (GWR : FnOk P w K mg base CX0 8 fWR dWR ["self", "person", "row"] (spWithRow C CP)) (bWR : Binds K dWR ["self", "person", "row"] [])
    (hsEq : PySem.W.findIn K (.ref CP) "__eq__" = some (some (.ref fEq))) (hfEq : PySem.W.isFn K (.ref fEq) = true) (nfP : PySem.W.notFirst K CP (.ref CP) = true) (GEq : FnOk P w K mg base CX0 2 fEq dEq ["self", "other"] (spPageEq C CP)) (bEq : Binds K dEq ["self", "other"] [])
    (B : Bt mg) (T : Tx mg) (Z : Tp mg) : FnG P w K mg base CX0 9 fA fd ["_law_pool", "_law_plan", "_law_sheet_here", "_law_page"] (spChanged C CP) := by
  refine F.okG scChangedRight (fun vs H Q E h => ?_) (fun cdv A outer s H vs Q _ hg hr h => ?_)
  · obtain ⟨a, x, pl, l, sd, zs, m, f, rfl, _⟩ := h
    rfl
  · obtain ⟨a, x, pl, l, sd, zs, m, f, rfl, hP, hPg, hpl, hl, hsd, tl, q⟩ := h
    have hu200 : (A.deeper (envOfC "_law_changed_right" (defScope sChangedRight) s.heap.objs.size fA cdv)).units + 200 < cLine := by
      have := hr.un
      omega
    have hu1 : (A.deeper (envOfC "_law_changed_right" (defScope sChangedRight) s.heap.objs.size fA cdv)).units + 1 < cLine := by omega
    have hu2 : (A.deeper (envOfC "_law_changed_right" (defScope sChangedRight) s.heap.objs.size fA cdv)).units + 2 < cLine := by omega
    refine ⟨_, pss_cons (ps_if (pt_cmpR op_lt (pe_callB call_len_seq (by rfl) B.len PySem.boot_len (pa_cons (pe_dget (by exact hu1) (pv 1) pe_str (fun _ _ => rfl)) pa_nil)) pe_int (nomark _))
        (pss_one (ps_ret (pe_cmpR (op_eqOwn (E := fun _ _ _ => False) hsEq hfEq GEq (hr.mono (by decide)) bEq pass0) (pe_meth (pv 3) clP mWR GWR (hr.mono (by decide)) bWR .nil pass0 (pa_cons (pe_ix ix_list (pe_dget (by exact hu1) (pv 1) pe_str (fun _ _ => rfl)) pe_int (fun _ _ => rfl)) (pa_cons pe_dnewK pa_nil))) (pv 3) (nomark _)))) pss_nil)
      (pss_cons (ps_par (i := 4) (j := 5) (by rfl) scChangedRight.nd rfl rfl (by decide) rfl rfl (pa_cons (pe_call GPk (hr.mono (by decide)) (by rfl) gPk kPk bPk .nil pass0 (pa_cons (pv 0) (pa_cons (pe_callTy (call_list_dT rfl) (by rfl) T.list (by decide +kernel) (pa_cons (pv 2) pa_nil)) pa_nil)))
        (pa_cons (pe_call GPk (hr.mono (by decide)) (by rfl) gPk kPk bPk .nil pass0 (pa_cons (pv 0) (pa_cons (pe_lst (pa_cons pe_non (pa_cons pe_int (pa_cons (pe_dget (by exact hu1) (pv 1) pe_str (fun _ _ => rfl)) pa_nil)))) pa_nil))) pa_nil)) (by rfl))
      (pss_cons (ps_set (i := 6) scChangedRight.nd rfl (.inl rfl) (pe_callTy (call_dictT rfl (by exact hu2)) (by rfl) Z.dict (by decide +kernel) (pa_cons (pe_lock (pe_lc (own := [("_law_one", 7)]) (g := gName 7) (by rfl) scChangedRight.nd (pi_keys (pv 2)) (blkOk_by (own := [("_law_one", 7)]) (N := ["_law_pool", "_law_plan", "_law_sheet_here", "_law_page", "_law_pair", "_law_mark", "_law_later", "_law_one", "_law_person", "_law_row", "_law_found"]) (sc := defScope sChangedRight) (by decide +kernel))
          (fun _ _ _ _ _ => pg_name (i := 7) scChangedRight.nd rfl (Or.inl rfl)) (fun _ _ _ _ _ => pts_nil) (fun _ _ _ _ _ => by exact pe_tup (pa_cons (pv 7) (pa_cons (pe_dget (by exact hu1) (pv 2) (pv 7) (fun _ _ => rfl)) pa_nil))))) pa_nil)))
      (pss_cons (ps_dput (by exact hu1) (pv 6) (pv 4) (pv 5) rfl)
      (pss_cons (ps_if (pt_not (pt_val (pe_callG GR hg (hr.mono (by decide)) (by rfl) gR kR bR (E := fun _ _ _ _ => False) (fun _ => pass0) (pa_cons (pe_meth (pv 3) clP mWM GWM (hr.mono (by decide)) bWM .nil pass0 (pa_cons (pv 4) (pa_cons (pv 5) pa_nil))) (pa_cons (pv 1) (pa_cons (pv 6) pa_nil)))))) (pss_one (ps_ret pe_bl)) pss_nil)
      (pss_cons (ps_if (pt_cmpR op_ne (pe_cmpR (op_eqOwn (E := fun _ _ _ => False) hsEq hfEq GEq (hr.mono (by decide)) bEq pass0) (pe_meth (pv 3) clP mWM GWM (hr.mono (by decide)) bWM .nil pass0 (pa_cons (pv 4) (pa_cons (pv 5) pa_nil))) (pv 3) (nomark _)) (pe_cmpR (op_eqT (by exact hu2)) (pv 6) (pv 2) (nomark _)) (nomark _)) (pss_one (ps_ret pe_bl)) pss_nil)
      (pss_cons (ps_set (i := 8) scChangedRight.nd rfl (.inr rfl) (pe_call GPk (hr.mono (by decide)) (by rfl) gPk kPk bPk .nil pass0 (pa_cons (pv 0) (pa_cons (pe_dget (by exact hu1) (pv 1) pe_str (fun _ _ => rfl)) pa_nil))))
      (pss_cons (ps_set (i := 9) scChangedRight.nd rfl (.inr rfl) (pe_callTy (call_dictP rfl) (by rfl) Z.dict (by decide +kernel) (pa_cons (pe_lc (own := [("_law_one", 7)]) (g := gName 7) (by rfl) scChangedRight.nd (pi_list (pe_revL (pe_dget (by exact hu1) (pv 1) pe_str (fun _ _ => rfl)))) (blkOk_by (own := [("_law_one", 7)]) (N := ["_law_pool", "_law_plan", "_law_sheet_here", "_law_page", "_law_pair", "_law_mark", "_law_later", "_law_one", "_law_person", "_law_row", "_law_found"]) (sc := defScope sChangedRight) (by decide +kernel))
          (fun _ _ _ _ _ => pg_name (i := 7) scChangedRight.nd rfl (Or.inl rfl)) (fun _ _ _ _ _ => pts_one (pt_cmpR op_ne (pv 7) (pv 8) (nomark _))) (fun _ _ _ _ _ => by exact pe_tup (pa_cons (pv 7) (pa_cons (pe_call GD (Room.mono (by exact hr) (by decide)) (by rfl) gD kD bD .nil pass0 (pa_cons (pv 0) (pa_cons (pe_op op_add (pe_dget (by exact hu1) (pv 1) pe_str (fun _ _ => rfl)) pe_int) pa_nil))) pa_nil)))) pa_nil)))
      (pss_cons (ps_set (i := 6) scChangedRight.nd rfl (.inl rfl) (pe_callTy (call_dictT rfl (by exact hu2)) (by rfl) Z.dict (by decide +kernel) (pa_cons (pe_lock (pe_lc (own := [("_law_one", 7)]) (g := gName 7) (by rfl) scChangedRight.nd (pi_keys (pv 2)) (blkOk_by (own := [("_law_one", 7)]) (N := ["_law_pool", "_law_plan", "_law_sheet_here", "_law_page", "_law_pair", "_law_mark", "_law_later", "_law_one", "_law_person", "_law_row", "_law_found"]) (sc := defScope sChangedRight) (by decide +kernel))
          (fun _ _ _ _ _ => pg_name (i := 7) scChangedRight.nd rfl (Or.inl rfl)) (fun _ _ _ _ _ => pts_nil) (fun _ _ _ _ _ => by exact pe_tup (pa_cons (pv 7) (pa_cons (pe_ifExp (pt_cmpR op_eq (pe_ix (r := rIxT K) ix_tup (pv 7) pe_int (fun _ _ => rfl)) (pv 8) (nomark _)) (pe_dget (by exact hu1) (pv 9) (pe_ix (r := rIxT K) ix_tup (pv 7) pe_int (fun _ _ => rfl)) (fun _ _ => rfl)) (pe_dget (by exact hu1) (pv 2) (pv 7) (fun _ _ => rfl))) pa_nil))))) pa_nil)))
      (pss_cons (ps_set (i := 10) scChangedRight.nd rfl (.inl rfl) (pe_meth (pv 3) clP mWR GWR (hr.mono (by decide)) bWR .nil pass0 (pa_cons (pv 8) (pa_cons (pv 9) pa_nil))))
      (pss_cons (ps_expr (pe_dclear (pv 9)))
      (pss_one (ps_ret (pe_callG GR hg (hr.mono (by decide)) (by rfl) gR kR bR (E := fun _ _ _ _ => False) (fun _ => pass0) (pa_cons (pv 10) (pa_cons (pv 1) (pa_cons (pv 6) pa_nil)))))))))))))))), ?_⟩
    obtain ⟨dx, cc, d, hx, hc, hd⟩ := id hPg
    have nd := tl.nd
    have z8 := tl.most
    have oz : ∀ z ∈ zs, PyData.strOk z = true := fun z h => (names_short z (tl.mem z h)).2
    have l64 : (pairsOf zs).length ≤ 64 := pairs_len z8 z8
    have mkf := sheet_mk fun p hp => mkOk_isMk (tl.marks p hp)
    refine ⟨_, rfl, pl, _, rfl, get_people hpl, l, zs.map V.str, rfl, .inl (SqL.of hl), _, _, rfl, rfl, _, rfl, ite2 (fun c => ?_) (fun c => ?_)⟩
    · -- one person
      rw [List.length_map] at c
      have c1 : zs.length = 1 := by
        have := of_decide_eq_true c
        have := tl.one
        omega
      obtain ⟨z, rfl⟩ := List.length_eq_one_iff.mp c1
      refine ⟨_, rfl, x, dx, _, rfl, hx, rfl, _, rfl, pl, _, rfl, get_people hpl, l, _, 0, .str z, rfl, rfl, SqL.of hl, rfl, fun r nr => ?_⟩
      have s1 : Same H (upd H r (.dK [])) := same_new nr
      refine ⟨x, r, z, [z], m, f, [], rfl, hPg.same s1, nd, by simp, List.mem_singleton.mpr rfl, tl.marks, upd_same, ⟨rfl, fun e he => by cases he⟩, fun H2 y s2 hy => ?_⟩
      have S2 := s1.trans s2
      obtain ⟨dy, c2, d2, hy2, _, _⟩ := hy.of
      refine ⟨_, rfl, y, dy, x, _, .ref CP, rfl, rfl, hy2, .ins ((S2.trans (Same.refl _)) _ _ hx), nfP, y, x, [z], m, f, rfl, hy.of, nd, oz, fun p hp => mkOk_isMk (tl.marks p hp), .inl ⟨[z], m, f, hPg.same S2, oz, fun p hp => mkOk_isMk (tl.marks p hp), _, rfl, ?_⟩⟩
      rw [decide_eq_true rfl, decide_eq_true rfl, likeB_self]
      exact q _ (hP.same S2) (But.of_same S2)
    · -- more
      have two : 2 ≤ zs.length := by
        rw [List.length_map] at c
        have := mt decide_eq_true c
        omega
      have kpl : ∀ {G}, But a H G → G pl = some (.dK (planK l m)) := fun b => b _ _ (hP.other hpl fun _ z => nomatch z) hpl
      have kl : ∀ {G}, But a H G → G l = some (.lst (zs.map V.str)) := fun b => b _ _ (hP.lists hl tl.one) hl
      have ksd : ∀ {G}, But a H G → G sd = some (.dT (sheetOf zs f)) := fun b => b _ _ (hP.other hsd fun _ z => nomatch z) hsd
      have kx : ∀ {G}, But a H G → G x = some (.ins CP dx (pageFs cc d)) := fun b => b _ _ (hP.other hx fun _ z => nomatch z) hx
      have kpg : ∀ {G}, But a H G → PageOf G C CP x zs m f := fun b => hPg.but hP b tl.one
      have nal : l ≠ a := hP.lists hl tl.one
      have mk1 : ∀ p ∈ pairsOf zs, isMk (f p) = true := fun p hp => mkOk_isMk (tl.marks p hp)
      refine ⟨_, rfl, _, rfl, sd, _, rfl, .inl hsd, fun l3 bs nl3 hbs => ?_⟩
      have s3 : Same H (upd H l3 (.lst (bs.map V.ref))) := same_new nl3
      have n3a : l3 ≠ a := fun e => by
        obtain ⟨g, r, ha, _⟩ := hP
        rw [← e, nl3] at ha
        cases ha
      have lbs : bs.length = (pairsOf zs).length := by
        have := Paired.length hbs
        rw [sheet_len] at this
        exact this.symm
      have p1 : 1 ≤ (pairsOf zs).length := pairs_some nd two
      refine ⟨a, l3, bs.map V.ref, rfl, hP.same s3, upd_same, n3a, by rw [List.length_map, lbs]; exact p1, by rw [List.length_map]; omega, fun v1 H4 hv1 hP4 b4 => ?_⟩
      have B4 : But a H H4 := (But.of_same s3).trans b4
      obtain ⟨t, hbt, rfl⟩ := List.mem_map.mp hv1
      obtain ⟨p, hp, ht0⟩ := isKeys_mem hbs hbt
      have kt : ∀ {G}, But a H G → G t = some (.tup [.str p.1, .str p.2]) := fun b => b _ _ (hP.other ht0 fun _ z => nomatch z) ht0
      refine ⟨_, rfl, _, rfl, pl, _, rfl, get_most (kpl B4), by show 3 ≤ sizeLine; decide, fun l5 nl5 => ?_⟩
      have s5 : Same H4 (upd H4 l5 (.lst [.non, .int 0, .int m])) := same_new nl5
      have n5a : l5 ≠ a := fun e => by
        obtain ⟨g, r, ha, _⟩ := hP4
        rw [← e, nl5] at ha
        cases ha
      refine ⟨a, l5, _, rfl, hP4.same s5, upd_same, n5a, by show 1 ≤ 3; decide, by show 3 ≤ 1000; decide, fun v2 H6 hv2 hP6 b6 => ?_⟩
      have B6 : But a H H6 := B4.trans ((But.of_same s5).trans b6)
      have mv2 : mkOk m v2 = true := by
        have m1 := tl.m1
        rcases List.mem_cons.mp hv2 with rfl | hv2
        · rfl
        rcases List.mem_cons.mp hv2 with rfl | hv2
        · show (decide (V.int 0 = V.non) || (decide ((0 : Int) ≤ 0) && decide ((0 : Int) ≤ m))) = true
          rw [decide_eq_true (show (0 : Int) ≤ m by omega)]
          simp
        · obtain rfl := List.mem_singleton.mp hv2
          show (decide (V.int m = V.non) || (decide ((0 : Int) ≤ m) && decide (m ≤ m))) = true
          rw [decide_eq_true (show (0 : Int) ≤ m by omega), decide_eq_true (Int.le_refl m)]
          simp
      refine ⟨_, _, rfl, ?_⟩
      -- another sheet
      have sd6 := ksd B6
      refine ⟨sd, _, sd6, trivial, fun od => ?_⟩
      have dL : upd H6 sd (.frz od (.dT (sheetOf zs f))) sd = some (.frz od (.dT (sheetOf zs f))) := upd_same
      have bL : But sd H6 (upd H6 sd (.frz od (.dT (sheetOf zs f)))) := But.upd
      have un : ∀ G, Same (upd H6 sd (.frz od (.dT (sheetOf zs f)))) G → Same H6 (upd G sd (.dT (sheetOf zs f))) := fun G sG => unlock_same sd6 sG
      generalize upd H6 sd (.frz od (.dT (sheetOf zs f))) = HL at dL bL un
      refine ⟨_, rfl, sd, od, rfl, .inr ⟨_, dL, fun D nD => ?_⟩⟩
      refine nest_pairs (walk_keysT (kvs := sheetOf zs f)) sheet_len l64 nD (fun i x G G' _ y => keys_sheet y) (fun G sG => sG _ _ dL) f ?_ ?_
      · rintro p t G Nx hp sG ht k
        have gt : DGet G sd (.ref t) (some (f p)) := .inr ⟨_, key2 p, t, .inr ⟨od, sG _ _ dL⟩, rfl, ht, (valV_sheet hp).symm⟩
        exact ⟨rfl, _, rfl, _, rfl, _, rfl, sd, _, rfl, gt, (by show 2 ≤ sizeLine; decide), fun u nu => k u _ (same_new nu) nu upd_same⟩
      rintro G7 us sG7 hD7 hus
      have d7 := sG7 _ _ dL
      refine ⟨d7, ?_⟩
      have U7 := un G7 sG7
      have nDs : D ≠ sd := ne_of hD7 d7 (fun z => nomatch z)
      have hDb : upd G7 sd (.dT (sheetOf zs f)) D = some (.lst (us.map V.ref)) := by rw [upd_ne nDs]; exact hD7
      have husb : Paired (IsPairT (upd G7 sd (.dT (sheetOf zs f)))) us (sheetOf zs f) := Paired.mono (fun _ _ z => isPairT_unl d7 z) hus
      generalize upd G7 sd (.dT (sheetOf zs f)) = H7 at U7 hDb husb
      clear dL bL un d7 hD7 hus sG7 nD
      refine ⟨D, us, _, rfl, hDb, husb, sheet_nodup nd f, fun q5 nq5 => ?_⟩
      have B7 : But a H H7 := B6.trans (But.of_same U7)
      have s8 : Same H7 (upd H7 q5 (.dT (sheetOf zs f))) := same_new nq5
      have nq0 : H q5 = none := by
        cases e : H q5 with
        | none => rfl
        | some o =>
          have n5 : q5 ≠ a := fun z => by
            obtain ⟨g, r, ha, _⟩ := (hP6.same U7)
            rw [z, ha] at nq5
            cases nq5
          rw [B7 _ _ n5 e] at nq5
          cases nq5
      have B8 : But a H (upd H7 q5 (.dT (sheetOf zs f))) := B7.trans (But.of_same s8)
      have P8 := (hP6.same U7).same s8
      refine ⟨_, rfl, _, rfl, _, rfl, q5, _, rfl, DPut.t (k := key2 p) upd_same (kt B8) (Nat.lt_of_le_of_lt (by rw [sheet_len]; exact l64) (small1000 (by omega))), ?_⟩
      rw [put_sheet hp]
      have B9 := but_fresh (o := .dT (sheetOf zs (withF f p v2))) B8 nq0
      have P9 : Pool (upd (upd H7 q5 (.dT (sheetOf zs f))) q5 (.dT (sheetOf zs (withF f p v2)))) a := by
        obtain ⟨g, r, ha, hb⟩ := P8
        obtain ⟨g0, r0, ha0, _⟩ := id hP
        exact ⟨g, r, by rw [upd_ne (ne_of_none ha0 nq0)]; exact ha, hb⟩
      have h9 : upd (upd H7 q5 (.dT (sheetOf zs f))) q5 (.dT (sheetOf zs (withF f p v2))) q5 = some (.dT (sheetOf zs (withF f p v2))) := upd_same
      generalize upd (upd H7 q5 (.dT (sheetOf zs f))) q5 (.dT (sheetOf zs (withF f p v2))) = H9 at B9 P9 h9
      clear B8 P8 s8 husb hDb
      have mkw : ∀ r ∈ pairsOf zs, mkOk m (withF f p v2 r) = true := fun r hr => by
        unfold withF
        split
        · exact mv2
        · exact tl.marks r hr
      have mkw1 : ∀ p' ∈ pairsOf zs, isMk (withF f p v2 p') = true := fun p' hp => mkOk_isMk (mkw p' hp)
      refine ⟨_, rfl, x, dx, _, rfl, kx B9, rfl, _, rfl, _, rfl, x, t, v2, zs, m, f, p, rfl, kpg B9, nd, z8, oz, tl.marks, hp, kt B9, mv2, fun H10 y s10 hy => ?_⟩
      have B10 := B9.trans (But.of_same s10)
      refine ⟨_, rfl, _, rfl, y, pl, l, q5, zs, m, withF f p v2, rfl, hy.of, hy.notOwn h9, kpl B10, kl B10, s10 _ _ h9, tl.put mkw, fun H11 s11 => ?_⟩
      refine ⟨true, rfl, iteF ?_⟩
      have S11 := s10.trans s11
      have B11 := B9.trans (But.of_same S11)
      refine ⟨_, rfl, x, dx, _, rfl, kx B11, rfl, _, rfl, _, rfl, x, t, v2, zs, m, f, p, rfl, kpg B11, nd, z8, oz, tl.marks, hp, kt B11, mv2, fun H12 y2 s12 hy2 => ?_⟩
      have S12 := S11.trans s12
      have B12 := B9.trans (But.of_same S12)
      obtain ⟨dy2, c2, d2, hyx2, _, _⟩ := hy2.of
      refine ⟨_, rfl, y2, dy2, x, _, .ref CP, rfl, rfl, hyx2, .ins (kx B12), nfP, y2, x, zs, m, withF f p v2, rfl, hy2.of, nd, oz, mkw1, .inl ⟨zs, m, f, kpg B12, oz, mk1, _, rfl, ?_⟩⟩
      refine ⟨_, rfl, _, rfl, q5, sd, _, _, rfl, rfl, S12 _ _ h9, ksd B12, sheet_mk mkw1, sheet_mk mk1, rfl, _, rfl, ?_⟩
      rw [same_sheets nd, decide_eq_true (show m = m from rfl), decide_eq_true (show zs = zs from rfl), Bool.true_and, Bool.true_and, Bool.false_xor, decide_eq_true rfl]
      refine iteF ?_
      have P12 := P9.same S12
      clear hy hyx2 hy2 S11 B11 s11 s10 B10 s12
      -- a row
      refine ⟨_, rfl, _, rfl, pl, _, rfl, get_people (kpl B12), a, l, zs.map V.str, rfl, P12, kl B12, nal, by rw [List.length_map]; omega, by rw [List.length_map]; omega, fun v3 H13 hv3 P13 b13 => ?_⟩
      have B13 := B12.trans b13
      obtain ⟨who, hwho, rfl⟩ := List.mem_map.mp hv3
      refine ⟨_, rfl, pl, _, rfl, get_people (kpl B13), l, _, rfl, SqL.of (kl B13), fun rv nrv => ?_⟩
      have s14 : Same H13 (upd H13 rv (.lst (zs.map V.str).reverse)) := same_new nrv
      have h14 : upd H13 rv (.lst (zs.map V.str).reverse) rv = some (.lst (zs.map V.str).reverse) := upd_same
      have nra : rv ≠ a := fun e => by
        obtain ⟨g, r, ha, _⟩ := P13
        rw [← e, nrv] at ha
        cases ha
      have P14 := P13.same s14
      have B14 := B13.trans (But.of_same s14)
      generalize upd H13 rv (.lst (zs.map V.str).reverse) = H14 at s14 h14 P14 B14
      refine ⟨rv, rfl, ⟨_, SqL.of h14⟩, fun D nD => ?_⟩
      refine nest_row (walk_list (K := K) (a := rv) (xs := (zs.map V.str).reverse)) (ys := zs.reverse) (a := a) (m := m) (who := who) (by rw [List.length_reverse, List.length_reverse, List.length_map]) (by rw [List.length_reverse]; exact z8) nD P14 (fun i x G G' y => ⟨y.1, by rw [List.map_reverse]; exact y.2⟩) (fun G b => SqL.of (b _ _ nra h14)) ?_ ?_
      · rintro b G Nx hb PG bG skip take
        have BG := B14.trans bG
        refine ⟨rfl, _, rfl, _, rfl, rfl, _, rfl, ?_⟩
        by_cases hab : b = who
        · subst hab
          rw [show (!decide (V.str b = V.str b)) = false by rw [decide_eq_true rfl]; rfl]
          exact iteF (skip rfl)
        · rw [show (!decide (V.str b = V.str who)) = true by rw [decide_eq_false (fun z => hab (V.str.inj z))]; rfl]
          refine iteT ⟨_, rfl, _, rfl, _, rfl, pl, _, rfl, get_most (kpl BG), _, _, rfl, rfl, a, _, rfl, PG, by have := tl.m1; omega, by have := tl.m10; omega, fun r1 G3 r10 r11 hP3 b3 => ⟨(by show 2 ≤ sizeLine; decide), fun u nu => ?_⟩⟩
          exact take hab r1 u _ r10 (by omega) (hP3.same (same_new nu)) (b3.trans (But.of_same (same_new nu))) upd_same
      rintro G15 us es b15 hD15 row
      have B15 := B14.trans b15
      obtain ⟨rF, ndE, allE⟩ := rowFor_of nd hwho row
      refine ⟨D, us, rowD es, rfl, SqL.of hD15, paired_rowD row.tups, fun q7 nq7 => ?_⟩
      rw [merge_row ndE]
      have s16 : Same G15 (upd G15 q7 (.dK (rowD es))) := same_new nq7
      have h16 : upd G15 q7 (.dK (rowD es)) q7 = some (.dK (rowD es)) := upd_same
      have P16 := row.pool.same s16
      have B16 := B15.trans (But.of_same s16)
      have npl7 : pl ≠ q7 := ne_of_none (kpl B15) nq7
      have nq70 : H q7 = none := by
        cases e : H q7 with
        | none => rfl
        | some o =>
          have n5 : q7 ≠ a := fun z => by
            obtain ⟨g, r, ha, _⟩ := row.pool
            rw [z, ha] at nq7
            cases nq7
          rw [B15 _ _ n5 e] at nq7
          cases nq7
      generalize upd G15 q7 (.dK (rowD es)) = H16 at s16 h16 P16 B16
      clear hD15 row b15 nD
      -- the sheet with the row
      have sd16 := ksd B16
      refine ⟨sd, _, sd16, trivial, fun od => ?_⟩
      have dL : upd H16 sd (.frz od (.dT (sheetOf zs f))) sd = some (.frz od (.dT (sheetOf zs f))) := upd_same
      have bL : But sd H16 (upd H16 sd (.frz od (.dT (sheetOf zs f)))) := But.upd
      have un : ∀ G, Same (upd H16 sd (.frz od (.dT (sheetOf zs f)))) G → Same H16 (upd G sd (.dT (sheetOf zs f))) := fun G sG => unlock_same sd16 sG
      generalize upd H16 sd (.frz od (.dT (sheetOf zs f))) = HL at dL bL un
      have rL : HL q7 = some (.dK (rowD es)) := bL _ _ (ne_of h16 sd16 (fun z => nomatch z)) h16
      refine ⟨_, rfl, sd, od, rfl, .inr ⟨_, dL, fun D nD => ?_⟩⟩
      refine nest_pairs (walk_keysT (kvs := sheetOf zs f)) sheet_len l64 nD (fun i x G G' _ y => keys_sheet y) (fun G sG => sG _ _ dL) (putRow f who es) ?_ ?_
      · rintro p t G Nx hp sG ht k
        refine ⟨rfl, _, rfl, _, rfl, t, _, 0, .str p.1, rfl, rfl, SqT.of ht, rfl, _, rfl, rfl, _, rfl, ite2 (fun c => ?_) (fun c => ?_)⟩
        · have e1 : p.1 = who := V.str.inj (of_decide_eq_true c)
          obtain ⟨h1, h2, h3⟩ := mem_pairs hp
          have pe : p = (who, p.2) := by rw [← e1]
          have gt : DGet G q7 (.str p.2) (some (putRow f who es p)) := .inl ⟨_, Sum.inr p.2, .inl (sG _ _ rL), rfl, by rw [putRow_val (a := who) (f := f) ndE (allE _ h2 (fun z => h3 (by rw [e1, z]))), ← pe]⟩
          exact ⟨_, rfl, _, rfl, t, _, 1, .str p.2, rfl, rfl, SqT.of ht, rfl, q7, _, rfl, gt, (by show 2 ≤ sizeLine; decide), fun u nu => k u _ (same_new nu) nu upd_same⟩
        · have e1 : p.1 ≠ who := fun z => c (decide_eq_true (by rw [z]))
          have gt : DGet G sd (.ref t) (some (putRow f who es p)) := .inr ⟨_, key2 p, t, .inr ⟨od, sG _ _ dL⟩, rfl, ht, by rw [putRow_else e1]; exact (valV_sheet hp).symm⟩
          exact ⟨_, rfl, _, rfl, sd, _, rfl, gt, (by show 2 ≤ sizeLine; decide), fun u nu => k u _ (same_new nu) nu upd_same⟩
      rintro G7 us sG7 hD7 hus
      have d7 := sG7 _ _ dL
      refine ⟨d7, ?_⟩
      have U7 := un G7 sG7
      have nDs : D ≠ sd := ne_of hD7 d7 (fun z => nomatch z)
      have hDb : upd G7 sd (.dT (sheetOf zs f)) D = some (.lst (us.map V.ref)) := by rw [upd_ne nDs]; exact hD7
      have husb : Paired (IsPairT (upd G7 sd (.dT (sheetOf zs f)))) us (sheetOf zs (putRow f who es)) := Paired.mono (fun _ _ z => isPairT_unl d7 z) hus
      generalize upd G7 sd (.dT (sheetOf zs f)) = H17 at U7 hDb husb
      clear dL bL un d7 hD7 hus sG7 nD
      refine ⟨D, us, _, rfl, hDb, husb, sheet_nodup nd _, fun q8 nq8 => ?_⟩
      have s18 : Same H17 (upd H17 q8 (.dT (sheetOf zs (putRow f who es)))) := same_new nq8
      have h18 : upd H17 q8 (.dT (sheetOf zs (putRow f who es))) q8 = some (.dT (sheetOf zs (putRow f who es))) := upd_same
      have S18 := U7.trans s18
      generalize upd H17 q8 (.dT (sheetOf zs (putRow f who es))) = H18 at s18 h18 S18
      have B18 := B16.trans (But.of_same S18)
      have mkr := putRow_mk (a := who) (fun e he => (rF.2 e he).2.2) tl.marks
      -- the page with the row
      refine ⟨_, rfl, x, dx, _, rfl, kx B18, rfl, _, rfl, _, rfl, x, q7, who, zs, m, f, es, rfl, kpg B18, nd, z8, hwho, tl.marks, S18 _ _ h16, rF, fun H19 y s19 hy => ?_⟩
      have S19 := S18.trans s19
      have B19 := B18.trans (But.of_same s19)
      refine ⟨_, rfl, .inr (.inr (.inl ⟨rfl, .inl ⟨_, S19 _ _ h16⟩⟩)), q7, _, rfl, rfl, S19 _ _ h16, ?_⟩
      have bc : But q7 H19 (upd H19 q7 (.dK [])) := But.upd
      have BF := but_fresh (o := .dK []) B19 nq70
      have PF : Pool (upd H19 q7 (.dK [])) a := by
        obtain ⟨g, r, ha, hb⟩ := P16.same S19
        exact ⟨g, r, by rw [upd_ne (ne_of ha (S19 _ _ h16) (fun z => nomatch z))]; exact ha, hb⟩
      have hyF : PageOf (upd H19 q7 (.dK [])) C CP y zs m (putRow f who es) := by
        obtain ⟨dy, c3, d3, hy3, ⟨dc3, l3, hc3, hl3⟩, hd3⟩ := hy.of
        have r19 := S19 _ _ h16
        exact ⟨dy, c3, d3, bc _ _ (ne_of hy3 r19 (fun z => nomatch z)) hy3, ⟨dc3, l3, bc _ _ (ne_of hc3 r19 (fun z => nomatch z)) hc3, bc _ _ (ne_of hl3 r19 (fun z => nomatch z)) hl3⟩, bc _ _ (ne_of hd3 r19 (fun z => nomatch z)) hd3⟩
      have hnF : NotOwn (upd H19 q7 (.dK [])) CP y q8 := fun dy c3 d3 e => hy.notOwn h18 dy c3 d3 (by rw [← e, upd_ne (ne_of_none (S18 _ _ h16) hy.1).symm])
      refine ⟨_, rfl, _, rfl, _, rfl, y, pl, l, q8, zs, m, putRow f who es, rfl, hyF, hnF, kpl BF, kl BF, bc _ _ (ne_of (s19 _ _ h18) (S19 _ _ h16) (fun z => nomatch z)) (s19 _ _ h18), tl.put mkr, fun H20 s20 => ?_⟩
      exact q _ (PF.same s20) (BF.trans (But.of_same s20))
end
end K04

set_option Elab.async false
set_option linter.all false
set_option maxRecDepth 100000
set_option maxHeartbeats 4000000
/-! x == d, x an instance with an own __eq__, d a dict whose keys are tuples. -/
namespace L2
open PySem PySem.Spec PyProof.Rows
theorem looks_dT {X : Cx} {pins : List (Addr × Obj)} {σ : St} {H : Hp} {s : Shared} {b : Addr} {kvs : List (List Key × V)} (I : Inv X pins σ H s) (h : H b = some (.dT kvs)) : PySem.W.Looks (model X.prog X.w) s.heap (typeOf (.ref b)) (.type "dict") := by
  obtain ⟨_, es, ep, ⟨o, ho, hx, _⟩, _⟩ := I.rawT h
  intro A Q E s2 k q
  refine wpAny_typeOf_ref (k _ _ ho) ?_
  rw [hx.1]
  exact q
def rEqOwnD (C : Addr) (sp : Sp) (E : XK) : R2 := fun x y H Q => ∃ (a dx b : Addr) (fs : List (Str × V)) (kvs : List (List Key × V)), x = .ref a ∧ y = .ref b ∧ H a = some (.ins C dx fs) ∧ H b = some (.dT kvs) ∧ sp [.ref a, .ref b] H (fun v H2 => ∃ c, v = .bl c ∧ Q (.bl c) H2) E
section
variable {X : Cx} {CX : CXT} {k : Nat} {C f : Addr} {fd : FuncData} {ps : List Str} {sp : Sp} {E : XK}
theorem op_eqOwnD (hs : PySem.W.findIn X.K (.ref C) "__eq__" = some (some (.ref f))) (hf : PySem.W.isFn X.K (.ref f) = true) (nf : PySem.W.notFirst X.K C (.type "dict") = true) (F : FnOk X.prog X.w X.K X.mg X.base CX k f fd ps sp) (hr : Room k X.A) (hb : Binds X.K fd ps []) (hx : Passes CX X E) :
    OpR X (compareOp .Eq) (rEqOwnD C sp E) := by
  intro pins s σ H x y v u Q I rx ry h
  obtain ⟨a, dx, b, fs, kvs, rfl, rfl, ea, eb, q⟩ := h
  cases rx
  cases ry
  obtain ⟨mA, O, _, _, _, _⟩ := ins_get I.hok ea
  obtain ⟨od, J, _⟩ := O.look
  obtain ⟨m, hF⟩ := I.fr
  refine PySem.W.cmp_K (op := .Eq) (tb := .type "dict") hr.units0 hF I.ok.mod.kin J (looks_dT I eb) nf hs hf ?_
  refine wpAny_mono (run_fn (ds := []) (dvs := []) (vs := [.ref a, .ref b]) (us := [.ref a, .ref b]) F hr hb .nil hx I (.cons rfl (.cons rfl .nil)) q) (fun w' s2 z => ?_) fun _ _ z => z
  obtain ⟨w2, H2, I2, rw', c, rfl, q2⟩ := z
  cases rw'
  exact ⟨.bl c, H2, I2, rfl, q2⟩
end
/-! the keys of a sheet, the other way round -/
theorem paired_rev {α β : Type} {R : α → β → Prop} : ∀ {xs : List α} {ys : List β}, Paired R xs ys → Paired R xs.reverse ys.reverse
  | _, _, .nil => .nil
  | _, _, .cons a r => by
    rw [List.reverse_cons, List.reverse_cons]
    exact Paired.snoc (paired_rev r) a
theorem paired_at {α β : Type} {R : α → β → Prop} : ∀ {xs : List α} {ys : List β} {i : Nat} {y : β}, Paired R xs ys → ys[i]? = some y → ∃ x, xs[i]? = some x ∧ R x y
  | _, _, i, y, .nil, h => by simp at h
  | _, _, 0, y, .cons a r, h => by
    cases h
    exact ⟨_, rfl, a⟩
  | _, _, i + 1, y, .cons a r, h => paired_at (i := i) r h
end L2

set_option Elab.async false
set_option linter.all false
set_option maxRecDepth 100000
set_option maxHeartbeats 4000000
namespace L2
open PySem PySem.Spec PyProof.Rows
theorem keys_rev {H G : Hp} {zs : List Str} {f : Str × Str → V} {bs : List Addr} (hbs : IsKeys H (sheetOf zs f) bs) (s : Same H G) {i : Nat} {x : V} (h : (bs.map V.ref).reverse[i]? = some x) : ∃ p t, (pairsOf zs).reverse[i]? = some p ∧ x = .ref t ∧ G t = some (.tup [.str p.1, .str p.2]) := by
  rw [← List.map_reverse, List.getElem?_map] at h
  obtain ⟨b, hb, rfl⟩ := Option.map_eq_some_iff.mp h
  obtain ⟨kv, hkv, hh⟩ := paired_at (paired_rev hbs) hb
  unfold sheetOf at hkv
  rw [← List.map_reverse, List.getElem?_map] at hkv
  obtain ⟨p, hp, rfl⟩ := Option.map_eq_some_iff.mp hkv
  exact ⟨p, b, hp, rfl, s _ _ hh⟩
theorem notOwn_new {H G : Hp} {C CP x sd : Addr} {zs : List Str} {m : Int} {f : Str × Str → V} (h : PageOf H C CP x zs m f) (n : H sd = none) (s : Same H G) : NotOwn G CP x sd := fun dx2 c2 d2 e => by
  obtain ⟨dx, c, d, hx, _, hd⟩ := h
  rw [s _ _ hx] at e
  cases e
  exact ne_of_none hd n
theorem notOwn_keep {H G : Hp} {C CP x sd : Addr} {zs : List Str} {m : Int} {f : Str × Str → V} (h : PageOf H C CP x zs m f) (k : ∀ o, H x = some o → G x = some o) (n : NotOwn H CP x sd) : NotOwn G CP x sd := fun dx2 c2 d2 e => by
  obtain ⟨dx, c, d, hx, _, _⟩ := h
  rw [k _ hx] at e
  cases e
  exact n _ _ _ hx
theorem same_fresh {H G : Hp} {p : Addr} {o : HO} (s : Same H G) (n : H p = none) : Same H (upd G p o) := fun c u e => by
  rw [upd_ne (ne_of_none e n)]
  exact s c u e
theorem mkOk_more {m : Int} {v : V} (h : mkOk m v = true) : mkOk (m + 1) v = true := by
  cases v with
  | non => rfl
  | int i =>
    have e : (decide (0 ≤ i) && decide (i ≤ m)) = true := by
      have : (decide (V.int i = V.non) || (decide (0 ≤ i) && decide (i ≤ m))) = true := h
      simpa using this
    rw [Bool.and_eq_true] at e
    have e1 := of_decide_eq_true e.1
    have e2 := of_decide_eq_true e.2
    show (decide (V.int i = V.non) || (decide (0 ≤ i) && decide (i ≤ m + 1))) = true
    rw [decide_eq_true e1, decide_eq_true (show i ≤ m + 1 by omega)]
    simp
  | _ => cases h
theorem plan_merge {l : Addr} {m : Int} : mergeK [] (planK l m) = planK l m := by
  rw [merge_new (κ := []) (by show ([Sum.inr "people", Sum.inr "most"] : List Key).Nodup; decide +kernel), List.nil_append]
theorem nobody_word : ("nobody" : Str) ∉ names8 ∧ PyData.strOk "nobody" = true ∧ peopleB [V.str "nobody"] = true ∧ ("nobody" : Str).length ≤ 1000 := by decide +kernel
end L2

set_option Elab.async false
set_option linter.all false
set_option maxRecDepth 100000
set_option maxHeartbeats 4000000
namespace K04
open PySem PySem.Spec PyProof.Rows L2
def spLaw (K : PySem.W.Frag) : Sp := fun vs H Q _ => ∃ (a : Addr) (ns : List Int), vs = [.ref a] ∧ SqL K H a (ns.map V.int) ∧ ns.length ≤ 63 ∧ ∀ H', Q (.bl true) H'
abbrev lawN : List Str := ["_law_script", "_law_k", "_law_pool", "_law_plan", "_law_sheet_here", "_law_given", "_law_crowd", "_law_pair", "_law_page", "_law_mark"]
section
variable {P : Program} {w : World} {K : PySem.W.Frag} {mg : Str → Option Value} {base : Heap} {C CP CB : Addr} {mcP : Value}
theorem ok_law {fA fO fD fP fPk fS fR fCh fC fM fPI fRow fEq pM pF fF : Addr} {fd dO dD dP dPk dS dR dCh dC dM dPI dRow dEq dF : FuncData} (F : Fun K "law" "law" sLaw fA fd)
    (FO : Fun K "_law_opened" "_law_opened" sOpened fO dO) (bO : Binds K dO ["_law_script", "_law_k"] []) (gO : mg "_law_opened" = some (.ref fO))
    (GD : FnOk P w K mg base CX0 1 fD dD ["_law_pool", "_law_many"] spDraw) (kD : PySem.W.keepIn K (.ref fD) = true) (bD : Binds K dD ["_law_pool", "_law_many"] []) (gD : mg "_law_draw" = some (.ref fD))
    (GP : FnOk P w K mg base CX0 2 fP dP ["_law_pool", "_law_many"] spPeople) (kP : PySem.W.keepIn K (.ref fP) = true) (bP : Binds K dP ["_law_pool", "_law_many"] []) (gP : mg "_law_people" = some (.ref fP))
    (GPk : FnOk P w K mg base CX0 2 fPk dPk ["_law_pool", "_law_some"] spPick) (kPk : PySem.W.keepIn K (.ref fPk) = true) (bPk : Binds K dPk ["_law_pool", "_law_some"] []) (gPk : mg "_law_pick" = some (.ref fPk))
    (GS : FnOk P w K mg base CX0 2 fS dS ["_law_pool", "_law_plan", "_law_rarely"] (spSheet K)) (kS : PySem.W.keepIn K (.ref fS) = true) (bS : Binds K dS ["_law_pool", "_law_plan", "_law_rarely"] []) (gS : mg "_law_sheet" = some (.ref fS))
    (GR : FnG P w K mg base CX0 8 fR dR ["_law_page", "_law_plan", "_law_sheet_here"] (spPageRight C CP)) (kR : PySem.W.keepIn K (.ref fR) = true) (bR : Binds K dR ["_law_page", "_law_plan", "_law_sheet_here"] []) (gR : mg "_law_page_right" = some (.ref fR))
    (GCh : FnG P w K mg base CX0 9 fCh dCh ["_law_pool", "_law_plan", "_law_sheet_here", "_law_page"] (spChanged C CP)) (kCh : PySem.W.keepIn K (.ref fCh) = true) (bCh : Binds K dCh ["_law_pool", "_law_plan", "_law_sheet_here", "_law_page"] []) (gCh : mg "_law_changed_right" = some (.ref fCh))
    (GC : FnOk P w K mg base (L2.CX P w) 3 fC dC ["self", "people", "most"] (spCrowdNew K C CB)) (M : Mk K C fC) (gC : mg "Crowd" = some (.ref C)) (bC : Binds K dC ["self", "people", "most"] [])
    (MP : Mk K CP fPI) (GPI : FnOk P w K mg base CX0 6 fPI dPI ["self", "crowd", "marks"] (spPageInit C CP)) (gPg : mg "Page" = some (.ref CP)) (bPI : Binds K dPI ["self", "crowd", "marks"] [])
    (clP : Cls K CP) (ppM : PropOf K CP "marks" pM fM) (GM : FnOk P w K mg base CX0 1 fM dM ["self"] (spPageMarks C CP)) (bM : Binds K dM ["self"] [])
    (mRow : Meth K CP "row" fRow) (GRow : FnOk P w K mg base CX0 4 fRow dRow ["self", "person"] (spPageRow C CP)) (bRow : Binds K dRow ["self", "person"] [])
    (hsEq : PySem.W.findIn K (.ref CP) "__eq__" = some (some (.ref fEq))) (hnEq : PySem.W.findIn K (.ref CP) "__ne__" = some (some (.builtin "object.__ne__"))) (hmO : PySem.W.mroIn K CP (.type "object") = some true) (hfEq : PySem.W.isFn K (.ref fEq) = true)
    (nfP : PySem.W.notFirst K CP (.ref CP) = true) (nfPC : PySem.W.notFirst K CP (.ref C) = true) (nfPD : PySem.W.notFirst K CP (.type "dict") = true) (GEq : FnOk P w K mg base CX0 2 fEq dEq ["self", "other"] (spPageEq C CP)) (bEq : Binds K dEq ["self", "other"] [])
    (crP : ClX.CRead K CP mcP) (smF : SMet K CP mcP "filled" pF fF) (GF : FnOk P w K mg base CX0 8 fF dF ["crowd", "mark"] (spFilled C CP)) (bF : Binds K dF ["crowd", "mark"] [])
    (B : Bt mg) (T : Tx mg) (Z : Tp mg) : FnG P w K mg base CX0 10 fA fd ["_law_script"] (spLaw K) := by
  have GO : FnOk P w K mg base CX0 1 fO dO ["_law_script", "_law_k"] (spOpened K) := ok_opened FO B
  refine F.okG scLaw (fun vs H Q E h => ?_) (fun cdv A outer s H vs Q _ hg hr h => ?_)
  · obtain ⟨a, ns, rfl, _⟩ := h
    rfl
  · obtain ⟨a, ns, rfl, hS, hlen, q⟩ := h
    have hu200 : (A.deeper (envOfC "law" (defScope sLaw) s.heap.objs.size fA cdv)).units + 200 < cLine := by
      have := hr.un
      omega
    have hu1 : (A.deeper (envOfC "law" (defScope sLaw) s.heap.objs.size fA cdv)).units + 1 < cLine := by omega
    have hu2 : (A.deeper (envOfC "law" (defScope sLaw) s.heap.objs.size fA cdv)).units + 2 < cLine := by omega
    refine ⟨_, pss_cons (ps_for PassesOwn.never rfl (pi_range1 (by rfl) B.range (pa_cons (pe_callB (call_max2 rfl) (by rfl) B.max (by decide +kernel) (pa_cons pe_int (pa_cons (pe_callB (call_min2 rfl) (by rfl) B.min (by decide +kernel) (pa_cons (pe_callB call_len_seq (by rfl) B.len PySem.boot_len (pa_cons (pv 0) pa_nil)) (pa_cons pe_int pa_nil))) pa_nil))) pa_nil)) (pg_name (i := 1) scLaw.nd rfl (.inl rfl))
        (pss_cons (ps_set (i := 2) scLaw.nd rfl (.inl rfl) (pe_call GO (hr.mono (by decide)) (by rfl) gO FO.kp bO .nil pass0 (pa_cons (pv 0) (pa_cons (pv 1) pa_nil))))
        (pss_cons (ps_set (i := 3) scLaw.nd rfl (.inl rfl) (pe_disp (pps_cons pe_str (pe_call GP (hr.mono (by decide)) (by rfl) gP kP bP .nil pass0 (pa_cons (pv 2) (pa_cons (pe_op op_add pe_int (pe_call GD (hr.mono (by decide)) (by rfl) gD kD bD .nil pass0 (pa_cons (pv 2) (pa_cons pe_int pa_nil)))) pa_nil)))
            (pps_cons pe_str (pe_op op_add pe_int (pe_call GD (hr.mono (by decide)) (by rfl) gD kD bD .nil pass0 (pa_cons (pv 2) (pa_cons pe_int pa_nil)))) pps_nil)) (by rfl) (by rfl) (fun z => by cases z) (by decide)))
        (pss_cons (ps_set (i := 4) scLaw.nd rfl (.inr rfl) (pe_call GS (hr.mono (by decide)) (by rfl) gS kS bS .nil pass0 (pa_cons (pv 2) (pa_cons (pv 3) (pa_cons (pe_call GPk (hr.mono (by decide)) (by rfl) gPk kPk bPk .nil pass0 (pa_cons (pv 2) (pa_cons (pe_lst (pa_cons pe_int (pa_cons pe_int (pa_cons pe_int pa_nil)))) pa_nil))) pa_nil)))))
        (pss_cons (ps_par (i := 5) (j := 6) (by rfl) scLaw.nd rfl rfl (by decide) rfl rfl (pa_cons (pe_callTy (call_dictT rfl (by exact hu2)) (by rfl) Z.dict (by decide +kernel) (pa_cons (pe_lc (own := [("_law_pair", 7)]) (g := gName 7) (by rfl) scLaw.nd (pi_list (pe_revL (pe_callTy (call_list_dT rfl) (by rfl) T.list (by decide +kernel) (pa_cons (pv 4) pa_nil)))) (blkOk_by (own := [("_law_pair", 7)]) (N := lawN) (sc := defScope sLaw) (by decide +kernel))
            (fun _ _ _ _ _ => pg_name (i := 7) scLaw.nd rfl (Or.inl rfl)) (fun _ _ _ _ _ => pts_nil) (fun _ _ _ _ _ => by exact pe_tup (pa_cons (pv 7) (pa_cons (pe_dget (by exact hu1) (pv 4) (pv 7) (fun _ _ => rfl)) pa_nil)))) pa_nil))
            (pa_cons (pe_make M GC (hr.mono (by decide)) (by rfl) gC bC .nil (E := fun _ _ _ => False) (passes_call LamX.takes0 fun _ _ _ _ z => z) (pa_cons (pe_dget (by exact hu1) (pv 3) pe_str (fun _ _ => rfl)) (pa_cons (pe_dget (by exact hu1) (pv 3) pe_str (fun _ _ => rfl)) pa_nil))) pa_nil)) (by rfl))
        (pss_cons (ps_set (i := 8) scLaw.nd rfl (.inl rfl) (pe_make MP GPI (hr.mono (by decide)) (by rfl) gPg bPI .nil pass0 (pa_cons (pv 6) (pa_cons (pv 5) pa_nil))))
        (pss_cons (ps_expr (pe_bm0 PySem.F.plainAttrs_dict PySem.F.slot_dict_clear PySem.F.type_dict_clear mt_clearT (pv 5)))
        (pss_cons (ps_expr (pe_bm0 PySem.F.plainAttrs_dict PySem.F.slot_dict_clear PySem.F.type_dict_clear mt_clearT (pe_prop (pv 8) clP ppM GM (hr.mono (by decide)) bM .nil pass0 rfl)))
        (pss_cons (ps_expr (pe_dclear (pe_meth (pv 8) clP mRow GRow (hr.mono (by decide)) bRow .nil pass0 (pa_cons (pe_ix ix_list (pe_dget (by exact hu1) (pv 3) pe_str (fun _ _ => rfl)) pe_int (fun _ _ => rfl)) pa_nil))))
        (pss_cons (ps_if (PW.pt (pw_or (pt_not (pt_val (pe_callG GR hg (hr.mono (by decide)) (by rfl) gR kR bR (E := fun _ _ _ _ => False) (fun _ => pass0) (pa_cons (pv 8) (pa_cons (pv 3) (pa_cons (pv 4) pa_nil))))))
            (pw_or1 (pt_not (pt_val (pe_callG GCh hg (hr.mono (by decide)) (by rfl) gCh kCh bCh (E := fun _ _ _ _ => False) (fun _ => pass0) (pa_cons (pv 2) (pa_cons (pv 3) (pa_cons (pv 4) (pa_cons (pv 8) pa_nil)))))))))) (pss_one (ps_ret pe_bl)) pss_nil)
        (pss_cons (ps_if (PW.pt (pw_or (pt_cmpR (op_neOwn (E := fun _ _ _ => False) hsEq hnEq hmO hfEq GEq (hr.mono (by decide)) bEq pass0) (pv 8) (pe_make MP GPI (hr.mono (by decide)) (by rfl) gPg bPI .nil pass0 (pa_cons (pv 6) (pa_cons (pv 4) pa_nil))) (nomark _))
            (pw_or (pt_cmpR (op_eqOwnD (E := fun _ _ _ => False) hsEq hfEq nfPD GEq (hr.mono (by decide)) bEq pass0) (pv 8) (pv 4) (nomark _)) (pw_or1 (pt_cmpR (op_eqOwn (E := fun _ _ _ => False) hsEq hfEq GEq (hr.mono (by decide)) bEq pass0) (pv 8) (pv 6) (nomark _)))))) (pss_one (ps_ret pe_bl)) pss_nil)
        (pss_cons (ps_if (PW.pt (pw_or (pt_not (pt_val (pe_callG GR hg (hr.mono (by decide)) (by rfl) gR kR bR (E := fun _ _ _ _ => False) (fun _ => pass0) (pa_cons (pv 8) (pa_cons (pv 3) (pa_cons (pv 4) pa_nil))))))
            (pw_or1 (pt_cmpR (op_eqOwn (E := fun _ _ _ => False) hsEq hfEq GEq (hr.mono (by decide)) bEq pass0) (pv 8) (pe_static (pe_glob (v := .ref CP) (by rfl) gPg rfl) crP smF GF (hr.mono (by decide)) bF pass0 (pa_cons (pe_make M GC (hr.mono (by decide)) (by rfl) gC bC .nil (E := fun _ _ _ => False) (passes_call LamX.takes0 fun _ _ _ _ z => z) (pa_cons (pe_lst (pa_cons pe_str pa_nil)) (pa_cons pe_int pa_nil))) (pa_cons pe_non pa_nil))) (nomark _))))) (pss_one (ps_ret pe_bl)) pss_nil)
        (pss_cons (ps_if (pt_cut (fun _ H c H2 => c = false ∧ Same H H2) (PW.pt (pw_and (pt_cmpR op_lt (pe_dget (by exact hu1) (pv 3) pe_str (fun _ _ => rfl)) pe_int (nomark _))
            (pw_and1 (pt_cmpR (op_eqOwn (E := fun _ _ _ => False) hsEq hfEq GEq (hr.mono (by decide)) bEq pass0) (pv 8) (pe_make MP GPI (hr.mono (by decide)) (by rfl) gPg bPI .nil pass0 (pa_cons (pe_make M GC (hr.mono (by decide)) (by rfl) gC bC .nil (E := fun _ _ _ => False) (passes_call LamX.takes0 fun _ _ _ _ z => z) (pa_cons (pe_dget (by exact hu1) (pv 3) pe_str (fun _ _ => rfl)) (pa_cons (pe_op op_add (pe_dget (by exact hu1) (pv 3) pe_str (fun _ _ => rfl)) pe_int) pa_nil))) (pa_cons (pv 4) pa_nil))) (nomark _)))))) (pss_one (ps_ret pe_bl)) pss_nil)
        (pss_one (ps_for PassesOwn.never rfl (pi_list (pe_lst (pa_cons pe_non (pa_cons pe_int (pa_cons (pe_dget (by exact hu1) (pv 3) pe_str (fun _ _ => rfl)) pa_nil))))) (pg_name (i := 9) scLaw.nd rfl (.inr rfl))
          (pss_one (ps_if (pt_not (pt_val (pe_callG GR hg (hr.mono (by decide)) (by rfl) gR kR bR (E := fun _ _ _ _ => False) (fun _ => pass0) (pa_cons (pe_static (pe_glob (v := .ref CP) (by rfl) gPg rfl) crP smF GF (hr.mono (by decide)) bF pass0 (pa_cons (pv 6) (pa_cons (pv 9) pa_nil)))
            (pa_cons (pv 3) (pa_cons (pe_callTy (call_dictT rfl (by exact hu2)) (by rfl) Z.dict (by decide +kernel) (pa_cons (pe_lock (pe_lc (own := [("_law_pair", 7)]) (g := gName 7) (by rfl) scLaw.nd (pi_keys (pv 4)) (blkOk_by (own := [("_law_pair", 7)]) (N := lawN) (sc := defScope sLaw) (by decide +kernel))
              (fun _ _ _ _ _ => pg_name (i := 7) scLaw.nd rfl (Or.inl rfl)) (fun _ _ _ _ _ => pts_nil) (fun _ _ _ _ _ => by exact pe_tup (pa_cons (pv 7) (pa_cons (pv 9) pa_nil))))) pa_nil)) pa_nil)))))) (pss_one (ps_ret pe_bl)) pss_nil)))))))))))))))))
      (pss_one (ps_ret pe_bl)), ?_⟩
    have hR := rng_le ((ns.map V.int).length : Int) 5 (by decide)
    refine ⟨_, rfl, a, _, rfl, .inl hS, _, _, rfl, _, _, rfl, _, rfl, by omega, by omega, ?_⟩
    refine for_range (lo := 0) (fun i σ H' => ∃ v1 v2 v3 v4 v5 v6 v7 v8 v9, σ = [some (.ref a), v1, v2, v3, v4, v5, v6, v7, v8, v9] ∧ Same H H') ⟨_, _, _, _, _, _, _, _, _, rfl, Same.refl _⟩ ?_ ?_
    · rintro i σ H2 hi ⟨v1, v2, v3, v4, v5, v6, v7, v8, v9, rfl, sH2⟩
      have hi4 : i ≤ 62 := by omega
      refine ⟨_, rfl, _, rfl, a, ns, i, by simp, extN_sq (LamX.ExtN.of sH2) hS, hi4, fun H3 po s3 npo hP3 => ?_⟩
      refine fun pl npl => ?_
      have s3b : Same H3 (upd H3 pl (.dK [])) := same_new npl
      have hpl3 : upd H3 pl (.dK []) pl = some (.dK []) := upd_same
      have hP3b := hP3.same s3b
      have npl2 : H2 pl = none := s3.free npl
      have B3b : But po H2 (upd H3 pl (.dK [])) := (But.of_same s3).trans (But.of_same s3b)
      generalize upd H3 pl (.dK []) = H3b at s3b hpl3 hP3b B3b
      refine ⟨_, rfl, _, rfl, po, 6, rfl, hP3b, by decide, by decide, fun r H4 r0 r1 hP4 b4 => ?_⟩
      refine ⟨_, _, rfl, rfl, po, (1 + r).toNat, by rw [Int.toNat_of_nonneg (by omega)]; rfl, hP4, by omega, fun H5 l zs hP5 b5 n5 h5 lz nd mem => ?_⟩
      have nlp : l ≠ po := fun e => by
        obtain ⟨g, q, hg, _⟩ := hP4
        rw [e, hg] at n5
        cases n5
      refine ⟨_, rfl, po, 10, rfl, hP5, by decide, by decide, fun r2 H6 r20 r21 hP6 b6 => ?_⟩
      have nplpo : pl ≠ po := hP3b.other hpl3 fun _ z => nomatch z
      have hpl6 := b6 _ _ nplpo (b5 _ _ nplpo (b4 _ _ nplpo hpl3))
      have hl6 := b6 _ _ nlp h5
      obtain ⟨m, hm⟩ : ∃ m : Int, m = 1 + r2 := ⟨_, rfl⟩
      refine ⟨_, _, rfl, rfl, hpl6, planK l (1 + r2), rfl, (by show 2 ≤ 15; decide), ?_⟩
      rw [plan_merge, ← hm]
      have m1 : 1 ≤ m := by omega
      have m10 : m ≤ 10 := by omega
      have h7 : upd H6 pl (.dK (planK l m)) pl = some (.dK (planK l m)) := upd_same
      have l7 : upd H6 pl (.dK (planK l m)) l = some (.lst (zs.map V.str)) := by
        rw [upd_ne (ne_of hl6 hpl6 (fun z => nomatch z))]
        exact hl6
      have P7 : Pool (upd H6 pl (.dK (planK l m))) po := by
        obtain ⟨g, r, ha, hb⟩ := hP6
        exact ⟨g, r, by rw [upd_ne nplpo.symm]; exact ha, hb⟩
      have B7 : But po H2 (upd H6 pl (.dK (planK l m))) := but_fresh (((B3b.trans b4).trans b5).trans b6) npl2
      generalize upd H6 pl (.dK (planK l m)) = H7 at h7 l7 P7 B7
      clear hpl6 hl6 hpl3 h5 b6 b5 b4 hP6 hP5 hP4
      -- the sheet
      refine ⟨_, rfl, _, rfl, _, rfl, (by show 3 ≤ sizeLine; decide), fun l8 nl8 => ?_⟩
      have s8 : Same H7 (upd H7 l8 (.lst [.int 0, .int 2, .int 5])) := same_new nl8
      have n8 : l8 ≠ po := fun e => by
        obtain ⟨g, r, ha, _⟩ := P7
        rw [← e, nl8] at ha
        cases ha
      refine ⟨po, l8, _, rfl, P7.same s8, upd_same, n8, (by show 1 ≤ 3; decide), (by show 3 ≤ 1000; decide), fun v H9 hv P9 b9 => ?_⟩
      have B79 : But po H7 H9 := (But.of_same s8).trans b9
      have kpl : ∀ {G}, But po H7 G → G pl = some (.dK (planK l m)) := fun b => b _ _ nplpo h7
      have kl : ∀ {G}, But po H7 G → G l = some (.lst (zs.map V.str)) := fun b => b _ _ nlp l7
      have one : 1 ≤ zs.length := by omega
      have z8 : zs.length ≤ 8 := by omega
      obtain ⟨r', rfl, r100⟩ : ∃ r' : Int, v = .int r' ∧ r' ≤ 100 := by
        rcases List.mem_cons.mp hv with rfl | hv
        · exact ⟨0, rfl, by decide⟩
        rcases List.mem_cons.mp hv with rfl | hv
        · exact ⟨2, rfl, by decide⟩
        · exact ⟨5, List.mem_singleton.mp hv, by decide⟩
      refine ⟨po, pl, l, r', zs, m, rfl, P9, kpl B79, kl B79, nd, z8, m1, m10, r100, fun H10 sd f P10 b10 nsd hsd mks => ?_⟩
      have B10 : But po H7 H10 := B79.trans b10
      have tl : Told zs m f := ⟨mem, nd, one, z8, m1, m10, mks⟩
      have dr : Drawn8 zs := ⟨nd, mem⟩
      have l64 : (pairsOf zs).length ≤ 64 := pairs_len z8 z8
      have oz : ∀ z ∈ zs, PyData.strOk z = true := fun z h => (names_short z (mem z h)).2
      have mk1 : ∀ p ∈ pairsOf zs, isMk (f p) = true := fun p hp => mkOk_isMk (mks p hp)
      have mB : markB 1 10 (.int m) = true := by
        show (decide (1 ≤ m) && decide (m ≤ 10)) = true
        rw [decide_eq_true m1, decide_eq_true m10]
        rfl
      have zl : (zs.map V.str).length ≤ 1000 := by
        rw [List.length_map]
        omega
      have kC : ∀ {G : Hp}, G l = some (.lst (zs.map V.str)) → ArgP K G (.ref l) true (zs.map V.str) := fun e => .lst' e dr.items zl (dr.people one z8)
      -- given and the crowd
      refine ⟨_, rfl, sd, _, rfl, .inl hsd, fun l11 bs nl11 hbs => ⟨l11, _, rfl, SqL.of upd_same, fun rv nrv => ?_⟩⟩
      have s11 : Same H10 (upd (upd H10 l11 (.lst (bs.map V.ref))) rv (.lst (bs.map V.ref).reverse)) := same_fresh (same_new nl11) (by
        cases e : H10 rv with
        | none => rfl
        | some o =>
          rw [same_new nl11 _ _ e] at nrv
          cases nrv)
      have h11 : upd (upd H10 l11 (.lst (bs.map V.ref))) rv (.lst (bs.map V.ref).reverse) rv = some (.lst (bs.map V.ref).reverse) := upd_same
      generalize upd (upd H10 l11 (.lst (bs.map V.ref))) rv (.lst (bs.map V.ref).reverse) = H11 at s11 h11
      clear nrv nl11
      have lbs : bs.length = (pairsOf zs).length := by
        have := Paired.length hbs
        rw [sheet_len] at this
        exact this.symm
      refine ⟨rv, rfl, ⟨_, SqL.of h11⟩, fun D nD => ?_⟩
      refine nest_pairs (walk_list (K := K) (a := rv) (xs := (bs.map V.ref).reverse)) (ps := (pairsOf zs).reverse) (by rw [List.length_reverse, List.length_reverse, List.length_map, lbs]) (by rw [List.length_reverse]; exact l64) nD (fun i x G G' sG y => ⟨y.1, keys_rev hbs (s11.trans sG) y.2⟩) (fun G sG => SqL.of (sG _ _ h11)) f ?_ ?_
      · rintro p t G Nx hp sG ht k
        have gt := DGet.t (sG _ _ (s11 _ _ hsd)) (k := key2 p) ht
        rw [valV_sheet (List.mem_reverse.mp hp)] at gt
        exact ⟨rfl, _, rfl, _, rfl, _, rfl, sd, _, rfl, gt, (by show 2 ≤ sizeLine; decide), fun u nu => k u _ (same_new nu) nu upd_same⟩
      rintro G12 us sG12 hD12 hus
      refine ⟨D, us, _, rfl, hD12, hus, nodup_keys2 ((List.reverse_perm _).nodup_iff.mpr (pairs_nodup nd)) f, fun gv ngv => ?_⟩
      have s13 : Same H10 (upd G12 gv (.dT ((pairsOf zs).reverse.map fun p => (key2 p, f p)))) := (s11.trans sG12).trans (same_new ngv)
      have ngv10 : H10 gv = none := (s11.trans sG12).free ngv
      have h13 : upd G12 gv (.dT ((pairsOf zs).reverse.map fun p => (key2 p, f p))) gv = some (.dT ((pairsOf zs).reverse.map fun p => (key2 p, f p))) := upd_same
      generalize upd G12 gv (.dT ((pairsOf zs).reverse.map fun p => (key2 p, f p))) = H13 at s13 h13
      clear hus hD12 sG12 ngv nD h11 s11 hbs
      have B13 : But po H7 H13 := B10.trans (But.of_same s13)
      refine st_cons ?_
      refine rd_made (xs := zs.map V.str) mB (fun Q1 k => ⟨_, rfl, pl, _, rfl, get_people (kpl B13), _, rfl, pl, _, rfl, get_most (kpl B13), k _ _ (Same.refl _) (kC (kl B13))⟩) fun H14 cx dcx lcx s14 ncx nlcx hcx hlcx => ?_
      refine ⟨_, _, rfl, ?_⟩
      have c14 : CrowdOf H14 C cx zs m := ⟨dcx, lcx, hcx, hlcx⟩
      have g14 := s14 _ _ h13
      -- the page
      have hk : ∀ e ∈ (pairsOf zs).reverse.map fun p => (key2 p, f p), (∃ p ∈ pairsOf zs, e.1 = key2 p) ∧ mkOk m e.2 = true := fun e he => by
        obtain ⟨p, hp, rfl⟩ := List.mem_map.mp he
        exact ⟨⟨p, List.mem_reverse.mp hp, rfl⟩, mks p (List.mem_reverse.mp hp)⟩
      dsimp only [List.set]
      refine st_seq ?_
      refine st_asg ?_
      refine rd_page z8 nd (g := f) (by rw [List.length_map, List.length_reverse]) hk (fun p hp => valV_map2 (List.mem_reverse.mpr hp)) (fun Q1 k => ⟨_, rfl, _, rfl, k _ _ _ (Same.refl _) c14 g14⟩) fun H15 x s15 hy => ?_
      have S15 := s13.trans (s14.trans s15)
      have g15 := s15 _ _ g14
      have hno15 : NotOwn H15 CP x gv := hy.notOwn g14
      have sd15 := S15 _ _ hsd
      have hnsd15 : NotOwn H15 CP x sd := hy.notOwn ((s13.trans s14) _ _ hsd)
      have c15 := c14.same s15
      -- given and told, and changed
      refine ⟨_, rfl, .inr (.inr (.inl ⟨rfl, .inr ⟨_, g15⟩⟩)), gv, _, rfl, rfl, g15, ?_⟩
      have bg : But gv H15 (upd H15 gv (.dT [])) := But.upd
      have S16 : Same H10 (upd H15 gv (.dT [])) := same_fresh S15 ngv10
      have pg16 : PageOf (upd H15 gv (.dT [])) C CP x zs m f := by
        obtain ⟨dx, c, d, hx, ⟨dc, lc, hc, hl⟩, hd⟩ := hy.of
        exact ⟨dx, c, d, bg _ _ (ne_of hx g15 (fun z => nomatch z)) hx, ⟨dc, lc, bg _ _ (ne_of hc g15 (fun z => nomatch z)) hc, bg _ _ (ne_of hl g15 (fun z => nomatch z)) hl⟩, bg _ _ (hno15 _ _ _ hx) hd⟩
      have c16 : CrowdOf (upd H15 gv (.dT [])) C cx zs m := by
        obtain ⟨dc, lc, hc, hl⟩ := c15
        exact ⟨dc, lc, bg _ _ (ne_of hc g15 (fun z => nomatch z)) hc, bg _ _ (ne_of hl g15 (fun z => nomatch z)) hl⟩
      have hn16 : NotOwn (upd H15 gv (.dT [])) CP x sd := notOwn_keep hy.of (fun o e => bg _ _ (by
        obtain ⟨dx, c, d, hx, _, _⟩ := hy.of
        exact ne_of hx g15 (fun z => nomatch z)) e) hnsd15
      generalize upd H15 gv (.dT []) = H16 at S16 pg16 c16 hn16
      clear bg hnsd15 sd15 hno15 g15 S15 hy c15 s15 g14 c14 hcx hlcx s14 h13 s13
      obtain ⟨dx, cc, d, hx, _, _⟩ := id pg16
      refine ⟨_, rfl, x, dx, _, rfl, hx, x, zs, m, f, rfl, pg16, z8, nd, fun H17 p17 s17 np17 h17 => ?_⟩
      refine ⟨.inr (.inr (.inl ⟨rfl, .inr ⟨_, h17⟩⟩)), p17, _, rfl, rfl, h17, ?_⟩
      have S18 : Same H16 (upd H17 p17 (.dT [])) := same_fresh s17 np17
      generalize upd H17 p17 (.dT []) = H18 at S18
      have B18 : But po H7 H18 := B10.trans (But.of_same (S16.trans S18))
      obtain ⟨z0, zr, hz⟩ : ∃ z0 zr, zs = z0 :: zr := by
        cases zs with
        | nil => cases one
        | cons z0 zr => exact ⟨z0, zr, rfl⟩
      refine ⟨_, rfl, x, dx, _, rfl, S18 _ _ hx, rfl, _, rfl, pl, _, rfl, get_people (kpl B18), l, _, 0, .str z0, rfl, rfl, SqL.of (kl B18), by rw [hz]; exact atI_nat (j := 0) rfl, x, zs, m, f, z0, rfl, pg16.same S18, nd, z8, by rw [hz]; exact List.mem_cons_self .., fun H19 p19 s19 np19 h19 => ?_⟩
      refine ⟨.inr (.inr (.inl ⟨rfl, .inl ⟨_, h19⟩⟩)), p19, _, rfl, rfl, h19, ?_⟩
      have S20 : Same H16 (upd H19 p19 (.dK [])) := S18.trans (same_fresh s19 np19)
      generalize upd H19 p19 (.dK []) = H20 at S20
      clear h19 np19 s19 B18 S18 h17 np17 s17
      have S20b := S16.trans S20
      have B20 : But po H7 H20 := B10.trans (But.of_same S20b)
      have sd20 := S20b _ _ hsd
      have hn20 : NotOwn H20 CP x sd := notOwn_keep pg16 (fun o e => S20 _ _ e) hn16
      -- right, and right when changed
      refine ⟨_, rfl, _, rfl, _, rfl, x, pl, l, sd, zs, m, f, rfl, pg16.same S20, hn20, kpl B20, kl B20, sd20, tl, fun H21 s21 => ⟨true, rfl, ?_⟩⟩
      refine iteF ?_
      have B21 : But po H7 H21 := B20.trans (But.of_same s21)
      have S21 := S20.trans s21
      have P21 : Pool H21 po := P10.same (S20b.trans s21)
      refine ⟨_, rfl, _, rfl, _, rfl, _, rfl, po, x, pl, l, sd, zs, m, f, rfl, P21, pg16.same S21, kpl B21, kl B21, s21 _ _ sd20, tl, fun H22 P22 b22 => ⟨true, rfl, ?_⟩⟩
      refine iteF ?_
      have B22 : But po H7 H22 := B21.trans b22
      have pg22 : PageOf H22 C CP x zs m f := (pg16.same S21).but P21 b22 one
      have sd22 : H22 sd = some (.dT (sheetOf zs f)) := b22 _ _ (P21.other (s21 _ _ sd20) fun _ z => nomatch z) (s21 _ _ sd20)
      have c22 : CrowdOf H22 C cx zs m := by
        obtain ⟨dc, lc, hc, hl⟩ := c16.same S21
        exact ⟨dc, lc, b22 _ _ (P21.other hc fun _ z => nomatch z) hc, b22 _ _ (P21.lists hl one) hl⟩
      have hn22 : NotOwn H22 CP x sd := notOwn_keep (pg16.same S21) (fun o e => b22 _ _ (by
        obtain ⟨dx, c, d, hx, _, _⟩ := pg16.same S21
        exact P21.other hx fun _ z => nomatch z) e) (notOwn_keep pg16 (fun o e => S21 _ _ e) hn16)
      clear hn20 sd20 S20b B20 S20 hn16 c16 hx pg16 S16 B21 S21 P21 s21 b22 P10
      -- compared
      have mshape : ∀ e ∈ sheetOf zs f, (∃ p ∈ pairsOf zs, e.1 = key2 p) ∧ mkOk m e.2 = true := sheet_marks mks
      refine ⟨_, rfl, ?_⟩
      refine rd_page z8 nd (g := f) (kvs := sheetOf zs f) sheet_len mshape (fun p hp => valV_sheet hp) (fun Q1 k => ⟨_, rfl, _, rfl, k _ _ _ (Same.refl _) c22 sd22⟩) fun H23 y s23 hy => ?_
      obtain ⟨dx, cc, d, hx, _, _⟩ := id (pg22.same s23)
      obtain ⟨dy, cy, d2, hyx, _, _⟩ := id hy.of
      have pg23 := pg22.same s23
      have sd23 := s23 _ _ sd22
      have c23 := c22.same s23
      obtain ⟨dcx, lcx, hcx, _⟩ := id c23
      refine ⟨x, dx, y, dy, _, _, rfl, rfl, hx, hyx, x, y, zs, m, f, rfl, pg23, nd, oz, mk1, .inl ⟨zs, m, f, hy.of, oz, mk1, _, rfl, _, rfl, ?_⟩⟩
      rw [decide_eq_true (show m = m from rfl), decide_eq_true (show zs = zs from rfl), likeB_self]
      refine iteF ?_
      refine ⟨_, rfl, _, rfl, x, dx, sd, _, _, rfl, rfl, hx, sd23, x, sd, zs, m, f, rfl, pg23, nd, oz, mk1, .inr (.inl ⟨⟨_, sd23⟩, _, rfl, _, rfl, ?_⟩)⟩
      refine iteF ?_
      refine ⟨_, rfl, _, rfl, x, dx, cx, _, .ref C, rfl, rfl, hx, .ins hcx, nfPC, x, cx, zs, m, f, rfl, pg23, nd, oz, mk1, .inr (.inr ⟨⟨zs, m, c23⟩, _, rfl, _, rfl, ?_⟩)⟩
      refine iteF ?_
      have B23 : But po H7 H23 := B22.trans (But.of_same s23)
      have hn23 : NotOwn H23 CP x sd := notOwn_keep pg22 (fun o e => s23 _ _ e) hn22
      -- the same still, and not another's
      refine ⟨_, rfl, _, rfl, _, rfl, x, pl, l, sd, zs, m, f, rfl, pg23, hn23, kpl B23, kl B23, sd23, tl, fun H24 s24 => ⟨true, rfl, ?_⟩⟩
      refine iteF ?_
      obtain ⟨w1, w2, w3, w4⟩ := nobody_word
      refine ⟨_, rfl, rfl, ?_⟩
      refine rd_made (xs := [.str "nobody"]) (m := 1) (by decide) (fun Q1 k => ⟨(by show 1 ≤ sizeLine; decide), fun nl nnl => k _ _ (same_new nnl) (.lst' upd_same (fun z hz => by
        obtain rfl := List.mem_singleton.mp hz
        exact ⟨⟨"str", .base (.str _), by decide⟩, fun z e => by cases e; exact w4⟩) (by show 1 ≤ 1000; decide) w3)⟩) fun H25 cn dcn lcn s25 ncn nlcn hcn hlcn => ?_
      refine ⟨cn, .non, [("nobody" : Str)], 1, rfl, ⟨dcn, lcn, hcn, hlcn⟩, (by simp), (by show 1 ≤ 8; decide), rfl, fun H26 y2 s26 hy2 => ?_⟩
      have S26 := s24.trans (s25.trans s26)
      obtain ⟨dy2, cy2, d3, hyx2, _, _⟩ := id hy2.of
      refine ⟨x, dx, y2, _, .ref CP, rfl, rfl, S26 _ _ hx, .ins hyx2, nfP, x, y2, zs, m, f, rfl, pg23.same S26, nd, oz, mk1, .inl ⟨[("nobody" : Str)], 1, fun _ => .non, hy2.of, fun z hz => by rw [List.mem_singleton.mp hz]; exact w2, fun _ _ => rfl, _, rfl, _, rfl, ?_⟩⟩
      have nzs : zs ≠ [("nobody" : Str)] := fun e => w1 (mem _ (by rw [e]; exact List.mem_cons_self ..))
      rw [decide_eq_false nzs, Bool.false_and, Bool.and_false]
      refine iteF ?_
      have pg26 := pg23.same S26
      have sd26 := S26 _ _ sd23
      have c26 := c23.same S26
      have B26 : But po H7 H26 := B23.trans (But.of_same S26)
      have hn26 : NotOwn H26 CP x sd := notOwn_keep pg23 (fun o e => S26 _ _ e) hn23
      have hx26 := S26 _ _ hx
      clear hyx2 hy2 hcn hlcn nlcn ncn s25 s24 s26 S26 hn23 hyx hy s23 pg22 sd22 c22 hn22 hx c23 sd23 pg23 hcx B22
      -- one more mark
      refine ⟨⟨_, rfl, pl, _, rfl, get_most (kpl B26), _, _, rfl, rfl, _, rfl, ite2 (fun c => ?_) (fun _ => ⟨rfl, Same.refl _⟩)⟩, ?_⟩
      · have c1 : m < 10 := of_decide_eq_true c
        have mB1 : markB 1 10 (.int (m + 1)) = true := by
          show (decide (1 ≤ m + 1) && decide (m + 1 ≤ 10)) = true
          rw [decide_eq_true (show 1 ≤ m + 1 by omega), decide_eq_true (show m + 1 ≤ 10 by omega)]
          rfl
        refine ⟨_, rfl, ?_⟩
        refine rd_page (m := m + 1) z8 nd (g := f) (kvs := sheetOf zs f) sheet_len (fun e he => ⟨(mshape e he).1, mkOk_more (mshape e he).2⟩) (fun p hp => valV_sheet hp) (fun Q1 k => ?_) fun H27 y s27 hy => ?_
        · refine rd_made (xs := zs.map V.str) mB1 (fun Q2 k2 => ⟨_, rfl, pl, _, rfl, get_people (kpl B26), _, rfl, pl, _, rfl, get_most (kpl B26), _, _, rfl, rfl, k2 _ _ (Same.refl _) (kC (kl B26))⟩) fun H28 c3 d3 l3 s28 _ _ hc3 hl3 => ?_
          exact ⟨_, rfl, k _ _ _ s28 ⟨d3, l3, hc3, hl3⟩ (s28 _ _ sd26)⟩
        · obtain ⟨dy, cy, d2, hyx, _, _⟩ := id hy.of
          refine ⟨x, dx, y, _, .ref CP, rfl, rfl, s27 _ _ hx26, .ins hyx, nfP, x, y, zs, m, f, rfl, pg26.same s27, nd, oz, mk1, .inl ⟨zs, m + 1, f, hy.of, oz, mk1, _, rfl, _, rfl, ?_⟩⟩
          exact ⟨by rw [decide_eq_false (show ¬ m = m + 1 by omega)]; rfl, s27⟩
      rintro cc2 H28 ⟨rfl, s28⟩
      refine iteF ?_
      have pg28 := pg26.same s28
      have sd28 := s28 _ _ sd26
      have c28 := c26.same s28
      have B28 : But po H7 H28 := B26.trans (But.of_same s28)
      clear hx26 hn26 B26 c26 sd26 pg26
      -- full pages
      refine ⟨_, rfl, pl, _, rfl, get_most (kpl B28), (by show 3 ≤ sizeLine; decide), fun l29 nl29 => ?_⟩
      have s29 : Same H28 (upd H28 l29 (.lst [.non, .int 0, .int m])) := same_new nl29
      have h29 : upd H28 l29 (.lst [.non, .int 0, .int m]) l29 = some (.lst [.non, .int 0, .int m]) := upd_same
      generalize upd H28 l29 (.lst [.non, .int 0, .int m]) = H29 at s29 h29
      refine ⟨l29, rfl, ⟨_, SqL.of h29⟩, ?_⟩
      have B29 := B28.trans (But.of_same s29)
      refine for_list (K := K) (a := l29) (xs := [.non, .int 0, .int m]) (fun j σ G => ∃ v1 v5 v7 v9, σ = [some (.ref a), v1, some (.ref po), some (.ref pl), some (.ref sd), v5, some (.ref cx), v7, some (.ref x), v9] ∧ Same H29 G) ⟨_, _, _, _, rfl, Same.refl _⟩ (fun i σ G _ h => ?_) ?_ ?_
      · obtain ⟨_, _, _, _, _, sG⟩ := h
        exact SqL.of (sG _ _ h29)
      · rintro j v σ G hv ⟨v1, v5, v7, v9, rfl, sG⟩
        have hv2 := List.mem_of_getElem? hv
        have mv : mkOk m v = true := by
          rcases List.mem_cons.mp hv2 with rfl | hv2
          · rfl
          rcases List.mem_cons.mp hv2 with rfl | hv2
          · show (decide (V.int 0 = V.non) || (decide ((0 : Int) ≤ 0) && decide ((0 : Int) ≤ m))) = true
            rw [decide_eq_true (show (0 : Int) ≤ m by omega)]
            simp
          · obtain rfl := List.mem_singleton.mp hv2
            show (decide (V.int m = V.non) || (decide ((0 : Int) ≤ m) && decide (m ≤ m))) = true
            rw [decide_eq_true (show (0 : Int) ≤ m by omega), decide_eq_true (Int.le_refl m)]
            simp
        have S30 : Same H28 G := s29.trans sG
        refine ⟨rfl, _, rfl, _, rfl, cx, v, zs, m, rfl, c28.same S30, nd, z8, mv, fun H31 y s31 hy => ?_⟩
        have S31 := S30.trans s31
        have sd31 := S31 _ _ sd28
        have B31 := B28.trans (But.of_same S31)
        refine ⟨_, rfl, ?_⟩
        refine ⟨sd, _, sd31, trivial, fun od => ?_⟩
        have dL : upd H31 sd (.frz od (.dT (sheetOf zs f))) sd = some (.frz od (.dT (sheetOf zs f))) := upd_same
        have un : ∀ G, Same (upd H31 sd (.frz od (.dT (sheetOf zs f)))) G → Same H31 (upd G sd (.dT (sheetOf zs f))) := fun G sG => unlock_same sd31 sG
        generalize upd H31 sd (.frz od (.dT (sheetOf zs f))) = HL at dL un
        refine ⟨_, rfl, sd, od, rfl, .inr ⟨_, dL, fun D nD => ?_⟩⟩
        refine nest_pairs (walk_keysT (kvs := sheetOf zs f)) sheet_len l64 nD (fun i x G G' _ y => keys_sheet y) (fun G sG => sG _ _ dL) (fun _ => v) ?_ ?_
        · rintro p t G Nx hp sG ht k
          exact ⟨rfl, _, rfl, _, rfl, (by show 2 ≤ sizeLine; decide), fun u nu => k u _ (same_new nu) nu upd_same⟩
        rintro G7 us sG7 hD7 hus
        have d7 := sG7 _ _ dL
        refine ⟨d7, ?_⟩
        have U7 := un G7 sG7
        have nDs : D ≠ sd := ne_of hD7 d7 (fun z => nomatch z)
        have hDb : upd G7 sd (.dT (sheetOf zs f)) D = some (.lst (us.map V.ref)) := by rw [upd_ne nDs]; exact hD7
        have husb : Paired (IsPairT (upd G7 sd (.dT (sheetOf zs f)))) us (sheetOf zs fun _ => v) := Paired.mono (fun _ _ z => isPairT_unl d7 z) hus
        generalize upd G7 sd (.dT (sheetOf zs f)) = H32 at U7 hDb husb
        refine ⟨D, us, _, rfl, hDb, husb, sheet_nodup nd _, fun q9 nq9 => ?_⟩
        have s33 : Same H32 (upd H32 q9 (.dT (sheetOf zs fun _ => v))) := same_new nq9
        have h33 : upd H32 q9 (.dT (sheetOf zs fun _ => v)) q9 = some (.dT (sheetOf zs fun _ => v)) := upd_same
        generalize upd H32 q9 (.dT (sheetOf zs fun _ => v)) = H33 at s33 h33
        have y32 := hy.of.same U7
        have B33 := B31.trans (But.of_same (U7.trans s33))
        refine ⟨y, pl, l, q9, zs, m, fun _ => v, rfl, y32.same s33, notOwn_new y32 nq9 s33, kpl B33, kl B33, h33, ⟨mem, nd, one, z8, m1, m10, fun _ _ => mv⟩, fun H34 s34 => ⟨true, rfl, ?_⟩⟩
        refine iteF ?_
        exact ⟨_, _, _, _, rfl, ((((sG.trans s31).trans U7).trans s33).trans s34)⟩
      · rintro σ G ⟨v1, v5, v7, v9, rfl, sG⟩
        have B34 : But po H7 G := B29.trans (But.of_same sG)
        exact ⟨_, _, _, _, _, _, _, _, _, rfl, sH2.trans ((B7.trans B34).same npo)⟩
    · rintro σ H' _
      exact q H'
end
end K04

set_option Elab.async false
set_option linter.all false
set_option maxRecDepth 100000
set_option maxHeartbeats 4000000
namespace K04
open PySem PySem.Spec PyProof.Rows L2
theorem all_mk {l : PySem.W.OpenLaw} {w : World} {K : PySem.W.Frag} {h : Heap} {mg : Str → Option Value} {fa fIsInteger fIsIntegerWithin fIsWord fArePeople fNeedCrowd fNeedPerson fIsMark fIsMarkOrNone fAreMarks fIsRow fOpened fDraw fPick fPeople fPairs fSheet fPageRight fChangedRight fLaw fNeedPair CMarksError CBadCrowd fBadCrowdInit CNotThere fNotThereInit CCrowd fCrowdInit fCrowdLen fCrowdContains fCrowdEq fCrowdPairs fCrowdIsPair fCrowdPeople pCrowdPeople CPage fPageInit fPageGetitem fPageEq fPageRow fPageWithMark fPageWithRow fPageMarks pPageMarks fPageIsFull pPageIsFull fPageFilled pPageFilled : Addr} (X : K.In h) (G : h.Ns mainGlobals mg) (hfa : mg "law" = some (.ref fa))
    {ocIsInteger kVIsInteger dcIsInteger pmIsInteger cdIsInteger ctIsInteger : Value} {odIsInteger anIsInteger : Option Addr} {slIsInteger : Array (Option Value)}
    {ocIsIntegerWithin kVIsIntegerWithin dcIsIntegerWithin pmIsIntegerWithin cdIsIntegerWithin ctIsIntegerWithin : Value} {odIsIntegerWithin anIsIntegerWithin : Option Addr} {slIsIntegerWithin : Array (Option Value)}
    {ocIsWord kVIsWord dcIsWord pmIsWord cdIsWord ctIsWord : Value} {odIsWord anIsWord : Option Addr} {slIsWord : Array (Option Value)}
    {ocArePeople kVArePeople dcArePeople pmArePeople cdArePeople ctArePeople : Value} {odArePeople anArePeople : Option Addr} {slArePeople : Array (Option Value)}
    {ocNeedCrowd kVNeedCrowd dcNeedCrowd pmNeedCrowd cdNeedCrowd ctNeedCrowd : Value} {odNeedCrowd anNeedCrowd : Option Addr} {slNeedCrowd : Array (Option Value)}
    {ocNeedPerson kVNeedPerson dcNeedPerson pmNeedPerson cdNeedPerson ctNeedPerson : Value} {odNeedPerson anNeedPerson : Option Addr} {slNeedPerson : Array (Option Value)}
    {ocIsMark kVIsMark dcIsMark pmIsMark cdIsMark ctIsMark : Value} {odIsMark anIsMark : Option Addr} {slIsMark : Array (Option Value)}
    {ocIsMarkOrNone kVIsMarkOrNone dcIsMarkOrNone pmIsMarkOrNone cdIsMarkOrNone ctIsMarkOrNone : Value} {odIsMarkOrNone anIsMarkOrNone : Option Addr} {slIsMarkOrNone : Array (Option Value)}
    {ocAreMarks kVAreMarks dcAreMarks pmAreMarks cdAreMarks ctAreMarks : Value} {odAreMarks anAreMarks : Option Addr} {slAreMarks : Array (Option Value)}
    {ocIsRow kVIsRow dcIsRow pmIsRow cdIsRow ctIsRow : Value} {odIsRow anIsRow : Option Addr} {slIsRow : Array (Option Value)}
    {ocOpened kVOpened dcOpened pmOpened cdOpened ctOpened : Value} {odOpened anOpened : Option Addr} {slOpened : Array (Option Value)}
    {ocDraw kVDraw dcDraw pmDraw cdDraw ctDraw : Value} {odDraw anDraw : Option Addr} {slDraw : Array (Option Value)}
    {ocPick kVPick dcPick pmPick cdPick ctPick : Value} {odPick anPick : Option Addr} {slPick : Array (Option Value)}
    {ocPeople kVPeople dcPeople pmPeople cdPeople ctPeople : Value} {odPeople anPeople : Option Addr} {slPeople : Array (Option Value)}
    {ocPairs kVPairs dcPairs pmPairs cdPairs ctPairs : Value} {odPairs anPairs : Option Addr} {slPairs : Array (Option Value)}
    {ocSheet kVSheet dcSheet pmSheet cdSheet ctSheet : Value} {odSheet anSheet : Option Addr} {slSheet : Array (Option Value)}
    {ocPageRight kVPageRight dcPageRight pmPageRight cdPageRight ctPageRight : Value} {odPageRight anPageRight : Option Addr} {slPageRight : Array (Option Value)}
    {ocChangedRight kVChangedRight dcChangedRight pmChangedRight cdChangedRight ctChangedRight : Value} {odChangedRight anChangedRight : Option Addr} {slChangedRight : Array (Option Value)}
    {ocLaw kVLaw dcLaw pmLaw cdLaw ctLaw : Value} {odLaw anLaw : Option Addr} {slLaw : Array (Option Value)}
    {ocNeedPair kVNeedPair dcNeedPair pmNeedPair cdNeedPair ctNeedPair : Value} {odNeedPair anNeedPair : Option Addr} {slNeedPair : Array (Option Value)}
    {nmBadCrowd qBadCrowd : Str} {NBadCrowd : Addr} {bsBadCrowd : List Value} {snBadCrowd : List Str} {subBadCrowd : List Value} {abBadCrowd : Bool} {colBadCrowd : Option Bool} {ddBadCrowd : Option Addr} {m0BadCrowd m1BadCrowd m2BadCrowd m3BadCrowd m5BadCrowd : Option Value}
    {ocBadCrowdInit kVBadCrowdInit dcBadCrowdInit pmBadCrowdInit cdBadCrowdInit ctBadCrowdInit : Value} {odBadCrowdInit anBadCrowdInit : Option Addr} {slBadCrowdInit : Array (Option Value)}
    {ocNotThereInit kVNotThereInit dcNotThereInit pmNotThereInit cdNotThereInit ctNotThereInit : Value} {odNotThereInit anNotThereInit : Option Addr} {slNotThereInit : Array (Option Value)}
    {ocCrowdInit kVCrowdInit dcCrowdInit pmCrowdInit cdCrowdInit ctCrowdInit : Value} {odCrowdInit anCrowdInit : Option Addr} {slCrowdInit : Array (Option Value)}
    {ocCrowdLen kVCrowdLen dcCrowdLen pmCrowdLen cdCrowdLen ctCrowdLen : Value} {odCrowdLen anCrowdLen : Option Addr} {slCrowdLen : Array (Option Value)}
    {ocCrowdContains kVCrowdContains dcCrowdContains pmCrowdContains cdCrowdContains ctCrowdContains : Value} {odCrowdContains anCrowdContains : Option Addr} {slCrowdContains : Array (Option Value)}
    {ocCrowdEq kVCrowdEq dcCrowdEq pmCrowdEq cdCrowdEq ctCrowdEq : Value} {odCrowdEq anCrowdEq : Option Addr} {slCrowdEq : Array (Option Value)}
    {ocCrowdPairs kVCrowdPairs dcCrowdPairs pmCrowdPairs cdCrowdPairs ctCrowdPairs : Value} {odCrowdPairs anCrowdPairs : Option Addr} {slCrowdPairs : Array (Option Value)}
    {ocCrowdIsPair kVCrowdIsPair dcCrowdIsPair pmCrowdIsPair cdCrowdIsPair ctCrowdIsPair : Value} {odCrowdIsPair anCrowdIsPair : Option Addr} {slCrowdIsPair : Array (Option Value)}
    {restCrowdPeople : List Value}
    {ocCrowdPeople kVCrowdPeople dcCrowdPeople pmCrowdPeople cdCrowdPeople ctCrowdPeople : Value} {odCrowdPeople anCrowdPeople : Option Addr} {slCrowdPeople : Array (Option Value)}
    {ocPageInit kVPageInit dcPageInit pmPageInit cdPageInit ctPageInit : Value} {odPageInit anPageInit : Option Addr} {slPageInit : Array (Option Value)}
    {ocPageGetitem kVPageGetitem dcPageGetitem pmPageGetitem cdPageGetitem ctPageGetitem : Value} {odPageGetitem anPageGetitem : Option Addr} {slPageGetitem : Array (Option Value)}
    {ocPageEq kVPageEq dcPageEq pmPageEq cdPageEq ctPageEq : Value} {odPageEq anPageEq : Option Addr} {slPageEq : Array (Option Value)}
    {ocPageRow kVPageRow dcPageRow pmPageRow cdPageRow ctPageRow : Value} {odPageRow anPageRow : Option Addr} {slPageRow : Array (Option Value)}
    {ocPageWithMark kVPageWithMark dcPageWithMark pmPageWithMark cdPageWithMark ctPageWithMark : Value} {odPageWithMark anPageWithMark : Option Addr} {slPageWithMark : Array (Option Value)}
    {ocPageWithRow kVPageWithRow dcPageWithRow pmPageWithRow cdPageWithRow ctPageWithRow : Value} {odPageWithRow anPageWithRow : Option Addr} {slPageWithRow : Array (Option Value)}
    {restPageMarks : List Value}
    {ocPageMarks kVPageMarks dcPageMarks pmPageMarks cdPageMarks ctPageMarks : Value} {odPageMarks anPageMarks : Option Addr} {slPageMarks : Array (Option Value)}
    {restPageIsFull : List Value}
    {ocPageIsFull kVPageIsFull dcPageIsFull pmPageIsFull cdPageIsFull ctPageIsFull : Value} {odPageIsFull anPageIsFull : Option Addr} {slPageIsFull : Array (Option Value)}
    {restPF : List Value}
    {ocPageFilled kVPageFilled dcPageFilled pmPageFilled cdPageFilled ctPageFilled : Value} {odPageFilled anPageFilled : Option Addr} {slPageFilled : Array (Option Value)}
    {t_LETTERS : Tok}
    {t_LONGEST : Tok}
    {t_MOST_PEOPLE : Tok}
    {t_GREATEST_MARK : Tok}
    
    (aIsInteger : PySem.W.nsIn K mainGlobals "is_integer" = some (some (.ref fIsInteger)))
    (lIsInteger : K.lookup fIsInteger = some ⟨ocIsInteger, odIsInteger, .func (PySem.W.fnOf "is_integer" "is_integer" (defArgs sIsInteger) (defBody sIsInteger) (defScope sIsInteger) .none kVIsInteger dcIsInteger pmIsInteger anIsInteger cdIsInteger ctIsInteger), slIsInteger⟩)
    (cIsInteger : PySem.W.codeIn K cdIsInteger "is_integer" = true)
    (kIsInteger : PySem.W.keepIn K (.ref fIsInteger) = true)
    (aIsIntegerWithin : PySem.W.nsIn K mainGlobals "is_integer_within" = some (some (.ref fIsIntegerWithin)))
    (lIsIntegerWithin : K.lookup fIsIntegerWithin = some ⟨ocIsIntegerWithin, odIsIntegerWithin, .func (PySem.W.fnOf "is_integer_within" "is_integer_within" (defArgs sIsIntegerWithin) (defBody sIsIntegerWithin) (defScope sIsIntegerWithin) .none kVIsIntegerWithin dcIsIntegerWithin pmIsIntegerWithin anIsIntegerWithin cdIsIntegerWithin ctIsIntegerWithin), slIsIntegerWithin⟩)
    (cIsIntegerWithin : PySem.W.codeIn K cdIsIntegerWithin "is_integer_within" = true)
    (kIsIntegerWithin : PySem.W.keepIn K (.ref fIsIntegerWithin) = true)
    (aIsWord : PySem.W.nsIn K mainGlobals "is_word" = some (some (.ref fIsWord)))
    (lIsWord : K.lookup fIsWord = some ⟨ocIsWord, odIsWord, .func (PySem.W.fnOf "is_word" "is_word" (defArgs sIsWord) (defBody sIsWord) (defScope sIsWord) .none kVIsWord dcIsWord pmIsWord anIsWord cdIsWord ctIsWord), slIsWord⟩)
    (cIsWord : PySem.W.codeIn K cdIsWord "is_word" = true)
    (kIsWord : PySem.W.keepIn K (.ref fIsWord) = true)
    (aArePeople : PySem.W.nsIn K mainGlobals "are_people" = some (some (.ref fArePeople)))
    (lArePeople : K.lookup fArePeople = some ⟨ocArePeople, odArePeople, .func (PySem.W.fnOf "are_people" "are_people" (defArgs sArePeople) (defBody sArePeople) (defScope sArePeople) .none kVArePeople dcArePeople pmArePeople anArePeople cdArePeople ctArePeople), slArePeople⟩)
    (cArePeople : PySem.W.codeIn K cdArePeople "are_people" = true)
    (kArePeople : PySem.W.keepIn K (.ref fArePeople) = true)
    (aNeedCrowd : PySem.W.nsIn K mainGlobals "need_crowd" = some (some (.ref fNeedCrowd)))
    (lNeedCrowd : K.lookup fNeedCrowd = some ⟨ocNeedCrowd, odNeedCrowd, .func (PySem.W.fnOf "need_crowd" "need_crowd" (defArgs sNeedCrowd) (defBody sNeedCrowd) (defScope sNeedCrowd) .none kVNeedCrowd dcNeedCrowd pmNeedCrowd anNeedCrowd cdNeedCrowd ctNeedCrowd), slNeedCrowd⟩)
    (cNeedCrowd : PySem.W.codeIn K cdNeedCrowd "need_crowd" = true)
    (kNeedCrowd : PySem.W.keepIn K (.ref fNeedCrowd) = true)
    (aNeedPerson : PySem.W.nsIn K mainGlobals "need_person" = some (some (.ref fNeedPerson)))
    (lNeedPerson : K.lookup fNeedPerson = some ⟨ocNeedPerson, odNeedPerson, .func (PySem.W.fnOf "need_person" "need_person" (defArgs sNeedPerson) (defBody sNeedPerson) (defScope sNeedPerson) .none kVNeedPerson dcNeedPerson pmNeedPerson anNeedPerson cdNeedPerson ctNeedPerson), slNeedPerson⟩)
    (cNeedPerson : PySem.W.codeIn K cdNeedPerson "need_person" = true)
    (kNeedPerson : PySem.W.keepIn K (.ref fNeedPerson) = true)
    (aIsMark : PySem.W.nsIn K mainGlobals "is_mark" = some (some (.ref fIsMark)))
    (lIsMark : K.lookup fIsMark = some ⟨ocIsMark, odIsMark, .func (PySem.W.fnOf "is_mark" "is_mark" (defArgs sIsMark) (defBody sIsMark) (defScope sIsMark) .none kVIsMark dcIsMark pmIsMark anIsMark cdIsMark ctIsMark), slIsMark⟩)
    (cIsMark : PySem.W.codeIn K cdIsMark "is_mark" = true)
    (kIsMark : PySem.W.keepIn K (.ref fIsMark) = true)
    (aIsMarkOrNone : PySem.W.nsIn K mainGlobals "is_mark_or_none" = some (some (.ref fIsMarkOrNone)))
    (lIsMarkOrNone : K.lookup fIsMarkOrNone = some ⟨ocIsMarkOrNone, odIsMarkOrNone, .func (PySem.W.fnOf "is_mark_or_none" "is_mark_or_none" (defArgs sIsMarkOrNone) (defBody sIsMarkOrNone) (defScope sIsMarkOrNone) .none kVIsMarkOrNone dcIsMarkOrNone pmIsMarkOrNone anIsMarkOrNone cdIsMarkOrNone ctIsMarkOrNone), slIsMarkOrNone⟩)
    (cIsMarkOrNone : PySem.W.codeIn K cdIsMarkOrNone "is_mark_or_none" = true)
    (kIsMarkOrNone : PySem.W.keepIn K (.ref fIsMarkOrNone) = true)
    (aAreMarks : PySem.W.nsIn K mainGlobals "are_marks" = some (some (.ref fAreMarks)))
    (lAreMarks : K.lookup fAreMarks = some ⟨ocAreMarks, odAreMarks, .func (PySem.W.fnOf "are_marks" "are_marks" (defArgs sAreMarks) (defBody sAreMarks) (defScope sAreMarks) .none kVAreMarks dcAreMarks pmAreMarks anAreMarks cdAreMarks ctAreMarks), slAreMarks⟩)
    (cAreMarks : PySem.W.codeIn K cdAreMarks "are_marks" = true)
    (kAreMarks : PySem.W.keepIn K (.ref fAreMarks) = true)
    (aIsRow : PySem.W.nsIn K mainGlobals "is_row" = some (some (.ref fIsRow)))
    (lIsRow : K.lookup fIsRow = some ⟨ocIsRow, odIsRow, .func (PySem.W.fnOf "is_row" "is_row" (defArgs sIsRow) (defBody sIsRow) (defScope sIsRow) .none kVIsRow dcIsRow pmIsRow anIsRow cdIsRow ctIsRow), slIsRow⟩)
    (cIsRow : PySem.W.codeIn K cdIsRow "is_row" = true)
    (kIsRow : PySem.W.keepIn K (.ref fIsRow) = true)
    (aOpened : PySem.W.nsIn K mainGlobals "_law_opened" = some (some (.ref fOpened)))
    (lOpened : K.lookup fOpened = some ⟨ocOpened, odOpened, .func (PySem.W.fnOf "_law_opened" "_law_opened" (defArgs sOpened) (defBody sOpened) (defScope sOpened) .none kVOpened dcOpened pmOpened anOpened cdOpened ctOpened), slOpened⟩)
    (cOpened : PySem.W.codeIn K cdOpened "_law_opened" = true)
    (kOpened : PySem.W.keepIn K (.ref fOpened) = true)
    (aDraw : PySem.W.nsIn K mainGlobals "_law_draw" = some (some (.ref fDraw)))
    (lDraw : K.lookup fDraw = some ⟨ocDraw, odDraw, .func (PySem.W.fnOf "_law_draw" "_law_draw" (defArgs sDraw) (defBody sDraw) (defScope sDraw) .none kVDraw dcDraw pmDraw anDraw cdDraw ctDraw), slDraw⟩)
    (cDraw : PySem.W.codeIn K cdDraw "_law_draw" = true)
    (kDraw : PySem.W.keepIn K (.ref fDraw) = true)
    (aPick : PySem.W.nsIn K mainGlobals "_law_pick" = some (some (.ref fPick)))
    (lPick : K.lookup fPick = some ⟨ocPick, odPick, .func (PySem.W.fnOf "_law_pick" "_law_pick" (defArgs sPick) (defBody sPick) (defScope sPick) .none kVPick dcPick pmPick anPick cdPick ctPick), slPick⟩)
    (cPick : PySem.W.codeIn K cdPick "_law_pick" = true)
    (kPick : PySem.W.keepIn K (.ref fPick) = true)
    (aPeople : PySem.W.nsIn K mainGlobals "_law_people" = some (some (.ref fPeople)))
    (lPeople : K.lookup fPeople = some ⟨ocPeople, odPeople, .func (PySem.W.fnOf "_law_people" "_law_people" (defArgs sPeople) (defBody sPeople) (defScope sPeople) .none kVPeople dcPeople pmPeople anPeople cdPeople ctPeople), slPeople⟩)
    (cPeople : PySem.W.codeIn K cdPeople "_law_people" = true)
    (kPeople : PySem.W.keepIn K (.ref fPeople) = true)
    (aPairs : PySem.W.nsIn K mainGlobals "_law_pairs" = some (some (.ref fPairs)))
    (lPairs : K.lookup fPairs = some ⟨ocPairs, odPairs, .func (PySem.W.fnOf "_law_pairs" "_law_pairs" (defArgs sPairs) (defBody sPairs) (defScope sPairs) .none kVPairs dcPairs pmPairs anPairs cdPairs ctPairs), slPairs⟩)
    (cPairs : PySem.W.codeIn K cdPairs "_law_pairs" = true)
    (kPairs : PySem.W.keepIn K (.ref fPairs) = true)
    (aSheet : PySem.W.nsIn K mainGlobals "_law_sheet" = some (some (.ref fSheet)))
    (lSheet : K.lookup fSheet = some ⟨ocSheet, odSheet, .func (PySem.W.fnOf "_law_sheet" "_law_sheet" (defArgs sSheet) (defBody sSheet) (defScope sSheet) .none kVSheet dcSheet pmSheet anSheet cdSheet ctSheet), slSheet⟩)
    (cSheet : PySem.W.codeIn K cdSheet "_law_sheet" = true)
    (kSheet : PySem.W.keepIn K (.ref fSheet) = true)
    (aPageRight : PySem.W.nsIn K mainGlobals "_law_page_right" = some (some (.ref fPageRight)))
    (lPageRight : K.lookup fPageRight = some ⟨ocPageRight, odPageRight, .func (PySem.W.fnOf "_law_page_right" "_law_page_right" (defArgs sPageRight) (defBody sPageRight) (defScope sPageRight) .none kVPageRight dcPageRight pmPageRight anPageRight cdPageRight ctPageRight), slPageRight⟩)
    (cPageRight : PySem.W.codeIn K cdPageRight "_law_page_right" = true)
    (kPageRight : PySem.W.keepIn K (.ref fPageRight) = true)
    (aChangedRight : PySem.W.nsIn K mainGlobals "_law_changed_right" = some (some (.ref fChangedRight)))
    (lChangedRight : K.lookup fChangedRight = some ⟨ocChangedRight, odChangedRight, .func (PySem.W.fnOf "_law_changed_right" "_law_changed_right" (defArgs sChangedRight) (defBody sChangedRight) (defScope sChangedRight) .none kVChangedRight dcChangedRight pmChangedRight anChangedRight cdChangedRight ctChangedRight), slChangedRight⟩)
    (cChangedRight : PySem.W.codeIn K cdChangedRight "_law_changed_right" = true)
    (kChangedRight : PySem.W.keepIn K (.ref fChangedRight) = true)
    (aLaw : PySem.W.nsIn K mainGlobals "law" = some (some (.ref fLaw)))
    (lLaw : K.lookup fLaw = some ⟨ocLaw, odLaw, .func (PySem.W.fnOf "law" "law" (defArgs sLaw) (defBody sLaw) (defScope sLaw) .none kVLaw dcLaw pmLaw anLaw cdLaw ctLaw), slLaw⟩)
    (cLaw : PySem.W.codeIn K cdLaw "law" = true)
    (kLaw : PySem.W.keepIn K (.ref fLaw) = true)
    (aNeedPair : PySem.W.nsIn K mainGlobals "need_pair" = some (some (.ref fNeedPair)))
    (lNeedPair : K.lookup fNeedPair = some ⟨ocNeedPair, odNeedPair, .func (PySem.W.fnOf "need_pair" "need_pair" (defArgs sNeedPair) (defBody sNeedPair) (defScope sNeedPair) .none kVNeedPair dcNeedPair pmNeedPair anNeedPair cdNeedPair ctNeedPair), slNeedPair⟩)
    (cNeedPair : PySem.W.codeIn K cdNeedPair "need_pair" = true)
    (kNeedPair : PySem.W.keepIn K (.ref fNeedPair) = true)
    (aMarksError : PySem.W.nsIn K mainGlobals "MarksError" = some (some (.ref CMarksError)))
    (aBadCrowd : PySem.W.nsIn K mainGlobals "BadCrowd" = some (some (.ref CBadCrowd)))
    (gaBadCrowd : PySem.W.findIn K (.ref CBadCrowd) "__getattribute__" = some (some (.builtin "BaseException.__getattribute__")))
    (ggBadCrowd : PySem.W.findIn K (.ref CBadCrowd) "__getattr__" = some none)
    (exBadCrowd : PySem.W.subIn K (.ref CBadCrowd) (.type "BaseException") = some true)
    (hdBadCrowd : PySem.W.hasDictIn K CBadCrowd = true)
    (noBadCrowd : PySem.W.findIn K (.ref CBadCrowd) "part" = some none)
    (ccBadCrowd : PySem.W.findIn K (.ref CBadCrowd) "__class__" = some (some (.builtin "object.__class__")))
    (mrBadCrowd : PySem.W.mroIn K CBadCrowd (.type "object") = some true)
    (spg : PySem.W.specialIn K (.builtin "object.__class__") "__get__" = some (some (.builtin "getset_descriptor.__get__")))
    (tkc : PySem.W.takesIn K (.builtin "object.__class__") = some true)
    (xBadCrowd : K.lookup CBadCrowd = some (excClassObj nmBadCrowd qBadCrowd CBadCrowd NBadCrowd bsBadCrowd (.ref CMarksError :: [.type "ValueError", .type "Exception", .type "BaseException", .type "object"]) true snBadCrowd subBadCrowd abBadCrowd colBadCrowd ddBadCrowd m0BadCrowd m1BadCrowd m2BadCrowd m3BadCrowd m5BadCrowd "ValueError.__new__"))
    (ssBadCrowd : PySem.W.subIn K (.ref CBadCrowd) (.ref CBadCrowd) = some true)
    (saBadCrowd : PySem.W.findIn K (.ref CBadCrowd) "__setattr__" = some (some (.builtin "object.__setattr__")))
    (tyBadCrowd : PySem.W.typeIn K (.ref CBadCrowd) = some (.type "type"))
    (kkBadCrowd : PySem.W.keepIn K (.ref CBadCrowd) = true)
    (iBadCrowd : PySem.W.findIn K (.ref CBadCrowd) "__init__" = some (some (.ref fBadCrowdInit)))
    (tBadCrowd : PySem.W.typeIn K (.ref fBadCrowdInit) = some (.type "function"))
    (lBadCrowdInit : K.lookup fBadCrowdInit = some ⟨ocBadCrowdInit, odBadCrowdInit, .func (PySem.W.fnOf "__init__" "BadCrowd.__init__" (defArgs sBadCrowdInit) (defBody sBadCrowdInit) (defScope sBadCrowdInit) .none kVBadCrowdInit dcBadCrowdInit pmBadCrowdInit anBadCrowdInit cdBadCrowdInit ctBadCrowdInit), slBadCrowdInit⟩)
    (cBadCrowdInit : PySem.W.codeIn K cdBadCrowdInit "BadCrowd.__init__" = true)
    (kBadCrowdInit : PySem.W.keepIn K (.ref fBadCrowdInit) = true)
    (aNotThere : PySem.W.nsIn K mainGlobals "NotThere" = some (some (.ref CNotThere)))
    (gaNotThere : PySem.W.findIn K (.ref CNotThere) "__getattribute__" = some (some (.builtin "BaseException.__getattribute__")))
    (ggNotThere : PySem.W.findIn K (.ref CNotThere) "__getattr__" = some none)
    (exNotThere : PySem.W.subIn K (.ref CNotThere) (.type "BaseException") = some true)
    (hdNotThere : PySem.W.hasDictIn K CNotThere = true)
    (noNotThere : PySem.W.findIn K (.ref CNotThere) "word" = some none)
    (ccNotThere : PySem.W.findIn K (.ref CNotThere) "__class__" = some (some (.builtin "object.__class__")))
    (mrNotThere : PySem.W.mroIn K CNotThere (.type "object") = some true)
    (inNotThere : PySem.W.excInitIn K CNotThere [.type "LookupError", .type "Exception", .type "BaseException", .type "object"] "LookupError.__new__" = true)
    (ovNotThere : PySem.W.excOver K CNotThere [.type "LookupError", .type "Exception", .type "BaseException", .type "object"] = true)
    (saNotThere : PySem.W.findIn K (.ref CNotThere) "__setattr__" = some (some (.builtin "object.__setattr__")))
    (tyNotThere : PySem.W.typeIn K (.ref CNotThere) = some (.type "type"))
    (kkNotThere : PySem.W.keepIn K (.ref CNotThere) = true)
    (iNotThere : PySem.W.findIn K (.ref CNotThere) "__init__" = some (some (.ref fNotThereInit)))
    (tNotThere : PySem.W.typeIn K (.ref fNotThereInit) = some (.type "function"))
    (lNotThereInit : K.lookup fNotThereInit = some ⟨ocNotThereInit, odNotThereInit, .func (PySem.W.fnOf "__init__" "NotThere.__init__" (defArgs sNotThereInit) (defBody sNotThereInit) (defScope sNotThereInit) .none kVNotThereInit dcNotThereInit pmNotThereInit anNotThereInit cdNotThereInit ctNotThereInit), slNotThereInit⟩)
    (cNotThereInit : PySem.W.codeIn K cdNotThereInit "NotThere.__init__" = true)
    (kNotThereInit : PySem.W.keepIn K (.ref fNotThereInit) = true)
    (aCrowd : PySem.W.nsIn K mainGlobals "Crowd" = some (some (.ref CCrowd)))
    (pgCrowd : PySem.W.plainGet K CCrowd Str.empty = true)
    (hdCrowd : PySem.W.hasDictIn K CCrowd = true)
    (poCrowd : PySem.W.plainOver K CCrowd = true)
    (saCrowd : PySem.W.findIn K (.ref CCrowd) "__setattr__" = some (some (.builtin "object.__setattr__")))
    (mkCrowd : PySem.W.makesIn K CCrowd = true)
    (kcCrowd : PySem.W.keepIn K (.ref CCrowd) = true)
    (ccCrowd : PySem.W.findIn K (.ref CCrowd) "__class__" = some (some (.builtin "object.__class__")))
    (mrCrowd : PySem.W.mroIn K CCrowd (.type "object") = some true)
    (kitCrowd : PySem.W.kitOne K (.ref CCrowd) (.ref CCrowd) = some true)
    (noCrowd_people : PySem.W.findIn K (.ref CCrowd) "_people" = some none)
    (noCrowdmost : PySem.W.findIn K (.ref CCrowd) "most" = some none)
    (mCrowdInit : PySem.W.findIn K (.ref CCrowd) "__init__" = some (some (.ref fCrowdInit)))
    (isfCrowdInit : PySem.W.isFn K (.ref fCrowdInit) = true)
    (lCrowdInit : K.lookup fCrowdInit = some ⟨ocCrowdInit, odCrowdInit, .func (PySem.W.fnOf "__init__" "Crowd.__init__" (defArgs sCrowdInit) (defBody sCrowdInit) (defScope sCrowdInit) .none kVCrowdInit dcCrowdInit pmCrowdInit anCrowdInit cdCrowdInit ctCrowdInit), slCrowdInit⟩)
    (cCrowdInit : PySem.W.codeIn K cdCrowdInit "Crowd.__init__" = true)
    (kCrowdInit : PySem.W.keepIn K (.ref fCrowdInit) = true)
    (mCrowdLen : PySem.W.findIn K (.ref CCrowd) "__len__" = some (some (.ref fCrowdLen)))
    (isfCrowdLen : PySem.W.isFn K (.ref fCrowdLen) = true)
    (lCrowdLen : K.lookup fCrowdLen = some ⟨ocCrowdLen, odCrowdLen, .func (PySem.W.fnOf "__len__" "Crowd.__len__" (defArgs sCrowdLen) (defBody sCrowdLen) (defScope sCrowdLen) .none kVCrowdLen dcCrowdLen pmCrowdLen anCrowdLen cdCrowdLen ctCrowdLen), slCrowdLen⟩)
    (cCrowdLen : PySem.W.codeIn K cdCrowdLen "Crowd.__len__" = true)
    (kCrowdLen : PySem.W.keepIn K (.ref fCrowdLen) = true)
    (mCrowdContains : PySem.W.findIn K (.ref CCrowd) "__contains__" = some (some (.ref fCrowdContains)))
    (isfCrowdContains : PySem.W.isFn K (.ref fCrowdContains) = true)
    (lCrowdContains : K.lookup fCrowdContains = some ⟨ocCrowdContains, odCrowdContains, .func (PySem.W.fnOf "__contains__" "Crowd.__contains__" (defArgs sCrowdContains) (defBody sCrowdContains) (defScope sCrowdContains) .none kVCrowdContains dcCrowdContains pmCrowdContains anCrowdContains cdCrowdContains ctCrowdContains), slCrowdContains⟩)
    (cCrowdContains : PySem.W.codeIn K cdCrowdContains "Crowd.__contains__" = true)
    (kCrowdContains : PySem.W.keepIn K (.ref fCrowdContains) = true)
    (mCrowdEq : PySem.W.findIn K (.ref CCrowd) "__eq__" = some (some (.ref fCrowdEq)))
    (isfCrowdEq : PySem.W.isFn K (.ref fCrowdEq) = true)
    (lCrowdEq : K.lookup fCrowdEq = some ⟨ocCrowdEq, odCrowdEq, .func (PySem.W.fnOf "__eq__" "Crowd.__eq__" (defArgs sCrowdEq) (defBody sCrowdEq) (defScope sCrowdEq) .none kVCrowdEq dcCrowdEq pmCrowdEq anCrowdEq cdCrowdEq ctCrowdEq), slCrowdEq⟩)
    (cCrowdEq : PySem.W.codeIn K cdCrowdEq "Crowd.__eq__" = true)
    (kCrowdEq : PySem.W.keepIn K (.ref fCrowdEq) = true)
    (mCrowdPairs : PySem.W.findIn K (.ref CCrowd) "pairs" = some (some (.ref fCrowdPairs)))
    (isfCrowdPairs : PySem.W.isFn K (.ref fCrowdPairs) = true)
    (lCrowdPairs : K.lookup fCrowdPairs = some ⟨ocCrowdPairs, odCrowdPairs, .func (PySem.W.fnOf "pairs" "Crowd.pairs" (defArgs sCrowdPairs) (defBody sCrowdPairs) (defScope sCrowdPairs) .none kVCrowdPairs dcCrowdPairs pmCrowdPairs anCrowdPairs cdCrowdPairs ctCrowdPairs), slCrowdPairs⟩)
    (cCrowdPairs : PySem.W.codeIn K cdCrowdPairs "Crowd.pairs" = true)
    (kCrowdPairs : PySem.W.keepIn K (.ref fCrowdPairs) = true)
    (mCrowdIsPair : PySem.W.findIn K (.ref CCrowd) "is_pair" = some (some (.ref fCrowdIsPair)))
    (isfCrowdIsPair : PySem.W.isFn K (.ref fCrowdIsPair) = true)
    (lCrowdIsPair : K.lookup fCrowdIsPair = some ⟨ocCrowdIsPair, odCrowdIsPair, .func (PySem.W.fnOf "is_pair" "Crowd.is_pair" (defArgs sCrowdIsPair) (defBody sCrowdIsPair) (defScope sCrowdIsPair) .none kVCrowdIsPair dcCrowdIsPair pmCrowdIsPair anCrowdIsPair cdCrowdIsPair ctCrowdIsPair), slCrowdIsPair⟩)
    (cCrowdIsPair : PySem.W.codeIn K cdCrowdIsPair "Crowd.is_pair" = true)
    (kCrowdIsPair : PySem.W.keepIn K (.ref fCrowdIsPair) = true)
    (mCrowdPeople : PySem.W.findIn K (.ref CCrowd) "people" = some (some (.ref pCrowdPeople)))
    (pgCrowdPeople : PySem.W.specialIn K (.ref pCrowdPeople) "__get__" = some (some (.builtin "property.__get__")))
    (ptCrowdPeople : PySem.W.takesIn K (.ref pCrowdPeople) = some true)
    (prCrowdPeople : PySem.W.recIn K pCrowdPeople "property" = some (.ref fCrowdPeople :: restCrowdPeople))
    (lCrowdPeople : K.lookup fCrowdPeople = some ⟨ocCrowdPeople, odCrowdPeople, .func (PySem.W.fnOf "people" "Crowd.people" (defArgs sCrowdPeople) (defBody sCrowdPeople) (defScope sCrowdPeople) .none kVCrowdPeople dcCrowdPeople pmCrowdPeople anCrowdPeople cdCrowdPeople ctCrowdPeople), slCrowdPeople⟩)
    (cCrowdPeople : PySem.W.codeIn K cdCrowdPeople "Crowd.people" = true)
    (kCrowdPeople : PySem.W.keepIn K (.ref fCrowdPeople) = true)
    (aPage : PySem.W.nsIn K mainGlobals "Page" = some (some (.ref CPage)))
    (pgPage : PySem.W.plainGet K CPage Str.empty = true)
    (hdPage : PySem.W.hasDictIn K CPage = true)
    (poPage : PySem.W.plainOver K CPage = true)
    (saPage : PySem.W.findIn K (.ref CPage) "__setattr__" = some (some (.builtin "object.__setattr__")))
    (mkPage : PySem.W.makesIn K CPage = true)
    (kcPage : PySem.W.keepIn K (.ref CPage) = true)
    (ccPage : PySem.W.findIn K (.ref CPage) "__class__" = some (some (.builtin "object.__class__")))
    (mrPage : PySem.W.mroIn K CPage (.type "object") = some true)
    (kitPage : PySem.W.kitOne K (.ref CPage) (.ref CPage) = some true)
    (noPagecrowd : PySem.W.findIn K (.ref CPage) "crowd" = some none)
    (noPage_marks : PySem.W.findIn K (.ref CPage) "_marks" = some none)
    (mPageInit : PySem.W.findIn K (.ref CPage) "__init__" = some (some (.ref fPageInit)))
    (isfPageInit : PySem.W.isFn K (.ref fPageInit) = true)
    (lPageInit : K.lookup fPageInit = some ⟨ocPageInit, odPageInit, .func (PySem.W.fnOf "__init__" "Page.__init__" (defArgs sPageInit) (defBody sPageInit) (defScope sPageInit) .none kVPageInit dcPageInit pmPageInit anPageInit cdPageInit ctPageInit), slPageInit⟩)
    (cPageInit : PySem.W.codeIn K cdPageInit "Page.__init__" = true)
    (kPageInit : PySem.W.keepIn K (.ref fPageInit) = true)
    (mPageGetitem : PySem.W.findIn K (.ref CPage) "__getitem__" = some (some (.ref fPageGetitem)))
    (isfPageGetitem : PySem.W.isFn K (.ref fPageGetitem) = true)
    (lPageGetitem : K.lookup fPageGetitem = some ⟨ocPageGetitem, odPageGetitem, .func (PySem.W.fnOf "__getitem__" "Page.__getitem__" (defArgs sPageGetitem) (defBody sPageGetitem) (defScope sPageGetitem) .none kVPageGetitem dcPageGetitem pmPageGetitem anPageGetitem cdPageGetitem ctPageGetitem), slPageGetitem⟩)
    (cPageGetitem : PySem.W.codeIn K cdPageGetitem "Page.__getitem__" = true)
    (kPageGetitem : PySem.W.keepIn K (.ref fPageGetitem) = true)
    (mPageEq : PySem.W.findIn K (.ref CPage) "__eq__" = some (some (.ref fPageEq)))
    (isfPageEq : PySem.W.isFn K (.ref fPageEq) = true)
    (lPageEq : K.lookup fPageEq = some ⟨ocPageEq, odPageEq, .func (PySem.W.fnOf "__eq__" "Page.__eq__" (defArgs sPageEq) (defBody sPageEq) (defScope sPageEq) .none kVPageEq dcPageEq pmPageEq anPageEq cdPageEq ctPageEq), slPageEq⟩)
    (cPageEq : PySem.W.codeIn K cdPageEq "Page.__eq__" = true)
    (kPageEq : PySem.W.keepIn K (.ref fPageEq) = true)
    (mPageRow : PySem.W.findIn K (.ref CPage) "row" = some (some (.ref fPageRow)))
    (isfPageRow : PySem.W.isFn K (.ref fPageRow) = true)
    (lPageRow : K.lookup fPageRow = some ⟨ocPageRow, odPageRow, .func (PySem.W.fnOf "row" "Page.row" (defArgs sPageRow) (defBody sPageRow) (defScope sPageRow) .none kVPageRow dcPageRow pmPageRow anPageRow cdPageRow ctPageRow), slPageRow⟩)
    (cPageRow : PySem.W.codeIn K cdPageRow "Page.row" = true)
    (kPageRow : PySem.W.keepIn K (.ref fPageRow) = true)
    (mPageWithMark : PySem.W.findIn K (.ref CPage) "with_mark" = some (some (.ref fPageWithMark)))
    (isfPageWithMark : PySem.W.isFn K (.ref fPageWithMark) = true)
    (lPageWithMark : K.lookup fPageWithMark = some ⟨ocPageWithMark, odPageWithMark, .func (PySem.W.fnOf "with_mark" "Page.with_mark" (defArgs sPageWithMark) (defBody sPageWithMark) (defScope sPageWithMark) .none kVPageWithMark dcPageWithMark pmPageWithMark anPageWithMark cdPageWithMark ctPageWithMark), slPageWithMark⟩)
    (cPageWithMark : PySem.W.codeIn K cdPageWithMark "Page.with_mark" = true)
    (kPageWithMark : PySem.W.keepIn K (.ref fPageWithMark) = true)
    (mPageWithRow : PySem.W.findIn K (.ref CPage) "with_row" = some (some (.ref fPageWithRow)))
    (isfPageWithRow : PySem.W.isFn K (.ref fPageWithRow) = true)
    (lPageWithRow : K.lookup fPageWithRow = some ⟨ocPageWithRow, odPageWithRow, .func (PySem.W.fnOf "with_row" "Page.with_row" (defArgs sPageWithRow) (defBody sPageWithRow) (defScope sPageWithRow) .none kVPageWithRow dcPageWithRow pmPageWithRow anPageWithRow cdPageWithRow ctPageWithRow), slPageWithRow⟩)
    (cPageWithRow : PySem.W.codeIn K cdPageWithRow "Page.with_row" = true)
    (kPageWithRow : PySem.W.keepIn K (.ref fPageWithRow) = true)
    (mPageMarks : PySem.W.findIn K (.ref CPage) "marks" = some (some (.ref pPageMarks)))
    (pgPageMarks : PySem.W.specialIn K (.ref pPageMarks) "__get__" = some (some (.builtin "property.__get__")))
    (ptPageMarks : PySem.W.takesIn K (.ref pPageMarks) = some true)
    (prPageMarks : PySem.W.recIn K pPageMarks "property" = some (.ref fPageMarks :: restPageMarks))
    (lPageMarks : K.lookup fPageMarks = some ⟨ocPageMarks, odPageMarks, .func (PySem.W.fnOf "marks" "Page.marks" (defArgs sPageMarks) (defBody sPageMarks) (defScope sPageMarks) .none kVPageMarks dcPageMarks pmPageMarks anPageMarks cdPageMarks ctPageMarks), slPageMarks⟩)
    (cPageMarks : PySem.W.codeIn K cdPageMarks "Page.marks" = true)
    (kPageMarks : PySem.W.keepIn K (.ref fPageMarks) = true)
    (mPageIsFull : PySem.W.findIn K (.ref CPage) "is_full" = some (some (.ref pPageIsFull)))
    (pgPageIsFull : PySem.W.specialIn K (.ref pPageIsFull) "__get__" = some (some (.builtin "property.__get__")))
    (ptPageIsFull : PySem.W.takesIn K (.ref pPageIsFull) = some true)
    (prPageIsFull : PySem.W.recIn K pPageIsFull "property" = some (.ref fPageIsFull :: restPageIsFull))
    (lPageIsFull : K.lookup fPageIsFull = some ⟨ocPageIsFull, odPageIsFull, .func (PySem.W.fnOf "is_full" "Page.is_full" (defArgs sPageIsFull) (defBody sPageIsFull) (defScope sPageIsFull) .none kVPageIsFull dcPageIsFull pmPageIsFull anPageIsFull cdPageIsFull ctPageIsFull), slPageIsFull⟩)
    (cPageIsFull : PySem.W.codeIn K cdPageIsFull "Page.is_full" = true)
    (kPageIsFull : PySem.W.keepIn K (.ref fPageIsFull) = true)
    (lkF : PySem.W.findCls K (.ref CPage) (.type "type") "filled" = some (.get (.builtin "staticmethod.__get__") (.ref pPageFilled) .none (.ref CPage)))
    (rcF : PySem.W.recIn K pPageFilled "staticmethod" = some (.ref fPageFilled :: restPF))
    (lPageFilled : K.lookup fPageFilled = some ⟨ocPageFilled, odPageFilled, .func (PySem.W.fnOf "filled" "Page.filled" (defArgs sPageFilled) (defBody sPageFilled) (defScope sPageFilled) .none kVPageFilled dcPageFilled pmPageFilled anPageFilled cdPageFilled ctPageFilled), slPageFilled⟩)
    (cPageFilled : PySem.W.codeIn K cdPageFilled "Page.filled" = true)
    (kPageFilled : PySem.W.keepIn K (.ref fPageFilled) = true)
    (rdP : PySem.W.readsIn K CPage (.type "type") = true)
    (gaP : PySem.W.specialIn K (.ref CPage) "__getattribute__" = some (some (.builtin "type.__getattribute__")))
    (fnGet : PySem.W.fnIn K fPageGetitem = true)
    (kitL : PySem.W.kitOne K (.type "list") (.ref CCrowd) = some false)
    (kitPD : PySem.W.kitOne K (.type "dict") (.ref CPage) = some false)
    (kitPC : PySem.W.kitOne K (.ref CCrowd) (.ref CPage) = some false)
    (neO : PySem.W.findIn K (.ref CCrowd) "__ne__" = some (some (.builtin "object.__ne__")))
    (nePg : PySem.W.findIn K (.ref CPage) "__ne__" = some (some (.builtin "object.__ne__")))
    (nfC : PySem.W.notFirst K CCrowd (.ref CCrowd) = true)
    (nfP : PySem.W.notFirst K CPage (.ref CPage) = true)
    (nfPC : PySem.W.notFirst K CPage (.ref CCrowd) = true)
    (nfPD : PySem.W.notFirst K CPage (.type "dict") = true)
    (z_len : PySem.W.nsIn K mainGlobals "len" = some none)
    (z_max : PySem.W.nsIn K mainGlobals "max" = some none)
    (z_min : PySem.W.nsIn K mainGlobals "min" = some none)
    (z_int : PySem.W.nsIn K mainGlobals "int" = some none)
    (z_range : PySem.W.nsIn K mainGlobals "range" = some none)
    (z_isinstance : PySem.W.nsIn K mainGlobals "isinstance" = some none)
    (z_str : PySem.W.nsIn K mainGlobals "str" = some none)
    (z_bool : PySem.W.nsIn K mainGlobals "bool" = some none)
    (z_list : PySem.W.nsIn K mainGlobals "list" = some none)
    (z_tuple : PySem.W.nsIn K mainGlobals "tuple" = some none)
    (z_set : PySem.W.nsIn K mainGlobals "set" = some none)
    (z_all : PySem.W.nsIn K mainGlobals "all" = some none)
    (z_dict : PySem.W.nsIn K mainGlobals "dict" = some none)
    (z_repr : PySem.W.nsIn K mainGlobals "repr" = some none)
    (z_LETTERS : PySem.W.nsIn K mainGlobals "LETTERS" = some (some (.str letters t_LETTERS)))
    (z_LONGEST : PySem.W.nsIn K mainGlobals "LONGEST" = some (some (.int 8 t_LONGEST)))
    (z_MOST_PEOPLE : PySem.W.nsIn K mainGlobals "MOST_PEOPLE" = some (some (.int 8 t_MOST_PEOPLE)))
    (z_GREATEST_MARK : PySem.W.nsIn K mainGlobals "GREATEST_MARK" = some (some (.int 10 t_GREATEST_MARK))) :
    ∃ fd : FuncData, (∀ (s : Shared) (u : Value), BindsTo s fd ⟨[u], []⟩ [("_law_script", u)]) ∧ ∀ b0 : Heap, K.In b0 → b0.Ns mainGlobals mg → FnG l.prog w K mg b0 CX0 10 fa fd ["_law_script"] (spLaw K) := by
  have e := hfa.symm.trans (PySem.W.mg_of X G aLaw)
  cases e
  have B : Bt mg := ⟨PySem.W.mg_none_of X G z_len, PySem.W.mg_none_of X G z_max, PySem.W.mg_none_of X G z_min, PySem.W.mg_none_of X G z_int, PySem.W.mg_none_of X G z_range⟩
  have T : Tx mg := ⟨PySem.W.mg_none_of X G z_isinstance, PySem.W.mg_none_of X G z_str, PySem.W.mg_none_of X G z_bool, PySem.W.mg_none_of X G z_list, PySem.W.mg_none_of X G z_tuple, PySem.W.mg_none_of X G z_set, PySem.W.mg_none_of X G z_all, ⟨_, PySem.W.mg_of X G z_LETTERS⟩, ⟨_, PySem.W.mg_of X G z_LONGEST⟩, ⟨_, PySem.W.mg_of X G z_MOST_PEOPLE⟩, ⟨_, PySem.W.mg_of X G z_GREATEST_MARK⟩⟩
  have Z : Tp mg := ⟨PySem.W.mg_none_of X G z_dict, PySem.W.mg_none_of X G z_repr⟩
  have FIsInteger := fun_mk (st := sIsInteger) lIsInteger cIsInteger kIsInteger
  have FIsIntegerWithin := fun_mk (st := sIsIntegerWithin) lIsIntegerWithin cIsIntegerWithin kIsIntegerWithin
  have FIsWord := fun_mk (st := sIsWord) lIsWord cIsWord kIsWord
  have FArePeople := fun_mk (st := sArePeople) lArePeople cArePeople kArePeople
  have FNeedCrowd := fun_mk (st := sNeedCrowd) lNeedCrowd cNeedCrowd kNeedCrowd
  have FNeedPerson := fun_mk (st := sNeedPerson) lNeedPerson cNeedPerson kNeedPerson
  have FIsMark := fun_mk (st := sIsMark) lIsMark cIsMark kIsMark
  have FIsMarkOrNone := fun_mk (st := sIsMarkOrNone) lIsMarkOrNone cIsMarkOrNone kIsMarkOrNone
  have FAreMarks := fun_mk (st := sAreMarks) lAreMarks cAreMarks kAreMarks
  have FIsRow := fun_mk (st := sIsRow) lIsRow cIsRow kIsRow
  have FOpened := fun_mk (st := sOpened) lOpened cOpened kOpened
  have FDraw := fun_mk (st := sDraw) lDraw cDraw kDraw
  have FPick := fun_mk (st := sPick) lPick cPick kPick
  have FPeople := fun_mk (st := sPeople) lPeople cPeople kPeople
  have FPairs := fun_mk (st := sPairs) lPairs cPairs kPairs
  have FSheet := fun_mk (st := sSheet) lSheet cSheet kSheet
  have FPageRight := fun_mk (st := sPageRight) lPageRight cPageRight kPageRight
  have FChangedRight := fun_mk (st := sChangedRight) lChangedRight cChangedRight kChangedRight
  have FBadCrowdInit := fun_mk (st := sBadCrowdInit) lBadCrowdInit cBadCrowdInit kBadCrowdInit
  have FNotThereInit := fun_mk (st := sNotThereInit) lNotThereInit cNotThereInit kNotThereInit
  have FCrowdInit := fun_mk (st := sCrowdInit) lCrowdInit cCrowdInit kCrowdInit
  have FCrowdLen := fun_mk (st := sCrowdLen) lCrowdLen cCrowdLen kCrowdLen
  have FCrowdContains := fun_mk (st := sCrowdContains) lCrowdContains cCrowdContains kCrowdContains
  have FCrowdEq := fun_mk (st := sCrowdEq) lCrowdEq cCrowdEq kCrowdEq
  have FCrowdPairs := fun_mk (st := sCrowdPairs) lCrowdPairs cCrowdPairs kCrowdPairs
  have FCrowdIsPair := fun_mk (st := sCrowdIsPair) lCrowdIsPair cCrowdIsPair kCrowdIsPair
  have FCrowdPeople := fun_mk (st := sCrowdPeople) lCrowdPeople cCrowdPeople kCrowdPeople
  have FPageInit := fun_mk (st := sPageInit) lPageInit cPageInit kPageInit
  have FPageGetitem := fun_mk (st := sPageGetitem) lPageGetitem cPageGetitem kPageGetitem
  have FPageEq := fun_mk (st := sPageEq) lPageEq cPageEq kPageEq
  have FPageRow := fun_mk (st := sPageRow) lPageRow cPageRow kPageRow
  have FPageWithMark := fun_mk (st := sPageWithMark) lPageWithMark cPageWithMark kPageWithMark
  have FPageWithRow := fun_mk (st := sPageWithRow) lPageWithRow cPageWithRow kPageWithRow
  have FPageMarks := fun_mk (st := sPageMarks) lPageMarks cPageMarks kPageMarks
  have FPageIsFull := fun_mk (st := sPageIsFull) lPageIsFull cPageIsFull kPageIsFull
  have FPageFilled := fun_mk (st := sPageFilled) lPageFilled cPageFilled kPageFilled
  have FNeedPair := fun_mk (st := sNeedPair) lNeedPair cNeedPair kNeedPair
  have FLaw := fun_mk (st := sLaw) lLaw cLaw kLaw
  have bIsInteger := FIsInteger.binds (ps := ["value"]) fun _ _ _ _ _ _ us hl => match us, hl with | [_], _ => rfl
  have bIsIntegerWithin := FIsIntegerWithin.binds (ps := ["value", "least", "most"]) fun _ _ _ _ _ _ us hl => match us, hl with | [_, _, _], _ => rfl
  have bIsWord := FIsWord.binds (ps := ["value"]) fun _ _ _ _ _ _ us hl => match us, hl with | [_], _ => rfl
  have bArePeople := FArePeople.binds (ps := ["value"]) fun _ _ _ _ _ _ us hl => match us, hl with | [_], _ => rfl
  have bNeedCrowd := FNeedCrowd.binds (ps := ["crowd"]) fun _ _ _ _ _ _ us hl => match us, hl with | [_], _ => rfl
  have bNeedPerson := FNeedPerson.binds (ps := ["crowd", "person"]) fun _ _ _ _ _ _ us hl => match us, hl with | [_, _], _ => rfl
  have bIsMark := FIsMark.binds (ps := ["crowd", "value"]) fun _ _ _ _ _ _ us hl => match us, hl with | [_, _], _ => rfl
  have bIsMarkOrNone := FIsMarkOrNone.binds (ps := ["crowd", "value"]) fun _ _ _ _ _ _ us hl => match us, hl with | [_, _], _ => rfl
  have bAreMarks := FAreMarks.binds (ps := ["crowd", "value"]) fun _ _ _ _ _ _ us hl => match us, hl with | [_, _], _ => rfl
  have bIsRow := FIsRow.binds (ps := ["crowd", "person", "value"]) fun _ _ _ _ _ _ us hl => match us, hl with | [_, _, _], _ => rfl
  have bOpened := FOpened.binds (ps := ["_law_script", "_law_k"]) fun _ _ _ _ _ _ us hl => match us, hl with | [_, _], _ => rfl
  have bDraw := FDraw.binds (ps := ["_law_pool", "_law_many"]) fun _ _ _ _ _ _ us hl => match us, hl with | [_, _], _ => rfl
  have bPick := FPick.binds (ps := ["_law_pool", "_law_some"]) fun _ _ _ _ _ _ us hl => match us, hl with | [_, _], _ => rfl
  have bPeople := FPeople.binds (ps := ["_law_pool", "_law_many"]) fun _ _ _ _ _ _ us hl => match us, hl with | [_, _], _ => rfl
  have bPairs := FPairs.binds (ps := ["_law_people_here"]) fun _ _ _ _ _ _ us hl => match us, hl with | [_], _ => rfl
  have bSheet := FSheet.binds (ps := ["_law_pool", "_law_plan", "_law_rarely"]) fun _ _ _ _ _ _ us hl => match us, hl with | [_, _, _], _ => rfl
  have bPageRight := FPageRight.binds (ps := ["_law_page", "_law_plan", "_law_sheet_here"]) fun _ _ _ _ _ _ us hl => match us, hl with | [_, _, _], _ => rfl
  have bChangedRight := FChangedRight.binds (ps := ["_law_pool", "_law_plan", "_law_sheet_here", "_law_page"]) fun _ _ _ _ _ _ us hl => match us, hl with | [_, _, _, _], _ => rfl
  have bBadCrowdInit := FBadCrowdInit.binds (ps := ["self", "part"]) fun _ _ _ _ _ _ us hl => match us, hl with | [_, _], _ => rfl
  have bNotThereInit := FNotThereInit.binds (ps := ["self", "word"]) fun _ _ _ _ _ _ us hl => match us, hl with | [_, _], _ => rfl
  have bCrowdInit := FCrowdInit.binds (ps := ["self", "people", "most"]) fun _ _ _ _ _ _ us hl => match us, hl with | [_, _, _], _ => rfl
  have bCrowdLen := FCrowdLen.binds (ps := ["self"]) fun _ _ _ _ _ _ us hl => match us, hl with | [_], _ => rfl
  have bCrowdContains := FCrowdContains.binds (ps := ["self", "x"]) fun _ _ _ _ _ _ us hl => match us, hl with | [_, _], _ => rfl
  have bCrowdEq := FCrowdEq.binds (ps := ["self", "other"]) fun _ _ _ _ _ _ us hl => match us, hl with | [_, _], _ => rfl
  have bCrowdPairs := FCrowdPairs.binds (ps := ["self"]) fun _ _ _ _ _ _ us hl => match us, hl with | [_], _ => rfl
  have bCrowdIsPair := FCrowdIsPair.binds (ps := ["self", "value"]) fun _ _ _ _ _ _ us hl => match us, hl with | [_, _], _ => rfl
  have bCrowdPeople := FCrowdPeople.binds (ps := ["self"]) fun _ _ _ _ _ _ us hl => match us, hl with | [_], _ => rfl
  have bPageInit := FPageInit.binds (ps := ["self", "crowd", "marks"]) fun _ _ _ _ _ _ us hl => match us, hl with | [_, _, _], _ => rfl
  have bPageGetitem := FPageGetitem.binds (ps := ["self", "at"]) fun _ _ _ _ _ _ us hl => match us, hl with | [_, _], _ => rfl
  have bPageEq := FPageEq.binds (ps := ["self", "other"]) fun _ _ _ _ _ _ us hl => match us, hl with | [_, _], _ => rfl
  have bPageRow := FPageRow.binds (ps := ["self", "person"]) fun _ _ _ _ _ _ us hl => match us, hl with | [_, _], _ => rfl
  have bPageWithMark := FPageWithMark.binds (ps := ["self", "pair", "mark"]) fun _ _ _ _ _ _ us hl => match us, hl with | [_, _, _], _ => rfl
  have bPageWithRow := FPageWithRow.binds (ps := ["self", "person", "row"]) fun _ _ _ _ _ _ us hl => match us, hl with | [_, _, _], _ => rfl
  have bPageMarks := FPageMarks.binds (ps := ["self"]) fun _ _ _ _ _ _ us hl => match us, hl with | [_], _ => rfl
  have bPageIsFull := FPageIsFull.binds (ps := ["self"]) fun _ _ _ _ _ _ us hl => match us, hl with | [_], _ => rfl
  have bPageFilled := FPageFilled.binds (ps := ["crowd", "mark"]) fun _ _ _ _ _ _ us hl => match us, hl with | [_, _], _ => rfl
  have bNeedPair := FNeedPair.binds (ps := ["crowd", "pair"]) fun _ _ _ _ _ _ us hl => match us, hl with | [_, _], _ => rfl
  have E_NotThere : Ef K mg "NotThere" "word" CNotThere := ⟨PySem.W.mg_of X G aNotThere, ⟨gaNotThere, ggNotThere, exNotThere, hdNotThere⟩, noNotThere⟩
  have EC_NotThere : EcC K CNotThere := ⟨⟨_, _, _, _, PySem.F.excBase_LookupError, PySem.F.store_LookupError, inNotThere, ovNotThere⟩, saNotThere, hdNotThere, exNotThere, tyNotThere, kkNotThere⟩
  have ER_BadCrowd : Er K mg "BadCrowd" CBadCrowd := ⟨PySem.W.mg_of X G aBadCrowd, ⟨⟨_, _, _, _, _, _, _, _, _, _, _, _, _, _, _, xBadCrowd, by show PySem.HandSPX.refsVE [.type "ValueError", .type "Exception", .type "BaseException", .type "object"] = true; decide +kernel⟩, saBadCrowd, exBadCrowd, tyBadCrowd, kkBadCrowd⟩, ⟨gaBadCrowd, ggBadCrowd, exBadCrowd, hdBadCrowd⟩, ⟨gaBadCrowd, ggBadCrowd, exBadCrowd, hdBadCrowd, ccBadCrowd, spg, tkc, mrBadCrowd⟩, PySem.W.exm_ref exBadCrowd hdBadCrowd tyBadCrowd ssBadCrowd⟩
  have clCrowd : Cls K CCrowd := ⟨pgCrowd, hdCrowd, poCrowd, saCrowd⟩
  have ioCrowd : IsOwn K CCrowd := ⟨clCrowd, ccCrowd, spg, tkc, mrCrowd⟩
  have MCrowd : Mk K CCrowd fCrowdInit := ⟨mkCrowd, mCrowdInit, isfCrowdInit, kcCrowd⟩
  have clPage : Cls K CPage := ⟨pgPage, hdPage, poPage, saPage⟩
  have ioPage : IsOwn K CPage := ⟨clPage, ccPage, spg, tkc, mrPage⟩
  have MPage : Mk K CPage fPageInit := ⟨mkPage, mPageInit, isfPageInit, kcPage⟩
  have ppCrowdPeople : PropOf K CCrowd "people" pCrowdPeople fCrowdPeople := ⟨mCrowdPeople, pgCrowdPeople, ptCrowdPeople, _, prCrowdPeople⟩
  have ppPageMarks : PropOf K CPage "marks" pPageMarks fPageMarks := ⟨mPageMarks, pgPageMarks, ptPageMarks, _, prPageMarks⟩
  have ppPageIsFull : PropOf K CPage "is_full" pPageIsFull fPageIsFull := ⟨mPageIsFull, pgPageIsFull, ptPageIsFull, _, prPageIsFull⟩
  have MCrowdPairs : Meth K CCrowd "pairs" fCrowdPairs := ⟨mCrowdPairs, isfCrowdPairs, kCrowdPairs⟩
  have MCrowdIsPair : Meth K CCrowd "is_pair" fCrowdIsPair := ⟨mCrowdIsPair, isfCrowdIsPair, kCrowdIsPair⟩
  have MPageRow : Meth K CPage "row" fPageRow := ⟨mPageRow, isfPageRow, kPageRow⟩
  have MPageWithMark : Meth K CPage "with_mark" fPageWithMark := ⟨mPageWithMark, isfPageWithMark, kPageWithMark⟩
  have MPageWithRow : Meth K CPage "with_row" fPageWithRow := ⟨mPageWithRow, isfPageWithRow, kPageWithRow⟩
  refine ⟨PySem.W.fnOf "law" "law" (defArgs sLaw) (defBody sLaw) (defScope sLaw) .none kVLaw dcLaw pmLaw anLaw cdLaw ctLaw, fun s v => .of_eq rfl, fun b0 _ _ => ?_⟩
  have GA := ok_arePeople (P := l.prog) (w := w) (mg := mg) (base := b0) FArePeople FIsWord bIsWord (PySem.W.mg_of X G aIsWord) B T
  have GN := ok_within (P := l.prog) (w := w) (mg := mg) (base := b0) FIsIntegerWithin FIsInteger bIsInteger (PySem.W.mg_of X G aIsInteger) B T
  have GB := ok_badCrowdInit (P := l.prog) (w := w) (mg := mg) (base := b0) (C := CBadCrowd) FBadCrowdInit
  have GC := ok_crowdNew (P := l.prog) (w := w) (mg := mg) (base := b0) (C := CCrowd) FCrowdInit GA kArePeople bArePeople (PySem.W.mg_of X G aArePeople) GN kIsIntegerWithin bIsIntegerWithin (PySem.W.mg_of X G aIsIntegerWithin) GB bBadCrowdInit iBadCrowd tBadCrowd ER_BadCrowd noBadCrowd clCrowd noCrowd_people noCrowdmost T
  have GPe := ok_crowdPeople (P := l.prog) (w := w) (mg := mg) (base := b0) FCrowdPeople clCrowd noCrowd_people T
  have GLen := ok_crowdLen (P := l.prog) (w := w) (mg := mg) (base := b0) FCrowdLen clCrowd noCrowd_people B
  have GHas := ok_crowdHas (P := l.prog) (w := w) (mg := mg) (base := b0) FCrowdContains clCrowd noCrowd_people T
  have GEq := ok_crowdEq (P := l.prog) (w := w) (mg := mg) (base := b0) FCrowdEq clCrowd noCrowd_people noCrowdmost (PySem.W.mg_of X G aCrowd) kitCrowd kitL ioCrowd T
  have GNI := ok_NotThereInit (P := l.prog) (w := w) (mg := mg) (base := b0) (D := CNotThere) FNotThereInit
  have GNp := ok_needPerson (P := l.prog) (w := w) (mg := mg) (base := b0) FNeedPerson GHas mCrowdContains isfCrowdContains bCrowdContains EC_NotThere (PySem.W.mg_of X G aNotThere) noNotThere iNotThere tNotThere GNI bNotThereInit
  have GIs := ok_crowdIsPair (P := l.prog) (w := w) (mg := mg) (base := b0) FCrowdIsPair GHas mCrowdContains isfCrowdContains bCrowdContains B T
  have GPa := ok_crowdPairs (P := l.prog) (w := w) (mg := mg) (base := b0) FCrowdPairs clCrowd noCrowd_people
  have GLp := ok_lawPairs (P := l.prog) (w := w) (mg := mg) (base := b0) FPairs
  have GD := ok_draw (P := l.prog) (w := w) (mg := mg) (base := b0) FDraw B
  have GP := ok_people (P := l.prog) (w := w) (mg := mg) (base := b0) FPeople FDraw bDraw (PySem.W.mg_of X G aDraw) B
  have GPk := ok_pick (P := l.prog) (w := w) (mg := mg) (base := b0) FPick GD kDraw bDraw (PySem.W.mg_of X G aDraw) B
  have GM := ok_isMark (P := l.prog) (w := w) (mg := mg) (base := b0) FIsMark GN kIsIntegerWithin bIsIntegerWithin (PySem.W.mg_of X G aIsIntegerWithin) clCrowd noCrowdmost
  have GMN := ok_isMarkN (P := l.prog) (w := w) (mg := mg) (base := b0) FIsMarkOrNone GM kIsMark bIsMark (PySem.W.mg_of X G aIsMark)
  have GAM := ok_areMarks (P := l.prog) (w := w) (mg := mg) (base := b0) FAreMarks GMN kIsMarkOrNone bIsMarkOrNone (PySem.W.mg_of X G aIsMarkOrNone) clCrowd MCrowdPairs GPa bCrowdPairs MCrowdIsPair GIs bCrowdIsPair B T Z
  have GNC := ok_needCrowd (P := l.prog) (w := w) (mg := mg) (base := b0) FNeedCrowd (PySem.W.mg_of X G aCrowd) kitCrowd ioCrowd T
  have GPI := ok_pageInit (P := l.prog) (w := w) (mg := mg) (base := b0) FPageInit GNC kNeedCrowd bNeedCrowd (PySem.W.mg_of X G aNeedCrowd) GAM kAreMarks bAreMarks (PySem.W.mg_of X G aAreMarks) clCrowd MCrowdPairs GPa bCrowdPairs clPage noPagecrowd noPage_marks
  have GPM := ok_pageMarks (P := l.prog) (w := w) (mg := mg) (base := b0) (C := CCrowd) FPageMarks clPage noPage_marks
  have GPF := ok_pageFull (P := l.prog) (w := w) (mg := mg) (base := b0) (C := CCrowd) FPageIsFull clPage noPage_marks T
  have GNP := ok_needPair (P := l.prog) (w := w) (mg := mg) (base := b0) FNeedPair clCrowd MCrowdIsPair GIs bCrowdIsPair
  have GGet := ok_pageGet (P := l.prog) (w := w) (mg := mg) (base := b0) FPageGetitem GNP kNeedPair bNeedPair (PySem.W.mg_of X G aNeedPair) clPage noPagecrowd noPage_marks
  have GPEq := ok_pageEq (P := l.prog) (w := w) (mg := mg) (base := b0) FPageEq (PySem.W.mg_of X G aPage) kitPage kitPD kitPC ioPage ioCrowd mCrowdEq isfCrowdEq GEq bCrowdEq nfC clPage noPagecrowd noPage_marks T
  have GRow := ok_pageRow (P := l.prog) (w := w) (mg := mg) (base := b0) FPageRow GNp kNeedPerson bNeedPerson (PySem.W.mg_of X G aNeedPerson) clCrowd ppCrowdPeople GPe bCrowdPeople clPage noPagecrowd noPage_marks
  have GWM := ok_withMark (P := l.prog) (w := w) (mg := mg) (base := b0) FPageWithMark GNP kNeedPair bNeedPair (PySem.W.mg_of X G aNeedPair) GMN kIsMarkOrNone bIsMarkOrNone (PySem.W.mg_of X G aIsMarkOrNone) MPage GPI (PySem.W.mg_of X G aPage) bPageInit clPage noPagecrowd noPage_marks
  have GIR := ok_isRow (P := l.prog) (w := w) (mg := mg) (base := b0) FIsRow GMN kIsMarkOrNone bIsMarkOrNone (PySem.W.mg_of X G aIsMarkOrNone) mCrowdContains isfCrowdContains GHas bCrowdContains mCrowdLen isfCrowdLen GLen bCrowdLen B T Z
  have GWR := ok_withRow (P := l.prog) (w := w) (mg := mg) (base := b0) FPageWithRow GNp kNeedPerson bNeedPerson (PySem.W.mg_of X G aNeedPerson) GIR kIsRow bIsRow (PySem.W.mg_of X G aIsRow) MPage GPI (PySem.W.mg_of X G aPage) bPageInit clPage noPagecrowd noPage_marks
  have GFi := ok_filled (P := l.prog) (w := w) (mg := mg) (base := b0) FPageFilled GNC kNeedCrowd bNeedCrowd (PySem.W.mg_of X G aNeedCrowd) GMN kIsMarkOrNone bIsMarkOrNone (PySem.W.mg_of X G aIsMarkOrNone) clCrowd MCrowdPairs GPa bCrowdPairs MPage GPI (PySem.W.mg_of X G aPage) bPageInit
  have GS := ok_sheet (P := l.prog) (w := w) (mg := mg) (base := b0) FSheet GD kDraw bDraw (PySem.W.mg_of X G aDraw) GLp (PySem.W.mg_of X G aPairs) kPairs bPairs B
  have GR := ok_pageRight (P := l.prog) (w := w) (mg := mg) (base := b0) FPageRight GC MCrowd (PySem.W.mg_of X G aCrowd) bCrowdInit mCrowdEq neO mrCrowd isfCrowdEq GEq bCrowdEq clPage noPagecrowd ppPageMarks GPM bPageMarks ppPageIsFull GPF bPageIsFull GLp (PySem.W.mg_of X G aPairs) kPairs bPairs mPageGetitem fnGet isfPageGetitem GGet bPageGetitem MPageRow GRow bPageRow B T Z
  have GCh := ok_changedRight (P := l.prog) (w := w) (mg := mg) (base := b0) FChangedRight GD kDraw bDraw (PySem.W.mg_of X G aDraw) GPk kPick bPick (PySem.W.mg_of X G aPick) GR kPageRight bPageRight (PySem.W.mg_of X G aPageRight) clPage MPageWithMark GWM bPageWithMark MPageWithRow GWR bPageWithRow mPageEq isfPageEq nfP GPEq bPageEq B T Z
  exact ok_law FLaw FOpened bOpened (PySem.W.mg_of X G aOpened) GD kDraw bDraw (PySem.W.mg_of X G aDraw) GP kPeople bPeople (PySem.W.mg_of X G aPeople) GPk kPick bPick (PySem.W.mg_of X G aPick) GS kSheet bSheet (PySem.W.mg_of X G aSheet) GR kPageRight bPageRight (PySem.W.mg_of X G aPageRight) GCh kChangedRight bChangedRight (PySem.W.mg_of X G aChangedRight) GC MCrowd (PySem.W.mg_of X G aCrowd) bCrowdInit MPage GPI (PySem.W.mg_of X G aPage) bPageInit clPage ppPageMarks GPM bPageMarks MPageRow GRow bPageRow
    mPageEq nePg mrPage isfPageEq nfP nfPC nfPD GPEq bPageEq ⟨rdP, gaP⟩ ⟨lkF, ⟨_, rcF⟩, kPageFilled⟩ GFi bPageFilled B T Z
end K04
open PySem PySem.W PyProof.Rows in
set_option maxRecDepth 100000 in
set_option maxHeartbeats 0 in
theorem PySem.Challenge.cw_ownmarks_k04_pages_told_holds : PySem.Challenge.rw_ownmarks_k04_pages_told.Holds := by
  w_on; o_law; k_head; (case hw => w_witness2)
  k_fill
  refine L2.walk_ofG (l := PySem.Challenge.rw_ownmarks_k04_pages_told) (n := 63) (k := 10) (x := "_law_script") (sp := K04.spLaw) rfl (by decide) rfl ⟨rfl, by decide, by decide⟩ (fun w h Y => by first | exact PySem.W.kIn_of Y | exact Y.1) ?F (fun K H a ns hl _ hS => ⟨a, ns, rfl, hS, hl, fun _ => rfl⟩) (fun _ _ _ _ z => z)
  case F =>
    intro w mg fa h KX G hmg
    refine' K04.all_mk KX G hmg ?aIsInteger ?lIsInteger ?cIsInteger ?kIsInteger ?aIsIntegerWithin ?lIsIntegerWithin ?cIsIntegerWithin ?kIsIntegerWithin ?aIsWord ?lIsWord ?cIsWord ?kIsWord ?aArePeople ?lArePeople ?cArePeople ?kArePeople ?aNeedCrowd ?lNeedCrowd ?cNeedCrowd ?kNeedCrowd ?aNeedPerson ?lNeedPerson ?cNeedPerson ?kNeedPerson ?aIsMark ?lIsMark ?cIsMark ?kIsMark ?aIsMarkOrNone ?lIsMarkOrNone ?cIsMarkOrNone ?kIsMarkOrNone ?aAreMarks ?lAreMarks ?cAreMarks ?kAreMarks ?aIsRow ?lIsRow ?cIsRow ?kIsRow ?aOpened ?lOpened ?cOpened ?kOpened ?aDraw ?lDraw ?cDraw ?kDraw ?aPick ?lPick ?cPick ?kPick ?aPeople ?lPeople ?cPeople ?kPeople ?aPairs ?lPairs ?cPairs ?kPairs ?aSheet ?lSheet ?cSheet ?kSheet ?aPageRight ?lPageRight ?cPageRight ?kPageRight ?aChangedRight ?lChangedRight ?cChangedRight ?kChangedRight ?aLaw ?lLaw ?cLaw ?kLaw ?aNeedPair ?lNeedPair ?cNeedPair ?kNeedPair ?aMarksError ?aBadCrowd ?gaBadCrowd ?ggBadCrowd ?exBadCrowd ?hdBadCrowd ?noBadCrowd ?ccBadCrowd ?mrBadCrowd ?spg ?tkc ?xBadCrowd ?ssBadCrowd ?saBadCrowd ?tyBadCrowd ?kkBadCrowd ?iBadCrowd ?tBadCrowd ?lBadCrowdInit ?cBadCrowdInit ?kBadCrowdInit ?aNotThere ?gaNotThere ?ggNotThere ?exNotThere ?hdNotThere ?noNotThere ?ccNotThere ?mrNotThere ?inNotThere ?ovNotThere ?saNotThere ?tyNotThere ?kkNotThere ?iNotThere ?tNotThere ?lNotThereInit ?cNotThereInit ?kNotThereInit ?aCrowd ?pgCrowd ?hdCrowd ?poCrowd ?saCrowd ?mkCrowd ?kcCrowd ?ccCrowd ?mrCrowd ?kitCrowd ?noCrowd_people ?noCrowdmost ?mCrowdInit ?isfCrowdInit ?lCrowdInit ?cCrowdInit ?kCrowdInit ?mCrowdLen ?isfCrowdLen ?lCrowdLen ?cCrowdLen ?kCrowdLen ?mCrowdContains ?isfCrowdContains ?lCrowdContains ?cCrowdContains ?kCrowdContains ?mCrowdEq ?isfCrowdEq ?lCrowdEq ?cCrowdEq ?kCrowdEq ?mCrowdPairs ?isfCrowdPairs ?lCrowdPairs ?cCrowdPairs ?kCrowdPairs ?mCrowdIsPair ?isfCrowdIsPair ?lCrowdIsPair ?cCrowdIsPair ?kCrowdIsPair ?mCrowdPeople ?pgCrowdPeople ?ptCrowdPeople ?prCrowdPeople ?lCrowdPeople ?cCrowdPeople ?kCrowdPeople ?aPage ?pgPage ?hdPage ?poPage ?saPage ?mkPage ?kcPage ?ccPage ?mrPage ?kitPage ?noPagecrowd ?noPage_marks ?mPageInit ?isfPageInit ?lPageInit ?cPageInit ?kPageInit ?mPageGetitem ?isfPageGetitem ?lPageGetitem ?cPageGetitem ?kPageGetitem ?mPageEq ?isfPageEq ?lPageEq ?cPageEq ?kPageEq ?mPageRow ?isfPageRow ?lPageRow ?cPageRow ?kPageRow ?mPageWithMark ?isfPageWithMark ?lPageWithMark ?cPageWithMark ?kPageWithMark ?mPageWithRow ?isfPageWithRow ?lPageWithRow ?cPageWithRow ?kPageWithRow ?mPageMarks ?pgPageMarks ?ptPageMarks ?prPageMarks ?lPageMarks ?cPageMarks ?kPageMarks ?mPageIsFull ?pgPageIsFull ?ptPageIsFull ?prPageIsFull ?lPageIsFull ?cPageIsFull ?kPageIsFull ?lkF ?rcF ?lPageFilled ?cPageFilled ?kPageFilled ?rdP ?gaP ?fnGet ?kitL ?kitPD ?kitPC ?neO ?nePg ?nfC ?nfP ?nfPC ?nfPD ?z_len ?z_max ?z_min ?z_int ?z_range ?z_isinstance ?z_str ?z_bool ?z_list ?z_tuple ?z_set ?z_all ?z_dict ?z_repr ?z_LETTERS ?z_LONGEST ?z_MOST_PEOPLE ?z_GREATEST_MARK
    (case aIsInteger => first | k_is | k_exc | rfl)
    (case lIsInteger => first | k_is | k_exc | rfl)
    (case cIsInteger => first | k_is | k_exc | rfl)
    (case kIsInteger => first | k_is | k_exc | rfl)
    (case aIsIntegerWithin => first | k_is | k_exc | rfl)
    (case lIsIntegerWithin => first | k_is | k_exc | rfl)
    (case cIsIntegerWithin => first | k_is | k_exc | rfl)
    (case kIsIntegerWithin => first | k_is | k_exc | rfl)
    (case aIsWord => first | k_is | k_exc | rfl)
    (case lIsWord => first | k_is | k_exc | rfl)
    (case cIsWord => first | k_is | k_exc | rfl)
    (case kIsWord => first | k_is | k_exc | rfl)
    (case aArePeople => first | k_is | k_exc | rfl)
    (case lArePeople => first | k_is | k_exc | rfl)
    (case cArePeople => first | k_is | k_exc | rfl)
    (case kArePeople => first | k_is | k_exc | rfl)
    (case aNeedCrowd => first | k_is | k_exc | rfl)
    (case lNeedCrowd => first | k_is | k_exc | rfl)
    (case cNeedCrowd => first | k_is | k_exc | rfl)
    (case kNeedCrowd => first | k_is | k_exc | rfl)
    (case aNeedPerson => first | k_is | k_exc | rfl)
    (case lNeedPerson => first | k_is | k_exc | rfl)
    (case cNeedPerson => first | k_is | k_exc | rfl)
    (case kNeedPerson => first | k_is | k_exc | rfl)
    (case aIsMark => first | k_is | k_exc | rfl)
    (case lIsMark => first | k_is | k_exc | rfl)
    (case cIsMark => first | k_is | k_exc | rfl)
    (case kIsMark => first | k_is | k_exc | rfl)
    (case aIsMarkOrNone => first | k_is | k_exc | rfl)
    (case lIsMarkOrNone => first | k_is | k_exc | rfl)
    (case cIsMarkOrNone => first | k_is | k_exc | rfl)
    (case kIsMarkOrNone => first | k_is | k_exc | rfl)
    (case aAreMarks => first | k_is | k_exc | rfl)
    (case lAreMarks => first | k_is | k_exc | rfl)
    (case cAreMarks => first | k_is | k_exc | rfl)
    (case kAreMarks => first | k_is | k_exc | rfl)
    (case aIsRow => first | k_is | k_exc | rfl)
    (case lIsRow => first | k_is | k_exc | rfl)
    (case cIsRow => first | k_is | k_exc | rfl)
    (case kIsRow => first | k_is | k_exc | rfl)
    (case aOpened => first | k_is | k_exc | rfl)
    (case lOpened => first | k_is | k_exc | rfl)
    (case cOpened => first | k_is | k_exc | rfl)
    (case kOpened => first | k_is | k_exc | rfl)
    (case aDraw => first | k_is | k_exc | rfl)
    (case lDraw => first | k_is | k_exc | rfl)
    (case cDraw => first | k_is | k_exc | rfl)
    (case kDraw => first | k_is | k_exc | rfl)
    (case aPick => first | k_is | k_exc | rfl)
    (case lPick => first | k_is | k_exc | rfl)
    (case cPick => first | k_is | k_exc | rfl)
    (case kPick => first | k_is | k_exc | rfl)
    (case aPeople => first | k_is | k_exc | rfl)
    (case lPeople => first | k_is | k_exc | rfl)
    (case cPeople => first | k_is | k_exc | rfl)
    (case kPeople => first | k_is | k_exc | rfl)
    (case aPairs => first | k_is | k_exc | rfl)
    (case lPairs => first | k_is | k_exc | rfl)
    (case cPairs => first | k_is | k_exc | rfl)
    (case kPairs => first | k_is | k_exc | rfl)
    (case aSheet => first | k_is | k_exc | rfl)
    (case lSheet => first | k_is | k_exc | rfl)
    (case cSheet => first | k_is | k_exc | rfl)
    (case kSheet => first | k_is | k_exc | rfl)
    (case aPageRight => first | k_is | k_exc | rfl)
    (case lPageRight => first | k_is | k_exc | rfl)
    (case cPageRight => first | k_is | k_exc | rfl)
    (case kPageRight => first | k_is | k_exc | rfl)
    (case aChangedRight => first | k_is | k_exc | rfl)
    (case lChangedRight => first | k_is | k_exc | rfl)
    (case cChangedRight => first | k_is | k_exc | rfl)
    (case kChangedRight => first | k_is | k_exc | rfl)
    (case aLaw => first | k_is | k_exc | rfl)
    (case lLaw => first | k_is | k_exc | rfl)
    (case cLaw => first | k_is | k_exc | rfl)
    (case kLaw => first | k_is | k_exc | rfl)
    (case aNeedPair => first | k_is | k_exc | rfl)
    (case lNeedPair => first | k_is | k_exc | rfl)
    (case cNeedPair => first | k_is | k_exc | rfl)
    (case kNeedPair => first | k_is | k_exc | rfl)
    (case aMarksError => first | k_is | k_exc | rfl)
    (case aBadCrowd => first | k_is | k_exc | rfl)
    (case gaBadCrowd => first | k_is | k_exc | rfl)
    (case ggBadCrowd => first | k_is | k_exc | rfl)
    (case exBadCrowd => first | k_is | k_exc | rfl)
    (case hdBadCrowd => first | k_is | k_exc | rfl)
    (case noBadCrowd => first | k_is | k_exc | rfl)
    (case ccBadCrowd => first | k_is | k_exc | rfl)
    (case mrBadCrowd => first | k_is | k_exc | rfl)
    (case spg => first | k_is | k_exc | rfl)
    (case tkc => first | k_is | k_exc | rfl)
    (case xBadCrowd => first | k_is | k_exc | rfl)
    (case ssBadCrowd => first | k_is | k_exc | rfl)
    (case saBadCrowd => first | k_is | k_exc | rfl)
    (case tyBadCrowd => first | k_is | k_exc | rfl)
    (case kkBadCrowd => first | k_is | k_exc | rfl)
    (case iBadCrowd => first | k_is | k_exc | rfl)
    (case tBadCrowd => first | k_is | k_exc | rfl)
    (case lBadCrowdInit => first | k_is | k_exc | rfl)
    (case cBadCrowdInit => first | k_is | k_exc | rfl)
    (case kBadCrowdInit => first | k_is | k_exc | rfl)
    (case aNotThere => first | k_is | k_exc | rfl)
    (case gaNotThere => first | k_is | k_exc | rfl)
    (case ggNotThere => first | k_is | k_exc | rfl)
    (case exNotThere => first | k_is | k_exc | rfl)
    (case hdNotThere => first | k_is | k_exc | rfl)
    (case noNotThere => first | k_is | k_exc | rfl)
    (case ccNotThere => first | k_is | k_exc | rfl)
    (case mrNotThere => first | k_is | k_exc | rfl)
    (case inNotThere => first | k_is | k_exc | rfl)
    (case ovNotThere => first | k_is | k_exc | rfl)
    (case saNotThere => first | k_is | k_exc | rfl)
    (case tyNotThere => first | k_is | k_exc | rfl)
    (case kkNotThere => first | k_is | k_exc | rfl)
    (case iNotThere => first | k_is | k_exc | rfl)
    (case tNotThere => first | k_is | k_exc | rfl)
    (case lNotThereInit => first | k_is | k_exc | rfl)
    (case cNotThereInit => first | k_is | k_exc | rfl)
    (case kNotThereInit => first | k_is | k_exc | rfl)
    (case aCrowd => first | k_is | k_exc | rfl)
    (case pgCrowd => first | k_is | k_exc | rfl)
    (case hdCrowd => first | k_is | k_exc | rfl)
    (case poCrowd => first | k_is | k_exc | rfl)
    (case saCrowd => first | k_is | k_exc | rfl)
    (case mkCrowd => first | k_is | k_exc | rfl)
    (case kcCrowd => first | k_is | k_exc | rfl)
    (case ccCrowd => first | k_is | k_exc | rfl)
    (case mrCrowd => first | k_is | k_exc | rfl)
    (case kitCrowd => first | k_is | k_exc | rfl)
    (case noCrowd_people => first | k_is | k_exc | rfl)
    (case noCrowdmost => first | k_is | k_exc | rfl)
    (case mCrowdInit => first | k_is | k_exc | rfl)
    (case isfCrowdInit => first | k_is | k_exc | rfl)
    (case lCrowdInit => first | k_is | k_exc | rfl)
    (case cCrowdInit => first | k_is | k_exc | rfl)
    (case kCrowdInit => first | k_is | k_exc | rfl)
    (case mCrowdLen => first | k_is | k_exc | rfl)
    (case isfCrowdLen => first | k_is | k_exc | rfl)
    (case lCrowdLen => first | k_is | k_exc | rfl)
    (case cCrowdLen => first | k_is | k_exc | rfl)
    (case kCrowdLen => first | k_is | k_exc | rfl)
    (case mCrowdContains => first | k_is | k_exc | rfl)
    (case isfCrowdContains => first | k_is | k_exc | rfl)
    (case lCrowdContains => first | k_is | k_exc | rfl)
    (case cCrowdContains => first | k_is | k_exc | rfl)
    (case kCrowdContains => first | k_is | k_exc | rfl)
    (case mCrowdEq => first | k_is | k_exc | rfl)
    (case isfCrowdEq => first | k_is | k_exc | rfl)
    (case lCrowdEq => first | k_is | k_exc | rfl)
    (case cCrowdEq => first | k_is | k_exc | rfl)
    (case kCrowdEq => first | k_is | k_exc | rfl)
    (case mCrowdPairs => first | k_is | k_exc | rfl)
    (case isfCrowdPairs => first | k_is | k_exc | rfl)
    (case lCrowdPairs => first | k_is | k_exc | rfl)
    (case cCrowdPairs => first | k_is | k_exc | rfl)
    (case kCrowdPairs => first | k_is | k_exc | rfl)
    (case mCrowdIsPair => first | k_is | k_exc | rfl)
    (case isfCrowdIsPair => first | k_is | k_exc | rfl)
    (case lCrowdIsPair => first | k_is | k_exc | rfl)
    (case cCrowdIsPair => first | k_is | k_exc | rfl)
    (case kCrowdIsPair => first | k_is | k_exc | rfl)
    (case mCrowdPeople => first | k_is | k_exc | rfl)
    (case pgCrowdPeople => first | k_is | k_exc | rfl)
    (case ptCrowdPeople => first | k_is | k_exc | rfl)
    (case prCrowdPeople => first | k_is | k_exc | rfl)
    (case lCrowdPeople => first | k_is | k_exc | rfl)
    (case cCrowdPeople => first | k_is | k_exc | rfl)
    (case kCrowdPeople => first | k_is | k_exc | rfl)
    (case aPage => first | k_is | k_exc | rfl)
    (case pgPage => first | k_is | k_exc | rfl)
    (case hdPage => first | k_is | k_exc | rfl)
    (case poPage => first | k_is | k_exc | rfl)
    (case saPage => first | k_is | k_exc | rfl)
    (case mkPage => first | k_is | k_exc | rfl)
    (case kcPage => first | k_is | k_exc | rfl)
    (case ccPage => first | k_is | k_exc | rfl)
    (case mrPage => first | k_is | k_exc | rfl)
    (case kitPage => first | k_is | k_exc | rfl)
    (case noPagecrowd => first | k_is | k_exc | rfl)
    (case noPage_marks => first | k_is | k_exc | rfl)
    (case mPageInit => first | k_is | k_exc | rfl)
    (case isfPageInit => first | k_is | k_exc | rfl)
    (case lPageInit => first | k_is | k_exc | rfl)
    (case cPageInit => first | k_is | k_exc | rfl)
    (case kPageInit => first | k_is | k_exc | rfl)
    (case mPageGetitem => first | k_is | k_exc | rfl)
    (case isfPageGetitem => first | k_is | k_exc | rfl)
    (case lPageGetitem => first | k_is | k_exc | rfl)
    (case cPageGetitem => first | k_is | k_exc | rfl)
    (case kPageGetitem => first | k_is | k_exc | rfl)
    (case mPageEq => first | k_is | k_exc | rfl)
    (case isfPageEq => first | k_is | k_exc | rfl)
    (case lPageEq => first | k_is | k_exc | rfl)
    (case cPageEq => first | k_is | k_exc | rfl)
    (case kPageEq => first | k_is | k_exc | rfl)
    (case mPageRow => first | k_is | k_exc | rfl)
    (case isfPageRow => first | k_is | k_exc | rfl)
    (case lPageRow => first | k_is | k_exc | rfl)
    (case cPageRow => first | k_is | k_exc | rfl)
    (case kPageRow => first | k_is | k_exc | rfl)
    (case mPageWithMark => first | k_is | k_exc | rfl)
    (case isfPageWithMark => first | k_is | k_exc | rfl)
    (case lPageWithMark => first | k_is | k_exc | rfl)
    (case cPageWithMark => first | k_is | k_exc | rfl)
    (case kPageWithMark => first | k_is | k_exc | rfl)
    (case mPageWithRow => first | k_is | k_exc | rfl)
    (case isfPageWithRow => first | k_is | k_exc | rfl)
    (case lPageWithRow => first | k_is | k_exc | rfl)
    (case cPageWithRow => first | k_is | k_exc | rfl)
    (case kPageWithRow => first | k_is | k_exc | rfl)
    (case mPageMarks => first | k_is | k_exc | rfl)
    (case pgPageMarks => first | k_is | k_exc | rfl)
    (case ptPageMarks => first | k_is | k_exc | rfl)
    (case prPageMarks => first | k_is | k_exc | rfl)
    (case lPageMarks => first | k_is | k_exc | rfl)
    (case cPageMarks => first | k_is | k_exc | rfl)
    (case kPageMarks => first | k_is | k_exc | rfl)
    (case mPageIsFull => first | k_is | k_exc | rfl)
    (case pgPageIsFull => first | k_is | k_exc | rfl)
    (case ptPageIsFull => first | k_is | k_exc | rfl)
    (case prPageIsFull => first | k_is | k_exc | rfl)
    (case lPageIsFull => first | k_is | k_exc | rfl)
    (case cPageIsFull => first | k_is | k_exc | rfl)
    (case kPageIsFull => first | k_is | k_exc | rfl)
    (case lkF => first | k_is | k_exc | rfl)
    (case rcF => first | k_is | k_exc | rfl)
    (case lPageFilled => first | k_is | k_exc | rfl)
    (case cPageFilled => first | k_is | k_exc | rfl)
    (case kPageFilled => first | k_is | k_exc | rfl)
    (case rdP => first | k_is | k_exc | rfl)
    (case gaP => first | k_is | k_exc | rfl)
    (case fnGet => first | k_is | k_exc | rfl)
    (case kitL => first | k_is | k_exc | rfl)
    (case kitPD => first | k_is | k_exc | rfl)
    (case kitPC => first | k_is | k_exc | rfl)
    (case neO => first | k_is | k_exc | rfl)
    (case nePg => first | k_is | k_exc | rfl)
    (case nfC => first | k_is | k_exc | rfl)
    (case nfP => first | k_is | k_exc | rfl)
    (case nfPC => first | k_is | k_exc | rfl)
    (case nfPD => first | k_is | k_exc | rfl)
    (case z_len => first | k_is | k_exc | rfl)
    (case z_max => first | k_is | k_exc | rfl)
    (case z_min => first | k_is | k_exc | rfl)
    (case z_int => first | k_is | k_exc | rfl)
    (case z_range => first | k_is | k_exc | rfl)
    (case z_isinstance => first | k_is | k_exc | rfl)
    (case z_str => first | k_is | k_exc | rfl)
    (case z_bool => first | k_is | k_exc | rfl)
    (case z_list => first | k_is | k_exc | rfl)
    (case z_tuple => first | k_is | k_exc | rfl)
    (case z_set => first | k_is | k_exc | rfl)
    (case z_all => first | k_is | k_exc | rfl)
    (case z_dict => first | k_is | k_exc | rfl)
    (case z_repr => first | k_is | k_exc | rfl)
    (case z_LETTERS => first | k_is | k_exc | rfl)
    (case z_LONGEST => first | k_is | k_exc | rfl)
    (case z_MOST_PEOPLE => first | k_is | k_exc | rfl)
    (case z_GREATEST_MARK => first | k_is | k_exc | rfl)

