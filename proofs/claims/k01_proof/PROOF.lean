import PyProof.Rows.All
import Wide.All
import OpenK.AllK
import Wide.FinOn
import HandS.Base
import HandS.Call
import HandS.List
import HandS.Strs
import HandS.SetKeys
import HandS.ForMost
import HandS.Walk
import HandS.ForExc
import HandS.ExcInit
import HandS.ExcField
import HandS.ExcIs
import HandS.IsInst
import KE.KExcIs
import HandS.ExcValue
import KE.KExcInit
import HandS.MakeKwOnly
import HandS.Words
import HandS.Ends
import PyProof.ReprRoads
import PySem.Challenge.RW_ownmarks_k01_errors
set_option Elab.async false
set_option linter.all false
set_option maxRecDepth 100000
/-! Sets made of a list or a tuple of keys of any kind, however many: what is in them and how many there are. -/
namespace Km
open PySem PySem.Spec PyProof.Rows
section
variable {K : Type} [DecidableEq K]
def addU (l : List K) (k : K) : List K := if k ∈ l then l else l ++ [k]
def uniq (ks : List K) : List K := ks.foldl addU []
theorem uniq_snoc (ks : List K) (k : K) : uniq (ks ++ [k]) = addU (uniq ks) k := by
  unfold uniq
  rw [List.foldl_append]
  rfl
theorem mem_addU {l : List K} {k j : K} : j ∈ addU l k ↔ j ∈ l ∨ j = k := by
  unfold addU
  split
  · constructor
    · exact .inl
    · rintro (h | rfl) <;> assumption
  · simp
theorem rev_ind {P : List K → Prop} (h0 : P []) (h1 : ∀ l k, P l → P (l ++ [k])) (l : List K) : P l := by
  have h : ∀ r : List K, P r.reverse := by
    intro r
    induction r with
    | nil => exact h0
    | cons a r ih =>
      rw [List.reverse_cons]
      exact h1 _ _ ih
  have := h l.reverse
  rwa [List.reverse_reverse] at this
theorem mem_uniq (ks : List K) (j : K) : j ∈ uniq ks ↔ j ∈ ks := by
  induction ks using rev_ind with
  | h0 => simp [uniq]
  | h1 l k ih => rw [uniq_snoc, mem_addU, ih, List.mem_append, List.mem_singleton]
theorem uniq_le (ks : List K) : (uniq ks).length ≤ ks.length := by
  induction ks using rev_ind with
  | h0 => exact Nat.le_refl _
  | h1 l k ih =>
    rw [uniq_snoc, List.length_append, List.length_singleton]
    unfold addU
    split
    · omega
    · rw [List.length_append, List.length_singleton]
      omega
theorem uniq_full (ks : List K) : (uniq ks).length = ks.length ↔ ks.Nodup := by
  induction ks using rev_ind with
  | h0 => simp [uniq]
  | h1 l k ih =>
    have h2 := uniq_le l
    rw [uniq_snoc, List.length_append, List.length_singleton, List.nodup_append, ← ih]
    unfold addU
    by_cases h : k ∈ uniq l
    · rw [if_pos h]
      have h' := (mem_uniq l k).mp h
      constructor
      · intro e
        omega
      · rintro ⟨_, _, z⟩
        exact absurd rfl (z k h' k (List.mem_singleton.mpr rfl))
    · rw [if_neg h, List.length_append, List.length_singleton]
      have h' : k ∉ l := fun z => h ((mem_uniq l k).mpr z)
      constructor
      · intro e
        refine ⟨by omega, by simp, fun a ha b hb z => ?_⟩
        rw [List.mem_singleton.mp hb] at z
        exact h' (z ▸ ha)
      · rintro ⟨z, _⟩
        omega
theorem addU_len (l : List K) (k : K) : (addU l k).length = if decide (k ∈ l) = true then l.length else l.length + 1 := by
  unfold addU
  by_cases h : k ∈ l
  · rw [if_pos h, if_pos (decide_eq_true h)]
  · rw [if_neg h, if_neg (by simpa using h), List.length_append, List.length_singleton]
end
section
variable {prog : Program} {w : World} {K : Type} [DecidableEq K] {knd : KeyKind prog w K}
theorem setOf_eq {h : Heap} {a : Addr} {S T : K → Bool} {n m : Nat} (z : h.SetOf knd a S n) (e1 : ∀ k, S k = T k) (e2 : n = m) : h.SetOf knd a T m := by
  rw [← funext e1, ← e2]
  exact z
variable {A : Around} {R : Result → Shared → Prop} {I S : Addr} {fp wr : List Addr} {G : Array GenState → Array GenState → Prop} {n : Nat} {P : Nat → Value → Prop} {St : Nat → Shared → Prop}
def inU (ks : List K) (i : Nat) : K → Bool := fun k => decide (k ∈ uniq (ks.take i))
theorem inU_next {ks : List K} {i : Nat} {k : K} (hk : ks[i]? = some k) (j : K) : (inU ks i j || decide (j = k)) = inU ks (i + 1) j := by
  unfold inU
  rw [List.take_add_one, hk]
  show _ = decide (j ∈ uniq (ks.take i ++ [k]))
  rw [uniq_snoc, ← Bool.decide_or]
  exact decide_eq_decide.mpr mem_addU.symm
theorem cnt_next {ks : List K} {i : Nat} {k : K} (hk : ks[i]? = some k) : (if inU ks i k = true then (uniq (ks.take i)).length else (uniq (ks.take i)).length + 1) = (uniq (ks.take (i + 1))).length := by
  rw [List.take_add_one, hk]
  show _ = (uniq (ks.take i ++ [k])).length
  rw [uniq_snoc, addU_len]
  rfl
/-- the filling of a fresh set, from turn i on -/
theorem fill (W : WalksS prog w A.in1 I fp wr G n P St) (hS : S ∉ fp) (ks : List K) (hn : ks.length = n) (hroom : n + 1 < scanBound)
    (hval : ∀ i v, P i v → ∃ k, ks[i]? = some k ∧ knd.is k v = true ∧ v.scannable = true) :
    ∀ (left i : Nat) (s : Shared), left = n - i → i ≤ n → St i s → s.heap.SetOf knd S (inU ks i) (uniq (ks.take i)).length →
      (∀ s2, Moved (S :: wr) G s s2 → s2.heap.SetOf knd S (inU ks n) (uniq (ks.take n)).length → R (.ok (.ret .none)) s2) →
      codeAny (model prog w) A (.builtin "set.update.loop" ⟨[.ref S, .ref I], []⟩) R s
  | 0, i, s, hl, hi, st, z, hR => by
    have e : i = n := by omega
    rw [e] at st z
    refine codeAny_builtin PyProof.Rows.F.entry_set_update_loop ?_
    rw [Around.under_plainId PyProof.Rows.F.plain_set_update_loop _]
    refine wpAny_bind (W.done s _ _ st fun s2 mv => ?_)
    have hw : S ∉ wr := fun q => hS (W.sub _ q)
    refine wpAny_pure (hR s2 (mv.mono fun b hb => List.mem_cons_of_mem _ hb) ?_)
    obtain ⟨o, es, ep, t, ho, r⟩ := z
    exact ⟨o, es, ep, t, mv.heap S _ hw ho, r⟩
  | left + 1, i, s, hl, hi, st, z, hR => by
    have lt : i < n := by omega
    have hw : S ∉ wr := fun q => hS (W.sub _ q)
    refine codeAny_builtin PyProof.Rows.F.entry_set_update_loop ?_
    rw [Around.under_plainId PyProof.Rows.F.plain_set_update_loop _]
    refine wpAny_bind (W.item i s _ _ lt st fun v s1 hv st1 mv => ?_)
    obtain ⟨k, hk, his, hsc⟩ := hval i v hv
    have z1 : s1.heap.SetOf knd S (inU ks i) (uniq (ks.take i)).length := by
      obtain ⟨o, es, ep, t, ho, r⟩ := z
      exact ⟨o, es, ep, t, mv.heap S _ hw ho, r⟩
    refine wpAny_bind (wpAny_holding ?_)
    unfold setAdd
    refine wpAny_holding (wpAny_bind (knd.pyHash his ?_))
    have room : (uniq (ks.take i)).length + 1 < scanBound := by
      have h1 := uniq_le (ks.take i)
      have h2 : (ks.take i).length ≤ i := by
        rw [List.length_take]
        omega
      omega
    refine wpAny_setAddHashed_of (s := { s1 with toks := s1.toks + 1 }) his hsc z1 room fun h2 sb z2 => ?_
    have z3 : h2.SetOf knd S (inU ks (i + 1)) (uniq (ks.take (i + 1))).length := setOf_eq z2 (inU_next hk) (cnt_next hk)
    refine wpAny_pure ⟨plainId_quiet PyProof.Rows.F.plain_set_update_loop _, fill W hS ks hn hroom hval left (i + 1) _ (by omega) lt (W.frame _ s1 _ _ st1 (Nat.le_succ _) fun b hb o e => ?_) z3 fun s3 mv3 z4 => ?_⟩
    · have nb : b ≠ S := fun q => hS (q ▸ hb)
      rw [sb.2 b nb]
      exact e
    · refine hR s3 (Moved.trans W.gtrans ((mv.mono fun b hb => List.mem_cons_of_mem _ hb).then_heap (Nat.le_succ _) fun b o hb e => ?_) mv3) z4
      have nb : b ≠ S := fun q => hb (q ▸ List.mem_cons_self)
      rw [sb.2 b nb]
      exact e
end
end Km
namespace Km
open PySem PySem.Spec PyProof.Rows
section
variable {prog : Program} {w : World} {A : Around} {E : Value → Shared → Prop} {s : Shared} {K : Type} [DecidableEq K] {knd : KeyKind prog w K}
def fresh (led : Bool) : Obj := { cls := .type "set", dict := none, data := .set #[] 0 (.fresh 0 0 led) }
/-- what __init__ is to leave: all of keys in the set at D, what stood before stands -/
def Left (knd : KeyKind prog w K) (s : Shared) (ks : List K) (s2 : Shared) : Prop :=
  ∃ h2 tk, s2 = { s with heap := h2, toks := tk } ∧ h2.SetOf knd s.heap.objs.size (inU ks ks.length) (uniq ks).length ∧ ∀ b o, s.heap.get? b = some o → h2.get? b = some o
/-- set(x), given what its __init__ does with the fresh set -/
theorem set_of_init {x : Value} {ks : List K} {Q : Value → Shared → Prop}
    (hinit : ∀ (led : Bool) (B : Around), (A.handled = none → B.handled = none) → wpAny (model prog w) B (Builtin.«set.__init__» ⟨[.ref s.heap.objs.size, x], []⟩)
      (fun r s2 => r = .done (.ret .none) ∧ Left knd s ks s2) E { s with heap := s.heap.push (fresh led) })
    (h : ∀ s2, Left knd s ks s2 → Q (.ref s.heap.objs.size) s2) : wpAny (model prog w) A (call (.type "set") [x]) Q E s := by
  obtain ⟨c, tl, hmro⟩ := PySem.F.called_set.mro
  have a1 := PySem.F.called_set.made
  have a2 := PySem.F.called_set.sub
  refine wpAny_call (codeAny_of_tree ?_)
  refine wpAny_pure ⟨Code.quiet_builtin _ (by decide +kernel), codeAny_builtin PySem.F.entry_type_call ?_⟩
  rw [Around.under_plain (weight_type_call_type "set" [x] []) rfl]
  have a3 := PySem.F.called_set.notType
  have a4 := PySem.F.called_set.canCreate
  have a5 := PySem.F.typeCall_set_1 x
  repeat (any_goals (first | assumption | wp_step))
  refine codeAny_mono (code_set_new_1 x (E := E) (Q₁ := fun o s1 => ∃ led : Bool, o = .ref s.heap.objs.size ∧ s1 = { s with heap := s.heap.push (fresh led) }) fun led => ⟨led, rfl, rfl⟩) fun r s1 hr => ?_
  cases r with
  | error e => exact hr
  | ok fl =>
    cases fl with
    | ret o =>
      obtain ⟨led, rfl, rfl⟩ := hr
      have at1 : (s.heap.push (fresh led)).get? s.heap.objs.size = some (fresh led) := Heap.get?_push_size _ rfl
      have ty1 : Shared.TypeIs { s with heap := s.heap.push (fresh led) } (.ref s.heap.objs.size) "set" := ⟨_, at1, rfl⟩
      have a6 := PySem.F.called_set.init.lookup
      have a7 := PySem.F.called_set.init.bind (.ref s.heap.objs.size)
      repeat (any_goals (first | assumption | wp_step))
      refine codeAny_mono (codeAny_call_builtin (R := wants (fun r s2 => r = .none ∧ Left knd s ks s2) E) PySem.F.called_set.init.plain PySem.F.entry_set_init (check_set_init_1 ty1 ?_)) fun r2 s2 hr2 => ?_
      · refine wpAny_mono (hinit led _ fun q => ?_) (fun r s2 z => ?_) (fun _ _ z => z)
        · simp [q]
        · obtain ⟨rfl, z⟩ := z
          exact ⟨rfl, z⟩
      · cases r2 with
        | error e => exact hr2
        | ok f2 =>
          cases f2 with
          | ret r =>
            obtain ⟨rfl, z⟩ := hr2
            repeat (any_goals (first | assumption | wp_step))
            exact h _ z
          | _ => exact hr2.elim
    | _ => exact hr.elim
/-- set.__init__ over a list -/
theorem init_list {l : Addr} {items : Array Value} {ks : List K} (led : Bool) (hh : A.handled = none) (hl : s.heap.IsList l items) (hn : ks.length = items.size) (hroom : items.size + 1 < scanBound)
    (hval : ∀ (i : Nat) (v : Value), items[i]? = some v → ∃ k, ks[i]? = some k ∧ knd.is k v = true ∧ v.scannable = true) :
    wpAny (model prog w) A (Builtin.«set.__init__» ⟨[.ref s.heap.objs.size, .ref l], []⟩) (fun r s2 => r = .done (.ret .none) ∧ Left knd s ks s2) E { s with heap := s.heap.push (fresh led) } := by
  have at1 : (s.heap.push (fresh led)).get? s.heap.objs.size = some (fresh led) := Heap.get?_push_size _ rfl
  have ty1 : Shared.TypeIs { s with heap := s.heap.push (fresh led) } (.ref s.heap.objs.size) "set" := ⟨_, at1, rfl⟩
  obtain ⟨⟨oc, odict, od, osl⟩, ho, hc, nl, hd⟩ := hl
  simp only at hc hd
  subst hc hd
  have ho1 : (s.heap.push (fresh led)).get? l = some { cls := .type "list", dict := odict, data := .seq items nl, slots := osl } := Heap.get?_push_of_some _ ho
  have b1 := PySem.F.sub_list_set
  have b2 := PySem.F.sub_list_frozenset
  have b3 : (Value.type "list" == Value.type "dict") = false := by decide
  have hl1 : (s.heap.push (fresh led)).IsList l items := ⟨_, ho1, rfl, nl, rfl⟩
  unfold Builtin.«set.__init__» noKeywords Builtin.Frozenset.updateFrom
  generalize hPI : pyIter = PI
  wp_walk
  subst hPI
  refine wpAny_pyIter_list hl1 ?_
  refine wpAny_bind (wpAny_runValue ?_)
  have lS : l < s.heap.objs.size := Heap.lt_size ho
  have h1 : A.in1.handled = none := by simp [hh]
  have sz : (s.heap.push (fresh led)).objs.size = s.heap.objs.size + 1 := Heap.size_push ..
  have nI : l ≠ (s.heap.push (fresh led)).objs.size := by
    rw [sz]
    exact Nat.ne_of_lt (Nat.lt_succ_of_lt lS)
  have nf : s.heap.objs.size ∉ [(s.heap.push (fresh led)).objs.size, l] := by
    rw [sz]
    intro q
    rcases List.mem_cons.mp q with q | q
    · exact absurd q (Nat.ne_of_lt (Nat.lt_succ_self _))
    · exact absurd (List.mem_singleton.mp q) (Nat.ne_of_gt lS)
  refine fill (knd := knd) ((Walks.list h1 _ l nI items).toS) nf ks hn hroom hval (items.size - 0) 0 _ rfl (Nat.zero_le _) ⟨⟨_, Heap.get?_push_size _ rfl, rfl, rfl⟩, hl1.push _⟩ ?_ ?_
  · have at2 : ((s.heap.push (fresh led)).push { cls := .type "list_iterator", data := .fields #[.ref l, .int 0 0] }).get? s.heap.objs.size = some (fresh led) := Heap.get?_push_of_some _ at1
    exact setOf_eq ((PyProof.Rows.setObjOf_fresh (knd := knd) led).setOf at2 (by unfold scanBound; omega)) (fun _ => by simp [inU, uniq]) (by simp [uniq])
  · intro s2 mv z
    obtain ⟨h2, g2, d2, t2, o2⟩ := s2
    obtain rfl : g2 = s.gens := mv.gens
    obtain rfl : d2 = s.drawn := mv.drawn
    obtain rfl : o2 = s.os := mv.os
    refine wpAny_pure (wpAny_pure ⟨rfl, h2, t2, rfl, ?_, fun b o e => ?_⟩)
    · rw [← hn, List.take_length] at z
      exact z
    · have bS : b < s.heap.objs.size := Heap.lt_size e
      refine mv.heap b o (fun q => ?_) (Heap.get?_push_of_some _ (Heap.get?_push_of_some _ e))
      rcases List.mem_cons.mp q with q | q
      · exact absurd q (Nat.ne_of_lt bS)
      · have q' := List.mem_singleton.mp q
        rw [sz] at q'
        exact absurd q' (Nat.ne_of_lt (Nat.lt_succ_of_lt bS))
/-- set.__init__ over a tuple -/
theorem init_tuple {l : Addr} {items : Array Value} {ks : List K} (led : Bool) (hh : A.handled = none) (hl : s.heap.IsTuple l items) (hn : ks.length = items.size) (hroom : items.size + 1 < scanBound)
    (hval : ∀ (i : Nat) (v : Value), items[i]? = some v → ∃ k, ks[i]? = some k ∧ knd.is k v = true ∧ v.scannable = true) :
    wpAny (model prog w) A (Builtin.«set.__init__» ⟨[.ref s.heap.objs.size, .ref l], []⟩) (fun r s2 => r = .done (.ret .none) ∧ Left knd s ks s2) E { s with heap := s.heap.push (fresh led) } := by
  have at1 : (s.heap.push (fresh led)).get? s.heap.objs.size = some (fresh led) := Heap.get?_push_size _ rfl
  have ty1 : Shared.TypeIs { s with heap := s.heap.push (fresh led) } (.ref s.heap.objs.size) "set" := ⟨_, at1, rfl⟩
  obtain ⟨⟨oc, odict, od, osl⟩, ho, hc, nl, hd⟩ := hl
  simp only at hc hd
  subst hc hd
  have ho1 : (s.heap.push (fresh led)).get? l = some { cls := .type "tuple", dict := odict, data := .seq items nl, slots := osl } := Heap.get?_push_of_some _ ho
  have b1 := PySem.F.sub_tuple_set
  have b2 := PySem.F.sub_tuple_frozenset
  have b3 : (Value.type "tuple" == Value.type "dict") = false := by decide
  have hl1 : (s.heap.push (fresh led)).IsTuple l items := ⟨_, ho1, rfl, nl, rfl⟩
  unfold Builtin.«set.__init__» noKeywords Builtin.Frozenset.updateFrom
  generalize hPI : pyIter = PI
  wp_walk
  subst hPI
  refine wpAny_pyIter_tuple hl1 ?_
  refine wpAny_bind (wpAny_runValue ?_)
  have lS : l < s.heap.objs.size := Heap.lt_size ho
  have h1 : A.in1.handled = none := by simp [hh]
  have sz : (s.heap.push (fresh led)).objs.size = s.heap.objs.size + 1 := Heap.size_push ..
  have nI : l ≠ (s.heap.push (fresh led)).objs.size := by
    rw [sz]
    exact Nat.ne_of_lt (Nat.lt_succ_of_lt lS)
  have nf : s.heap.objs.size ∉ [(s.heap.push (fresh led)).objs.size, l] := by
    rw [sz]
    intro q
    rcases List.mem_cons.mp q with q | q
    · exact absurd q (Nat.ne_of_lt (Nat.lt_succ_self _))
    · exact absurd (List.mem_singleton.mp q) (Nat.ne_of_gt lS)
  refine fill (knd := knd) ((Walks.tuple h1 _ l nI items).toS) nf ks hn hroom hval (items.size - 0) 0 _ rfl (Nat.zero_le _) ⟨⟨_, Heap.get?_push_size _ rfl, rfl, rfl⟩, hl1.push _⟩ ?_ ?_
  · have at2 : ((s.heap.push (fresh led)).push { cls := .type "tuple_iterator", data := .fields #[.ref l, .int 0 0] }).get? s.heap.objs.size = some (fresh led) := Heap.get?_push_of_some _ at1
    exact setOf_eq ((PyProof.Rows.setObjOf_fresh (knd := knd) led).setOf at2 (by unfold scanBound; omega)) (fun _ => by simp [inU, uniq]) (by simp [uniq])
  · intro s2 mv z
    obtain ⟨h2, g2, d2, t2, o2⟩ := s2
    obtain rfl : g2 = s.gens := mv.gens
    obtain rfl : d2 = s.drawn := mv.drawn
    obtain rfl : o2 = s.os := mv.os
    refine wpAny_pure (wpAny_pure ⟨rfl, h2, t2, rfl, ?_, fun b o e => ?_⟩)
    · rw [← hn, List.take_length] at z
      exact z
    · have bS : b < s.heap.objs.size := Heap.lt_size e
      refine mv.heap b o (fun q => ?_) (Heap.get?_push_of_some _ (Heap.get?_push_of_some _ e))
      rcases List.mem_cons.mp q with q | q
      · exact absurd q (Nat.ne_of_lt bS)
      · have q' := List.mem_singleton.mp q
        rw [sz] at q'
        exact absurd q' (Nat.ne_of_lt (Nat.lt_succ_of_lt bS))
end
end Km

set_option Elab.async false
set_option linter.all false
set_option maxRecDepth 100000
set_option maxHeartbeats 2000000
namespace L2
open PySem PySem.Spec PyProof.Rows
/-- set(x), x a list or a tuple of ints and texts -/
def rSetK (P : Program) (w : World) (K : PySem.W.Frag) : List V → Hp → VK → Prop := fun xs H Q => ∃ (l : Addr) (ks : List Key), xs = [.ref l] ∧ (SqL K H l (ks.map kV) ∨ SqT K H l (ks.map kV)) ∧ ks.length ≤ 1000 ∧
  ∀ p, H p = none → Q (.ref p) (upd H p (SetK P w p (Km.inU ks ks.length) (Km.uniq ks).length))
section
variable {X : Cx}
theorem keys_at {P : Program} {w : World} {ks : List Key} {its : List Value} (r : Vals (ks.map kV) its) (i : Nat) (v : Value) (h : its.toArray[i]? = some v) : ∃ k, ks[i]? = some k ∧ (mixKind P w).is k v = true ∧ v.scannable = true := by
  have h2 : its[i]? = some v := by simpa using h
  have hl : i < ks.length := by
    have e := r.length
    rw [List.length_map] at e
    rw [e]
    exact (List.getElem?_eq_some_iff.mp h2).1
  obtain ⟨u, hu, ru⟩ := r.get (i := i) (x := kV ks[i]) (by simp [hl])
  rw [h2] at hu
  cases hu
  exact ⟨ks[i], List.getElem?_eq_getElem hl, kV_is ru, key_scan ru⟩
theorem cr_setK (hc : X.calm = true) : CallR X (.type "set") (rSetK X.prog X.w X.K) := by
  intro pins s σ H xs us Q I r h
  obtain ⟨l, ks, rfl, hq, hroom, q⟩ := h
  rw [Vals.ref1 r]
  have hd := I.ok.hd hc
  have fin : ∀ s2, Km.Left (mixKind X.prog X.w) s ks s2 → EP X pins σ Q (.ref s.heap.objs.size) s2 := fun s2 ⟨h2, tk, e, z, k⟩ => by
    subst e
    exact ⟨.ref _, _, I.laid (t' := tk) k (Nat.le_refl _) (setK_new z), rfl, q _ (I.hok.fresh (Nat.le_refl _))⟩
  rcases hq with hq | hq
  · obtain ⟨its, rr, pl, hz⟩ := I.list hq
    have hn : ks.length = its.toArray.size := by rw [List.size_toArray, ← rr.length, List.length_map]
    exact Km.set_of_init (knd := mixKind X.prog X.w) (ks := ks) (fun led B hB => Km.init_list led (hB hd) pl.isList hn (by unfold scanBound; omega) (keys_at rr)) fin
  · obtain ⟨its, rr, pl, hz⟩ := I.tuple hq
    have hn : ks.length = its.toArray.size := by rw [List.size_toArray, ← rr.length, List.length_map]
    exact Km.set_of_init (knd := mixKind X.prog X.w) (ks := ks) (fun led B hB => Km.init_tuple led (hB hd) pl hn (by unfold scanBound; omega) (keys_at rr)) fin
/-- len(S) -/
def rLenK (P : Program) (w : World) : List V → Hp → VK → Prop := fun xs H Q => ∃ (a : Addr) (S : Key → Bool) (n : Nat), xs = [.ref a] ∧ H a = some (SetK P w a S n) ∧ n ≤ 1000 ∧ Q (.int n) H
theorem cr_lenK : CallR X (.builtin "len") (rLenK X.prog X.w) := by
  intro pins s σ H xs us Q I r h
  obtain ⟨a, S, n, rfl, ha, hn, q⟩ := h
  rw [Vals.ref1 r]
  obtain ⟨o, es, ep, t, ho, hex, hd, _, _, _, hf, hz⟩ := setK_get I ha
  refine call_len_set ho hex hd hf (by rw [hz]; omega) ⟨.int n, H, I.tok _, ⟨_, by rw [hz]⟩, q⟩
end
end L2
namespace L2
open PySem PySem.Spec PyProof.Rows
theorem same_new {H : Hp} {p : Addr} {o : HO} (h : H p = none) : Same H (upd H p o) := fun b x e => by
  rw [upd_ne (ne_of_none e h)]
  exact e
/-- a new object: from then on the heap is a letter -/
theorem newH {H : Hp} {p : Addr} {o : HO} (n : H p = none) {P : Hp → Prop} (h : ∀ H2, Same H H2 → H2 p = some o → P H2) : P (upd H p o) := h _ (same_new n) upd_same
section
variable {J : It} {n : Nat} {G : Hp → Prop}
/-- a comprehension without a test whose element keeps what was tracked -/
theorem lc_map {xs ys : List V} (w : Walk J n G (YAt xs)) (hy : ys.length = n) (hsz : n < sizeLine) {slot : Nat} {te : TE} {vs : List Nat} {σ : St} {H1 : Hp} {D : Addr} {Qd : Hp → Prop} (hD : H1 D = none)
    (hG : ∀ H, Same H1 H → G H) (hw : ∀ x, wipe ((wipe σ vs).set slot (some x)) vs = wipe σ vs)
    (hs : ∀ (i : Nat) (x y : V) (H : Hp) (Q : VK), xs[i]? = some x → ys[i]? = some y → Same H1 H → (∀ H4, Same H H4 → Q y H4) → te ((wipe σ vs).set slot (some x)) H Q)
    (hd : ∀ H, Same H1 H → H D = some (.lst ys) → Qd H) :
    ∃ W : Nat → Nat → Hp → Prop, (∃ m, W 0 m (upd H1 D (.lst []))) ∧ ∀ i m H, W i m H →
      (J.stop i H ∧ Qd H) ∨ (J.go i H ∧ ∃ Nx : Hp → Prop, (∀ H', Nx H' → ∃ m', m' < m ∧ W (i + 1) m' H') ∧ ∀ x H', J.yld i H x H' → gName slot x (wipe σ vs) H' fun σ2 H2 => wipe σ2 vs = wipe σ vs ∧ tYes σ2 H2 fun b H3 =>
        if b = true then te σ2 H3 fun y H4 => ∃ acc, H4 D = some (.lst acc) ∧ acc.length < sizeLine ∧ Nx (upd H4 D (.lst (acc ++ [y]))) else Nx H3) := by
  refine lc_it w (fun i H => Same H1 H ∧ H D = some (.lst (ys.take i))) ⟨same_new hD, upd_same⟩ (fun i H _ h => hG H h.1) (fun i x H H' hi h y => ?_) (fun H h => hd H h.1 (by rw [h.2, ← hy, List.take_length]))
  obtain ⟨s1, hl⟩ := h
  obtain ⟨rfl, hx⟩ := y
  have hyi : ys[i]? = some (ys[i]'(by omega)) := List.getElem?_eq_getElem (by omega)
  refine ⟨hw x, ?_⟩
  unfold tYes
  dsimp only
  rw [if_pos rfl]
  refine hs i x _ H' _ hx hyi s1 fun H4 s4 => ⟨ys.take i, s4 _ _ hl, ?_, ?_, ?_⟩
  · rw [List.length_take]
    omega
  · intro b o e
    rw [upd_ne (ne_of_none e hD)]
    exact s4 _ _ (s1 _ _ e)
  · rw [upd_same, List.take_add_one, hyi]
    rfl
end
section
variable {X : Cx} {CX : CXT} {k : Nat} {f C : Addr} {fd : FuncData} {ps : List Str} {sp : Sp} {E : St → XK} {x : Str} {p pos : Pos} {e : Expr} {es : List Expr} {t : TA}
/-- C(e, ..) where what its __init__ raises is wished for at the caller's slots -/
def tMakeS (C : Addr) (sp : Sp) (E : St → XK) (t : TA) : TE := fun σ H Q => t σ H fun vs H1 => ∀ x dx, H1 x = none → H1 dx = none → dx ≠ x → sp (.ref x :: vs) (upd (upd H1 dx (.own x)) x (.ins C dx [])) (fun v H2 => v = .non ∧ Q (.ref x) H2) (E σ)
theorem pe_makeS (M : Mk X.K C f) (F : FnOk X.prog X.w X.K X.mg X.base CX k f fd ps sp) (hr : Room (k + 1) X.A) (hg : Gl X x) (hm : X.mg x = some (.ref C)) (hb : Binds X.K fd ps []) (hx : ∀ σ, PassesAt CX X σ (E σ))
    (ha : PA X (e :: es) t) (hdb : (x == ("__debug__" : Str)) = false := by decide) (he : starEach (e :: es) X.env = (false, eval e X.env) :: starEach es X.env := by rfl) (hpl : (backTo pos (starEach es X.env)).any (·.1) = false := by rfl) :
    PE X (.Call (.Name x p) (e :: es) [] pos) (tMakeS C sp E t) := by
  constructor
  intro pins s σ H Q I h
  refine wpAny_Call_Name_kw (ld_glob I hg hm ?_ hdb)
  refine PySem.W.callWith_K (h₀ := X.base) I.ok.mod.kin M.kp (thn (ha.run pos pins s σ H _ I h) fun us s1 q0 => ?_) he hpl
  obtain ⟨vs, H1, I1, r, q⟩ := q0
  refine ⟨I1.kIn, ?_⟩
  have q1 := q (s1.heap.objs.size + 1) s1.heap.objs.size (I1.hok.fresh (Nat.le_succ _)) (I1.hok.fresh (Nat.le_refl _)) (Nat.ne_of_lt (Nat.lt_succ_self _))
  have I2 := Inv.made (C := C) I1
  have r2 : Vals (V.ref (s1.heap.objs.size + 1) :: vs) (Value.ref (s1.heap.objs.size + 1) :: us) := .cons rfl r
  have hl : (Value.ref (s1.heap.objs.size + 1) :: us).length = ps.length := by
    rw [← r2.length]
    exact F.len _ _ _ _ q1
  have b := hb _ (Value.ref (s1.heap.objs.size + 1) :: us) I2.kIn (by rw [List.append_nil]; exact hl)
  rw [List.append_nil] at b
  refine wpAny_call (make_map (f := f) I1.kIn M.makes M.init (beq_iff_eq.mp M.fn) (codeAny_mono (F.run _ X.stack _ _ ⟨_ :: us, []⟩ _ _ _ (E σ) (hr.make C us []) (I2.env0.make C us []) b r2 q1) fun z s2 hz => ?_))
  cases z with
  | error err => exact hx σ pins _ _ err s2 I2 hz
  | ok fl =>
    cases fl with
    | ret u =>
      obtain ⟨v, H3, I3, rv, ev, q3⟩ := I2.after hz
      subst ev
      exact ⟨rv, V.ref _, H3, I3, rfl, q3⟩
    | next => exact False.elim hz
    | brk => exact False.elim hz
    | cont => exact False.elim hz
end
/-- isinstance(e, c), e the exception that the suite holds, with its own dict or without -/
def rIsX (K : PySem.W.Frag) (D a : Addr) (cls : Value) (d : Option Addr) : List V → Hp → VK → Prop := fun xs H Q => ∃ (c : V) (cv : Value) (b : Bool), xs = [.ref a, c] ∧ (∀ u, RelV c u → u = cv) ∧ cls = .ref D ∧ (∀ dx, d = some dx → ∃ fs, H dx = some (.xd fs)) ∧ PySem.W.kitOne K (.ref D) cv = some b ∧ Q (.bl b) H
theorem call_isX {X : Cx} {a D : Addr} {oe : Obj} {cls : Value} {d : Option Addr} {pn : List (Addr × Obj)} (C : ExcC X.K D) (hz : Zc cls d oe) (hf : ∃ vs, oe.data = .fields vs) :
    CallR (X.suite a ((a, oe) :: pn)) (.builtin "isinstance") (rIsX X.K D a cls d) := by
  intro pins s σ H xs us Q I r h
  obtain ⟨c, cv, b, rfl, hcv, ecl, hd, e, q⟩ := h
  obtain ⟨u1, u2, rfl, r1, r2⟩ := vals2 r
  cases r1
  obtain rfl := hcv _ r2
  obtain ⟨hget, _⟩ := I.pin (a, oe) (List.mem_append.mpr (.inl List.mem_cons_self))
  obtain ⟨vs, hv⟩ := hf
  obtain ⟨h1, h2⟩ := hz
  have hcl : (PySem.W.clsIn X.K D).isSome = true := by
    obtain ⟨cd, hc, _⟩ := PySem.W.any_some C.hd
    rw [hc] <;> rfl
  have nc : PySem.W.notCls oe = true := by
    unfold PySem.W.notCls
    rw [hv] <;> rfl
  rw [ecl] at h1
  have J : ∃ od, PySem.W.InstAt s.heap a oe D od := by
    cases d with
    | none => exact ⟨none, hget, h1, nc, by rw [h2]; trivial⟩
    | some dx =>
      obtain ⟨fs, hx⟩ := hd dx rfl
      have z : ObjOk X.prog X.w H s.heap dx (.xd fs) := I.hok dx _ hx
      obtain ⟨mA, hns, _⟩ := z
      obtain ⟨od, ho, _⟩ := lookIn_ns hns
      exact ⟨some od, hget, h1, nc, by rw [h2]; exact ho⟩
  obtain ⟨od, J⟩ := J
  exact PySem.W.kia_one (PySem.W.kitx_exc hcl C.hg C.hk C.hs C.ha C.hn C.ht C.hm) I.kIn J e (fun z => nomatch z) fun tk => ⟨.bl b, H, I.kept (t' := tk) fun _ _ z => z, rfl, q⟩
end L2
namespace L2
open PySem PySem.Spec PyProof.Rows
section
variable {X : Cx} {e : Expr} {t : TE} {st : Stmt} {u : TS}
/-- an expression by a contract: ways meet -/
def tCut (P : St → Hp → V → Hp → Prop) (t : TE) : TE := fun σ H Q => t σ H (P σ H) ∧ ∀ v H', P σ H v H' → Q v H'
theorem pe_cut (P : St → Hp → V → Hp → Prop) (h : PE X e t) : PE X e (tCut P t) := ⟨fun pins s σ H Q I z => thn (h.run pins s σ H _ I z.1) fun _ _ q => by
  obtain ⟨x, H1, I1, r, p⟩ := q
  exact ⟨x, H1, I1, r, z.2 x H1 p⟩⟩
end
/-! the pool of the laws: two numbers -/
def Pool (H : Hp) (a : Addr) : Prop := ∃ g q : Int, H a = some (.lst [.int g, .int q]) ∧ 0 ≤ g ∧ 0 ≤ q ∧ q < 2147483647
/-- all but what stands at a is as it was -/
def But (a : Addr) (H H' : Hp) : Prop := ∀ b o, b ≠ a → H b = some o → H' b = some o
theorem But.of_same {a : Addr} {H H' : Hp} (s : Same H H') : But a H H' := fun b o _ e => s b o e
theorem But.upd {a : Addr} {H : Hp} {o : HO} : But a H (upd H a o) := fun b _ n e => by
  rw [upd_ne n]
  exact e
theorem But.trans {a : Addr} {H H1 H2 : Hp} (x : But a H H1) (y : But a H1 H2) : But a H H2 := fun b o n e => y b o n (x b o n e)
theorem But.same {a : Addr} {H H1 : Hp} (x : But a H H1) (n : H a = none) : Same H H1 := fun b o e => x b o (ne_of_none e n) e
theorem perm_pop {α : Type} : ∀ {l : List α} {k : Nat} {y : α}, l[k]? = some y → (y :: l.eraseIdx k).Perm l
  | [], _, _, h => by simp at h
  | a :: l, 0, y, h => by
    have e : a = y := Option.some.inj h
    rw [e]
    exact .refl _
  | a :: l, k + 1, y, h => (List.Perm.swap a y _).trans ((perm_pop (l := l) h).cons a)
theorem eraseIdx_map {α β : Type} (f : α → β) : ∀ (l : List α) (k : Nat), (l.map f).eraseIdx k = (l.eraseIdx k).map f
  | [], _ => rfl
  | _ :: _, 0 => rfl
  | a :: l, k + 1 => congrArg (f a :: ·) (eraseIdx_map f l k)
def names8 : List Str := ["ann", "bo", "cy", "dee", "eve", "fay", "gus", "z"]
theorem names8_nd : names8.Nodup := by decide +kernel
def spOpened (K : PySem.W.Frag) : Sp := fun vs H Q _ => ∃ (a : Addr) (ns : List Int) (k : Nat), vs = [.ref a, .int k] ∧ SqL K H a (ns.map V.int) ∧ k ≤ 62 ∧
  ∀ H' p, Same H H' → H p = none → Pool H' p → Q (.ref p) H'
def spDraw : Sp := fun vs H Q _ => ∃ (a : Addr) (m : Int), vs = [.ref a, .int m] ∧ Pool H a ∧ 1 ≤ m ∧ m ≤ 1000 ∧ ∀ (r : Int) H', 0 ≤ r → r < m → Pool H' a → But a H H' → Q (.int r) H'
def spPeople : Sp := fun vs H Q _ => ∃ (a : Addr) (m : Nat), vs = [.ref a, .int m] ∧ Pool H a ∧ m ≤ 8 ∧
  ∀ H' p (xs : List Str), Pool H' a → But a H H' → H p = none → H' p = some (.lst (xs.map V.str)) → xs.length = m → xs.Nodup → (∀ x ∈ xs, x ∈ names8) → Q (.ref p) H'
end L2
namespace L2
open PySem PySem.Spec PyProof.Rows
/-! types of any values -/
def knownT : List String := ["NoneType", "bool", "int", "str", "list", "tuple", "dict"]
def TyN (K : PySem.W.Frag) (H : Hp) (v : V) (T : String) : Prop := TyX K H v (.type T) ∧ T ∈ knownT
section
variable {K : PySem.W.Frag} {H H' : Hp} {v : V} {T : String}
theorem TyX.same {t : Value} (s : Same H H') (h : TyX K H v t) : TyX K H' v t := by
  cases h with
  | base b =>
    refine .base ?_
    cases b with
    | non => exact .non
    | bl x => exact .bl x
    | int i => exact .int i
    | str x => exact .str x
    | flt x => exact .flt x
    | lst e => exact .lst (s _ _ e)
    | frz e => exact .frz (s _ _ e)
    | tup e => exact .tup (s _ _ e)
    | dK e => exact .dK (s _ _ e)
    | dT e => exact .dT (s _ _ e)
    | ins e cl ha hn htk hm => exact .ins (s _ _ e) cl ha hn htk hm
  | byt b => exact .byt b
  | set e => exact .set (s _ _ e)
  | kList e c => exact .kList e c
  | kTuple e c => exact .kTuple e c
  | kDict e c => exact .kDict e c
  | fTuple e => exact .fTuple (s _ _ e)
  | fDict e => exact .fDict (s _ _ e)
theorem TyN.same (s : Same H H') (h : TyN K H v T) : TyN K H' v T := ⟨TyX.same s h.1, h.2⟩
theorem kit_str (h : T ∈ knownT) : kitB T "str" = some (decide (T = "str")) := by
  simp only [knownT, List.mem_cons, List.not_mem_nil, or_false] at h
  rcases h with rfl | rfl | rfl | rfl | rfl | rfl | rfl <;> decide +kernel
theorem kit_bool (h : T ∈ knownT) : kitB T "bool" = some (decide (T = "bool")) := by
  simp only [knownT, List.mem_cons, List.not_mem_nil, or_false] at h
  rcases h with rfl | rfl | rfl | rfl | rfl | rfl | rfl <;> decide +kernel
theorem kit_int (h : T ∈ knownT) : kitB T "int" = some (decide (T = "int") || decide (T = "bool")) := by
  simp only [knownT, List.mem_cons, List.not_mem_nil, or_false] at h
  rcases h with rfl | rfl | rfl | rfl | rfl | rfl | rfl <;> decide +kernel
theorem kit_list (h : T ∈ knownT) : kitB T "list" = some (decide (T = "list")) := by
  simp only [knownT, List.mem_cons, List.not_mem_nil, or_false] at h
  rcases h with rfl | rfl | rfl | rfl | rfl | rfl | rfl <;> decide +kernel
theorem kit_tuple (h : T ∈ knownT) : kitB T "tuple" = some (decide (T = "tuple")) := by
  simp only [knownT, List.mem_cons, List.not_mem_nil, or_false] at h
  rcases h with rfl | rfl | rfl | rfl | rfl | rfl | rfl <;> decide +kernel
theorem kit_listTuple (h : T ∈ knownT) : PySem.W.kitAny K (.type T) [.type "list", .type "tuple"] = some (decide (T = "list") || decide (T = "tuple")) := by
  refine kitAny_cons (kit_ty (kit_list h)) (fun e => ?_) fun e => ?_
  · rw [e, Bool.false_or]
    exact kitAny_cons (kit_ty (kit_tuple h)) (fun e => by rw [e]; exact kitAny_nil) fun e => e
  · rw [e]
    rfl
theorem ty_str' {t : Value} (h : TyX K H v t) (e : t = .type "str") : ∃ z, v = .str z := by
  cases h with
  | base b =>
    cases b with
    | str x => exact ⟨x, rfl⟩
    | ins e2 cl ha hn htk hm => cases e
    | _ =>
      injection e with e
      exact absurd e (by decide)
  | _ =>
    injection e with e
    exact absurd e (by decide)
theorem ty_str (h : TyX K H v (.type "str")) : ∃ z, v = .str z := ty_str' h rfl
theorem ty_int' {t : Value} (h : TyX K H v t) (e : t = .type "int") : ∃ z, v = .int z := by
  cases h with
  | base b =>
    cases b with
    | int x => exact ⟨x, rfl⟩
    | ins e2 cl ha hn htk hm => cases e
    | _ =>
      injection e with e
      exact absurd e (by decide)
  | _ =>
    injection e with e
    exact absurd e (by decide)
theorem ty_int (h : TyX K H v (.type "int")) : ∃ z, v = .int z := ty_int' h rfl
theorem str_ty {z : Str} (h : TyX K H (.str z) (.type T)) : T = "str" := by
  cases h with
  | base b => cases b with
    | str x => rfl
theorem int_ty {i : Int} (h : TyX K H (.int i) (.type T)) : T = "int" := by
  cases h with
  | base b => cases b with
    | int x => rfl
end
/-! words -/
def letters : Str := "abcdefghijklmnopqrstuvwxyz"
def wordB (z : Str) : Bool := (decide (1 ≤ z.length) && decide (z.length ≤ 8)) && z.cps.toList.all fun c => decide (c ∈ letters.cps.toList)
def isW : V → Bool
  | .str z => wordB z
  | _ => false
def peopleB (xs : List V) : Bool := (decide (1 ≤ xs.length) && decide (xs.length ≤ 8)) && (xs.all isW && decide xs.Nodup)
def markB (lo hi : Int) : V → Bool
  | .int i => decide (lo ≤ i) && decide (i ≤ hi)
  | _ => false
/-- an item that may stand in what is given for people -/
def ItemOk (K : PySem.W.Frag) (H : Hp) (x : V) : Prop := (∃ T, TyN K H x T) ∧ ∀ z, x = .str z → z.length ≤ 1000
theorem ItemOk.same {K : PySem.W.Frag} {H H' : Hp} {x : V} (s : Same H H') (h : ItemOk K H x) : ItemOk K H' x := by
  obtain ⟨⟨T, t⟩, z⟩ := h
  exact ⟨⟨T, t.same s⟩, z⟩
/-- any value given for people: whether it is people, and its items -/
inductive ArgP (K : PySem.W.Frag) (H : Hp) : V → Bool → List V → Prop where
  | no {v : V} {T : String} (t : TyN K H v T) (h1 : T ≠ "list") (h2 : T ≠ "tuple") : ArgP K H v false []
  | lst {a : Addr} {xs : List V} (e : H a = some (.lst xs)) (h : ∀ x ∈ xs, ItemOk K H x) (hl : xs.length ≤ 1000) : ArgP K H (.ref a) (peopleB xs) xs
  | tup {a : Addr} {xs : List V} (e : H a = some (.tup xs)) (h : ∀ x ∈ xs, ItemOk K H x) (hl : xs.length ≤ 1000) : ArgP K H (.ref a) (peopleB xs) xs
theorem ArgP.same {K : PySem.W.Frag} {H H' : Hp} {v : V} {b : Bool} {xs : List V} (s : Same H H') (h : ArgP K H v b xs) : ArgP K H' v b xs := by
  cases h with
  | no t h1 h2 => exact .no (t.same s) h1 h2
  | lst e h hl => exact .lst (s _ _ e) (fun x hx => (h x hx).same s) hl
  | tup e h hl => exact .tup (s _ _ e) (fun x hx => (h x hx).same s) hl
def spIsInteger (K : PySem.W.Frag) : Sp := fun vs H Q _ => ∃ (v : V) (T : String), vs = [v] ∧ TyN K H v T ∧ Q (.bl (decide (T = "int"))) H
def spWithin (K : PySem.W.Frag) : Sp := fun vs H Q _ => ∃ (v : V) (lo hi : Int), vs = [v, .int lo, .int hi] ∧ (∃ T, TyN K H v T) ∧ Q (.bl (markB lo hi v)) H
def spIsWord (K : PySem.W.Frag) : Sp := fun vs H Q _ => ∃ v : V, vs = [v] ∧ ItemOk K H v ∧ ∀ H', Same H H' → Q (.bl (isW v)) H'
def spArePeople (K : PySem.W.Frag) : Sp := fun vs H Q _ => ∃ (v : V) (b : Bool) (xs : List V), vs = [v] ∧ ArgP K H v b xs ∧ ∀ H', Same H H' → Q (.bl b) H'
end L2
namespace L2
open PySem PySem.Spec PyProof.Rows
def kmSigns (z : Str) : List V := z.cps.toList.map fun c => V.str ⟨#[c]⟩
theorem walk_kmSigns {z : Str} : Walk (Its z) (kmSigns z).length (fun _ => True) (YAt (kmSigns z)) := by
  have e : (kmSigns z).length = z.cps.size := by
    unfold kmSigns
    rw [List.length_map, Array.length_toList]
  rw [e]
  refine walk_str.mono (fun _ h => h) fun i H x H' _ _ y => ?_
  obtain ⟨h, c, hc, hx⟩ := y
  refine ⟨h, ?_⟩
  unfold kmSigns
  rw [List.getElem?_map, Array.getElem?_toList, hc, hx]
  rfl
theorem all_bl (bs : List Bool) : (bs.map V.bl).length = bs.length := List.length_map ..
end L2
namespace L2
open PySem PySem.Spec PyProof.Rows
/-! an own error with one field -/
structure Er (K : PySem.W.Frag) (mg : Str → Option Value) (x : Str) (C : Addr) : Prop where
  g : mg x = some (.ref C)
  ox : OexC K C
  xf : XfC K C
  ec : ExcC K C
  exm : PySem.W.exmOne K (.ref C) (.ref C) = some true
def spErrInit (K : PySem.W.Frag) (C : Addr) (f : Str) : Sp := fun vs H Q _ => ∃ (a : Addr) (v : V), vs = [.ref a, v] ∧ OexC K C ∧ PySem.W.findIn K (.ref C) f = some none ∧ H a = some (exo a C none) ∧
  ∀ d, H d = none → d ≠ a → Q .non (upd (upd H d (exd d [(f, v)])) a (exo a C (some d)))
/-- what a raise of such an error leaves -/
def Raised (H H' : Hp) (d : Addr) (f : Str) (v : V) : Prop := Same H H' ∧ H d = none ∧ H' d = some (.xd [(f, v)])
theorem raised_mk {H : Hp} {a d C : Addr} {f : Str} {v : V} (na : H a = none) (nd : H d = none) (nda : d ≠ a) :
    Raised H (upd (del (upd (upd (upd H a (exo a C none)) d (exd d [(f, v)])) a (exo a C (some d))) a) d (.xd [(f, v)])) d f v := by
  refine ⟨fun b o e => ?_, nd, upd_same⟩
  rw [upd_ne (ne_of_none e nd), del_ne (ne_of_none e na), upd_ne (ne_of_none e na), upd_ne (ne_of_none e nd), upd_ne (ne_of_none e na)]
  exact e
theorem strs_of_isW : ∀ {xs : List V}, xs.all isW = true → ∃ zs : List Str, xs = zs.map V.str
  | [], _ => ⟨[], rfl⟩
  | x :: xs, h => by
    rw [List.all_cons, Bool.and_eq_true] at h
    obtain ⟨zs, rfl⟩ := strs_of_isW h.2
    cases x with
    | str z => exact ⟨z :: zs, rfl⟩
    | _ => cases h.1
theorem keys_of_strs (zs : List Str) : zs.map V.str = (zs.map (Sum.inr : Str → Key)).map kV := by
  rw [List.map_map]
  rfl
theorem nodup_map_inj {α β : Type} {f : α → β} (hf : ∀ a b, f a = f b → a = b) {l : List α} : (l.map f).Nodup ↔ l.Nodup := by
  induction l with
  | nil => simp
  | cons a l ih =>
    rw [List.map_cons, List.nodup_cons, List.nodup_cons, ih, List.mem_map]
    constructor
    · rintro ⟨h1, h2⟩
      exact ⟨fun h => h1 ⟨a, h, rfl⟩, h2⟩
    · rintro ⟨h1, h2⟩
      exact ⟨fun ⟨b, hb, e⟩ => h1 (hf _ _ e ▸ hb), h2⟩
theorem uniq_strs (zs : List Str) : decide (V.int ((Km.uniq (zs.map (Sum.inr : Str → Key))).length : Nat) = V.int ((zs.map V.str).length : Nat)) = decide (zs.map V.str).Nodup := by
  refine decide_eq_decide.mpr ?_
  have h1 := Km.uniq_full (zs.map (Sum.inr : Str → Key))
  rw [nodup_map_inj (f := (Sum.inr : Str → Key)) (fun _ _ e => Sum.inr.inj e), List.length_map] at h1
  rw [nodup_map_inj (f := V.str) (fun _ _ e => V.str.inj e), ← h1, List.length_map]
  constructor
  · intro e
    have := V.int.inj e
    omega
  · intro e
    rw [e]
end L2
namespace L2
open PySem PySem.Spec PyProof.Rows
/-- what a crowd's instance holds -/
def crowdFs (p : Addr) (m : Int) : List (Str × V) := [("_people", V.ref p), ("most", V.int m)]
def CrowdAt (H : Hp) (C x : Addr) (xs : List V) (m : Int) : Prop := ∃ dx p, H x = some (.ins C dx (crowdFs p m)) ∧ H p = some (.lst xs)
theorem CrowdAt.same {H H' : Hp} {C x : Addr} {xs : List V} {m : Int} (s : Same H H') (h : CrowdAt H C x xs m) : CrowdAt H' C x xs m := by
  obtain ⟨dx, p, h1, h2⟩ := h
  exact ⟨dx, p, s _ _ h1, s _ _ h2⟩
def spCrowdInit (K : PySem.W.Frag) (C CB : Addr) : Sp := fun vs H Q E => ∃ (x dx : Addr) (v m : V) (b : Bool) (xs : List V), vs = [.ref x, v, m] ∧ H x = some (.ins C dx []) ∧ ArgP K H v b xs ∧ (∃ T, TyN K H m T) ∧
  (b = false → ∀ H' d, Raised H H' d "part" (.str "people") → E (.ref CB) (some d) H') ∧
  (b = true → markB 1 10 m = false → ∀ H' d, Raised H H' d "part" (.str "most") → E (.ref CB) (some d) H') ∧
  (b = true → ∀ i, m = .int i → markB 1 10 m = true → ∀ H', But x H H' → CrowdAt H' C x xs i → Q .non H')
theorem putF_new {f : Str} {v : V} : putF f v [] = [(f, v)] := rfl
theorem crowd_put {p : Addr} {m : Int} : putF "most" (.int m) [(("_people" : Str), V.ref p)] = crowdFs p m := by
  show (if (("_people" : Str)) = "most" then _ else _) = _
  rw [if_neg (by decide +kernel)]
  rfl
end L2
namespace L2
open PySem PySem.Spec PyProof.Rows
theorem ArgP.seq {K : PySem.W.Frag} {H : Hp} {v : V} {b : Bool} {xs : List V} (h : ArgP K H v b xs) (e : b = true) : ∃ l, v = .ref l ∧ (SqL K H l xs ∨ SqT K H l xs) := by
  cases h with
  | no t h1 h2 => cases e
  | lst e1 h hl => exact ⟨_, rfl, .inl (SqL.of e1)⟩
  | tup e1 h hl => exact ⟨_, rfl, .inr (SqT.of e1)⟩
/-- what the law's own look at a making tells: taken, or the part -/
def toldP (b m : Bool) : Option Str := if b = false then some "people" else if m = false then some "most" else none
def spTold (K : PySem.W.Frag) : Sp := fun vs H Q _ => ∃ (v m : V) (b : Bool) (xs : List V), vs = [v, m] ∧ ArgP K H v b xs ∧ (∃ T, TyN K H m T) ∧
  (∀ H' p z, toldP b (markB 1 10 m) = some z → Same H H' → H' p = some (.lst [.str z, .bl true]) → Q (.ref p) H') ∧
  (toldP b (markB 1 10 m) = none → ∀ H', Same H H' → Q (.str "taken") H')
end L2
namespace L2
open PySem PySem.Spec PyProof.Rows
theorem rng_le (l c : Int) (hc : 1 ≤ c) : 1 ≤ (if (if c < l then c else l) > 1 then (if c < l then c else l) else (1 : Int)) ∧ (if (if c < l then c else l) > 1 then (if c < l then c else l) else (1 : Int)) ≤ c := by
  by_cases h : c < l
  · rw [if_pos h]
    split <;> omega
  · rw [if_neg h]
    split <;> omega
theorem names8_ok : ∀ z ∈ names8, wordB z = true ∧ z.length ≤ 8 := by decide +kernel
abbrev BadP (K : PySem.W.Frag) (H : Hp) (v : V) : Prop := ∃ xs, ArgP K H v false xs
theorem BadP.same {K : PySem.W.Frag} {H H' : Hp} {v : V} (s : Same H H') (h : BadP K H v) : BadP K H' v := by
  obtain ⟨xs, h⟩ := h
  exact ⟨xs, h.same s⟩
theorem ArgP.lst' {K : PySem.W.Frag} {H : Hp} {a : Addr} {xs : List V} {b : Bool} (e : H a = some (.lst xs)) (h : ∀ x ∈ xs, ItemOk K H x) (hl : xs.length ≤ 1000) (hb : peopleB xs = b) : ArgP K H (.ref a) b xs := by
  subst hb
  exact .lst e h hl
theorem ArgP.tup' {K : PySem.W.Frag} {H : Hp} {a : Addr} {xs : List V} {b : Bool} (e : H a = some (.tup xs)) (h : ∀ x ∈ xs, ItemOk K H x) (hl : xs.length ≤ 1000) (hb : peopleB xs = b) : ArgP K H (.ref a) b xs := by
  subst hb
  exact .tup e h hl
section
variable {K : PySem.W.Frag} {H : Hp}
theorem item_str {z : Str} (h : z.length ≤ 1000) : ItemOk K H (.str z) := ⟨⟨"str", .base (.str z), by decide⟩, fun y e => by
  rw [← V.str.inj e]
  exact h⟩
theorem item_non : ItemOk K H .non := ⟨⟨"NoneType", .base .non, by decide⟩, fun y e => by cases e⟩
theorem item_int {i : Int} : ItemOk K H (.int i) := ⟨⟨"int", .base (.int i), by decide⟩, fun y e => by cases e⟩
theorem item_bl {i : Bool} : ItemOk K H (.bl i) := ⟨⟨"bool", .base (.bl i), by decide⟩, fun y e => by cases e⟩
theorem item_lst {a : Addr} {xs : List V} (h : H a = some (.lst xs)) : ItemOk K H (.ref a) := ⟨⟨"list", .base (.lst h), by decide⟩, fun y e => by cases e⟩
/-- people as the laws draw them -/
structure Drawn8 (zs : List Str) : Prop where
  nd : zs.Nodup
  mem : ∀ z ∈ zs, z ∈ names8
theorem Drawn8.items {zs : List Str} (d : Drawn8 zs) : ∀ x ∈ zs.map V.str, ItemOk K H x := by
  intro x hx
  obtain ⟨z, hz, rfl⟩ := List.mem_map.mp hx
  exact item_str (Nat.le_trans (names8_ok z (d.mem z hz)).2 (by decide))
theorem Drawn8.allW {zs : List Str} (d : Drawn8 zs) : (zs.map V.str).all isW = true := by
  rw [List.all_eq_true]
  intro x hx
  obtain ⟨z, hz, rfl⟩ := List.mem_map.mp hx
  exact (names8_ok z (d.mem z hz)).1
theorem Drawn8.people {zs : List Str} (d : Drawn8 zs) (h1 : 1 ≤ zs.length) (h2 : zs.length ≤ 8) : peopleB (zs.map V.str) = true := by
  show ((decide (1 ≤ (zs.map V.str).length) && decide ((zs.map V.str).length ≤ 8)) && ((zs.map V.str).all isW && decide (zs.map V.str).Nodup)) = true
  rw [d.allW, List.length_map, decide_eq_true h1, decide_eq_true h2, decide_eq_true ((nodup_map_inj (f := V.str) (fun _ _ e => V.str.inj e)).mpr d.nd)]
  rfl
theorem not_people_of_isW {xs : List V} {y : V} (h : isW y = false) : peopleB (xs ++ [y]) = false := by
  show (_ && ((xs ++ [y]).all isW && _)) = false
  rw [List.all_append, List.all_cons, h, Bool.false_and, Bool.and_false, Bool.false_and, Bool.and_false]
theorem not_people_of_twice {x : V} {xs : List V} : peopleB ((x :: xs) ++ [x]) = false := by
  show (_ && (_ && decide ((x :: xs) ++ [x]).Nodup)) = false
  have : ¬ ((x :: xs) ++ [x]).Nodup := fun h => by
    rw [List.cons_append, List.nodup_cons] at h
    exact h.1 (List.mem_append_right _ (List.mem_singleton.mpr rfl))
  rw [decide_eq_false this, Bool.and_false, Bool.and_false]
theorem bad_append {a : Addr} {xs : List V} {y : V} (e : H a = some (.lst (xs ++ [y]))) (hx : ∀ x ∈ xs, ItemOk K H x) (hl : xs.length ≤ 8) (hy : ItemOk K H y) (h : isW y = false) : BadP K H (.ref a) :=
  ⟨_, .lst' e (fun x hm => by
    rcases List.mem_append.mp hm with hm | hm
    · exact hx x hm
    · rw [List.mem_singleton.mp hm]
      exact hy) (by rw [List.length_append, List.length_singleton]; omega) (not_people_of_isW h)⟩
end
section
variable {σ : St} {H : Hp} {Q : VK}
/-- l + [e] -/
theorem rd_cat1 {i : Nat} {l : Addr} {xs : List V} {te : TE} (y : V) (h : σ[i]? = some (some (.ref l))) (hl : H l = some (.lst xs)) (hx : xs.length ≤ 8)
    (hte : ∀ Q' : VK, (∀ H1, Same H H1 → Q' y H1) → te σ H Q') (k : ∀ H' p, Same H H' → H' p = some (.lst (xs ++ [y])) → Q (.ref p) H') : tOp rCat (tVar i) (tLst (tCons te tNil)) σ H Q := by
  refine ⟨_, h, hte _ fun H1 s1 => ⟨(by show 1 ≤ sizeLine; decide), fun b nb => ⟨l, b, xs, [y], rfl, rfl, same_new nb _ _ (s1 _ _ hl), upd_same, ?_, fun p np => ?_⟩⟩⟩
  · rw [List.length_singleton]
    exact Nat.le_of_lt (small1000 (by omega))
  · exact k _ p ((s1.trans (same_new nb)).trans (same_new np)) upd_same
theorem dp_told {K : PySem.W.Frag} {p : Addr} {z : Str} (h : H p = some (.lst [.str z, .bl true])) : Dp K H (.ref p) (.list [.str z, .bool true]) := .lst (SqL.of h) (.cons (.str z) (.cons (.bl true) .nil))
end
end L2
namespace L2
open PySem PySem.Spec PyProof.Rows
theorem shaped_taken : SeqAt.shaped (.str "taken") = true := by decide +kernel
theorem eqv_taken : PyData.eqv (.str "taken") (.str "taken") = true := by decide +kernel
theorem shaped_people : SeqAt.shaped (.list [.str "people", .bool true]) = true := by decide +kernel
theorem shaped_most : SeqAt.shaped (.list [.str "most", .bool true]) = true := by decide +kernel
theorem eqv_people : PyData.eqv (.list [.str "people", .bool true]) (.list [.str "people", .bool true]) = true := by decide +kernel
theorem eqv_most : PyData.eqv (.list [.str "most", .bool true]) (.list [.str "most", .bool true]) = true := by decide +kernel
end L2
namespace L2
open PySem PySem.Spec PyProof.Rows
theorem toldP_most {m : Bool} (h : m = false) : toldP true m = some "most" := by
  rw [h]
  rfl
theorem toldP_taken {m : Bool} (h : m = true) : toldP true m = none := by
  rw [h]
  rfl
end L2

set_option Elab.async false
set_option linter.all false
set_option maxRecDepth 100000
set_option maxHeartbeats 4000000
/-! Own errors over any built-in base, with an own __init__ that stores: made as values or raised, their fields. -/
namespace L2
open PySem PySem.Spec PyProof.Rows
structure EcC (K : PySem.W.Frag) (C : Addr) : Prop where
  base : ∃ (B newId initId : String) (bmB : List Value), PySem.ExcBaseFacts B newId initId bmB ∧ PySem.StoreFacts B bmB "object.__setattr__" "object" ∧ PySem.W.excInitIn K C bmB newId = true ∧ PySem.W.excOver K C bmB = true
  sa : PySem.W.findIn K (.ref C) "__setattr__" = some (some (.builtin "object.__setattr__"))
  hd : PySem.W.hasDictIn K C = true
  exC : PySem.W.subIn K (.ref C) (.type "BaseException") = some true
  tyC : PySem.W.typeIn K (.ref C) = some (.type "type")
  kC : PySem.W.keepIn K (.ref C) = true
section
variable {X : Cx} {pins : List (Addr × Obj)} {σ : St} {H : Hp} {s : Shared} {a C : Addr} {f : Str} {y : V} {u : Value} {Q : Unit → Shared → Prop} {E : Value → Shared → Prop} {A : Around}
/-- self.f = y, the first field -/
theorem ec_store (T : EcC X.K C) (I : Inv X pins σ H s) (e : H a = some (exo a C none)) (hno : PySem.W.findIn X.K (.ref C) f = some none) (ry : RelV y u)
    (h : ∀ dx s', H dx = none → dx ≠ a → Inv X pins σ (upd (upd H dx (exd dx [(f, y)])) a (exo a C (some dx))) s' → Q () s') : wpAny (model X.prog X.w) A (setAttr (.ref a) f u) Q E s := by
  obtain ⟨B, newId, initId, bmB, FB, SF, hin, hov⟩ := T.base
  obtain ⟨t1, ho⟩ := exo_at I.hok e
  obtain ⟨hp, g, d, t, os⟩ := s
  have J0 : PySem.W.InstAt hp a { cls := .ref C, dict := none, data := .fields #[.ref t1, .none, .none, .none, .bool false, .none] } C none := ⟨ho, rfl, rfl, trivial⟩
  have tk : PySem.W.takerIn X.K C f = some none := by
    unfold PySem.W.takerIn
    rw [hno]
    rfl
  have lt : a < hp.objs.size := Heap.lt_size ho
  refine PySem.W.set_plain I.kIn J0 T.sa ?_
  refine PySem.W.osa_openX SF I.kIn J0 hov tk fun b => ?_
  obtain ⟨cd, hcd, hhd⟩ := PySem.W.any_some T.hd
  have L := PySem.W.looks_clsIn (M := model X.prog X.w) I.kIn hcd
  show wpAny _ _ (Builtin.ObjectAttr.storeInOwnDict (.ref a) (.ref C) (.str f _) f u b) _ _ _
  unfold Builtin.ObjectAttr.storeInOwnDict Builtin.ObjectAttr.ownDictForStores
  obtain ⟨cnm, cbs, cmro, cns, cqn, chd, csn, csb, cab, ccol, cdel⟩ := cd
  dsimp only at hhd
  subst hhd
  have xs : a ≠ hp.objs.size := Nat.ne_of_lt lt
  repeat (first
    | with_reducible refine PySem.HandSPX.store_in_new ?_ ?_
    | with_reducible refine wpAny_loadPart_at ho ?_
    | with_reducible refine L.at ?_
    | wp_step)
  · exact ⟨_, #[], _, (Heap.get?_update_ne _ _ _ _ xs.symm).trans (Heap.get?_push_at rfl rfl), rfl, fun e he => absurd he (by simp), fun _ => rfl⟩
  intro h' tk' hn hsb
  have old : ∀ b o, b ≠ a → hp.get? b = some o → h'.get? b = some o := fun b o nb q => by
    rw [hsb.2 b (Nat.ne_of_lt (Heap.lt_size q)), Heap.get?_update_ne _ _ _ _ nb]
    exact Heap.get?_push_of_some _ q
  have own : h'.get? a = some { cls := .ref C, dict := some hp.objs.size, data := .fields #[.ref t1, .none, .none, .none, .bool false, .none] } := by
    rw [hsb.2 a xs]
    exact Heap.get?_update_self _ (Heap.get?_push_of_some _ ho) rfl
  have nd : H hp.objs.size = none := I.hok.fresh (Nat.le_refl _)
  have lts : ∀ {b o}, hp.get? b = some o → b ≠ hp.objs.size := fun q => Nat.ne_of_lt (Heap.lt_size q)
  have free1 : ∀ {b}, H b = none → b ≠ a := fun n z => by
    rw [z, e] at n
    cases n
  have un : Un X.fs [] H (upd (upd H hp.objs.size (exd hp.objs.size [(f, y)])) a (exo a C (some hp.objs.size))) hp h' := by
    refine ⟨fun b o q n _ _ => old b o (free1 n) q, fun b o q n _ _ => ⟨o.slots, old b o (free1 n) q⟩, fun b o q n _ => ?_, fun b o q _ => ?_, fun b xs q => ?_, fun b o v q => ?_, fun b ps q => ?_⟩
    · rw [upd_ne (free1 n), upd_ne (lts q)]
      exact n
    · by_cases z : b = a
      · rw [z]
        exact ⟨_, own⟩
      · exact ⟨o, old b o z q⟩
    · rw [upd_ne (at_ne e q exo_tup), upd_ne (ne_of_none q nd)]
      exact q
    · rw [upd_ne (at_ne e q exo_frz), upd_ne (ne_of_none q nd)]
      exact q
    · refine ⟨#[], ?_⟩
      rw [upd_ne (at_ne e q exo_tbl), upd_ne (ne_of_none q nd), q]
      simp
  refine h hp.objs.size _ nd xs.symm (I.un (t' := tk') un fun b o q => ?_)
  by_cases z : b = a
  · rw [z, upd_same] at q
    rw [z, ← Option.some.inj q]
    exact exo_ok own
  · rw [upd_ne z] at q
    by_cases z2 : b = hp.objs.size
    · rw [z2, upd_same] at q
      rw [z2, ← Option.some.inj q]
      exact exd_ok hn (relO_put (fs := []) ry fun _ => trivial)
    · rw [upd_ne z2] at q
      refine (I.hok b o q).stay (fun c v hc k => old c v ?_ k) (fun c hc => ?_) fun c xs hc => ?_
      · rcases hc with hc | hc
        · rw [hc]
          exact z
        · exact at_ne e hc exo_own
      · rw [upd_ne (at_ne e hc exo_own), upd_ne (ne_of_none hc nd)]
        exact hc
      · rw [upd_ne (at_ne e hc exo_tup), upd_ne (ne_of_none hc nd)]
        exact hc
end
end L2
namespace L2
open PySem PySem.Spec PyProof.Rows
/-- self.f = e in an error's own __init__ -/
def tEcS (K : PySem.W.Frag) (f : Str) (to te : TE) : TS := fun D σ H => te σ H fun y H1 => to σ H1 fun x H2 => ∃ a C : Addr, x = .ref a ∧ EcC K C ∧ PySem.W.findIn K (.ref C) f = some none ∧ H2 a = some (exo a C none) ∧
  ∀ dx, H2 dx = none → dx ≠ a → D.nx σ (upd (upd H2 dx (exd dx [(f, y)])) a (exo a C (some dx)))
section
variable {X : Cx} {o e : Expr} {es : List Expr} {to te : TE} {ta : TA} {f : Str} {p p' pos : Pos}
theorem ps_ec (ho : PE X o to) (he : PE X e te) (hs : swapsWith e (some (.Attribute o f p')) pos.line X.env = pure false := by rfl) : PS X (.Assign [.Attribute o f p'] e pos) (tEcS X.K f to te) := by
  constructor
  intro pins s σ H D I h
  refine plainObj_wpAny_Assign_Attribute (thn (he.run pins s σ H _ I h) fun v s1 q0 => ?_) hs
  obtain ⟨y, H1, I1, r1, q1⟩ := q0
  refine thn (ho.run pins s1 σ H1 _ I1 q1) fun u s2 q2 => ?_
  obtain ⟨x, H2, I2, r2, a, C, ex, T, hno, ea, q⟩ := q2
  subst ex
  obtain rfl : u = Value.ref a := r2
  exact ec_store T I2 ea hno r1 fun dx s3 n ne J => ⟨σ, _, J, q dx n ne⟩
def spEcInit (K : PySem.W.Frag) (C : Addr) (f : Str) : Sp := fun vs H Q _ => ∃ (a : Addr) (v : V), vs = [.ref a, v] ∧ EcC K C ∧ PySem.W.findIn K (.ref C) f = some none ∧ H a = some (exo a C none) ∧
  ∀ d, H d = none → d ≠ a → Q .non (upd (upd H d (exd d [(f, v)])) a (exo a C (some d)))
/-- the call C(u, ..) of such a class: its __init__ at the fresh error -/
theorem ec_call {CX : CXT} {C fI : Addr} {k : Nat} {fd : FuncData} {ps : List Str} {sp : Sp} {pins : List (Addr × Obj)} {s : Shared} {σ : St} {H : Hp} {us : List Value} {vs : List V} {E : XK} {Q : Addr → VK} {R : Value → Shared → Prop} (T : EcC X.K C)
    (iC : PySem.W.findIn X.K (.ref C) "__init__" = some (some (.ref fI))) (tI : PySem.W.typeIn X.K (.ref fI) = some (.type "function")) (F : FnOk X.prog X.w X.K X.mg X.base CX k fI fd ps sp) (hr : Room (k + 1) X.A) (hb : Binds X.K fd ps []) (hx : Passes CX X E)
    (I : Inv X pins σ H s) (r : Vals vs us) (hl : vs.length ≤ 1000) (q : ∀ a, H a = none → sp (.ref a :: vs) (upd H a (exo a C none)) (Q a) E)
    (fin : ∀ (a : Addr) (hp2 : Heap) (v : V) (H2 : Hp) (s2 : Shared), s.heap.objs.size ≤ a → (∀ b o, s.heap.get? b = some o → hp2.get? b = some o) → Inv X pins σ H2 s2 → Un (frs X.stack) [] (upd H a (exo a C none)) H2 hp2 s2.heap →
      HOk X.prog X.w H2 s2.heap → s2.os = s.os → AllBare s2.gens → Q a v H2 → v = .non ∧ R (.ref a) s2) : wpAny (model X.prog X.w) X.A (call (.ref C) us) R X.xe s := by
  obtain ⟨B, newId, initId, bmB, FB, SF, hin, hov⟩ := T.base
  obtain ⟨nm, N, qn, bs, bm, hdct, sn, sub, ab, col, dd, k0, k1, k2, k3, k5, hC, hT⟩ := PySem.W.excInit_of I.kIn hin
  obtain ⟨hp, g, dr, tk, os⟩ := s
  have fresh1 : H (hp.objs.size + 1) = none := I.hok.fresh (Nat.le_succ _)
  have q1 := q _ fresh1
  have kept : ∀ b o, hp.get? b = some o → ((hp.push (PySem.W.kdv_tup us)).push (PySem.HandSPX.excO C hp.objs.size)).get? b = some o := fun b o z => Heap.get?_push_of_some _ (Heap.get?_push_of_some _ z)
  have there : ((hp.push (PySem.W.kdv_tup us)).push (PySem.HandSPX.excO C hp.objs.size)).get? (hp.objs.size + 1) = some (PySem.HandSPX.excO C hp.objs.size) := by heap_get
  have J : Inv X pins σ (upd H (hp.objs.size + 1) (exo (hp.objs.size + 1) C none)) ⟨(hp.push (PySem.W.kdv_tup us)).push (PySem.HandSPX.excO C hp.objs.size), g, dr, tk, os⟩ :=
    I.laid (t' := tk) (a := hp.objs.size + 1) (h' := (hp.push (PySem.W.kdv_tup us)).push (PySem.HandSPX.excO C hp.objs.size)) kept (Nat.le_succ _) (exo_ok there)
  have r2 : Vals (V.ref (hp.objs.size + 1) :: vs) (Value.ref (hp.objs.size + 1) :: us) := .cons rfl r
  have len2 : (Value.ref (hp.objs.size + 1) :: us).length = ps.length := by
    rw [← r2.length]
    exact F.len _ _ _ _ q1
  have b := hb ⟨_, g, dr, tk, os⟩ (Value.ref (hp.objs.size + 1) :: us) J.kIn (by rw [List.append_nil]; exact len2)
  rw [List.append_nil] at b
  have room : us.length ≤ sizeLine := by
    rw [← r.length, sizeLine_eq]
    omega
  refine wpAny_call (PySem.HandSPX.call_own FB hT hC (PySem.W.looks_findIn I.kIn iC) (fun self => PySem.W.bind_fn I.kIn self tI) room (codeAny_mono (F.run _ X.stack _ _ ⟨_ :: us, []⟩ _ _ _ E (hr.make C us []) (J.env0.make C us []) b r2 q1) fun z s2 hz => ?_))
  cases z with
  | error er => exact hx pins σ _ _ er s2 J hz
  | ok fl =>
    cases fl with
    | ret u =>
      obtain ⟨v, H2, os2, bare2, un2, hok2, rv, q2⟩ := hz
      obtain ⟨hh, g2, d2, t2, o2⟩ := s2
      obtain rfl : o2 = os := os2
      have I2 : Inv X pins σ H2 ⟨hh, g2, d2, t2, o2⟩ := J.call (h' := hh) (g' := g2) (d' := d2) (t' := t2) (ch := []) un2 hok2 bare2 (fun b z => absurd z (by simp))
      obtain ⟨ev, z⟩ := fin (hp.objs.size + 1) _ v H2 ⟨hh, g2, d2, t2, o2⟩ (Nat.le_succ _) kept I2 un2 hok2 rfl bare2 q2
      subst ev
      exact ⟨rv, z⟩
    | next => exact False.elim hz
    | brk => exact False.elim hz
    | cont => exact False.elim hz
/-- C(e, ..) as a value -/
def tEcV (C : Addr) (sp : Sp) (E : XK) (ta : TA) : TE := fun σ H Q => ta σ H fun vs H1 => vs.length ≤ 1000 ∧ ∀ a, H1 a = none → sp (.ref a :: vs) (upd H1 a (exo a C none)) (fun v H2 => v = .non ∧ Q (.ref a) H2) E
variable {CX : CXT} {x : Str} {C fI : Addr} {k : Nat} {fd : FuncData} {ps : List Str} {sp : Sp} {E : XK}
theorem pe_ecv (T : EcC X.K C) (iC : PySem.W.findIn X.K (.ref C) "__init__" = some (some (.ref fI))) (tI : PySem.W.typeIn X.K (.ref fI) = some (.type "function")) (F : FnOk X.prog X.w X.K X.mg X.base CX k fI fd ps sp) (hr : Room (k + 1) X.A)
    (hb : Binds X.K fd ps []) (hx : Passes CX X E) (hg : Gl X x) (hm : X.mg x = some (.ref C)) (ha : PA X (e :: es) ta) (hdb : (x == ("__debug__" : Str)) = false := by decide)
    (he : starEach (e :: es) X.env = (false, eval e X.env) :: starEach es X.env := by rfl) (hpl : (backTo pos (starEach es X.env)).any (·.1) = false := by rfl) : PE X (.Call (.Name x p) (e :: es) [] pos) (tEcV C sp E ta) := by
  constructor
  intro pins s σ H Q I h
  refine wpAny_Call_Name_kw (ld_glob I hg hm ?_ hdb)
  refine PySem.W.callWith_K (h₀ := X.base) I.ok.mod.kin T.kC (thn (ha.run pos pins s σ H _ I h) fun us s1 q0 => ?_) he hpl
  obtain ⟨vs, H1, I1, r1, hl, q1⟩ := q0
  refine ⟨I1.kIn, ec_call (Q := fun a v H2 => v = .non ∧ Q (.ref a) H2) T iC tI F hr hb hx I1 r1 hl q1 fun a hp2 v H2 s2 _ _ I2 _ _ _ _ q2 => ⟨q2.1, ?_⟩⟩
  exact ⟨.ref a, H2, I2, rfl, q2.2⟩
/-- C(e, ..) to be raised -/
def tEcR (C : Addr) (sp : Sp) (ta : TA) : St → Hp → XK → Prop := fun σ H Q => ta σ H fun vs H1 => vs.length ≤ 1000 ∧ ∀ a, H1 a = none → sp (.ref a :: vs) (upd H1 a (exo a C none))
  (fun v H2 => v = .non ∧ ∃ (d : Addr) (fs : List (Str × V)), H2 a = some (exo a C (some d)) ∧ H2 d = some (exd d fs) ∧ H1 d = none ∧ Q (.ref C) (some d) (upd (del H2 a) d (.xd fs))) (fun _ _ _ => False)
theorem pmk_ec (T : EcC X.K C) (iC : PySem.W.findIn X.K (.ref C) "__init__" = some (some (.ref fI))) (tI : PySem.W.typeIn X.K (.ref fI) = some (.type "function")) (F : FnOk X.prog X.w X.K X.mg X.base CX k fI fd ps sp) (hr : Room (k + 1) X.A)
    (hb : Binds X.K fd ps []) (hx : Passes CX X (fun _ _ _ => False)) (hg : Gl X x) (hm : X.mg x = some (.ref C)) (ha : PA X (e :: es) ta) (hdb : (x == ("__debug__" : Str)) = false := by decide)
    (he : starEach (e :: es) X.env = (false, eval e X.env) :: starEach es X.env := by rfl) (hpl : (backTo pos (starEach es X.env)).any (·.1) = false := by rfl) : PMk X (.Call (.Name x p) (e :: es) [] pos) (tEcR C sp ta) := by
  intro pins s σ H Q I h
  refine wpAny_Call_Name_kw (ld_glob I hg hm ?_ hdb)
  refine PySem.W.callWith_K (h₀ := X.base) I.ok.mod.kin T.kC (thn (ha.run pos pins s σ H _ I h) fun us s1 q0 => ?_) he hpl
  obtain ⟨vs, H1, I1, r1, hl, q1⟩ := q0
  obtain ⟨hp, g, dr, tk, os⟩ := s1
  refine ⟨I1.kIn, ec_call (Q := fun a v H2 => v = .non ∧ ∃ (d : Addr) (fs : List (Str × V)), H2 a = some (exo a C (some d)) ∧ H2 d = some (exd d fs) ∧ H1 d = none ∧ Q (.ref C) (some d) (upd (del H2 a) d (.xd fs))) T iC tI F hr hb hx I1 r1 hl q1
    fun a hp2 v H2 s2 ha2 kept I2 un hok ho bare q2 => ⟨q2.1, ?_⟩⟩
  obtain ⟨_, d, fs, ea, ed, hd1, q3⟩ := q2
  obtain ⟨h2, g2, d2, t2, o2⟩ := s2
  exact mk_end (raises_own T.exC T.tyC) I1 ha2 kept un hok ho bare ea ed hd1 q3
/-- e.f, e an error that is held as a value -/
def tEcF (K : PySem.W.Frag) (te : TE) (f : Str) : TE := fun σ H Q => te σ H fun x H1 => ∃ (a C d : Addr) (fs : List (Str × V)) (v : V), x = .ref a ∧ XfC K C ∧ PySem.W.findIn K (.ref C) f = some none ∧ H1 a = some (exo a C (some d)) ∧ H1 d = some (exd d fs) ∧ fs.lookup f = some v ∧ Q v H1
theorem pe_ecf (he : PE X e te) (hb : attributeBase e f X.env (eval e X.env) = eval e X.env := by rfl) : PE X (.Attribute e f pos) (tEcF X.K te f) := by
  constructor
  intro pins s σ H Q I h
  refine attr_of hb (thn (he.run pins s σ H _ I h) fun u s1 q0 => ?_)
  obtain ⟨y, H1, I1, r1, a, C, d, fs, v, rfl, T, no, ea, ed, l, q⟩ := q0
  obtain rfl : u = Value.ref a := r1
  obtain ⟨t1, ho⟩ := exo_at I1.hok ea
  obtain ⟨mA, hns, rel⟩ := exd_at I1.hok ed
  obtain ⟨od, hod, hl⟩ := lookIn_ns hns
  have rr := rel f
  rw [l] at rr
  obtain ⟨w, hw, rw'⟩ := RelO.some_of (v := v) (o := mA f) rr
  have J : PySem.W.InstAt s1.heap a { cls := .ref C, dict := some d, data := .fields #[.ref t1, .none, .none, .none, .bool false, .none] } C (some od) := ⟨ho, rfl, rfl, hod⟩
  exact HandSPX.exc_get I1.kIn J T.ga T.gg T.exC (PySem.W.findObj_own T.hdC no rfl (by rw [hl, hw])) (handed_of rw') ⟨v, H1, I1.tok _, rw', q⟩
/-- isinstance(x, c), x an error that is held as a value -/
def rIsV (K : PySem.W.Frag) : List V → Hp → VK → Prop := fun xs H Q => ∃ (a C : Addr) (d : Option Addr) (c : V) (cv : Value) (b : Bool), xs = [.ref a, c] ∧ ClsV c cv ∧ ExcC K C ∧ H a = some (exo a C d) ∧ (∀ dx, d = some dx → ∃ fs, H dx = some (exd dx fs)) ∧ PySem.W.kitOne K (.ref C) cv = some b ∧ Q (.bl b) H
theorem call_isV : CallR X (.builtin "isinstance") (rIsV X.K) := by
  intro pins s σ H xs us Q I r h
  obtain ⟨a, C, d, c, cv, b, rfl, hc, T, ea, hd, ek, q⟩ := h
  obtain ⟨u1, u2, rfl, r1, r2⟩ := vals2 r
  cases r1
  obtain rfl := hc.eq r2
  obtain ⟨t1, ho⟩ := exo_at I.hok ea
  have hcl : (PySem.W.clsIn X.K C).isSome = true := by
    obtain ⟨cd, hc, _⟩ := PySem.W.any_some T.hd
    rw [hc] <;> rfl
  have J : ∃ od, PySem.W.InstAt s.heap a { cls := .ref C, dict := d, data := .fields #[.ref t1, .none, .none, .none, .bool false, .none] } C od := by
    cases d with
    | none => exact ⟨none, ho, rfl, rfl, trivial⟩
    | some dx =>
      obtain ⟨fs, hx⟩ := hd dx rfl
      obtain ⟨mA, hns, _⟩ := exd_at I.hok hx
      obtain ⟨od, hod, _⟩ := lookIn_ns hns
      exact ⟨some od, ho, rfl, rfl, hod⟩
  obtain ⟨od, J⟩ := J
  exact PySem.W.kia_one (PySem.W.kitx_exc hcl T.hg T.hk T.hs T.ha T.hn T.ht T.hm) I.kIn J ek (fun z => nomatch z) fun tk => ⟨.bl b, H, I.kept (t' := tk) fun _ _ z => z, rfl, q⟩
end
end L2

set_option Elab.async false
set_option linter.all false
set_option maxRecDepth 100000
set_option maxHeartbeats 4000000
/-! An own error made by its field's name. -/
namespace Km
open PySem PySem.W PySem.Calls PySem.HandSPX
section
variable {prog : Program} {w : World} {A : Around} {E : Value → Shared → Prop} {R : Result → Shared → Prop} {h : Heap} {g : Array GenState} {d : Drawn} {t : Nat} {os : OsState}
variable {nm q : Str} {C N : Addr} {bs bm bmB : List Value} {hdct : Bool} {sn : List Str} {sub : List Value} {ab : Bool} {col : Option Bool} {dd : Option Addr} {k0 k1 k2 k3 k5 : Option Value} {B newId initId : String} {kw : List (Str × Value)}
theorem kw_check {M : Model} (F : ExcBaseFacts B newId initId bmB) (hT : ∀ X : String, bm.contains (.type X) = bmB.contains (.type X)) {Q : Unit → Shared → Prop}
    (hC : h.get? C = some (excClassObj nm q C N bs bm hdct sn sub ab col dd k0 k1 k2 k3 k5 newId)) (hq : Q () ⟨h, g, d, t, os⟩) :
    wpAny M A (checkBuiltinCall newId ⟨[.ref C], kw⟩) Q E ⟨h, g, d, t, os⟩ := by
  have inB : (Value.ref C :: bm).contains (.type B) = true := by rw [List.contains_cons, hT, F.hasB, Bool.or_true]
  have star := F.noStar
  simp only [checkBuiltinCall, F.newKind, F.newSplit, F.newRow]
  repeat (first
    | refine wpAny_loadPart_at hC ?_
    | (refine wpAny_isSubtype_exc hC ?_; rw [inB])
    | refine wpAny_staticBase_exc hC ?_
    | refine wpAny_madeBy_exc hC ?_
    | simp only [bne_self_eq_false, Bool.false_eq_true, if_false]
    | wp_step)
  exact hq
theorem kw_new (F : ExcBaseFacts B newId initId bmB) (hT : ∀ X : String, bm.contains (.type X) = bmB.contains (.type X))
    (hC : h.get? C = some (excClassObj nm q C N bs bm hdct sn sub ab col dd k0 k1 k2 k3 k5 newId))
    (hq : R (.ok (.ret (.ref (h.objs.size + 1)))) ⟨(h.push (kdv_tup [])).push (excO C h.objs.size), g, d, t, os⟩) :
    codeAny (model prog w) A (.builtin newId ⟨[.ref C], kw⟩) R ⟨h, g, d, t, os⟩ := by
  have ends := F.ends
  have inB : (Value.ref C :: bm).contains (.type B) = true := by rw [List.contains_cons, hT, F.hasB, Bool.or_true]
  have inA : (Value.ref C :: bm).contains (.type "AttributeError") = false := by rw [List.contains_cons, hT, F.noAttr]; rfl
  have inN : (Value.ref C :: bm).contains (.type "NameError") = false := by rw [List.contains_cons, hT, F.noName]; rfl
  refine codeAny_builtinAt F.entry ?_
  unfold Builtin.«BaseException.__new__»
  refine PySem.wpAt_bind ?_
  refine PySem.wpAt_bind (PySem.wpAt_stack fun p below => PySem.wpAt_of_wpAny ?_)
  wp_walk
  refine PySem.wpAt_of_wpAny ?_
  rw [F.owner]
  repeat (first
    | with_reducible refine wpAny_madeHere_exc F.canon hC ?_
    | with_reducible refine wpAny_loadPart_at hC ?_
    | (with_reducible refine wpAny_isSubtype_exc hC ?_; first | rw [inB] | rw [inA] | rw [inN])
    | wp_step)
  show R _ _
  rw [Heap.size_push]
  exact hq
theorem kw_type (F : ExcBaseFacts B newId initId bmB) (hT : ∀ X : String, bm.contains (.type X) = bmB.contains (.type X)) {fI : Addr} {Q : PySem.Fin → Shared → Prop}
    (hC : h.get? C = some (excClassObj nm q C N bs bm hdct sn sub ab col dd k0 k1 k2 k3 k5 newId))
    (hi : W.Looks (model prog w) h (typeLookup (.ref C) "__init__") (some (.ref fI))) (hb : ∀ self, W.Looks (model prog w) h (bindSpecial (.ref fI) self) (.ref fI, [self]))
    (hq : codeAny (model prog w) A (.call (.ref fI) ⟨[.ref (h.objs.size + 1)], kw⟩)
      (fun r s2 => match r with
        | .ok (.ret v) => v = .none ∧ Q (.done (.ret (.ref (h.objs.size + 1)))) s2
        | .ok _ => False
        | .error e => E e s2) ⟨(h.push (kdv_tup [])).push (excO C h.objs.size), g, d, t, os⟩) :
    wpAny (model prog w) A (Builtin.«type.__call__» ⟨[.ref C], kw⟩) Q E ⟨h, g, d, t, os⟩ := by
  repeat (first
    | with_reducible refine wpAny_loadPart_at hC ?_
    | with_reducible refine wpAny_madeBy_exc hC ?_
    | wp_step)
  refine codeAny_call_builtin_code (Code.quiet_builtin _ F.quiet) (kw_check F hT hC ?_)
  refine kw_new F hT hC ?_
  show wpAny _ _ _ _ _ _
  have kept : ∀ b o, h.get? b = some o → ((h.push (kdv_tup [])).push (excO C h.objs.size)).get? b = some o := fun b o z => Heap.get?_push_of_some _ (Heap.get?_push_of_some _ z)
  have hC1 := kept _ _ hC
  have there : ((h.push (kdv_tup [])).push (excO C h.objs.size)).get? (h.objs.size + 1) = some (excO C h.objs.size) := by heap_get
  have inC : (Value.ref C :: bm).contains (.ref C) = true := by simp
  have i1 := hi.keeps kept
  have b1 := (hb (.ref (h.objs.size + 1))).keeps kept
  unfold isInstance
  repeat (first
    | with_reducible refine wpAny_loadPart_at there ?_
    | (with_reducible refine wpAny_isSubtype_exc hC1 ?_; rw [inC])
    | wp_step)
  refine i1.at ?_
  refine wpAny_holding (wpAny_bind (b1.at ?_))
  refine wpAny_bind (wpAny_call (codeAny_mono hq fun r s2 z => ?_))
  cases r with
  | error e => exact z
  | ok fl =>
    cases fl with
    | ret v =>
      obtain ⟨rfl, z⟩ := z
      first
        | exact wpAny_pure (wpAny_pure z)
        | (wp_walk; exact z)
    | _ => exact z.elim
theorem kw_call (F : ExcBaseFacts B newId initId bmB) (hT : ∀ X : String, bm.contains (.type X) = bmB.contains (.type X)) {fI : Addr}
    (hC : h.get? C = some (excClassObj nm q C N bs bm hdct sn sub ab col dd k0 k1 k2 k3 k5 newId))
    (hi : W.Looks (model prog w) h (typeLookup (.ref C) "__init__") (some (.ref fI))) (hb : ∀ self, W.Looks (model prog w) h (bindSpecial (.ref fI) self) (.ref fI, [self]))
    (hq : codeAny (model prog w) (A.under (.builtin "type.__call__" ⟨[.ref C], kw⟩)) (.call (.ref fI) ⟨[.ref (h.objs.size + 1)], kw⟩) (W.InitBack (h.objs.size + 1) R)
      ⟨(h.push (kdv_tup [])).push (excO C h.objs.size), g, d, t, os⟩) : codeAny (model prog w) A (.call (.ref C) ⟨[], kw⟩) R ⟨h, g, d, t, os⟩ := by
  have f1 := tc_lookup
  have f2 := tc_bind (.ref C)
  have ty : (⟨h, g, d, t, os⟩ : Shared).TypeIs (.ref C) "type" := ⟨_, hC, rfl⟩
  refine codeAny_of_tree ?_
  show wpAny _ _ (callAny (.ref C) _) _ _ _
  repeat (any_goals (first
    | assumption
    | with_reducible refine wpAny_loadPart_at hC ?_
    | wp_step))
  refine ⟨rfl, ?_⟩
  refine codeAny_call_builtin_at (Code.quiet_builtin _ (by decide +kernel)) entry_typeCall (wpAny_check_type_call_sub hC (kw_type F hT hC hi hb (codeAny_mono hq fun r s2 z => ?_)))
  cases r with
  | error e => exact z
  | ok fl =>
    cases fl with
    | ret v => exact z
    | _ => exact z
end
end Km


set_option Elab.async false
set_option linter.all false
set_option maxRecDepth 100000
set_option maxHeartbeats 4000000
/-! Errors made by their field's name; errors without an own __init__; isinstance of either. -/
namespace L2
open PySem PySem.Spec PyProof.Rows
section
variable {X : Cx} {CX : CXT} {x f : Str} {C fI : Addr} {k : Nat} {fd : FuncData} {ps : List Str} {sp : Sp} {E : XK} {e : Expr} {te : TE} {p pos kpos : Pos}
/-- C(f=e), of one parameter beside self -/
def tEcK (C : Addr) (sp : Sp) (E : XK) (tk : TA) : TE := fun σ H Q => tk σ H fun zs H1 => ∃ v, zs = [v] ∧ ∀ a, H1 a = none → sp [.ref a, v] (upd H1 a (exo a C none)) (fun w H2 => w = .non ∧ Q (.ref a) H2) E
theorem pe_eck (T : EcC X.K C) (iC : PySem.W.findIn X.K (.ref C) "__init__" = some (some (.ref fI))) (tI : PySem.W.typeIn X.K (.ref fI) = some (.type "function")) (F : FnOk X.prog X.w X.K X.mg X.base CX k fI fd ps sp) (hr : Room (k + 1) X.A)
    (hb : ∀ (s : Shared) (a u : Value), BindsTo s fd ⟨[a], [(f, u)]⟩ (ps.zip [a, u])) (hx : Passes CX X E) (hg : Gl X x) (hm : X.mg x = some (.ref C)) (he : PE X e te) (hdb : (x == ("__debug__" : Str)) = false := by decide)
    (hall : (backToKw pos (keywordEach [⟨some f, e, kpos⟩] X.env)).all (·.1.isSome) = true := by rfl) (hks : (backToKw pos (keywordEach [⟨some f, e, kpos⟩] X.env)).filterMap (·.1) = [f] := by rfl)
    (hpl : ((backTo pos (starEach [] X.env)).any (·.1) || (backToKw pos (keywordEach [⟨some f, e, kpos⟩] X.env)).any (·.1.isNone)) = false := by rfl) : PE X (.Call (.Name x p) [] [⟨some f, e, kpos⟩] pos) (tEcK C sp E (tCons te tNil)) := by
  constructor
  intro pins s σ H Q I h
  refine wpAny_Call_Name_kw (ld_glob I hg hm ?_ hdb)
  refine PySem.W.callWith_KW0 (h₀ := X.base) I.ok.mod.kin T.kC hall ?_ hpl
  refine thn ((pk_cons (nm := some f) (kpos := kpos) he pk_nil).run pos pins s σ H _ I h) fun ws s1 q0 => ?_
  obtain ⟨zs, H1, I1, r1, v, rfl, q1⟩ := q0
  obtain ⟨u, rfl, ru⟩ := vals1 r1
  rw [hks]
  refine ⟨I1.kIn, ?_⟩
  show wpAny _ _ (call (.ref C) [] [(f, u)]) _ _ _
  obtain ⟨B, newId, initId, bmB, FB, SF, hin, hov⟩ := T.base
  obtain ⟨nm, N, qn, bs, bm, hdct, sn, sub, ab, col, dd, k0, k1, k2, k3, k5, hC, hT⟩ := PySem.W.excInit_of I1.kIn hin
  obtain ⟨hp, g, dr, tk, os⟩ := s1
  have n1 : H1 (hp.objs.size + 1) = none := I1.hok.fresh (Nat.le_succ _)
  have q2 := q1 _ n1
  have kept : ∀ b o, hp.get? b = some o → ((hp.push (PySem.W.kdv_tup [])).push (PySem.HandSPX.excO C hp.objs.size)).get? b = some o := fun b o z => Heap.get?_push_of_some _ (Heap.get?_push_of_some _ z)
  have there : ((hp.push (PySem.W.kdv_tup [])).push (PySem.HandSPX.excO C hp.objs.size)).get? (hp.objs.size + 1) = some (PySem.HandSPX.excO C hp.objs.size) := by heap_get
  have J : Inv X pins σ (upd H1 (hp.objs.size + 1) (exo (hp.objs.size + 1) C none)) ⟨(hp.push (PySem.W.kdv_tup [])).push (PySem.HandSPX.excO C hp.objs.size), g, dr, tk, os⟩ :=
    I1.laid (t' := tk) (a := hp.objs.size + 1) (h' := (hp.push (PySem.W.kdv_tup [])).push (PySem.HandSPX.excO C hp.objs.size)) kept (Nat.le_succ _) (exo_ok there)
  have r2 : Vals [V.ref (hp.objs.size + 1), v] [Value.ref (hp.objs.size + 1), u] := .cons rfl (.cons ru .nil)
  refine wpAny_call (Km.kw_call FB hT hC (PySem.W.looks_findIn I1.kIn iC) (fun self => PySem.W.bind_fn I1.kIn self tI) (codeAny_mono (F.run _ X.stack _ _ ⟨[.ref (hp.objs.size + 1)], [(f, u)]⟩ [.ref (hp.objs.size + 1), u] _ _ E (hr.make C [] [(f, u)]) (J.env0.make C [] [(f, u)]) (hb _ _ _) r2 q2) fun z s2 hz => ?_))
  cases z with
  | error er => exact hx pins σ _ _ er s2 J hz
  | ok fl =>
    cases fl with
    | ret w =>
      obtain ⟨v2, H2, os2, bare2, un2, hok2, rv, e2, q3⟩ := hz
      obtain ⟨hh, g2, d2, t2, o2⟩ := s2
      obtain rfl : o2 = os := os2
      subst e2
      exact ⟨rv, .ref (hp.objs.size + 1), H2, J.call (h' := hh) (g' := g2) (d' := d2) (t' := t2) (ch := []) un2 hok2 bare2 (fun b z => absurd z (by simp)), rfl, q3⟩
    | next => exact False.elim hz
    | brk => exact False.elim hz
    | cont => exact False.elim hz
/-- an error, made by an own __init__ or without one, not raised -/
def Held (H : Hp) (a C : Addr) : Prop := (∃ d : Option Addr, H a = some (exo a C d) ∧ ∀ dx, d = some dx → ∃ fs, H dx = some (exd dx fs)) ∨ H a = some (ExO (.ref C) a)
/-- isinstance(x, c), x an error that is held -/
def rIsH (K : PySem.W.Frag) : List V → Hp → VK → Prop := fun xs H Q => ∃ (a C : Addr) (c : V) (cv : Value) (b : Bool), xs = [.ref a, c] ∧ ClsV c cv ∧ ExcC K C ∧ Held H a C ∧ PySem.W.kitOne K (.ref C) cv = some b ∧ Q (.bl b) H
theorem call_isH : CallR X (.builtin "isinstance") (rIsH X.K) := by
  intro pins s σ H xs us Q I r h
  obtain ⟨a, C, c, cv, b, rfl, hc, T, hh, ek, q⟩ := h
  rcases hh with ⟨d, ea, hd⟩ | ea
  · exact call_isV pins s σ H _ us Q I r ⟨a, C, d, c, cv, b, rfl, hc, T, ea, hd, ek, q⟩
  obtain ⟨u1, u2, rfl, r1, r2⟩ := vals2 r
  cases r1
  obtain rfl := hc.eq r2
  obtain ⟨⟨oe, fs, ho, hz, hdat, _, _, _⟩, _, _⟩ := I.hok a _ ea
  have hcl : (PySem.W.clsIn X.K C).isSome = true := by
    obtain ⟨cd, hc, _⟩ := PySem.W.any_some T.hd
    rw [hc] <;> rfl
  have J : PySem.W.InstAt s.heap a oe C none := ⟨ho, hz.1, by rw [PySem.W.notCls, hdat], by rw [hz.2]; trivial⟩
  exact PySem.W.kia_one (PySem.W.kitx_exc hcl T.hg T.hk T.hs T.ha T.hn T.ht T.hm) I.kIn J ek (fun z => nomatch z) fun tk => ⟨.bl b, H, I.kept (t' := tk) fun _ _ z => z, rfl, q⟩
/-- X(), an own error class without own __init__ -/
theorem pe_exc0 {bmB : List Value} {B newId initId : String} (F : ExcBaseFacts B newId initId bmB) (q : PySem.W.excIn X.K C bmB newId = true) (gC : X.mg x = some (.ref C)) (kC : PySem.W.keepIn X.K (.ref C) = true) (hg : Gl X x) (hdb : (x == ("__debug__" : Str)) = false := by decide) :
    PE X (.Call (.Name x p) [] [] pos) (fun σ H Q => ∀ a, H a = none → Q (.ref a) (upd H a (ExO (.ref C) a))) := by
  constructor
  intro pins s σ H Q I h
  refine wpAny_Call_Name_kw (ld_glob I hg gC ?_ hdb)
  refine PySem.W.callWith_K0 I.kIn kC ?_
  obtain ⟨bm, N, nm, qn, bs, hdct, sn, sub, ab, col, dd, k0, k1, k2, k3, k5, mN, hC, hN, hni, T⟩ := exc_obj I.kIn q
  refine wpAny_call_exc_subT (rest := []) F T hC hN hni (fun h2 a hm => ?_) (Nat.zero_le _)
  obtain ⟨t, ht, _⟩ := hm.there
  exact ⟨.ref a, upd H a (ExO (.ref C) a), I.laidN hm.keeps hm.new (I.hok.gone hm.new) (exO_ok ht ⟨rfl, rfl⟩ rfl rfl rfl (show 4 < 6 by decide)), rfl, h a (I.hok.gone hm.new)⟩
end
end L2

set_option Elab.async false
set_option linter.all false
set_option maxRecDepth 100000
set_option maxHeartbeats 4000000
/-! An error class with one field, all that is asked of it; comprehensions with new objects as items. -/
namespace L2
open PySem PySem.Spec PyProof.Rows
structure Ek (P : Program) (w : World) (K : PySem.W.Frag) (mg : Str → Option Value) (base : Heap) (name f : Str) (C : Addr) : Prop where
  g : mg name = some (.ref C)
  ec : EcC K C
  xf : XfC K C
  xc : ExcC K C
  no : PySem.W.findIn K (.ref C) f = some none
  init : ∃ (fI : Addr) (fd : FuncData), PySem.W.findIn K (.ref C) "__init__" = some (some (.ref fI)) ∧ PySem.W.typeIn K (.ref fI) = some (.type "function") ∧ FnOk P w K mg base CX0 1 fI fd ["self", f] (spEcInit K C f) ∧
    Binds K fd ["self", f] [] ∧ ∀ (s : Shared) (a u : Value), BindsTo s fd ⟨[a], [(f, u)]⟩ ((["self", f] : List Str).zip [a, u])
/-- e is a held error of the class at C whose field f is v -/
def Er1 (H : Hp) (C : Addr) (f : Str) (v e : V) : Prop := ∃ a d, e = .ref a ∧ H a = some (exo a C (some d)) ∧ H d = some (exd d [(f, v)])
theorem Er1.same {H H2 : Hp} {C : Addr} {f : Str} {v e : V} (r : Er1 H C f v e) (s : Same H H2) : Er1 H2 C f v e := by
  obtain ⟨a, d, e1, h1, h2⟩ := r
  exact ⟨a, d, e1, s _ _ h1, s _ _ h2⟩
def tMade (C : Addr) (f : Str) (i : Nat) : TE := fun σ H Q => ∃ v, σ[i]? = some (some v) ∧ ∀ e H2, Same H H2 → Er1 H2 C f v e → Q e H2
section
variable {X : Cx} {name f : Str} {C : Addr} {e : Expr} {i : Nat} {p pos kpos : Pos}
theorem made_of {K : PySem.W.Frag} {H : Hp} {v : V} {Q : VK} {E : XK} (T : EcC K C) (no : PySem.W.findIn K (.ref C) f = some none) (q : ∀ e H2, Same H H2 → Er1 H2 C f v e → Q e H2) {a : Addr} (na : H a = none) :
    spEcInit K C f [.ref a, v] (upd H a (exo a C none)) (fun w H2 => w = .non ∧ Q (.ref a) H2) E := by
  refine ⟨a, v, rfl, T, no, upd_same, fun d nd ne => ⟨rfl, q _ _ (fun b o z => ?_) ⟨a, d, rfl, upd_same, by rw [upd_ne ne, upd_same]⟩⟩⟩
  have ba := ne_of_none z na
  have nd1 : H d = none := by
    rw [upd_ne ne] at nd
    exact nd
  rw [upd_ne ba, upd_ne (ne_of_none z nd1), upd_ne ba]
  exact z
theorem pe_mkP (E : Ek X.prog X.w X.K X.mg X.base name f C) (hr : Room 2 X.A) (hg : Gl X name) (he : PE X e (tVar i)) (hdb : (name == ("__debug__" : Str)) = false := by decide)
    (hs : starEach [e] X.env = (false, eval e X.env) :: starEach [] X.env := by rfl) : PE X (.Call (.Name name p) [e] [] pos) (tMade C f i) := by
  obtain ⟨fI, fd, ii, tt, F, b, _⟩ := E.init
  constructor
  intro pins s σ H Q I h
  obtain ⟨v, hv, q⟩ := h
  exact (pe_ecv (E := fun _ _ _ => False) E.ec ii tt F hr b pass0 hg E.g (pa_cons he pa_nil (hs := hs)) hdb hs rfl).run pins s σ H Q I ⟨v, hv, (by show 1 ≤ 1000; decide), fun a na => made_of E.ec E.no q na⟩
theorem pe_mkN (E : Ek X.prog X.w X.K X.mg X.base name f C) (hr : Room 2 X.A) (hg : Gl X name) (he : PE X e (tVar i)) (hdb : (name == ("__debug__" : Str)) = false := by decide)
    (hall : (backToKw pos (keywordEach [⟨some f, e, kpos⟩] X.env)).all (·.1.isSome) = true := by rfl) (hks : (backToKw pos (keywordEach [⟨some f, e, kpos⟩] X.env)).filterMap (·.1) = [f] := by rfl)
    (hpl : ((backTo pos (starEach [] X.env)).any (·.1) || (backToKw pos (keywordEach [⟨some f, e, kpos⟩] X.env)).any (·.1.isNone)) = false := by rfl) : PE X (.Call (.Name name p) [] [⟨some f, e, kpos⟩] pos) (tMade C f i) := by
  obtain ⟨fI, fd, ii, tt, F, _, b⟩ := E.init
  constructor
  intro pins s σ H Q I h
  obtain ⟨v, hv, q⟩ := h
  exact (pe_eck (E := fun _ _ _ => False) E.ec ii tt F hr b pass0 hg E.g he hdb hall hks hpl).run pins s σ H Q I ⟨v, hv, v, rfl, fun a na => made_of E.ec E.no q na⟩
end
section
variable {J : It} {n : Nat} {G : Hp → Prop}
/-- a comprehension without a test whose items are known by what is true of them, apart from the list that grows -/
theorem lc_rel {xs : List V} (w : Walk J n G (YAt xs)) (hsz : n < sizeLine) {slot : Nat} {te : TE} {vs : List Nat} {σ : St} {H1 : Hp} {D : Addr} {Qd : Hp → Prop} (R : Nat → V → Hp → Prop) (hR : ∀ i y H H', R i y H → But D H H' → R i y H') (hD : H1 D = none)
    (hG : ∀ H, Same H1 H → G H) (hw : ∀ x, wipe ((wipe σ vs).set slot (some x)) vs = wipe σ vs)
    (hs : ∀ (i : Nat) (x : V) (H : Hp) (Q : VK), xs[i]? = some x → Same H1 H → (∃ o, H D = some o) → (∀ y H4, Same H H4 → R i y H4 → Q y H4) → te ((wipe σ vs).set slot (some x)) H Q)
    (hd : ∀ (H : Hp) (ys : List V), Same H1 H → H D = some (.lst ys) → ys.length = n → (∀ (i : Nat) (y : V), ys[i]? = some y → R i y H) → Qd H) :
    ∃ W : Nat → Nat → Hp → Prop, (∃ m, W 0 m (upd H1 D (.lst []))) ∧ ∀ i m H, W i m H →
      (J.stop i H ∧ Qd H) ∨ (J.go i H ∧ ∃ Nx : Hp → Prop, (∀ H', Nx H' → ∃ m', m' < m ∧ W (i + 1) m' H') ∧ ∀ x H', J.yld i H x H' → gName slot x (wipe σ vs) H' fun σ2 H2 => wipe σ2 vs = wipe σ vs ∧ tYes σ2 H2 fun b H3 =>
        if b = true then te σ2 H3 fun y H4 => ∃ acc, H4 D = some (.lst acc) ∧ acc.length < sizeLine ∧ Nx (upd H4 D (.lst (acc ++ [y]))) else Nx H3) := by
  refine lc_it w (fun i H => Same H1 H ∧ ∃ acc : List V, H D = some (.lst acc) ∧ acc.length = i ∧ ∀ (j : Nat) (y : V), acc[j]? = some y → R j y H) ⟨same_new hD, [], upd_same, rfl, fun j y z => by simp at z⟩ (fun i H _ h => hG H h.1) (fun i x H H' hi h y => ?_) (fun H h => by
    obtain ⟨s, acc, h1, h2, h3⟩ := h
    exact hd H acc s h1 h2 h3)
  obtain ⟨s1, acc, hl, len, ha⟩ := h
  obtain ⟨rfl, hx⟩ := y
  refine ⟨hw x, ?_⟩
  unfold tYes
  dsimp only
  rw [if_pos rfl]
  refine hs i x _ _ hx s1 ⟨_, hl⟩ fun y H4 s4 hy => ⟨acc, s4 _ _ hl, by omega, fun b o e => ?_, acc ++ [y], upd_same, by rw [List.length_append, len]; rfl, fun j z hz => ?_⟩
  · rw [upd_ne (ne_of_none e hD)]
    exact s4 _ _ (s1 _ _ e)
  · rcases Nat.lt_or_ge j acc.length with q | q
    · rw [List.getElem?_append_left q] at hz
      exact hR _ _ _ _ (hR _ _ _ _ (ha j z hz) (But.of_same s4)) But.upd
    · rw [List.getElem?_append_right q] at hz
      have ej : j - acc.length = 0 := by
        rcases Nat.eq_zero_or_pos (j - acc.length) with z | z
        · exact z
        · rw [List.getElem?_eq_none (by rw [List.length_singleton]; exact z)] at hz
          cases hz
      rw [ej] at hz
      obtain rfl : y = z := by simpa using hz
      obtain rfl : j = i := by omega
      exact hR _ _ _ _ hy But.upd
theorem dp_list {K : PySem.W.Frag} {H : Hp} : ∀ {ys : List V} {ds : List PyData}, ys.length = ds.length → (∀ (i : Nat) (y : V) (d : PyData), ys[i]? = some y → ds[i]? = some d → Dp K H y d) → DpAll K H ys ds
  | [], [], _, _ => .nil
  | y :: ys, d :: ds, l, h => .cons (h 0 y d rfl rfl) (dp_list (Nat.succ.inj l) fun i z e a b => h (i + 1) z e (by simpa using a) (by simpa using b))
  | [], _ :: _, l, _ => by cases l
  | _ :: _, [], l, _ => by cases l
theorem dp_bls {K : PySem.W.Frag} {H : Hp} : ∀ bs : List Bool, DpAll K H (bs.map V.bl) (bs.map PyData.bool)
  | [] => .nil
  | b :: bs => .cons (.bl b) (dp_bls bs)
end
end L2

set_option Elab.async false
set_option linter.all false
set_option maxRecDepth 100000
set_option maxHeartbeats 4000000
/-! Promises of defs for callers beneath which no guarded built-in runs: what repr of containers asks. -/
namespace L2
open PySem PySem.Spec PyProof.Rows
structure FnG (P : Program) (w : World) (K : PySem.W.Frag) (mg : Str → Option Value) (base : Heap) (CX : CXT) (k : Nat) (f : Addr) (fd : FuncData) (ps : List Str) (sp : Sp) : Prop where
  len : ∀ vs H Q E, sp vs H Q E → vs.length = ps.length
  go : ∀ (A : Around) (outer : List Env) (s : Shared) (H : Hp) (args : Args) (us : List Value) (vs : List V) (Q : VK) (E : XK), A.guards = some [] → Room k A → Env0 P w K mg base A outer s H →
    BindsTo s fd args (ps.zip us) → Vals vs us → sp vs H Q E → codeAny (model P w) A (.call (.ref f) args) (CR CX outer P w H s Q E) s
section
variable {P : Program} {w : World} {K : PySem.W.Frag} {mg : Str → Option Value} {base : Heap} {CX : CXT} {k : Nat} {f : Addr} {fd : FuncData} {ps : List Str} {sp : Sp}
theorem FnOk.g (F : FnOk P w K mg base CX k f fd ps sp) : FnG P w K mg base CX k f fd ps sp :=
  { len := F.len, go := fun A outer s H args us vs Q E _ => F.run A outer s H args us vs Q E }
theorem FnG.up {j : Nat} (F : FnG P w K mg base CX j f fd ps sp) (h : j ≤ k) : FnG P w K mg base CX k f fd ps sp :=
  { len := F.len, go := fun A outer s H args us vs Q E hg hr => F.go A outer s H args us vs Q E hg (hr.mono h) }
theorem Fun.okG {x qual : Str} {st : Stmt} {N : List Str} (F : Fun K x qual st f fd) (S : FnScope N ps (defScope st)) (len : ∀ vs H Q E, sp vs H Q E → vs.length = ps.length)
    (body : ∀ (cdv : Value) (A : Around) (outer : List Env) (s : Shared) (H : Hp) (vs : List V) (Q : VK) (E : XK), (A.deeper (envOfC qual (defScope st) s.heap.objs.size f cdv)).guards = some [] →
      Room k (A.deeper (envOfC qual (defScope st) s.heap.objs.size f cdv)) → sp vs H Q E →
      ∃ t, PSs (cxOf CX0 P w K mg base N qual (defScope st) f cdv A outer s H E).nox (defBody st) t ∧ t { nx := fun _ H' => Q .non H', rt := Q } (start N vs) H) : FnG P w K mg base CX0 (k + 1) f fd ps sp := by
  obtain ⟨oc, od, kV, doc, pm, an, cdv, ct, osl, rfl, lk, hcd⟩ := F.ex
  refine { len := len, go := fun A outer s H args us vs Q E hg hr e0 hb r hsp => ?_ }
  have up := fun b o e => (e0.bs b o e).1
  refine Att.call_fn (e0.mod.kin.keeps up) (e0.mod.nolimit.keeps up) lk hcd hr.depth hb ?_ (fun s1 ic => ?_) S.co S.gen S.kind
  · refine List.all_eq_true.mpr fun y hy => ?_
    obtain ⟨n, v⟩ := y
    rcases S.par n (List.of_mem_zip hy).1 with q | q <;> (dsimp only; rw [q]; rfl)
  · obtain ⟨t, ht, hq⟩ := body cdv A outer s H vs Q E hg (hr.deeper _) hsp
    have I := inv_start (CX := CX0) (E := E) S hr.hd e0 (len _ _ _ _ hsp) r ic
    refine wpAny_mono (ht.nox.run [] s1 _ H _ I hq) (fun fl s2 h => ?_) fun _ _ h => h
    cases fl with
    | ret u =>
      obtain ⟨v, _, H2, J, rv, h⟩ := h
      exact ⟨v, H2, J.os, J.bare, J.base, J.hok, rv, h⟩
    | next =>
      obtain ⟨_, H2, J, h⟩ := h
      exact ⟨.non, H2, J.os, J.bare, J.base, J.hok, rfl, h⟩
    | brk => obtain ⟨_, _, _, h⟩ := h; exact h.elim
    | cont => obtain ⟨_, _, _, h⟩ := h; exact h.elim
end
/-- the abstract heap of the script alone -/
theorem script_heap {P : Program} {w : World} {K : PySem.W.Frag} {h : Heap} {a : Addr} {vs : List Value} {ns : List Int} (X : K.In h) (ha : h.get? a = some { cls := .type "list", data := .seq vs.toArray }) (hi : IntsAre vs ns) (hl : ns.length ≤ sizeLine) :
    ∃ H : Hp, SqL K H a (ns.map V.int) ∧ HOk P w H h ∧ ∀ b u, H b = some u → b = a ∧ K.lookup a = none ∧ ∃ o xs, u = .frz o (.lst xs) := by
  have rv := vals_ints hi
  by_cases n : K.lookup a = none
  · refine ⟨fun b => if b = a then some (.frz { cls := .type "list", data := .seq vs.toArray } (.lst (ns.map V.int))) else none, .inl (.inr ⟨_, if_pos rfl⟩), fun b u z => ?_, fun b u z => ?_⟩
    all_goals
      dsimp only at z
      split at z
      case isFalse => cases z
      rename_i eb
      cases z
    · subst eb
      exact ⟨ha, by rw [List.length_map]; exact hl, vs, 0, rv, ha⟩
    · exact ⟨eb, n, _, _, rfl⟩
  · obtain ⟨o, ho⟩ := Option.ne_none_iff_exists'.mp n
    have e := (X a o ho).symm.trans ha
    cases e
    exact ⟨fun _ => none, .inr ⟨_, vs.toArray, _, ho, rfl, rfl, rfl, by rw [List.size_toArray, hi.length]; exact hl, rv⟩, fun _ _ z => (nomatch z), fun _ _ z => (nomatch z)⟩
/-- the law's def, called on the script -/
theorem law_callG {P : Program} {w : World} {K : PySem.W.Frag} {mg mb : Str → Option Value} {k : Nat} {fa a : Addr} {fd : FuncData} {x : Str} {sp : Sp} {s1 : Shared} {vs : List Value} {ns : List Int} (KX : K.In s1.heap) (hns : s1.heap.Ns mainGlobals mg)
    (hb : s1.heap.Ns builtinsNs mb ∧ ∀ y : Str, y ≠ "__name__" → mb y = bootBuiltins y) (hlim : s1.heap.NoLimit) (hg : s1.gens = #[]) (ha : s1.heap.get? a = some { cls := .type "list", data := .seq vs.toArray }) (hi : IntsAre vs ns) (hl : ns.length ≤ sizeLine)
    (hr : Room k callerA) (F : ∀ b0 : Heap, K.In b0 → b0.Ns mainGlobals mg → FnG P w K mg b0 CX0 k fa fd [x] sp) (bind : ∀ (s : Shared) (u : Value), BindsTo s fd ⟨[u], []⟩ [(x, u)])
    (hsp : ∀ H : Hp, Only H → SqL K H a (ns.map V.int) → sp [.ref a] H (fun v _ => v = .bl true) fun _ _ _ => False) (noX : ∀ H e s', CX0 [] H s1 (fun _ _ _ => False) e s' → False) :
    codeAny (model P w) callerA (.call (.ref fa) ⟨[.ref a], []⟩) (fun r s' => r = .ok (.ret (.bool true)) ∧ OldK s1.heap s'.heap ∧ s'.os = s1.os ∧ AllBare s'.gens) s1 := by
  obtain ⟨H, hS, hok, hA⟩ := script_heap (P := P) (w := w) KX ha hi hl
  have tell : ∀ b, H b = none ∨ b = a ∧ K.lookup a = none ∧ ∃ o xs, H b = some (.frz o (.lst xs)) := fun b => by
    cases q : H b with
    | none => exact .inl rfl
    | some u =>
      obtain ⟨e1, e2, o, xs, e3⟩ := hA b u q
      exact .inr ⟨e1, e2, o, xs, by rw [e3]⟩
  have only : Only H := fun b => (tell b).imp id fun z => z.2.2
  have low : ∀ {b : Addr} {m : Str → Option Value}, s1.heap.Ns b m → (hidT s1.heap H).Ns b m := fun {b m} n => by
    obtain ⟨o, es, ep, e, d, r⟩ := n
    refine ⟨o, es, ep, hidT_get e ?_, d, r⟩
    rcases tell b with z | ⟨z, _⟩
    · exact z
    · rw [z, ha] at e
      cases e
      cases d
  have kin : K.In (hidT s1.heap H) := fun b o e => hidT_get (KX b o e) ((tell b).elim id fun z => by
    rw [z.1, z.2.1] at e
    cases e)
  obtain ⟨mc, l1, l2⟩ := hlim
  have e0 : Env0 P w K mg (hidT s1.heap H) callerA [] s1 H :=
    { frames := rfl, mod := { kin := kin, glob := low hns, blt := ⟨mb, low hb.1, hb.2⟩, nolimit := ⟨mc, low l1, l2⟩ }, bs := fun _ _ e => of_hidT e, bsz := Nat.le_of_eq (hidT_size _ _), funs := trivial, frf := fun _ z => (nomatch z), hok := hok, bare := .of_eq hg }
  refine codeAny_mono ((F _ kin (low hns)).go callerA [] s1 H _ [.ref a] [.ref a] _ _ rfl hr e0 (bind s1 (.ref a)) (.cons rfl .nil) (hsp H only hS)) fun r s2 h => ?_
  rcases r with e | fl
  · exact (noX H e s2 h).elim
  rcases fl with _ | _ | _ | u <;> try exact False.elim h
  obtain ⟨v, H2, os, bare, un, ok2, rv, q⟩ := h
  cases (q : v = .bl true)
  cases (rv : u = Value.bool true)
  refine ⟨rfl, OldK.of_keep fun b o e => ?_, os, bare⟩
  rcases tell b with z | ⟨_, _, ob, xs, z⟩
  · exact un.keep b o e z (fun y => by cases y) fun y => by cases y
  · have k1 := (hok b _ z).1
    rw [← e, k1] at *
    exact (ok2 b _ (un.frzs b ob _ z)).1
theorem walk_ofG {l : PySem.W.OpenLaw} {n k : Nat} {q : Program} {loose : List Str} {XP : (Str → Option Value) → Heap → Prop} {YP : World → Heap → Prop} {d : DefRec} {K : Params → PySem.W.Frag} {sp : PySem.W.Frag → Sp} {x : Str} (hn : l.most = some n) (hn2 : n ≤ sizeLine)
    (hdf : d.params.defaults = []) (hr : Room k callerA) (hY : ∀ (w : World) (h : Heap), YP w h → (K w.params).In h)
    (F : ∀ (w : World) (mg : Str → Option Value) (fa : Addr) (h : Heap), (K w.params).In h → h.Ns mainGlobals mg → mg d.name = some (.ref fa) → ∃ fd : FuncData, (∀ (s : Shared) (u : Value), BindsTo s fd ⟨[u], []⟩ [(x, u)]) ∧
      ∀ b0 : Heap, (K w.params).In b0 → b0.Ns mainGlobals mg → FnG l.prog w (K w.params) mg b0 CX0 k fa fd [x] (sp (K w.params)))
    (hsp : ∀ (K : PySem.W.Frag) (H : Hp) (a : Addr) (ns : List Int), ns.length ≤ n → Only H → SqL K H a (ns.map V.int) → sp K [.ref a] H (fun v _ => v = .bl true) fun _ _ _ => False)
    (noX : ∀ (H : Hp) (s : Shared) (e : Value) (s' : Shared), CX0 [] H s (fun _ _ _ => False) e s' → False) : PySem.W.WalkO q loose XP YP l.row.toRowW d [] (fun f vs => PySem.call f vs) := by
  refine Att.attach_call hn hdf fun w s0 s1 mg mb fa o pm cd doc a vs ns G Y _ _ _ hmg hobj hints hlen hg => ?_
  obtain ⟨fd, hb, hF⟩ := F w mg fa _ (hY w _ Y) G.T.g hmg
  exact law_callG (hY w _ Y) G.T.g ⟨G.T.b, G.T.builtins⟩ G.T.nolimit hg hobj hints (Nat.le_trans hlen hn2) hr hF hb (fun H => hsp _ H a ns hlen) fun H => noX H s1
end L2

set_option Elab.async false
set_option linter.all false
set_option maxRecDepth 100000
set_option maxHeartbeats 4000000
/-! repr of a list of data. -/
namespace L2
open PySem PySem.Spec PyProof.Rows
def keyD : Key → PyData
  | .inl i => .int i
  | .inr x => .str x
theorem pairs_data {P : Program} {w : World} {h : Heap} : ∀ {es : List DictEntry} {vs : List (Key × Value)} {kvs : List (Key × Int)}, Pairs (mixKind P w) es vs → KV (kvs.map fun p => (p.1, V.int p.2)) vs →
    ReadsAll h (es.map (·.key)) (kvs.map fun p => keyD p.1) [] ∧ ReadsAll h (es.map (·.val)) (kvs.map fun p => PyData.int p.2) []
  | _, _, [], p, r => by
    cases r
    cases p
    exact ⟨.nil, .nil⟩
  | _, _, (k, i) :: l, p, r => by
    cases r with
    | cons r1 r2 =>
      cases p with
      | cons p1 p2 p3 =>
        obtain ⟨e1, t, e2⟩ := r1
        obtain ⟨q1, q2⟩ := pairs_data p3 r2
        dsimp only at e1 e2
        refine ⟨.cons (as := []) (bs := []) ?_ q1, .cons (as := []) (bs := []) ?_ q2⟩
        · rw [← e1] at p1
          rcases keyIs_shape p1 with ⟨j, u, ek, ev⟩ | ⟨y, u, ek, ev⟩
          · dsimp only
            rw [ev, show k = _ from ek]
            exact .int j u
          · dsimp only
            rw [ev, show k = _ from ek]
            exact .str y u
        · dsimp only
          rw [p2, e2]
          exact .int i t
/-- data: without dicts, or one dict of whole numbers -/
def Dd (K : PySem.W.Frag) (H : Hp) (v : V) (d : PyData) : Prop := (Dp K H v d ∧ d.hasDict = false) ∨
  ∃ (b : Addr) (kvs : List (Key × Int)), v = .ref b ∧ H b = some (.dK (kvs.map fun p => (p.1, V.int p.2))) ∧ d = .dict ((kvs.map fun p => keyD p.1).zip (kvs.map fun p => PyData.int p.2))
section
variable {X : Cx} {pins : List (Addr × Obj)} {σ : St} {H : Hp} {s : Shared}
theorem Dd.reads {v : V} {d : PyData} {u : Value} (I : Inv X pins σ H s) (D : Dd X.K H v d) (r : RelV v u) : ∃ as, Reads s.heap u d as ∧ (d.hasDict = true → sysModules ∉ as) := by
  rcases D with ⟨D, n⟩ | ⟨b, kvs, rfl, e, rfl⟩
  · obtain ⟨as, q⟩ := Dp.reads I d v u D r
    exact ⟨as, q, fun z => by rw [n] at z; cases z⟩
  · cases r
    obtain ⟨_, ns, vs, kv, o, es, ep, ho, hx, hd, _, pr, _⟩ := I.hok b _ e
    obtain ⟨q1, q2⟩ := pairs_data (h := s.heap) pr kv
    refine ⟨b :: [] ++ [], Reads.dict ho hx.1 hd ?_ ?_, fun _ z => ?_⟩
    · rw [List.map_fst_zip (by simp)]
      exact q1
    · rw [List.map_snd_zip (by simp)]
      exact q2
    · simp only [List.append_nil, List.mem_singleton] at z
      rw [← z] at ns
      simp at ns
theorem dd_all {d : PyData} (I : Inv X pins σ H s) : ∀ {vs : List V} {us : List Value}, (∀ v ∈ vs, Dd X.K H v d) → Vals vs us → ∃ as, ReadsAll s.heap us (List.replicate vs.length d) as ∧ (d.hasDict = true → sysModules ∉ as)
  | _, _, _, .nil => ⟨[], .nil, fun _ z => nomatch z⟩
  | _, _, D, .cons r1 r2 => by
    obtain ⟨as, q1, n1⟩ := (D _ (List.mem_cons_self ..)).reads I r1
    obtain ⟨bs, q2, n2⟩ := dd_all I (fun v hv => D v (List.mem_cons_of_mem _ hv)) r2
    exact ⟨as ++ bs, .cons q1 q2, fun z => by rw [List.mem_append]; exact fun y => y.elim (n1 z) (n2 z)⟩
/-- repr(xs), a list whose items all are the same data -/
def rReprL (K : PySem.W.Frag) : List V → Hp → VK → Prop := fun xs H Q => ∃ (a : Addr) (ys : List V) (d : PyData), xs = [.ref a] ∧ H a = some (.lst ys) ∧ ys ≠ [] ∧ (∀ y ∈ ys, Dd K H y d) ∧ d.showable = true ∧ PyData.depthAll (List.replicate ys.length d) ≤ 100 ∧
  (listText (PyData.shownAll (List.replicate ys.length d))).length ≤ sizeLine ∧ Q (.str (listText (PyData.shownAll (List.replicate ys.length d)))) H
theorem show_rep (d : PyData) : ∀ n, PyData.showableAll (List.replicate n d) = true ∨ d.showable = false
  | 0 => .inl rfl
  | n + 1 => by
    cases e : d.showable with
    | false => exact .inr rfl
    | true =>
      rcases show_rep d n with z | z
      · exact .inl (by rw [List.replicate_succ, PyData.showableAll, e, z]; rfl)
      · rw [e] at z
        cases z
theorem dict_rep (d : PyData) : ∀ n, PyData.hasDictAll (List.replicate n d) = true → d.hasDict = true
  | 0, h => by cases h
  | n + 1, h => by
    rw [List.replicate_succ, PyData.hasDictAll, Bool.or_eq_true] at h
    exact h.elim id (dict_rep d n)
theorem call_reprL (hg : X.A.guards = some []) (hu : X.A.units + 200 < cLine) : CallR X (.builtin "repr") (rReprL X.K) := by
  intro pins s σ H xs us Q I r h
  obtain ⟨a, ys, d, rfl, e, hne, hd, hs, hdep, hz, q⟩ := h
  obtain ⟨u, rfl, ru⟩ := vals1 r
  cases ru
  obtain ⟨_, its, n, rv, ho⟩ := I.hok a _ e
  obtain ⟨as, ra, ns⟩ := dd_all I hd rv
  have sh : PyData.showableAll (List.replicate ys.length d) = true := (show_rep d _).resolve_right (by rw [hs]; simp)
  obtain ⟨bs, hb, hk⟩ := ReprAllK.of_readsAll (prog := X.prog) (w := X.w) ra sh (fun z => ns (dict_rep d _ z)) fun t ht => Nat.le_trans (listText_mem_le ht) hz
  have hna : a ∉ bs := not_mem_of_deeper (Reads.list ho rfl rfl (by exact ra)) (by simp only [PyData.depth]; omega) hb
  have ty : s.TypeIs (.ref a) "list" := ⟨_, ho, rfl⟩
  refine call_repr_slot (by omega) ty F.slot_list_repr.toG ?_
  cases its with
  | nil =>
    cases rv
    exact (hne rfl).elim
  | cons x l =>
    exact call_list_reprK ho rfl rfl hna hk.length_eq (fun i y z => hk.item i y (by simpa using z)) hg (fun b _ => Clear.nil b) (by show X.A.units + 1 + _ < cLine; omega) (fun _ _ z => z)
      (fun h' u tk k => ⟨_, _, rfl, .str _, H, I.kept (t' := tk) k, ⟨_, rfl⟩, q⟩) hz
end
end L2

set_option Elab.async false
set_option linter.all false
set_option maxRecDepth 100000
set_option maxHeartbeats 4000000
namespace K01
open PySem PySem.Spec PyProof.Rows L2
def topS (i : Nat) : Stmt := PySem.Challenge.pw_ownmarks_k01_errors.main.body.getD i (.Pass ⟨0, 0, 0, 0⟩)
abbrev sBadCrowdInit : Stmt := inClass (topS 2) 0
theorem scBadCrowdInit : FnScope ["self", "part"] ["self", "part"] (defScope sBadCrowdInit) := ⟨rfl, rfl, rfl, by decide +kernel, rfl, by decide +kernel, by decide +kernel⟩
abbrev sBadPageInit : Stmt := inClass (topS 3) 0
theorem scBadPageInit : FnScope ["self", "value"] ["self", "value"] (defScope sBadPageInit) := ⟨rfl, rfl, rfl, by decide +kernel, rfl, by decide +kernel, by decide +kernel⟩
abbrev sBadRuleInit : Stmt := inClass (topS 4) 0
theorem scBadRuleInit : FnScope ["self", "part"] ["self", "part"] (defScope sBadRuleInit) := ⟨rfl, rfl, rfl, by decide +kernel, rfl, by decide +kernel, by decide +kernel⟩
abbrev sBadPairInit : Stmt := inClass (topS 5) 0
theorem scBadPairInit : FnScope ["self", "value"] ["self", "value"] (defScope sBadPairInit) := ⟨rfl, rfl, rfl, by decide +kernel, rfl, by decide +kernel, by decide +kernel⟩
abbrev sBadMarkInit : Stmt := inClass (topS 6) 0
theorem scBadMarkInit : FnScope ["self", "value"] ["self", "value"] (defScope sBadMarkInit) := ⟨rfl, rfl, rfl, by decide +kernel, rfl, by decide +kernel, by decide +kernel⟩
abbrev sBadArgumentInit : Stmt := inClass (topS 7) 0
theorem scBadArgumentInit : FnScope ["self", "value"] ["self", "value"] (defScope sBadArgumentInit) := ⟨rfl, rfl, rfl, by decide +kernel, rfl, by decide +kernel, by decide +kernel⟩
abbrev sBadNumberInit : Stmt := inClass (topS 8) 0
theorem scBadNumberInit : FnScope ["self", "number"] ["self", "number"] (defScope sBadNumberInit) := ⟨rfl, rfl, rfl, by decide +kernel, rfl, by decide +kernel, by decide +kernel⟩
abbrev sBadChangeInit : Stmt := inClass (topS 9) 0
theorem scBadChangeInit : FnScope ["self", "value"] ["self", "value"] (defScope sBadChangeInit) := ⟨rfl, rfl, rfl, by decide +kernel, rfl, by decide +kernel, by decide +kernel⟩
abbrev sBadCommandInit : Stmt := inClass (topS 10) 0
theorem scBadCommandInit : FnScope ["self", "command"] ["self", "command"] (defScope sBadCommandInit) := ⟨rfl, rfl, rfl, by decide +kernel, rfl, by decide +kernel, by decide +kernel⟩
abbrev sBadTextInit : Stmt := inClass (topS 11) 0
theorem scBadTextInit : FnScope ["self", "line"] ["self", "line"] (defScope sBadTextInit) := ⟨rfl, rfl, rfl, by decide +kernel, rfl, by decide +kernel, by decide +kernel⟩
abbrev sTooManyInit : Stmt := inClass (topS 12) 0
theorem scTooManyInit : FnScope ["self", "most"] ["self", "most"] (defScope sTooManyInit) := ⟨rfl, rfl, rfl, by decide +kernel, rfl, by decide +kernel, by decide +kernel⟩
abbrev sNotThereInit : Stmt := inClass (topS 13) 0
theorem scNotThereInit : FnScope ["self", "word"] ["self", "word"] (defScope sNotThereInit) := ⟨rfl, rfl, rfl, by decide +kernel, rfl, by decide +kernel, by decide +kernel⟩
abbrev sOpened : Stmt := topS 16
theorem scOpened : FnScope ["_law_script", "_law_k", "_law_cell", "_law_great"] ["_law_script", "_law_k"] (defScope sOpened) := ⟨rfl, rfl, rfl, by decide +kernel, rfl, by decide +kernel, by decide +kernel⟩
abbrev sDraw : Stmt := topS 17
theorem scDraw : FnScope ["_law_pool", "_law_many", "_law_found"] ["_law_pool", "_law_many"] (defScope sDraw) := ⟨rfl, rfl, rfl, by decide +kernel, rfl, by decide +kernel, by decide +kernel⟩
abbrev sPick : Stmt := topS 18
theorem scPick : FnScope ["_law_pool", "_law_some"] ["_law_pool", "_law_some"] (defScope sPick) := ⟨rfl, rfl, rfl, by decide +kernel, rfl, by decide +kernel, by decide +kernel⟩
abbrev sMadeErrors : Stmt := topS 19
theorem scMadeErrors : FnScope ["_law_thing", "_law_found"] ["_law_thing"] (defScope sMadeErrors) := ⟨rfl, rfl, rfl, by decide +kernel, rfl, by decide +kernel, by decide +kernel⟩
abbrev sNamedErrors : Stmt := topS 20
theorem scNamedErrors : FnScope ["_law_thing", "_law_found"] ["_law_thing"] (defScope sNamedErrors) := ⟨rfl, rfl, rfl, by decide +kernel, rfl, by decide +kernel, by decide +kernel⟩
abbrev sFields : Stmt := topS 21
theorem scFields : FnScope ["_law_rows", "_law_found"] ["_law_rows"] (defScope sFields) := ⟨rfl, rfl, rfl, by decide +kernel, rfl, by decide +kernel, by decide +kernel⟩
abbrev sKinds : Stmt := topS 22
theorem scKinds : FnScope ["_law_one", "_law_found"] ["_law_one"] (defScope sKinds) := ⟨rfl, rfl, rfl, by decide +kernel, rfl, by decide +kernel, by decide +kernel⟩
abbrev sBases : Stmt := topS 23
theorem scBases : FnScope ["_law_one", "_law_found"] ["_law_one"] (defScope sBases) := ⟨rfl, rfl, rfl, by decide +kernel, rfl, by decide +kernel, by decide +kernel⟩
abbrev sLaw : Stmt := topS 24
theorem scLaw : FnScope ["_law_script", "_law_k", "_law_pool", "_law_menu", "_law_thing", "_law_due", "_law_rows", "_law_one", "_law_at", "_law_where"] ["_law_script"] (defScope sLaw) := ⟨rfl, rfl, rfl, by decide +kernel, rfl, by decide +kernel, by decide +kernel⟩
/-! ### the law's own draws -/
section
variable {P : Program} {w : World} {K : PySem.W.Frag} {mg : Str → Option Value} {base : Heap}
structure Bt (mg : Str → Option Value) : Prop where
  len : mg "len" = none
  max : mg "max" = none
  min : mg "min" = none
  int : mg "int" = none
  range : mg "range" = none
theorem ok_opened {f : Addr} {fd : FuncData} (F : Fun K "_law_opened" "_law_opened" sOpened f fd) (B : Bt mg) : FnOk P w K mg base CX0 1 f fd ["_law_script", "_law_k"] (spOpened K) := by
  refine F.ok scOpened (fun vs H Q E h => ?_) (fun cdv A outer s H vs Q E hr h => ?_)
  · obtain ⟨a, ns, k, rfl, _⟩ := h
    rfl
  · obtain ⟨a, ns, k, rfl, hS, hk, q⟩ := h
    refine ⟨_, pss_cons (ps_set (i := 2) scOpened.nd rfl (.inl rfl) (pe_cut (fun _ H v H' => H' = H ∧ ∃ z : Int, v = .int z) (pe_ifExp (pt_cmpR op_lt (pv 1) (pe_callB call_len_seq (by rfl) B.len PySem.boot_len (pa_cons (pv 0) pa_nil)) (nomark _)) (pe_ix ix_list (pv 0) (pv 1) (fun _ _ => rfl)) pe_int)))
      (pss_cons (ps_set (i := 3) scOpened.nd rfl (.inl rfl) (pe_callB (call_max2 rfl) (by rfl) B.max (by decide +kernel) (pa_cons (pe_callTy call_int1 (by rfl) B.int (by decide +kernel) (pa_cons (pv 2) pa_nil))
        (pa_cons (pe_callTy call_int1 (by rfl) B.int (by decide +kernel) (pa_cons (pe_op op_sub (pe_un un_neg pe_int) (pv 2)) pa_nil)) pa_nil))))
      (pss_one (ps_ret (pe_lst (pa_cons (pe_op op_mul (pv 3) (pe_callTy call_int1 (by rfl) B.int (by decide +kernel) (pa_cons (pe_cmpR op_ge (pv 3) (pe_op op_pow pe_int pe_int) (nomark _)) pa_nil)))
        (pa_cons (pe_op op_mod (pe_callTy call_int1 (by rfl) B.int (by decide +kernel) (pa_cons (pe_op op_mul (pe_op op_add (pe_op op_add (pe_op op_mod (pv 3) pe_int) (pe_op op_mul pe_int (pv 1))) pe_int) pe_int) pa_nil)) pe_int) pa_nil)))))), ?_⟩
    refine ⟨?_, ?_⟩
    · -- the cell
      refine ⟨_, rfl, _, rfl, _, _, rfl, .inl hS, _, _, rfl, rfl, _, rfl, ite2 (fun c => ?_) (fun _ => ⟨rfl, 5, rfl⟩)⟩
      have c1 : (k : Int) < ((ns.map V.int).length : Int) := of_decide_eq_true c
      have c2 : k < ns.length := by
        rw [List.length_map] at c1
        omega
      exact ⟨_, rfl, _, rfl, a, _, k, .int ns[k], rfl, rfl, hS, atI_nat (by rw [List.getElem?_map, List.getElem?_eq_getElem c2]; rfl), rfl, _, rfl⟩
    · rintro v H1 ⟨rfl, z, rfl⟩
      refine ⟨_, rfl, .inl ⟨_, rfl, 1, rfl, _, rfl, _, _, rfl, rfl, .inl ⟨_, rfl, _, _, rfl, ?_⟩⟩⟩
      generalize hg : (if (-1 : Int) - z > z then -1 - z else z) = g
      have g0 : 0 ≤ g := by
        rw [← hg]
        split <;> omega
      refine ⟨_, rfl, _, rfl, _, _, rfl, rfl, ⟨by decide, by decide, by decide⟩, _, _, rfl, rfl, .inr ⟨_, rfl, _, _, rfl, rfl, .inr ?_, ?_⟩⟩
      · split <;> omega
      · have km : 0 ≤ g % 2147483629 ∧ g % 2147483629 < 2147483629 := ⟨Int.emod_nonneg _ (by decide), Int.emod_lt_of_pos _ (by decide)⟩
        refine ⟨_, rfl, _, _, rfl, rfl, (by show (0 : Int) < 2147483629; decide), _, rfl, _, _, rfl, rfl, .inl ⟨by omega, by omega⟩, _, _, rfl, rfl, _, _, rfl, rfl, _, _, rfl, rfl, .inr ⟨by decide, by decide⟩, .inl ⟨_, rfl, _, _, rfl, rfl, (by show (0 : Int) < 2147483647; decide), ?_, fun p hp => ?_⟩⟩
        · show 2 ≤ sizeLine
          decide
        · refine newH hp fun H2 s2 h2 => q H2 p s2 hp ⟨_, _, h2, ?_, Int.emod_nonneg _ (by decide), Int.emod_lt_of_pos _ (by decide)⟩
          split
          · omega
          · omega
theorem pool_set0 {g q x : Int} : ([V.int g, V.int q]).set 0 (.int x) = [V.int x, V.int q] := rfl
theorem ok_draw {f : Addr} {fd : FuncData} (F : Fun K "_law_draw" "_law_draw" sDraw f fd) (B : Bt mg) : FnOk P w K mg base CX0 1 f fd ["_law_pool", "_law_many"] spDraw := by
  refine F.ok scDraw (fun vs H Q E h => ?_) (fun cdv A outer s H vs Q E hr h => ?_)
  · obtain ⟨a, m, rfl, _⟩ := h
    rfl
  · obtain ⟨a, m, rfl, ⟨g, q, ha, hg, hq0, hq1⟩, m1, m2, kk⟩ := h
    refine ⟨_, pss_cons (ps_if (pt_cmpR op_gt (pe_ix ix_list (pv 0) pe_int (fun _ _ => rfl)) pe_int (nomark _))
        (pss_cons (ps_set (i := 2) scDraw.nd rfl (.inl rfl) (pe_op op_modN (pe_callTy call_int1 (by rfl) B.int (by decide +kernel) (pa_cons (pe_ix ix_list (pv 0) pe_int (fun _ _ => rfl)) pa_nil)) (pv 1)))
        (pss_cons (ps_asg (pe_op op_fdivN (pe_ix ix_list (pv 0) pe_int (fun _ _ => rfl)) (pv 1)) (pg_sub (pv 0) pe_int set_list)) (pss_one (ps_ret (pv 2))))) pss_nil)
      (pss_cons (ps_asg (pe_op op_mod (pe_callTy call_int1 (by rfl) B.int (by decide +kernel) (pa_cons (pe_op op_add (pe_op op_mul (pe_ix ix_list (pv 0) pe_int (fun _ _ => rfl)) pe_int) pe_int) pa_nil)) pe_int) (pg_sub (pv 0) pe_int set_list))
      (pss_one (ps_ret (pe_op op_modN (pe_op op_fdiv (pe_op op_mod (pe_callTy call_int1 (by rfl) B.int (by decide +kernel) (pa_cons (pe_op op_mul (pe_ix ix_list (pv 0) pe_int (fun _ _ => rfl)) (pe_ix ix_list (pv 0) pe_int (fun _ _ => rfl))) pa_nil)) pe_int) pe_int) (pv 1))))), ?_⟩
    have S0 := SqL.of (K := K) ha
    have x0 : atI [V.int g, V.int q] 0 = some (.int g) := rfl
    have x1 : atI [V.int g, V.int q] 1 = some (.int q) := rfl
    have mnz : m ≠ 0 := by omega
    refine ⟨_, rfl, a, _, 0, _, rfl, rfl, S0, x0, _, _, rfl, rfl, _, rfl, ite2 (fun c => ?_) (fun _ => ?_)⟩
    · refine ⟨_, rfl, a, _, 0, _, rfl, rfl, S0, x0, .inl ⟨_, rfl, _, rfl, _, _, rfl, rfl, mnz, ?_⟩⟩
      refine ⟨_, rfl, a, _, 0, _, rfl, rfl, S0, x0, _, rfl, _, _, rfl, rfl, ⟨mnz, by omega⟩, _, rfl, a, _, 0, 0, rfl, rfl, ha, rfl, ?_⟩
      refine ⟨_, rfl, kk _ _ (Int.fmod_nonneg_of_pos _ (by omega)) (Int.fmod_lt_of_pos _ (by omega)) ⟨g.fdiv m, q, upd_same, Int.fdiv_nonneg hg (by omega), hq0, hq1⟩ But.upd⟩
    · refine ⟨_, rfl, a, _, 1, _, rfl, rfl, S0, x1, _, _, rfl, rfl, .inr ⟨by decide, by decide⟩, _, _, rfl, rfl, .inl ⟨_, rfl, _, _, rfl, rfl, (by show (0 : Int) < 2147483647; decide), ?_⟩⟩
      have z0 : 0 ≤ (q * 39373 + 7) % 2147483647 := Int.emod_nonneg _ (by decide)
      have z1 : (q * 39373 + 7) % 2147483647 < 2147483647 := Int.emod_lt_of_pos _ (by decide)
      refine ⟨_, rfl, a, _, 1, 1, rfl, rfl, ha, rfl, ?_⟩
      have h2 : upd H a (.lst [V.int g, V.int ((q * 39373 + 7) % 2147483647)]) a = some (.lst [V.int g, V.int ((q * 39373 + 7) % 2147483647)]) := upd_same
      have S2 := SqL.of (K := K) h2
      have y1 : atI [V.int g, V.int ((q * 39373 + 7) % 2147483647)] 1 = some (.int ((q * 39373 + 7) % 2147483647)) := rfl
      refine ⟨_, rfl, a, _, 1, _, rfl, rfl, S2, y1, _, rfl, a, _, 1, _, rfl, rfl, S2, y1, _, _, rfl, rfl, .inl ⟨by omega, by omega⟩, .inl ⟨_, rfl, _, _, rfl, rfl, (by show (0 : Int) < 2147483629; decide), _, _, rfl, rfl, ⟨by decide, by decide⟩, _, rfl, _, _, rfl, rfl, mnz, ?_⟩⟩
      exact kk _ _ (Int.fmod_nonneg_of_pos _ (by omega)) (Int.fmod_lt_of_pos _ (by omega)) ⟨g, _, h2, hg, z0, z1⟩ But.upd
end

section
variable {P : Program} {w : World} {K : PySem.W.Frag} {mg : Str → Option Value} {base : Heap}

theorem ok_BadCrowdInit {f C : Addr} {fd : FuncData} (F : Fun K "__init__" "BadCrowd.__init__" sBadCrowdInit f fd) : FnOk P w K mg base CX0 1 f fd ["self", "part"] (spEcInit K C "part") := by
  refine F.ok scBadCrowdInit (fun vs H Q E h => ?_) (fun cdv A outer s H vs Q E hr h => ?_)
  · obtain ⟨a, v, rfl, _⟩ := h
    rfl
  · obtain ⟨a, v, rfl, T, nf, ha, q⟩ := h
    refine ⟨_, pss_one (ps_ec (f := "part") (pv 0) (pv 1)), ?_⟩
    exact ⟨_, rfl, _, rfl, a, C, rfl, T, nf, ha, fun d nd ne => q d nd ne⟩
theorem ok_BadPageInit {f C : Addr} {fd : FuncData} (F : Fun K "__init__" "BadPage.__init__" sBadPageInit f fd) : FnOk P w K mg base CX0 1 f fd ["self", "value"] (spEcInit K C "value") := by
  refine F.ok scBadPageInit (fun vs H Q E h => ?_) (fun cdv A outer s H vs Q E hr h => ?_)
  · obtain ⟨a, v, rfl, _⟩ := h
    rfl
  · obtain ⟨a, v, rfl, T, nf, ha, q⟩ := h
    refine ⟨_, pss_one (ps_ec (f := "value") (pv 0) (pv 1)), ?_⟩
    exact ⟨_, rfl, _, rfl, a, C, rfl, T, nf, ha, fun d nd ne => q d nd ne⟩
theorem ok_BadRuleInit {f C : Addr} {fd : FuncData} (F : Fun K "__init__" "BadRule.__init__" sBadRuleInit f fd) : FnOk P w K mg base CX0 1 f fd ["self", "part"] (spEcInit K C "part") := by
  refine F.ok scBadRuleInit (fun vs H Q E h => ?_) (fun cdv A outer s H vs Q E hr h => ?_)
  · obtain ⟨a, v, rfl, _⟩ := h
    rfl
  · obtain ⟨a, v, rfl, T, nf, ha, q⟩ := h
    refine ⟨_, pss_one (ps_ec (f := "part") (pv 0) (pv 1)), ?_⟩
    exact ⟨_, rfl, _, rfl, a, C, rfl, T, nf, ha, fun d nd ne => q d nd ne⟩
theorem ok_BadPairInit {f C : Addr} {fd : FuncData} (F : Fun K "__init__" "BadPair.__init__" sBadPairInit f fd) : FnOk P w K mg base CX0 1 f fd ["self", "value"] (spEcInit K C "value") := by
  refine F.ok scBadPairInit (fun vs H Q E h => ?_) (fun cdv A outer s H vs Q E hr h => ?_)
  · obtain ⟨a, v, rfl, _⟩ := h
    rfl
  · obtain ⟨a, v, rfl, T, nf, ha, q⟩ := h
    refine ⟨_, pss_one (ps_ec (f := "value") (pv 0) (pv 1)), ?_⟩
    exact ⟨_, rfl, _, rfl, a, C, rfl, T, nf, ha, fun d nd ne => q d nd ne⟩
theorem ok_BadMarkInit {f C : Addr} {fd : FuncData} (F : Fun K "__init__" "BadMark.__init__" sBadMarkInit f fd) : FnOk P w K mg base CX0 1 f fd ["self", "value"] (spEcInit K C "value") := by
  refine F.ok scBadMarkInit (fun vs H Q E h => ?_) (fun cdv A outer s H vs Q E hr h => ?_)
  · obtain ⟨a, v, rfl, _⟩ := h
    rfl
  · obtain ⟨a, v, rfl, T, nf, ha, q⟩ := h
    refine ⟨_, pss_one (ps_ec (f := "value") (pv 0) (pv 1)), ?_⟩
    exact ⟨_, rfl, _, rfl, a, C, rfl, T, nf, ha, fun d nd ne => q d nd ne⟩
theorem ok_BadArgumentInit {f C : Addr} {fd : FuncData} (F : Fun K "__init__" "BadArgument.__init__" sBadArgumentInit f fd) : FnOk P w K mg base CX0 1 f fd ["self", "value"] (spEcInit K C "value") := by
  refine F.ok scBadArgumentInit (fun vs H Q E h => ?_) (fun cdv A outer s H vs Q E hr h => ?_)
  · obtain ⟨a, v, rfl, _⟩ := h
    rfl
  · obtain ⟨a, v, rfl, T, nf, ha, q⟩ := h
    refine ⟨_, pss_one (ps_ec (f := "value") (pv 0) (pv 1)), ?_⟩
    exact ⟨_, rfl, _, rfl, a, C, rfl, T, nf, ha, fun d nd ne => q d nd ne⟩
theorem ok_BadNumberInit {f C : Addr} {fd : FuncData} (F : Fun K "__init__" "BadNumber.__init__" sBadNumberInit f fd) : FnOk P w K mg base CX0 1 f fd ["self", "number"] (spEcInit K C "number") := by
  refine F.ok scBadNumberInit (fun vs H Q E h => ?_) (fun cdv A outer s H vs Q E hr h => ?_)
  · obtain ⟨a, v, rfl, _⟩ := h
    rfl
  · obtain ⟨a, v, rfl, T, nf, ha, q⟩ := h
    refine ⟨_, pss_one (ps_ec (f := "number") (pv 0) (pv 1)), ?_⟩
    exact ⟨_, rfl, _, rfl, a, C, rfl, T, nf, ha, fun d nd ne => q d nd ne⟩
theorem ok_BadChangeInit {f C : Addr} {fd : FuncData} (F : Fun K "__init__" "BadChange.__init__" sBadChangeInit f fd) : FnOk P w K mg base CX0 1 f fd ["self", "value"] (spEcInit K C "value") := by
  refine F.ok scBadChangeInit (fun vs H Q E h => ?_) (fun cdv A outer s H vs Q E hr h => ?_)
  · obtain ⟨a, v, rfl, _⟩ := h
    rfl
  · obtain ⟨a, v, rfl, T, nf, ha, q⟩ := h
    refine ⟨_, pss_one (ps_ec (f := "value") (pv 0) (pv 1)), ?_⟩
    exact ⟨_, rfl, _, rfl, a, C, rfl, T, nf, ha, fun d nd ne => q d nd ne⟩
theorem ok_BadCommandInit {f C : Addr} {fd : FuncData} (F : Fun K "__init__" "BadCommand.__init__" sBadCommandInit f fd) : FnOk P w K mg base CX0 1 f fd ["self", "command"] (spEcInit K C "command") := by
  refine F.ok scBadCommandInit (fun vs H Q E h => ?_) (fun cdv A outer s H vs Q E hr h => ?_)
  · obtain ⟨a, v, rfl, _⟩ := h
    rfl
  · obtain ⟨a, v, rfl, T, nf, ha, q⟩ := h
    refine ⟨_, pss_one (ps_ec (f := "command") (pv 0) (pv 1)), ?_⟩
    exact ⟨_, rfl, _, rfl, a, C, rfl, T, nf, ha, fun d nd ne => q d nd ne⟩
theorem ok_BadTextInit {f C : Addr} {fd : FuncData} (F : Fun K "__init__" "BadText.__init__" sBadTextInit f fd) : FnOk P w K mg base CX0 1 f fd ["self", "line"] (spEcInit K C "line") := by
  refine F.ok scBadTextInit (fun vs H Q E h => ?_) (fun cdv A outer s H vs Q E hr h => ?_)
  · obtain ⟨a, v, rfl, _⟩ := h
    rfl
  · obtain ⟨a, v, rfl, T, nf, ha, q⟩ := h
    refine ⟨_, pss_one (ps_ec (f := "line") (pv 0) (pv 1)), ?_⟩
    exact ⟨_, rfl, _, rfl, a, C, rfl, T, nf, ha, fun d nd ne => q d nd ne⟩
theorem ok_TooManyInit {f C : Addr} {fd : FuncData} (F : Fun K "__init__" "TooMany.__init__" sTooManyInit f fd) : FnOk P w K mg base CX0 1 f fd ["self", "most"] (spEcInit K C "most") := by
  refine F.ok scTooManyInit (fun vs H Q E h => ?_) (fun cdv A outer s H vs Q E hr h => ?_)
  · obtain ⟨a, v, rfl, _⟩ := h
    rfl
  · obtain ⟨a, v, rfl, T, nf, ha, q⟩ := h
    refine ⟨_, pss_one (ps_ec (f := "most") (pv 0) (pv 1)), ?_⟩
    exact ⟨_, rfl, _, rfl, a, C, rfl, T, nf, ha, fun d nd ne => q d nd ne⟩
theorem ok_NotThereInit {f C : Addr} {fd : FuncData} (F : Fun K "__init__" "NotThere.__init__" sNotThereInit f fd) : FnOk P w K mg base CX0 1 f fd ["self", "word"] (spEcInit K C "word") := by
  refine F.ok scNotThereInit (fun vs H Q E h => ?_) (fun cdv A outer s H vs Q E hr h => ?_)
  · obtain ⟨a, v, rfl, _⟩ := h
    rfl
  · obtain ⟨a, v, rfl, T, nf, ha, q⟩ := h
    refine ⟨_, pss_one (ps_ec (f := "word") (pv 0) (pv 1)), ?_⟩
    exact ⟨_, rfl, _, rfl, a, C, rfl, T, nf, ha, fun d nd ne => q d nd ne⟩
end
def fld : Nat → Str
  | 0 => "part"
  | 1 => "value"
  | 2 => "part"
  | 3 => "value"
  | 4 => "value"
  | 5 => "value"
  | 6 => "number"
  | 7 => "value"
  | 8 => "command"
  | 9 => "line"
  | 10 => "most"
  | _ => "word"
structure Es (P : Program) (w : World) (K : PySem.W.Frag) (mg : Str → Option Value) (base : Heap) (C : Nat → Addr) : Prop where
  e0 : Ek P w K mg base "BadCrowd" "part" (C 0)
  e1 : Ek P w K mg base "BadPage" "value" (C 1)
  e2 : Ek P w K mg base "BadRule" "part" (C 2)
  e3 : Ek P w K mg base "BadPair" "value" (C 3)
  e4 : Ek P w K mg base "BadMark" "value" (C 4)
  e5 : Ek P w K mg base "BadArgument" "value" (C 5)
  e6 : Ek P w K mg base "BadNumber" "number" (C 6)
  e7 : Ek P w K mg base "BadChange" "value" (C 7)
  e8 : Ek P w K mg base "BadCommand" "command" (C 8)
  e9 : Ek P w K mg base "BadText" "line" (C 9)
  e10 : Ek P w K mg base "TooMany" "most" (C 10)
  e11 : Ek P w K mg base "NotThere" "word" (C 11)
/-- the twelve errors of one value -/
def RowsAt (C : Nat → Addr) (H : Hp) (v : V) (es : List V) : Prop := es.length = 12 ∧ ∀ (i : Nat) (e : V), es[i]? = some e → Er1 H (C i) (fld i) v e
theorem RowsAt.same {C : Nat → Addr} {H H2 : Hp} {v : V} {es : List V} (r : RowsAt C H v es) (s : Same H H2) : RowsAt C H2 v es := ⟨r.1, fun i e h => (r.2 i e h).same s⟩
theorem rows_of {C : Nat → Addr} {H : Hp} {v e0 e1 e2 e3 e4 e5 e6 e7 e8 e9 e10 e11 : V} (r0 : Er1 H (C 0) (fld 0) v e0) (r1 : Er1 H (C 1) (fld 1) v e1) (r2 : Er1 H (C 2) (fld 2) v e2) (r3 : Er1 H (C 3) (fld 3) v e3) (r4 : Er1 H (C 4) (fld 4) v e4) (r5 : Er1 H (C 5) (fld 5) v e5) (r6 : Er1 H (C 6) (fld 6) v e6) (r7 : Er1 H (C 7) (fld 7) v e7) (r8 : Er1 H (C 8) (fld 8) v e8) (r9 : Er1 H (C 9) (fld 9) v e9) (r10 : Er1 H (C 10) (fld 10) v e10) (r11 : Er1 H (C 11) (fld 11) v e11) : RowsAt C H v [e0, e1, e2, e3, e4, e5, e6, e7, e8, e9, e10, e11] :=
  ⟨rfl, fun i e h => match i, h with
    | 0, h => Option.some.inj h ▸ r0
    | 1, h => Option.some.inj h ▸ r1
    | 2, h => Option.some.inj h ▸ r2
    | 3, h => Option.some.inj h ▸ r3
    | 4, h => Option.some.inj h ▸ r4
    | 5, h => Option.some.inj h ▸ r5
    | 6, h => Option.some.inj h ▸ r6
    | 7, h => Option.some.inj h ▸ r7
    | 8, h => Option.some.inj h ▸ r8
    | 9, h => Option.some.inj h ▸ r9
    | 10, h => Option.some.inj h ▸ r10
    | 11, h => Option.some.inj h ▸ r11
    | n + 12, h => by simp at h⟩
def spMade (C : Nat → Addr) : Sp := fun vs H Q _ => ∃ v, vs = [v] ∧ ∀ H2 l es, Same H H2 → H2 l = some (.lst es) → RowsAt C H2 v es → Q (.ref l) H2
section
variable {P : Program} {w : World} {K : PySem.W.Frag} {mg : Str → Option Value} {base : Heap}

theorem ok_MadeErrors {f : Addr} {fd : FuncData} {C : Nat → Addr} (F : Fun K "_law_made_errors" "_law_made_errors" sMadeErrors f fd) (E : Es P w K mg base C) : FnOk P w K mg base CX0 3 f fd ["_law_thing"] (spMade C) := by
  refine F.ok scMadeErrors (fun vs H Q E h => ?_) (fun cdv A outer s H vs Q _ hr h => ?_)
  · obtain ⟨v, rfl, _⟩ := h
    rfl
  · obtain ⟨v, rfl, q⟩ := h
    refine ⟨_, pss_cons (ps_set (i := 1) scMadeErrors.nd rfl (.inl rfl) (pe_lst (pa_cons (pe_mkP E.e0 hr (by rfl) (pv 0)) (pa_cons (pe_mkP E.e1 hr (by rfl) (pv 0)) (pa_cons (pe_mkP E.e2 hr (by rfl) (pv 0)) (pa_cons (pe_mkP E.e3 hr (by rfl) (pv 0)) (pa_cons (pe_mkP E.e4 hr (by rfl) (pv 0)) (pa_cons (pe_mkP E.e5 hr (by rfl) (pv 0)) pa_nil))))))))
      (pss_cons (ps_set (i := 1) scMadeErrors.nd rfl (.inl rfl) (pe_op op_cat (pv 1) (pe_lst (pa_cons (pe_mkP E.e6 hr (by rfl) (pv 0)) (pa_cons (pe_mkP E.e7 hr (by rfl) (pv 0)) (pa_cons (pe_mkP E.e8 hr (by rfl) (pv 0)) (pa_cons (pe_mkP E.e9 hr (by rfl) (pv 0)) pa_nil)))))))
      (pss_one (ps_ret (pe_op op_cat (pv 1) (pe_lst (pa_cons (pe_mkP E.e10 hr (by rfl) (pv 0)) (pa_cons (pe_mkP E.e11 hr (by rfl) (pv 0)) pa_nil))))))), ?_⟩
    refine ⟨_, rfl, fun e0 G0 s0 r0 => ⟨_, rfl, fun e1 G1 s1 r1 => ⟨_, rfl, fun e2 G2 s2 r2 => ⟨_, rfl, fun e3 G3 s3 r3 => ⟨_, rfl, fun e4 G4 s4 r4 => ⟨_, rfl, fun e5 G5 s5 r5 => ⟨(by show 6 ≤ sizeLine; decide), fun p np => ?_⟩⟩⟩⟩⟩⟩⟩
    generalize hp0 : upd G5 p _ = L0
    have sp0 : Same G5 L0 := hp0 ▸ same_new np
    have lp0 : L0 p = some (.lst [e0, e1, e2, e3, e4, e5]) := hp0 ▸ upd_same
    refine ⟨_, rfl, ⟨_, rfl, fun e6 G6 s6 r6 => ⟨_, rfl, fun e7 G7 s7 r7 => ⟨_, rfl, fun e8 G8 s8 r8 => ⟨_, rfl, fun e9 G9 s9 r9 => ⟨(by show 4 ≤ sizeLine; decide), fun b1 nb1 => ?_⟩⟩⟩⟩⟩⟩
    generalize hb1 : upd G9 b1 _ = M1
    have sb1 : Same G9 M1 := hb1 ▸ same_new nb1
    have lb1 : M1 b1 = some (.lst [e6, e7, e8, e9]) := hb1 ▸ upd_same
    refine ⟨_, _, _, _, rfl, rfl, (s6.trans (s7.trans (s8.trans (s9.trans sb1)))) _ _ lp0, lb1, (by show 10 ≤ sizeLine; decide), fun p1 np1 => ?_⟩
    generalize hp1 : upd M1 p1 _ = L1
    have sp1 : Same M1 L1 := hp1 ▸ same_new np1
    have lp1 : L1 p1 = some (.lst [e0, e1, e2, e3, e4, e5, e6, e7, e8, e9]) := hp1 ▸ upd_same
    refine ⟨_, rfl, ⟨_, rfl, fun e10 G10 s10 r10 => ⟨_, rfl, fun e11 G11 s11 r11 => ⟨(by show 2 ≤ sizeLine; decide), fun b2 nb2 => ?_⟩⟩⟩⟩
    generalize hb2 : upd G11 b2 _ = M2
    have sb2 : Same G11 M2 := hb2 ▸ same_new nb2
    have lb2 : M2 b2 = some (.lst [e10, e11]) := hb2 ▸ upd_same
    refine ⟨_, _, _, _, rfl, rfl, (s10.trans (s11.trans sb2)) _ _ lp1, lb2, (by show 12 ≤ sizeLine; decide), fun p2 np2 => ?_⟩
    generalize hp2 : upd M2 p2 _ = L2
    have sp2 : Same M2 L2 := hp2 ▸ same_new np2
    have lp2 : L2 p2 = some (.lst [e0, e1, e2, e3, e4, e5, e6, e7, e8, e9, e10, e11]) := hp2 ▸ upd_same
    have tM2 : Same M2 L2 := sp2
    have tG11 : Same G11 L2 := sb2.trans tM2
    have tG10 : Same G10 L2 := s11.trans tG11
    have tL1 : Same L1 L2 := s10.trans tG10
    have tM1 : Same M1 L2 := sp1.trans tL1
    have tG9 : Same G9 L2 := sb1.trans tM1
    have tG8 : Same G8 L2 := s9.trans tG9
    have tG7 : Same G7 L2 := s8.trans tG8
    have tG6 : Same G6 L2 := s7.trans tG7
    have tL0 : Same L0 L2 := s6.trans tG6
    have tG5 : Same G5 L2 := sp0.trans tL0
    have tG4 : Same G4 L2 := s5.trans tG5
    have tG3 : Same G3 L2 := s4.trans tG4
    have tG2 : Same G2 L2 := s3.trans tG3
    have tG1 : Same G1 L2 := s2.trans tG2
    have tG0 : Same G0 L2 := s1.trans tG1
    have tH : Same H L2 := s0.trans tG0
    exact q L2 _ _ tH lp2 (rows_of (r0.same tG0) (r1.same tG1) (r2.same tG2) (r3.same tG3) (r4.same tG4) (r5.same tG5) (r6.same tG6) (r7.same tG7) (r8.same tG8) (r9.same tG9) (r10.same tG10) (r11.same tG11))
theorem ok_NamedErrors {f : Addr} {fd : FuncData} {C : Nat → Addr} (F : Fun K "_law_named_errors" "_law_named_errors" sNamedErrors f fd) (E : Es P w K mg base C) : FnOk P w K mg base CX0 3 f fd ["_law_thing"] (spMade C) := by
  refine F.ok scNamedErrors (fun vs H Q E h => ?_) (fun cdv A outer s H vs Q _ hr h => ?_)
  · obtain ⟨v, rfl, _⟩ := h
    rfl
  · obtain ⟨v, rfl, q⟩ := h
    refine ⟨_, pss_cons (ps_set (i := 1) scNamedErrors.nd rfl (.inl rfl) (pe_lst (pa_cons (pe_mkN E.e0 hr (by rfl) (pv 0)) (pa_cons (pe_mkN E.e1 hr (by rfl) (pv 0)) (pa_cons (pe_mkN E.e2 hr (by rfl) (pv 0)) (pa_cons (pe_mkN E.e3 hr (by rfl) (pv 0)) pa_nil))))))
      (pss_cons (ps_set (i := 1) scNamedErrors.nd rfl (.inl rfl) (pe_op op_cat (pv 1) (pe_lst (pa_cons (pe_mkN E.e4 hr (by rfl) (pv 0)) (pa_cons (pe_mkN E.e5 hr (by rfl) (pv 0)) (pa_cons (pe_mkN E.e6 hr (by rfl) (pv 0)) (pa_cons (pe_mkN E.e7 hr (by rfl) (pv 0)) pa_nil)))))))
      (pss_one (ps_ret (pe_op op_cat (pv 1) (pe_lst (pa_cons (pe_mkN E.e8 hr (by rfl) (pv 0)) (pa_cons (pe_mkN E.e9 hr (by rfl) (pv 0)) (pa_cons (pe_mkN E.e10 hr (by rfl) (pv 0)) (pa_cons (pe_mkN E.e11 hr (by rfl) (pv 0)) pa_nil))))))))), ?_⟩
    refine ⟨_, rfl, fun e0 G0 s0 r0 => ⟨_, rfl, fun e1 G1 s1 r1 => ⟨_, rfl, fun e2 G2 s2 r2 => ⟨_, rfl, fun e3 G3 s3 r3 => ⟨(by show 4 ≤ sizeLine; decide), fun p np => ?_⟩⟩⟩⟩⟩
    generalize hp0 : upd G3 p _ = L0
    have sp0 : Same G3 L0 := hp0 ▸ same_new np
    have lp0 : L0 p = some (.lst [e0, e1, e2, e3]) := hp0 ▸ upd_same
    refine ⟨_, rfl, ⟨_, rfl, fun e4 G4 s4 r4 => ⟨_, rfl, fun e5 G5 s5 r5 => ⟨_, rfl, fun e6 G6 s6 r6 => ⟨_, rfl, fun e7 G7 s7 r7 => ⟨(by show 4 ≤ sizeLine; decide), fun b1 nb1 => ?_⟩⟩⟩⟩⟩⟩
    generalize hb1 : upd G7 b1 _ = M1
    have sb1 : Same G7 M1 := hb1 ▸ same_new nb1
    have lb1 : M1 b1 = some (.lst [e4, e5, e6, e7]) := hb1 ▸ upd_same
    refine ⟨_, _, _, _, rfl, rfl, (s4.trans (s5.trans (s6.trans (s7.trans sb1)))) _ _ lp0, lb1, (by show 8 ≤ sizeLine; decide), fun p1 np1 => ?_⟩
    generalize hp1 : upd M1 p1 _ = L1
    have sp1 : Same M1 L1 := hp1 ▸ same_new np1
    have lp1 : L1 p1 = some (.lst [e0, e1, e2, e3, e4, e5, e6, e7]) := hp1 ▸ upd_same
    refine ⟨_, rfl, ⟨_, rfl, fun e8 G8 s8 r8 => ⟨_, rfl, fun e9 G9 s9 r9 => ⟨_, rfl, fun e10 G10 s10 r10 => ⟨_, rfl, fun e11 G11 s11 r11 => ⟨(by show 4 ≤ sizeLine; decide), fun b2 nb2 => ?_⟩⟩⟩⟩⟩⟩
    generalize hb2 : upd G11 b2 _ = M2
    have sb2 : Same G11 M2 := hb2 ▸ same_new nb2
    have lb2 : M2 b2 = some (.lst [e8, e9, e10, e11]) := hb2 ▸ upd_same
    refine ⟨_, _, _, _, rfl, rfl, (s8.trans (s9.trans (s10.trans (s11.trans sb2)))) _ _ lp1, lb2, (by show 12 ≤ sizeLine; decide), fun p2 np2 => ?_⟩
    generalize hp2 : upd M2 p2 _ = L2
    have sp2 : Same M2 L2 := hp2 ▸ same_new np2
    have lp2 : L2 p2 = some (.lst [e0, e1, e2, e3, e4, e5, e6, e7, e8, e9, e10, e11]) := hp2 ▸ upd_same
    have tM2 : Same M2 L2 := sp2
    have tG11 : Same G11 L2 := sb2.trans tM2
    have tG10 : Same G10 L2 := s11.trans tG11
    have tG9 : Same G9 L2 := s10.trans tG10
    have tG8 : Same G8 L2 := s9.trans tG9
    have tL1 : Same L1 L2 := s8.trans tG8
    have tM1 : Same M1 L2 := sp1.trans tL1
    have tG7 : Same G7 L2 := sb1.trans tM1
    have tG6 : Same G6 L2 := s7.trans tG7
    have tG5 : Same G5 L2 := s6.trans tG6
    have tG4 : Same G4 L2 := s5.trans tG5
    have tL0 : Same L0 L2 := s4.trans tG4
    have tG3 : Same G3 L2 := sp0.trans tL0
    have tG2 : Same G2 L2 := s3.trans tG3
    have tG1 : Same G1 L2 := s2.trans tG2
    have tG0 : Same G0 L2 := s1.trans tG1
    have tH : Same H L2 := s0.trans tG0
    exact q L2 _ _ tH lp2 (rows_of (r0.same tG0) (r1.same tG1) (r2.same tG2) (r3.same tG3) (r4.same tG4) (r5.same tG5) (r6.same tG6) (r7.same tG7) (r8.same tG8) (r9.same tG9) (r10.same tG10) (r11.same tG11))
end
structure Tk (mg : Str → Option Value) : Prop where
  isi : mg "isinstance" = none
  repr : mg "repr" = none
  enum : mg "enumerate" = none
  ve : mg "ValueError" = none
  oe : mg "OverflowError" = none
  le : mg "LookupError" = none
theorem held_same {H H2 : Hp} {a C : Addr} (h : Held H a C) (s : Same H H2) : Held H2 a C := by
  rcases h with ⟨d, h1, h2⟩ | h
  · exact .inl ⟨d, s _ _ h1, fun dx e => let ⟨fs, h3⟩ := h2 dx e; ⟨fs, s _ _ h3⟩⟩
  · exact .inr (s _ _ h)
theorem er_held {H : Hp} {C : Addr} {f : Str} {v e : V} (r : Er1 H C f v e) : ∃ a, e = .ref a ∧ Held H a C := by
  obtain ⟨a, d, e1, h1, h2⟩ := r
  exact ⟨a, e1, .inl ⟨_, h1, fun dx e => by cases e; exact ⟨_, h2⟩⟩⟩
def spPick : Sp := fun vs H Q _ => ∃ (pl l : Addr) (xs : List V), vs = [.ref pl, .ref l] ∧ Pool H pl ∧ H l = some (.lst xs) ∧ l ≠ pl ∧ 1 ≤ xs.length ∧ xs.length ≤ 1000 ∧ ∀ H2 y, y ∈ xs → Pool H2 pl → But pl H H2 → Q y H2
def spKinds (K : PySem.W.Frag) (C : Nat → Addr) : Sp := fun vs H Q _ => ∃ (a D : Addr) (kb : Nat → Bool), vs = [.ref a] ∧ ExcC K D ∧ Held H a D ∧ (∀ i, i < 12 → PySem.W.kitOne K (.ref D) (.ref (C i)) = some (kb i)) ∧
  ∀ H2 p, Same H H2 → H2 p = some (.lst [.bl (kb 0), .bl (kb 1), .bl (kb 2), .bl (kb 3), .bl (kb 4), .bl (kb 5), .bl (kb 6), .bl (kb 7), .bl (kb 8), .bl (kb 9), .bl (kb 10), .bl (kb 11)]) → Q (.ref p) H2
def spBases (K : PySem.W.Frag) (CM CN : Addr) : Sp := fun vs H Q _ => ∃ (a D : Addr) (b0 b1 b2 b3 b4 : Bool), vs = [.ref a] ∧ ExcC K D ∧ Held H a D ∧ PySem.W.kitOne K (.ref D) (.ref CM) = some b0 ∧ PySem.W.kitOne K (.ref D) (.type "ValueError") = some b1 ∧
  PySem.W.kitOne K (.ref D) (.type "OverflowError") = some b2 ∧ PySem.W.kitOne K (.ref D) (.type "LookupError") = some b3 ∧ PySem.W.kitOne K (.ref D) (.ref CN) = some b4 ∧ ∀ H2 p, Same H H2 → H p = none → H2 p = some (.lst [.bl b0, .bl b1, .bl b2, .bl b3, .bl b4]) → Q (.ref p) H2
def spFields (C : Nat → Addr) : Sp := fun vs H Q _ => ∃ (l : Addr) (es : List V) (v : V), vs = [.ref l] ∧ H l = some (.lst es) ∧ RowsAt C H v es ∧ ∀ H2 p, Same H H2 → H2 p = some (.lst (List.replicate 12 v)) → Q (.ref p) H2
section
variable {P : Program} {w : World} {K : PySem.W.Frag} {mg : Str → Option Value} {base : Heap}

theorem ok_pick {f fD : Addr} {fd fdD : FuncData} (F : Fun K "_law_pick" "_law_pick" sPick f fd) (GD : FnOk P w K mg base CX0 1 fD fdD ["_law_pool", "_law_many"] spDraw) (kD : PySem.W.keepIn K (.ref fD) = true) (bD : Binds K fdD ["_law_pool", "_law_many"] []) (gD : mg "_law_draw" = some (.ref fD)) (B : Bt mg) :
    FnOk P w K mg base CX0 2 f fd ["_law_pool", "_law_some"] spPick := by
  refine F.ok scPick (fun vs H Q E h => ?_) (fun cdv A outer s H vs Q E hr h => ?_)
  · obtain ⟨a, l, xs, rfl, _⟩ := h
    rfl
  · obtain ⟨a, l, xs, rfl, hP, hl, ne, h1, h2, q⟩ := h
    refine ⟨_, pss_one (ps_ret (pe_ix ix_list (pv 1) (pe_call GD hr (by rfl) gD kD bD .nil pass0 (pa_cons (pv 0) (pa_cons (pe_callB call_len_seq (by rfl) B.len PySem.boot_len (pa_cons (pv 1) pa_nil)) pa_nil))) (fun _ _ => rfl))), ?_⟩
    refine ⟨_, rfl, _, rfl, _, rfl, l, xs, rfl, .inl (SqL.of hl), a, _, rfl, hP, by omega, by omega, fun r H2 r0 r1 hP2 hB => ?_⟩
    have hr2 : r.toNat < xs.length := by omega
    refine ⟨l, xs, r, xs[r.toNat], rfl, rfl, SqL.of (hB _ _ ne hl), ?_, q _ _ (List.getElem_mem hr2) hP2 hB⟩
    obtain ⟨n, rfl⟩ : ∃ n : Nat, r = (n : Int) := ⟨r.toNat, by omega⟩
    exact atI_nat (List.getElem?_eq_getElem hr2)
theorem ok_kinds {f : Addr} {fd : FuncData} {C : Nat → Addr} (F : Fun K "_law_kinds" "_law_kinds" sKinds f fd) (E : Es P w K mg base C) (T : Tk mg) : FnOk P w K mg base CX0 1 f fd ["_law_one"] (spKinds K C) := by
  refine F.ok scKinds (fun vs H Q E h => ?_) (fun cdv A outer s H vs Q _ hr h => ?_)
  · obtain ⟨a, D, kb, rfl, _⟩ := h
    rfl
  · obtain ⟨a, D, kb, rfl, xc, hh, kit, q⟩ := h
    refine ⟨_, pss_cons (ps_set (i := 1) scKinds.nd rfl (.inl rfl) (pe_lst (pa_cons (pe_callB call_isH (by rfl) T.isi (by decide +kernel) (pa_cons (pv 0) (pa_cons (pe_glob (v := .ref (C 0)) (by rfl) E.e0.g rfl) pa_nil))) (pa_cons (pe_callB call_isH (by rfl) T.isi (by decide +kernel) (pa_cons (pv 0) (pa_cons (pe_glob (v := .ref (C 1)) (by rfl) E.e1.g rfl) pa_nil))) (pa_cons (pe_callB call_isH (by rfl) T.isi (by decide +kernel) (pa_cons (pv 0) (pa_cons (pe_glob (v := .ref (C 2)) (by rfl) E.e2.g rfl) pa_nil))) (pa_cons (pe_callB call_isH (by rfl) T.isi (by decide +kernel) (pa_cons (pv 0) (pa_cons (pe_glob (v := .ref (C 3)) (by rfl) E.e3.g rfl) pa_nil))) pa_nil))))))
      (pss_cons (ps_set (i := 1) scKinds.nd rfl (.inl rfl) (pe_op op_cat (pv 1) (pe_lst (pa_cons (pe_callB call_isH (by rfl) T.isi (by decide +kernel) (pa_cons (pv 0) (pa_cons (pe_glob (v := .ref (C 4)) (by rfl) E.e4.g rfl) pa_nil))) (pa_cons (pe_callB call_isH (by rfl) T.isi (by decide +kernel) (pa_cons (pv 0) (pa_cons (pe_glob (v := .ref (C 5)) (by rfl) E.e5.g rfl) pa_nil))) (pa_cons (pe_callB call_isH (by rfl) T.isi (by decide +kernel) (pa_cons (pv 0) (pa_cons (pe_glob (v := .ref (C 6)) (by rfl) E.e6.g rfl) pa_nil))) pa_nil))))))
      (pss_cons (ps_set (i := 1) scKinds.nd rfl (.inl rfl) (pe_op op_cat (pv 1) (pe_lst (pa_cons (pe_callB call_isH (by rfl) T.isi (by decide +kernel) (pa_cons (pv 0) (pa_cons (pe_glob (v := .ref (C 7)) (by rfl) E.e7.g rfl) pa_nil))) (pa_cons (pe_callB call_isH (by rfl) T.isi (by decide +kernel) (pa_cons (pv 0) (pa_cons (pe_glob (v := .ref (C 8)) (by rfl) E.e8.g rfl) pa_nil))) (pa_cons (pe_callB call_isH (by rfl) T.isi (by decide +kernel) (pa_cons (pv 0) (pa_cons (pe_glob (v := .ref (C 9)) (by rfl) E.e9.g rfl) pa_nil))) pa_nil))))))
      (pss_one (ps_ret (pe_op op_cat (pv 1) (pe_lst (pa_cons (pe_callB call_isH (by rfl) T.isi (by decide +kernel) (pa_cons (pv 0) (pa_cons (pe_glob (v := .ref (C 10)) (by rfl) E.e10.g rfl) pa_nil))) (pa_cons (pe_callB call_isH (by rfl) T.isi (by decide +kernel) (pa_cons (pv 0) (pa_cons (pe_glob (v := .ref (C 11)) (by rfl) E.e11.g rfl) pa_nil))) pa_nil)))))))), ?_⟩
    have sH : Same H H := Same.refl _
    refine ⟨_, rfl, a, D, _, _, _, rfl, .own _, xc, held_same hh sH, kit 0 (by decide), ⟨_, rfl, a, D, _, _, _, rfl, .own _, xc, held_same hh sH, kit 1 (by decide), ⟨_, rfl, a, D, _, _, _, rfl, .own _, xc, held_same hh sH, kit 2 (by decide), ⟨_, rfl, a, D, _, _, _, rfl, .own _, xc, held_same hh sH, kit 3 (by decide), ⟨(by show 4 ≤ sizeLine; decide), fun p0 np0 => ?_⟩⟩⟩⟩⟩
    generalize hp0 : upd H p0 _ = L0
    have sp0 : Same H L0 := hp0 ▸ same_new np0
    have lp0 : L0 p0 = some (.lst [.bl (kb 0), .bl (kb 1), .bl (kb 2), .bl (kb 3)]) := hp0 ▸ upd_same
    have zp0 : Same H L0 := sH.trans sp0
    refine ⟨_, rfl, ⟨_, rfl, a, D, _, _, _, rfl, .own _, xc, held_same hh zp0, kit 4 (by decide), ⟨_, rfl, a, D, _, _, _, rfl, .own _, xc, held_same hh zp0, kit 5 (by decide), ⟨_, rfl, a, D, _, _, _, rfl, .own _, xc, held_same hh zp0, kit 6 (by decide), ⟨(by show 3 ≤ sizeLine; decide), fun b1 nb1 => ?_⟩⟩⟩⟩⟩
    generalize hb1 : upd L0 b1 _ = M1
    have sb1 : Same L0 M1 := hb1 ▸ same_new nb1
    have lb1 : M1 b1 = some (.lst [.bl (kb 4), .bl (kb 5), .bl (kb 6)]) := hb1 ▸ upd_same
    have zb1 : Same H M1 := zp0.trans sb1
    refine ⟨_, _, _, _, rfl, rfl, sb1 _ _ lp0, lb1, (by show 7 ≤ sizeLine; decide), fun p1 np1 => ?_⟩
    generalize hp1 : upd M1 p1 _ = L1
    have sp1 : Same M1 L1 := hp1 ▸ same_new np1
    have lp1 : L1 p1 = some (.lst [.bl (kb 0), .bl (kb 1), .bl (kb 2), .bl (kb 3), .bl (kb 4), .bl (kb 5), .bl (kb 6)]) := hp1 ▸ upd_same
    have zp1 : Same H L1 := zb1.trans sp1
    refine ⟨_, rfl, ⟨_, rfl, a, D, _, _, _, rfl, .own _, xc, held_same hh zp1, kit 7 (by decide), ⟨_, rfl, a, D, _, _, _, rfl, .own _, xc, held_same hh zp1, kit 8 (by decide), ⟨_, rfl, a, D, _, _, _, rfl, .own _, xc, held_same hh zp1, kit 9 (by decide), ⟨(by show 3 ≤ sizeLine; decide), fun b2 nb2 => ?_⟩⟩⟩⟩⟩
    generalize hb2 : upd L1 b2 _ = M2
    have sb2 : Same L1 M2 := hb2 ▸ same_new nb2
    have lb2 : M2 b2 = some (.lst [.bl (kb 7), .bl (kb 8), .bl (kb 9)]) := hb2 ▸ upd_same
    have zb2 : Same H M2 := zp1.trans sb2
    refine ⟨_, _, _, _, rfl, rfl, sb2 _ _ lp1, lb2, (by show 10 ≤ sizeLine; decide), fun p2 np2 => ?_⟩
    generalize hp2 : upd M2 p2 _ = L2
    have sp2 : Same M2 L2 := hp2 ▸ same_new np2
    have lp2 : L2 p2 = some (.lst [.bl (kb 0), .bl (kb 1), .bl (kb 2), .bl (kb 3), .bl (kb 4), .bl (kb 5), .bl (kb 6), .bl (kb 7), .bl (kb 8), .bl (kb 9)]) := hp2 ▸ upd_same
    have zp2 : Same H L2 := zb2.trans sp2
    refine ⟨_, rfl, ⟨_, rfl, a, D, _, _, _, rfl, .own _, xc, held_same hh zp2, kit 10 (by decide), ⟨_, rfl, a, D, _, _, _, rfl, .own _, xc, held_same hh zp2, kit 11 (by decide), ⟨(by show 2 ≤ sizeLine; decide), fun b3 nb3 => ?_⟩⟩⟩⟩
    generalize hb3 : upd L2 b3 _ = M3
    have sb3 : Same L2 M3 := hb3 ▸ same_new nb3
    have lb3 : M3 b3 = some (.lst [.bl (kb 10), .bl (kb 11)]) := hb3 ▸ upd_same
    have zb3 : Same H M3 := zp2.trans sb3
    refine ⟨_, _, _, _, rfl, rfl, sb3 _ _ lp2, lb3, (by show 12 ≤ sizeLine; decide), fun p3 np3 => ?_⟩
    generalize hp3 : upd M3 p3 _ = L3
    have sp3 : Same M3 L3 := hp3 ▸ same_new np3
    have lp3 : L3 p3 = some (.lst [.bl (kb 0), .bl (kb 1), .bl (kb 2), .bl (kb 3), .bl (kb 4), .bl (kb 5), .bl (kb 6), .bl (kb 7), .bl (kb 8), .bl (kb 9), .bl (kb 10), .bl (kb 11)]) := hp3 ▸ upd_same
    have zp3 : Same H L3 := zb3.trans sp3
    exact q _ _ zp3 lp3
theorem ok_bases {f CM CN : Addr} {fd : FuncData} (F : Fun K "_law_bases" "_law_bases" sBases f fd) (gM : mg "MarksError" = some (.ref CM)) (gN : mg "NothingLeft" = some (.ref CN)) (T : Tk mg) : FnOk P w K mg base CX0 1 f fd ["_law_one"] (spBases K CM CN) := by
  refine F.ok scBases (fun vs H Q E h => ?_) (fun cdv A outer s H vs Q _ hr h => ?_)
  · obtain ⟨a, D, b0, b1, b2, b3, b4, rfl, _⟩ := h
    rfl
  · obtain ⟨a, D, c0, c1, c2, c3, c4, rfl, xc, hh, k0, k1, k2, k3, k4, q⟩ := h
    refine ⟨_, pss_cons (ps_set (i := 1) scBases.nd rfl (.inl rfl) (pe_lst (pa_cons (pe_callB call_isH (by rfl) T.isi (by decide +kernel) (pa_cons (pv 0) (pa_cons (pe_glob (v := .ref CM) (by rfl) gM rfl) pa_nil))) (pa_cons (pe_callB call_isH (by rfl) T.isi (by decide +kernel) (pa_cons (pv 0) (pa_cons (pe_bltn (v := .ty "ValueError") (by rfl) T.ve (by decide +kernel) rfl) pa_nil))) (pa_cons (pe_callB call_isH (by rfl) T.isi (by decide +kernel) (pa_cons (pv 0) (pa_cons (pe_bltn (v := .ty "OverflowError") (by rfl) T.oe (by decide +kernel) rfl) pa_nil))) pa_nil)))))
      (pss_one (ps_ret (pe_op op_cat (pv 1) (pe_lst (pa_cons (pe_callB call_isH (by rfl) T.isi (by decide +kernel) (pa_cons (pv 0) (pa_cons (pe_bltn (v := .ty "LookupError") (by rfl) T.le (by decide +kernel) rfl) pa_nil))) (pa_cons (pe_callB call_isH (by rfl) T.isi (by decide +kernel) (pa_cons (pv 0) (pa_cons (pe_glob (v := .ref CN) (by rfl) gN rfl) pa_nil))) pa_nil)))))), ?_⟩
    have sH : Same H H := Same.refl _
    refine ⟨_, rfl, a, D, _, _, _, rfl, .own _, xc, held_same hh sH, k0, ⟨_, rfl, a, D, _, _, _, rfl, .ty _, xc, held_same hh sH, k1, ⟨_, rfl, a, D, _, _, _, rfl, .ty _, xc, held_same hh sH, k2, ⟨(by show 3 ≤ sizeLine; decide), fun p0 np0 => ?_⟩⟩⟩⟩
    generalize hp0 : upd H p0 _ = L0
    have sp0 : Same H L0 := hp0 ▸ same_new np0
    have lp0 : L0 p0 = some (.lst [.bl c0, .bl c1, .bl c2]) := hp0 ▸ upd_same
    have zp0 : Same H L0 := sH.trans sp0
    refine ⟨_, rfl, ⟨_, rfl, a, D, _, _, _, rfl, .ty _, xc, held_same hh zp0, k3, ⟨_, rfl, a, D, _, _, _, rfl, .own _, xc, held_same hh zp0, k4, ⟨(by show 2 ≤ sizeLine; decide), fun b1 nb1 => ?_⟩⟩⟩⟩
    generalize hb1 : upd L0 b1 _ = M1
    have sb1 : Same L0 M1 := hb1 ▸ same_new nb1
    have lb1 : M1 b1 = some (.lst [.bl c3, .bl c4]) := hb1 ▸ upd_same
    have zb1 : Same H M1 := zp0.trans sb1
    refine ⟨_, _, _, _, rfl, rfl, sb1 _ _ lp0, lb1, (by show 5 ≤ sizeLine; decide), fun p1 np1 => ?_⟩
    generalize hp1 : upd M1 p1 _ = L1
    have sp1 : Same M1 L1 := hp1 ▸ same_new np1
    have lp1 : L1 p1 = some (.lst [.bl c0, .bl c1, .bl c2, .bl c3, .bl c4]) := hp1 ▸ upd_same
    have zp1 : Same H L1 := zb1.trans sp1
    exact q _ _ zp1 (zb1.free np1) lp1
theorem ok_fields {f : Addr} {fd : FuncData} {C : Nat → Addr} (F : Fun K "_law_fields" "_law_fields" sFields f fd) (E : Es P w K mg base C) : FnOk P w K mg base CX0 1 f fd ["_law_rows"] (spFields C) := by
  refine F.ok scFields (fun vs H Q E h => ?_) (fun cdv A outer s H vs Q _ hr h => ?_)
  · obtain ⟨l, es, v, rfl, _⟩ := h
    rfl
  · obtain ⟨l, es, v, rfl, hl, ⟨len, hr2⟩, q⟩ := h
    match es, len with
    | [e0, e1, e2, e3, e4, e5, e6, e7, e8, e9, e10, e11], _ =>
    obtain ⟨a0, d0, rfl, ha0, hd0⟩ := hr2 0 _ rfl
    obtain ⟨a1, d1, rfl, ha1, hd1⟩ := hr2 1 _ rfl
    obtain ⟨a2, d2, rfl, ha2, hd2⟩ := hr2 2 _ rfl
    obtain ⟨a3, d3, rfl, ha3, hd3⟩ := hr2 3 _ rfl
    obtain ⟨a4, d4, rfl, ha4, hd4⟩ := hr2 4 _ rfl
    obtain ⟨a5, d5, rfl, ha5, hd5⟩ := hr2 5 _ rfl
    obtain ⟨a6, d6, rfl, ha6, hd6⟩ := hr2 6 _ rfl
    obtain ⟨a7, d7, rfl, ha7, hd7⟩ := hr2 7 _ rfl
    obtain ⟨a8, d8, rfl, ha8, hd8⟩ := hr2 8 _ rfl
    obtain ⟨a9, d9, rfl, ha9, hd9⟩ := hr2 9 _ rfl
    obtain ⟨a10, d10, rfl, ha10, hd10⟩ := hr2 10 _ rfl
    obtain ⟨a11, d11, rfl, ha11, hd11⟩ := hr2 11 _ rfl
    refine ⟨_, pss_cons (ps_set (i := 1) scFields.nd rfl (.inl rfl) (pe_lst (pa_cons (pe_ecf (f := "part") (pe_ix ix_list (pv 0) pe_int (fun _ _ => rfl))) (pa_cons (pe_ecf (f := "value") (pe_ix ix_list (pv 0) pe_int (fun _ _ => rfl))) (pa_cons (pe_ecf (f := "part") (pe_ix ix_list (pv 0) pe_int (fun _ _ => rfl))) (pa_cons (pe_ecf (f := "value") (pe_ix ix_list (pv 0) pe_int (fun _ _ => rfl))) (pa_cons (pe_ecf (f := "value") (pe_ix ix_list (pv 0) pe_int (fun _ _ => rfl))) (pa_cons (pe_ecf (f := "value") (pe_ix ix_list (pv 0) pe_int (fun _ _ => rfl))) pa_nil))))))))
      (pss_one (ps_ret (pe_op op_cat (pv 1) (pe_lst (pa_cons (pe_ecf (f := "number") (pe_ix ix_list (pv 0) pe_int (fun _ _ => rfl))) (pa_cons (pe_ecf (f := "value") (pe_ix ix_list (pv 0) pe_int (fun _ _ => rfl))) (pa_cons (pe_ecf (f := "command") (pe_ix ix_list (pv 0) pe_int (fun _ _ => rfl))) (pa_cons (pe_ecf (f := "line") (pe_ix ix_list (pv 0) pe_int (fun _ _ => rfl))) (pa_cons (pe_ecf (f := "most") (pe_ix ix_list (pv 0) pe_int (fun _ _ => rfl))) (pa_cons (pe_ecf (f := "word") (pe_ix ix_list (pv 0) pe_int (fun _ _ => rfl))) pa_nil)))))))))), ?_⟩
    have sH : Same H H := Same.refl _
    refine ⟨_, rfl, l, _, _, _, rfl, rfl, SqL.of (sH _ _ hl), rfl, a0, C 0, d0, _, v, rfl, E.e0.xf, E.e0.no, sH _ _ ha0, sH _ _ hd0, rfl, ⟨_, rfl, l, _, _, _, rfl, rfl, SqL.of (sH _ _ hl), rfl, a1, C 1, d1, _, v, rfl, E.e1.xf, E.e1.no, sH _ _ ha1, sH _ _ hd1, rfl, ⟨_, rfl, l, _, _, _, rfl, rfl, SqL.of (sH _ _ hl), rfl, a2, C 2, d2, _, v, rfl, E.e2.xf, E.e2.no, sH _ _ ha2, sH _ _ hd2, rfl, ⟨_, rfl, l, _, _, _, rfl, rfl, SqL.of (sH _ _ hl), rfl, a3, C 3, d3, _, v, rfl, E.e3.xf, E.e3.no, sH _ _ ha3, sH _ _ hd3, rfl, ⟨_, rfl, l, _, _, _, rfl, rfl, SqL.of (sH _ _ hl), rfl, a4, C 4, d4, _, v, rfl, E.e4.xf, E.e4.no, sH _ _ ha4, sH _ _ hd4, rfl, ⟨_, rfl, l, _, _, _, rfl, rfl, SqL.of (sH _ _ hl), rfl, a5, C 5, d5, _, v, rfl, E.e5.xf, E.e5.no, sH _ _ ha5, sH _ _ hd5, rfl, ⟨(by show 6 ≤ sizeLine; decide), fun p0 np0 => ?_⟩⟩⟩⟩⟩⟩⟩
    generalize hp0 : upd H p0 _ = L0
    have sp0 : Same H L0 := hp0 ▸ same_new np0
    have lp0 : L0 p0 = some (.lst [v, v, v, v, v, v]) := hp0 ▸ upd_same
    have zp0 : Same H L0 := sH.trans sp0
    refine ⟨_, rfl, ⟨_, rfl, l, _, _, _, rfl, rfl, SqL.of (zp0 _ _ hl), rfl, a6, C 6, d6, _, v, rfl, E.e6.xf, E.e6.no, zp0 _ _ ha6, zp0 _ _ hd6, rfl, ⟨_, rfl, l, _, _, _, rfl, rfl, SqL.of (zp0 _ _ hl), rfl, a7, C 7, d7, _, v, rfl, E.e7.xf, E.e7.no, zp0 _ _ ha7, zp0 _ _ hd7, rfl, ⟨_, rfl, l, _, _, _, rfl, rfl, SqL.of (zp0 _ _ hl), rfl, a8, C 8, d8, _, v, rfl, E.e8.xf, E.e8.no, zp0 _ _ ha8, zp0 _ _ hd8, rfl, ⟨_, rfl, l, _, _, _, rfl, rfl, SqL.of (zp0 _ _ hl), rfl, a9, C 9, d9, _, v, rfl, E.e9.xf, E.e9.no, zp0 _ _ ha9, zp0 _ _ hd9, rfl, ⟨_, rfl, l, _, _, _, rfl, rfl, SqL.of (zp0 _ _ hl), rfl, a10, C 10, d10, _, v, rfl, E.e10.xf, E.e10.no, zp0 _ _ ha10, zp0 _ _ hd10, rfl, ⟨_, rfl, l, _, _, _, rfl, rfl, SqL.of (zp0 _ _ hl), rfl, a11, C 11, d11, _, v, rfl, E.e11.xf, E.e11.no, zp0 _ _ ha11, zp0 _ _ hd11, rfl, ⟨(by show 6 ≤ sizeLine; decide), fun b1 nb1 => ?_⟩⟩⟩⟩⟩⟩⟩⟩
    generalize hb1 : upd L0 b1 _ = M1
    have sb1 : Same L0 M1 := hb1 ▸ same_new nb1
    have lb1 : M1 b1 = some (.lst [v, v, v, v, v, v]) := hb1 ▸ upd_same
    have zb1 : Same H M1 := zp0.trans sb1
    refine ⟨_, _, _, _, rfl, rfl, sb1 _ _ lp0, lb1, (by show 12 ≤ sizeLine; decide), fun p1 np1 => ?_⟩
    generalize hp1 : upd M1 p1 _ = L1
    have sp1 : Same M1 L1 := hp1 ▸ same_new np1
    have lp1 : L1 p1 = some (.lst [v, v, v, v, v, v, v, v, v, v, v, v]) := hp1 ▸ upd_same
    have zp1 : Same H L1 := zb1.trans sp1
    exact q _ _ zp1 lp1
end
end K01

set_option Elab.async false
set_option linter.all false
set_option maxRecDepth 100000
set_option maxHeartbeats 4000000
namespace K01
open PySem PySem.Spec PyProof.Rows L2
def ns01 : List Str := ["_law_script", "_law_k", "_law_pool", "_law_menu", "_law_thing", "_law_due", "_law_rows", "_law_one", "_law_at", "_law_where"]
def spLaw (K : PySem.W.Frag) : Sp := fun vs H Q _ => ∃ (a : Addr) (ns : List Int), vs = [.ref a] ∧ SqL K H a (ns.map V.int) ∧ ns.length ≤ 63 ∧ ∀ H2, Q (.bl true) H2
def menuD : List PyData := [.none, .int 0, .int (-5), .int (10 ^ 30), .bool true, .str "", .str "word", .tuple [], .tuple [.str "a", .int 1], .list [], .list [.list [.int 2]], .dict [], .dict [(.str "m", .int 1)]]
theorem menu_ok : ∀ d ∈ menuD, d.showable = true ∧ PyData.depthAll (List.replicate 12 d) ≤ 100 ∧ (listText (PyData.shownAll (List.replicate 12 d))).length ≤ sizeLine := by decide +kernel
def bs (i : Nat) : List Bool := [decide (i < 10), decide (i < 10), decide (i = 10), decide (i = 11), false]
def dueD : List PyData := (List.range 12).map fun i => .list ((bs i).map .bool)
theorem due_at {i : Nat} {e : PyData} (h : dueD[i]? = some e) : e = .list ((bs i).map .bool) := by
  unfold dueD at h
  rw [List.getElem?_map] at h
  rcases Nat.lt_or_ge i 12 with z | z
  · rw [List.getElem?_range z] at h
    exact (Option.some.inj h).symm
  · rw [List.getElem?_eq_none (by rw [List.length_range]; exact z)] at h
    cases h
def kinds (i : Nat) : List Bool := (List.range 12).map fun j => decide (j = i)
theorem kinds_ok : ∀ i, i < 12 → SeqAt.shaped (.list ((kinds i).map .bool)) = true ∧ PyData.eqv (.list ((kinds i).map .bool)) (.list ((kinds i).map .bool)) = true := by decide +kernel
theorem walk_r12 : Walk (Itr 0 12) 12 (fun _ => True) (YAt ((List.range 12).map fun i : Nat => V.int (0 + (i : Int)))) := by
  refine walk_range.mono (fun _ h => h) fun i H x H' hi _ y => ?_
  obtain ⟨e1, e2⟩ := y
  refine ⟨e1, ?_⟩
  rw [List.getElem?_map, List.getElem?_range hi, e2]
  rfl
def left5 : List Bool := [false, false, false, true, true]
theorem left_ok : SeqAt.shaped (.list (left5.map .bool)) = true ∧ PyData.eqv (.list (left5.map .bool)) (.list (left5.map .bool)) = true := by decide +kernel
def mark5 : List Bool := [true, true, false, false, false]
theorem mark_ok : SeqAt.shaped (.list (mark5.map .bool)) = true ∧ PyData.eqv (.list (mark5.map .bool)) (.list (mark5.map .bool)) = true := by decide +kernel
theorem due_shaped : SeqAt.shaped (.list dueD) = true := by decide +kernel
theorem due_eqv : PyData.eqv (.list dueD) (.list dueD) = true := by decide +kernel
section
variable {P : Program} {w : World} {K : PySem.W.Frag} {mg : Str → Option Value} {base : Heap}
theorem ok_law {f fO fP fM fN fF fK fB CM CN : Addr} {fd fdO fdP fdM fdN fdF fdK fdB : FuncData} {C : Nat → Addr} (F : Fun K "law" "law" sLaw f fd) (B : Bt mg) (T : Tk mg) (E : Es P w K mg base C)
    (GO : FnOk P w K mg base CX0 1 fO fdO ["_law_script", "_law_k"] (spOpened K)) (kO : PySem.W.keepIn K (.ref fO) = true) (bO : Binds K fdO ["_law_script", "_law_k"] []) (gO : mg "_law_opened" = some (.ref fO))
    (GP : FnOk P w K mg base CX0 2 fP fdP ["_law_pool", "_law_some"] spPick) (kP : PySem.W.keepIn K (.ref fP) = true) (bP : Binds K fdP ["_law_pool", "_law_some"] []) (gP : mg "_law_pick" = some (.ref fP))
    (GM : FnOk P w K mg base CX0 3 fM fdM ["_law_thing"] (spMade C)) (kM : PySem.W.keepIn K (.ref fM) = true) (bM : Binds K fdM ["_law_thing"] []) (gMa : mg "_law_made_errors" = some (.ref fM))
    (GN : FnOk P w K mg base CX0 3 fN fdN ["_law_thing"] (spMade C)) (kN : PySem.W.keepIn K (.ref fN) = true) (bN : Binds K fdN ["_law_thing"] []) (gNa : mg "_law_named_errors" = some (.ref fN))
    (GF : FnOk P w K mg base CX0 1 fF fdF ["_law_rows"] (spFields C)) (kF : PySem.W.keepIn K (.ref fF) = true) (bF : Binds K fdF ["_law_rows"] []) (gF : mg "_law_fields" = some (.ref fF))
    (GK : FnOk P w K mg base CX0 1 fK fdK ["_law_one"] (spKinds K C)) (kK : PySem.W.keepIn K (.ref fK) = true) (bK : Binds K fdK ["_law_one"] []) (gK : mg "_law_kinds" = some (.ref fK))
    (GB : FnOk P w K mg base CX0 1 fB fdB ["_law_one"] (spBases K CM CN)) (kB : PySem.W.keepIn K (.ref fB) = true) (bB : Binds K fdB ["_law_one"] []) (gB : mg "_law_bases" = some (.ref fB))
    (gM : mg "MarksError" = some (.ref CM)) (gN : mg "NothingLeft" = some (.ref CN)) (cM : PySem.W.keepIn K (.ref CM) = true) (cN : PySem.W.keepIn K (.ref CN) = true)
    (xM : PySem.W.excIn K CM [.type "ValueError", .type "Exception", .type "BaseException", .type "object"] "ValueError.__new__" = true)
    (xN : PySem.W.excIn K CN [.type "LookupError", .type "Exception", .type "BaseException", .type "object"] "LookupError.__new__" = true) (ecM : ExcC K CM) (ecN : ExcC K CN)
    (ec : ∀ i, i < 12 → ExcC K (C i)) (kit : ∀ i, i < 12 → ∀ j, j < 12 → PySem.W.kitOne K (.ref (C i)) (.ref (C j)) = some (decide (j = i)))
    (kit0 : ∀ i, i < 12 → PySem.W.kitOne K (.ref (C i)) (.ref CM) = some (decide (i < 10))) (kit1 : ∀ i, i < 12 → PySem.W.kitOne K (.ref (C i)) (.type "ValueError") = some (decide (i < 10)))
    (kit2 : ∀ i, i < 12 → PySem.W.kitOne K (.ref (C i)) (.type "OverflowError") = some (decide (i = 10))) (kit3 : ∀ i, i < 12 → PySem.W.kitOne K (.ref (C i)) (.type "LookupError") = some (decide (i = 11)))
    (kit4 : ∀ i, i < 12 → PySem.W.kitOne K (.ref (C i)) (.ref CN) = some false)
    (kn0 : PySem.W.kitOne K (.ref CN) (.ref CM) = some false) (kn1 : PySem.W.kitOne K (.ref CN) (.type "ValueError") = some false) (kn2 : PySem.W.kitOne K (.ref CN) (.type "OverflowError") = some false) (kn3 : PySem.W.kitOne K (.ref CN) (.type "LookupError") = some true)
    (kn4 : PySem.W.kitOne K (.ref CN) (.ref CN) = some true) (kn5 : PySem.W.kitOne K (.ref CN) (.ref (C 11)) = some false)
    (km0 : PySem.W.kitOne K (.ref CM) (.ref CM) = some true) (km1 : PySem.W.kitOne K (.ref CM) (.type "ValueError") = some true) (km2 : PySem.W.kitOne K (.ref CM) (.type "OverflowError") = some false) (km3 : PySem.W.kitOne K (.ref CM) (.type "LookupError") = some false)
    (km4 : PySem.W.kitOne K (.ref CM) (.ref CN) = some false) : FnG P w K mg base CX0 4 f fd ["_law_script"] (spLaw K) := by
  refine F.okG scLaw (fun vs H Q E h => ?_) (fun cdv A outer s H vs Q _ hg hr h => ?_)
  · obtain ⟨a, ns, rfl, _⟩ := h
    rfl
  · obtain ⟨a, ns, rfl, hS, hlen, q⟩ := h
    have hu : (A.deeper (envOfC "law" (defScope sLaw) s.heap.objs.size f cdv)).units + 200 < cLine := by
      have := hr.un
      omega
    refine ⟨_, pss_cons (ps_for PassesOwn.never rfl (pi_range1 (by rfl) B.range (pa_cons (pe_callB (call_max2 rfl) (by rfl) B.max (by decide +kernel) (pa_cons pe_int (pa_cons (pe_callB (call_min2 rfl) (by rfl) B.min (by decide +kernel) (pa_cons (pe_callB call_len_seq (by rfl) B.len PySem.boot_len (pa_cons (pv 0) pa_nil)) (pa_cons pe_int pa_nil))) pa_nil))) pa_nil)) (pg_name (i := 1) scLaw.nd rfl (.inl rfl))
        (pss_cons (ps_set (i := 2) scLaw.nd rfl (.inl rfl) (pe_call GO (hr.mono (by decide)) (by rfl) gO kO bO .nil pass0 (pa_cons (pv 0) (pa_cons (pv 1) pa_nil))))
        (pss_cons (ps_set (i := 3) scLaw.nd rfl (.inl rfl) (pe_lst (pa_cons (pe_non) (pa_cons (pe_int) (pa_cons (pe_un un_neg pe_int) (pa_cons (pe_op op_pow pe_int pe_int) (pa_cons (pe_bl) (pa_cons (pe_str) (pa_cons (pe_str) (pa_cons (pe_tup pa_nil) (pa_cons (pe_tup (pa_cons pe_str (pa_cons pe_int pa_nil))) (pa_cons (pe_lst pa_nil) (pa_cons (pe_lst (pa_cons (pe_lst (pa_cons pe_int pa_nil)) pa_nil)) (pa_cons (pe_dnewK) (pa_cons (pe_disp (pps_cons pe_str pe_int pps_nil) (by rfl) (by rfl) (fun z => by cases z) (by decide)) pa_nil)))))))))))))))
        (pss_cons (ps_set (i := 4) scLaw.nd rfl (.inl rfl) (pe_call GP (hr.mono (by decide)) (by rfl) gP kP bP .nil pass0 (pa_cons (pv 2) (pa_cons (pv 3) pa_nil))))
        (pss_cons (ps_set (i := 5) scLaw.nd rfl (.inl rfl) (pe_op op_rep (pe_lst (pa_cons (pe_lst (pa_cons (pe_bl) (pa_cons (pe_bl) (pa_cons (pe_bl) (pa_cons (pe_bl) (pa_cons (pe_bl) pa_nil)))))) pa_nil)) pe_int))
        (pss_cons (ps_set (i := 5) scLaw.nd rfl (.inl rfl) (pe_op op_cat (pv 5) (pe_lst (pa_cons (pe_lst (pa_cons (pe_bl) (pa_cons (pe_bl) (pa_cons (pe_bl) (pa_cons (pe_bl) (pa_cons (pe_bl) pa_nil)))))) (pa_cons (pe_lst (pa_cons (pe_bl) (pa_cons (pe_bl) (pa_cons (pe_bl) (pa_cons (pe_bl) (pa_cons (pe_bl) pa_nil)))))) pa_nil)))))
        (pss_cons (ps_for PassesOwn.never rfl (pi_list (pe_lst (pa_cons (pe_call GM (hr.mono (by decide)) (by rfl) gMa kM bM .nil pass0 (pa_cons (pv 4) pa_nil)) (pa_cons (pe_call GN (hr.mono (by decide)) (by rfl) gNa kN bN .nil pass0 (pa_cons (pv 4) pa_nil)) pa_nil)))) (pg_name (i := 6) scLaw.nd rfl (.inl rfl))
          (pss_cons (ps_if (PW.pt (pw_or (pt_cmpR op_ne (pe_callB (call_reprL hg (by exact hu)) (by rfl) T.repr (by decide +kernel) (pa_cons (pe_call GF (hr.mono (by decide)) (by rfl) gF kF bF .nil pass0 (pa_cons (pv 6) pa_nil)) pa_nil)) (pe_callB (call_reprL hg (by exact hu)) (by rfl) T.repr (by decide +kernel) (pa_cons (pe_op op_rep (pe_lst (pa_cons (pv 4) pa_nil)) pe_int) pa_nil)) (nomark _))
            (pw_or1 (pt_cmpR (op_neD hr.units) (pe_lc (own := [("_law_one", 7)]) (g := gName 7) (by rfl) scLaw.nd (pi_list (pv 6)) (blkOk_by (own := [("_law_one", 7)]) (N := ns01) (sc := defScope sLaw) (by decide +kernel))
            (fun _ _ _ _ _ => pg_name (i := 7) scLaw.nd rfl (Or.inl rfl)) (fun _ _ _ _ _ => pts_nil) (fun _ _ _ _ _ => pe_call GB (Room.mono (by exact hr) (by decide)) (by rfl) gB kB bB .nil pass0 (pa_cons (pv 7) pa_nil))) (pv 5) (nomark _))))) (pss_one (ps_ret pe_bl)) pss_nil)
          (pss_one (ps_for PassesOwn.never rfl (pi_enum (by rfl) T.enum (pa_cons (pv 6) pa_nil)) (pg_tup rfl (pgs_cons (pg_name (i := 8) scLaw.nd rfl (.inr rfl)) (pgs_cons (pg_name (i := 7) scLaw.nd rfl (.inl rfl)) pgs_nil)))
            (pss_one (ps_if (pt_cmpR (op_neD hr.units) (pe_call GK (hr.mono (by decide)) (by rfl) gK kK bK .nil pass0 (pa_cons (pv 7) pa_nil)) (pe_lc (own := [("_law_where", 9)]) (g := gName 9) (by rfl) scLaw.nd (pi_range1 (by rfl) B.range (pa_cons pe_int pa_nil)) (blkOk_by (own := [("_law_where", 9)]) (N := ns01) (sc := defScope sLaw) (by decide +kernel))
            (fun _ _ _ _ _ => pg_name (i := 9) scLaw.nd rfl (Or.inl rfl)) (fun _ _ _ _ _ => pts_nil) (fun _ _ _ _ _ => pe_cmpR op_eq (pv 9) (pv 8) (nomark _))) (nomark _)) (pss_one (ps_ret pe_bl)) pss_nil))))))
        (pss_cons (ps_if (PW.pt (pw_or (pt_cmpR (op_neD hr.units) (pe_call GB (hr.mono (by decide)) (by rfl) gB kB bB .nil pass0 (pa_cons (pe_exc0 PySem.F.excBase_LookupError xN gN cN (by rfl)) pa_nil)) (pe_lst (pa_cons (pe_bl) (pa_cons (pe_bl) (pa_cons (pe_bl) (pa_cons (pe_bl) (pa_cons (pe_bl) pa_nil)))))) (nomark _)) (pw_or1 (pt_val (pe_callB call_isH (by rfl) T.isi (by decide +kernel) (pa_cons (pe_exc0 PySem.F.excBase_LookupError xN gN cN (by rfl)) (pa_cons (pe_glob (v := .ref (C 11)) (by rfl) E.e11.g rfl) pa_nil))))))) (pss_one (ps_ret pe_bl)) pss_nil)
        (pss_one (ps_if (pt_cmpR (op_neD hr.units) (pe_call GB (hr.mono (by decide)) (by rfl) gB kB bB .nil pass0 (pa_cons (pe_exc1 PySem.F.excBase_ValueError xM gM cM (by rfl) pe_str) pa_nil)) (pe_lst (pa_cons (pe_bl) (pa_cons (pe_bl) (pa_cons (pe_bl) (pa_cons (pe_bl) (pa_cons (pe_bl) pa_nil)))))) (nomark _)) (pss_one (ps_ret pe_bl)) pss_nil))))))))))
      (pss_one (ps_ret pe_bl)), ?_⟩
    have hR := rng_le ((ns.map V.int).length : Int) 3 (by decide)
    refine ⟨_, rfl, a, _, rfl, .inl hS, _, _, rfl, _, _, rfl, _, rfl, by omega, by omega, ?_⟩
    refine for_range (lo := 0) (fun i σ H' => ∃ v1 v2 v3 v4 v5 v6 v7 v8 v9, σ = [some (.ref a), v1, v2, v3, v4, v5, v6, v7, v8, v9] ∧ Same H H') ⟨_, _, _, _, _, _, _, _, _, rfl, Same.refl _⟩ ?_ ?_
    · rintro i σ H2 hi ⟨v1, v2, v3, v4, v5, v6, v7, v8, v9, rfl, sH2⟩
      have hi4 : i ≤ 62 := by omega
      refine ⟨_, rfl, _, rfl, a, ns, i, by simp, sH2.seq hS, hi4, fun H3 pl s3 npl hP3 => ?_⟩
      have sH3 : Same H H3 := sH2.trans s3
      have npH : H pl = none := sH2.free npl
      obtain ⟨g0, r0, hg0, hb0⟩ := hP3
      have nePl : ∀ {G : Hp} {p : Addr}, Same H3 G → G p = none → p ≠ pl := fun {G p} s n e => by
        have := s _ _ hg0
        rw [← e, n] at this
        cases this
      refine ⟨_, rfl, ⟨_, _, rfl, rfl, ⟨by decide, by decide, by decide⟩, ?_⟩⟩
      refine ⟨Nat.zero_le _, fun p4 n4 => ?_⟩
      generalize e4 : upd H3 p4 _ = H4
      have s4 : Same H3 H4 := e4 ▸ same_new n4
      have h4 : H4 p4 = some (.tup []) := e4 ▸ upd_same
      refine ⟨(by show 2 ≤ sizeLine; decide), fun p5 n5 => ?_⟩
      generalize e5 : upd H4 p5 _ = H5
      have s5 : Same H4 H5 := e5 ▸ same_new n5
      have h5 : H5 p5 = some (.tup [.str "a", .int 1]) := e5 ▸ upd_same
      refine ⟨Nat.zero_le _, fun p6 n6 => ?_⟩
      generalize e6 : upd H5 p6 _ = H6
      have s6 : Same H5 H6 := e6 ▸ same_new n6
      have h6 : H6 p6 = some (.lst []) := e6 ▸ upd_same
      refine ⟨(by show 1 ≤ sizeLine; decide), fun p7 n7 => ?_⟩
      generalize e7 : upd H6 p7 _ = H7
      have s7 : Same H6 H7 := e7 ▸ same_new n7
      have h7 : H7 p7 = some (.lst [.int 2]) := e7 ▸ upd_same
      refine ⟨(by show 1 ≤ sizeLine; decide), fun p8 n8 => ?_⟩
      generalize e8 : upd H7 p8 _ = H8
      have s8 : Same H7 H8 := e8 ▸ same_new n8
      have h8 : H8 p8 = some (.lst [.ref p7]) := e8 ▸ upd_same
      refine fun p9 n9 => ?_
      generalize e9 : upd H8 p9 _ = H9
      have s9 : Same H8 H9 := e9 ▸ same_new n9
      have h9 : H9 p9 = some (.dK []) := e9 ▸ upd_same
      refine fun p10 n10 => ⟨upd_same, [(.inr "m", .int 1)], rfl, (by decide), ?_⟩
      rw [upd_upd]
      generalize e10 : upd H9 p10 _ = H10
      have s10 : Same H9 H10 := e10 ▸ same_new n10
      have h10 : H10 p10 = some (.dK (mergeK [] [(.inr "m", .int 1)])) := e10 ▸ upd_same
      refine ⟨(by show 13 ≤ sizeLine; decide), fun p11 n11 => ?_⟩
      generalize e11 : upd H10 p11 _ = H11
      have s11 : Same H10 H11 := e11 ▸ same_new n11
      have h11 : H11 p11 = some (.lst [.non, .int 0, .int (-5), .int (10 ^ 30), .bl true, .str "", .str "word", .ref p4, .ref p5, .ref p6, .ref p8, .ref p9, .ref p10]) := e11 ▸ upd_same
      have u11 : Same H11 H11 := Same.refl _
      have u10 : Same H10 H11 := s11.trans u11
      have u9 : Same H9 H11 := s10.trans u10
      have u8 : Same H8 H11 := s9.trans u9
      have u7 : Same H7 H11 := s8.trans u8
      have u6 : Same H6 H11 := s7.trans u7
      have u5 : Same H5 H11 := s6.trans u6
      have u4 : Same H4 H11 := s5.trans u5
      have u3 : Same H3 H11 := s4.trans u4
      have w3 : Same H3 H3 := Same.refl _
      have w4 : Same H3 H4 := w3.trans s4
      have w5 : Same H3 H5 := w4.trans s5
      have w6 : Same H3 H6 := w5.trans s6
      have w7 : Same H3 H7 := w6.trans s7
      have w8 : Same H3 H8 := w7.trans s8
      have w9 : Same H3 H9 := w8.trans s9
      have w10 : Same H3 H10 := w9.trans s10
      have w11 : Same H3 H11 := w10.trans s11
      refine ⟨_, rfl, _, rfl, pl, p11, _, rfl, ⟨g0, r0, w11 _ _ hg0, hb0⟩, h11, nePl w10 n11, (by show 1 ≤ 13; decide), (by show 13 ≤ 1000; decide), fun H12 y hy _ hB => ?_⟩
      have at12 : ∀ {G : Hp} {p : Addr} {o : HO}, Same G H11 → p ≠ pl → G p = some o → H12 p = some o := fun {G p o} s n e => hB _ _ n (s _ _ e)
      have a4 := at12 u4 (nePl w3 n4) h4
      have a5 := at12 u5 (nePl w4 n5) h5
      have a6 := at12 u6 (nePl w5 n6) h6
      have a7 := at12 u7 (nePl w6 n7) h7
      have a8 := at12 u8 (nePl w7 n8) h8
      have a9 := at12 u9 (nePl w8 n9) h9
      have a10 := at12 u10 (nePl w9 n10) h10
      have sH12 : Same H H12 := ((But.of_same (sH3.trans u3)).trans hB).same npH
      obtain ⟨d, dm, hd⟩ : ∃ d ∈ menuD, ∀ G, Same H12 G → Dd K G y d := by
        clear q hB at12 nePl
        simp only [List.mem_cons, List.not_mem_nil, or_false] at hy
        rcases hy with rfl | rfl | rfl | rfl | rfl | rfl | rfl | rfl | rfl | rfl | rfl | rfl | rfl
        · exact ⟨.none, List.mem_of_getElem? (i := 0) rfl, fun G s => .inl ⟨.non, rfl⟩⟩
        · exact ⟨.int 0, List.mem_of_getElem? (i := 1) rfl, fun G s => .inl ⟨.int _, rfl⟩⟩
        · exact ⟨.int (-5), List.mem_of_getElem? (i := 2) rfl, fun G s => .inl ⟨.int _, rfl⟩⟩
        · exact ⟨.int (10 ^ 30), List.mem_of_getElem? (i := 3) rfl, fun G s => .inl ⟨.int _, rfl⟩⟩
        · exact ⟨.bool true, List.mem_of_getElem? (i := 4) rfl, fun G s => .inl ⟨.bl _, rfl⟩⟩
        · exact ⟨.str "", List.mem_of_getElem? (i := 5) rfl, fun G s => .inl ⟨.str _, rfl⟩⟩
        · exact ⟨.str "word", List.mem_of_getElem? (i := 6) rfl, fun G s => .inl ⟨.str _, rfl⟩⟩
        · exact ⟨.tuple [], List.mem_of_getElem? (i := 7) rfl, fun G s => .inl ⟨.tup (SqT.of (s _ _ a4)) .nil, rfl⟩⟩
        · exact ⟨.tuple [.str "a", .int 1], List.mem_of_getElem? (i := 8) rfl, fun G s => .inl ⟨.tup (SqT.of (s _ _ a5)) (.cons (.str _) (.cons (.int _) .nil)), rfl⟩⟩
        · exact ⟨.list [], List.mem_of_getElem? (i := 9) rfl, fun G s => .inl ⟨.lst (SqL.of (s _ _ a6)) .nil, rfl⟩⟩
        · exact ⟨.list [.list [.int 2]], List.mem_of_getElem? (i := 10) rfl, fun G s => .inl ⟨.lst (SqL.of (s _ _ a8)) (.cons (.lst (SqL.of (s _ _ a7)) (.cons (.int _) .nil)) .nil), rfl⟩⟩
        · exact ⟨.dict [], List.mem_of_getElem? (i := 11) rfl, fun G s => .inr ⟨p9, [], rfl, s _ _ a9, rfl⟩⟩
        · exact ⟨.dict [(.str "m", .int 1)], List.mem_of_getElem? (i := 12) rfl, fun G s => .inr ⟨p10, [(.inr "m", 1)], rfl, s _ _ a10, rfl⟩⟩
      have dok := menu_ok d dm
      clear hB at12 a4 a5 a6 a7 a8 a9 a10 hy
      -- what is due
      refine ⟨(by show 5 ≤ sizeLine; decide), fun p13 n13 => ?_⟩
      generalize e13 : upd H12 p13 _ = H13
      have s13 : Same H12 H13 := e13 ▸ same_new n13
      have h13 : H13 p13 = some (.lst [.bl true, .bl true, .bl false, .bl false, .bl false]) := e13 ▸ upd_same
      refine ⟨(by show 1 ≤ sizeLine; decide), fun p14 n14 => ?_⟩
      generalize e14 : upd H13 p14 _ = H14
      have s14 : Same H13 H14 := e14 ▸ same_new n14
      have h14 : H14 p14 = some (.lst [.ref p13]) := e14 ▸ upd_same
      refine ⟨_, _, _, rfl, rfl, h14, by decide, by decide, (by show 10 ≤ sizeLine; decide), fun p15 n15 => ?_⟩
      generalize e15 : upd H14 p15 _ = H15
      have s15 : Same H14 H15 := e15 ▸ same_new n15
      have h15 : H15 p15 = some (.lst [.ref p13, .ref p13, .ref p13, .ref p13, .ref p13, .ref p13, .ref p13, .ref p13, .ref p13, .ref p13]) := e15 ▸ upd_same
      refine ⟨_, rfl, (by show 5 ≤ sizeLine; decide), fun p16 n16 => ?_⟩
      generalize e16 : upd H15 p16 _ = H16
      have s16 : Same H15 H16 := e16 ▸ same_new n16
      have h16 : H16 p16 = some (.lst [.bl false, .bl false, .bl true, .bl false, .bl false]) := e16 ▸ upd_same
      refine ⟨(by show 5 ≤ sizeLine; decide), fun p17 n17 => ?_⟩
      generalize e17 : upd H16 p17 _ = H17
      have s17 : Same H16 H17 := e17 ▸ same_new n17
      have h17 : H17 p17 = some (.lst [.bl false, .bl false, .bl false, .bl true, .bl false]) := e17 ▸ upd_same
      refine ⟨(by show 2 ≤ sizeLine; decide), fun p18 n18 => ?_⟩
      generalize e18 : upd H17 p18 _ = H18
      have s18 : Same H17 H18 := e18 ▸ same_new n18
      have h18 : H18 p18 = some (.lst [.ref p16, .ref p17]) := e18 ▸ upd_same
      refine ⟨_, _, _, _, rfl, rfl, s18 _ _ (s17 _ _ (s16 _ _ h15)), h18, (by show 12 ≤ sizeLine; decide), fun p19 n19 => ?_⟩
      generalize e19 : upd H18 p19 _ = H19
      have s19 : Same H18 H19 := e19 ▸ same_new n19
      have h19 : H19 p19 = some (.lst [.ref p13, .ref p13, .ref p13, .ref p13, .ref p13, .ref p13, .ref p13, .ref p13, .ref p13, .ref p13, .ref p16, .ref p17]) := e19 ▸ upd_same
      have x19 : Same H19 H19 := Same.refl _
      have x18 : Same H18 H19 := s19.trans x19
      have x17 : Same H17 H19 := s18.trans x18
      have x16 : Same H16 H19 := s17.trans x17
      have x15 : Same H15 H19 := s16.trans x16
      have x14 : Same H14 H19 := s15.trans x15
      have x13 : Same H13 H19 := s14.trans x14
      have x12 : Same H12 H19 := s13.trans x13
      have due : ∀ G, Same H19 G → Dp K G (.ref p19) (.list dueD) := fun G s => .lst (SqL.of (s _ _ h19)) (by
        have y1 : Dp K G (.ref p13) (.list [.bool true, .bool true, .bool false, .bool false, .bool false]) := .lst (SqL.of (s _ _ (x13 _ _ h13))) (dp_bls [true, true, false, false, false])
        have y2 : Dp K G (.ref p16) (.list [.bool false, .bool false, .bool true, .bool false, .bool false]) := .lst (SqL.of (s _ _ (x16 _ _ h16))) (dp_bls [false, false, true, false, false])
        have y3 : Dp K G (.ref p17) (.list [.bool false, .bool false, .bool false, .bool true, .bool false]) := .lst (SqL.of (s _ _ (x17 _ _ h17))) (dp_bls [false, false, false, true, false])
        exact .cons y1 (.cons y1 (.cons y1 (.cons y1 (.cons y1 (.cons y1 (.cons y1 (.cons y1 (.cons y1 (.cons y1 (.cons y2 (.cons y3 .nil))))))))))))
      have sH19 : Same H H19 := sH12.trans x12
      have th : ∀ G, Same H19 G → Dd K G y d := fun G s => hd G (x12.trans s)
      clear hd e4 e5 e6 e7 e8 e9 e10 e11 e13 e14 e15 e16 e17 e18 e19
      -- the errors, made both ways
      refine ⟨_, rfl, y, rfl, fun G1 l1 es1 sG1 hl1 r1 => ⟨_, rfl, y, rfl, fun G2 l2 es2 sG2 hl2 r2 => ⟨(by show 2 ≤ sizeLine; decide), fun p20 n20 => ?_⟩⟩⟩
      generalize e20 : upd G2 p20 _ = H20
      have s20 : Same G2 H20 := e20 ▸ same_new n20
      have h20 : H20 p20 = some (.lst [.ref l1, .ref l2]) := e20 ▸ upd_same
      have sz : Same H19 H20 := sG1.trans (sG2.trans s20)
      have sH20 : Same H H20 := sH19.trans sz
      have both : ∀ x : V, x ∈ [V.ref l1, V.ref l2] → ∃ l es, x = .ref l ∧ H20 l = some (.lst es) ∧ RowsAt C H20 y es := fun x hx => by
        simp only [List.mem_cons, List.not_mem_nil, or_false] at hx
        rcases hx with rfl | rfl
        · exact ⟨l1, es1, rfl, s20 _ _ (sG2 _ _ hl1), r1.same (sG2.trans s20)⟩
        · exact ⟨l2, es2, rfl, s20 _ _ hl2, r2.same s20⟩
      clear e20
      refine ⟨p20, rfl, ⟨_, SqL.of h20⟩, ?_⟩
      refine for_list (K := K) (a := p20) (xs := [.ref l1, .ref l2]) (fun _ σ G => ∃ v6 v7 v8 v9, σ = [some (.ref a), some (.int (0 + (i : Int))), some (.ref pl), some (.ref p11), some y, some (.ref p19), v6, v7, v8, v9] ∧ Same H20 G) ⟨_, _, _, _, rfl, Same.refl _⟩ (fun _ σ G _ h => by
        obtain ⟨_, _, _, _, _, s⟩ := h
        exact SqL.of (s _ _ h20)) ?_ ?_
      · rintro j x σ G0 hx ⟨v6, v7, v8, v9, rfl, sG⟩
        obtain ⟨l, es, rfl, hl, rows⟩ := both _ (List.mem_of_getElem? hx)
        have len := rows.1
        have szG : Same H19 G0 := sz.trans sG
        refine ⟨_, rfl, l, es, y, rfl, sG _ _ hl, rows.same sG, fun G3 q1 t1 hq1 => ?_⟩
        have ths : ∀ G, Same H19 G → ∀ z ∈ List.replicate 12 y, Dd K G z d := fun G s z hz => by
          rw [List.eq_of_mem_replicate hz]
          exact th G s
        refine ⟨q1, List.replicate 12 y, d, rfl, hq1, (by simp), ths _ (szG.trans t1), dok.1, dok.2.1, dok.2.2, ?_⟩
        refine ⟨_, rfl, (by show 1 ≤ sizeLine; decide), fun q2 nq2 => ⟨_, _, _, rfl, rfl, upd_same, by decide, by decide, (by show 12 ≤ sizeLine; decide), fun q3 nq3 => ?_⟩⟩
        generalize eq2 : upd G3 q2 _ = G4 at *
        have t2 : Same G3 G4 := eq2 ▸ same_new nq2
        generalize eq3 : upd G4 q3 _ = G5
        have t3 : Same G4 G5 := eq3 ▸ same_new nq3
        have hq3 : G5 q3 = some (.lst (List.replicate 12 y)) := eq3 ▸ upd_same
        have tG5 : Same G0 G5 := t1.trans (t2.trans t3)
        refine ⟨q3, List.replicate 12 y, d, rfl, hq3, (by simp), ths _ (szG.trans tG5), dok.1, dok.2.1, dok.2.2, ?_⟩
        refine ⟨rfl, _, rfl, ?_⟩
        rw [decide_eq_true rfl]
        refine iteF ?_
        clear eq2 eq3
        -- the bases
        have hl5 := tG5 _ _ (sG _ _ hl)
        have rows5 := rows.same (sG.trans tG5)
        refine ⟨_, rfl, l, rfl, ⟨es, SqL.of hl5⟩, fun D nD => ?_⟩
        refine lc_rel (w := walk_list (K := K) (a := l) (xs := es)) (by rw [len]; decide) (fun i z G => ∃ p, z = .ref p ∧ p ≠ D ∧ G p = some (.lst ((bs i).map V.bl))) (fun i z G G' h b => by
          obtain ⟨p, e1, ne, h1⟩ := h
          exact ⟨p, e1, ne, b _ _ ne h1⟩) nD (fun G s => SqL.of (s _ _ hl5)) (fun _ => rfl) (fun j x G Q hx sG5 hDo k => ?_) (fun G ys sG5 hD hys hall => ?_)
        · have hj : j < 12 := by
            rw [← len]
            exact (List.getElem?_eq_some_iff.mp hx).1
          obtain ⟨b, rfl, hh⟩ := er_held ((rows5.2 j x hx).same sG5)
          obtain ⟨oD, hDo⟩ := hDo
          refine ⟨_, rfl, b, C j, _, _, _, _, _, rfl, ec j hj, hh, kit0 j hj, kit1 j hj, kit2 j hj, kit3 j hj, kit4 j hj, fun G6 p t6 np hp => k _ _ t6 ⟨p, rfl, fun e => ?_, hp⟩⟩
          rw [e, hDo] at np
          cases np
        · have D1 : Dp K G (.ref D) (.list dueD) := .lst (SqL.of hD) (dp_list (by rw [hys, len]; rfl) fun i z e hz he => by
            obtain ⟨p, rfl, _, hp⟩ := hall i z hz
            rw [due_at he]
            exact .lst (SqL.of hp) (dp_bls _))
          refine ⟨_, rfl, _, _, D1, due G (szG.trans (tG5.trans sG5)), due_shaped, due_shaped, _, rfl, ?_⟩
          rw [due_eqv]
          refine iteF ?_
          -- the kinds
          have hl6 := sG5 _ _ hl5
          have rows6 := rows5.same sG5
          refine ⟨_, rfl, l, es, rfl, SqL.of hl6, ?_⟩
          refine for_it (walk_enum (K := K) (a := l) (xs := es)) (fun _ σ G' => ∃ v7 v8 v9, σ = [some (.ref a), some (.int (0 + (i : Int))), some (.ref pl), some (.ref p11), some y, some (.ref p19), some (.ref l), v7, v8, v9] ∧ Same G G') ⟨_, _, _, rfl, Same.refl _⟩ (fun _ σ G' _ h => by
            obtain ⟨_, _, _, _, s⟩ := h
            exact SqL.of (s _ _ hl6)) ?_ ?_
          · rintro i2 x σ G6 G7 hi2 ⟨v7, v8, v9, rfl, s6⟩ ⟨Tt, x1, x2, rfl, nT, rfl, e1, e2⟩
            obtain rfl := Option.some.inj e1
            have sT : Same G6 (upd G6 Tt (.tup [.int (i2 : Nat), x2])) := same_new nT
            have hi3 : i2 < 12 := by
              rw [← len]
              exact hi2
            obtain ⟨b, rfl, hh⟩ := er_held ((rows6.2 i2 x2 e2).same (s6.trans sT))
            refine ⟨Tt, _, rfl, SqT.of upd_same, rfl, _, _, rfl, _, _, rfl, rfl, ?_⟩
            refine ⟨_, rfl, b, C i2, fun j => decide (j = i2), rfl, ec i2 hi3, hh, fun j hj => kit i2 hi3 j hj, fun G8 p s8 hp => ?_⟩
            refine ⟨12, rfl, by decide, by decide, fun D nD => ?_⟩
            refine lc_map (ys := (kinds i2).map V.bl) walk_r12 rfl (by decide) nD (fun _ _ => trivial) (fun _ => rfl) (fun j x z G9 Q9 hx hz s9 k => ?_) (fun G9 s9 hD => ?_)
            · rw [List.getElem?_map] at hx
              unfold kinds at hz
              rw [List.getElem?_map, List.getElem?_map] at hz
              have hj : j < 12 := by
                rcases Nat.lt_or_ge j 12 with z | z
                · exact z
                · rw [List.getElem?_eq_none (by rw [List.length_range]; exact z)] at hx
                  cases hx
              rw [List.getElem?_range hj] at hx hz
              obtain rfl := Option.some.inj hx
              obtain rfl := Option.some.inj hz
              refine ⟨_, rfl, _, rfl, rfl, ?_⟩
              have e : decide (V.int (0 + (j : Int)) = V.int (i2 : Nat)) = decide (j = i2) := by
                rw [Bool.eq_iff_iff]
                simp
                omega
              rw [e]
              exact k _ (Same.refl _)
            · obtain ⟨k1, k2⟩ := kinds_ok i2 hi3
              refine ⟨_, _, .lst (SqL.of (s9 _ _ hp)) (dp_bls (kinds i2)), .lst (SqL.of hD) (dp_bls (kinds i2)), k1, k1, _, rfl, ?_⟩
              rw [k2]
              refine iteF ?_
              exact ⟨_, _, _, rfl, s6.trans (sT.trans (s8.trans s9))⟩
          · rintro σ G6 ⟨v7, v8, v9, rfl, s6⟩
            exact ⟨_, _, _, _, rfl, sG.trans (tG5.trans (sG5.trans s6))⟩
      · rintro σ G0 ⟨v6, v7, v8, v9, rfl, sG⟩
        refine fun b nb => ⟨b, CN, _, _, _, _, _, rfl, ecN, .inr upd_same, kn0, kn1, kn2, kn3, kn4, fun G1 p t1 _ hp => ?_⟩
        have t1' : Same G0 G1 := (same_new nb).trans t1
        refine ⟨(by show 5 ≤ sizeLine; decide), fun p2 np2 => ?_⟩
        generalize eg2 : upd G1 p2 _ = G2
        have t2 : Same G1 G2 := eg2 ▸ same_new np2
        have hp2 : G2 p2 = some (.lst (left5.map V.bl)) := eg2 ▸ upd_same
        refine ⟨_, _, .lst (SqL.of (t2 _ _ hp)) (dp_bls left5), .lst (SqL.of hp2) (dp_bls left5), left_ok.1, left_ok.1, _, rfl, ?_⟩
        rw [left_ok.2]
        refine iteF ?_
        refine fun b2 nb2 => ⟨b2, CN, _, _, _, rfl, .own _, ecN, .inr upd_same, kn5, _, rfl, ?_⟩
        refine iteF ?_
        refine fun b3 nb3 => ⟨b3, CM, _, _, _, _, _, rfl, ecM, .inr upd_same, km0, km1, km2, km3, km4, fun G4 p4 t4 _ hp4 => ?_⟩
        refine ⟨(by show 5 ≤ sizeLine; decide), fun p5 np5 => ?_⟩
        generalize eg5 : upd G4 p5 _ = G5
        have t5 : Same G4 G5 := eg5 ▸ same_new np5
        have hp5 : G5 p5 = some (.lst (mark5.map V.bl)) := eg5 ▸ upd_same
        refine ⟨_, _, .lst (SqL.of (t5 _ _ hp4)) (dp_bls mark5), .lst (SqL.of hp5) (dp_bls mark5), mark_ok.1, mark_ok.1, _, rfl, ?_⟩
        rw [mark_ok.2]
        refine iteF ?_
        exact ⟨_, _, _, _, _, _, _, _, _, rfl, sH20.trans (sG.trans (t1'.trans (t2.trans ((same_new nb2).trans ((same_new nb3).trans (t4.trans t5))))))⟩
    · rintro σ G ⟨v1, v2, v3, v4, v5, v6, v7, v8, v9, rfl, _⟩
      exact q _
end
theorem all_mk {l : PySem.W.OpenLaw} {w : World} {K : PySem.W.Frag} {h : Heap} {mg : Str → Option Value} {fa fOpened fDraw fPick fMadeErrors fNamedErrors fFields fKinds fBases fLaw CBadCrowd fBadCrowdInit CBadPage fBadPageInit CBadRule fBadRuleInit CBadPair fBadPairInit CBadMark fBadMarkInit CBadArgument fBadArgumentInit CBadNumber fBadNumberInit CBadChange fBadChangeInit CBadCommand fBadCommandInit CBadText fBadTextInit CTooMany fTooManyInit CNotThere fNotThereInit CMarksError CNothingLeft : Addr} (X : K.In h) (G : h.Ns mainGlobals mg) (hfa : mg "law" = some (.ref fa))
    {ocOpened kVOpened dcOpened pmOpened cdOpened ctOpened : Value} {odOpened anOpened : Option Addr} {slOpened : Array (Option Value)}
    {ocDraw kVDraw dcDraw pmDraw cdDraw ctDraw : Value} {odDraw anDraw : Option Addr} {slDraw : Array (Option Value)}
    {ocPick kVPick dcPick pmPick cdPick ctPick : Value} {odPick anPick : Option Addr} {slPick : Array (Option Value)}
    {ocMadeErrors kVMadeErrors dcMadeErrors pmMadeErrors cdMadeErrors ctMadeErrors : Value} {odMadeErrors anMadeErrors : Option Addr} {slMadeErrors : Array (Option Value)}
    {ocNamedErrors kVNamedErrors dcNamedErrors pmNamedErrors cdNamedErrors ctNamedErrors : Value} {odNamedErrors anNamedErrors : Option Addr} {slNamedErrors : Array (Option Value)}
    {ocFields kVFields dcFields pmFields cdFields ctFields : Value} {odFields anFields : Option Addr} {slFields : Array (Option Value)}
    {ocKinds kVKinds dcKinds pmKinds cdKinds ctKinds : Value} {odKinds anKinds : Option Addr} {slKinds : Array (Option Value)}
    {ocBases kVBases dcBases pmBases cdBases ctBases : Value} {odBases anBases : Option Addr} {slBases : Array (Option Value)}
    {ocLaw kVLaw dcLaw pmLaw cdLaw ctLaw : Value} {odLaw anLaw : Option Addr} {slLaw : Array (Option Value)}
    {ocBadCrowdInit kVBadCrowdInit dcBadCrowdInit pmBadCrowdInit cdBadCrowdInit ctBadCrowdInit : Value} {odBadCrowdInit anBadCrowdInit : Option Addr} {slBadCrowdInit : Array (Option Value)}
    {ocBadPageInit kVBadPageInit dcBadPageInit pmBadPageInit cdBadPageInit ctBadPageInit : Value} {odBadPageInit anBadPageInit : Option Addr} {slBadPageInit : Array (Option Value)}
    {ocBadRuleInit kVBadRuleInit dcBadRuleInit pmBadRuleInit cdBadRuleInit ctBadRuleInit : Value} {odBadRuleInit anBadRuleInit : Option Addr} {slBadRuleInit : Array (Option Value)}
    {ocBadPairInit kVBadPairInit dcBadPairInit pmBadPairInit cdBadPairInit ctBadPairInit : Value} {odBadPairInit anBadPairInit : Option Addr} {slBadPairInit : Array (Option Value)}
    {ocBadMarkInit kVBadMarkInit dcBadMarkInit pmBadMarkInit cdBadMarkInit ctBadMarkInit : Value} {odBadMarkInit anBadMarkInit : Option Addr} {slBadMarkInit : Array (Option Value)}
    {ocBadArgumentInit kVBadArgumentInit dcBadArgumentInit pmBadArgumentInit cdBadArgumentInit ctBadArgumentInit : Value} {odBadArgumentInit anBadArgumentInit : Option Addr} {slBadArgumentInit : Array (Option Value)}
    {ocBadNumberInit kVBadNumberInit dcBadNumberInit pmBadNumberInit cdBadNumberInit ctBadNumberInit : Value} {odBadNumberInit anBadNumberInit : Option Addr} {slBadNumberInit : Array (Option Value)}
    {ocBadChangeInit kVBadChangeInit dcBadChangeInit pmBadChangeInit cdBadChangeInit ctBadChangeInit : Value} {odBadChangeInit anBadChangeInit : Option Addr} {slBadChangeInit : Array (Option Value)}
    {ocBadCommandInit kVBadCommandInit dcBadCommandInit pmBadCommandInit cdBadCommandInit ctBadCommandInit : Value} {odBadCommandInit anBadCommandInit : Option Addr} {slBadCommandInit : Array (Option Value)}
    {ocBadTextInit kVBadTextInit dcBadTextInit pmBadTextInit cdBadTextInit ctBadTextInit : Value} {odBadTextInit anBadTextInit : Option Addr} {slBadTextInit : Array (Option Value)}
    {ocTooManyInit kVTooManyInit dcTooManyInit pmTooManyInit cdTooManyInit ctTooManyInit : Value} {odTooManyInit anTooManyInit : Option Addr} {slTooManyInit : Array (Option Value)}
    {ocNotThereInit kVNotThereInit dcNotThereInit pmNotThereInit cdNotThereInit ctNotThereInit : Value} {odNotThereInit anNotThereInit : Option Addr} {slNotThereInit : Array (Option Value)}
    (aOpened : PySem.W.nsIn K mainGlobals "_law_opened" = some (some (.ref fOpened)))
    (lOpened : K.lookup fOpened = some ⟨ocOpened, odOpened, .func (PySem.W.fnOf "_law_opened" "_law_opened" (defArgs sOpened) (defBody sOpened) (defScope sOpened) .none kVOpened dcOpened pmOpened anOpened cdOpened ctOpened), slOpened⟩)
    (cOpened : PySem.W.codeIn K cdOpened "_law_opened" = true)
    (kOpened : PySem.W.keepIn K (.ref fOpened) = true)
    (aDraw : PySem.W.nsIn K mainGlobals "_law_draw" = some (some (.ref fDraw)))
    (lDraw : K.lookup fDraw = some ⟨ocDraw, odDraw, .func (PySem.W.fnOf "_law_draw" "_law_draw" (defArgs sDraw) (defBody sDraw) (defScope sDraw) .none kVDraw dcDraw pmDraw anDraw cdDraw ctDraw), slDraw⟩)
    (cDraw : PySem.W.codeIn K cdDraw "_law_draw" = true)
    (kDraw : PySem.W.keepIn K (.ref fDraw) = true)
    (aPick : PySem.W.nsIn K mainGlobals "_law_pick" = some (some (.ref fPick)))
    (lPick : K.lookup fPick = some ⟨ocPick, odPick, .func (PySem.W.fnOf "_law_pick" "_law_pick" (defArgs sPick) (defBody sPick) (defScope sPick) .none kVPick dcPick pmPick anPick cdPick ctPick), slPick⟩)
    (cPick : PySem.W.codeIn K cdPick "_law_pick" = true)
    (kPick : PySem.W.keepIn K (.ref fPick) = true)
    (aMadeErrors : PySem.W.nsIn K mainGlobals "_law_made_errors" = some (some (.ref fMadeErrors)))
    (lMadeErrors : K.lookup fMadeErrors = some ⟨ocMadeErrors, odMadeErrors, .func (PySem.W.fnOf "_law_made_errors" "_law_made_errors" (defArgs sMadeErrors) (defBody sMadeErrors) (defScope sMadeErrors) .none kVMadeErrors dcMadeErrors pmMadeErrors anMadeErrors cdMadeErrors ctMadeErrors), slMadeErrors⟩)
    (cMadeErrors : PySem.W.codeIn K cdMadeErrors "_law_made_errors" = true)
    (kMadeErrors : PySem.W.keepIn K (.ref fMadeErrors) = true)
    (aNamedErrors : PySem.W.nsIn K mainGlobals "_law_named_errors" = some (some (.ref fNamedErrors)))
    (lNamedErrors : K.lookup fNamedErrors = some ⟨ocNamedErrors, odNamedErrors, .func (PySem.W.fnOf "_law_named_errors" "_law_named_errors" (defArgs sNamedErrors) (defBody sNamedErrors) (defScope sNamedErrors) .none kVNamedErrors dcNamedErrors pmNamedErrors anNamedErrors cdNamedErrors ctNamedErrors), slNamedErrors⟩)
    (cNamedErrors : PySem.W.codeIn K cdNamedErrors "_law_named_errors" = true)
    (kNamedErrors : PySem.W.keepIn K (.ref fNamedErrors) = true)
    (aFields : PySem.W.nsIn K mainGlobals "_law_fields" = some (some (.ref fFields)))
    (lFields : K.lookup fFields = some ⟨ocFields, odFields, .func (PySem.W.fnOf "_law_fields" "_law_fields" (defArgs sFields) (defBody sFields) (defScope sFields) .none kVFields dcFields pmFields anFields cdFields ctFields), slFields⟩)
    (cFields : PySem.W.codeIn K cdFields "_law_fields" = true)
    (kFields : PySem.W.keepIn K (.ref fFields) = true)
    (aKinds : PySem.W.nsIn K mainGlobals "_law_kinds" = some (some (.ref fKinds)))
    (lKinds : K.lookup fKinds = some ⟨ocKinds, odKinds, .func (PySem.W.fnOf "_law_kinds" "_law_kinds" (defArgs sKinds) (defBody sKinds) (defScope sKinds) .none kVKinds dcKinds pmKinds anKinds cdKinds ctKinds), slKinds⟩)
    (cKinds : PySem.W.codeIn K cdKinds "_law_kinds" = true)
    (kKinds : PySem.W.keepIn K (.ref fKinds) = true)
    (aBases : PySem.W.nsIn K mainGlobals "_law_bases" = some (some (.ref fBases)))
    (lBases : K.lookup fBases = some ⟨ocBases, odBases, .func (PySem.W.fnOf "_law_bases" "_law_bases" (defArgs sBases) (defBody sBases) (defScope sBases) .none kVBases dcBases pmBases anBases cdBases ctBases), slBases⟩)
    (cBases : PySem.W.codeIn K cdBases "_law_bases" = true)
    (kBases : PySem.W.keepIn K (.ref fBases) = true)
    (aLaw : PySem.W.nsIn K mainGlobals "law" = some (some (.ref fLaw)))
    (lLaw : K.lookup fLaw = some ⟨ocLaw, odLaw, .func (PySem.W.fnOf "law" "law" (defArgs sLaw) (defBody sLaw) (defScope sLaw) .none kVLaw dcLaw pmLaw anLaw cdLaw ctLaw), slLaw⟩)
    (cLaw : PySem.W.codeIn K cdLaw "law" = true)
    (kLaw : PySem.W.keepIn K (.ref fLaw) = true)
    (spg : PySem.W.specialIn K (.builtin "object.__class__") "__get__" = some (some (.builtin "getset_descriptor.__get__")))
    (tkc : PySem.W.takesIn K (.builtin "object.__class__") = some true)
    (aBadCrowd : PySem.W.nsIn K mainGlobals "BadCrowd" = some (some (.ref CBadCrowd)))
    (gaBadCrowd : PySem.W.findIn K (.ref CBadCrowd) "__getattribute__" = some (some (.builtin "BaseException.__getattribute__")))
    (ggBadCrowd : PySem.W.findIn K (.ref CBadCrowd) "__getattr__" = some none)
    (exBadCrowd : PySem.W.subIn K (.ref CBadCrowd) (.type "BaseException") = some true)
    (hdBadCrowd : PySem.W.hasDictIn K CBadCrowd = true)
    (ccBadCrowd : PySem.W.findIn K (.ref CBadCrowd) "__class__" = some (some (.builtin "object.__class__")))
    (mrBadCrowd : PySem.W.mroIn K CBadCrowd (.type "object") = some true)
    (kkBadCrowd : PySem.W.keepIn K (.ref CBadCrowd) = true)
    (inBadCrowd : PySem.W.excInitIn K CBadCrowd [.type "ValueError", .type "Exception", .type "BaseException", .type "object"] "ValueError.__new__" = true)
    (ovBadCrowd : PySem.W.excOver K CBadCrowd [.type "ValueError", .type "Exception", .type "BaseException", .type "object"] = true)
    (saBadCrowd : PySem.W.findIn K (.ref CBadCrowd) "__setattr__" = some (some (.builtin "object.__setattr__")))
    (noBadCrowd : PySem.W.findIn K (.ref CBadCrowd) "part" = some none)
    (tyBadCrowd : PySem.W.typeIn K (.ref CBadCrowd) = some (.type "type"))
    (iBadCrowd : PySem.W.findIn K (.ref CBadCrowd) "__init__" = some (some (.ref fBadCrowdInit)))
    (tBadCrowd : PySem.W.typeIn K (.ref fBadCrowdInit) = some (.type "function"))
    (lBadCrowdInit : K.lookup fBadCrowdInit = some ⟨ocBadCrowdInit, odBadCrowdInit, .func (PySem.W.fnOf "__init__" "BadCrowd.__init__" (defArgs sBadCrowdInit) (defBody sBadCrowdInit) (defScope sBadCrowdInit) .none kVBadCrowdInit dcBadCrowdInit pmBadCrowdInit anBadCrowdInit cdBadCrowdInit ctBadCrowdInit), slBadCrowdInit⟩)
    (cBadCrowdInit : PySem.W.codeIn K cdBadCrowdInit "BadCrowd.__init__" = true)
    (kBadCrowdInit : PySem.W.keepIn K (.ref fBadCrowdInit) = true)
    (aBadPage : PySem.W.nsIn K mainGlobals "BadPage" = some (some (.ref CBadPage)))
    (gaBadPage : PySem.W.findIn K (.ref CBadPage) "__getattribute__" = some (some (.builtin "BaseException.__getattribute__")))
    (ggBadPage : PySem.W.findIn K (.ref CBadPage) "__getattr__" = some none)
    (exBadPage : PySem.W.subIn K (.ref CBadPage) (.type "BaseException") = some true)
    (hdBadPage : PySem.W.hasDictIn K CBadPage = true)
    (ccBadPage : PySem.W.findIn K (.ref CBadPage) "__class__" = some (some (.builtin "object.__class__")))
    (mrBadPage : PySem.W.mroIn K CBadPage (.type "object") = some true)
    (kkBadPage : PySem.W.keepIn K (.ref CBadPage) = true)
    (inBadPage : PySem.W.excInitIn K CBadPage [.type "ValueError", .type "Exception", .type "BaseException", .type "object"] "ValueError.__new__" = true)
    (ovBadPage : PySem.W.excOver K CBadPage [.type "ValueError", .type "Exception", .type "BaseException", .type "object"] = true)
    (saBadPage : PySem.W.findIn K (.ref CBadPage) "__setattr__" = some (some (.builtin "object.__setattr__")))
    (noBadPage : PySem.W.findIn K (.ref CBadPage) "value" = some none)
    (tyBadPage : PySem.W.typeIn K (.ref CBadPage) = some (.type "type"))
    (iBadPage : PySem.W.findIn K (.ref CBadPage) "__init__" = some (some (.ref fBadPageInit)))
    (tBadPage : PySem.W.typeIn K (.ref fBadPageInit) = some (.type "function"))
    (lBadPageInit : K.lookup fBadPageInit = some ⟨ocBadPageInit, odBadPageInit, .func (PySem.W.fnOf "__init__" "BadPage.__init__" (defArgs sBadPageInit) (defBody sBadPageInit) (defScope sBadPageInit) .none kVBadPageInit dcBadPageInit pmBadPageInit anBadPageInit cdBadPageInit ctBadPageInit), slBadPageInit⟩)
    (cBadPageInit : PySem.W.codeIn K cdBadPageInit "BadPage.__init__" = true)
    (kBadPageInit : PySem.W.keepIn K (.ref fBadPageInit) = true)
    (aBadRule : PySem.W.nsIn K mainGlobals "BadRule" = some (some (.ref CBadRule)))
    (gaBadRule : PySem.W.findIn K (.ref CBadRule) "__getattribute__" = some (some (.builtin "BaseException.__getattribute__")))
    (ggBadRule : PySem.W.findIn K (.ref CBadRule) "__getattr__" = some none)
    (exBadRule : PySem.W.subIn K (.ref CBadRule) (.type "BaseException") = some true)
    (hdBadRule : PySem.W.hasDictIn K CBadRule = true)
    (ccBadRule : PySem.W.findIn K (.ref CBadRule) "__class__" = some (some (.builtin "object.__class__")))
    (mrBadRule : PySem.W.mroIn K CBadRule (.type "object") = some true)
    (kkBadRule : PySem.W.keepIn K (.ref CBadRule) = true)
    (inBadRule : PySem.W.excInitIn K CBadRule [.type "ValueError", .type "Exception", .type "BaseException", .type "object"] "ValueError.__new__" = true)
    (ovBadRule : PySem.W.excOver K CBadRule [.type "ValueError", .type "Exception", .type "BaseException", .type "object"] = true)
    (saBadRule : PySem.W.findIn K (.ref CBadRule) "__setattr__" = some (some (.builtin "object.__setattr__")))
    (noBadRule : PySem.W.findIn K (.ref CBadRule) "part" = some none)
    (tyBadRule : PySem.W.typeIn K (.ref CBadRule) = some (.type "type"))
    (iBadRule : PySem.W.findIn K (.ref CBadRule) "__init__" = some (some (.ref fBadRuleInit)))
    (tBadRule : PySem.W.typeIn K (.ref fBadRuleInit) = some (.type "function"))
    (lBadRuleInit : K.lookup fBadRuleInit = some ⟨ocBadRuleInit, odBadRuleInit, .func (PySem.W.fnOf "__init__" "BadRule.__init__" (defArgs sBadRuleInit) (defBody sBadRuleInit) (defScope sBadRuleInit) .none kVBadRuleInit dcBadRuleInit pmBadRuleInit anBadRuleInit cdBadRuleInit ctBadRuleInit), slBadRuleInit⟩)
    (cBadRuleInit : PySem.W.codeIn K cdBadRuleInit "BadRule.__init__" = true)
    (kBadRuleInit : PySem.W.keepIn K (.ref fBadRuleInit) = true)
    (aBadPair : PySem.W.nsIn K mainGlobals "BadPair" = some (some (.ref CBadPair)))
    (gaBadPair : PySem.W.findIn K (.ref CBadPair) "__getattribute__" = some (some (.builtin "BaseException.__getattribute__")))
    (ggBadPair : PySem.W.findIn K (.ref CBadPair) "__getattr__" = some none)
    (exBadPair : PySem.W.subIn K (.ref CBadPair) (.type "BaseException") = some true)
    (hdBadPair : PySem.W.hasDictIn K CBadPair = true)
    (ccBadPair : PySem.W.findIn K (.ref CBadPair) "__class__" = some (some (.builtin "object.__class__")))
    (mrBadPair : PySem.W.mroIn K CBadPair (.type "object") = some true)
    (kkBadPair : PySem.W.keepIn K (.ref CBadPair) = true)
    (inBadPair : PySem.W.excInitIn K CBadPair [.type "ValueError", .type "Exception", .type "BaseException", .type "object"] "ValueError.__new__" = true)
    (ovBadPair : PySem.W.excOver K CBadPair [.type "ValueError", .type "Exception", .type "BaseException", .type "object"] = true)
    (saBadPair : PySem.W.findIn K (.ref CBadPair) "__setattr__" = some (some (.builtin "object.__setattr__")))
    (noBadPair : PySem.W.findIn K (.ref CBadPair) "value" = some none)
    (tyBadPair : PySem.W.typeIn K (.ref CBadPair) = some (.type "type"))
    (iBadPair : PySem.W.findIn K (.ref CBadPair) "__init__" = some (some (.ref fBadPairInit)))
    (tBadPair : PySem.W.typeIn K (.ref fBadPairInit) = some (.type "function"))
    (lBadPairInit : K.lookup fBadPairInit = some ⟨ocBadPairInit, odBadPairInit, .func (PySem.W.fnOf "__init__" "BadPair.__init__" (defArgs sBadPairInit) (defBody sBadPairInit) (defScope sBadPairInit) .none kVBadPairInit dcBadPairInit pmBadPairInit anBadPairInit cdBadPairInit ctBadPairInit), slBadPairInit⟩)
    (cBadPairInit : PySem.W.codeIn K cdBadPairInit "BadPair.__init__" = true)
    (kBadPairInit : PySem.W.keepIn K (.ref fBadPairInit) = true)
    (aBadMark : PySem.W.nsIn K mainGlobals "BadMark" = some (some (.ref CBadMark)))
    (gaBadMark : PySem.W.findIn K (.ref CBadMark) "__getattribute__" = some (some (.builtin "BaseException.__getattribute__")))
    (ggBadMark : PySem.W.findIn K (.ref CBadMark) "__getattr__" = some none)
    (exBadMark : PySem.W.subIn K (.ref CBadMark) (.type "BaseException") = some true)
    (hdBadMark : PySem.W.hasDictIn K CBadMark = true)
    (ccBadMark : PySem.W.findIn K (.ref CBadMark) "__class__" = some (some (.builtin "object.__class__")))
    (mrBadMark : PySem.W.mroIn K CBadMark (.type "object") = some true)
    (kkBadMark : PySem.W.keepIn K (.ref CBadMark) = true)
    (inBadMark : PySem.W.excInitIn K CBadMark [.type "ValueError", .type "Exception", .type "BaseException", .type "object"] "ValueError.__new__" = true)
    (ovBadMark : PySem.W.excOver K CBadMark [.type "ValueError", .type "Exception", .type "BaseException", .type "object"] = true)
    (saBadMark : PySem.W.findIn K (.ref CBadMark) "__setattr__" = some (some (.builtin "object.__setattr__")))
    (noBadMark : PySem.W.findIn K (.ref CBadMark) "value" = some none)
    (tyBadMark : PySem.W.typeIn K (.ref CBadMark) = some (.type "type"))
    (iBadMark : PySem.W.findIn K (.ref CBadMark) "__init__" = some (some (.ref fBadMarkInit)))
    (tBadMark : PySem.W.typeIn K (.ref fBadMarkInit) = some (.type "function"))
    (lBadMarkInit : K.lookup fBadMarkInit = some ⟨ocBadMarkInit, odBadMarkInit, .func (PySem.W.fnOf "__init__" "BadMark.__init__" (defArgs sBadMarkInit) (defBody sBadMarkInit) (defScope sBadMarkInit) .none kVBadMarkInit dcBadMarkInit pmBadMarkInit anBadMarkInit cdBadMarkInit ctBadMarkInit), slBadMarkInit⟩)
    (cBadMarkInit : PySem.W.codeIn K cdBadMarkInit "BadMark.__init__" = true)
    (kBadMarkInit : PySem.W.keepIn K (.ref fBadMarkInit) = true)
    (aBadArgument : PySem.W.nsIn K mainGlobals "BadArgument" = some (some (.ref CBadArgument)))
    (gaBadArgument : PySem.W.findIn K (.ref CBadArgument) "__getattribute__" = some (some (.builtin "BaseException.__getattribute__")))
    (ggBadArgument : PySem.W.findIn K (.ref CBadArgument) "__getattr__" = some none)
    (exBadArgument : PySem.W.subIn K (.ref CBadArgument) (.type "BaseException") = some true)
    (hdBadArgument : PySem.W.hasDictIn K CBadArgument = true)
    (ccBadArgument : PySem.W.findIn K (.ref CBadArgument) "__class__" = some (some (.builtin "object.__class__")))
    (mrBadArgument : PySem.W.mroIn K CBadArgument (.type "object") = some true)
    (kkBadArgument : PySem.W.keepIn K (.ref CBadArgument) = true)
    (inBadArgument : PySem.W.excInitIn K CBadArgument [.type "ValueError", .type "Exception", .type "BaseException", .type "object"] "ValueError.__new__" = true)
    (ovBadArgument : PySem.W.excOver K CBadArgument [.type "ValueError", .type "Exception", .type "BaseException", .type "object"] = true)
    (saBadArgument : PySem.W.findIn K (.ref CBadArgument) "__setattr__" = some (some (.builtin "object.__setattr__")))
    (noBadArgument : PySem.W.findIn K (.ref CBadArgument) "value" = some none)
    (tyBadArgument : PySem.W.typeIn K (.ref CBadArgument) = some (.type "type"))
    (iBadArgument : PySem.W.findIn K (.ref CBadArgument) "__init__" = some (some (.ref fBadArgumentInit)))
    (tBadArgument : PySem.W.typeIn K (.ref fBadArgumentInit) = some (.type "function"))
    (lBadArgumentInit : K.lookup fBadArgumentInit = some ⟨ocBadArgumentInit, odBadArgumentInit, .func (PySem.W.fnOf "__init__" "BadArgument.__init__" (defArgs sBadArgumentInit) (defBody sBadArgumentInit) (defScope sBadArgumentInit) .none kVBadArgumentInit dcBadArgumentInit pmBadArgumentInit anBadArgumentInit cdBadArgumentInit ctBadArgumentInit), slBadArgumentInit⟩)
    (cBadArgumentInit : PySem.W.codeIn K cdBadArgumentInit "BadArgument.__init__" = true)
    (kBadArgumentInit : PySem.W.keepIn K (.ref fBadArgumentInit) = true)
    (aBadNumber : PySem.W.nsIn K mainGlobals "BadNumber" = some (some (.ref CBadNumber)))
    (gaBadNumber : PySem.W.findIn K (.ref CBadNumber) "__getattribute__" = some (some (.builtin "BaseException.__getattribute__")))
    (ggBadNumber : PySem.W.findIn K (.ref CBadNumber) "__getattr__" = some none)
    (exBadNumber : PySem.W.subIn K (.ref CBadNumber) (.type "BaseException") = some true)
    (hdBadNumber : PySem.W.hasDictIn K CBadNumber = true)
    (ccBadNumber : PySem.W.findIn K (.ref CBadNumber) "__class__" = some (some (.builtin "object.__class__")))
    (mrBadNumber : PySem.W.mroIn K CBadNumber (.type "object") = some true)
    (kkBadNumber : PySem.W.keepIn K (.ref CBadNumber) = true)
    (inBadNumber : PySem.W.excInitIn K CBadNumber [.type "ValueError", .type "Exception", .type "BaseException", .type "object"] "ValueError.__new__" = true)
    (ovBadNumber : PySem.W.excOver K CBadNumber [.type "ValueError", .type "Exception", .type "BaseException", .type "object"] = true)
    (saBadNumber : PySem.W.findIn K (.ref CBadNumber) "__setattr__" = some (some (.builtin "object.__setattr__")))
    (noBadNumber : PySem.W.findIn K (.ref CBadNumber) "number" = some none)
    (tyBadNumber : PySem.W.typeIn K (.ref CBadNumber) = some (.type "type"))
    (iBadNumber : PySem.W.findIn K (.ref CBadNumber) "__init__" = some (some (.ref fBadNumberInit)))
    (tBadNumber : PySem.W.typeIn K (.ref fBadNumberInit) = some (.type "function"))
    (lBadNumberInit : K.lookup fBadNumberInit = some ⟨ocBadNumberInit, odBadNumberInit, .func (PySem.W.fnOf "__init__" "BadNumber.__init__" (defArgs sBadNumberInit) (defBody sBadNumberInit) (defScope sBadNumberInit) .none kVBadNumberInit dcBadNumberInit pmBadNumberInit anBadNumberInit cdBadNumberInit ctBadNumberInit), slBadNumberInit⟩)
    (cBadNumberInit : PySem.W.codeIn K cdBadNumberInit "BadNumber.__init__" = true)
    (kBadNumberInit : PySem.W.keepIn K (.ref fBadNumberInit) = true)
    (aBadChange : PySem.W.nsIn K mainGlobals "BadChange" = some (some (.ref CBadChange)))
    (gaBadChange : PySem.W.findIn K (.ref CBadChange) "__getattribute__" = some (some (.builtin "BaseException.__getattribute__")))
    (ggBadChange : PySem.W.findIn K (.ref CBadChange) "__getattr__" = some none)
    (exBadChange : PySem.W.subIn K (.ref CBadChange) (.type "BaseException") = some true)
    (hdBadChange : PySem.W.hasDictIn K CBadChange = true)
    (ccBadChange : PySem.W.findIn K (.ref CBadChange) "__class__" = some (some (.builtin "object.__class__")))
    (mrBadChange : PySem.W.mroIn K CBadChange (.type "object") = some true)
    (kkBadChange : PySem.W.keepIn K (.ref CBadChange) = true)
    (inBadChange : PySem.W.excInitIn K CBadChange [.type "ValueError", .type "Exception", .type "BaseException", .type "object"] "ValueError.__new__" = true)
    (ovBadChange : PySem.W.excOver K CBadChange [.type "ValueError", .type "Exception", .type "BaseException", .type "object"] = true)
    (saBadChange : PySem.W.findIn K (.ref CBadChange) "__setattr__" = some (some (.builtin "object.__setattr__")))
    (noBadChange : PySem.W.findIn K (.ref CBadChange) "value" = some none)
    (tyBadChange : PySem.W.typeIn K (.ref CBadChange) = some (.type "type"))
    (iBadChange : PySem.W.findIn K (.ref CBadChange) "__init__" = some (some (.ref fBadChangeInit)))
    (tBadChange : PySem.W.typeIn K (.ref fBadChangeInit) = some (.type "function"))
    (lBadChangeInit : K.lookup fBadChangeInit = some ⟨ocBadChangeInit, odBadChangeInit, .func (PySem.W.fnOf "__init__" "BadChange.__init__" (defArgs sBadChangeInit) (defBody sBadChangeInit) (defScope sBadChangeInit) .none kVBadChangeInit dcBadChangeInit pmBadChangeInit anBadChangeInit cdBadChangeInit ctBadChangeInit), slBadChangeInit⟩)
    (cBadChangeInit : PySem.W.codeIn K cdBadChangeInit "BadChange.__init__" = true)
    (kBadChangeInit : PySem.W.keepIn K (.ref fBadChangeInit) = true)
    (aBadCommand : PySem.W.nsIn K mainGlobals "BadCommand" = some (some (.ref CBadCommand)))
    (gaBadCommand : PySem.W.findIn K (.ref CBadCommand) "__getattribute__" = some (some (.builtin "BaseException.__getattribute__")))
    (ggBadCommand : PySem.W.findIn K (.ref CBadCommand) "__getattr__" = some none)
    (exBadCommand : PySem.W.subIn K (.ref CBadCommand) (.type "BaseException") = some true)
    (hdBadCommand : PySem.W.hasDictIn K CBadCommand = true)
    (ccBadCommand : PySem.W.findIn K (.ref CBadCommand) "__class__" = some (some (.builtin "object.__class__")))
    (mrBadCommand : PySem.W.mroIn K CBadCommand (.type "object") = some true)
    (kkBadCommand : PySem.W.keepIn K (.ref CBadCommand) = true)
    (inBadCommand : PySem.W.excInitIn K CBadCommand [.type "ValueError", .type "Exception", .type "BaseException", .type "object"] "ValueError.__new__" = true)
    (ovBadCommand : PySem.W.excOver K CBadCommand [.type "ValueError", .type "Exception", .type "BaseException", .type "object"] = true)
    (saBadCommand : PySem.W.findIn K (.ref CBadCommand) "__setattr__" = some (some (.builtin "object.__setattr__")))
    (noBadCommand : PySem.W.findIn K (.ref CBadCommand) "command" = some none)
    (tyBadCommand : PySem.W.typeIn K (.ref CBadCommand) = some (.type "type"))
    (iBadCommand : PySem.W.findIn K (.ref CBadCommand) "__init__" = some (some (.ref fBadCommandInit)))
    (tBadCommand : PySem.W.typeIn K (.ref fBadCommandInit) = some (.type "function"))
    (lBadCommandInit : K.lookup fBadCommandInit = some ⟨ocBadCommandInit, odBadCommandInit, .func (PySem.W.fnOf "__init__" "BadCommand.__init__" (defArgs sBadCommandInit) (defBody sBadCommandInit) (defScope sBadCommandInit) .none kVBadCommandInit dcBadCommandInit pmBadCommandInit anBadCommandInit cdBadCommandInit ctBadCommandInit), slBadCommandInit⟩)
    (cBadCommandInit : PySem.W.codeIn K cdBadCommandInit "BadCommand.__init__" = true)
    (kBadCommandInit : PySem.W.keepIn K (.ref fBadCommandInit) = true)
    (aBadText : PySem.W.nsIn K mainGlobals "BadText" = some (some (.ref CBadText)))
    (gaBadText : PySem.W.findIn K (.ref CBadText) "__getattribute__" = some (some (.builtin "BaseException.__getattribute__")))
    (ggBadText : PySem.W.findIn K (.ref CBadText) "__getattr__" = some none)
    (exBadText : PySem.W.subIn K (.ref CBadText) (.type "BaseException") = some true)
    (hdBadText : PySem.W.hasDictIn K CBadText = true)
    (ccBadText : PySem.W.findIn K (.ref CBadText) "__class__" = some (some (.builtin "object.__class__")))
    (mrBadText : PySem.W.mroIn K CBadText (.type "object") = some true)
    (kkBadText : PySem.W.keepIn K (.ref CBadText) = true)
    (inBadText : PySem.W.excInitIn K CBadText [.type "ValueError", .type "Exception", .type "BaseException", .type "object"] "ValueError.__new__" = true)
    (ovBadText : PySem.W.excOver K CBadText [.type "ValueError", .type "Exception", .type "BaseException", .type "object"] = true)
    (saBadText : PySem.W.findIn K (.ref CBadText) "__setattr__" = some (some (.builtin "object.__setattr__")))
    (noBadText : PySem.W.findIn K (.ref CBadText) "line" = some none)
    (tyBadText : PySem.W.typeIn K (.ref CBadText) = some (.type "type"))
    (iBadText : PySem.W.findIn K (.ref CBadText) "__init__" = some (some (.ref fBadTextInit)))
    (tBadText : PySem.W.typeIn K (.ref fBadTextInit) = some (.type "function"))
    (lBadTextInit : K.lookup fBadTextInit = some ⟨ocBadTextInit, odBadTextInit, .func (PySem.W.fnOf "__init__" "BadText.__init__" (defArgs sBadTextInit) (defBody sBadTextInit) (defScope sBadTextInit) .none kVBadTextInit dcBadTextInit pmBadTextInit anBadTextInit cdBadTextInit ctBadTextInit), slBadTextInit⟩)
    (cBadTextInit : PySem.W.codeIn K cdBadTextInit "BadText.__init__" = true)
    (kBadTextInit : PySem.W.keepIn K (.ref fBadTextInit) = true)
    (aTooMany : PySem.W.nsIn K mainGlobals "TooMany" = some (some (.ref CTooMany)))
    (gaTooMany : PySem.W.findIn K (.ref CTooMany) "__getattribute__" = some (some (.builtin "BaseException.__getattribute__")))
    (ggTooMany : PySem.W.findIn K (.ref CTooMany) "__getattr__" = some none)
    (exTooMany : PySem.W.subIn K (.ref CTooMany) (.type "BaseException") = some true)
    (hdTooMany : PySem.W.hasDictIn K CTooMany = true)
    (ccTooMany : PySem.W.findIn K (.ref CTooMany) "__class__" = some (some (.builtin "object.__class__")))
    (mrTooMany : PySem.W.mroIn K CTooMany (.type "object") = some true)
    (kkTooMany : PySem.W.keepIn K (.ref CTooMany) = true)
    (inTooMany : PySem.W.excInitIn K CTooMany [.type "OverflowError", .type "ArithmeticError", .type "Exception", .type "BaseException", .type "object"] "OverflowError.__new__" = true)
    (ovTooMany : PySem.W.excOver K CTooMany [.type "OverflowError", .type "ArithmeticError", .type "Exception", .type "BaseException", .type "object"] = true)
    (saTooMany : PySem.W.findIn K (.ref CTooMany) "__setattr__" = some (some (.builtin "object.__setattr__")))
    (noTooMany : PySem.W.findIn K (.ref CTooMany) "most" = some none)
    (tyTooMany : PySem.W.typeIn K (.ref CTooMany) = some (.type "type"))
    (iTooMany : PySem.W.findIn K (.ref CTooMany) "__init__" = some (some (.ref fTooManyInit)))
    (tTooMany : PySem.W.typeIn K (.ref fTooManyInit) = some (.type "function"))
    (lTooManyInit : K.lookup fTooManyInit = some ⟨ocTooManyInit, odTooManyInit, .func (PySem.W.fnOf "__init__" "TooMany.__init__" (defArgs sTooManyInit) (defBody sTooManyInit) (defScope sTooManyInit) .none kVTooManyInit dcTooManyInit pmTooManyInit anTooManyInit cdTooManyInit ctTooManyInit), slTooManyInit⟩)
    (cTooManyInit : PySem.W.codeIn K cdTooManyInit "TooMany.__init__" = true)
    (kTooManyInit : PySem.W.keepIn K (.ref fTooManyInit) = true)
    (aNotThere : PySem.W.nsIn K mainGlobals "NotThere" = some (some (.ref CNotThere)))
    (gaNotThere : PySem.W.findIn K (.ref CNotThere) "__getattribute__" = some (some (.builtin "BaseException.__getattribute__")))
    (ggNotThere : PySem.W.findIn K (.ref CNotThere) "__getattr__" = some none)
    (exNotThere : PySem.W.subIn K (.ref CNotThere) (.type "BaseException") = some true)
    (hdNotThere : PySem.W.hasDictIn K CNotThere = true)
    (ccNotThere : PySem.W.findIn K (.ref CNotThere) "__class__" = some (some (.builtin "object.__class__")))
    (mrNotThere : PySem.W.mroIn K CNotThere (.type "object") = some true)
    (kkNotThere : PySem.W.keepIn K (.ref CNotThere) = true)
    (inNotThere : PySem.W.excInitIn K CNotThere [.type "LookupError", .type "Exception", .type "BaseException", .type "object"] "LookupError.__new__" = true)
    (ovNotThere : PySem.W.excOver K CNotThere [.type "LookupError", .type "Exception", .type "BaseException", .type "object"] = true)
    (saNotThere : PySem.W.findIn K (.ref CNotThere) "__setattr__" = some (some (.builtin "object.__setattr__")))
    (noNotThere : PySem.W.findIn K (.ref CNotThere) "word" = some none)
    (tyNotThere : PySem.W.typeIn K (.ref CNotThere) = some (.type "type"))
    (iNotThere : PySem.W.findIn K (.ref CNotThere) "__init__" = some (some (.ref fNotThereInit)))
    (tNotThere : PySem.W.typeIn K (.ref fNotThereInit) = some (.type "function"))
    (lNotThereInit : K.lookup fNotThereInit = some ⟨ocNotThereInit, odNotThereInit, .func (PySem.W.fnOf "__init__" "NotThere.__init__" (defArgs sNotThereInit) (defBody sNotThereInit) (defScope sNotThereInit) .none kVNotThereInit dcNotThereInit pmNotThereInit anNotThereInit cdNotThereInit ctNotThereInit), slNotThereInit⟩)
    (cNotThereInit : PySem.W.codeIn K cdNotThereInit "NotThere.__init__" = true)
    (kNotThereInit : PySem.W.keepIn K (.ref fNotThereInit) = true)
    (aMarksError : PySem.W.nsIn K mainGlobals "MarksError" = some (some (.ref CMarksError)))
    (gaMarksError : PySem.W.findIn K (.ref CMarksError) "__getattribute__" = some (some (.builtin "BaseException.__getattribute__")))
    (ggMarksError : PySem.W.findIn K (.ref CMarksError) "__getattr__" = some none)
    (exMarksError : PySem.W.subIn K (.ref CMarksError) (.type "BaseException") = some true)
    (hdMarksError : PySem.W.hasDictIn K CMarksError = true)
    (ccMarksError : PySem.W.findIn K (.ref CMarksError) "__class__" = some (some (.builtin "object.__class__")))
    (mrMarksError : PySem.W.mroIn K CMarksError (.type "object") = some true)
    (kkMarksError : PySem.W.keepIn K (.ref CMarksError) = true)
    (xiMarksError : PySem.W.excIn K CMarksError [.type "ValueError", .type "Exception", .type "BaseException", .type "object"] "ValueError.__new__" = true)
    (aNothingLeft : PySem.W.nsIn K mainGlobals "NothingLeft" = some (some (.ref CNothingLeft)))
    (gaNothingLeft : PySem.W.findIn K (.ref CNothingLeft) "__getattribute__" = some (some (.builtin "BaseException.__getattribute__")))
    (ggNothingLeft : PySem.W.findIn K (.ref CNothingLeft) "__getattr__" = some none)
    (exNothingLeft : PySem.W.subIn K (.ref CNothingLeft) (.type "BaseException") = some true)
    (hdNothingLeft : PySem.W.hasDictIn K CNothingLeft = true)
    (ccNothingLeft : PySem.W.findIn K (.ref CNothingLeft) "__class__" = some (some (.builtin "object.__class__")))
    (mrNothingLeft : PySem.W.mroIn K CNothingLeft (.type "object") = some true)
    (kkNothingLeft : PySem.W.keepIn K (.ref CNothingLeft) = true)
    (xiNothingLeft : PySem.W.excIn K CNothingLeft [.type "LookupError", .type "Exception", .type "BaseException", .type "object"] "LookupError.__new__" = true)
    (kit_0_0 : PySem.W.kitOne K (.ref CBadCrowd) (.ref CBadCrowd) = some true)
    (kit_0_1 : PySem.W.kitOne K (.ref CBadCrowd) (.ref CBadPage) = some false)
    (kit_0_2 : PySem.W.kitOne K (.ref CBadCrowd) (.ref CBadRule) = some false)
    (kit_0_3 : PySem.W.kitOne K (.ref CBadCrowd) (.ref CBadPair) = some false)
    (kit_0_4 : PySem.W.kitOne K (.ref CBadCrowd) (.ref CBadMark) = some false)
    (kit_0_5 : PySem.W.kitOne K (.ref CBadCrowd) (.ref CBadArgument) = some false)
    (kit_0_6 : PySem.W.kitOne K (.ref CBadCrowd) (.ref CBadNumber) = some false)
    (kit_0_7 : PySem.W.kitOne K (.ref CBadCrowd) (.ref CBadChange) = some false)
    (kit_0_8 : PySem.W.kitOne K (.ref CBadCrowd) (.ref CBadCommand) = some false)
    (kit_0_9 : PySem.W.kitOne K (.ref CBadCrowd) (.ref CBadText) = some false)
    (kit_0_10 : PySem.W.kitOne K (.ref CBadCrowd) (.ref CTooMany) = some false)
    (kit_0_11 : PySem.W.kitOne K (.ref CBadCrowd) (.ref CNotThere) = some false)
    (kb_0_0 : PySem.W.kitOne K (.ref CBadCrowd) (.ref CMarksError) = some true)
    (kb_0_1 : PySem.W.kitOne K (.ref CBadCrowd) (.type "ValueError") = some true)
    (kb_0_2 : PySem.W.kitOne K (.ref CBadCrowd) (.type "OverflowError") = some false)
    (kb_0_3 : PySem.W.kitOne K (.ref CBadCrowd) (.type "LookupError") = some false)
    (kb_0_4 : PySem.W.kitOne K (.ref CBadCrowd) (.ref CNothingLeft) = some false)
    (kit_1_0 : PySem.W.kitOne K (.ref CBadPage) (.ref CBadCrowd) = some false)
    (kit_1_1 : PySem.W.kitOne K (.ref CBadPage) (.ref CBadPage) = some true)
    (kit_1_2 : PySem.W.kitOne K (.ref CBadPage) (.ref CBadRule) = some false)
    (kit_1_3 : PySem.W.kitOne K (.ref CBadPage) (.ref CBadPair) = some false)
    (kit_1_4 : PySem.W.kitOne K (.ref CBadPage) (.ref CBadMark) = some false)
    (kit_1_5 : PySem.W.kitOne K (.ref CBadPage) (.ref CBadArgument) = some false)
    (kit_1_6 : PySem.W.kitOne K (.ref CBadPage) (.ref CBadNumber) = some false)
    (kit_1_7 : PySem.W.kitOne K (.ref CBadPage) (.ref CBadChange) = some false)
    (kit_1_8 : PySem.W.kitOne K (.ref CBadPage) (.ref CBadCommand) = some false)
    (kit_1_9 : PySem.W.kitOne K (.ref CBadPage) (.ref CBadText) = some false)
    (kit_1_10 : PySem.W.kitOne K (.ref CBadPage) (.ref CTooMany) = some false)
    (kit_1_11 : PySem.W.kitOne K (.ref CBadPage) (.ref CNotThere) = some false)
    (kb_1_0 : PySem.W.kitOne K (.ref CBadPage) (.ref CMarksError) = some true)
    (kb_1_1 : PySem.W.kitOne K (.ref CBadPage) (.type "ValueError") = some true)
    (kb_1_2 : PySem.W.kitOne K (.ref CBadPage) (.type "OverflowError") = some false)
    (kb_1_3 : PySem.W.kitOne K (.ref CBadPage) (.type "LookupError") = some false)
    (kb_1_4 : PySem.W.kitOne K (.ref CBadPage) (.ref CNothingLeft) = some false)
    (kit_2_0 : PySem.W.kitOne K (.ref CBadRule) (.ref CBadCrowd) = some false)
    (kit_2_1 : PySem.W.kitOne K (.ref CBadRule) (.ref CBadPage) = some false)
    (kit_2_2 : PySem.W.kitOne K (.ref CBadRule) (.ref CBadRule) = some true)
    (kit_2_3 : PySem.W.kitOne K (.ref CBadRule) (.ref CBadPair) = some false)
    (kit_2_4 : PySem.W.kitOne K (.ref CBadRule) (.ref CBadMark) = some false)
    (kit_2_5 : PySem.W.kitOne K (.ref CBadRule) (.ref CBadArgument) = some false)
    (kit_2_6 : PySem.W.kitOne K (.ref CBadRule) (.ref CBadNumber) = some false)
    (kit_2_7 : PySem.W.kitOne K (.ref CBadRule) (.ref CBadChange) = some false)
    (kit_2_8 : PySem.W.kitOne K (.ref CBadRule) (.ref CBadCommand) = some false)
    (kit_2_9 : PySem.W.kitOne K (.ref CBadRule) (.ref CBadText) = some false)
    (kit_2_10 : PySem.W.kitOne K (.ref CBadRule) (.ref CTooMany) = some false)
    (kit_2_11 : PySem.W.kitOne K (.ref CBadRule) (.ref CNotThere) = some false)
    (kb_2_0 : PySem.W.kitOne K (.ref CBadRule) (.ref CMarksError) = some true)
    (kb_2_1 : PySem.W.kitOne K (.ref CBadRule) (.type "ValueError") = some true)
    (kb_2_2 : PySem.W.kitOne K (.ref CBadRule) (.type "OverflowError") = some false)
    (kb_2_3 : PySem.W.kitOne K (.ref CBadRule) (.type "LookupError") = some false)
    (kb_2_4 : PySem.W.kitOne K (.ref CBadRule) (.ref CNothingLeft) = some false)
    (kit_3_0 : PySem.W.kitOne K (.ref CBadPair) (.ref CBadCrowd) = some false)
    (kit_3_1 : PySem.W.kitOne K (.ref CBadPair) (.ref CBadPage) = some false)
    (kit_3_2 : PySem.W.kitOne K (.ref CBadPair) (.ref CBadRule) = some false)
    (kit_3_3 : PySem.W.kitOne K (.ref CBadPair) (.ref CBadPair) = some true)
    (kit_3_4 : PySem.W.kitOne K (.ref CBadPair) (.ref CBadMark) = some false)
    (kit_3_5 : PySem.W.kitOne K (.ref CBadPair) (.ref CBadArgument) = some false)
    (kit_3_6 : PySem.W.kitOne K (.ref CBadPair) (.ref CBadNumber) = some false)
    (kit_3_7 : PySem.W.kitOne K (.ref CBadPair) (.ref CBadChange) = some false)
    (kit_3_8 : PySem.W.kitOne K (.ref CBadPair) (.ref CBadCommand) = some false)
    (kit_3_9 : PySem.W.kitOne K (.ref CBadPair) (.ref CBadText) = some false)
    (kit_3_10 : PySem.W.kitOne K (.ref CBadPair) (.ref CTooMany) = some false)
    (kit_3_11 : PySem.W.kitOne K (.ref CBadPair) (.ref CNotThere) = some false)
    (kb_3_0 : PySem.W.kitOne K (.ref CBadPair) (.ref CMarksError) = some true)
    (kb_3_1 : PySem.W.kitOne K (.ref CBadPair) (.type "ValueError") = some true)
    (kb_3_2 : PySem.W.kitOne K (.ref CBadPair) (.type "OverflowError") = some false)
    (kb_3_3 : PySem.W.kitOne K (.ref CBadPair) (.type "LookupError") = some false)
    (kb_3_4 : PySem.W.kitOne K (.ref CBadPair) (.ref CNothingLeft) = some false)
    (kit_4_0 : PySem.W.kitOne K (.ref CBadMark) (.ref CBadCrowd) = some false)
    (kit_4_1 : PySem.W.kitOne K (.ref CBadMark) (.ref CBadPage) = some false)
    (kit_4_2 : PySem.W.kitOne K (.ref CBadMark) (.ref CBadRule) = some false)
    (kit_4_3 : PySem.W.kitOne K (.ref CBadMark) (.ref CBadPair) = some false)
    (kit_4_4 : PySem.W.kitOne K (.ref CBadMark) (.ref CBadMark) = some true)
    (kit_4_5 : PySem.W.kitOne K (.ref CBadMark) (.ref CBadArgument) = some false)
    (kit_4_6 : PySem.W.kitOne K (.ref CBadMark) (.ref CBadNumber) = some false)
    (kit_4_7 : PySem.W.kitOne K (.ref CBadMark) (.ref CBadChange) = some false)
    (kit_4_8 : PySem.W.kitOne K (.ref CBadMark) (.ref CBadCommand) = some false)
    (kit_4_9 : PySem.W.kitOne K (.ref CBadMark) (.ref CBadText) = some false)
    (kit_4_10 : PySem.W.kitOne K (.ref CBadMark) (.ref CTooMany) = some false)
    (kit_4_11 : PySem.W.kitOne K (.ref CBadMark) (.ref CNotThere) = some false)
    (kb_4_0 : PySem.W.kitOne K (.ref CBadMark) (.ref CMarksError) = some true)
    (kb_4_1 : PySem.W.kitOne K (.ref CBadMark) (.type "ValueError") = some true)
    (kb_4_2 : PySem.W.kitOne K (.ref CBadMark) (.type "OverflowError") = some false)
    (kb_4_3 : PySem.W.kitOne K (.ref CBadMark) (.type "LookupError") = some false)
    (kb_4_4 : PySem.W.kitOne K (.ref CBadMark) (.ref CNothingLeft) = some false)
    (kit_5_0 : PySem.W.kitOne K (.ref CBadArgument) (.ref CBadCrowd) = some false)
    (kit_5_1 : PySem.W.kitOne K (.ref CBadArgument) (.ref CBadPage) = some false)
    (kit_5_2 : PySem.W.kitOne K (.ref CBadArgument) (.ref CBadRule) = some false)
    (kit_5_3 : PySem.W.kitOne K (.ref CBadArgument) (.ref CBadPair) = some false)
    (kit_5_4 : PySem.W.kitOne K (.ref CBadArgument) (.ref CBadMark) = some false)
    (kit_5_5 : PySem.W.kitOne K (.ref CBadArgument) (.ref CBadArgument) = some true)
    (kit_5_6 : PySem.W.kitOne K (.ref CBadArgument) (.ref CBadNumber) = some false)
    (kit_5_7 : PySem.W.kitOne K (.ref CBadArgument) (.ref CBadChange) = some false)
    (kit_5_8 : PySem.W.kitOne K (.ref CBadArgument) (.ref CBadCommand) = some false)
    (kit_5_9 : PySem.W.kitOne K (.ref CBadArgument) (.ref CBadText) = some false)
    (kit_5_10 : PySem.W.kitOne K (.ref CBadArgument) (.ref CTooMany) = some false)
    (kit_5_11 : PySem.W.kitOne K (.ref CBadArgument) (.ref CNotThere) = some false)
    (kb_5_0 : PySem.W.kitOne K (.ref CBadArgument) (.ref CMarksError) = some true)
    (kb_5_1 : PySem.W.kitOne K (.ref CBadArgument) (.type "ValueError") = some true)
    (kb_5_2 : PySem.W.kitOne K (.ref CBadArgument) (.type "OverflowError") = some false)
    (kb_5_3 : PySem.W.kitOne K (.ref CBadArgument) (.type "LookupError") = some false)
    (kb_5_4 : PySem.W.kitOne K (.ref CBadArgument) (.ref CNothingLeft) = some false)
    (kit_6_0 : PySem.W.kitOne K (.ref CBadNumber) (.ref CBadCrowd) = some false)
    (kit_6_1 : PySem.W.kitOne K (.ref CBadNumber) (.ref CBadPage) = some false)
    (kit_6_2 : PySem.W.kitOne K (.ref CBadNumber) (.ref CBadRule) = some false)
    (kit_6_3 : PySem.W.kitOne K (.ref CBadNumber) (.ref CBadPair) = some false)
    (kit_6_4 : PySem.W.kitOne K (.ref CBadNumber) (.ref CBadMark) = some false)
    (kit_6_5 : PySem.W.kitOne K (.ref CBadNumber) (.ref CBadArgument) = some false)
    (kit_6_6 : PySem.W.kitOne K (.ref CBadNumber) (.ref CBadNumber) = some true)
    (kit_6_7 : PySem.W.kitOne K (.ref CBadNumber) (.ref CBadChange) = some false)
    (kit_6_8 : PySem.W.kitOne K (.ref CBadNumber) (.ref CBadCommand) = some false)
    (kit_6_9 : PySem.W.kitOne K (.ref CBadNumber) (.ref CBadText) = some false)
    (kit_6_10 : PySem.W.kitOne K (.ref CBadNumber) (.ref CTooMany) = some false)
    (kit_6_11 : PySem.W.kitOne K (.ref CBadNumber) (.ref CNotThere) = some false)
    (kb_6_0 : PySem.W.kitOne K (.ref CBadNumber) (.ref CMarksError) = some true)
    (kb_6_1 : PySem.W.kitOne K (.ref CBadNumber) (.type "ValueError") = some true)
    (kb_6_2 : PySem.W.kitOne K (.ref CBadNumber) (.type "OverflowError") = some false)
    (kb_6_3 : PySem.W.kitOne K (.ref CBadNumber) (.type "LookupError") = some false)
    (kb_6_4 : PySem.W.kitOne K (.ref CBadNumber) (.ref CNothingLeft) = some false)
    (kit_7_0 : PySem.W.kitOne K (.ref CBadChange) (.ref CBadCrowd) = some false)
    (kit_7_1 : PySem.W.kitOne K (.ref CBadChange) (.ref CBadPage) = some false)
    (kit_7_2 : PySem.W.kitOne K (.ref CBadChange) (.ref CBadRule) = some false)
    (kit_7_3 : PySem.W.kitOne K (.ref CBadChange) (.ref CBadPair) = some false)
    (kit_7_4 : PySem.W.kitOne K (.ref CBadChange) (.ref CBadMark) = some false)
    (kit_7_5 : PySem.W.kitOne K (.ref CBadChange) (.ref CBadArgument) = some false)
    (kit_7_6 : PySem.W.kitOne K (.ref CBadChange) (.ref CBadNumber) = some false)
    (kit_7_7 : PySem.W.kitOne K (.ref CBadChange) (.ref CBadChange) = some true)
    (kit_7_8 : PySem.W.kitOne K (.ref CBadChange) (.ref CBadCommand) = some false)
    (kit_7_9 : PySem.W.kitOne K (.ref CBadChange) (.ref CBadText) = some false)
    (kit_7_10 : PySem.W.kitOne K (.ref CBadChange) (.ref CTooMany) = some false)
    (kit_7_11 : PySem.W.kitOne K (.ref CBadChange) (.ref CNotThere) = some false)
    (kb_7_0 : PySem.W.kitOne K (.ref CBadChange) (.ref CMarksError) = some true)
    (kb_7_1 : PySem.W.kitOne K (.ref CBadChange) (.type "ValueError") = some true)
    (kb_7_2 : PySem.W.kitOne K (.ref CBadChange) (.type "OverflowError") = some false)
    (kb_7_3 : PySem.W.kitOne K (.ref CBadChange) (.type "LookupError") = some false)
    (kb_7_4 : PySem.W.kitOne K (.ref CBadChange) (.ref CNothingLeft) = some false)
    (kit_8_0 : PySem.W.kitOne K (.ref CBadCommand) (.ref CBadCrowd) = some false)
    (kit_8_1 : PySem.W.kitOne K (.ref CBadCommand) (.ref CBadPage) = some false)
    (kit_8_2 : PySem.W.kitOne K (.ref CBadCommand) (.ref CBadRule) = some false)
    (kit_8_3 : PySem.W.kitOne K (.ref CBadCommand) (.ref CBadPair) = some false)
    (kit_8_4 : PySem.W.kitOne K (.ref CBadCommand) (.ref CBadMark) = some false)
    (kit_8_5 : PySem.W.kitOne K (.ref CBadCommand) (.ref CBadArgument) = some false)
    (kit_8_6 : PySem.W.kitOne K (.ref CBadCommand) (.ref CBadNumber) = some false)
    (kit_8_7 : PySem.W.kitOne K (.ref CBadCommand) (.ref CBadChange) = some false)
    (kit_8_8 : PySem.W.kitOne K (.ref CBadCommand) (.ref CBadCommand) = some true)
    (kit_8_9 : PySem.W.kitOne K (.ref CBadCommand) (.ref CBadText) = some false)
    (kit_8_10 : PySem.W.kitOne K (.ref CBadCommand) (.ref CTooMany) = some false)
    (kit_8_11 : PySem.W.kitOne K (.ref CBadCommand) (.ref CNotThere) = some false)
    (kb_8_0 : PySem.W.kitOne K (.ref CBadCommand) (.ref CMarksError) = some true)
    (kb_8_1 : PySem.W.kitOne K (.ref CBadCommand) (.type "ValueError") = some true)
    (kb_8_2 : PySem.W.kitOne K (.ref CBadCommand) (.type "OverflowError") = some false)
    (kb_8_3 : PySem.W.kitOne K (.ref CBadCommand) (.type "LookupError") = some false)
    (kb_8_4 : PySem.W.kitOne K (.ref CBadCommand) (.ref CNothingLeft) = some false)
    (kit_9_0 : PySem.W.kitOne K (.ref CBadText) (.ref CBadCrowd) = some false)
    (kit_9_1 : PySem.W.kitOne K (.ref CBadText) (.ref CBadPage) = some false)
    (kit_9_2 : PySem.W.kitOne K (.ref CBadText) (.ref CBadRule) = some false)
    (kit_9_3 : PySem.W.kitOne K (.ref CBadText) (.ref CBadPair) = some false)
    (kit_9_4 : PySem.W.kitOne K (.ref CBadText) (.ref CBadMark) = some false)
    (kit_9_5 : PySem.W.kitOne K (.ref CBadText) (.ref CBadArgument) = some false)
    (kit_9_6 : PySem.W.kitOne K (.ref CBadText) (.ref CBadNumber) = some false)
    (kit_9_7 : PySem.W.kitOne K (.ref CBadText) (.ref CBadChange) = some false)
    (kit_9_8 : PySem.W.kitOne K (.ref CBadText) (.ref CBadCommand) = some false)
    (kit_9_9 : PySem.W.kitOne K (.ref CBadText) (.ref CBadText) = some true)
    (kit_9_10 : PySem.W.kitOne K (.ref CBadText) (.ref CTooMany) = some false)
    (kit_9_11 : PySem.W.kitOne K (.ref CBadText) (.ref CNotThere) = some false)
    (kb_9_0 : PySem.W.kitOne K (.ref CBadText) (.ref CMarksError) = some true)
    (kb_9_1 : PySem.W.kitOne K (.ref CBadText) (.type "ValueError") = some true)
    (kb_9_2 : PySem.W.kitOne K (.ref CBadText) (.type "OverflowError") = some false)
    (kb_9_3 : PySem.W.kitOne K (.ref CBadText) (.type "LookupError") = some false)
    (kb_9_4 : PySem.W.kitOne K (.ref CBadText) (.ref CNothingLeft) = some false)
    (kit_10_0 : PySem.W.kitOne K (.ref CTooMany) (.ref CBadCrowd) = some false)
    (kit_10_1 : PySem.W.kitOne K (.ref CTooMany) (.ref CBadPage) = some false)
    (kit_10_2 : PySem.W.kitOne K (.ref CTooMany) (.ref CBadRule) = some false)
    (kit_10_3 : PySem.W.kitOne K (.ref CTooMany) (.ref CBadPair) = some false)
    (kit_10_4 : PySem.W.kitOne K (.ref CTooMany) (.ref CBadMark) = some false)
    (kit_10_5 : PySem.W.kitOne K (.ref CTooMany) (.ref CBadArgument) = some false)
    (kit_10_6 : PySem.W.kitOne K (.ref CTooMany) (.ref CBadNumber) = some false)
    (kit_10_7 : PySem.W.kitOne K (.ref CTooMany) (.ref CBadChange) = some false)
    (kit_10_8 : PySem.W.kitOne K (.ref CTooMany) (.ref CBadCommand) = some false)
    (kit_10_9 : PySem.W.kitOne K (.ref CTooMany) (.ref CBadText) = some false)
    (kit_10_10 : PySem.W.kitOne K (.ref CTooMany) (.ref CTooMany) = some true)
    (kit_10_11 : PySem.W.kitOne K (.ref CTooMany) (.ref CNotThere) = some false)
    (kb_10_0 : PySem.W.kitOne K (.ref CTooMany) (.ref CMarksError) = some false)
    (kb_10_1 : PySem.W.kitOne K (.ref CTooMany) (.type "ValueError") = some false)
    (kb_10_2 : PySem.W.kitOne K (.ref CTooMany) (.type "OverflowError") = some true)
    (kb_10_3 : PySem.W.kitOne K (.ref CTooMany) (.type "LookupError") = some false)
    (kb_10_4 : PySem.W.kitOne K (.ref CTooMany) (.ref CNothingLeft) = some false)
    (kit_11_0 : PySem.W.kitOne K (.ref CNotThere) (.ref CBadCrowd) = some false)
    (kit_11_1 : PySem.W.kitOne K (.ref CNotThere) (.ref CBadPage) = some false)
    (kit_11_2 : PySem.W.kitOne K (.ref CNotThere) (.ref CBadRule) = some false)
    (kit_11_3 : PySem.W.kitOne K (.ref CNotThere) (.ref CBadPair) = some false)
    (kit_11_4 : PySem.W.kitOne K (.ref CNotThere) (.ref CBadMark) = some false)
    (kit_11_5 : PySem.W.kitOne K (.ref CNotThere) (.ref CBadArgument) = some false)
    (kit_11_6 : PySem.W.kitOne K (.ref CNotThere) (.ref CBadNumber) = some false)
    (kit_11_7 : PySem.W.kitOne K (.ref CNotThere) (.ref CBadChange) = some false)
    (kit_11_8 : PySem.W.kitOne K (.ref CNotThere) (.ref CBadCommand) = some false)
    (kit_11_9 : PySem.W.kitOne K (.ref CNotThere) (.ref CBadText) = some false)
    (kit_11_10 : PySem.W.kitOne K (.ref CNotThere) (.ref CTooMany) = some false)
    (kit_11_11 : PySem.W.kitOne K (.ref CNotThere) (.ref CNotThere) = some true)
    (kb_11_0 : PySem.W.kitOne K (.ref CNotThere) (.ref CMarksError) = some false)
    (kb_11_1 : PySem.W.kitOne K (.ref CNotThere) (.type "ValueError") = some false)
    (kb_11_2 : PySem.W.kitOne K (.ref CNotThere) (.type "OverflowError") = some false)
    (kb_11_3 : PySem.W.kitOne K (.ref CNotThere) (.type "LookupError") = some true)
    (kb_11_4 : PySem.W.kitOne K (.ref CNotThere) (.ref CNothingLeft) = some false)
    (kn_0 : PySem.W.kitOne K (.ref CNothingLeft) (.ref CMarksError) = some false)
    (kn_1 : PySem.W.kitOne K (.ref CNothingLeft) (.type "ValueError") = some false)
    (kn_2 : PySem.W.kitOne K (.ref CNothingLeft) (.type "OverflowError") = some false)
    (kn_3 : PySem.W.kitOne K (.ref CNothingLeft) (.type "LookupError") = some true)
    (kn_4 : PySem.W.kitOne K (.ref CNothingLeft) (.ref CNothingLeft) = some true)
    (kn_5 : PySem.W.kitOne K (.ref CNothingLeft) (.ref CNotThere) = some false)
    (km_0 : PySem.W.kitOne K (.ref CMarksError) (.ref CMarksError) = some true)
    (km_1 : PySem.W.kitOne K (.ref CMarksError) (.type "ValueError") = some true)
    (km_2 : PySem.W.kitOne K (.ref CMarksError) (.type "OverflowError") = some false)
    (km_3 : PySem.W.kitOne K (.ref CMarksError) (.type "LookupError") = some false)
    (km_4 : PySem.W.kitOne K (.ref CMarksError) (.ref CNothingLeft) = some false)
    (z_len : PySem.W.nsIn K mainGlobals "len" = some none)
    (z_max : PySem.W.nsIn K mainGlobals "max" = some none)
    (z_min : PySem.W.nsIn K mainGlobals "min" = some none)
    (z_int : PySem.W.nsIn K mainGlobals "int" = some none)
    (z_range : PySem.W.nsIn K mainGlobals "range" = some none)
    (z_isinstance : PySem.W.nsIn K mainGlobals "isinstance" = some none)
    (z_repr : PySem.W.nsIn K mainGlobals "repr" = some none)
    (z_enumerate : PySem.W.nsIn K mainGlobals "enumerate" = some none)
    (z_ValueError : PySem.W.nsIn K mainGlobals "ValueError" = some none)
    (z_OverflowError : PySem.W.nsIn K mainGlobals "OverflowError" = some none)
    (z_LookupError : PySem.W.nsIn K mainGlobals "LookupError" = some none) :
    ∃ fd : FuncData, (∀ (s : Shared) (v : Value), BindsTo s fd ⟨[v], []⟩ [("_law_script", v)]) ∧ ∀ b0 : Heap, K.In b0 → b0.Ns mainGlobals mg → FnG l.prog w K mg b0 CX0 4 fa fd ["_law_script"] (spLaw K) := by
  have e := hfa.symm.trans (PySem.W.mg_of X G aLaw)
  cases e
  have B : Bt mg := ⟨PySem.W.mg_none_of X G z_len, PySem.W.mg_none_of X G z_max, PySem.W.mg_none_of X G z_min, PySem.W.mg_none_of X G z_int, PySem.W.mg_none_of X G z_range⟩
  have T : Tk mg := ⟨PySem.W.mg_none_of X G z_isinstance, PySem.W.mg_none_of X G z_repr, PySem.W.mg_none_of X G z_enumerate, PySem.W.mg_none_of X G z_ValueError, PySem.W.mg_none_of X G z_OverflowError, PySem.W.mg_none_of X G z_LookupError⟩
  have FOpened := fun_mk (st := sOpened) lOpened cOpened kOpened
  have FDraw := fun_mk (st := sDraw) lDraw cDraw kDraw
  have FPick := fun_mk (st := sPick) lPick cPick kPick
  have FMadeErrors := fun_mk (st := sMadeErrors) lMadeErrors cMadeErrors kMadeErrors
  have FNamedErrors := fun_mk (st := sNamedErrors) lNamedErrors cNamedErrors kNamedErrors
  have FFields := fun_mk (st := sFields) lFields cFields kFields
  have FKinds := fun_mk (st := sKinds) lKinds cKinds kKinds
  have FBases := fun_mk (st := sBases) lBases cBases kBases
  have FLaw := fun_mk (st := sLaw) lLaw cLaw kLaw
  have FBadCrowdInit := fun_mk (st := sBadCrowdInit) lBadCrowdInit cBadCrowdInit kBadCrowdInit
  have FBadPageInit := fun_mk (st := sBadPageInit) lBadPageInit cBadPageInit kBadPageInit
  have FBadRuleInit := fun_mk (st := sBadRuleInit) lBadRuleInit cBadRuleInit kBadRuleInit
  have FBadPairInit := fun_mk (st := sBadPairInit) lBadPairInit cBadPairInit kBadPairInit
  have FBadMarkInit := fun_mk (st := sBadMarkInit) lBadMarkInit cBadMarkInit kBadMarkInit
  have FBadArgumentInit := fun_mk (st := sBadArgumentInit) lBadArgumentInit cBadArgumentInit kBadArgumentInit
  have FBadNumberInit := fun_mk (st := sBadNumberInit) lBadNumberInit cBadNumberInit kBadNumberInit
  have FBadChangeInit := fun_mk (st := sBadChangeInit) lBadChangeInit cBadChangeInit kBadChangeInit
  have FBadCommandInit := fun_mk (st := sBadCommandInit) lBadCommandInit cBadCommandInit kBadCommandInit
  have FBadTextInit := fun_mk (st := sBadTextInit) lBadTextInit cBadTextInit kBadTextInit
  have FTooManyInit := fun_mk (st := sTooManyInit) lTooManyInit cTooManyInit kTooManyInit
  have FNotThereInit := fun_mk (st := sNotThereInit) lNotThereInit cNotThereInit kNotThereInit
  have bOpened := FOpened.binds (ps := ["_law_script", "_law_k"]) fun _ _ _ _ _ _ us hl => match us, hl with | [_, _], _ => rfl
  have bDraw := FDraw.binds (ps := ["_law_pool", "_law_many"]) fun _ _ _ _ _ _ us hl => match us, hl with | [_, _], _ => rfl
  have bPick := FPick.binds (ps := ["_law_pool", "_law_some"]) fun _ _ _ _ _ _ us hl => match us, hl with | [_, _], _ => rfl
  have bMadeErrors := FMadeErrors.binds (ps := ["_law_thing"]) fun _ _ _ _ _ _ us hl => match us, hl with | [_], _ => rfl
  have bNamedErrors := FNamedErrors.binds (ps := ["_law_thing"]) fun _ _ _ _ _ _ us hl => match us, hl with | [_], _ => rfl
  have bFields := FFields.binds (ps := ["_law_rows"]) fun _ _ _ _ _ _ us hl => match us, hl with | [_], _ => rfl
  have bKinds := FKinds.binds (ps := ["_law_one"]) fun _ _ _ _ _ _ us hl => match us, hl with | [_], _ => rfl
  have bBases := FBases.binds (ps := ["_law_one"]) fun _ _ _ _ _ _ us hl => match us, hl with | [_], _ => rfl
  have bBadCrowdInit := FBadCrowdInit.binds (ps := ["self", "part"]) fun _ _ _ _ _ _ us hl => match us, hl with | [_, _], _ => rfl
  have bBadPageInit := FBadPageInit.binds (ps := ["self", "value"]) fun _ _ _ _ _ _ us hl => match us, hl with | [_, _], _ => rfl
  have bBadRuleInit := FBadRuleInit.binds (ps := ["self", "part"]) fun _ _ _ _ _ _ us hl => match us, hl with | [_, _], _ => rfl
  have bBadPairInit := FBadPairInit.binds (ps := ["self", "value"]) fun _ _ _ _ _ _ us hl => match us, hl with | [_, _], _ => rfl
  have bBadMarkInit := FBadMarkInit.binds (ps := ["self", "value"]) fun _ _ _ _ _ _ us hl => match us, hl with | [_, _], _ => rfl
  have bBadArgumentInit := FBadArgumentInit.binds (ps := ["self", "value"]) fun _ _ _ _ _ _ us hl => match us, hl with | [_, _], _ => rfl
  have bBadNumberInit := FBadNumberInit.binds (ps := ["self", "number"]) fun _ _ _ _ _ _ us hl => match us, hl with | [_, _], _ => rfl
  have bBadChangeInit := FBadChangeInit.binds (ps := ["self", "value"]) fun _ _ _ _ _ _ us hl => match us, hl with | [_, _], _ => rfl
  have bBadCommandInit := FBadCommandInit.binds (ps := ["self", "command"]) fun _ _ _ _ _ _ us hl => match us, hl with | [_, _], _ => rfl
  have bBadTextInit := FBadTextInit.binds (ps := ["self", "line"]) fun _ _ _ _ _ _ us hl => match us, hl with | [_, _], _ => rfl
  have bTooManyInit := FTooManyInit.binds (ps := ["self", "most"]) fun _ _ _ _ _ _ us hl => match us, hl with | [_, _], _ => rfl
  have bNotThereInit := FNotThereInit.binds (ps := ["self", "word"]) fun _ _ _ _ _ _ us hl => match us, hl with | [_, _], _ => rfl
  have xc : ∀ {C : Addr}, PySem.W.findIn K (.ref C) "__getattribute__" = some (some (.builtin "BaseException.__getattribute__")) → PySem.W.findIn K (.ref C) "__getattr__" = some none → PySem.W.subIn K (.ref C) (.type "BaseException") = some true → PySem.W.hasDictIn K C = true →
      PySem.W.findIn K (.ref C) "__class__" = some (some (.builtin "object.__class__")) → PySem.W.mroIn K C (.type "object") = some true → ExcC K C := fun a b c d e f => ⟨a, b, c, d, e, spg, tkc, f⟩
  have xcBadCrowd := xc gaBadCrowd ggBadCrowd exBadCrowd hdBadCrowd ccBadCrowd mrBadCrowd
  have xcBadPage := xc gaBadPage ggBadPage exBadPage hdBadPage ccBadPage mrBadPage
  have xcBadRule := xc gaBadRule ggBadRule exBadRule hdBadRule ccBadRule mrBadRule
  have xcBadPair := xc gaBadPair ggBadPair exBadPair hdBadPair ccBadPair mrBadPair
  have xcBadMark := xc gaBadMark ggBadMark exBadMark hdBadMark ccBadMark mrBadMark
  have xcBadArgument := xc gaBadArgument ggBadArgument exBadArgument hdBadArgument ccBadArgument mrBadArgument
  have xcBadNumber := xc gaBadNumber ggBadNumber exBadNumber hdBadNumber ccBadNumber mrBadNumber
  have xcBadChange := xc gaBadChange ggBadChange exBadChange hdBadChange ccBadChange mrBadChange
  have xcBadCommand := xc gaBadCommand ggBadCommand exBadCommand hdBadCommand ccBadCommand mrBadCommand
  have xcBadText := xc gaBadText ggBadText exBadText hdBadText ccBadText mrBadText
  have xcTooMany := xc gaTooMany ggTooMany exTooMany hdTooMany ccTooMany mrTooMany
  have xcNotThere := xc gaNotThere ggNotThere exNotThere hdNotThere ccNotThere mrNotThere
  have xcMarksError := xc gaMarksError ggMarksError exMarksError hdMarksError ccMarksError mrMarksError
  have xcNothingLeft := xc gaNothingLeft ggNothingLeft exNothingLeft hdNothingLeft ccNothingLeft mrNothingLeft
  let C : Nat → Addr := fun n => match n with
    | 0 => CBadCrowd
    | 1 => CBadPage
    | 2 => CBadRule
    | 3 => CBadPair
    | 4 => CBadMark
    | 5 => CBadArgument
    | 6 => CBadNumber
    | 7 => CBadChange
    | 8 => CBadCommand
    | 9 => CBadText
    | 10 => CTooMany
    | _ => CNotThere
  refine ⟨PySem.W.fnOf "law" "law" (defArgs sLaw) (defBody sLaw) (defScope sLaw) .none kVLaw dcLaw pmLaw anLaw cdLaw ctLaw, fun s v => .of_eq rfl, fun b0 _ _ => ?_⟩
  have EBadCrowd : Ek l.prog w K mg b0 "BadCrowd" "part" CBadCrowd := ⟨PySem.W.mg_of X G aBadCrowd, ⟨⟨_, _, _, _, PySem.F.excBase_ValueError, PySem.F.store_ValueError, inBadCrowd, ovBadCrowd⟩, saBadCrowd, hdBadCrowd, exBadCrowd, tyBadCrowd, kkBadCrowd⟩, ⟨gaBadCrowd, ggBadCrowd, exBadCrowd, hdBadCrowd⟩, xcBadCrowd, noBadCrowd, _, _, iBadCrowd, tBadCrowd, ok_BadCrowdInit FBadCrowdInit, bBadCrowdInit, fun s a u => .of_eq rfl⟩
  have EBadPage : Ek l.prog w K mg b0 "BadPage" "value" CBadPage := ⟨PySem.W.mg_of X G aBadPage, ⟨⟨_, _, _, _, PySem.F.excBase_ValueError, PySem.F.store_ValueError, inBadPage, ovBadPage⟩, saBadPage, hdBadPage, exBadPage, tyBadPage, kkBadPage⟩, ⟨gaBadPage, ggBadPage, exBadPage, hdBadPage⟩, xcBadPage, noBadPage, _, _, iBadPage, tBadPage, ok_BadPageInit FBadPageInit, bBadPageInit, fun s a u => .of_eq rfl⟩
  have EBadRule : Ek l.prog w K mg b0 "BadRule" "part" CBadRule := ⟨PySem.W.mg_of X G aBadRule, ⟨⟨_, _, _, _, PySem.F.excBase_ValueError, PySem.F.store_ValueError, inBadRule, ovBadRule⟩, saBadRule, hdBadRule, exBadRule, tyBadRule, kkBadRule⟩, ⟨gaBadRule, ggBadRule, exBadRule, hdBadRule⟩, xcBadRule, noBadRule, _, _, iBadRule, tBadRule, ok_BadRuleInit FBadRuleInit, bBadRuleInit, fun s a u => .of_eq rfl⟩
  have EBadPair : Ek l.prog w K mg b0 "BadPair" "value" CBadPair := ⟨PySem.W.mg_of X G aBadPair, ⟨⟨_, _, _, _, PySem.F.excBase_ValueError, PySem.F.store_ValueError, inBadPair, ovBadPair⟩, saBadPair, hdBadPair, exBadPair, tyBadPair, kkBadPair⟩, ⟨gaBadPair, ggBadPair, exBadPair, hdBadPair⟩, xcBadPair, noBadPair, _, _, iBadPair, tBadPair, ok_BadPairInit FBadPairInit, bBadPairInit, fun s a u => .of_eq rfl⟩
  have EBadMark : Ek l.prog w K mg b0 "BadMark" "value" CBadMark := ⟨PySem.W.mg_of X G aBadMark, ⟨⟨_, _, _, _, PySem.F.excBase_ValueError, PySem.F.store_ValueError, inBadMark, ovBadMark⟩, saBadMark, hdBadMark, exBadMark, tyBadMark, kkBadMark⟩, ⟨gaBadMark, ggBadMark, exBadMark, hdBadMark⟩, xcBadMark, noBadMark, _, _, iBadMark, tBadMark, ok_BadMarkInit FBadMarkInit, bBadMarkInit, fun s a u => .of_eq rfl⟩
  have EBadArgument : Ek l.prog w K mg b0 "BadArgument" "value" CBadArgument := ⟨PySem.W.mg_of X G aBadArgument, ⟨⟨_, _, _, _, PySem.F.excBase_ValueError, PySem.F.store_ValueError, inBadArgument, ovBadArgument⟩, saBadArgument, hdBadArgument, exBadArgument, tyBadArgument, kkBadArgument⟩, ⟨gaBadArgument, ggBadArgument, exBadArgument, hdBadArgument⟩, xcBadArgument, noBadArgument, _, _, iBadArgument, tBadArgument, ok_BadArgumentInit FBadArgumentInit, bBadArgumentInit, fun s a u => .of_eq rfl⟩
  have EBadNumber : Ek l.prog w K mg b0 "BadNumber" "number" CBadNumber := ⟨PySem.W.mg_of X G aBadNumber, ⟨⟨_, _, _, _, PySem.F.excBase_ValueError, PySem.F.store_ValueError, inBadNumber, ovBadNumber⟩, saBadNumber, hdBadNumber, exBadNumber, tyBadNumber, kkBadNumber⟩, ⟨gaBadNumber, ggBadNumber, exBadNumber, hdBadNumber⟩, xcBadNumber, noBadNumber, _, _, iBadNumber, tBadNumber, ok_BadNumberInit FBadNumberInit, bBadNumberInit, fun s a u => .of_eq rfl⟩
  have EBadChange : Ek l.prog w K mg b0 "BadChange" "value" CBadChange := ⟨PySem.W.mg_of X G aBadChange, ⟨⟨_, _, _, _, PySem.F.excBase_ValueError, PySem.F.store_ValueError, inBadChange, ovBadChange⟩, saBadChange, hdBadChange, exBadChange, tyBadChange, kkBadChange⟩, ⟨gaBadChange, ggBadChange, exBadChange, hdBadChange⟩, xcBadChange, noBadChange, _, _, iBadChange, tBadChange, ok_BadChangeInit FBadChangeInit, bBadChangeInit, fun s a u => .of_eq rfl⟩
  have EBadCommand : Ek l.prog w K mg b0 "BadCommand" "command" CBadCommand := ⟨PySem.W.mg_of X G aBadCommand, ⟨⟨_, _, _, _, PySem.F.excBase_ValueError, PySem.F.store_ValueError, inBadCommand, ovBadCommand⟩, saBadCommand, hdBadCommand, exBadCommand, tyBadCommand, kkBadCommand⟩, ⟨gaBadCommand, ggBadCommand, exBadCommand, hdBadCommand⟩, xcBadCommand, noBadCommand, _, _, iBadCommand, tBadCommand, ok_BadCommandInit FBadCommandInit, bBadCommandInit, fun s a u => .of_eq rfl⟩
  have EBadText : Ek l.prog w K mg b0 "BadText" "line" CBadText := ⟨PySem.W.mg_of X G aBadText, ⟨⟨_, _, _, _, PySem.F.excBase_ValueError, PySem.F.store_ValueError, inBadText, ovBadText⟩, saBadText, hdBadText, exBadText, tyBadText, kkBadText⟩, ⟨gaBadText, ggBadText, exBadText, hdBadText⟩, xcBadText, noBadText, _, _, iBadText, tBadText, ok_BadTextInit FBadTextInit, bBadTextInit, fun s a u => .of_eq rfl⟩
  have ETooMany : Ek l.prog w K mg b0 "TooMany" "most" CTooMany := ⟨PySem.W.mg_of X G aTooMany, ⟨⟨_, _, _, _, PySem.F.excBase_OverflowError, PySem.F.store_OverflowError, inTooMany, ovTooMany⟩, saTooMany, hdTooMany, exTooMany, tyTooMany, kkTooMany⟩, ⟨gaTooMany, ggTooMany, exTooMany, hdTooMany⟩, xcTooMany, noTooMany, _, _, iTooMany, tTooMany, ok_TooManyInit FTooManyInit, bTooManyInit, fun s a u => .of_eq rfl⟩
  have ENotThere : Ek l.prog w K mg b0 "NotThere" "word" CNotThere := ⟨PySem.W.mg_of X G aNotThere, ⟨⟨_, _, _, _, PySem.F.excBase_LookupError, PySem.F.store_LookupError, inNotThere, ovNotThere⟩, saNotThere, hdNotThere, exNotThere, tyNotThere, kkNotThere⟩, ⟨gaNotThere, ggNotThere, exNotThere, hdNotThere⟩, xcNotThere, noNotThere, _, _, iNotThere, tNotThere, ok_NotThereInit FNotThereInit, bNotThereInit, fun s a u => .of_eq rfl⟩
  have E : Es l.prog w K mg b0 C := ⟨EBadCrowd, EBadPage, EBadRule, EBadPair, EBadMark, EBadArgument, EBadNumber, EBadChange, EBadCommand, EBadText, ETooMany, ENotThere⟩
  have GD := ok_draw (P := l.prog) (w := w) (base := b0) FDraw B
  have ec : ∀ i, i < 12 → ExcC K (C i) := fun i hi => match i, hi with
      | 0, _ => xcBadCrowd
      | 1, _ => xcBadPage
      | 2, _ => xcBadRule
      | 3, _ => xcBadPair
      | 4, _ => xcBadMark
      | 5, _ => xcBadArgument
      | 6, _ => xcBadNumber
      | 7, _ => xcBadChange
      | 8, _ => xcBadCommand
      | 9, _ => xcBadText
      | 10, _ => xcTooMany
      | 11, _ => xcNotThere
      | n + 12, h => absurd h (by omega)
  have kt0 : ∀ j, j < 12 → PySem.W.kitOne K (.ref CBadCrowd) (.ref (C j)) = some (decide (j = 0)) := fun j hj => match j, hj with
      | 0, _ => kit_0_0
      | 1, _ => kit_0_1
      | 2, _ => kit_0_2
      | 3, _ => kit_0_3
      | 4, _ => kit_0_4
      | 5, _ => kit_0_5
      | 6, _ => kit_0_6
      | 7, _ => kit_0_7
      | 8, _ => kit_0_8
      | 9, _ => kit_0_9
      | 10, _ => kit_0_10
      | 11, _ => kit_0_11
      | n + 12, h => absurd h (by omega)
  have kt1 : ∀ j, j < 12 → PySem.W.kitOne K (.ref CBadPage) (.ref (C j)) = some (decide (j = 1)) := fun j hj => match j, hj with
      | 0, _ => kit_1_0
      | 1, _ => kit_1_1
      | 2, _ => kit_1_2
      | 3, _ => kit_1_3
      | 4, _ => kit_1_4
      | 5, _ => kit_1_5
      | 6, _ => kit_1_6
      | 7, _ => kit_1_7
      | 8, _ => kit_1_8
      | 9, _ => kit_1_9
      | 10, _ => kit_1_10
      | 11, _ => kit_1_11
      | n + 12, h => absurd h (by omega)
  have kt2 : ∀ j, j < 12 → PySem.W.kitOne K (.ref CBadRule) (.ref (C j)) = some (decide (j = 2)) := fun j hj => match j, hj with
      | 0, _ => kit_2_0
      | 1, _ => kit_2_1
      | 2, _ => kit_2_2
      | 3, _ => kit_2_3
      | 4, _ => kit_2_4
      | 5, _ => kit_2_5
      | 6, _ => kit_2_6
      | 7, _ => kit_2_7
      | 8, _ => kit_2_8
      | 9, _ => kit_2_9
      | 10, _ => kit_2_10
      | 11, _ => kit_2_11
      | n + 12, h => absurd h (by omega)
  have kt3 : ∀ j, j < 12 → PySem.W.kitOne K (.ref CBadPair) (.ref (C j)) = some (decide (j = 3)) := fun j hj => match j, hj with
      | 0, _ => kit_3_0
      | 1, _ => kit_3_1
      | 2, _ => kit_3_2
      | 3, _ => kit_3_3
      | 4, _ => kit_3_4
      | 5, _ => kit_3_5
      | 6, _ => kit_3_6
      | 7, _ => kit_3_7
      | 8, _ => kit_3_8
      | 9, _ => kit_3_9
      | 10, _ => kit_3_10
      | 11, _ => kit_3_11
      | n + 12, h => absurd h (by omega)
  have kt4 : ∀ j, j < 12 → PySem.W.kitOne K (.ref CBadMark) (.ref (C j)) = some (decide (j = 4)) := fun j hj => match j, hj with
      | 0, _ => kit_4_0
      | 1, _ => kit_4_1
      | 2, _ => kit_4_2
      | 3, _ => kit_4_3
      | 4, _ => kit_4_4
      | 5, _ => kit_4_5
      | 6, _ => kit_4_6
      | 7, _ => kit_4_7
      | 8, _ => kit_4_8
      | 9, _ => kit_4_9
      | 10, _ => kit_4_10
      | 11, _ => kit_4_11
      | n + 12, h => absurd h (by omega)
  have kt5 : ∀ j, j < 12 → PySem.W.kitOne K (.ref CBadArgument) (.ref (C j)) = some (decide (j = 5)) := fun j hj => match j, hj with
      | 0, _ => kit_5_0
      | 1, _ => kit_5_1
      | 2, _ => kit_5_2
      | 3, _ => kit_5_3
      | 4, _ => kit_5_4
      | 5, _ => kit_5_5
      | 6, _ => kit_5_6
      | 7, _ => kit_5_7
      | 8, _ => kit_5_8
      | 9, _ => kit_5_9
      | 10, _ => kit_5_10
      | 11, _ => kit_5_11
      | n + 12, h => absurd h (by omega)
  have kt6 : ∀ j, j < 12 → PySem.W.kitOne K (.ref CBadNumber) (.ref (C j)) = some (decide (j = 6)) := fun j hj => match j, hj with
      | 0, _ => kit_6_0
      | 1, _ => kit_6_1
      | 2, _ => kit_6_2
      | 3, _ => kit_6_3
      | 4, _ => kit_6_4
      | 5, _ => kit_6_5
      | 6, _ => kit_6_6
      | 7, _ => kit_6_7
      | 8, _ => kit_6_8
      | 9, _ => kit_6_9
      | 10, _ => kit_6_10
      | 11, _ => kit_6_11
      | n + 12, h => absurd h (by omega)
  have kt7 : ∀ j, j < 12 → PySem.W.kitOne K (.ref CBadChange) (.ref (C j)) = some (decide (j = 7)) := fun j hj => match j, hj with
      | 0, _ => kit_7_0
      | 1, _ => kit_7_1
      | 2, _ => kit_7_2
      | 3, _ => kit_7_3
      | 4, _ => kit_7_4
      | 5, _ => kit_7_5
      | 6, _ => kit_7_6
      | 7, _ => kit_7_7
      | 8, _ => kit_7_8
      | 9, _ => kit_7_9
      | 10, _ => kit_7_10
      | 11, _ => kit_7_11
      | n + 12, h => absurd h (by omega)
  have kt8 : ∀ j, j < 12 → PySem.W.kitOne K (.ref CBadCommand) (.ref (C j)) = some (decide (j = 8)) := fun j hj => match j, hj with
      | 0, _ => kit_8_0
      | 1, _ => kit_8_1
      | 2, _ => kit_8_2
      | 3, _ => kit_8_3
      | 4, _ => kit_8_4
      | 5, _ => kit_8_5
      | 6, _ => kit_8_6
      | 7, _ => kit_8_7
      | 8, _ => kit_8_8
      | 9, _ => kit_8_9
      | 10, _ => kit_8_10
      | 11, _ => kit_8_11
      | n + 12, h => absurd h (by omega)
  have kt9 : ∀ j, j < 12 → PySem.W.kitOne K (.ref CBadText) (.ref (C j)) = some (decide (j = 9)) := fun j hj => match j, hj with
      | 0, _ => kit_9_0
      | 1, _ => kit_9_1
      | 2, _ => kit_9_2
      | 3, _ => kit_9_3
      | 4, _ => kit_9_4
      | 5, _ => kit_9_5
      | 6, _ => kit_9_6
      | 7, _ => kit_9_7
      | 8, _ => kit_9_8
      | 9, _ => kit_9_9
      | 10, _ => kit_9_10
      | 11, _ => kit_9_11
      | n + 12, h => absurd h (by omega)
  have kt10 : ∀ j, j < 12 → PySem.W.kitOne K (.ref CTooMany) (.ref (C j)) = some (decide (j = 10)) := fun j hj => match j, hj with
      | 0, _ => kit_10_0
      | 1, _ => kit_10_1
      | 2, _ => kit_10_2
      | 3, _ => kit_10_3
      | 4, _ => kit_10_4
      | 5, _ => kit_10_5
      | 6, _ => kit_10_6
      | 7, _ => kit_10_7
      | 8, _ => kit_10_8
      | 9, _ => kit_10_9
      | 10, _ => kit_10_10
      | 11, _ => kit_10_11
      | n + 12, h => absurd h (by omega)
  have kt11 : ∀ j, j < 12 → PySem.W.kitOne K (.ref CNotThere) (.ref (C j)) = some (decide (j = 11)) := fun j hj => match j, hj with
      | 0, _ => kit_11_0
      | 1, _ => kit_11_1
      | 2, _ => kit_11_2
      | 3, _ => kit_11_3
      | 4, _ => kit_11_4
      | 5, _ => kit_11_5
      | 6, _ => kit_11_6
      | 7, _ => kit_11_7
      | 8, _ => kit_11_8
      | 9, _ => kit_11_9
      | 10, _ => kit_11_10
      | 11, _ => kit_11_11
      | n + 12, h => absurd h (by omega)
  have kit : ∀ i, i < 12 → ∀ j, j < 12 → PySem.W.kitOne K (.ref (C i)) (.ref (C j)) = some (decide (j = i)) := fun i hi => match i, hi with
      | 0, _ => kt0
      | 1, _ => kt1
      | 2, _ => kt2
      | 3, _ => kt3
      | 4, _ => kt4
      | 5, _ => kt5
      | 6, _ => kt6
      | 7, _ => kt7
      | 8, _ => kt8
      | 9, _ => kt9
      | 10, _ => kt10
      | 11, _ => kt11
      | n + 12, h => absurd h (by omega)
  have q0 : ∀ i, i < 12 → PySem.W.kitOne K (.ref (C i)) (.ref CMarksError) = some (decide (i < 10)) := fun i hi => match i, hi with
      | 0, _ => kb_0_0
      | 1, _ => kb_1_0
      | 2, _ => kb_2_0
      | 3, _ => kb_3_0
      | 4, _ => kb_4_0
      | 5, _ => kb_5_0
      | 6, _ => kb_6_0
      | 7, _ => kb_7_0
      | 8, _ => kb_8_0
      | 9, _ => kb_9_0
      | 10, _ => kb_10_0
      | 11, _ => kb_11_0
      | n + 12, h => absurd h (by omega)
  have q1 : ∀ i, i < 12 → PySem.W.kitOne K (.ref (C i)) (.type "ValueError") = some (decide (i < 10)) := fun i hi => match i, hi with
      | 0, _ => kb_0_1
      | 1, _ => kb_1_1
      | 2, _ => kb_2_1
      | 3, _ => kb_3_1
      | 4, _ => kb_4_1
      | 5, _ => kb_5_1
      | 6, _ => kb_6_1
      | 7, _ => kb_7_1
      | 8, _ => kb_8_1
      | 9, _ => kb_9_1
      | 10, _ => kb_10_1
      | 11, _ => kb_11_1
      | n + 12, h => absurd h (by omega)
  have q2 : ∀ i, i < 12 → PySem.W.kitOne K (.ref (C i)) (.type "OverflowError") = some (decide (i = 10)) := fun i hi => match i, hi with
      | 0, _ => kb_0_2
      | 1, _ => kb_1_2
      | 2, _ => kb_2_2
      | 3, _ => kb_3_2
      | 4, _ => kb_4_2
      | 5, _ => kb_5_2
      | 6, _ => kb_6_2
      | 7, _ => kb_7_2
      | 8, _ => kb_8_2
      | 9, _ => kb_9_2
      | 10, _ => kb_10_2
      | 11, _ => kb_11_2
      | n + 12, h => absurd h (by omega)
  have q3 : ∀ i, i < 12 → PySem.W.kitOne K (.ref (C i)) (.type "LookupError") = some (decide (i = 11)) := fun i hi => match i, hi with
      | 0, _ => kb_0_3
      | 1, _ => kb_1_3
      | 2, _ => kb_2_3
      | 3, _ => kb_3_3
      | 4, _ => kb_4_3
      | 5, _ => kb_5_3
      | 6, _ => kb_6_3
      | 7, _ => kb_7_3
      | 8, _ => kb_8_3
      | 9, _ => kb_9_3
      | 10, _ => kb_10_3
      | 11, _ => kb_11_3
      | n + 12, h => absurd h (by omega)
  have q4 : ∀ i, i < 12 → PySem.W.kitOne K (.ref (C i)) (.ref CNothingLeft) = some (false) := fun i hi => match i, hi with
      | 0, _ => kb_0_4
      | 1, _ => kb_1_4
      | 2, _ => kb_2_4
      | 3, _ => kb_3_4
      | 4, _ => kb_4_4
      | 5, _ => kb_5_4
      | 6, _ => kb_6_4
      | 7, _ => kb_7_4
      | 8, _ => kb_8_4
      | 9, _ => kb_9_4
      | 10, _ => kb_10_4
      | 11, _ => kb_11_4
      | n + 12, h => absurd h (by omega)
  exact ok_law FLaw B T E (ok_opened FOpened B) kOpened bOpened (PySem.W.mg_of X G aOpened) (ok_pick FPick GD kDraw bDraw (PySem.W.mg_of X G aDraw) B) kPick bPick (PySem.W.mg_of X G aPick) (ok_MadeErrors FMadeErrors E) kMadeErrors bMadeErrors (PySem.W.mg_of X G aMadeErrors) (ok_NamedErrors FNamedErrors E) kNamedErrors bNamedErrors (PySem.W.mg_of X G aNamedErrors)
    (ok_fields FFields E) kFields bFields (PySem.W.mg_of X G aFields) (ok_kinds FKinds E T) kKinds bKinds (PySem.W.mg_of X G aKinds) (ok_bases FBases (PySem.W.mg_of X G aMarksError) (PySem.W.mg_of X G aNothingLeft) T) kBases bBases (PySem.W.mg_of X G aBases) (PySem.W.mg_of X G aMarksError) (PySem.W.mg_of X G aNothingLeft) kkMarksError kkNothingLeft xiMarksError xiNothingLeft xcMarksError xcNothingLeft
    ec kit q0 q1 q2 q3 q4 kn_0 kn_1 kn_2 kn_3 kn_4 kn_5 km_0 km_1 km_2 km_3 km_4
end K01
open PySem PySem.W PyProof.Rows in
set_option maxRecDepth 100000 in
set_option maxHeartbeats 0 in
theorem PySem.Challenge.cw_ownmarks_k01_errors_holds : PySem.Challenge.rw_ownmarks_k01_errors.Holds := by
  w_on; o_law; k_head; (case hw => w_witness2)
  k_fill
  refine L2.walk_ofG (l := PySem.Challenge.rw_ownmarks_k01_errors) (n := 63) (k := 4) (x := "_law_script") (sp := K01.spLaw) rfl (by decide) rfl ⟨rfl, by decide, by decide⟩ (fun w h Y => PySem.W.kIn_of Y) ?F ?S (fun _ _ _ _ z => z)
  case F =>
    intro w mg fa h KX G hmg
    refine' K01.all_mk KX G hmg ?aOpened ?lOpened ?cOpened ?kOpened ?aDraw ?lDraw ?cDraw ?kDraw ?aPick ?lPick ?cPick ?kPick ?aMadeErrors ?lMadeErrors ?cMadeErrors ?kMadeErrors ?aNamedErrors ?lNamedErrors ?cNamedErrors ?kNamedErrors ?aFields ?lFields ?cFields ?kFields ?aKinds ?lKinds ?cKinds ?kKinds ?aBases ?lBases ?cBases ?kBases ?aLaw ?lLaw ?cLaw ?kLaw ?spg ?tkc ?aBadCrowd ?gaBadCrowd ?ggBadCrowd ?exBadCrowd ?hdBadCrowd ?ccBadCrowd ?mrBadCrowd ?kkBadCrowd ?inBadCrowd ?ovBadCrowd ?saBadCrowd ?noBadCrowd ?tyBadCrowd ?iBadCrowd ?tBadCrowd ?lBadCrowdInit ?cBadCrowdInit ?kBadCrowdInit ?aBadPage ?gaBadPage ?ggBadPage ?exBadPage ?hdBadPage ?ccBadPage ?mrBadPage ?kkBadPage ?inBadPage ?ovBadPage ?saBadPage ?noBadPage ?tyBadPage ?iBadPage ?tBadPage ?lBadPageInit ?cBadPageInit ?kBadPageInit ?aBadRule ?gaBadRule ?ggBadRule ?exBadRule ?hdBadRule ?ccBadRule ?mrBadRule ?kkBadRule ?inBadRule ?ovBadRule ?saBadRule ?noBadRule ?tyBadRule ?iBadRule ?tBadRule ?lBadRuleInit ?cBadRuleInit ?kBadRuleInit ?aBadPair ?gaBadPair ?ggBadPair ?exBadPair ?hdBadPair ?ccBadPair ?mrBadPair ?kkBadPair ?inBadPair ?ovBadPair ?saBadPair ?noBadPair ?tyBadPair ?iBadPair ?tBadPair ?lBadPairInit ?cBadPairInit ?kBadPairInit ?aBadMark ?gaBadMark ?ggBadMark ?exBadMark ?hdBadMark ?ccBadMark ?mrBadMark ?kkBadMark ?inBadMark ?ovBadMark ?saBadMark ?noBadMark ?tyBadMark ?iBadMark ?tBadMark ?lBadMarkInit ?cBadMarkInit ?kBadMarkInit ?aBadArgument ?gaBadArgument ?ggBadArgument ?exBadArgument ?hdBadArgument ?ccBadArgument ?mrBadArgument ?kkBadArgument ?inBadArgument ?ovBadArgument ?saBadArgument ?noBadArgument ?tyBadArgument ?iBadArgument ?tBadArgument ?lBadArgumentInit ?cBadArgumentInit ?kBadArgumentInit ?aBadNumber ?gaBadNumber ?ggBadNumber ?exBadNumber ?hdBadNumber ?ccBadNumber ?mrBadNumber ?kkBadNumber ?inBadNumber ?ovBadNumber ?saBadNumber ?noBadNumber ?tyBadNumber ?iBadNumber ?tBadNumber ?lBadNumberInit ?cBadNumberInit ?kBadNumberInit ?aBadChange ?gaBadChange ?ggBadChange ?exBadChange ?hdBadChange ?ccBadChange ?mrBadChange ?kkBadChange ?inBadChange ?ovBadChange ?saBadChange ?noBadChange ?tyBadChange ?iBadChange ?tBadChange ?lBadChangeInit ?cBadChangeInit ?kBadChangeInit ?aBadCommand ?gaBadCommand ?ggBadCommand ?exBadCommand ?hdBadCommand ?ccBadCommand ?mrBadCommand ?kkBadCommand ?inBadCommand ?ovBadCommand ?saBadCommand ?noBadCommand ?tyBadCommand ?iBadCommand ?tBadCommand ?lBadCommandInit ?cBadCommandInit ?kBadCommandInit ?aBadText ?gaBadText ?ggBadText ?exBadText ?hdBadText ?ccBadText ?mrBadText ?kkBadText ?inBadText ?ovBadText ?saBadText ?noBadText ?tyBadText ?iBadText ?tBadText ?lBadTextInit ?cBadTextInit ?kBadTextInit ?aTooMany ?gaTooMany ?ggTooMany ?exTooMany ?hdTooMany ?ccTooMany ?mrTooMany ?kkTooMany ?inTooMany ?ovTooMany ?saTooMany ?noTooMany ?tyTooMany ?iTooMany ?tTooMany ?lTooManyInit ?cTooManyInit ?kTooManyInit ?aNotThere ?gaNotThere ?ggNotThere ?exNotThere ?hdNotThere ?ccNotThere ?mrNotThere ?kkNotThere ?inNotThere ?ovNotThere ?saNotThere ?noNotThere ?tyNotThere ?iNotThere ?tNotThere ?lNotThereInit ?cNotThereInit ?kNotThereInit ?aMarksError ?gaMarksError ?ggMarksError ?exMarksError ?hdMarksError ?ccMarksError ?mrMarksError ?kkMarksError ?xiMarksError ?aNothingLeft ?gaNothingLeft ?ggNothingLeft ?exNothingLeft ?hdNothingLeft ?ccNothingLeft ?mrNothingLeft ?kkNothingLeft ?xiNothingLeft ?kit_0_0 ?kit_0_1 ?kit_0_2 ?kit_0_3 ?kit_0_4 ?kit_0_5 ?kit_0_6 ?kit_0_7 ?kit_0_8 ?kit_0_9 ?kit_0_10 ?kit_0_11 ?kb_0_0 ?kb_0_1 ?kb_0_2 ?kb_0_3 ?kb_0_4 ?kit_1_0 ?kit_1_1 ?kit_1_2 ?kit_1_3 ?kit_1_4 ?kit_1_5 ?kit_1_6 ?kit_1_7 ?kit_1_8 ?kit_1_9 ?kit_1_10 ?kit_1_11 ?kb_1_0 ?kb_1_1 ?kb_1_2 ?kb_1_3 ?kb_1_4 ?kit_2_0 ?kit_2_1 ?kit_2_2 ?kit_2_3 ?kit_2_4 ?kit_2_5 ?kit_2_6 ?kit_2_7 ?kit_2_8 ?kit_2_9 ?kit_2_10 ?kit_2_11 ?kb_2_0 ?kb_2_1 ?kb_2_2 ?kb_2_3 ?kb_2_4 ?kit_3_0 ?kit_3_1 ?kit_3_2 ?kit_3_3 ?kit_3_4 ?kit_3_5 ?kit_3_6 ?kit_3_7 ?kit_3_8 ?kit_3_9 ?kit_3_10 ?kit_3_11 ?kb_3_0 ?kb_3_1 ?kb_3_2 ?kb_3_3 ?kb_3_4 ?kit_4_0 ?kit_4_1 ?kit_4_2 ?kit_4_3 ?kit_4_4 ?kit_4_5 ?kit_4_6 ?kit_4_7 ?kit_4_8 ?kit_4_9 ?kit_4_10 ?kit_4_11 ?kb_4_0 ?kb_4_1 ?kb_4_2 ?kb_4_3 ?kb_4_4 ?kit_5_0 ?kit_5_1 ?kit_5_2 ?kit_5_3 ?kit_5_4 ?kit_5_5 ?kit_5_6 ?kit_5_7 ?kit_5_8 ?kit_5_9 ?kit_5_10 ?kit_5_11 ?kb_5_0 ?kb_5_1 ?kb_5_2 ?kb_5_3 ?kb_5_4 ?kit_6_0 ?kit_6_1 ?kit_6_2 ?kit_6_3 ?kit_6_4 ?kit_6_5 ?kit_6_6 ?kit_6_7 ?kit_6_8 ?kit_6_9 ?kit_6_10 ?kit_6_11 ?kb_6_0 ?kb_6_1 ?kb_6_2 ?kb_6_3 ?kb_6_4 ?kit_7_0 ?kit_7_1 ?kit_7_2 ?kit_7_3 ?kit_7_4 ?kit_7_5 ?kit_7_6 ?kit_7_7 ?kit_7_8 ?kit_7_9 ?kit_7_10 ?kit_7_11 ?kb_7_0 ?kb_7_1 ?kb_7_2 ?kb_7_3 ?kb_7_4 ?kit_8_0 ?kit_8_1 ?kit_8_2 ?kit_8_3 ?kit_8_4 ?kit_8_5 ?kit_8_6 ?kit_8_7 ?kit_8_8 ?kit_8_9 ?kit_8_10 ?kit_8_11 ?kb_8_0 ?kb_8_1 ?kb_8_2 ?kb_8_3 ?kb_8_4 ?kit_9_0 ?kit_9_1 ?kit_9_2 ?kit_9_3 ?kit_9_4 ?kit_9_5 ?kit_9_6 ?kit_9_7 ?kit_9_8 ?kit_9_9 ?kit_9_10 ?kit_9_11 ?kb_9_0 ?kb_9_1 ?kb_9_2 ?kb_9_3 ?kb_9_4 ?kit_10_0 ?kit_10_1 ?kit_10_2 ?kit_10_3 ?kit_10_4 ?kit_10_5 ?kit_10_6 ?kit_10_7 ?kit_10_8 ?kit_10_9 ?kit_10_10 ?kit_10_11 ?kb_10_0 ?kb_10_1 ?kb_10_2 ?kb_10_3 ?kb_10_4 ?kit_11_0 ?kit_11_1 ?kit_11_2 ?kit_11_3 ?kit_11_4 ?kit_11_5 ?kit_11_6 ?kit_11_7 ?kit_11_8 ?kit_11_9 ?kit_11_10 ?kit_11_11 ?kb_11_0 ?kb_11_1 ?kb_11_2 ?kb_11_3 ?kb_11_4 ?kn_0 ?kn_1 ?kn_2 ?kn_3 ?kn_4 ?kn_5 ?km_0 ?km_1 ?km_2 ?km_3 ?km_4 ?z_len ?z_max ?z_min ?z_int ?z_range ?z_isinstance ?z_repr ?z_enumerate ?z_ValueError ?z_OverflowError ?z_LookupError
    (case aOpened => first | k_is | k_exc | rfl)
    (case lOpened => first | k_is | k_exc | rfl)
    (case cOpened => first | k_is | k_exc | rfl)
    (case kOpened => first | k_is | k_exc | rfl)
    (case aDraw => first | k_is | k_exc | rfl)
    (case lDraw => first | k_is | k_exc | rfl)
    (case cDraw => first | k_is | k_exc | rfl)
    (case kDraw => first | k_is | k_exc | rfl)
    (case aPick => first | k_is | k_exc | rfl)
    (case lPick => first | k_is | k_exc | rfl)
    (case cPick => first | k_is | k_exc | rfl)
    (case kPick => first | k_is | k_exc | rfl)
    (case aMadeErrors => first | k_is | k_exc | rfl)
    (case lMadeErrors => first | k_is | k_exc | rfl)
    (case cMadeErrors => first | k_is | k_exc | rfl)
    (case kMadeErrors => first | k_is | k_exc | rfl)
    (case aNamedErrors => first | k_is | k_exc | rfl)
    (case lNamedErrors => first | k_is | k_exc | rfl)
    (case cNamedErrors => first | k_is | k_exc | rfl)
    (case kNamedErrors => first | k_is | k_exc | rfl)
    (case aFields => first | k_is | k_exc | rfl)
    (case lFields => first | k_is | k_exc | rfl)
    (case cFields => first | k_is | k_exc | rfl)
    (case kFields => first | k_is | k_exc | rfl)
    (case aKinds => first | k_is | k_exc | rfl)
    (case lKinds => first | k_is | k_exc | rfl)
    (case cKinds => first | k_is | k_exc | rfl)
    (case kKinds => first | k_is | k_exc | rfl)
    (case aBases => first | k_is | k_exc | rfl)
    (case lBases => first | k_is | k_exc | rfl)
    (case cBases => first | k_is | k_exc | rfl)
    (case kBases => first | k_is | k_exc | rfl)
    (case aLaw => first | k_is | k_exc | rfl)
    (case lLaw => first | k_is | k_exc | rfl)
    (case cLaw => first | k_is | k_exc | rfl)
    (case kLaw => first | k_is | k_exc | rfl)
    (case spg => first | k_is | k_exc | rfl)
    (case tkc => first | k_is | k_exc | rfl)
    (case aBadCrowd => first | k_is | k_exc | rfl)
    (case gaBadCrowd => first | k_is | k_exc | rfl)
    (case ggBadCrowd => first | k_is | k_exc | rfl)
    (case exBadCrowd => first | k_is | k_exc | rfl)
    (case hdBadCrowd => first | k_is | k_exc | rfl)
    (case ccBadCrowd => first | k_is | k_exc | rfl)
    (case mrBadCrowd => first | k_is | k_exc | rfl)
    (case kkBadCrowd => first | k_is | k_exc | rfl)
    (case inBadCrowd => first | k_is | k_exc | rfl)
    (case ovBadCrowd => first | k_is | k_exc | rfl)
    (case saBadCrowd => first | k_is | k_exc | rfl)
    (case noBadCrowd => first | k_is | k_exc | rfl)
    (case tyBadCrowd => first | k_is | k_exc | rfl)
    (case iBadCrowd => first | k_is | k_exc | rfl)
    (case tBadCrowd => first | k_is | k_exc | rfl)
    (case lBadCrowdInit => first | k_is | k_exc | rfl)
    (case cBadCrowdInit => first | k_is | k_exc | rfl)
    (case kBadCrowdInit => first | k_is | k_exc | rfl)
    (case aBadPage => first | k_is | k_exc | rfl)
    (case gaBadPage => first | k_is | k_exc | rfl)
    (case ggBadPage => first | k_is | k_exc | rfl)
    (case exBadPage => first | k_is | k_exc | rfl)
    (case hdBadPage => first | k_is | k_exc | rfl)
    (case ccBadPage => first | k_is | k_exc | rfl)
    (case mrBadPage => first | k_is | k_exc | rfl)
    (case kkBadPage => first | k_is | k_exc | rfl)
    (case inBadPage => first | k_is | k_exc | rfl)
    (case ovBadPage => first | k_is | k_exc | rfl)
    (case saBadPage => first | k_is | k_exc | rfl)
    (case noBadPage => first | k_is | k_exc | rfl)
    (case tyBadPage => first | k_is | k_exc | rfl)
    (case iBadPage => first | k_is | k_exc | rfl)
    (case tBadPage => first | k_is | k_exc | rfl)
    (case lBadPageInit => first | k_is | k_exc | rfl)
    (case cBadPageInit => first | k_is | k_exc | rfl)
    (case kBadPageInit => first | k_is | k_exc | rfl)
    (case aBadRule => first | k_is | k_exc | rfl)
    (case gaBadRule => first | k_is | k_exc | rfl)
    (case ggBadRule => first | k_is | k_exc | rfl)
    (case exBadRule => first | k_is | k_exc | rfl)
    (case hdBadRule => first | k_is | k_exc | rfl)
    (case ccBadRule => first | k_is | k_exc | rfl)
    (case mrBadRule => first | k_is | k_exc | rfl)
    (case kkBadRule => first | k_is | k_exc | rfl)
    (case inBadRule => first | k_is | k_exc | rfl)
    (case ovBadRule => first | k_is | k_exc | rfl)
    (case saBadRule => first | k_is | k_exc | rfl)
    (case noBadRule => first | k_is | k_exc | rfl)
    (case tyBadRule => first | k_is | k_exc | rfl)
    (case iBadRule => first | k_is | k_exc | rfl)
    (case tBadRule => first | k_is | k_exc | rfl)
    (case lBadRuleInit => first | k_is | k_exc | rfl)
    (case cBadRuleInit => first | k_is | k_exc | rfl)
    (case kBadRuleInit => first | k_is | k_exc | rfl)
    (case aBadPair => first | k_is | k_exc | rfl)
    (case gaBadPair => first | k_is | k_exc | rfl)
    (case ggBadPair => first | k_is | k_exc | rfl)
    (case exBadPair => first | k_is | k_exc | rfl)
    (case hdBadPair => first | k_is | k_exc | rfl)
    (case ccBadPair => first | k_is | k_exc | rfl)
    (case mrBadPair => first | k_is | k_exc | rfl)
    (case kkBadPair => first | k_is | k_exc | rfl)
    (case inBadPair => first | k_is | k_exc | rfl)
    (case ovBadPair => first | k_is | k_exc | rfl)
    (case saBadPair => first | k_is | k_exc | rfl)
    (case noBadPair => first | k_is | k_exc | rfl)
    (case tyBadPair => first | k_is | k_exc | rfl)
    (case iBadPair => first | k_is | k_exc | rfl)
    (case tBadPair => first | k_is | k_exc | rfl)
    (case lBadPairInit => first | k_is | k_exc | rfl)
    (case cBadPairInit => first | k_is | k_exc | rfl)
    (case kBadPairInit => first | k_is | k_exc | rfl)
    (case aBadMark => first | k_is | k_exc | rfl)
    (case gaBadMark => first | k_is | k_exc | rfl)
    (case ggBadMark => first | k_is | k_exc | rfl)
    (case exBadMark => first | k_is | k_exc | rfl)
    (case hdBadMark => first | k_is | k_exc | rfl)
    (case ccBadMark => first | k_is | k_exc | rfl)
    (case mrBadMark => first | k_is | k_exc | rfl)
    (case kkBadMark => first | k_is | k_exc | rfl)
    (case inBadMark => first | k_is | k_exc | rfl)
    (case ovBadMark => first | k_is | k_exc | rfl)
    (case saBadMark => first | k_is | k_exc | rfl)
    (case noBadMark => first | k_is | k_exc | rfl)
    (case tyBadMark => first | k_is | k_exc | rfl)
    (case iBadMark => first | k_is | k_exc | rfl)
    (case tBadMark => first | k_is | k_exc | rfl)
    (case lBadMarkInit => first | k_is | k_exc | rfl)
    (case cBadMarkInit => first | k_is | k_exc | rfl)
    (case kBadMarkInit => first | k_is | k_exc | rfl)
    (case aBadArgument => first | k_is | k_exc | rfl)
    (case gaBadArgument => first | k_is | k_exc | rfl)
    (case ggBadArgument => first | k_is | k_exc | rfl)
    (case exBadArgument => first | k_is | k_exc | rfl)
    (case hdBadArgument => first | k_is | k_exc | rfl)
    (case ccBadArgument => first | k_is | k_exc | rfl)
    (case mrBadArgument => first | k_is | k_exc | rfl)
    (case kkBadArgument => first | k_is | k_exc | rfl)
    (case inBadArgument => first | k_is | k_exc | rfl)
    (case ovBadArgument => first | k_is | k_exc | rfl)
    (case saBadArgument => first | k_is | k_exc | rfl)
    (case noBadArgument => first | k_is | k_exc | rfl)
    (case tyBadArgument => first | k_is | k_exc | rfl)
    (case iBadArgument => first | k_is | k_exc | rfl)
    (case tBadArgument => first | k_is | k_exc | rfl)
    (case lBadArgumentInit => first | k_is | k_exc | rfl)
    (case cBadArgumentInit => first | k_is | k_exc | rfl)
    (case kBadArgumentInit => first | k_is | k_exc | rfl)
    (case aBadNumber => first | k_is | k_exc | rfl)
    (case gaBadNumber => first | k_is | k_exc | rfl)
    (case ggBadNumber => first | k_is | k_exc | rfl)
    (case exBadNumber => first | k_is | k_exc | rfl)
    (case hdBadNumber => first | k_is | k_exc | rfl)
    (case ccBadNumber => first | k_is | k_exc | rfl)
    (case mrBadNumber => first | k_is | k_exc | rfl)
    (case kkBadNumber => first | k_is | k_exc | rfl)
    (case inBadNumber => first | k_is | k_exc | rfl)
    (case ovBadNumber => first | k_is | k_exc | rfl)
    (case saBadNumber => first | k_is | k_exc | rfl)
    (case noBadNumber => first | k_is | k_exc | rfl)
    (case tyBadNumber => first | k_is | k_exc | rfl)
    (case iBadNumber => first | k_is | k_exc | rfl)
    (case tBadNumber => first | k_is | k_exc | rfl)
    (case lBadNumberInit => first | k_is | k_exc | rfl)
    (case cBadNumberInit => first | k_is | k_exc | rfl)
    (case kBadNumberInit => first | k_is | k_exc | rfl)
    (case aBadChange => first | k_is | k_exc | rfl)
    (case gaBadChange => first | k_is | k_exc | rfl)
    (case ggBadChange => first | k_is | k_exc | rfl)
    (case exBadChange => first | k_is | k_exc | rfl)
    (case hdBadChange => first | k_is | k_exc | rfl)
    (case ccBadChange => first | k_is | k_exc | rfl)
    (case mrBadChange => first | k_is | k_exc | rfl)
    (case kkBadChange => first | k_is | k_exc | rfl)
    (case inBadChange => first | k_is | k_exc | rfl)
    (case ovBadChange => first | k_is | k_exc | rfl)
    (case saBadChange => first | k_is | k_exc | rfl)
    (case noBadChange => first | k_is | k_exc | rfl)
    (case tyBadChange => first | k_is | k_exc | rfl)
    (case iBadChange => first | k_is | k_exc | rfl)
    (case tBadChange => first | k_is | k_exc | rfl)
    (case lBadChangeInit => first | k_is | k_exc | rfl)
    (case cBadChangeInit => first | k_is | k_exc | rfl)
    (case kBadChangeInit => first | k_is | k_exc | rfl)
    (case aBadCommand => first | k_is | k_exc | rfl)
    (case gaBadCommand => first | k_is | k_exc | rfl)
    (case ggBadCommand => first | k_is | k_exc | rfl)
    (case exBadCommand => first | k_is | k_exc | rfl)
    (case hdBadCommand => first | k_is | k_exc | rfl)
    (case ccBadCommand => first | k_is | k_exc | rfl)
    (case mrBadCommand => first | k_is | k_exc | rfl)
    (case kkBadCommand => first | k_is | k_exc | rfl)
    (case inBadCommand => first | k_is | k_exc | rfl)
    (case ovBadCommand => first | k_is | k_exc | rfl)
    (case saBadCommand => first | k_is | k_exc | rfl)
    (case noBadCommand => first | k_is | k_exc | rfl)
    (case tyBadCommand => first | k_is | k_exc | rfl)
    (case iBadCommand => first | k_is | k_exc | rfl)
    (case tBadCommand => first | k_is | k_exc | rfl)
    (case lBadCommandInit => first | k_is | k_exc | rfl)
    (case cBadCommandInit => first | k_is | k_exc | rfl)
    (case kBadCommandInit => first | k_is | k_exc | rfl)
    (case aBadText => first | k_is | k_exc | rfl)
    (case gaBadText => first | k_is | k_exc | rfl)
    (case ggBadText => first | k_is | k_exc | rfl)
    (case exBadText => first | k_is | k_exc | rfl)
    (case hdBadText => first | k_is | k_exc | rfl)
    (case ccBadText => first | k_is | k_exc | rfl)
    (case mrBadText => first | k_is | k_exc | rfl)
    (case kkBadText => first | k_is | k_exc | rfl)
    (case inBadText => first | k_is | k_exc | rfl)
    (case ovBadText => first | k_is | k_exc | rfl)
    (case saBadText => first | k_is | k_exc | rfl)
    (case noBadText => first | k_is | k_exc | rfl)
    (case tyBadText => first | k_is | k_exc | rfl)
    (case iBadText => first | k_is | k_exc | rfl)
    (case tBadText => first | k_is | k_exc | rfl)
    (case lBadTextInit => first | k_is | k_exc | rfl)
    (case cBadTextInit => first | k_is | k_exc | rfl)
    (case kBadTextInit => first | k_is | k_exc | rfl)
    (case aTooMany => first | k_is | k_exc | rfl)
    (case gaTooMany => first | k_is | k_exc | rfl)
    (case ggTooMany => first | k_is | k_exc | rfl)
    (case exTooMany => first | k_is | k_exc | rfl)
    (case hdTooMany => first | k_is | k_exc | rfl)
    (case ccTooMany => first | k_is | k_exc | rfl)
    (case mrTooMany => first | k_is | k_exc | rfl)
    (case kkTooMany => first | k_is | k_exc | rfl)
    (case inTooMany => first | k_is | k_exc | rfl)
    (case ovTooMany => first | k_is | k_exc | rfl)
    (case saTooMany => first | k_is | k_exc | rfl)
    (case noTooMany => first | k_is | k_exc | rfl)
    (case tyTooMany => first | k_is | k_exc | rfl)
    (case iTooMany => first | k_is | k_exc | rfl)
    (case tTooMany => first | k_is | k_exc | rfl)
    (case lTooManyInit => first | k_is | k_exc | rfl)
    (case cTooManyInit => first | k_is | k_exc | rfl)
    (case kTooManyInit => first | k_is | k_exc | rfl)
    (case aNotThere => first | k_is | k_exc | rfl)
    (case gaNotThere => first | k_is | k_exc | rfl)
    (case ggNotThere => first | k_is | k_exc | rfl)
    (case exNotThere => first | k_is | k_exc | rfl)
    (case hdNotThere => first | k_is | k_exc | rfl)
    (case ccNotThere => first | k_is | k_exc | rfl)
    (case mrNotThere => first | k_is | k_exc | rfl)
    (case kkNotThere => first | k_is | k_exc | rfl)
    (case inNotThere => first | k_is | k_exc | rfl)
    (case ovNotThere => first | k_is | k_exc | rfl)
    (case saNotThere => first | k_is | k_exc | rfl)
    (case noNotThere => first | k_is | k_exc | rfl)
    (case tyNotThere => first | k_is | k_exc | rfl)
    (case iNotThere => first | k_is | k_exc | rfl)
    (case tNotThere => first | k_is | k_exc | rfl)
    (case lNotThereInit => first | k_is | k_exc | rfl)
    (case cNotThereInit => first | k_is | k_exc | rfl)
    (case kNotThereInit => first | k_is | k_exc | rfl)
    (case aMarksError => first | k_is | k_exc | rfl)
    (case gaMarksError => first | k_is | k_exc | rfl)
    (case ggMarksError => first | k_is | k_exc | rfl)
    (case exMarksError => first | k_is | k_exc | rfl)
    (case hdMarksError => first | k_is | k_exc | rfl)
    (case ccMarksError => first | k_is | k_exc | rfl)
    (case mrMarksError => first | k_is | k_exc | rfl)
    (case kkMarksError => first | k_is | k_exc | rfl)
    (case xiMarksError => first | k_is | k_exc | rfl)
    (case aNothingLeft => first | k_is | k_exc | rfl)
    (case gaNothingLeft => first | k_is | k_exc | rfl)
    (case ggNothingLeft => first | k_is | k_exc | rfl)
    (case exNothingLeft => first | k_is | k_exc | rfl)
    (case hdNothingLeft => first | k_is | k_exc | rfl)
    (case ccNothingLeft => first | k_is | k_exc | rfl)
    (case mrNothingLeft => first | k_is | k_exc | rfl)
    (case kkNothingLeft => first | k_is | k_exc | rfl)
    (case xiNothingLeft => first | k_is | k_exc | rfl)
    (case kit_0_0 => first | k_is | k_exc | rfl)
    (case kit_0_1 => first | k_is | k_exc | rfl)
    (case kit_0_2 => first | k_is | k_exc | rfl)
    (case kit_0_3 => first | k_is | k_exc | rfl)
    (case kit_0_4 => first | k_is | k_exc | rfl)
    (case kit_0_5 => first | k_is | k_exc | rfl)
    (case kit_0_6 => first | k_is | k_exc | rfl)
    (case kit_0_7 => first | k_is | k_exc | rfl)
    (case kit_0_8 => first | k_is | k_exc | rfl)
    (case kit_0_9 => first | k_is | k_exc | rfl)
    (case kit_0_10 => first | k_is | k_exc | rfl)
    (case kit_0_11 => first | k_is | k_exc | rfl)
    (case kb_0_0 => first | k_is | k_exc | rfl)
    (case kb_0_1 => first | k_is | k_exc | rfl)
    (case kb_0_2 => first | k_is | k_exc | rfl)
    (case kb_0_3 => first | k_is | k_exc | rfl)
    (case kb_0_4 => first | k_is | k_exc | rfl)
    (case kit_1_0 => first | k_is | k_exc | rfl)
    (case kit_1_1 => first | k_is | k_exc | rfl)
    (case kit_1_2 => first | k_is | k_exc | rfl)
    (case kit_1_3 => first | k_is | k_exc | rfl)
    (case kit_1_4 => first | k_is | k_exc | rfl)
    (case kit_1_5 => first | k_is | k_exc | rfl)
    (case kit_1_6 => first | k_is | k_exc | rfl)
    (case kit_1_7 => first | k_is | k_exc | rfl)
    (case kit_1_8 => first | k_is | k_exc | rfl)
    (case kit_1_9 => first | k_is | k_exc | rfl)
    (case kit_1_10 => first | k_is | k_exc | rfl)
    (case kit_1_11 => first | k_is | k_exc | rfl)
    (case kb_1_0 => first | k_is | k_exc | rfl)
    (case kb_1_1 => first | k_is | k_exc | rfl)
    (case kb_1_2 => first | k_is | k_exc | rfl)
    (case kb_1_3 => first | k_is | k_exc | rfl)
    (case kb_1_4 => first | k_is | k_exc | rfl)
    (case kit_2_0 => first | k_is | k_exc | rfl)
    (case kit_2_1 => first | k_is | k_exc | rfl)
    (case kit_2_2 => first | k_is | k_exc | rfl)
    (case kit_2_3 => first | k_is | k_exc | rfl)
    (case kit_2_4 => first | k_is | k_exc | rfl)
    (case kit_2_5 => first | k_is | k_exc | rfl)
    (case kit_2_6 => first | k_is | k_exc | rfl)
    (case kit_2_7 => first | k_is | k_exc | rfl)
    (case kit_2_8 => first | k_is | k_exc | rfl)
    (case kit_2_9 => first | k_is | k_exc | rfl)
    (case kit_2_10 => first | k_is | k_exc | rfl)
    (case kit_2_11 => first | k_is | k_exc | rfl)
    (case kb_2_0 => first | k_is | k_exc | rfl)
    (case kb_2_1 => first | k_is | k_exc | rfl)
    (case kb_2_2 => first | k_is | k_exc | rfl)
    (case kb_2_3 => first | k_is | k_exc | rfl)
    (case kb_2_4 => first | k_is | k_exc | rfl)
    (case kit_3_0 => first | k_is | k_exc | rfl)
    (case kit_3_1 => first | k_is | k_exc | rfl)
    (case kit_3_2 => first | k_is | k_exc | rfl)
    (case kit_3_3 => first | k_is | k_exc | rfl)
    (case kit_3_4 => first | k_is | k_exc | rfl)
    (case kit_3_5 => first | k_is | k_exc | rfl)
    (case kit_3_6 => first | k_is | k_exc | rfl)
    (case kit_3_7 => first | k_is | k_exc | rfl)
    (case kit_3_8 => first | k_is | k_exc | rfl)
    (case kit_3_9 => first | k_is | k_exc | rfl)
    (case kit_3_10 => first | k_is | k_exc | rfl)
    (case kit_3_11 => first | k_is | k_exc | rfl)
    (case kb_3_0 => first | k_is | k_exc | rfl)
    (case kb_3_1 => first | k_is | k_exc | rfl)
    (case kb_3_2 => first | k_is | k_exc | rfl)
    (case kb_3_3 => first | k_is | k_exc | rfl)
    (case kb_3_4 => first | k_is | k_exc | rfl)
    (case kit_4_0 => first | k_is | k_exc | rfl)
    (case kit_4_1 => first | k_is | k_exc | rfl)
    (case kit_4_2 => first | k_is | k_exc | rfl)
    (case kit_4_3 => first | k_is | k_exc | rfl)
    (case kit_4_4 => first | k_is | k_exc | rfl)
    (case kit_4_5 => first | k_is | k_exc | rfl)
    (case kit_4_6 => first | k_is | k_exc | rfl)
    (case kit_4_7 => first | k_is | k_exc | rfl)
    (case kit_4_8 => first | k_is | k_exc | rfl)
    (case kit_4_9 => first | k_is | k_exc | rfl)
    (case kit_4_10 => first | k_is | k_exc | rfl)
    (case kit_4_11 => first | k_is | k_exc | rfl)
    (case kb_4_0 => first | k_is | k_exc | rfl)
    (case kb_4_1 => first | k_is | k_exc | rfl)
    (case kb_4_2 => first | k_is | k_exc | rfl)
    (case kb_4_3 => first | k_is | k_exc | rfl)
    (case kb_4_4 => first | k_is | k_exc | rfl)
    (case kit_5_0 => first | k_is | k_exc | rfl)
    (case kit_5_1 => first | k_is | k_exc | rfl)
    (case kit_5_2 => first | k_is | k_exc | rfl)
    (case kit_5_3 => first | k_is | k_exc | rfl)
    (case kit_5_4 => first | k_is | k_exc | rfl)
    (case kit_5_5 => first | k_is | k_exc | rfl)
    (case kit_5_6 => first | k_is | k_exc | rfl)
    (case kit_5_7 => first | k_is | k_exc | rfl)
    (case kit_5_8 => first | k_is | k_exc | rfl)
    (case kit_5_9 => first | k_is | k_exc | rfl)
    (case kit_5_10 => first | k_is | k_exc | rfl)
    (case kit_5_11 => first | k_is | k_exc | rfl)
    (case kb_5_0 => first | k_is | k_exc | rfl)
    (case kb_5_1 => first | k_is | k_exc | rfl)
    (case kb_5_2 => first | k_is | k_exc | rfl)
    (case kb_5_3 => first | k_is | k_exc | rfl)
    (case kb_5_4 => first | k_is | k_exc | rfl)
    (case kit_6_0 => first | k_is | k_exc | rfl)
    (case kit_6_1 => first | k_is | k_exc | rfl)
    (case kit_6_2 => first | k_is | k_exc | rfl)
    (case kit_6_3 => first | k_is | k_exc | rfl)
    (case kit_6_4 => first | k_is | k_exc | rfl)
    (case kit_6_5 => first | k_is | k_exc | rfl)
    (case kit_6_6 => first | k_is | k_exc | rfl)
    (case kit_6_7 => first | k_is | k_exc | rfl)
    (case kit_6_8 => first | k_is | k_exc | rfl)
    (case kit_6_9 => first | k_is | k_exc | rfl)
    (case kit_6_10 => first | k_is | k_exc | rfl)
    (case kit_6_11 => first | k_is | k_exc | rfl)
    (case kb_6_0 => first | k_is | k_exc | rfl)
    (case kb_6_1 => first | k_is | k_exc | rfl)
    (case kb_6_2 => first | k_is | k_exc | rfl)
    (case kb_6_3 => first | k_is | k_exc | rfl)
    (case kb_6_4 => first | k_is | k_exc | rfl)
    (case kit_7_0 => first | k_is | k_exc | rfl)
    (case kit_7_1 => first | k_is | k_exc | rfl)
    (case kit_7_2 => first | k_is | k_exc | rfl)
    (case kit_7_3 => first | k_is | k_exc | rfl)
    (case kit_7_4 => first | k_is | k_exc | rfl)
    (case kit_7_5 => first | k_is | k_exc | rfl)
    (case kit_7_6 => first | k_is | k_exc | rfl)
    (case kit_7_7 => first | k_is | k_exc | rfl)
    (case kit_7_8 => first | k_is | k_exc | rfl)
    (case kit_7_9 => first | k_is | k_exc | rfl)
    (case kit_7_10 => first | k_is | k_exc | rfl)
    (case kit_7_11 => first | k_is | k_exc | rfl)
    (case kb_7_0 => first | k_is | k_exc | rfl)
    (case kb_7_1 => first | k_is | k_exc | rfl)
    (case kb_7_2 => first | k_is | k_exc | rfl)
    (case kb_7_3 => first | k_is | k_exc | rfl)
    (case kb_7_4 => first | k_is | k_exc | rfl)
    (case kit_8_0 => first | k_is | k_exc | rfl)
    (case kit_8_1 => first | k_is | k_exc | rfl)
    (case kit_8_2 => first | k_is | k_exc | rfl)
    (case kit_8_3 => first | k_is | k_exc | rfl)
    (case kit_8_4 => first | k_is | k_exc | rfl)
    (case kit_8_5 => first | k_is | k_exc | rfl)
    (case kit_8_6 => first | k_is | k_exc | rfl)
    (case kit_8_7 => first | k_is | k_exc | rfl)
    (case kit_8_8 => first | k_is | k_exc | rfl)
    (case kit_8_9 => first | k_is | k_exc | rfl)
    (case kit_8_10 => first | k_is | k_exc | rfl)
    (case kit_8_11 => first | k_is | k_exc | rfl)
    (case kb_8_0 => first | k_is | k_exc | rfl)
    (case kb_8_1 => first | k_is | k_exc | rfl)
    (case kb_8_2 => first | k_is | k_exc | rfl)
    (case kb_8_3 => first | k_is | k_exc | rfl)
    (case kb_8_4 => first | k_is | k_exc | rfl)
    (case kit_9_0 => first | k_is | k_exc | rfl)
    (case kit_9_1 => first | k_is | k_exc | rfl)
    (case kit_9_2 => first | k_is | k_exc | rfl)
    (case kit_9_3 => first | k_is | k_exc | rfl)
    (case kit_9_4 => first | k_is | k_exc | rfl)
    (case kit_9_5 => first | k_is | k_exc | rfl)
    (case kit_9_6 => first | k_is | k_exc | rfl)
    (case kit_9_7 => first | k_is | k_exc | rfl)
    (case kit_9_8 => first | k_is | k_exc | rfl)
    (case kit_9_9 => first | k_is | k_exc | rfl)
    (case kit_9_10 => first | k_is | k_exc | rfl)
    (case kit_9_11 => first | k_is | k_exc | rfl)
    (case kb_9_0 => first | k_is | k_exc | rfl)
    (case kb_9_1 => first | k_is | k_exc | rfl)
    (case kb_9_2 => first | k_is | k_exc | rfl)
    (case kb_9_3 => first | k_is | k_exc | rfl)
    (case kb_9_4 => first | k_is | k_exc | rfl)
    (case kit_10_0 => first | k_is | k_exc | rfl)
    (case kit_10_1 => first | k_is | k_exc | rfl)
    (case kit_10_2 => first | k_is | k_exc | rfl)
    (case kit_10_3 => first | k_is | k_exc | rfl)
    (case kit_10_4 => first | k_is | k_exc | rfl)
    (case kit_10_5 => first | k_is | k_exc | rfl)
    (case kit_10_6 => first | k_is | k_exc | rfl)
    (case kit_10_7 => first | k_is | k_exc | rfl)
    (case kit_10_8 => first | k_is | k_exc | rfl)
    (case kit_10_9 => first | k_is | k_exc | rfl)
    (case kit_10_10 => first | k_is | k_exc | rfl)
    (case kit_10_11 => first | k_is | k_exc | rfl)
    (case kb_10_0 => first | k_is | k_exc | rfl)
    (case kb_10_1 => first | k_is | k_exc | rfl)
    (case kb_10_2 => first | k_is | k_exc | rfl)
    (case kb_10_3 => first | k_is | k_exc | rfl)
    (case kb_10_4 => first | k_is | k_exc | rfl)
    (case kit_11_0 => first | k_is | k_exc | rfl)
    (case kit_11_1 => first | k_is | k_exc | rfl)
    (case kit_11_2 => first | k_is | k_exc | rfl)
    (case kit_11_3 => first | k_is | k_exc | rfl)
    (case kit_11_4 => first | k_is | k_exc | rfl)
    (case kit_11_5 => first | k_is | k_exc | rfl)
    (case kit_11_6 => first | k_is | k_exc | rfl)
    (case kit_11_7 => first | k_is | k_exc | rfl)
    (case kit_11_8 => first | k_is | k_exc | rfl)
    (case kit_11_9 => first | k_is | k_exc | rfl)
    (case kit_11_10 => first | k_is | k_exc | rfl)
    (case kit_11_11 => first | k_is | k_exc | rfl)
    (case kb_11_0 => first | k_is | k_exc | rfl)
    (case kb_11_1 => first | k_is | k_exc | rfl)
    (case kb_11_2 => first | k_is | k_exc | rfl)
    (case kb_11_3 => first | k_is | k_exc | rfl)
    (case kb_11_4 => first | k_is | k_exc | rfl)
    (case kn_0 => first | k_is | k_exc | rfl)
    (case kn_1 => first | k_is | k_exc | rfl)
    (case kn_2 => first | k_is | k_exc | rfl)
    (case kn_3 => first | k_is | k_exc | rfl)
    (case kn_4 => first | k_is | k_exc | rfl)
    (case kn_5 => first | k_is | k_exc | rfl)
    (case km_0 => first | k_is | k_exc | rfl)
    (case km_1 => first | k_is | k_exc | rfl)
    (case km_2 => first | k_is | k_exc | rfl)
    (case km_3 => first | k_is | k_exc | rfl)
    (case km_4 => first | k_is | k_exc | rfl)
    (case z_len => first | k_is | k_exc | rfl)
    (case z_max => first | k_is | k_exc | rfl)
    (case z_min => first | k_is | k_exc | rfl)
    (case z_int => first | k_is | k_exc | rfl)
    (case z_range => first | k_is | k_exc | rfl)
    (case z_isinstance => first | k_is | k_exc | rfl)
    (case z_repr => first | k_is | k_exc | rfl)
    (case z_enumerate => first | k_is | k_exc | rfl)
    (case z_ValueError => first | k_is | k_exc | rfl)
    (case z_OverflowError => first | k_is | k_exc | rfl)
    (case z_LookupError => first | k_is | k_exc | rfl)
  case S =>
    intro K H a ns hl _ hS
    exact ⟨a, ns, rfl, hS, hl, fun _ => rfl⟩

