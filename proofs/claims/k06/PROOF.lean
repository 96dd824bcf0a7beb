import PyProof.Rows.All
import Wide.All
import OpenK.AllK
import Wide.FinOn
import HandS.ForMost
import HandS.IsInst
import HandS.Style
import HandS.Wide
import HandS.WideMore
import HandS.Zip
import HandS.Flow
import HandS.SetFor
import HandS.Strs
import HandS.SortInts
import HandS.ExcInit
import HandS.ExcField
import HandS.ExcIs
import HandS.ExcValue
import HandS.WordsExc
import HandS.NoneIn
import HandS.Conv
import KE.KExcIs
import KE.GoesMore
import PyProof.Draws
import PySem.Challenge.RW_turnsums_k06_rests_joined
set_option Elab.async false
set_option linter.all false
set_option maxRecDepth 100000
set_option maxHeartbeats 4000000
namespace My
open PySem L2
def top (i : Nat) : Stmt := PySem.Challenge.pw_turnsums_k06_rests_joined.main.body.getD i (.Pass ⟨0, 0, 0, 0⟩)
/-- a def of the text: where it stands, how it is called -/
structure Df (K : PySem.W.Frag) (mg : Str → Option Value) (x : Str) (st : Stmt) (ps : List Str) (f : Addr) (fd : FuncData) : Prop where
  F : Fun K x x st f fd
  b : Binds K fd ps []
  g : mg x = some (.ref f)
/-! heaps: all but the box stays -/
theorem same_upd {H H' : Hp} {p : Addr} {o : HO} (h : Same H H') (n : H' p = none) : Same H (upd H' p o) := fun b x e => by
  rw [upd_ne (ne_of_none (h b x e) n)]
  exact h b x e
theorem same_new {H : Hp} {p : Addr} {o : HO} (n : H p = none) : Same H (upd H p o) := same_upd (Same.refl H) n
theorem same_mut {H H' : Hp} {p : Addr} {o : HO} (h : Same H H') (n : H p = none) : Same H (upd H' p o) := fun b x e => by
  rw [upd_ne (ne_of_none e n)]
  exact h b x e
theorem same_t {K : PySem.W.Frag} {H H' : Hp} {a : Addr} {xs : List V} (e : Same H H') (h : SqT K H a xs) : SqT K H' a xs := by
  rcases h with (h | ⟨o, h⟩) | h
  · exact .inl (.inl (e _ _ h))
  · exact .inl (.inr ⟨o, e _ _ h⟩)
  · exact .inr h
def Keep (b : Addr) (H H' : Hp) : Prop := ∀ a o, a ≠ b → H a = some o → H' a = some o
theorem Keep.refl (b : Addr) (H : Hp) : Keep b H H := fun _ _ _ h => h
theorem Keep.trans {b : Addr} {H H1 H2 : Hp} (a : Keep b H H1) (c : Keep b H1 H2) : Keep b H H2 := fun x o n h => c x o n (a x o n h)
theorem keepS {b : Addr} {H H' : Hp} (h : Same H H') : Keep b H H' := fun x o _ e => h x o e
theorem keep_same {b : Addr} {H0 H H' : Hp} (a : Same H0 H) (n : H0 b = none) (k : Keep b H H') : Same H0 H' := fun x o e => k x o (ne_of_none e n) (a x o e)
theorem keep_upd {b : Addr} {H H' : Hp} {o : HO} (h : Keep b H H') : Keep b H (upd H' b o) := fun a u n e => by
  rw [upd_ne n]
  exact h a u n e
theorem keep_new {b p : Addr} {H H' : Hp} {o : HO} (h : Keep b H H') (n : H' p = none) : Keep b H (upd H' p o) := fun a u na e => by
  rw [upd_ne (ne_of_none (h a u na e) n)]
  exact h a u na e
theorem Keep.seq {K : PySem.W.Frag} {b a : Addr} {H H' : Hp} {xs : List V} (e : Keep b H H') (n : a ≠ b) (h : SqL K H a xs) : SqL K H' a xs := by
  rcases h with (h | ⟨o, h⟩) | h
  · exact .inl (.inl (e _ _ n h))
  · exact .inl (.inr ⟨o, e _ _ n h⟩)
  · exact .inr h
def BoxAt (H : Hp) (b : Addr) (n : Int) : Prop := ∃ x y z : Int, H b = some (.lst [.int x, .int y, .int z]) ∧ 0 ≤ x ∧ 0 ≤ y ∧ y ≤ 4294967296 ∧ 0 ≤ z ∧ z ≤ n
theorem BoxAt.mono {H : Hp} {b : Addr} {n m : Int} (h : BoxAt H b n) (e : n ≤ m) : BoxAt H b m := by
  obtain ⟨x, y, z, a1, a2, a3, a4, a5, a6⟩ := h
  exact ⟨x, y, z, a1, a2, a3, a4, a5, by omega⟩
theorem BoxAt.same {H H' : Hp} {b : Addr} {n : Int} (h : BoxAt H b n) (e : Same H H') : BoxAt H' b n := by
  obtain ⟨x, y, z, a1, a2⟩ := h
  exact ⟨x, y, z, e _ _ a1, a2⟩
theorem BoxAt.some {H : Hp} {b : Addr} {n : Int} (h : BoxAt H b n) : ∃ o, H b = some o := by
  obtain ⟨x, y, z, a1, a2⟩ := h
  exact ⟨_, a1⟩
theorem BoxAt.ne {H : Hp} {b p : Addr} {n : Int} (h : BoxAt H b n) (e : H p = none) : p ≠ b := by
  obtain ⟨o, h⟩ := h.some
  exact (ne_of_none h e).symm
theorem szl {n : Nat} (h : n ≤ 60000) : n ≤ sizeLine := Nat.le_trans h (by decide)
theorem szm {n : Nat} (h : n ≤ 60000) : n < sizeLine := Nat.lt_of_le_of_lt h (by decide)
theorem pw6 : (10 : Int) ^ Int.toNat 6 = 1000000 := by decide
theorem pw9 : (10 : Int) ^ Int.toNat 9 = 1000000000 := by decide
theorem newO {H H' : Hp} {p : Addr} {o : HO} (e : upd H p o = H') (hp : H p = none) : Same H H' ∧ H' p = some o := by
  subst e
  exact ⟨same_new hp, upd_same⟩
theorem mutO {H H' : Hp} {p : Addr} {o : HO} (e : upd H p o = H') : Keep p H H' ∧ H' p = some o := by
  subst e
  exact ⟨keep_upd (Keep.refl _ _), upd_same⟩
/-- a word of ours that the walk must not open -/
inductive Hold (p : Prop) : Prop
  | mk : p → Hold p
theorem Hold.un {p : Prop} (h : Hold p) : p := by
  cases h with
  | mk h => exact h
theorem holdN {W : Nat → L2.St → Hp → Prop} {m : Nat} : ∀ (σ' : L2.St) (H' : Hp), Hold (∃ m', m' < m ∧ W m' σ' H') → ∃ m', m' < m ∧ W m' σ' H' := fun _ _ h => h.un
theorem ite_dec {c A B : Prop} [Decidable c] (hc : c) (h : A) : if decide c = true then A else B := by
  rw [decide_eq_true hc]
  exact iteT h
def rLenQ (K : PySem.W.Frag) : List V → Hp → VK → Prop := fun xs H Q => ∃ p ys, xs = [.ref p] ∧ (SqL K H p ys ∨ SqT K H p ys) ∧ Q (.int ys.length) H
theorem iteTe {b : Bool} {A B : Prop} (e : b = true) (h : A) : if b = true then A else B := by
  rw [if_pos e]
  exact h
theorem iteFe {b : Bool} {A B : Prop} (e : b = false) (h : B) : if b = true then A else B := by
  rw [e]
  exact iteF h
theorem cmul_b {i : Int} {b : Bool} : CMul i (if b then 1 else 0) := by
  refine .inr ?_
  cases b <;> exact ⟨by decide, by decide⟩
theorem at_ints {ns : List Int} {k : Int} (h0 : 0 ≤ k) (h : k < (ns.length : Int)) : ∃ c, c ∈ ns ∧ atI (ns.map V.int) k = some (.int c) := by
  have hk : k.toNat < ns.length := by omega
  refine ⟨ns[k.toNat], List.getElem_mem hk, at_of (j := k.toNat) (by omega) ?_⟩
  rw [List.getElem?_map, List.getElem?_eq_getElem hk]
  rfl
theorem at_some {xs : List V} {k : Int} (h0 : 0 ≤ k) (h : k < (xs.length : Int)) : ∃ v, v ∈ xs ∧ atI xs k = some v := by
  have hk : k.toNat < xs.length := by omega
  exact ⟨xs[k.toNat], List.getElem_mem hk, at_of (j := k.toNat) (by omega) (List.getElem?_eq_getElem hk)⟩
theorem int_mem {ns : List Int} {v : V} (h : v ∈ ns.map V.int) : ∃ c, c ∈ ns ∧ v = .int c := by
  obtain ⟨c, hc, e⟩ := List.mem_map.mp h
  exact ⟨c, hc, e.symm⟩
structure Blt (mg : Str → Option Value) : Prop where
  b_ValueError : mg "ValueError" = none
  b_abs : mg "abs" = none
  b_all : mg "all" = none
  b_any : mg "any" = none
  b_bool : mg "bool" = none
  b_enumerate : mg "enumerate" = none
  b_int : mg "int" = none
  b_isinstance : mg "isinstance" = none
  b_len : mg "len" = none
  b_list : mg "list" = none
  b_max : mg "max" = none
  b_min : mg "min" = none
  b_range : mg "range" = none
  b_repr : mg "repr" = none
  b_str : mg "str" = none
  b_tuple : mg "tuple" = none
  b_zip : mg "zip" = none
/-! ### sorted(set(xs)), xs a list of few ints -/
section
open PySem.Spec PyProof.Rows PySem.Calls
abbrev bareSet (w : World) : Obj := { cls := .type "set", dict := none, data := .set #[] 0 (.fresh 0 0 (!w.params.followText "set-order")) }
/-- what set(xs) leaves behind -/
def SetLeft (w : World) (s : Shared) (ns : List Int) (h' : Heap) (c : Nat) : Prop := SetR w h' s.heap.objs.size (fun j => decide (j ∈ ns)) c ∧ c ≤ ns.length ∧ ∀ b o, s.heap.get? b = some o → h'.get? b = some o
variable {P : Program} {w : World} {A : Around} {E : Value → Shared → Prop} {s : Shared}
theorem items_ints {items : Array Value} {ns : List Int} (hi : IntsAre items.toList ns) (i : Nat) (v : Value) (hv : items[i]? = some v) : ∃ k t, ns[i]? = some k ∧ v = .int k t := by
  have hl : items.size = ns.length := by
    rw [← Array.length_toList]
    exact hi.length
  have hlt : i < ns.length := by
    rw [← hl]
    exact (Array.getElem?_eq_some_iff.mp hv).1
  obtain ⟨t, e⟩ := hi.int_at i v (by rw [Array.getElem?_toList]; exact hv)
  refine ⟨ns[i], t, List.getElem?_eq_getElem hlt, e.trans ?_⟩
  rw [List.getD_eq_getElem?_getD, List.getElem?_eq_getElem hlt]
  rfl
set_option maxHeartbeats 3200000 in
theorem set_of_list {l : Addr} {items : Array Value} {ns : List Int} {Q : Value → Shared → Prop} (hh : A.handled = none) (hl : s.heap.IsList l items) (hi : IntsAre items.toList ns) (hb : ns.length + 1 < scanBound)
    (h : ∀ (h' : Heap) (tk c : Nat), SetLeft w s ns h' c → Q (.ref s.heap.objs.size) { s with heap := h', toks := tk }) : wpAny (model P w) A (call (.type "set") [.ref l]) Q E s := by
  have hsz : items.size = ns.length := by
    rw [← Array.length_toList]
    exact hi.length
  obtain ⟨mc, mt, hmro⟩ := F.called_set.mro
  have a1 := F.called_set.made; have a2 := F.called_set.sub; have a3 := F.called_set.notType; have a4 := F.called_set.canCreate; have a5 := F.typeCall_set_1 (.ref l)
  refine wpAny_call (codeAny_of_tree (show wpAny _ _ (callAny (.type "set") _) _ _ _ from wpAny_pure ⟨Code.quiet_builtin _ (by decide +kernel), codeAny_builtin F.entry_type_call ?_⟩))
  rw [Around.under_plain (weight_type_call_type "set" [.ref l] []) rfl]; repeat (any_goals (first | assumption | wp_step))
  refine codeAny_mono (code_set_led1 (.ref l) (E := E) (Q₁ := fun v s' => v = .ref s.heap.objs.size ∧ s' = { s with heap := s.heap.push (bareSet w) }) ⟨rfl, rfl⟩) fun res s1 hres => ?_
  match res, hres with
  | .error e, hres => exact hres
  | .ok .next, hres => exact hres.elim
  | .ok .cont, hres => exact hres.elim
  | .ok .brk, hres => exact hres.elim
  | .ok (.ret v), hres =>
    obtain ⟨rfl, rfl⟩ := hres
    have g0 : (s.heap.push (bareSet w)).get? s.heap.objs.size = some (bareSet w) := Heap.get?_push_size _ rfl
    have ty0 : Shared.TypeIs { s with heap := s.heap.push (bareSet w) } (.ref s.heap.objs.size) "set" := ⟨_, g0, rfl⟩
    have i1 := F.called_set.init.lookup; have i2 := F.called_set.init.bind (.ref s.heap.objs.size)
    repeat (any_goals (first | assumption | wp_step))
    refine codeAny_mono (codeAny_call_builtin (R := wants (fun v s' => v = .none ∧ ∃ h' tk c, s' = { s with heap := h', toks := tk } ∧ SetLeft w s ns h' c) E) F.called_set.init.plain F.entry_set_init (check_set_init_1 ty0 ?_)) fun res2 s2 hres2 => ?_
    · obtain ⟨⟨lc, ld, la, ls⟩, hol, hcl, nl, hdl⟩ := hl
      simp only at hcl hdl; subst hcl; subst hdl
      have hol1 := Heap.get?_push_of_some (bareSet w) hol
      have hL1 : (s.heap.push (bareSet w)).IsList l items := ⟨_, hol1, rfl, nl, rfl⟩
      have n1 := F.sub_list_set; have n2 := F.sub_list_frozenset; have n3 : (Value.type "list" == Value.type "dict") = false := by decide
      unfold Builtin.«set.__init__» noKeywords Builtin.Frozenset.updateFrom; generalize hgo : pyIter = go; wp_walk; subst hgo
      refine wpAny_pyIter_list hL1 (wpAny_bind (wpAny_runValue ?_))
      have ll := Heap.lt_size hol
      have hhd : A.in1.in1.in1.handled = none := by simp [hh]
      have sz1 : (s.heap.push (bareSet w)).objs.size = s.heap.objs.size + 1 := Heap.size_push ..
      have off : l ≠ (s.heap.push (bareSet w)).objs.size := by rw [sz1]; exact Nat.ne_of_lt (Nat.lt_succ_of_lt ll)
      have out : s.heap.objs.size ∉ [(s.heap.push (bareSet w)).objs.size, l] := by
        intro z
        rcases List.mem_cons.mp z with z | z
        · rw [sz1] at z
          exact absurd z (Nat.ne_of_lt (Nat.lt_succ_self _))
        · exact absurd (List.mem_singleton.mp z) (Nat.ne_of_gt ll)
      refine set_update_ints ((Walks.list hhd _ l off items).toS) s.heap.objs.size out ns hsz hb (items_ints hi) (items.size - 0) 0 _ (by omega) (Nat.zero_le _) ⟨⟨_, Heap.get?_push_size _ rfl, rfl, rfl⟩, hL1.push _⟩ ⟨0, Nat.le_refl 0, setR_new_at (Heap.get?_push_of_some _ g0)⟩ ?_
      rintro ⟨h', g', d', tk', os'⟩ c' hm hc' hS'
      obtain ⟨e1, e2, e3⟩ := (show g' = s.gens ∧ d' = s.drawn ∧ os' = s.os from ⟨hm.gens, hm.drawn, hm.os⟩)
      subst e1; subst e2; subst e3
      refine wpAny_pure (show wpAny _ _ (ret Value.none) _ _ _ from wpAny_pure ⟨rfl, h', tk', c', rfl, hS', by omega, fun b o e => ?_⟩)
      have lb := Heap.lt_size e
      refine hm.heap b o ?_ (Heap.get?_push_of_some _ (Heap.get?_push_of_some _ e))
      intro z
      rcases List.mem_cons.mp z with z | z
      · exact absurd z (Nat.ne_of_lt lb)
      · have z2 := List.mem_singleton.mp z
        rw [sz1] at z2
        exact absurd z2 (Nat.ne_of_lt (Nat.lt_succ_of_lt lb))
    · match res2, hres2 with
      | .error e, hres2 => exact hres2
      | .ok .next, hres2 => exact hres2.elim
      | .ok .cont, hres2 => exact hres2.elim
      | .ok .brk, hres2 => exact hres2.elim
      | .ok (.ret v2), hres2 =>
        obtain ⟨rfl, h', tk, c', rfl, hS'⟩ := hres2
        repeat (any_goals (first | assumption | wp_step))
        exact h _ _ _ hS'
end
open PySem.Spec PyProof.Rows in
/-- sorted of a set of ints, however many -/
theorem set_sorted {P : Program} {w : World} {A : Around} {E : Value → Shared → Prop} {s : Shared} {a : Addr} {S : Int → Bool} {n : Nat} {Q : Value → Shared → Prop} (R : SetR w s.heap a S n) (hh : A.handled = none)
    (q : ∀ s' p (out : List Value) (c : Nat) (ms : List Int), (∀ b o, s.heap.get? b = some o → s'.heap.get? b = some o) → s'.gens = s.gens → s'.os = s.os → s.heap.objs.size ≤ p →
      s'.heap.get? p = some (seqObj "list" out.toArray c) → IntsAre out ms → ms.Pairwise (· < ·) → (∀ k, k ∈ ms ↔ S k = true) → ms.length = n → Q (.ref p) s') : wpAny (model P w) A (call (.builtin "sorted") [.ref a]) Q E s := by
  obtain ⟨o, es, ep, t, g1, g2, g3, good, nod, mem, g4, g5, g6, g7, g8⟩ := R
  refine Calls.call_function_entry kind_sorted plain_sorted entry_sorted (args_sorted1 _) ?_; unfold Builtin.«sorted»
  refine wpAny_bind (m := checkCount "sorted" 1 1 _) (wpAny_pure (wpAny_bind (collect_set (A := A.in1) hh ⟨o, g1, g2.1, g3⟩ g5 g4 g7 g8 fun s1 vs k1 z1 e1 e2 pm => ?_)))
  have len : vs.length = n := by
    rw [pm.length_eq, List.length_map, Array.length_toList]
    exact g6
  have ivs : ∀ e ∈ es.toList, SrtO.iv e.2 = keyOf e := fun e he => by
    obtain ⟨k, tk, h1, _⟩ := good e he
    unfold keyOf
    rw [h1]
    rfl
  have hI : IntsAre vs (vs.map SrtO.iv) := SrtO.ints_iv fun v hv => by
    obtain ⟨e, he, ev⟩ := List.mem_map.mp (pm.mem_iff.mp hv)
    obtain ⟨k, tk, h1, _⟩ := good e he
    exact ⟨k, tk, ev.symm.trans h1⟩
  have prm : (vs.map SrtO.iv).Perm (es.toList.map keyOf) := by
    refine (pm.map SrtO.iv).trans ?_
    rw [List.map_map]
    exact List.Perm.of_eq (List.map_congr_left ivs)
  have zn : n ≤ sizeLine := by
    unfold scanBound at g4
    exact szl (by omega)
  refine wpAny_bind (wpAny_newList ?_ (by rw [len]; exact zn))
  have at1 : (s1.heap.push (seqObj "list" vs.toArray 0)).get? s1.heap.objs.size = some (seqObj "list" vs.toArray 0) := Heap.get?_push_size _ rfl
  refine wpAny_bind (wpAny_holding (wpAny_call_entry slot_list_sort ⟨_, at1, rfl⟩ entry_list_sort (SrtO.list_sort_ord SrtO.swo_int at1 (by rw [len]; exact zn) (fun two => SrtO.ints_sortable hI two) fun out o1 o2 => ⟨_, rfl, ?_⟩) (args_list_sort _)))
  obtain ⟨j1, j2, j3⟩ := SrtO.ints_out hI o1 o2
  obtain ⟨c, at2⟩ := sortedHeap_at (vs := vs) (out := out.toArray) at1
  have prm2 := j2.trans prm
  refine wpAny_pure ⟨_, rfl, q _ s1.heap.objs.size out c _ (fun b u e => ?_) e1 e2 z1 at2 j1 (lt_of_le_nodup _ j3 (prm2.nodup_iff.mpr nod)) (fun k => by rw [prm2.mem_iff, ← mem k]) (by rw [prm2.length_eq, List.length_map, Array.length_toList]; exact g6)⟩
  have e3 := k1 b u e
  have l3 := Heap.lt_size e3
  exact (sortedHeap_old (vs := vs) (out := out.toArray) (Nat.ne_of_lt l3) (by rw [size_push']; exact Nat.lt_succ_of_lt l3)).trans (Heap.get?_push_of_some _ e3)
def tSortSet (K : PySem.W.Frag) (ta : TE) : TE := fun σ H Q => ta σ H fun x H1 => ∃ (l : Addr) (ns : List Int), x = .ref l ∧ SqL K H1 l (ns.map V.int) ∧ ns.length ≤ 4000 ∧
  ∀ (out : List Int) (p : Addr), H1 p = none → out.Pairwise (· < ·) → (∀ k, k ∈ out ↔ k ∈ ns) → out.length ≤ ns.length → Q (.ref p) (upd H1 p (.lst (out.map V.int)))
open PySem.Spec PyProof.Rows in
theorem pe_sortSet {X : Cx} {a : Expr} {ta : TE} {p p2 q pos : Pos} (hg : Gl X "sorted") (hm : X.mg "sorted" = none) (hg2 : Gl X "set") (hm2 : X.mg "set" = none) (ha : PE X a ta) (hc : X.calm = true := by rfl)
    (na : starEach [a] X.env = (false, eval a X.env) :: starEach [] X.env := by rfl) : PE X (.Call (.Name "sorted" p) [.Call (.Name "set" p2) [a] [] q] [] pos) (tSortSet X.K ta) := by
  refine ⟨fun pins s σ H Q I h => ?_⟩
  refine Call_ (ld_blt I hg hm boot_sorted (callWith_builtin1 (args_cons (Call_ (ld_blt I hg2 hm2 boot_set (callWith_type1 (args_cons (thn (ha.run pins s σ H _ I h) fun v s1 ⟨x, H1, I1, r1, q1⟩ => args_nil ?_) na) na rfl))) rfl) rfl rfl))
  obtain ⟨l, ns, rfl, hq, hn, q1⟩ := q1
  cases r1
  obtain ⟨its, r, pl, hz⟩ := I1.list hq
  have hd := I1.ok.hd hc
  refine set_of_list hd pl.isList (by simpa using ints_of_vals r) (by unfold scanBound; omega) fun h' tk c hL => args_nil ?_
  obtain ⟨R1, hcn, kept⟩ := hL
  refine set_sorted (s := { s1 with heap := h', toks := tk }) R1 hd fun s' pp out cc ms k g o hp hgt hi hs hmem hlen => ?_
  have kk : ∀ b u, s1.heap.get? b = some u → s'.heap.get? b = some u := fun b u e => k b u (kept b u e)
  have hpp : s1.heap.objs.size ≤ pp := Nat.le_trans (Nat.le_of_lt R1.lt) hp
  have fr : H1 pp = none := I1.hok.fresh hpp
  have sl : (ms.map V.int).length ≤ sizeLine := by
    rw [List.length_map, hlen]
    exact szl (by omega)
  have hos : s'.os = s1.os := o
  have J : Inv X pins σ (upd H1 pp (.lst (ms.map V.int))) { s1 with heap := s'.heap, gens := s'.gens, drawn := s'.drawn, toks := s'.toks } :=
    I1.call (ch := []) (Un.laid kk hpp fr) (I1.hok.laid kk hpp ⟨sl, out, cc, vals_of_ints hi, hgt⟩) (by rw [g]; exact I1.bare) (fun _ z => nomatch z)
  have es : s' = { s1 with heap := s'.heap, gens := s'.gens, drawn := s'.drawn, toks := s'.toks } := by
    obtain ⟨b1, b2, b3, b4, b5⟩ := s'
    simp only at hos
    subst hos
    rfl
  rw [es]
  exact ⟨.ref pp, _, J, rfl, q1 ms pp fr hs (fun j => (hmem j).trans decide_eq_true_iff) (by omega)⟩
local macro_rules | `(tactic| walk_at "ev1") => `(tactic| first
  | with_reducible assumption
  | ((with_reducible show _ = _); exact rfl)
  | ((first | with_reducible show (_ : Int) = _ | with_reducible show (_ : Int) < _ | with_reducible show (_ : Int) ≤ _ | with_reducible show (_ : Nat) < _ | with_reducible show (_ : Nat) ≤ _); first | omega | decide | (simp only [pw6, pw9]; omega) | (simp only [List.length_cons, List.length_nil, List.length_append, List.length_map, List.length_replicate]; omega))
  | assumption
  | exact upd_same
  | exact SqL.of upd_same
  | exact Or.inl (SqL.of upd_same)
  | exact Or.inl (by assumption)
  | exact Or.inr (by assumption)
  | omega
  | exact (show CDiv _ _ from ⟨by omega, by omega⟩)
  | exact (show CPow _ _ from ⟨by omega, by omega, by omega⟩)
  | exact (show CMul _ _ from .inl ⟨by omega, by omega⟩)
  | exact (show CMul _ _ from .inr ⟨by omega, by omega⟩)
  | exact (show CMul _ _ from cmul_b)
  | exact (show CDivW _ _ from wide_div (b := 31) (by omega) (by omega) (by decide) (by decide))
  | exact (Or.inl ⟨rfl, _, SqL.of (by assumption)⟩)
  | exact ClsV.ty _
  | exact .cons (.ty _) (.cons (.ty _) .nil)
  | (refine szl ?_; simp only [List.length_cons, List.length_nil, List.length_append, List.length_map, List.length_replicate]; omega)
  | (refine szm ?_; simp only [List.length_cons, List.length_nil, List.length_append, List.length_map, List.length_replicate]; omega))
local macro_rules | `(tactic| walk_at "s") => `(tactic| (first
  | (refine And.intro ?l ?_; (case l => walk_at "ev1"))
  | with_reducible refine iteT ?_
  | with_reducible refine iteF ?_
  | with_reducible refine ite_dec rfl ?_
  | with_reducible refine iteNS rfl ?_
  | with_reducible refine iteNS (by assumption) ?_
  | (apply Or.inl; apply Exists.intro; apply And.intro rfl)
  | (apply Or.inr; apply Exists.intro; apply And.intro rfl)
  | ((fail_if_success (refine @Exists.intro (Nat → Nat → L2.St → Hp → Prop) _ ?_ ?_)); (fail_if_success (refine @Exists.intro (Nat → L2.St → Hp → Prop) _ ?_ ?_)); (fail_if_success (refine @Exists.intro (L2.St → Hp → Prop) _ ?_ ?_)); (fail_if_success (refine @Exists.intro (Hp → Prop) _ ?_ ?_)); (fail_if_success (refine @Exists.intro (Nat → Nat → Hp → Prop) _ ?_ ?_)); apply Exists.intro)))
local macro_rules | `(tactic| walk_at "ev") => `(tactic| repeat (walk_at "s"))
local macro_rules | `(tactic| w_cond $i:ident) => do
  let b := (i.getId.toString.drop 1).toString
  let l := Lean.mkIdent (.mkSimple ("l" ++ b))
  let hl := Lean.mkIdent (.mkSimple ("hl" ++ b))
  let h := Lean.mkIdent (.mkSimple ("H" ++ b))
  let sm := Lean.mkIdent (.mkSimple ("sm" ++ b))
  let hq := Lean.mkIdent (.mkSimple ("hq" ++ b))
  `(tactic| (intro $l:ident $hl:ident; generalize hG : upd _ $l:ident _ = $h:ident; obtain ⟨$sm:ident, $hq:ident⟩ := newO hG $hl:ident; clear hG))
/-! ### a caught exception that a name keeps behind its clause -/
/-- at a: an exception of the class at C, its dict at d -/
def XOb (C d a : Addr) : HO := .ext fun h => ∃ (ob : Obj) (fl : Array Value), h.get? a = some ob ∧ Zc (.ref C) (some d) ob ∧ ob.data = .fields fl
theorem xob_ok {P : Program} {w : World} {H : Hp} {h : Heap} {C d a : Addr} {ob : Obj} {fl : Array Value} (q1 : h.get? a = some ob) (q2 : Zc (.ref C) (some d) ob) (q3 : ob.data = .fields fl) : ObjOk P w H h a (XOb C d a) :=
  ⟨⟨ob, fl, q1, q2, q3⟩, ⟨ob, q1⟩, fun _ _ ⟨u, v, r1, r2⟩ k => ⟨u, v, k u r1, r2⟩⟩
/-- an object of the heap that nobody tracks is tracked from now on -/
theorem track {X : Cx} {pins : List (Addr × Obj)} {σ : L2.St} {H : Hp} {s : Shared} {a : Addr} {o : HO} (I : Inv X pins σ H s) (n0 : X.s_0.heap.get? a = none) (hn : H a = none) (nL : a ≠ X.env.locals) (nC : ∀ x c, X.env.cells.lookup x = some c → c ≠ a)
    (nP : ∀ p ∈ X.pn ++ pins, p.1 ≠ a) (new : ObjOk X.prog X.w (upd H a o) s.heap a o) : Inv X pins σ (upd H a o) s := by
  have ne : ∀ {b : Addr} {u : HO}, H b = some u → b ≠ a := fun e => ne_of_none e hn
  refine ⟨I.ok, I.os, I.bare, ⟨I.base.keep, I.base.slot, fun b u e n hx => ?_, I.base.there, fun b xs e => ?_, fun b u v e => ?_, fun b ps e => ?_⟩, I.loc, I.cell, ?_, fun x c e => ?_, fun p hp => ?_, I.hok.laidN (fun _ _ z => z) hn new, I.len⟩
  · have : b ≠ a := fun z => by
      rw [z, n0] at e
      cases e
    rw [upd_ne this]
    exact I.base.free b u e n hx
  · have q := I.base.tups b xs e
    rw [upd_ne (ne q)]
    exact q
  · have q := I.base.frzs b u v e
    rw [upd_ne (ne q)]
    exact q
  · obtain ⟨m, q⟩ := I.base.tbls b ps e
    exact ⟨m, by rw [upd_ne (ne q)]; exact q⟩
  · rw [upd_ne nL.symm]
    exact I.free
  · rw [upd_ne (nC x c e)]
    exact I.freeC x c e
  · obtain ⟨e, n, r⟩ := I.pin p hp
    exact ⟨e, by rw [upd_ne (nP p hp)]; exact n, r⟩
/-- what 'except x as n: ..' wishes, the exception tracked behind it -/
def wKeep (K : PySem.W.Frag) (c : Value) (i : Nat) (ts : Addr → TS) (Wout : WX) (D : Ends) : WX := fun cls d σ H =>
  ∃ b, PySem.W.exmOne K cls c = some b ∧ (b = true → ∃ C dd, cls = .ref C ∧ d = some dd ∧ ∀ a, H a = none →
    ts a { nx := fun σ2 H2 => D.nx (σ2.set i none) (upd H2 a (XOb C dd a)), rt := fun _ _ => False, bk := fun _ _ => False, ct := fun _ _ => False } (σ.set i (some (.ref a))) H) ∧ (b = false → Wout cls d σ H)
section
variable {X : Cx} {x n : Str} {c : Value} {i : Nat} {body suite : List Stmt} {b₀ : Stmt} {np pos pos' : Pos} {tb : WX → TS} {ts : Addr → TS} {Wout : WX}
theorem ps_try_keep (hs : X.stack = X.env :: X.outer) (hf : X.env.frame = some X.env.locals) (hex : X.ex = []) (hN : X.N.Nodup) (hi : X.N[i]? = some n) (hln : X.env.kindOf n = some .local) (hc : Names X x c) (tk : Takes X Wout)
    (hb : ∀ (W : WX) (pn : List (Addr × Obj)) (xe : Value → Shared → Prop), Takes (X.tr pn xe) W → PassesOwn (model X.prog X.w) X.A X.env xe → PSs (X.tr pn xe) body (tb W))
    (hsu : ∀ (a : Addr) (pn : List (Addr × Obj)), PSs (X.suite a pn) (b₀ :: suite) (ts a)) :
    PS X (.Try body [.ExceptHandler (some (.Name x np)) (some n) (b₀ :: suite) pos'] [] [] pos) (fun D σ H => tb (wKeep X.K c i ts Wout D) D σ H) := by
  refine ⟨fun pins s σ H D I h => ?_⟩
  have ok := I.ok
  have fr : X.A.frames = some (X.env :: X.outer) := ok.frames.trans (congrArg some hs)
  refine wpAny_Try_except (wpAny_mono ((hb (wKeep X.K c i ts Wout D) (X.pn ++ pins) (fun e s1 => wpAny (model X.prog X.w) X.A (noteFrame e X.env)
    (fun _ s2 => wpAny (model X.prog X.w) X.A (setFlight e none) (fun _ s3 => wpAny (model X.prog X.w) X.A (handleBy e X.env [.ExceptHandler (some (.Name x np)) (some n) (b₀ :: suite) pos']) (SP X pins D) X.xe s3) X.xe s2) X.xe s1)
    (fun u s1 fly => ?_) PassesOwn.looking).run [] s σ H D (I.toTry _) h) (fun f s1 q => ?_) (fun _ _ z => z))
  · obtain ⟨a, B, s0, pins1, σ1, H1, cls, d, rfl, J0, nb, up, sky, na, os, ag, b, hm, yes, no⟩ := fly
    have J : Inv X pins σ1 H1 s0 := J0.ofTry ok
    have sky1 : Sky B (X.env :: X.outer) a (Zc cls d) X.env.locals s1.heap := hs ▸ sky
    show wpAny (model X.prog X.w) X.A (noteFrame (.ref a) X.env) _ _ _
    refine Sky.land Zc.steady fr hf sky1 fun g3 fly3 up3 => ?_
    have J3 : Inv X pins σ1 H1 { s1 with heap := g3 } := J.landed nb fly3.1 (up.trans up3) os ag
    obtain ⟨o3, f3, e3, z3, d3⟩ := fly3.there
    have away : a ∉ frs (X.env :: X.outer) := fun hmem => by
      obtain ⟨_, o', e', hnf⟩ := fly3.2.2.1.mem hmem
      cases e3.symm.trans e'
      exact hnf _ d3
    have nL : a ≠ X.env.locals := fun z => away (List.mem_filterMap.mpr ⟨X.env, List.mem_cons_self, hf.trans (congrArg some z.symm)⟩)
    have nF : a ∉ X.fs := fun hmem => by
      obtain ⟨e, he, q⟩ := List.mem_filterMap.mp hmem
      exact away (List.mem_filterMap.mpr ⟨e, List.mem_cons_of_mem _ he, q⟩)
    have nB : B.get? a = none := fly3.2.1
    have n0 : X.s_0.heap.get? a = none := by
      cases e : X.s_0.heap.get? a with
      | none => rfl
      | some o =>
        obtain ⟨o', q⟩ := J.base.there a o e (by rw [hex]; exact fun z => nomatch z)
        have q2 := nb a o' q (by rw [hs]; exact away)
        rw [nB] at q2
        cases q2
    have nP : ∀ p ∈ X.pn ++ pins, p.1 ≠ a := fun p hp z => by
      obtain ⟨q, _⟩ := J.pin p hp
      have q2 := nb p.1 p.2 q (by rw [hs, z]; exact away)
      rw [z, nB] at q2
      cases q2
    have S3 := J3.suite e3 d3 na nL nF
    have lt : PySem.W.Looks (model X.prog X.w) g3 (typeOf (.ref a)) cls := fun A Q E s k q => wpAny_typeOf_ref (k _ _ e3) (by rw [z3.1]; exact q)
    have lm := PySem.W.exm_one (M := model X.prog X.w) J3.kIn lt hm
    refine wpAny_handleBy_cons (codeAny_handlers_test ?_) (fun q => nomatch q)
    have named : ∀ {Q E : Value → Shared → Prop}, Q c { s1 with heap := g3 } → wpAny (model X.prog X.w) (X.A.mark (some (.ref a))) (eval (.Name x np) X.env) Q E { s1 with heap := g3 } := fun {Q E} q => by
      rcases hc with ⟨hg, hdb, hm1 | ⟨hm1, hv, hnn⟩⟩
      · exact ld_glob (X := X.suite a ((a, o3) :: (X.pn ++ pins))) S3 hg hm1 q hdb
      · exact ld_blt (X := X.suite a ((a, o3) :: (X.pn ++ pins))) S3 hg hm1 hv q hnn hdb
    refine named (lm.here ?_)
    cases b with
    | true =>
      obtain ⟨C, dd, ec, ed, yes⟩ := yes rfl
      refine codeAny_handlers_suite_as (HandSPX.lands_againZ fly3 fun g4 fly4 up4 => ?_)
      have J4 : Inv X pins σ1 H1 { s1 with heap := g4 } := J.landed nb fly4.1 ((up.trans up3).trans up4) os ag
      obtain ⟨o4, f4, e4, z4, d4⟩ := fly4.there
      refine store_ok (X := X.suite a ((a, o4) :: (X.pn ++ pins))) (v := .ref a) (J4.suite e4 d4 na nL nF) hN hi (.inl hln) rfl (fun s5 S5 => ?_) (.inr hln)
      refine wpAny_mono ((hsu a ((a, o4) :: (X.pn ++ pins))).run [] s5 _ H1 _ S5 (yes a na)) (fun f s6 q6 => ?_) (fun _ _ z => z.elim)
      cases f with
      | next =>
        obtain ⟨σ6, H6, S6, q6⟩ := q6
        refine gone_ok (X := X.suite a ((a, o4) :: (X.pn ++ pins))) (pins := []) S6 hN hi hln fun s7 S7 => ?_
        obtain ⟨e7, n7, _⟩ := S7.pin (a, o4) (List.mem_append_left _ List.mem_cons_self)
        refine ⟨_, _, track (S7.unsuite ok) n0 n7 nL (fun y c' ey z => ?_) nP (xob_ok (C := C) (d := dd) e7 (by rw [← ec, ← ed]; exact z4) d4), q6⟩
        obtain ⟨v, ob, q1, q2⟩ := S7.cell y c' ey
        subst z
        cases e7.symm.trans q1
        cases d4.symm.trans q2
      | brk =>
        obtain ⟨_, _, _, q6⟩ := q6
        exact q6.elim
      | cont =>
        obtain ⟨_, _, _, q6⟩ := q6
        exact q6.elim
      | ret u =>
        obtain ⟨_, _, _, _, _, q6⟩ := q6
        exact q6.elim
    | false =>
      show wpAny _ X.A (handleBy (.ref a) X.env []) _ _ _
      refine wpAny_handleBy_nil ?_
      obtain ⟨k1, k2, k3, ob, fl, T, oT, tl, he, hz, hd, h1, hr⟩ := id fly3
      unfold PySem.passOn
      refine wpAny_bind (wpAny_field he hd h1 ?_)
      rw [if_neg (show ¬ ((Value.ref T == Value.none) = true) from by simp)]
      have fin : wpAny (model X.prog X.w) X.A (setFlight (.ref a) X.env.frame) (fun _ s4 => wpAny (model X.prog X.w) X.A (throw (.ref a) : Sem Flow) (SP X pins D) X.xe s4) X.xe { s1 with heap := g3 } := by
        rw [hf]
        exact HandSPX.setFlight_upZ fly3 fun g4 held4 up4 => wpAny_throw (tk _ _ ⟨a, B, s0, pins, σ1, H1, cls, d, rfl, J, nb, (up.trans up3).trans up4, .inr (.inr (hs ▸ held4)), na, os, ag, no rfl⟩)
      first
        | exact wpAny_bind (wpAny_pure (wpAny_bind fin))
        | exact wpAny_bind fin
  · cases f with
    | next =>
      obtain ⟨σ1, H1, J, q⟩ := q
      exact wpAny_execs_nil ⟨σ1, H1, J.ofTry ok, q⟩
    | brk =>
      obtain ⟨σ1, H1, J, q⟩ := q
      exact ⟨σ1, H1, J.ofTry ok, q⟩
    | cont =>
      obtain ⟨σ1, H1, J, q⟩ := q
      exact ⟨σ1, H1, J.ofTry ok, q⟩
    | ret u =>
      obtain ⟨v, σ1, H1, J, r, q⟩ := q
      exact ⟨v, σ1, H1, J.ofTry ok, r, q⟩
end
/-- what is told of an own exception class -/
structure ExK (K : PySem.W.Frag) (C : Addr) : Prop where
  oex : OexC K C
  xf : XfC K C
  ec : ExcC K C
  nw : PySem.W.findIn K (.ref C) "what" = some none
/-- an exception object, tracked, with its fields -/
def XAt (H : Hp) (a C : Addr) (fs : List (Str × V)) : Prop := ∃ d, H a = some (XOb C d a) ∧ H d = some (.xd fs)
theorem XAt.same {H H' : Hp} {a C : Addr} {fs : List (Str × V)} (h : XAt H a C fs) (e : Same H H') : XAt H' a C fs := by
  obtain ⟨d, h1, h2⟩ := h
  exact ⟨d, e _ _ h1, e _ _ h2⟩
theorem xat_inst {X : Cx} {pins : List (Addr × Obj)} {σ : L2.St} {H : Hp} {s : Shared} {a C : Addr} {fs : List (Str × V)} (I : Inv X pins σ H s) (h : XAt H a C fs) : ∃ (ob od : Obj) (mA : Str → Option Value), PySem.W.InstAt s.heap a ob C (some od) ∧ (∀ name, PySem.W.lookIn name od = some (mA name)) ∧ ∀ f, RelO (fs.lookup f) (mA f) := by
  obtain ⟨d, h1, h2⟩ := h
  obtain ⟨⟨ob, fl, q1, q2, q3⟩, _, _⟩ := (show ObjOk X.prog X.w H s.heap a (XOb C d a) from I.hok a _ h1)
  obtain ⟨mA, hns, hr⟩ := (show ObjOk X.prog X.w H s.heap d (.xd fs) from I.hok d _ h2)
  obtain ⟨od, ho, hl⟩ := lookIn_ns hns
  exact ⟨ob, od, mA, ⟨q1, q2.1, by unfold PySem.W.notCls; rw [q3] <;> rfl, by rw [q2.2]; exact ho⟩, hl, hr⟩
/-- isinstance(e, c), e tracked -/
def rIsX (K : PySem.W.Frag) : List V → Hp → VK → Prop := fun xs H Q => ∃ (a C : Addr) (fs : List (Str × V)) (c : V) (cv : Value) (b : Bool), xs = [.ref a, c] ∧ XAt H a C fs ∧ ExK K C ∧ ClsV c cv ∧ PySem.W.kitOne K (.ref C) cv = some b ∧ Q (.bl b) H
def rIsXT (K : PySem.W.Frag) : List V → Hp → VK → Prop := fun xs H Q => ∃ (a C tp : Addr) (fs : List (Str × V)) (cs : List V) (us : List Value) (b : Bool), xs = [.ref a, .ref tp] ∧ H tp = some (.tup cs) ∧ XAt H a C fs ∧ ExK K C ∧ Paired ClsV cs us ∧ PySem.W.kitAny K (.ref C) us = some b ∧ Q (.bl b) H
theorem kit_x {K : PySem.W.Frag} {a C : Addr} {ob od : Obj} (E : ExK K C) : PySem.W.KitX K (.ref a) (.ref C) (fun h => PySem.W.InstAt h a ob C (some od)) := by
  obtain ⟨cd, hc, _⟩ := PySem.W.any_some E.ec.hd
  exact PySem.W.kitx_exc (by rw [hc]; rfl) E.ec.hg E.ec.hk E.ec.hs E.ec.ha E.ec.hn E.ec.ht E.ec.hm
theorem call_isX {X : Cx} : CallR X (.builtin "isinstance") (rIsX X.K) := by
  intro pins s σ H xs us Q I r h
  obtain ⟨a, C, fs, c, cv, b, rfl, hx, E, k, e, q⟩ := h
  obtain ⟨u1, u2, rfl, r1, r2⟩ := vals2 r
  cases (show u1 = Value.ref a from r1)
  have e2 := k.eq r2
  subst e2
  obtain ⟨ob, od, mA, J, _, _⟩ := xat_inst I hx
  exact PySem.W.kia_one (kit_x E) I.kIn J e (fun z => nomatch z) fun tk => ⟨.bl b, H, I.tok tk, rfl, q⟩
theorem call_isXT {X : Cx} : CallR X (.builtin "isinstance") (rIsXT X.K) := by
  intro pins s σ H xs us Q I r h
  obtain ⟨a, C, tp, fs, cs, ws, b, rfl, hT, hx, E, k, e, q⟩ := h
  obtain ⟨u1, u2, rfl, r1, r2⟩ := vals2 r
  cases (show u1 = Value.ref a from r1)
  cases (show u2 = Value.ref tp from r2)
  obtain ⟨ob, od, mA, J, _, _⟩ := xat_inst I hx
  obtain ⟨_, its, rv, o, h1, h2, n, h3⟩ := (show ObjOk X.prog X.w H s.heap tp (.tup cs) from I.hok tp _ hT)
  have e3 := ClsV.all k rv
  subst e3
  rcases o with ⟨oc, od', dt, sl⟩
  dsimp only at h2 h3
  cases h2
  cases h3
  exact PySem.W.kia_tup (kit_x E) I.kIn J h1 e (fun z => nomatch z) fun tk => ⟨.bl b, H, I.tok tk, rfl, q⟩
/-- e.f, e tracked -/
def tXw (K : PySem.W.Frag) (f : Str) (te : TE) : TE := fun σ H Q => te σ H fun x H1 => ∃ (a C : Addr) (fs : List (Str × V)) (v : V), x = .ref a ∧ XAt H1 a C fs ∧ ExK K C ∧ PySem.W.findIn K (.ref C) f = some none ∧ fs.lookup f = some v ∧ Q v H1
theorem pe_xw {X : Cx} {e : Expr} {te : TE} {pos : Pos} {n : Str} (he : PE X e te) (hb : attributeBase e n X.env (eval e X.env) = eval e X.env := by rfl) : PE X (.Attribute e n pos) (tXw X.K n te) := by
  refine ⟨fun pins s σ H Q I h => attr_of hb (thn (he.run pins s σ H _ I h) fun u s1 hh => ?_)⟩
  obtain ⟨x, H1, I1, rx, a, C, fs, v, ex, hx, E, hno, l, q⟩ := hh
  subst ex
  cases (show u = Value.ref a from rx)
  obtain ⟨ob, od, mA, J, hl, hr⟩ := xat_inst I1 hx
  obtain ⟨u, hu, ru⟩ := RelO.some_of (v := v) (o := mA n) (by rw [← l]; exact hr n)
  exact HandSPX.exc_get I1.kIn J E.xf.ga E.xf.gg E.xf.exC (PySem.W.findObj_own E.xf.hdC hno rfl (by rw [hl, hu])) (handed_of ru) ⟨v, H1, I1.tok _, ru, q⟩
/-! ### methods and classes, what they raise wished for at the caller's slots -/
def tMethS (C : Addr) (m : Str) (sp : Sp) (E : L2.St → XK) (ta : TE) (t : TA) : TE := fun σ H Q => ta σ H fun x H1 => ∃ a dx fs, x = .ref a ∧ H1 a = some (.ins C dx fs) ∧ fs.lookup m = none ∧ t σ H1 fun vs H2 => sp (x :: vs) H2 Q (E σ)
def tMakeS (C : Addr) (sp : Sp) (E : L2.St → XK) (t : TA) : TE := fun σ H Q => t σ H fun vs H1 => ∀ x dx, H1 x = none → H1 dx = none → dx ≠ x → sp (.ref x :: vs) (upd (upd H1 dx (.own x)) x (.ins C dx [])) (fun v H2 => v = .non ∧ Q (.ref x) H2) (E σ)
section
variable {X : Cx} {CX : CXT} {k : Nat} {f C : Addr} {fd : FuncData} {ps : List Str} {sp : Sp} {E : L2.St → XK} {x m : Str} {p pos apos : Pos} {e o : Expr} {es : List Expr} {ta : TE} {t : TA}
theorem pe_methS {pl : Sem Bool} (he : PE X o ta) (c : L2.Cls X.K C) (hm : Meth X.K C m f) (F : FnOk X.prog X.w X.K X.mg X.base CX k f fd ps sp) (hr : Room k X.A) (hb : Binds X.K fd ps []) (hx : ∀ σ, PassesAt CX X σ (E σ)) (ha : PA X (e :: es) t)
    (hst : starEach (e :: es) X.env = (false, eval e X.env) :: starEach es X.env := by rfl) (hpl : (backTo pos (starEach es X.env)).any (·.1) = false := by rfl)
    (ht : eval (.Call (.Attribute o m apos) (e :: es) [] pos) X.env = (do
      let ov ← eval o X.env
      standAt apos.atName
      let (f, first) ← holding [ov] (getMethod ov m pl)
      callWith pos f first (backTo pos (starEach (e :: es) X.env)) (backToKw pos (keywordEach [] X.env))) := by rfl) : PE X (.Call (.Attribute o m apos) (e :: es) [] pos) (tMethS C m sp E ta t) := by
  refine ⟨fun pins s σ H Q I h => PySem.W.methodCall_KW (pl := pl) (thn (he.run pins s σ H _ I h) fun u s1 q1 => ?_) ht⟩
  obtain ⟨y, H1, I1, ry, a, dx, fs, ey, ea, l, q⟩ := q1
  subst ey
  cases (show u = Value.ref a from ry)
  refine getmeth_ok I1 ea c hm l (PySem.W.callWith_K (first := [.ref a]) (h₀ := X.base) I.ok.mod.kin hm.kp (thn (ha.run pos pins s1 σ H1 _ I1 q) fun us s2 q2 => ?_) hst hpl)
  obtain ⟨vs, H2, I2, r, q2⟩ := q2
  exact ⟨I2.kIn, run_fnS (us := .ref a :: us) (vs := .ref a :: vs) F hr hb (hx σ) I2 (.cons rfl r) q2⟩
theorem run_makeS {pins : List (Addr × Obj)} {σ : L2.St} {H : Hp} {s : Shared} {Q : VK} {us : List Value} {vs : List V} (M : Mk X.K C f) (F : FnOk X.prog X.w X.K X.mg X.base CX k f fd ps sp) (hr : Room (k + 1) X.A) (hb : Binds X.K fd ps []) (hx : PassesAt CX X σ (E σ)) (I : Inv X pins σ H s) (r : Vals vs us)
    (h : ∀ y dx, H y = none → H dx = none → dx ≠ y → sp (.ref y :: vs) (upd (upd H dx (.own y)) y (.ins C dx [])) (fun v H2 => v = .non ∧ Q (.ref y) H2) (E σ)) : wpAny (model X.prog X.w) X.A (call (.ref C) us) (EP X pins σ Q) X.xe s := by
  have hq := h (s.heap.objs.size + 1) s.heap.objs.size (I.hok.fresh (Nat.le_succ _)) (I.hok.fresh (Nat.le_refl _)) (Nat.ne_of_lt (Nat.lt_succ_self _))
  have J := Inv.made (C := C) I
  have r2 : Vals (V.ref (s.heap.objs.size + 1) :: vs) (Value.ref (s.heap.objs.size + 1) :: us) := .cons rfl r
  have hl : (Value.ref (s.heap.objs.size + 1) :: us).length = ps.length := r2.length.symm.trans (F.len _ _ _ _ hq)
  have bi := hb _ (Value.ref (s.heap.objs.size + 1) :: us) J.kIn (by rw [List.append_nil]; exact hl)
  rw [List.append_nil] at bi
  refine wpAny_call (make_map (f := f) I.kIn M.makes M.init (beq_iff_eq.mp M.fn) (codeAny_mono (F.run _ X.stack _ _ ⟨_, []⟩ _ _ _ (E σ) (hr.make C us []) (J.env0.make C us []) bi r2 hq) fun rs s1 q1 => ?_))
  cases rs with
  | error er => exact hx pins _ _ er s1 J q1
  | ok fl =>
    cases fl with
    | ret u =>
      obtain ⟨v, H3, I3, rv, ev, q3⟩ := J.after q1
      subst ev
      exact ⟨rv, ⟨V.ref (s.heap.objs.size + 1), H3, I3, rfl, q3⟩⟩
    | next => exact q1.elim
    | brk => exact q1.elim
    | cont => exact q1.elim
theorem pe_makeS (M : Mk X.K C f) (F : FnOk X.prog X.w X.K X.mg X.base CX k f fd ps sp) (hr : Room (k + 1) X.A) (hg : Gl X x) (hm : X.mg x = some (.ref C)) (hb : Binds X.K fd ps []) (hx : ∀ σ, PassesAt CX X σ (E σ)) (ha : PA X (e :: es) t)
    (hdb : (x == ("__debug__" : Str)) = false := by decide) (he : starEach (e :: es) X.env = (false, eval e X.env) :: starEach es X.env := by rfl) (hpl : (backTo pos (starEach es X.env)).any (·.1) = false := by rfl) : PE X (.Call (.Name x p) (e :: es) [] pos) (tMakeS C sp E t) := by
  refine ⟨fun pins s σ H Q I h => wpAny_Call_Name_kw (ld_glob I hg hm (PySem.W.callWith_K (h₀ := X.base) I.ok.mod.kin M.kp (thn (ha.run pos pins s σ H _ I h) fun us s1 q1 => ?_) he hpl) hdb)⟩
  obtain ⟨vs, H1, I1, r, q⟩ := q1
  exact ⟨I1.kIn, run_makeS M F hr hb (hx σ) I1 r q⟩
end
/-! ### the drawing -/
theorem log2_lt60 {t : Int} (h0 : 0 < t) (h : t < 1152921504606846976) : t.natAbs.log2 < 9000 := by
  have h1 : t.natAbs < 2 ^ 60 := by
    have : (2 : Nat) ^ 60 = 1152921504606846976 := by decide
    omega
  exact Nat.lt_trans ((Nat.log2_lt (by omega)).mpr h1) (by decide)
abbrev s__law_take : Stmt := top 12
abbrev N__law_take : List Str := ["_law_box_here", "_law_top", "_law_found", "_law_once"]
abbrev P__law_take : List Str := ["_law_box_here", "_law_top"]
theorem sc__law_take : FnScope N__law_take P__law_take (defScope s__law_take) := ⟨rfl, rfl, rfl, by decide +kernel, rfl, by decide +kernel, by decide +kernel⟩
def spTake : Sp := fun vs H Q _ => ∃ (b : Addr) (top n : Int), vs = [.ref b, .int top] ∧ BoxAt H b n ∧ 0 < top ∧ top < 1152921504606846976 ∧ n < 1048576 ∧ ∀ r H', 0 ≤ r → r < top → Keep b H H' → BoxAt H' b (n + 1) → Q (.int r) H'
section
variable {P : Program} {w : World} {K : PySem.W.Frag} {mg : Str → Option Value} {base : Heap}
theorem ok_take {f : Addr} {fd : FuncData} {k : Nat} (F : Fun K "_law_take" "_law_take" s__law_take f fd) : FnOk P w K mg base CX0 (k + 1) f fd P__law_take spTake := by
  have nd := sc__law_take.nd
  refine F.ok sc__law_take (fun vs H Q E h => ?_) (fun cdv A outer s H vs Q E hr h => ?_)
  · obtain ⟨b, top, n, rfl, _⟩ := h
    rfl
  · obtain ⟨b, top, n, rfl, ⟨x, y, z, hb, hx, hy, hy2, hz, hzn⟩, ht, ht2, hn, q⟩ := h
    refine ⟨_, (pss_cons (ps_if (pt_cmpR op_gt (pe_ix (r := rIxL K) ix_list (pv 0) (pe_int) (fun _ _ => rfl)) (pe_int) (nomark _)) (pss_cons (ps_set (i := 2) nd rfl (Or.inl rfl) (pe_op op_mod (pe_ix (r := rIxL K) ix_list (pv 0) (pe_int) (fun _ _ => rfl)) (pv 1)))
      (pss_cons (ps_asg (pe_op op_fdivW (pe_ix (r := rIxL K) ix_list (pv 0) (pe_int) (fun _ _ => rfl)) (pv 1)) (pg_sub (pv 0) (pe_int) set_list))
      (pss_one (ps_ret (pv 2))))) pss_nil)
      (pss_cons (ps_asg (pe_op op_add (pe_ix (r := rIxL K) ix_list (pv 0) (pe_int) (fun _ _ => rfl)) (pe_int)) (pg_sub (pv 0) (pe_int) set_list))
      (pss_cons (ps_set (i := 3) nd rfl (Or.inl rfl) (pe_op op_mod (pe_op op_pow (pe_op op_add (pe_ix (r := rIxL K) ix_list (pv 0) (pe_int) (fun _ _ => rfl)) (pe_op op_mul (pe_int) (pe_ix (r := rIxL K) ix_list (pv 0) (pe_int) (fun _ _ => rfl)))) (pe_int)) (pe_int)))
      (pss_one (ps_ret (pe_op op_mod (pe_op op_fdivW (pe_op op_mod (pe_op op_add (pe_op op_mul (pv 3) (pe_op op_add (pe_op op_mod (pv 3) (pe_int)) (pe_int))) (pe_op op_mul (pe_ix (r := rIxL K) ix_list (pv 0) (pe_int) (fun _ _ => rfl)) (pe_int))) (pe_int)) (pe_int)) (pv 1))))))), ?_⟩
    have hL : SqL K H b [.int x, .int y, .int z] := SqL.of hb
    have cw : ∀ i : Int, CDivW i top := fun i => ⟨ht, log2_lt60 ht ht2⟩
    have cw6 : ∀ i : Int, CDivW i 64 := fun i => ⟨by decide, by decide⟩
    have cw1 := cw x
    walk_at "ev"
    refine ite2 (fun e => ?_) (fun e => ?_)
    · have e1 : 0 < x := of_decide_eq_true e
      walk_at "ev"
      exact q _ _ (Int.emod_nonneg _ (by omega)) (Int.emod_lt_of_pos _ ht) (keep_upd (Keep.refl _ _)) ⟨_, _, _, upd_same, Int.ediv_nonneg hx (by omega), hy, hy2, hz, by omega⟩
    · walk_at "ev"
      exact q _ _ (Int.emod_nonneg _ (by omega)) (Int.emod_lt_of_pos _ ht) (keep_upd (Keep.refl _ _)) ⟨_, _, _, upd_same, hx, hy, hy2, by omega, by omega⟩
end
abbrev s__law_box : Stmt := top 11
abbrev N__law_box : List Str := ["_law_script", "_law_k", "_law_cell"]
abbrev P__law_box : List Str := ["_law_script", "_law_k"]
theorem sc__law_box : FnScope N__law_box P__law_box (defScope s__law_box) := ⟨rfl, rfl, rfl, by decide +kernel, rfl, by decide +kernel, by decide +kernel⟩
def spBox (K : PySem.W.Frag) : Sp := fun vs H Q _ => ∃ (a : Addr) (ns : List Int) (k : Int), vs = [.ref a, .int k] ∧ SqL K H a (ns.map V.int) ∧ 0 ≤ k ∧ k ≤ 100000 ∧ ∀ p H', H p = none → Same H H' → BoxAt H' p 0 → Q (.ref p) H'
section
variable {P : Program} {w : World} {K : PySem.W.Frag} {mg : Str → Option Value} {base : Heap}
theorem ok_box {f : Addr} {fd : FuncData} {k : Nat} (F : Fun K "_law_box" "_law_box" s__law_box f fd) (T : Blt mg) : FnOk P w K mg base CX0 (k + 1) f fd P__law_box (spBox K) := by
  have nd := sc__law_box.nd
  refine F.ok sc__law_box (fun vs H Q E h => ?_) (fun cdv A outer s H vs Q E hr h => ?_)
  · obtain ⟨b, top, n, rfl, _⟩ := h
    rfl
  · obtain ⟨a, ns, k, rfl, hL, h0, h1, q⟩ := h
    refine ⟨_, (pss_cons (ps_set (i := 2) nd rfl (Or.inl rfl) (pe_int))
      (pss_cons (ps_if (pt_cmpR op_lt (pv 1) (pe_callB (r := rLenQ K) call_len_seq (by rfl) T.b_len (by decide +kernel) (pa_cons (pv 0) pa_nil)) (nomark _)) (pss_one (ps_set (i := 2) nd rfl (Or.inl rfl) (pe_ix (r := rIxL K) ix_list (pv 0) (pv 1) (fun _ _ => rfl)))) pss_nil)
      (pss_one (ps_ret (pe_lst (pa_cons (pe_op op_mul (pe_callB call_abs (by rfl) T.b_abs (by decide +kernel) (pa_cons (pv 2) pa_nil)) (pe_callTy call_int1 (by rfl) T.b_int (by decide +kernel) (pa_cons (pe_cmpR op_ge (pe_callB call_abs (by rfl) T.b_abs (by decide +kernel) (pa_cons (pv 2) pa_nil)) (pe_op op_pow (pe_int) (pe_int)) (nomark _)) pa_nil))) (pa_cons (pe_op op_add (pe_op op_add (pe_op op_mod (pv 2) (pe_int)) (pe_op op_mul (pe_int) (pv 1))) (pe_int)) (pa_cons (pe_int) pa_nil)))))))), ?_⟩
    have fin : ∀ c : Int, ∀ p, H p = none → Q (.ref p) (upd H p (.lst [.int ((if c < 0 then -c else c) * (if decide ((10 : Int) ^ 18 ≤ if c < 0 then -c else c) then 1 else 0)), .int (c % 2147483629 + 7919 * k + 11), .int 0])) := by
      intro c p hp
      refine q p _ hp (same_new hp) ⟨_, _, _, upd_same, ?_, ?_, ?_, by omega, by omega⟩
      · refine Int.mul_nonneg ?_ ?_
        · split <;> omega
        · split <;> omega
      · have := Int.emod_nonneg c (show (2147483629 : Int) ≠ 0 by decide)
        omega
      · have := Int.emod_lt_of_pos c (show (0 : Int) < 2147483629 by decide)
        omega
    walk_at "ev"
    refine ite2 (fun e => ?_) (fun e => ?_)
    · have e1 : k < ((ns.map V.int).length : Int) := of_decide_eq_true e
      rw [List.length_map] at e1
      obtain ⟨c, hc, hat⟩ := at_ints h0 e1
      walk_at "ev"
      exact fin c
    · walk_at "ev"
      exact fin 0
end
/-! ### kinds of things -/
inductive Kd (K : PySem.W.Frag) (H : Hp) : V → String → Prop
  | non : Kd K H .non "NoneType"
  | bl (b : Bool) : Kd K H (.bl b) "bool"
  | int (i : Int) : Kd K H (.int i) "int"
  | str (x : Str) : Kd K H (.str x) "str"
  | lst {a : Addr} {xs : List V} : SqL K H a xs → Kd K H (.ref a) "list"
  | tup {a : Addr} {xs : List V} : SqT K H a xs → Kd K H (.ref a) "tuple"
theorem Kd.ty {K : PySem.W.Frag} {H : Hp} {x : V} {t : String} (h : Kd K H x t) : TyX K H x (.type t) := by
  cases h with
  | non => exact .base .non
  | bl b => exact .base (.bl b)
  | int i => exact .base (.int i)
  | str x => exact .base (.str x)
  | lst h =>
    rcases h with (h | ⟨o, h⟩) | ⟨o, its, n, h1, h2, _⟩
    · exact .base (.lst h)
    · exact .base (.frz h)
    · exact .kList h1 h2
  | tup h =>
    rcases h with (h | ⟨o, h⟩) | ⟨o, its, n, h1, h2, _⟩
    · exact .base (.tup h)
    · exact .fTuple h
    · exact .kTuple h1 h2
theorem Kd.same {K : PySem.W.Frag} {H H' : Hp} {x : V} {t : String} (h : Kd K H x t) (e : Same H H') : Kd K H' x t := by
  cases h with
  | non => exact .non
  | bl b => exact .bl b
  | int i => exact .int i
  | str x => exact .str x
  | lst h => exact .lst (e.seq h)
  | tup h => exact .tup (same_t e h)
def tis (t c : String) : Bool := t == c || (t == "bool" && c == "int")
theorem Kd.kit {K : PySem.W.Frag} {H : Hp} {x : V} {t : String} (h : Kd K H x t) : PySem.W.kitOne K (.type t) (.type "int") = some (tis t "int") ∧ PySem.W.kitOne K (.type t) (.type "bool") = some (tis t "bool") ∧ PySem.W.kitOne K (.type t) (.type "str") = some (tis t "str") ∧ PySem.W.kitOne K (.type t) (.type "list") = some (tis t "list") ∧ PySem.W.kitOne K (.type t) (.type "tuple") = some (tis t "tuple") := by
  cases h <;> exact ⟨kit_ty (by decide +kernel), kit_ty (by decide +kernel), kit_ty (by decide +kernel), kit_ty (by decide +kernel), kit_ty (by decide +kernel)⟩
theorem kit_lt {K : PySem.W.Frag} {t : String} {a b : Bool} (h1 : PySem.W.kitOne K (.type t) (.type "list") = some a) (h2 : PySem.W.kitOne K (.type t) (.type "tuple") = some b) : PySem.W.kitAny K (.type t) [.type "list", .type "tuple"] = some (a || b) := by
  refine kitAny_cons h1 (fun e => kitAny_cons h2 (fun e2 => ?_) (fun e2 => ?_)) (fun e => by rw [e]; rfl)
  · rw [e, e2]
    exact kitAny_nil
  · rw [e, e2]
    rfl
/-! ### == of lists of ints -/
theorem dp_ints {K : PySem.W.Frag} {H : Hp} : ∀ ns : List Int, DpAll K H (ns.map V.int) (ns.map PyData.int)
  | [] => .nil
  | n :: r => .cons (.int n) (dp_ints r)
theorem eqv_ints : ∀ ns ms : List Int, PyData.eqvAll (ns.map PyData.int) (ms.map PyData.int) = decide (ns = ms)
  | [], [] => by simp [PyData.eqvAll]
  | [], _ :: _ => by simp [PyData.eqvAll]
  | _ :: _, [] => by simp [PyData.eqvAll]
  | a :: r, b :: t => by
    simp only [List.map_cons, PyData.eqvAll, PyData.eqv, eqv_ints r t]
    by_cases h : a = b <;> by_cases h' : r = t <;> simp [h, h']
theorem eqd_ints {K : PySem.W.Frag} {H : Hp} {a b : Addr} {ns ms : List Int} {Q : VK} (ha : SqL K H a (ns.map V.int)) (hb : SqL K H b (ms.map V.int)) (q : Q (.bl (decide (ns = ms))) H) : rEqD K (.ref a) (.ref b) H Q := by
  refine ⟨_, _, .lst ha (dp_ints ns), .lst hb (dp_ints ms), PySem.W.ke_shaped_ints ns, PySem.W.ke_shaped_ints ms, ?_⟩
  have e : PyData.eqv (.list (ns.map PyData.int)) (.list (ms.map PyData.int)) = decide (ns = ms) := by
    rw [PyData.eqv]
    exact eqv_ints ns ms
  rw [e]
  exact q
/-! ### the law's own comparing, of like things -/
abbrev s__law_same : Stmt := top 14
abbrev N__law_same : List Str := ["_law_found", "_law_due", "_law_one", "_law_two"]
abbrev P__law_same : List Str := ["_law_found", "_law_due"]
theorem sc__law_same : FnScope N__law_same P__law_same (defScope s__law_same) := ⟨rfl, rfl, rfl, by decide +kernel, rfl, by decide +kernel, by decide +kernel⟩
def Fit : Nat → PyData → Prop
  | 0, .list _ => False
  | 0, .tuple _ => False
  | n + 1, .list ds => ds.length ≤ 4000 ∧ ∀ e ∈ ds, Fit n e
  | n + 1, .tuple ds => ds.length ≤ 4000 ∧ ∀ e ∈ ds, Fit n e
  | _, .dict _ => False
  | _, _ => True
theorem dpall_len {K : PySem.W.Frag} {H : Hp} : ∀ {xs : List V} {ds : List PyData}, DpAll K H xs ds → xs.length = ds.length
  | _, _, .nil => rfl
  | _, _, .cons _ h => by rw [List.length_cons, List.length_cons, dpall_len h]
theorem dpall_get {K : PySem.W.Frag} {H : Hp} : ∀ {xs : List V} {ds : List PyData} {i : Nat} {x : V}, DpAll K H xs ds → xs[i]? = some x → ∃ d, ds[i]? = some d ∧ Dp K H x d
  | _, _, _, _, .nil, h => by simp at h
  | _, _, 0, _, .cons (d := d) h1 h2, h => ⟨d, rfl, by
      have e := Option.some.inj h
      rw [← e]
      exact h1⟩
  | _, _, i + 1, _, .cons h1 h2, h => dpall_get (i := i) h2 h
mutual
theorem dp_same {K : PySem.W.Frag} {H H' : Hp} (e : Same H H') : ∀ {x : V} {d : PyData}, Dp K H x d → Dp K H' x d
  | _, _, .non => .non
  | _, _, .bl b => .bl b
  | _, _, .int i => .int i
  | _, _, .str x => .str x
  | _, _, .lst h a => .lst (e.seq h) (dpall_same e a)
  | _, _, .tup h a => .tup (same_t e h) (dpall_same e a)
theorem dpall_same {K : PySem.W.Frag} {H H' : Hp} (e : Same H H') : ∀ {xs : List V} {ds : List PyData}, DpAll K H xs ds → DpAll K H' xs ds
  | _, _, .nil => .nil
  | _, _, .cons h a => .cons (dp_same e h) (dpall_same e a)
end
def spSame (K : PySem.W.Frag) (n : Nat) : Sp := fun vs H Q _ => ∃ (x y : V) (d : PyData), vs = [x, y] ∧ Dp K H x d ∧ Dp K H y d ∧ Fit n d ∧ ∀ H', Same H H' → Q (.bl true) H'
/-- a comprehension over pairs -/
theorem lc_pairs {J : It} {xs ys : List V} {g : TG} {tt : TT} {te : TE} {vs : List Nat} {σ : L2.St} {H1 : Hp} {D : Addr} {Qd : Hp → Prop} (Pv : Nat → Hp → Prop) (h0 : Pv 0 (upd H1 D (.lst [])))
    (hgo : ∀ i H, Pv i H → i < xs.length → J.go i H) (hy : ∀ i H v H', Pv i H → i < xs.length → J.yld i H v H' → ∃ T x y, v = .ref T ∧ H T = none ∧ H' = upd H T (.tup [x, y]) ∧ xs[i]? = some x ∧ ys[i]? = some y)
    (hst : ∀ H, Pv xs.length H → J.stop xs.length H)
    (hs : ∀ i x y T H H', xs[i]? = some x → ys[i]? = some y → Pv i H → H T = none → H' = upd H T (.tup [x, y]) → g (.ref T) (wipe σ vs) H' fun σ2 H2 => wipe σ2 vs = wipe σ vs ∧ tt σ2 H2 fun b H3 =>
      if b = true then te σ2 H3 fun y H4 => ∃ acc, H4 D = some (.lst acc) ∧ acc.length < sizeLine ∧ Pv (i + 1) (upd H4 D (.lst (acc ++ [y]))) else Pv (i + 1) H3) (hd : ∀ H, Pv xs.length H → Qd H) :
    ∃ W : Nat → Nat → Hp → Prop, (∃ m, W 0 m (upd H1 D (.lst []))) ∧ ∀ i m H, W i m H →
      (J.stop i H ∧ Qd H) ∨ (J.go i H ∧ ∃ Nx : Hp → Prop, (∀ H', Nx H' → ∃ m', m' < m ∧ W (i + 1) m' H') ∧ ∀ x H', J.yld i H x H' → g x (wipe σ vs) H' fun σ2 H2 => wipe σ2 vs = wipe σ vs ∧ tt σ2 H2 fun b H3 =>
        if b = true then te σ2 H3 fun y H4 => ∃ acc, H4 D = some (.lst acc) ∧ acc.length < sizeLine ∧ Nx (upd H4 D (.lst (acc ++ [y]))) else Nx H3) := by
  refine ⟨fun i m H => m = xs.length - i ∧ i ≤ xs.length ∧ Pv i H, ⟨xs.length, by simp, Nat.zero_le _, h0⟩, ?_⟩
  rintro i m H ⟨rfl, hi, p⟩
  by_cases hlt : i < xs.length
  · refine .inr ⟨hgo i H p hlt, Pv (i + 1), fun H' p' => ⟨xs.length - (i + 1), by omega, rfl, hlt, p'⟩, fun v H' yl => ?_⟩
    obtain ⟨T, x, y, rfl, hT, e, f1, f2⟩ := hy i H v H' p hlt yl
    exact hs i x y T H H' f1 f2 p hT e
  · have e : i = xs.length := by omega
    subst e
    exact .inl ⟨hst H p, hd H p⟩
theorem q_dec {Q : VK} {x : V} {H : Hp} (h : Q (.bl true) H) : Q (.bl (decide (x = x))) H := by
  rw [decide_eq_true rfl]
  exact h
theorem all_true : ∀ n : Nat, (List.replicate n true).all id = true
  | 0 => rfl
  | n + 1 => by
    rw [List.replicate_succ, List.all_cons, all_true n]
    rfl
section
variable {P : Program} {w : World} {K : PySem.W.Frag} {mg : Str → Option Value} {base : Heap}
theorem same_step {f : Addr} {fd : FuncData} {n : Nat} {spI : Sp} (D__law_same : Df K mg "_law_same" s__law_same P__law_same f fd) (T : Blt mg) (G__law_same : FnOk P w K mg base CX0 n f fd P__law_same spI) (hG : ∀ m, n = m + 1 → spI = spSame K m) : FnOk P w K mg base CX0 (n + 1) f fd P__law_same (spSame K n) := by
  have nd := sc__law_same.nd
  refine D__law_same.F.ok sc__law_same (fun vs H Q E h => ?_) (fun cdv A outer s H vs Q E hr h => ?_)
  · obtain ⟨x, y, d, rfl, _⟩ := h
    rfl
  · obtain ⟨x, y, d, rfl, hx, hy, hf, q⟩ := h
    refine ⟨_, (pss_cons (ps_if (pt_val (pe_callB (r := rIsiT K) call_isiT (by rfl) T.b_isinstance (by decide +kernel) (pa_cons (pv 1) (pa_cons (pe_tup (pa_cons (pe_bltn (v := .ty "list") (by rfl) T.b_list (by decide +kernel) rfl) (pa_cons (pe_bltn (v := .ty "tuple") (by rfl) T.b_tuple (by decide +kernel) rfl) pa_nil))) pa_nil)))) (pss_cons (ps_if (PW.pt (pw_or (pt_cmpR op_ne (pe_callB (r := rIsi K) call_isi (by rfl) T.b_isinstance (by decide +kernel) (pa_cons (pv 0) (pa_cons (pe_bltn (v := .ty "list") (by rfl) T.b_list (by decide +kernel) rfl) pa_nil))) (pe_callB (r := rIsi K) call_isi (by rfl) T.b_isinstance (by decide +kernel) (pa_cons (pv 1) (pa_cons (pe_bltn (v := .ty "list") (by rfl) T.b_list (by decide +kernel) rfl) pa_nil))) (nomark _)) (pw_or1 (pt_cmpR op_ne (pe_callB (r := rIsi K) call_isi (by rfl) T.b_isinstance (by decide +kernel) (pa_cons (pv 0) (pa_cons (pe_bltn (v := .ty "tuple") (by rfl) T.b_tuple (by decide +kernel) rfl) pa_nil))) (pe_callB (r := rIsi K) call_isi (by rfl) T.b_isinstance (by decide +kernel) (pa_cons (pv 1) (pa_cons (pe_bltn (v := .ty "tuple") (by rfl) T.b_tuple (by decide +kernel) rfl) pa_nil))) (nomark _))))) (pss_one (ps_ret (pe_bl))) pss_nil)
      (pss_cons (ps_if (pt_cmpR op_ne (pe_callB (r := rLenQ K) call_len_seq (by rfl) T.b_len (by decide +kernel) (pa_cons (pv 0) pa_nil)) (pe_callB (r := rLenQ K) call_len_seq (by rfl) T.b_len (by decide +kernel) (pa_cons (pv 1) pa_nil)) (nomark _)) (pss_one (ps_ret (pe_bl))) pss_nil)
      (pss_one (ps_ret (pe_callB (r := rAll K) (cr_all rfl) (by rfl) T.b_all (by decide +kernel) (pa_cons (pe_lc (own := [("_law_one", 2), ("_law_two", 3)]) (g := gTup K 2 (gCons (gName 2) (gCons (gName 3) gNil))) (by rfl) nd (RZ.pi_zipA (by rfl) T.b_zip (pa_cons (pv 0) (pa_cons (pv 1) pa_nil))) (blkOk_by (own := [("_law_one", 2), ("_law_two", 3)]) (N := N__law_same) (sc := defScope s__law_same) (by decide +kernel)) (fun _ _ _ _ _ => (pg_tup (by rfl) (pgs_cons (pg_name (i := 2) nd rfl (Or.inl rfl)) (pgs_cons (pg_name (i := 3) nd rfl (Or.inl rfl)) pgs_nil)))) (fun _ _ _ _ _ => pts_nil) (fun _ _ _ _ _ => (pe_call G__law_same (hr.mono (by omega)) (by rfl) D__law_same.g D__law_same.F.kp D__law_same.b .nil pass0 (pa_cons (pv 2) (pa_cons (pv 3) pa_nil))))) pa_nil)))))) pss_nil)
      (pss_cons (ps_if (PW.pt (pw_or (pt_cmpR op_isN (pv 1) (pe_non) (nomark _)) (pw_or1 (pt_val (pe_callB (r := rIsi K) call_isi (by rfl) T.b_isinstance (by decide +kernel) (pa_cons (pv 1) (pa_cons (pe_bltn (v := .ty "str") (by rfl) T.b_str (by decide +kernel) rfl) pa_nil))))))) (pss_one (ps_ret (pe_and (pe_cmpR op_eq (pv 0) (pv 1) (nomark _)) (pe_one (pe_cmpR op_eq (pe_callB (r := rIsi K) call_isi (by rfl) T.b_isinstance (by decide +kernel) (pa_cons (pv 0) (pa_cons (pe_bltn (v := .ty "str") (by rfl) T.b_str (by decide +kernel) rfl) pa_nil))) (pe_callB (r := rIsi K) call_isi (by rfl) T.b_isinstance (by decide +kernel) (pa_cons (pv 1) (pa_cons (pe_bltn (v := .ty "str") (by rfl) T.b_str (by decide +kernel) rfl) pa_nil))) (nomark _)))))) pss_nil)
      (pss_one (ps_ret (pe_and (pe_callB (r := rIsi K) call_isi (by rfl) T.b_isinstance (by decide +kernel) (pa_cons (pv 0) (pa_cons (pe_bltn (v := .ty "int") (by rfl) T.b_int (by decide +kernel) rfl) pa_nil))) (pe_and (pe_cmpR op_eq (pe_callB (r := rIsi K) call_isi (by rfl) T.b_isinstance (by decide +kernel) (pa_cons (pv 0) (pa_cons (pe_bltn (v := .ty "bool") (by rfl) T.b_bool (by decide +kernel) rfl) pa_nil))) (pe_callB (r := rIsi K) call_isi (by rfl) T.b_isinstance (by decide +kernel) (pa_cons (pv 1) (pa_cons (pe_bltn (v := .ty "bool") (by rfl) T.b_bool (by decide +kernel) rfl) pa_nil))) (nomark _)) (pe_one (pe_cmpR op_eq (pv 0) (pv 1) (nomark _))))))))), ?_⟩
    cases hx with
    | non =>
      cases hy
      walk_at "ev"
      intro p hp
      generalize hH : upd _ p _ = H1
      obtain ⟨sm, hp1⟩ := newO hH hp
      have kd : Kd K H1 .non "NoneType" := .non
      have ty := kd.ty
      obtain ⟨k1, k2, k3, k4, k5⟩ := kd.kit
      have ka := kit_lt k4 k5
      walk_at "ev"
      exact q_dec (q _ sm)
    | bl b =>
      cases hy
      walk_at "ev"
      intro p hp
      generalize hH : upd _ p _ = H1
      obtain ⟨sm, hp1⟩ := newO hH hp
      have kd : Kd K H1 (.bl b) "bool" := .bl b
      have ty := kd.ty
      obtain ⟨k1, k2, k3, k4, k5⟩ := kd.kit
      have ka := kit_lt k4 k5
      walk_at "ev"
      exact q_dec (q _ sm)
    | int i =>
      cases hy
      walk_at "ev"
      intro p hp
      generalize hH : upd _ p _ = H1
      obtain ⟨sm, hp1⟩ := newO hH hp
      have kd : Kd K H1 (.int i) "int" := .int i
      have ty := kd.ty
      obtain ⟨k1, k2, k3, k4, k5⟩ := kd.kit
      have ka := kit_lt k4 k5
      walk_at "ev"
      exact q_dec (q _ sm)
    | str z =>
      cases hy
      walk_at "ev"
      intro p hp
      generalize hH : upd _ p _ = H1
      obtain ⟨sm, hp1⟩ := newO hH hp
      have kd : Kd K H1 (.str z) "str" := .str z
      have ty := kd.ty
      obtain ⟨k1, k2, k3, k4, k5⟩ := kd.kit
      have ka := kit_lt k4 k5
      walk_at "ev"
      exact q_dec (q _ sm)
    | lst hs ha =>
      rename_i a xs ds
      cases hy with
      | lst ht hb =>
      rename_i b ys
      have el : ys.length = xs.length := (dpall_len hb).trans (dpall_len ha).symm
      have el' : V.int (xs.length : Int) = V.int (ys.length : Int) := by rw [el]
      cases n with
      | zero => exact hf.elim
      | succ n =>
      have hf' : ds.length ≤ 4000 ∧ ∀ e ∈ ds, Fit n e := hf
      have hS := hG n rfl
      subst hS
      walk_at "ev"
      intro p hp
      generalize hH : upd _ p _ = H1
      obtain ⟨sm, hp1⟩ := newO hH hp
      have hs1 := sm.seq hs
      have ht1 := sm.seq ht
      have kd : Kd K H1 (.ref a) "list" := .lst hs1
      have ty := kd.ty
      have kd' : Kd K H1 (.ref b) "list" := .lst ht1
      have ty' := kd'.ty
      obtain ⟨k1, k2, k3, k4, k5⟩ := kd.kit
      have ka := kit_lt k4 k5
      walk_at "ev"
      refine .inl ⟨hs1, ht1, fun D hD => ?_⟩
      refine lc_pairs (xs := xs) (ys := ys) (fun i H' => Hold (Same H1 H' ∧ H' D = some (.lst ((List.replicate i true).map V.bl)))) (.mk ⟨same_new hD, upd_same⟩) ?_ ?_ ?_ ?_ ?_
      · intro i H' hP hi
        obtain ⟨sm2, hD2⟩ := hP.un
        have hi2 : i < ys.length := by omega
        exact ⟨xs, ys, _, _, sm2.seq hs1, sm2.seq ht1, List.getElem?_eq_getElem hi, List.getElem?_eq_getElem hi2⟩
      · intro i H' v H'' hP hi yl
        obtain ⟨sm2, hD2⟩ := hP.un
        obtain ⟨T, x, y, e1, e2, e3, f1, f2⟩ := yl
        exact ⟨T, x, y, e1, e2, e3, f1 _ (sm2.seq hs1), f2 _ (sm2.seq ht1)⟩
      · intro H' hP
        obtain ⟨sm2, hD2⟩ := hP.un
        exact ⟨xs, ys, sm2.seq hs1, sm2.seq ht1, .inl (Nat.le_refl _)⟩
      · intro i x y T' H' H'' hx hy hP hT e
        obtain ⟨sm2, hD2⟩ := hP.un
        obtain ⟨sm3, hT3⟩ := newO e.symm hT
        have hT4 : SqT K H'' T' [x, y] := SqT.of hT3
        obtain ⟨d, hd, hdx⟩ := dpall_get ha hx
        obtain ⟨d', hd', hdy⟩ := dpall_get hb hy
        have ed : d' = d := Option.some.inj (hd'.symm.trans hd)
        subst ed
        have sm4 : Same H H'' := (sm.trans sm2).trans sm3
        have dx := dp_same sm4 hdx
        have dy := dp_same sm4 hdy
        have ft := hf'.2 _ (List.mem_of_getElem? hd)
        have hil : i < xs.length := (List.getElem?_eq_some_iff.mp hx).1
        have hdl := dpall_len ha
        have hlen : i ≤ 4000 := by omega
        walk_at "ev"
        intro H5 sm5
        have hD5 := sm5 _ _ (sm3 _ _ hD2)
        refine ⟨_, hD5, szm (by simp; omega), .mk ⟨same_mut ((sm2.trans sm3).trans sm5) hD, ?_⟩⟩
        rw [upd_same, List.replicate_succ', List.map_append]
        rfl
      · intro H' hP
        obtain ⟨sm2, hD2⟩ := hP.un
        refine ⟨D, List.replicate xs.length true, rfl, SqL.of hD2, ?_⟩
        rw [all_true]
        exact q _ (sm.trans sm2)
    | tup hs ha =>
      rename_i a xs ds
      cases hy with
      | tup ht hb =>
      rename_i b ys
      have el : ys.length = xs.length := (dpall_len hb).trans (dpall_len ha).symm
      have el' : V.int (xs.length : Int) = V.int (ys.length : Int) := by rw [el]
      cases n with
      | zero => exact hf.elim
      | succ n =>
      have hf' : ds.length ≤ 4000 ∧ ∀ e ∈ ds, Fit n e := hf
      have hS := hG n rfl
      subst hS
      walk_at "ev"
      intro p hp
      generalize hH : upd _ p _ = H1
      obtain ⟨sm, hp1⟩ := newO hH hp
      have hs1 := same_t sm hs
      have ht1 := same_t sm ht
      have kd : Kd K H1 (.ref a) "tuple" := .tup hs1
      have ty := kd.ty
      have kd' : Kd K H1 (.ref b) "tuple" := .tup ht1
      have ty' := kd'.ty
      obtain ⟨k1, k2, k3, k4, k5⟩ := kd.kit
      have ka := kit_lt k4 k5
      walk_at "ev"
      refine .inr ⟨hs1, ht1, fun D hD => ?_⟩
      refine lc_pairs (xs := xs) (ys := ys) (fun i H' => Hold (Same H1 H' ∧ H' D = some (.lst ((List.replicate i true).map V.bl)))) (.mk ⟨same_new hD, upd_same⟩) ?_ ?_ ?_ ?_ ?_
      · intro i H' hP hi
        obtain ⟨sm2, hD2⟩ := hP.un
        have hi2 : i < ys.length := by omega
        exact ⟨xs, ys, _, _, same_t sm2 hs1, same_t sm2 ht1, List.getElem?_eq_getElem hi, List.getElem?_eq_getElem hi2⟩
      · intro i H' v H'' hP hi yl
        obtain ⟨sm2, hD2⟩ := hP.un
        obtain ⟨T, x, y, e1, e2, e3, f1, f2⟩ := yl
        exact ⟨T, x, y, e1, e2, e3, f1 _ (same_t sm2 hs1), f2 _ (same_t sm2 ht1)⟩
      · intro H' hP
        obtain ⟨sm2, hD2⟩ := hP.un
        exact ⟨xs, ys, same_t sm2 hs1, same_t sm2 ht1, .inl (Nat.le_refl _)⟩
      · intro i x y T' H' H'' hx hy hP hT e
        obtain ⟨sm2, hD2⟩ := hP.un
        obtain ⟨sm3, hT3⟩ := newO e.symm hT
        have hT4 : SqT K H'' T' [x, y] := SqT.of hT3
        obtain ⟨d, hd, hdx⟩ := dpall_get ha hx
        obtain ⟨d', hd', hdy⟩ := dpall_get hb hy
        have ed : d' = d := Option.some.inj (hd'.symm.trans hd)
        subst ed
        have sm4 : Same H H'' := (sm.trans sm2).trans sm3
        have dx := dp_same sm4 hdx
        have dy := dp_same sm4 hdy
        have ft := hf'.2 _ (List.mem_of_getElem? hd)
        have hil : i < xs.length := (List.getElem?_eq_some_iff.mp hx).1
        have hdl := dpall_len ha
        have hlen : i ≤ 4000 := by omega
        walk_at "ev"
        intro H5 sm5
        have hD5 := sm5 _ _ (sm3 _ _ hD2)
        refine ⟨_, hD5, szm (by simp; omega), .mk ⟨same_mut ((sm2.trans sm3).trans sm5) hD, ?_⟩⟩
        rw [upd_same, List.replicate_succ', List.map_append]
        rfl
      · intro H' hP
        obtain ⟨sm2, hD2⟩ := hP.un
        refine ⟨D, List.replicate xs.length true, rfl, SqL.of hD2, ?_⟩
        rw [all_true]
        exact q _ (sm.trans sm2)
theorem ok_same {f : Addr} {fd : FuncData} (D__law_same : Df K mg "_law_same" s__law_same P__law_same f fd) (T : Blt mg) : ∀ n : Nat, FnOk P w K mg base CX0 (n + 1) f fd P__law_same (spSame K n)
  | 0 => same_step (spI := fun _ _ _ _ => False) D__law_same T ⟨fun _ _ _ _ h => h.elim, fun _ _ _ _ _ _ _ _ _ _ _ _ _ h => h.elim⟩ (fun m h => by omega)
  | n + 1 => same_step D__law_same T (ok_same D__law_same T n) (fun m h => by cases h; rfl)
end
/-! ### the refusals' own making -/
abbrev s_init : Stmt := inClass (top 1) 0
abbrev N_init : List Str := ["self", "what"]
theorem sc_init : FnScope N_init N_init (defScope s_init) := ⟨rfl, rfl, rfl, by decide +kernel, rfl, by decide +kernel, by decide +kernel⟩
def spInit (K : PySem.W.Frag) : Sp := fun vs H Q _ => ∃ (a C : Addr) (v : V), vs = [.ref a, v] ∧ OexC K C ∧ PySem.W.findIn K (.ref C) "what" = some none ∧ H a = some (exo a C none) ∧
  ∀ dx, H dx = none → dx ≠ a → Q .non (upd (upd H dx (exd dx [(("what" : Str), v)])) a (exo a C (some dx)))
section
variable {P : Program} {w : World} {K : PySem.W.Frag} {mg : Str → Option Value} {base : Heap}
theorem ok_init {f : Addr} {fd : FuncData} {k : Nat} (F : Fun K "__init__" "TurnError.__init__" s_init f fd) : FnOk P w K mg base CX0 (k + 1) f fd N_init (spInit K) := by
  refine F.ok sc_init (fun vs H Q E h => ?_) (fun cdv A outer s H vs Q E hr h => ?_)
  · obtain ⟨a, C, v, rfl, _⟩ := h
    rfl
  · obtain ⟨a, C, v, rfl, T, nw, ha, q⟩ := h
    refine ⟨_, pss_one (ps_ost (pv 0) (pv 1)), ?_⟩
    exact ⟨_, rfl, _, rfl, a, C, rfl, T, nw, .inl ⟨ha, q⟩⟩
end
/-- C(v), made to be raised -/
theorem mk_what {K : PySem.W.Frag} {C : Addr} {v : V} {Q : XK} {H1 : Hp} (E : ExK K C) (h : ∀ d H', H1 d = none → Same H1 H' → H' d = some (.xd [(("what" : Str), v)]) → Q (.ref C) (some d) H') : ∀ a, H1 a = none → spInit K (.ref a :: ([v] ++ [])) (upd H1 a (exo a C none))
    (fun v' H2 => v' = .non ∧ ∃ (d : Addr) (fs : List (Str × V)), H2 a = some (exo a C (some d)) ∧ H2 d = some (exd d fs) ∧ H1 d = none ∧ Q (.ref C) (some d) (upd (del H2 a) d (.xd fs))) (fun _ _ _ => False) := by
  intro a ha
  refine ⟨a, C, v, rfl, E.oex, E.nw, upd_same, fun dx hd ne => ?_⟩
  rw [upd_ne ne] at hd
  refine ⟨rfl, dx, _, upd_same, ?_, hd, h dx _ hd (fun b o e => ?_) upd_same⟩
  · rw [upd_ne ne, upd_same]
  · have n1 := ne_of_none e hd
    have n2 := ne_of_none e ha
    rw [upd_ne n1, del_ne n2, upd_ne n2, upd_ne n1, upd_ne n2]
    exact e
/-- what is told of the class of a refusal, under TurnError at CT -/
structure Ref (K : PySem.W.Frag) (CT C fI : Addr) : Prop where
  ek : ExK K C
  ini : PySem.W.findIn K (.ref C) "__init__" = some (some (.ref fI))
  em : PySem.W.exmOne K (.ref C) (.ref CT) = some true
  kv : PySem.W.kitOne K (.ref C) (.type "ValueError") = some true
  kt : PySem.W.kitOne K (.ref C) (.ref CT) = some true
/-! ### a list or a tuple -/
section
open PySem.Spec PyProof.Rows
variable {X : Cx}
def rIxQ (K : PySem.W.Frag) : R2 := fun x y H Q => ∃ p xs i v, x = .ref p ∧ y = .int i ∧ (SqL K H p xs ∨ SqT K H p xs) ∧ atI xs i = some v ∧ Q v H
theorem ix_seq : IxR X (rIxQ X.K) := by
  intro value slice pins s σ H x y v u Q I rx ry h hs
  obtain ⟨p, xs, i, z, e1, e2, hq | hq, he, q⟩ := h
  · exact ix_list value slice pins s σ H x y v u Q I rx ry ⟨p, xs, i, z, e1, e2, hq, he, q⟩ hs
  · exact ix_tup value slice pins s σ H x y v u Q I rx ry ⟨p, xs, i, z, e1, e2, hq, he, q⟩ hs
end
theorem sq_same {K : PySem.W.Frag} {H H' : Hp} {a : Addr} {xs : List V} (e : Same H H') (h : SqL K H a xs ∨ SqT K H a xs) : SqL K H' a xs ∨ SqT K H' a xs := by
  rcases h with h | h
  · exact .inl (e.seq h)
  · exact .inr (same_t e h)
/-! ### divisors in common -/
theorem gcd_step {a b : Int} (ha : 0 ≤ a) (hb : 0 ≤ b) : Int.gcd b (a % b) = Int.gcd a b := by
  obtain ⟨m, rfl⟩ := Int.eq_ofNat_of_zero_le ha
  obtain ⟨n, rfl⟩ := Int.eq_ofNat_of_zero_le hb
  have e : ((m : Int) % (n : Int)).natAbs = m % n := by rw [← Int.natCast_emod]; rfl
  show Nat.gcd n ((m : Int) % (n : Int)).natAbs = Nat.gcd m n
  rw [e, Nat.gcd_comm n, ← Nat.gcd_rec, Nat.gcd_comm]
theorem emod_half {a b : Int} (hb : 0 < b) (h : b ≤ a) : 2 * (a % b) ≤ a := by
  have h1 := Int.emod_lt_of_pos a hb
  have h2 : a % b + b * (a / b) = a := Int.emod_add_mul_ediv a b
  have h3 : 1 ≤ a / b := (Int.le_ediv_iff_mul_le hb).mpr (by omega)
  have h4 : b * 1 ≤ b * (a / b) := Int.mul_le_mul_of_nonneg_left h3 (by omega)
  omega
/-- a product has the rest 1: no divisor in common -/
theorem gcd_of_inv {n x m : Int} (h : n * x % m = 1) : Int.gcd n m = 1 := by
  have h1 : ((Int.gcd n m : Nat) : Int) ∣ n * x := Int.dvd_mul_of_dvd_left (Int.gcd_dvd_left n m)
  have h2 : ((Int.gcd n m : Nat) : Int) ∣ m * (n * x / m) := Int.dvd_mul_of_dvd_left (Int.gcd_dvd_right n m)
  have h3 : n * x % m + m * (n * x / m) = n * x := Int.emod_add_mul_ediv _ _
  have h4 : ((Int.gcd n m : Nat) : Int) ∣ 1 := by
    have : (1 : Int) = n * x - m * (n * x / m) := by omega
    rw [this]
    exact Int.dvd_sub h1 h2
  have h5 := Int.le_of_dvd (by decide) h4
  have h6 : Int.gcd n m ≠ 0 := by
    intro z
    rw [z] at h4
    exact absurd (Int.zero_dvd.mp h4) (by decide)
  omega
abbrev s_are_coprime : Stmt := top 6
abbrev N_are_coprime : List Str := ["one", "other"]
abbrev P_are_coprime : List Str := ["one", "other"]
theorem sc_are_coprime : FnScope N_are_coprime P_are_coprime (defScope s_are_coprime) := ⟨rfl, rfl, rfl, by decide +kernel, rfl, by decide +kernel, by decide +kernel⟩
def spCop : Sp := fun vs H Q _ => ∃ (x y : Int), vs = [.int x, .int y] ∧ 0 ≤ x ∧ 0 ≤ y ∧ Q (.bl (decide (Int.gcd x y = 1))) H
section
variable {P : Program} {w : World} {K : PySem.W.Frag} {mg : Str → Option Value} {base : Heap}
theorem ok_coprime {f : Addr} {fd : FuncData} {k : Nat} (F : Fun K "are_coprime" "are_coprime" s_are_coprime f fd) : FnOk P w K mg base CX0 (k + 1) f fd P_are_coprime spCop := by
  have nd := sc_are_coprime.nd
  refine F.ok sc_are_coprime (fun vs H Q E h => ?_) (fun cdv A outer s H vs Q E hr h => ?_)
  · obtain ⟨x, y, rfl, _⟩ := h
    rfl
  · obtain ⟨x, y, rfl, hx, hy, q⟩ := h
    refine ⟨_, (pss_cons (ps_while PassesOwn.never (pt_cmpR op_ne (pv 1) (pe_int) (nomark _))
      (pss_one (ps_par (i := 0) (j := 1) (by rfl) nd rfl rfl (by decide) rfl rfl (pa_cons (pv 1) (pa_cons (pe_op op_mod (pv 0) (pv 1)) pa_nil)) (by rfl))))
      (pss_one (ps_ret (pe_cmpR op_eq (pv 0) (pe_int) (nomark _))))), ?_⟩
    refine ⟨fun z σ H' => H' = H ∧ ∃ (a b : Int), σ = [some (.int a), some (.int b)] ∧ z = b.toNat ∧ 0 ≤ a ∧ 0 ≤ b ∧ Int.gcd a b = Int.gcd x y, ⟨_, rfl, x, y, rfl, rfl, hx, hy, rfl⟩, ?_⟩
    rintro z σ H' ⟨rfl, a, b, rfl, rfl, ha, hb, hg⟩
    walk_at "ev"
    by_cases c : b = 0
    · subst c
      refine iteFe (by simp) ?_
      walk_at "ev"
      have e : decide (V.int a = V.int 1) = decide (Int.gcd x y = 1) := by
        rw [← hg, Int.gcd_zero_right]
        exact decide_eq_decide.mpr ⟨fun h => by have := V.int.inj h; omega, fun h => congrArg V.int (by omega)⟩
      rw [e]
      exact q
    · refine iteTe (by simp [c]) ?_
      refine ⟨_, holdN, ?_⟩
      walk_at "ev"
      have h1 := Int.emod_lt_of_pos a (show 0 < b by omega)
      have h0 := Int.emod_nonneg a c
      exact .mk ⟨(a % b).toNat, by omega, rfl, b, a % b, rfl, rfl, hb, h0, by rw [gcd_step ha hb]; exact hg⟩
end
def shM : Nat → Int → Int → Bool
  | 0, _, _ => true
  | k + 1, x, y => if y = 0 then decide (1 < x) else shM k y (x % y)
abbrev s__law_shares : Stmt := top 15
abbrev N__law_shares : List Str := ["_law_one", "_law_two", "_law_turn"]
abbrev P__law_shares : List Str := ["_law_one", "_law_two"]
theorem sc__law_shares : FnScope N__law_shares P__law_shares (defScope s__law_shares) := ⟨rfl, rfl, rfl, by decide +kernel, rfl, by decide +kernel, by decide +kernel⟩
def spShM : Sp := fun vs H Q _ => ∃ (x y : Int), vs = [.int x, .int y] ∧ 0 ≤ x ∧ 0 ≤ y ∧ Q (.bl (shM 64 x y)) H
section
variable {P : Program} {w : World} {K : PySem.W.Frag} {mg : Str → Option Value} {base : Heap}
theorem ok_shm {f : Addr} {fd : FuncData} {k : Nat} (F : Fun K "_law_shares" "_law_shares" s__law_shares f fd) (T : Blt mg) : FnOk P w K mg base CX0 (k + 1) f fd P__law_shares spShM := by
  have nd := sc__law_shares.nd
  refine F.ok sc__law_shares (fun vs H Q E h => ?_) (fun cdv A outer s H vs Q E hr h => ?_)
  · obtain ⟨x, y, rfl, _⟩ := h
    rfl
  · obtain ⟨x, y, rfl, hx, hy, q⟩ := h
    refine ⟨_, (pss_cons (ps_for PassesOwn.never rfl (pi_range1 (by rfl) T.b_range (pa_cons (pe_int) pa_nil)) (pg_name (i := 2) nd rfl (Or.inl rfl))
      (pss_cons (ps_if (pt_cmpR op_eq (pv 1) (pe_int) (nomark _)) (pss_one (ps_ret (pe_cmpR op_gt (pv 0) (pe_int) (nomark _)))) pss_nil)
      (pss_one (ps_par (i := 0) (j := 1) (by rfl) nd rfl rfl (by decide) rfl rfl (pa_cons (pv 1) (pa_cons (pe_op op_mod (pv 0) (pv 1)) pa_nil)) (by rfl)))))
      (pss_one (ps_ret (pe_bl)))), ?_⟩
    walk_at "ev"
    refine for_range (lo := 0) (n := (64 : Int).toNat) (fun i σ H' => Hold (∃ (x' y' : Int) (s2 : Option V), σ = [some (.int x'), some (.int y'), s2] ∧ 0 ≤ x' ∧ 0 ≤ y' ∧ i ≤ 64 ∧ shM (64 - i) x' y' = shM 64 x y ∧ H' = H)) (.mk ⟨x, y, none, rfl, hx, hy, by omega, rfl, rfl⟩) ?_ ?_
    · intro i σ H' hi hP
      obtain ⟨x', y', s2, rfl, hx', hy', h64, inv, rfl⟩ := hP.un
      have hi64 : i < 64 := hi
      have e64 : 64 - i = (64 - (i + 1)) + 1 := by omega
      have est : shM (64 - i) x' y' = if y' = 0 then decide (1 < x') else shM (64 - (i + 1)) y' (x' % y') := by
        rw [e64]
        rfl
      rw [est] at inv
      walk_at "ev"
      refine ite2 (fun e => ?_) (fun e => ?_)
      · have e1 : y' = 0 := V.int.inj (of_decide_eq_true e)
        rw [if_pos e1] at inv
        walk_at "ev"
        rw [← inv] at q
        exact q
      · have e1 : y' ≠ 0 := fun z => e (decide_eq_true (congrArg V.int z))
        rw [if_neg e1] at inv
        walk_at "ev"
        exact .mk ⟨_, _, _, rfl, hy', Int.emod_nonneg _ e1, by omega, inv, rfl⟩
    · intro σ H' hP
      obtain ⟨x', y', s2, rfl, hx', hy', h64, inv, rfl⟩ := hP.un
      walk_at "ev"
      have e0 : shM (64 - (64 : Int).toNat) x' y' = true := rfl
      rw [e0] at inv
      rw [← inv] at q
      exact q
end
def prN (k : Nat) : Bool := (List.range' 2 (k - 2)).all fun d => decide (k % d ≠ 0)
def outC (s : Nat) : List Int := ((List.range' 2 (s - 1)).filter fun k => decide (s % k = 0) && prN k).map Int.ofNat
section
open PySem.Spec PyProof.Rows
variable {X : Cx}
theorem ip_mul : OpR X (inplaceOp .Mult) (rI CMul fun i j => .int (i * j)) := opI fun _ _ _ _ _ _ _ hc q => imul_int q hc.ok
end
/-! ### a loop over enumerate -/
theorem for_enumL {K : PySem.W.Frag} {a : Addr} {xs : List V} {g : TG} {tb : TS} {D : Ends} {σ : L2.St} {H : Hp} (Pv : Nat → L2.St → Hp → Prop) (h0 : Pv 0 σ H) (hq : ∀ i σ H, Pv i σ H → SqL K H a xs)
    (hs : ∀ (i : Nat) (x : V) (T : Addr) (σ : L2.St) (H : Hp), xs[i]? = some x → Pv i σ H → H T = none → g (.ref T) σ (upd H T (.tup [.int (i : Nat), x])) fun σ2 H2 => tb { D with nx := Pv (i + 1), ct := Pv (i + 1), bk := D.nx } σ2 H2) (hd : ∀ σ H, Pv xs.length σ H → D.nx σ H) :
    ∃ W : Nat → Nat → L2.St → Hp → Prop, (∃ m, W 0 m σ H) ∧ ∀ i m σ H, W i m σ H →
      ((Ite K a).stop i H ∧ D.nx σ H) ∨ ((Ite K a).go i H ∧ ∃ N : L2.St → Hp → Prop, (∀ σ' H', N σ' H' → ∃ m', m' < m ∧ W (i + 1) m' σ' H') ∧ ∀ v H', (Ite K a).yld i H v H' → g v σ H' fun σ2 H2 => tb { D with nx := N, ct := N, bk := D.nx } σ2 H2) := by
  refine ⟨fun i m σ H => m = xs.length - i ∧ i ≤ xs.length ∧ Pv i σ H, ⟨xs.length, rfl, Nat.zero_le _, h0⟩, ?_⟩
  rintro i m σ H ⟨rfl, hi, p⟩
  have q := hq i σ H p
  by_cases hlt : i < xs.length
  · refine .inr ⟨⟨xs, xs[i], q, List.getElem?_eq_getElem hlt⟩, Pv (i + 1), fun σ' H' p' => ⟨xs.length - (i + 1), by omega, rfl, hlt, p'⟩, fun v H' y => ?_⟩
    obtain ⟨T, x', rfl, hT, rfl, f1⟩ := y
    exact hs i x' T σ H (f1 xs q) p hT
  · have e : i = xs.length := by omega
    subst e
    exact .inl ⟨⟨xs, q, Nat.le_refl _⟩, hd σ H p⟩
/-! ### enumerate of a tuple -/
section
open PySem.Spec PyProof.Rows
abbrev tIt (t : Addr) : Obj := { cls := .type "tuple_iterator", data := .fields #[.ref t, .int 0 0] }
abbrev tEn (i : Addr) : Obj := { cls := .type "enumerate", data := .fields #[.none, .bool false, .ref i, rawInt 0, .none, .none] }
theorem meets_enumT (l : Addr) (items : Array Value) (n : Nat) (dct : Option Addr) (sl : Array (Option Value)) :
    Meets (Builtin.«enumerate.__new__» ⟨[.type "enumerate", .ref l], []⟩) (fun _ R s => s.heap.get? l = some { cls := .type "tuple", dict := dct, data := .seq items n, slots := sl } ∧
      R (.ok (.ret (.ref (s.heap.push (tIt l)).objs.size))) { s with heap := (s.heap.push (tIt l)).push (tEn s.heap.objs.size) }) :=
  .of_wp fun prog w A R s h => by
    obtain ⟨hp, g, d, tk, os⟩ := s
    obtain ⟨hl, h⟩ := h
    have hsub := sub_enumerate
    have hT : Heap.IsTuple (Shared.heap ⟨hp, g, d, tk, os⟩) l items := ⟨_, hl, rfl, n, rfl⟩
    have q1 : ∀ {A' : Around} {E : Value → Shared → Prop} {Q : Value → Shared → Prop}, Q (.ref hp.objs.size) ⟨hp.push (tIt l), g, d, tk, os⟩ → wpAny (model prog w) A' (pyIter (.ref l)) Q E ⟨hp, g, d, tk, os⟩ := fun q => wpAny_pyIter_tuple hT q
    wp_walk using AutoSeq1.wpAny_loadPart' hl
    refine wpAny_stack_any fun st => wpAny_pure ?_
    split
    · rename_i c _ _ _ _ _
      cases (c == Value.type "enumerate")
      · wp_walk using AutoSeq1.wpAny_loadPart' hl, q1
        exact ⟨_, rfl, h⟩
      · wp_walk using AutoSeq1.wpAny_loadPart' hl, q1
        exact ⟨_, rfl, h⟩
    · wp_walk using AutoSeq1.wpAny_loadPart' hl, q1
      exact ⟨_, rfl, h⟩
theorem call_enumT {prog : Program} {w : World} {A : Around} {E : Value → Shared → Prop} {s : Shared} {l : Addr} {items : Array Value} {Q : Value → Shared → Prop} (hL : s.heap.IsTuple l items)
    (h : ∀ h', IsEnum h' (s.heap.objs.size + 1) s.heap.objs.size 0 .none → h'.IsTupleIter s.heap.objs.size l 0 → (∀ b o, s.heap.get? b = some o → h'.get? b = some o) → Q (.ref (s.heap.objs.size + 1)) { s with heap := h' }) :
    wpAny (model prog w) A (call (.type "enumerate") [.ref l]) Q E s := by
  obtain ⟨⟨c, dct, dt, sl⟩, hl, hc, n, hd⟩ := hL
  replace hc : c = .type "tuple" := hc
  replace hd : dt = .seq items n := hd
  subst hc hd
  refine callType_new F.called_enumerate (by decide) (F.typeCall_enumerate_1 _) (F.newCall_enumerate_1 _) (fun obj => F.args_object_init_2 obj _) F.entry_enumerate_new (meets_enumT l items n dct sl) ⟨hl, ?_⟩
  have hz : (s.heap.push (tIt l)).objs.size = s.heap.objs.size + 1 := Heap.size_push ..
  show _ ∧ _
  rw [hz]
  have he : IsEnum ((s.heap.push (tIt l)).push (tEn s.heap.objs.size)) (s.heap.objs.size + 1) s.heap.objs.size 0 .none := by
    have k := Heap.get?_push_size (s.heap.push (tIt l)) (o := tEn s.heap.objs.size) rfl
    rw [hz] at k
    exact k
  exact ⟨⟨_, he, rfl⟩, h _ he ⟨_, Heap.get?_push_of_some _ (Heap.get?_push_size _ rfl), rfl, rfl⟩ fun b o x => Heap.get?_push_of_some _ (Heap.get?_push_of_some _ x)⟩
/-- the tuple at a, each item in a new pair -/
def IteT (K : PySem.W.Frag) (a : Addr) : It :=
  ⟨fun i H => ∃ (xs : List V) (x : V), SqT K H a xs ∧ xs[i]? = some x, fun i H v H' => ∃ T x, v = .ref T ∧ H T = none ∧ H' = upd H T (.tup [.int (i : Nat), x]) ∧ ∀ xs, SqT K H a xs → xs[i]? = some x, fun i H => ∃ xs : List V, SqT K H a xs ∧ xs.length = i⟩
theorem turn_enumT {P : Program} {w : World} {K : PySem.W.Frag} {elts : List Expr} {kk : Nat} {tpos : Pos} (a e it : Addr) :
    Turn P w K (.Tuple elts kk tpos) (IteT K a) [e, it] e (fun i h => (∃ old, IsEnum h e it ((i : Nat) : Int) old) ∧ h.IsTupleIter it a i ∧ e ≠ it ∧ a ≠ it ∧ a ≠ e) where
  mem := by simp
  obj := fun i h st b hb => by
    obtain ⟨⟨old, he⟩, ⟨o, ho, hc, hd⟩, _⟩ := st
    have z : b = e ∨ b = it := by simpa using hb
    rcases z with z | z
    · rw [z]
      exact ⟨_, he, fun v q => nomatch q⟩
    · rw [z]
      exact ⟨o, ho, fun v q => by rw [hd] at q; cases q⟩
  keep := fun i h h' st k => by
    obtain ⟨⟨old, he⟩, hi, hne⟩ := st
    exact ⟨⟨old, k e (by simp) _ he⟩, hi.at fun o q => k it (by simp) o q, hne⟩
  item := by
    intro X hP hw hK hc i pins s σ H E I hf st hg
    subst hP hw hK
    obtain ⟨⟨old, he⟩, hit, hne, hna, hnb⟩ := st
    obtain ⟨xs, x, hq, hx⟩ := hg
    obtain ⟨its, rv, p, hz⟩ := I.tuple hq
    obtain ⟨u, hu, ru⟩ := rv.get hx
    have hel : e < s.heap.objs.size := Heap.lt_size he
    have hil : it < s.heap.objs.size := by
      obtain ⟨_, q, _⟩ := hit
      exact Heap.lt_size q
    have hlt : i < its.toArray.size := by
      rw [List.size_toArray]
      exact (List.getElem?_eq_some_iff.mp hu).1
    have dr : Draws X.prog X.w X.A.in1 it [it, a] its.toArray.size (fun i v => its.toArray[i]? = some v) (fun i h => h.IsTupleIter it a i ∧ h.IsTuple a its.toArray) := Draws.tuple (A := X.A.in1) (I.ok.hd hc) it a hna its.toArray
    refine wpAny_pyNext_enum_itemD dr he ⟨hit, p⟩ hlt hne (by simp [hne, hnb.symm]) fun y h' tk hy ho hst hT hsz hk => ?_
    have ey : y = u := by
      have h1 : its.toArray[i]? = some u := by simpa using hu
      rw [h1] at hy
      exact (Option.some.inj hy).symm
    subst ey
    refine ⟨_, rfl, wpAny_letOwnedTupleGo_enum (s := { s with heap := h', toks := tk + 1 }) ho fun h'' he' sb => ?_⟩
    have hT2 := (sb.2 _ (Nat.ne_of_gt hel)).trans hT
    have new : ObjOk X.prog X.w (upd H s.heap.objs.size (.tup [.int (i : Nat), x])) h'' s.heap.objs.size (.tup [.int (i : Nat), x]) := ⟨by show 2 ≤ sizeLine; decide, [.int i tk, y], .cons ⟨_, rfl⟩ (.cons ru .nil), ⟨_, hT2, rfl, _, rfl⟩⟩
    have I1 : Inv X pins σ (upd H s.heap.objs.size (.tup [.int (i : Nat), x])) { s with heap := h'', toks := tk + 1 } :=
      I.turnedNew (ch := [e, it]) (fun b ob hb q => (sb.2 b (fun z => hb (by simp [z]))).trans (hk b ob (fun z => hb (by simp [z])) (fun z => hb (by simp [z])) q)) hf (Nat.le_refl _) new
    refine ⟨.ref s.heap.objs.size, _, I1, rfl, ⟨_, x, rfl, I.hok.fresh (Nat.le_refl _), rfl, fun ys hy => by rw [I.tuple_inj hy hq]; exact hx⟩, ⟨⟨y, ?_⟩, hst.1.at fun o q => (sb.2 it hne.symm).trans q, hne, hna, hnb⟩, fun b hb => ?_⟩
    · rw [show ((i + 1 : Nat) : Int) = (i : Int) + 1 by omega]
      exact he'
    · have hb' : b < s.heap.objs.size := by
        have z : b = e ∨ b = it := by simpa using hb
        rcases z with z | z <;> rw [z]
        · exact hel
        · exact hil
      rw [upd_ne (Nat.ne_of_lt hb')]
      exact (hf b hb).1
  done := by
    intro X hP hw hK hc i pins s σ H E I hf st hg
    subst hP hw hK
    obtain ⟨⟨old, he⟩, hit, hne, hna, hnb⟩ := st
    obtain ⟨xs, hq, hx⟩ := hg
    obtain ⟨its, rv, p, hz⟩ := I.tuple hq
    obtain ⟨f0, f1, f2, f3, f4, f5⟩ := hf it (by simp)
    have hl : its.toArray.size = i := by
      rw [List.size_toArray, ← rv.length]
      exact hx
    have dr : Draws X.prog X.w X.A.in1 it [it, a] its.toArray.size (fun i v => its.toArray[i]? = some v) (fun i h => h.IsTupleIter it a i ∧ h.IsTuple a its.toArray) := Draws.tuple (A := X.A.in1) (I.ok.hd hc) it a hna its.toArray
    exact wpAny_pyNext_enum_endD dr he (by rw [hl]; exact ⟨hit, p⟩) fun h' eb => ⟨rfl, I.turned (t' := s.toks) (fun b o hb q => eb b o hb q) f0 f1 f3 f4 f5⟩
  self := fun A i s Q E st h => by
    obtain ⟨⟨_, he⟩, _⟩ := st
    exact wpAny_pyIter_enum he h
def iEnumT (K : PySem.W.Frag) (ta : TA) : TI := fun σ H R => ta σ H fun vs H1 => ∃ a xs, vs = [.ref a] ∧ SqT K H1 a xs ∧ R (IteT K a) H1
theorem pi_enumT {X : Cx} {e : Expr} {ta : TA} {p pos tpos : Pos} {elts : List Expr} {kk : Nat} (hg : Gl X "enumerate") (hm : X.mg "enumerate" = none) (ha : PA X [e] ta) (hs : starEach [e] X.env = [(false, eval e X.env)] := by rfl) :
    PI X (.Tuple elts kk tpos) (.Call (.Name "enumerate" p) [e] [] pos) (iEnumT X.K ta) := by
  refine ⟨fun pins s σ H R I h => ?_⟩
  refine Call_ (ld_blt I hg hm boot_enumerate (PyProof.Rows.callWith_type1 (thn (ha.run pos pins s σ H _ I h) fun us s1 ⟨vs, H1, I1, r1, q1⟩ => ?_) hs rfl))
  obtain ⟨a, xs, ex, hq, q⟩ := q1
  subst ex
  obtain ⟨u, rfl, ru⟩ := r1.one
  cases ru
  obtain ⟨its, rv, p', hz⟩ := I1.tuple hq
  have hal : a < s1.heap.objs.size := by
    obtain ⟨o, ho, _⟩ := p'
    exact Heap.lt_size ho
  refine call_enumT p' fun h' he hit hk => wpAny_pyIter_enum he ?_
  have I2 : Inv X pins σ H1 { s1 with heap := h' } := I1.kept (t' := s1.toks) hk
  refine ⟨s1.heap.objs.size + 1, [s1.heap.objs.size + 1, s1.heap.objs.size], _, _, H1, rfl, I2, turn_enumT a (s1.heap.objs.size + 1) s1.heap.objs.size, ⟨⟨.none, he⟩, hit, Nat.succ_ne_self _, Nat.ne_of_lt hal, Nat.ne_of_lt (Nat.lt_succ_of_lt hal)⟩, fun b hb => ?_, q⟩
  have hle : s1.heap.objs.size ≤ b := by
    have z : b = s1.heap.objs.size + 1 ∨ b = s1.heap.objs.size := by simpa using hb
    rcases z with z | z <;> rw [z]
    · exact Nat.le_add_right _ _
    · exact Nat.le_refl _
  exact I1.fpOk hle (I1.hok.fresh hle)
end
theorem for_enumT {K : PySem.W.Frag} {a : Addr} {xs : List V} {g : TG} {tb : TS} {D : Ends} {σ : L2.St} {H : Hp} (Pv : Nat → L2.St → Hp → Prop) (h0 : Pv 0 σ H) (hq : ∀ i σ H, Pv i σ H → SqT K H a xs)
    (hs : ∀ (i : Nat) (x : V) (T : Addr) (σ : L2.St) (H : Hp), xs[i]? = some x → Pv i σ H → H T = none → g (.ref T) σ (upd H T (.tup [.int (i : Nat), x])) fun σ2 H2 => tb { D with nx := Pv (i + 1), ct := Pv (i + 1), bk := D.nx } σ2 H2) (hd : ∀ σ H, Pv xs.length σ H → D.nx σ H) :
    ∃ W : Nat → Nat → L2.St → Hp → Prop, (∃ m, W 0 m σ H) ∧ ∀ i m σ H, W i m σ H →
      ((IteT K a).stop i H ∧ D.nx σ H) ∨ ((IteT K a).go i H ∧ ∃ N : L2.St → Hp → Prop, (∀ σ' H', N σ' H' → ∃ m', m' < m ∧ W (i + 1) m' σ' H') ∧ ∀ v H', (IteT K a).yld i H v H' → g v σ H' fun σ2 H2 => tb { D with nx := N, ct := N, bk := D.nx } σ2 H2) := by
  refine ⟨fun i m σ H => m = xs.length - i ∧ i ≤ xs.length ∧ Pv i σ H, ⟨xs.length, rfl, Nat.zero_le _, h0⟩, ?_⟩
  rintro i m σ H ⟨rfl, hi, p⟩
  have q := hq i σ H p
  by_cases hlt : i < xs.length
  · refine .inr ⟨⟨xs, xs[i], q, List.getElem?_eq_getElem hlt⟩, Pv (i + 1), fun σ' H' p' => ⟨xs.length - (i + 1), by omega, rfl, hlt, p'⟩, fun v H' y => ?_⟩
    obtain ⟨T, x', rfl, hT, rfl, f1⟩ := y
    exact hs i x' T σ H (f1 xs q) p hT
  · have e : i = xs.length := by omega
    subst e
    exact .inl ⟨⟨xs, q, rfl⟩, hd σ H p⟩
/-- what is told of the refusals' own making -/
structure XI (K : PySem.W.Frag) (fI : Addr) (fdI : FuncData) : Prop where
  F : Fun K "__init__" "TurnError.__init__" s_init fI fdI
  b : Binds K fdI N_init []
  ty : PySem.W.typeIn K (.ref fI) = some (.type "function")
def Wh (H H' : Hp) (d : Addr) (v : V) : Prop := H d = none ∧ Same H H' ∧ H' d = some (.xd [(("what" : Str), v)])
def Good (bs : List Int) (i : Nat) : Prop := ∀ a ∈ bs.take i, Int.gcd (bs.getD i 0) a = 1
theorem sIx_nat {n d i : Nat} (h : i ≤ n) : HT.sIx n d (some (i : Int)) = i := by
  rw [HT.sIx_nat]
  omega
abbrev s_check_coprime : Stmt := top 8
abbrev N_check_coprime : List Str := ["bys", "place", "by", "ahead"]
abbrev P_check_coprime : List Str := ["bys"]
theorem sc_check_coprime : FnScope N_check_coprime P_check_coprime (defScope s_check_coprime) := ⟨rfl, rfl, rfl, by decide +kernel, rfl, by decide +kernel, by decide +kernel⟩
section
variable {P : Program} {w : World} {K : PySem.W.Frag} {mg : Str → Option Value} {base : Heap}
def spChkL (K : PySem.W.Frag) (C : Addr) : Sp := fun vs H Q E => ∃ (b : Addr) (bs : List Int), vs = [.ref b] ∧ SqL K H b (bs.map V.int) ∧ bs.length ≤ 1000 ∧ (∀ x ∈ bs, 0 ≤ x ∧ x ≤ 1000000) ∧
  ((∀ i < bs.length, Good bs i) → ∀ H', Same H H' → Q .non H') ∧ (∀ p < bs.length, (∀ i < p, Good bs i) → ¬ Good bs p → ∀ d H', Wh H H' d (.int p) → E (.ref C) (some d) H')
theorem ok_chkL {f f1 fI C CT : Addr} {fd d1 fdI : FuncData} {k : Nat} (F : Fun K "check_coprime" "check_coprime" s_check_coprime f fd) (T : Blt mg) (D_are_coprime : Df K mg "are_coprime" s_are_coprime P_are_coprime f1 d1) (x : XI K fI fdI)
    (R : Ref K CT C fI) (M_NotCoprime : mg "NotCoprime" = some (.ref C)) : FnOk P w K mg base (L2.CX P w) (k + 3) f fd P_check_coprime (spChkL K C) := by
  have G_init : FnOk P w K mg base CX0 1 fI fdI N_init (spInit K) := ok_init x.F
  have G_are_coprime : FnOk P w K mg base CX0 1 f1 d1 P_are_coprime spCop := ok_coprime D_are_coprime.F
  have I_ty := x.ty
  have I_b := x.b
  have EK_NotCoprime := R.ek
  have II_NotCoprime := R.ini
  have nd := sc_check_coprime.nd
  refine F.okX sc_check_coprime (fun vs H Q E h => ?_) (fun cdv A outer s H vs Q E hr h => ?_)
  · obtain ⟨b, bs, rfl, _⟩ := h
    rfl
  · obtain ⟨b, bs, rfl, hb, hlen, hbb, qy, qn⟩ := h
    refine ⟨_, (pss_one (ps_for (passes_of rfl) rfl (pi_enum (by rfl) T.b_enumerate (pa_cons (pv 0) pa_nil)) (pg_tup (by rfl) (pgs_cons (pg_name (i := 1) nd rfl (Or.inl rfl)) (pgs_cons (pg_name (i := 2) nd rfl (Or.inr rfl)) pgs_nil)))
      (pss_one (ps_if (pt_not (pt_val (pe_callB (r := rAll K) (cr_all rfl) (by rfl) T.b_all (by decide +kernel) (pa_cons (pe_lc (own := [("ahead", 3)]) (g := gName 3) (by rfl) nd (pi_list (pe_slice (r := rSlL K) sl_list (pv 0) po_none (po_some (pv 1)))) (blkOk_by (own := [("ahead", 3)]) (N := N_check_coprime) (sc := defScope s_check_coprime) (by decide +kernel)) (fun _ _ _ _ _ => (pg_name (i := 3) nd rfl (Or.inl rfl))) (fun _ _ _ _ _ => pts_nil) (fun _ _ _ _ _ => (pe_call G_are_coprime (hr.mono (by omega)) (by rfl) D_are_coprime.g D_are_coprime.F.kp D_are_coprime.b .nil pass0 (pa_cons (pv 2) (pa_cons (pv 3) pa_nil))))) pa_nil)))) (pss_one (ps_raise rfl (takes_of rfl rfl rfl rfl) (pmk_oex EK_NotCoprime.oex II_NotCoprime I_ty G_init (hr.mono (by omega)) I_b .nil pass0 (by rfl) M_NotCoprime (pa_cons (pv 1) pa_nil)))) pss_nil)))), ?_⟩
    walk_at "ev"
    refine for_enumL (K := K) (a := b) (xs := bs.map V.int) (fun i σ H' => Hold (∃ s1 s2, σ = [some (.ref b), s1, s2, none] ∧ Same H H' ∧ ∀ j < i, Good bs j)) (.mk ⟨none, none, rfl, Same.refl _, fun j hj => absurd hj (Nat.not_lt_zero j)⟩) ?_ ?_ ?_
    · intro i σ H1 hP
      obtain ⟨s1, s2, rfl, sm1, hg⟩ := hP.un
      exact Same.seq sm1 hb
    · intro i v T' σ H1 hv hP hT
      obtain ⟨s1, s2, rfl, sm1, hg⟩ := hP.un
      rw [List.getElem?_map] at hv
      obtain ⟨y, hy, ev⟩ := Option.map_eq_some_iff.mp hv
      subst ev
      have hil : i < bs.length := (List.getElem?_eq_some_iff.mp hy).1
      have eyi : bs.getD i 0 = y := by rw [List.getD_eq_getElem?_getD, hy]; rfl
      have hyb := hbb y (List.mem_of_getElem? hy)
      generalize hG : upd _ T' _ = H2
      obtain ⟨sm2, hq2⟩ := newO hG hT
      clear hG
      have hT2 : SqT K H2 T' [.int (i : Nat), .int y] := SqT.of hq2
      have hb2 := Same.seq (sm1.trans sm2) hb
      have ecut : cutV (bs.map V.int) none (some (i : Int)) = (bs.take i).map V.int := by
        have e : cutV (bs.map V.int) none (some (i : Int)) = ((bs.map V.int).drop 0).take (HT.sIx (bs.map V.int).length (bs.map V.int).length (some (i : Int)) - 0) := rfl
        rw [e, List.drop_zero, List.map_take, sIx_nat (by rw [List.length_map]; omega)]
        rfl
      have hwh : ¬ (HT.sIx (bs.map V.int).length 0 none = 0 ∧ HT.sIx (bs.map V.int).length (bs.map V.int).length (some (i : Int)) = (bs.map V.int).length) := by
        rw [sIx_nat (by rw [List.length_map]; omega), List.length_map]
        omega
      walk_at "ev"
      w_cond _3
      rw [ecut] at hq3
      have hL3 := SqL.of (K := K) hq3
      refine ⟨l3, rfl, ⟨_, hL3⟩, fun D hD => ?_⟩
      refine lc_list (K := K) (a := l3) (xs := (bs.take i).map V.int) (fun j H' => Hold (Same H3 H' ∧ H' D = some (.lst ((((bs.take i).take j).map fun z => decide (Int.gcd y z = 1)).map V.bl)))) (.mk ⟨same_new hD, upd_same⟩) ?_ ?_ ?_
      · intro j H4 hj hP4
        obtain ⟨sm4, hD4⟩ := hP4.un
        exact Same.seq sm4 hL3
      · intro j v H4 hv hP4
        obtain ⟨sm4, hD4⟩ := hP4.un
        rw [List.getElem?_map] at hv
        obtain ⟨z, hz, ev⟩ := Option.map_eq_some_iff.mp hv
        subst ev
        have hzb := hbb z (List.mem_of_mem_take (List.mem_of_getElem? hz))
        have hjl : j < (bs.take i).length := (List.getElem?_eq_some_iff.mp hz).1
        rw [List.length_take] at hjl
        have hsz : ((((bs.take i).take j).map fun z => decide (Int.gcd y z = 1)).map V.bl).length < sizeLine := szm (by rw [List.length_map, List.length_map, List.length_take]; omega)
        walk_at "ev"
        refine .mk ⟨same_mut sm4 hD, ?_⟩
        rw [upd_same, List.take_add_one, hz]
        simp only [List.map_append]
        rfl
      intro H4 hP4
      obtain ⟨sm4, hD4⟩ := hP4.un
      rw [List.length_map, List.take_length] at hD4
      have s14 := sm2.trans (sm3.trans sm4)
      refine ⟨D, _, rfl, SqL.of hD4, ?_⟩
      have eg : (((bs.take i).map fun z => decide (Int.gcd y z = 1)).all id = true) ↔ Good bs i := by
        unfold Good
        rw [eyi]
        rw [List.all_map, List.all_eq_true]
        simp only [Function.comp, id, decide_eq_true_eq]
      walk_at "ev"
      by_cases c : Good bs i
      · refine iteFe (by rw [eg.mpr c]; rfl) ?_
        refine .mk ⟨_, _, rfl, sm1.trans s14, fun j hj => ?_⟩
        by_cases e : j = i
        · rw [e]
          exact c
        · exact hg j (by omega)
      · have c1 : ((bs.take i).map fun z => decide (Int.gcd y z = 1)).all id = false := by
          cases z : ((bs.take i).map fun z => decide (Int.gcd y z = 1)).all id with
          | false => rfl
          | true => exact absurd (eg.mp z) c
        refine iteTe (by rw [c1]; rfl) ?_
        refine ⟨_, rfl, (by show 1 ≤ 1000; decide), mk_what R.ek fun d H' hd sm hq => ?_⟩
        exact qn i hil hg c d H' ⟨(sm1.trans s14).free hd, (sm1.trans s14).trans sm, hq⟩
    · intro σ H1 hP
      obtain ⟨s1, s2, rfl, sm1, hg⟩ := hP.un
      rw [List.length_map] at hg
      exact qy hg _ sm1
end
section
variable {P : Program} {w : World} {K : PySem.W.Frag} {mg : Str → Option Value} {base : Heap}
def spChkT (K : PySem.W.Frag) (C : Addr) : Sp := fun vs H Q E => ∃ (b : Addr) (bs : List Int), vs = [.ref b] ∧ SqT K H b (bs.map V.int) ∧ bs.length ≤ 1000 ∧ (∀ x ∈ bs, 0 ≤ x ∧ x ≤ 1000000) ∧
  ((∀ i < bs.length, Good bs i) → ∀ H', Same H H' → Q .non H') ∧ (∀ p < bs.length, (∀ i < p, Good bs i) → ¬ Good bs p → ∀ d H', Wh H H' d (.int p) → E (.ref C) (some d) H')
theorem ok_chkT {f f1 fI C CT : Addr} {fd d1 fdI : FuncData} {k : Nat} (F : Fun K "check_coprime" "check_coprime" s_check_coprime f fd) (T : Blt mg) (D_are_coprime : Df K mg "are_coprime" s_are_coprime P_are_coprime f1 d1) (x : XI K fI fdI)
    (R : Ref K CT C fI) (M_NotCoprime : mg "NotCoprime" = some (.ref C)) : FnOk P w K mg base (L2.CX P w) (k + 3) f fd P_check_coprime (spChkT K C) := by
  have G_init : FnOk P w K mg base CX0 1 fI fdI N_init (spInit K) := ok_init x.F
  have G_are_coprime : FnOk P w K mg base CX0 1 f1 d1 P_are_coprime spCop := ok_coprime D_are_coprime.F
  have I_ty := x.ty
  have I_b := x.b
  have EK_NotCoprime := R.ek
  have II_NotCoprime := R.ini
  have nd := sc_check_coprime.nd
  refine F.okX sc_check_coprime (fun vs H Q E h => ?_) (fun cdv A outer s H vs Q E hr h => ?_)
  · obtain ⟨b, bs, rfl, _⟩ := h
    rfl
  · obtain ⟨b, bs, rfl, hb, hlen, hbb, qy, qn⟩ := h
    refine ⟨_, (pss_one (ps_for (passes_of rfl) rfl (pi_enumT (by rfl) T.b_enumerate (pa_cons (pv 0) pa_nil)) (pg_tup (by rfl) (pgs_cons (pg_name (i := 1) nd rfl (Or.inl rfl)) (pgs_cons (pg_name (i := 2) nd rfl (Or.inr rfl)) pgs_nil)))
      (pss_one (ps_if (pt_not (pt_val (pe_callB (r := rAll K) (cr_all rfl) (by rfl) T.b_all (by decide +kernel) (pa_cons (pe_lc (own := [("ahead", 3)]) (g := gName 3) (by rfl) nd (pi_tup (pe_slice (r := rSlT K) sl_tup (pv 0) po_none (po_some (pv 1)))) (blkOk_by (own := [("ahead", 3)]) (N := N_check_coprime) (sc := defScope s_check_coprime) (by decide +kernel)) (fun _ _ _ _ _ => (pg_name (i := 3) nd rfl (Or.inl rfl))) (fun _ _ _ _ _ => pts_nil) (fun _ _ _ _ _ => (pe_call G_are_coprime (hr.mono (by omega)) (by rfl) D_are_coprime.g D_are_coprime.F.kp D_are_coprime.b .nil pass0 (pa_cons (pv 2) (pa_cons (pv 3) pa_nil))))) pa_nil)))) (pss_one (ps_raise rfl (takes_of rfl rfl rfl rfl) (pmk_oex EK_NotCoprime.oex II_NotCoprime I_ty G_init (hr.mono (by omega)) I_b .nil pass0 (by rfl) M_NotCoprime (pa_cons (pv 1) pa_nil)))) pss_nil)))), ?_⟩
    walk_at "ev"
    refine for_enumT (K := K) (a := b) (xs := bs.map V.int) (fun i σ H' => Hold (∃ s1 s2, σ = [some (.ref b), s1, s2, none] ∧ Same H H' ∧ ∀ j < i, Good bs j)) (.mk ⟨none, none, rfl, Same.refl _, fun j hj => absurd hj (Nat.not_lt_zero j)⟩) ?_ ?_ ?_
    · intro i σ H1 hP
      obtain ⟨s1, s2, rfl, sm1, hg⟩ := hP.un
      exact same_t sm1 hb
    · intro i v T' σ H1 hv hP hT
      obtain ⟨s1, s2, rfl, sm1, hg⟩ := hP.un
      rw [List.getElem?_map] at hv
      obtain ⟨y, hy, ev⟩ := Option.map_eq_some_iff.mp hv
      subst ev
      have hil : i < bs.length := (List.getElem?_eq_some_iff.mp hy).1
      have eyi : bs.getD i 0 = y := by rw [List.getD_eq_getElem?_getD, hy]; rfl
      have hyb := hbb y (List.mem_of_getElem? hy)
      generalize hG : upd _ T' _ = H2
      obtain ⟨sm2, hq2⟩ := newO hG hT
      clear hG
      have hT2 : SqT K H2 T' [.int (i : Nat), .int y] := SqT.of hq2
      have hb2 := same_t (sm1.trans sm2) hb
      have ecut : cutV (bs.map V.int) none (some (i : Int)) = (bs.take i).map V.int := by
        have e : cutV (bs.map V.int) none (some (i : Int)) = ((bs.map V.int).drop 0).take (HT.sIx (bs.map V.int).length (bs.map V.int).length (some (i : Int)) - 0) := rfl
        rw [e, List.drop_zero, List.map_take, sIx_nat (by rw [List.length_map]; omega)]
        rfl
      have hwh : ¬ (HT.sIx (bs.map V.int).length 0 none = 0 ∧ HT.sIx (bs.map V.int).length (bs.map V.int).length (some (i : Int)) = (bs.map V.int).length) := by
        rw [sIx_nat (by rw [List.length_map]; omega), List.length_map]
        omega
      walk_at "ev"
      w_cond _3
      rw [ecut] at hq3
      have hL3 := SqT.of (K := K) hq3
      refine ⟨l3, rfl, ⟨_, hL3⟩, fun D hD => ?_⟩
      refine lc_tup (K := K) (a := l3) (xs := (bs.take i).map V.int) (fun j H' => Hold (Same H3 H' ∧ H' D = some (.lst ((((bs.take i).take j).map fun z => decide (Int.gcd y z = 1)).map V.bl)))) (.mk ⟨same_new hD, upd_same⟩) ?_ ?_ ?_
      · intro j H4 hj hP4
        obtain ⟨sm4, hD4⟩ := hP4.un
        exact same_t sm4 hL3
      · intro j v H4 hv hP4
        obtain ⟨sm4, hD4⟩ := hP4.un
        rw [List.getElem?_map] at hv
        obtain ⟨z, hz, ev⟩ := Option.map_eq_some_iff.mp hv
        subst ev
        have hzb := hbb z (List.mem_of_mem_take (List.mem_of_getElem? hz))
        have hjl : j < (bs.take i).length := (List.getElem?_eq_some_iff.mp hz).1
        rw [List.length_take] at hjl
        have hsz : ((((bs.take i).take j).map fun z => decide (Int.gcd y z = 1)).map V.bl).length < sizeLine := szm (by rw [List.length_map, List.length_map, List.length_take]; omega)
        walk_at "ev"
        refine .mk ⟨same_mut sm4 hD, ?_⟩
        rw [upd_same, List.take_add_one, hz]
        simp only [List.map_append]
        rfl
      intro H4 hP4
      obtain ⟨sm4, hD4⟩ := hP4.un
      rw [List.length_map, List.take_length] at hD4
      have s14 := sm2.trans (sm3.trans sm4)
      refine ⟨D, _, rfl, SqL.of hD4, ?_⟩
      have eg : (((bs.take i).map fun z => decide (Int.gcd y z = 1)).all id = true) ↔ Good bs i := by
        unfold Good
        rw [eyi]
        rw [List.all_map, List.all_eq_true]
        simp only [Function.comp, id, decide_eq_true_eq]
      walk_at "ev"
      by_cases c : Good bs i
      · refine iteFe (by rw [eg.mpr c]; rfl) ?_
        refine .mk ⟨_, _, rfl, sm1.trans s14, fun j hj => ?_⟩
        by_cases e : j = i
        · rw [e]
          exact c
        · exact hg j (by omega)
      · have c1 : ((bs.take i).map fun z => decide (Int.gcd y z = 1)).all id = false := by
          cases z : ((bs.take i).map fun z => decide (Int.gcd y z = 1)).all id with
          | false => rfl
          | true => exact absurd (eg.mp z) c
        refine iteTe (by rw [c1]; rfl) ?_
        refine ⟨_, rfl, (by show 1 ≤ 1000; decide), mk_what R.ek fun d H' hd sm hq => ?_⟩
        exact qn i hil hg c d H' ⟨(sm1.trans s14).free hd, (sm1.trans s14).trans sm, hq⟩
    · intro σ H1 hP
      obtain ⟨s1, s2, rfl, sm1, hg⟩ := hP.un
      rw [List.length_map] at hg
      exact qy hg _ sm1
end
abbrev s_inverse : Stmt := top 7
abbrev N_inverse : List Str := ["number", "by", "high", "low", "high_share", "low_share", "times", "found"]
abbrev P_inverse : List Str := ["number", "by"]
theorem sc_inverse : FnScope N_inverse P_inverse (defScope s_inverse) := ⟨rfl, rfl, rfl, by decide +kernel, rfl, by decide +kernel, by decide +kernel⟩
def spInv (C : Addr) : Sp := fun vs H Q E => ∃ (n m : Int), vs = [.int n, .int m] ∧ 0 ≤ n ∧ 2 ≤ m ∧ m ≤ 1000000000 ∧ (Int.gcd n m = 1 → ∀ x, 0 ≤ x → x < m → n * x % m = 1 → ∀ H', Same H H' → Q (.int x) H') ∧
  (Int.gcd n m ≠ 1 → ∀ d H', H d = none → Same H H' → H' d = some (.xd [(("what" : Str), .int n)]) → E (.ref C) (some d) H')
theorem mod_of_sub {m u v : Int} (h : m ∣ u - v) : u % m = v % m := Int.emod_eq_emod_iff_emod_sub_eq_zero.mpr (Int.emod_eq_zero_of_dvd h)
section
variable {P : Program} {w : World} {K : PySem.W.Frag} {mg : Str → Option Value} {base : Heap}
theorem ok_inverse {f fI C CT : Addr} {fd fdI : FuncData} {k : Nat} (F : Fun K "inverse" "inverse" s_inverse f fd) (FI : Fun K "__init__" "TurnError.__init__" s_init fI fdI) (I_b : Binds K fdI N_init []) (I_ty : PySem.W.typeIn K (.ref fI) = some (.type "function"))
    (R : Ref K CT C fI) (M_NoInverse : mg "NoInverse" = some (.ref C)) : FnOk P w K mg base (L2.CX P w) (k + 3) f fd P_inverse (spInv C) := by
  have G_init : FnOk P w K mg base CX0 1 fI fdI N_init (spInit K) := ok_init FI
  have EK_NoInverse := R.ek
  have II_NoInverse := R.ini
  have nd := sc_inverse.nd
  refine F.okX sc_inverse (fun vs H Q E h => ?_) (fun cdv A outer s H vs Q E hr h => ?_)
  · obtain ⟨n, m, rfl, _⟩ := h
    rfl
  · obtain ⟨n, m, rfl, n0, m2, m9, qy, qn⟩ := h
    refine ⟨_, (pss_cons (ps_par (i := 2) (j := 3) (by rfl) nd rfl rfl (by decide) rfl rfl (pa_cons (pv 1) (pa_cons (pe_op op_mod (pv 0) (pv 1)) pa_nil)) (by rfl))
      (pss_cons (ps_asg (pe_tup (pa_cons (pe_int) (pa_cons (pe_int) pa_nil))) (pg_tup (by rfl) (pgs_cons (pg_name (i := 4) nd rfl (Or.inl rfl)) (pgs_cons (pg_name (i := 5) nd rfl (Or.inl rfl)) pgs_nil))))
      (pss_cons (ps_while (passes_of rfl) (pt_cmpR op_ne (pv 3) (pe_int) (nomark _))
      (pss_cons (ps_set (i := 6) nd rfl (Or.inl rfl) (pe_op op_fdiv (pv 2) (pv 3)))
      (pss_cons (ps_par (i := 2) (j := 3) (by rfl) nd rfl rfl (by decide) rfl rfl (pa_cons (pv 3) (pa_cons (pe_op op_sub (pv 2) (pe_op op_mul (pv 6) (pv 3))) pa_nil)) (by rfl))
      (pss_one (ps_par (i := 4) (j := 5) (by rfl) nd rfl rfl (by decide) rfl rfl (pa_cons (pv 5) (pa_cons (pe_op op_sub (pv 4) (pe_op op_mul (pv 6) (pv 5))) pa_nil)) (by rfl))))))
      (pss_cons (ps_set (i := 7) nd rfl (Or.inl rfl) (pe_op op_mod (pv 4) (pv 1)))
      (pss_cons (ps_if (pt_cmpR op_ne (pe_op op_mod (pe_op op_mul (pv 0) (pv 7)) (pv 1)) (pe_int) (nomark _)) (pss_one (ps_raise rfl (takes_of rfl rfl rfl rfl) (pmk_oex EK_NoInverse.oex II_NoInverse I_ty G_init (hr.mono (by omega)) I_b .nil pass0 (by rfl) M_NoInverse (pa_cons (pv 0) pa_nil)))) pss_nil)
      (pss_one (ps_ret (pv 7)))))))), ?_⟩
    walk_at "ev"
    have l0 := Int.emod_nonneg n (show m ≠ 0 by omega)
    have l1 := Int.emod_lt_of_pos n (show 0 < m by omega)
    have ls : m ∣ n * 1 - n % m := by
      rw [Int.mul_one]
      have := Int.emod_add_mul_ediv n m
      exact ⟨n / m, by omega⟩
    intro tp hp
    generalize hG : upd _ tp _ = H1
    obtain ⟨sm1, hq1⟩ := newO hG hp
    have hT1 : SqT K H1 tp [.int 0, .int 1] := SqT.of hq1
    clear hG hq1
    walk_at "ev"
    refine ⟨fun z σ H' => H' = H1 ∧ ∃ (hi lo hs lo' : Int) (s6 : Option V), σ = [some (.int n), some (.int m), some (.int hi), some (.int lo), some (.int hs), some (.int lo'), s6, none] ∧ z = lo.toNat ∧ 0 ≤ hi ∧ hi ≤ m ∧ 0 ≤ lo ∧ lo ≤ m ∧ Int.gcd hi lo = Int.gcd m (n % m) ∧ m ∣ n * hs - hi ∧ m ∣ n * lo' - lo,
      ⟨_, rfl, m, n % m, 0, 1, none, rfl, rfl, by omega, by omega, l0, by omega, rfl, by rw [Int.mul_zero, Int.zero_sub]; exact Int.dvd_neg.mpr (Int.dvd_refl m), ls⟩, ?_⟩
    rintro z σ H' ⟨rfl, hi, lo, hs, lo', s6, rfl, rfl, h0, h1, g0, g1, hg, d1, d2⟩
    walk_at "ev"
    by_cases c : lo = 0
    · subst c
      refine iteFe (by simp) ?_
      have hgc : hi = ((Int.gcd n m : Nat) : Int) := by
        rw [gcd_step n0 (by omega), Int.gcd_zero_right] at hg
        omega
      have r0 := Int.emod_nonneg hs (show m ≠ 0 by omega)
      have r1 := Int.emod_lt_of_pos hs (show 0 < m by omega)
      have ep : n * (hs % m) % m = hi % m := by
        rw [Int.mul_emod, Int.emod_emod_of_dvd _ (Int.dvd_refl m), ← Int.mul_emod]
        exact mod_of_sub d1
      have cm : CMul n (hs % m) := .inr ⟨by omega, by omega⟩
      walk_at "ev"
      by_cases e : Int.gcd n m = 1
      · have e1 : n * (hs % m) % m = 1 := by
          rw [ep, hgc, e]
          exact Int.emod_eq_of_lt (by decide) (by show (1 : Int) < m; omega)
        refine iteFe (by simp [e1]) ?_
        walk_at "ev"
        exact qy e _ r0 r1 e1 _ sm1
      · have e1 : ¬ n * (hs % m) % m = 1 := fun z => e (gcd_of_inv z)
        refine iteTe (by simp [e1]) ?_
        refine ⟨_, rfl, (by show 1 ≤ 1000; decide), mk_what R.ek fun d H' hd sm hq => ?_⟩
        exact qn e d H' (sm1.free hd) (sm1.trans sm) hq
    · refine iteTe (by simp [c]) ?_
      refine ⟨_, holdN, ?_⟩
      have t0 : 0 ≤ hi / lo := Int.ediv_nonneg h0 g0
      have t1 : hi / lo ≤ hi := Int.ediv_le_self _ h0
      have cm1 : CMul (hi / lo) lo := .inl ⟨by omega, by omega⟩
      have cm2 : CMul (hi / lo) lo' := .inl ⟨by omega, by omega⟩
      have cd : CDiv hi lo := ⟨by omega, by omega⟩
      walk_at "ev"
      have em : hi - hi / lo * lo = hi % lo := by
        have := Int.emod_add_mul_ediv hi lo
        rw [Int.mul_comm lo] at this
        omega
      have u0 := Int.emod_nonneg hi c
      have u1 := Int.emod_lt_of_pos hi (show 0 < lo by omega)
      refine .mk ⟨(hi - hi / lo * lo).toNat, by omega, rfl, lo, hi - hi / lo * lo, lo', hs - hi / lo * lo', _, rfl, rfl, g0, g1, by omega, by omega, ?_, d2, ?_⟩
      · rw [em, gcd_step h0 g0]
        exact hg
      · have : n * (hs - hi / lo * lo') - (hi - hi / lo * lo) = (n * hs - hi) - hi / lo * (n * lo' - lo) := by
          rw [Int.mul_sub, Int.mul_sub, ← Int.mul_assoc, ← Int.mul_assoc, Int.mul_comm n (hi / lo)]
          omega
        rw [this]
        exact Int.dvd_sub d1 (Int.dvd_mul_of_dvd_right d2)
end
/-! ### rests joined -/
def prd (ns : List Int) : Int := ns.foldl (· * ·) 1
theorem prd_take {bs : List Int} {i : Nat} {y : Int} (h : bs[i]? = some y) : prd (bs.take (i + 1)) = prd (bs.take i) * y := by
  unfold prd
  rw [List.take_add_one, h, List.foldl_append]
  rfl
theorem fold_from : ∀ (ns : List Int) (a : Int), ns.foldl (· * ·) a = a * prd ns
  | [], a => by simp [prd]
  | x :: r, a => by
    rw [List.foldl_cons, fold_from r, show prd (x :: r) = (x :: r).foldl (· * ·) 1 from rfl, List.foldl_cons, fold_from r (1 * x), Int.one_mul, Int.mul_assoc]
theorem prd_cons (x : Int) (r : List Int) : prd (x :: r) = x * prd r := by
  rw [prd, List.foldl_cons, fold_from, Int.one_mul]
theorem prd_pos : ∀ {ns : List Int}, (∀ x ∈ ns, 1 ≤ x) → 0 < prd ns
  | [], _ => by decide
  | x :: r, h => by
    rw [prd_cons]
    exact Int.mul_pos (by have := h x List.mem_cons_self; omega) (prd_pos fun y hy => h y (List.mem_cons_of_mem _ hy))
theorem prd_dvd : ∀ {ns : List Int} {x : Int}, x ∈ ns → x ∣ prd ns
  | y :: r, x, h => by
    rw [prd_cons]
    rcases List.mem_cons.mp h with e | h
    · rw [e]
      exact Int.dvd_mul_right _ _
    · exact Int.dvd_mul_of_dvd_right (prd_dvd h)
theorem gcd_mul {a b y : Int} (h : Int.gcd y a = 1) (k : Int.gcd y b = 1) : Int.gcd (a * b) y = 1 := by
  have : Nat.Coprime y.natAbs (a * b).natAbs := by
    rw [Int.natAbs_mul]
    exact Nat.Coprime.mul_right h k
  exact this.symm
theorem gcd_prd : ∀ {ns : List Int} {y : Int}, (∀ x ∈ ns, Int.gcd y x = 1) → Int.gcd (prd ns) y = 1
  | [], y, _ => by
    show Int.gcd 1 y = 1
    simp
  | x :: r, y, h => by
    rw [prd_cons]
    refine gcd_mul (h x List.mem_cons_self) ?_
    rw [Int.gcd_comm]
    exact gcd_prd fun z hz => h z (List.mem_cons_of_mem _ hz)
/-- r has the first i rests -/
structure Crt (rs bs : List Int) (i : Nat) (r : Int) : Prop where
  lo : 0 ≤ r
  hi : r < prd (bs.take i)
  at_ : ∀ j < i, r % bs.getD j 0 = rs.getD j 0
theorem Crt.zero {rs bs : List Int} : Crt rs bs 0 0 := ⟨by decide, by show (0 : Int) < 1; decide, fun j hj => absurd hj (Nat.not_lt_zero j)⟩
theorem Crt.skip {rs bs : List Int} {i : Nat} {r y q : Int} (h : Crt rs bs i r) (hy : bs[i]? = some y) (hq : rs[i]? = some q) (e : y = 1) (e2 : q = 0) : Crt rs bs (i + 1) r := by
  have eyi : bs.getD i 0 = y := by rw [List.getD_eq_getElem?_getD, hy]; rfl
  have eqi : rs.getD i 0 = q := by rw [List.getD_eq_getElem?_getD, hq]; rfl
  refine ⟨h.lo, ?_, fun j hj => ?_⟩
  · rw [prd_take hy, e, Int.mul_one]
    exact h.hi
  · by_cases c : j = i
    · rw [c, eyi, eqi, e, e2, Int.emod_one]
    · exact h.at_ j (by omega)
theorem Crt.step {rs bs : List Int} {i : Nat} {r y q p z : Int} (h : Crt rs bs i r) (hy : bs[i]? = some y) (hq : rs[i]? = some q) (hp : p = prd (bs.take i)) (q0 : 0 ≤ q) (q1 : q < y) (hz : p * z % y = 1) (z0 : 0 ≤ z) (p0 : 0 ≤ p) (pos : ∀ x ∈ bs.take i, 1 ≤ x) : Crt rs bs (i + 1) (r + p * ((q - r) * z % y)) := by
  have eyi : bs.getD i 0 = y := by rw [List.getD_eq_getElem?_getD, hy]; rfl
  have eqi : rs.getD i 0 = q := by rw [List.getD_eq_getElem?_getD, hq]; rfl
  have w0 := Int.emod_nonneg ((q - r) * z) (show y ≠ 0 by omega)
  have w1 := Int.emod_lt_of_pos ((q - r) * z) (show 0 < y by omega)
  have hil : i < bs.length := (List.getElem?_eq_some_iff.mp hy).1
  refine ⟨Int.add_nonneg h.lo (Int.mul_nonneg p0 w0), ?_, fun j hj => ?_⟩
  · rw [prd_take hy, ← hp]
    have h1 : p * ((q - r) * z % y) ≤ p * (y - 1) := Int.mul_le_mul_of_nonneg_left (by omega) p0
    have h2 := h.hi
    rw [← hp] at h2
    rw [Int.mul_sub, Int.mul_one] at h1
    omega
  · by_cases c : j = i
    · rw [c, eyi, eqi]
      have e1 : (r + p * ((q - r) * z % y)) % y = q % y := by
        refine mod_of_sub ?_
        have d1 : y ∣ p * z - 1 := by
          have := Int.emod_add_mul_ediv (p * z) y
          exact ⟨p * z / y, by omega⟩
        have d2 : y ∣ (q - r) * z - (q - r) * z % y := by
          have := Int.emod_add_mul_ediv ((q - r) * z) y
          exact ⟨(q - r) * z / y, by omega⟩
        have e : r + p * ((q - r) * z % y) - q = (q - r) * (p * z - 1) - p * ((q - r) * z - (q - r) * z % y) := by
          rw [Int.mul_sub, Int.mul_sub, Int.mul_one]
          have : (q - r) * (p * z) = p * ((q - r) * z) := by rw [← Int.mul_assoc, ← Int.mul_assoc, Int.mul_comm (q - r) p]
          omega
        rw [e]
        exact Int.dvd_sub (Int.dvd_mul_of_dvd_right d1) (Int.dvd_mul_of_dvd_right d2)
      rw [e1, Int.emod_eq_of_lt q0 q1]
    · have hj' : j < i := by omega
      have hm : bs.getD j 0 ∈ bs.take i := by
        rw [List.getD_eq_getElem?_getD, List.getElem?_eq_getElem (by omega)]
        exact List.mem_take_iff_getElem.mpr ⟨j, by omega, rfl⟩
      have d : bs.getD j 0 ∣ p := by
        rw [hp]
        exact prd_dvd hm
      rw [← h.at_ j hj']
      refine mod_of_sub ?_
      rw [show r + p * ((q - r) * z % y) - r = p * ((q - r) * z % y) by omega]
      exact Int.dvd_mul_of_dvd_left d
abbrev s_joined : Stmt := top 9
abbrev N_joined : List Str := ["rests", "bys", "told", "product", "rest", "by"]
abbrev P_joined : List Str := ["rests", "bys"]
theorem sc_joined : FnScope N_joined P_joined (defScope s_joined) := ⟨rfl, rfl, rfl, by decide +kernel, rfl, by decide +kernel, by decide +kernel⟩
section
variable {P : Program} {w : World} {K : PySem.W.Frag} {mg : Str → Option Value} {base : Heap}
def spJoinL (K : PySem.W.Frag) (C : Addr) : Sp := fun vs H Q E => ∃ (a b : Addr) (rs bs : List Int), vs = [.ref a, .ref b] ∧ SqL K H a (rs.map V.int) ∧ SqL K H b (bs.map V.int) ∧ rs.length = bs.length ∧ bs.length ≤ 1000 ∧ (∀ x ∈ bs, 1 ≤ x ∧ x ≤ 1000000) ∧ (∀ i < bs.length, 0 ≤ rs.getD i 0 ∧ rs.getD i 0 < bs.getD i 0) ∧
  ((∀ i < bs.length, Good bs i) → ∀ r H', Crt rs bs bs.length r → Same H H' → Q (.int r) H') ∧ (∀ p < bs.length, (∀ i < p, Good bs i) → ¬ Good bs p → ∀ d H', Wh H H' d (.int p) → E (.ref C) (some d) H')
theorem ok_joinL {f f1 f2 f3 fI C CI CT : Addr} {fd d1 d2 d3 fdI : FuncData} {k : Nat} (F : Fun K "joined" "joined" s_joined f fd) (T : Blt mg) (D_are_coprime : Df K mg "are_coprime" s_are_coprime P_are_coprime f1 d1) (D_check_coprime : Df K mg "check_coprime" s_check_coprime P_check_coprime f2 d2) (D_inverse : Df K mg "inverse" s_inverse P_inverse f3 d3) (x : XI K fI fdI)
    (R : Ref K CT C fI) (M_NotCoprime : mg "NotCoprime" = some (.ref C)) (RI : Ref K CT CI fI) (M_NoInverse : mg "NoInverse" = some (.ref CI)) : FnOk P w K mg base (L2.CX P w) (k + 4) f fd P_joined (spJoinL K C) := by
  have G_check_coprime : FnOk P w K mg base (L2.CX P w) 3 f2 d2 P_check_coprime (spChkL K C) := ok_chkL (k := 0) D_check_coprime.F T D_are_coprime x R M_NotCoprime
  have G_inverse : FnOk P w K mg base (L2.CX P w) 3 f3 d3 P_inverse (spInv CI) := ok_inverse (k := 0) D_inverse.F x.F x.b x.ty RI M_NoInverse
  have nd := sc_joined.nd
  refine F.okX sc_joined (fun vs H Q E h => ?_) (fun cdv A outer s H vs Q E hr h => ?_)
  · obtain ⟨a, b, rs, bs, rfl, _⟩ := h
    rfl
  · obtain ⟨a, b, rs, bs, rfl, ha, hb, hll, hlen, hbb, hrb, qy, qn⟩ := h
    refine ⟨_, (pss_cons (ps_expr (pe_call G_check_coprime (hr.mono (by omega)) (by rfl) D_check_coprime.g D_check_coprime.F.kp D_check_coprime.b .nil (passes_call (takes_of rfl rfl rfl rfl) (fun _ _ _ _ h => h)) (pa_cons (pv 1) pa_nil)))
      (pss_cons (ps_set (i := 2) nd rfl (Or.inl rfl) (pe_int))
      (pss_cons (ps_set (i := 3) nd rfl (Or.inl rfl) (pe_int))
      (pss_cons (ps_for (passes_of rfl) rfl (RZ.pi_zipA (by rfl) T.b_zip (pa_cons (pv 0) (pa_cons (pv 1) pa_nil))) (pg_tup (by rfl) (pgs_cons (pg_name (i := 4) nd rfl (Or.inl rfl)) (pgs_cons (pg_name (i := 5) nd rfl (Or.inl rfl)) pgs_nil)))
      (pss_one (ps_if (pt_cmpR op_gt (pv 5) (pe_int) (nomark _)) (pss_cons (ps_aug (i := 2) nd rfl (Or.inl rfl) (pe_op op_mul (pv 3) (pe_op op_mod (pe_op op_mul (pe_op op_sub (pv 4) (pv 2)) (pe_call G_inverse (hr.mono (by omega)) (by rfl) D_inverse.g D_inverse.F.kp D_inverse.b .nil (passes_call (takes_of rfl rfl rfl rfl) (fun _ _ _ _ h => h)) (pa_cons (pv 3) (pa_cons (pv 5) pa_nil)))) (pv 5))) ip_add)
      (pss_one (ps_aug (i := 3) nd rfl (Or.inl rfl) (pv 5) ip_mul))) pss_nil)))
      (pss_one (ps_ret (pv 2))))))), ?_⟩
    have hbb0 : ∀ x ∈ bs, 0 ≤ x ∧ x ≤ 1000000 := fun x hx => by
      have := hbb x hx
      omega
    walk_at "ev"
    refine ⟨fun hgd H1 sm1 => ?_, qn⟩
    have ha1 := Same.seq sm1 ha
    have hb1 := Same.seq sm1 hb
    walk_at "ev"
    refine .inl ⟨ha1, hb1, ?_⟩
    refine RZ.for_zipL (K := K) (a := a) (b := b) (xs := rs.map V.int) (ys := bs.map V.int) (by rw [List.length_map, List.length_map]; exact hll) (fun i σ H' => Hold (∃ (r p : Int) (s4 s5 : Option V), σ = [some (.ref a), some (.ref b), some (.int r), some (.int p), s4, s5] ∧ Same H H' ∧ Crt rs bs i r ∧ p = prd (bs.take i))) (.mk ⟨0, 1, none, none, rfl, sm1, Crt.zero, rfl⟩) ?_ ?_ ?_
    · intro i σ H2 hP
      obtain ⟨r, p, s4, s5, rfl, sm2, hcr, hp⟩ := hP.un
      exact ⟨Same.seq sm2 ha, Same.seq sm2 hb⟩
    · intro i u v T' σ H2 hu hv hP hT
      obtain ⟨r, p, s4, s5, rfl, sm2, hcr, hp⟩ := hP.un
      rw [List.getElem?_map] at hu hv
      obtain ⟨y, hy, ev⟩ := Option.map_eq_some_iff.mp hv
      subst ev
      obtain ⟨q, hq, ev⟩ := Option.map_eq_some_iff.mp hu
      subst ev
      have hil : i < bs.length := (List.getElem?_eq_some_iff.mp hy).1
      have eyi : bs.getD i 0 = y := by rw [List.getD_eq_getElem?_getD, hy]; rfl
      have eqi : rs.getD i 0 = q := by rw [List.getD_eq_getElem?_getD, hq]; rfl
      have hyb := hbb y (List.mem_of_getElem? hy)
      have hqb := hrb i hil
      rw [eyi, eqi] at hqb
      have hp0 : 0 < p := by
        rw [hp]
        exact prd_pos fun x hx => (hbb x (List.mem_of_mem_take hx)).1
      generalize hG : upd _ T' _ = H3
      obtain ⟨sm3, hq3⟩ := newO hG hT
      clear hG
      have hT3 : SqT K H3 T' [.int q, .int y] := SqT.of hq3
      have ep : prd (bs.take (i + 1)) = p * y := by
        rw [prd_take hy, hp]
      walk_at "ev"
      refine ite2 (fun c => ?_) (fun c => ?_)
      · have c1 : 1 < y := of_decide_eq_true c
        have y2 : 2 ≤ y := by omega
        have y9 : y ≤ 1000000000 := by omega
        have hp0' : 0 ≤ p := by omega
        have gpy : Int.gcd p y = 1 := by
          rw [hp]
          exact gcd_prd (fun x hx => by rw [← eyi]; exact hgd i hil x hx)
        walk_at "ev"
        refine ⟨fun _ z z0 z1 hz H4 sm4 => ?_, fun e => absurd gpy e⟩
        have cm1 : CMul (q - r) z := .inr ⟨by omega, by omega⟩
        have w0 := Int.emod_nonneg ((q - r) * z) (show y ≠ 0 by omega)
        have w1 := Int.emod_lt_of_pos ((q - r) * z) (show 0 < y by omega)
        have cm2 : CMul p ((q - r) * z % y) := .inr ⟨by omega, by omega⟩
        have cm3 : CMul p y := .inr ⟨by omega, by omega⟩
        walk_at "ev"
        refine .mk ⟨_, _, _, _, rfl, sm2.trans (sm3.trans sm4), ?_, ep.symm⟩
        exact hcr.step hy hq hp hqb.1 hqb.2 hz z0 (by omega) (fun x hx => (hbb x (List.mem_of_mem_take hx)).1)
      · have c1 : y = 1 := by
          have : ¬ 1 < y := fun z => c (decide_eq_true z)
          omega
        walk_at "ev"
        refine .mk ⟨_, _, _, _, rfl, sm2.trans sm3, ?_, ?_⟩
        · exact hcr.skip hy hq c1 (by omega)
        · rw [ep, c1, Int.mul_one]
    · intro σ H2 hP
      obtain ⟨r, p, s4, s5, rfl, sm2, hcr, hp⟩ := hP.un
      rw [List.length_map, hll] at hcr
      walk_at "ev"
      exact qy hgd r H2 hcr sm2
end
section
variable {P : Program} {w : World} {K : PySem.W.Frag} {mg : Str → Option Value} {base : Heap}
def spJoinT (K : PySem.W.Frag) (C : Addr) : Sp := fun vs H Q E => ∃ (a b : Addr) (rs bs : List Int), vs = [.ref a, .ref b] ∧ SqT K H a (rs.map V.int) ∧ SqT K H b (bs.map V.int) ∧ rs.length = bs.length ∧ bs.length ≤ 1000 ∧ (∀ x ∈ bs, 1 ≤ x ∧ x ≤ 1000000) ∧ (∀ i < bs.length, 0 ≤ rs.getD i 0 ∧ rs.getD i 0 < bs.getD i 0) ∧
  ((∀ i < bs.length, Good bs i) → ∀ r H', Crt rs bs bs.length r → Same H H' → Q (.int r) H') ∧ (∀ p < bs.length, (∀ i < p, Good bs i) → ¬ Good bs p → ∀ d H', Wh H H' d (.int p) → E (.ref C) (some d) H')
theorem ok_joinT {f f1 f2 f3 fI C CI CT : Addr} {fd d1 d2 d3 fdI : FuncData} {k : Nat} (F : Fun K "joined" "joined" s_joined f fd) (T : Blt mg) (D_are_coprime : Df K mg "are_coprime" s_are_coprime P_are_coprime f1 d1) (D_check_coprime : Df K mg "check_coprime" s_check_coprime P_check_coprime f2 d2) (D_inverse : Df K mg "inverse" s_inverse P_inverse f3 d3) (x : XI K fI fdI)
    (R : Ref K CT C fI) (M_NotCoprime : mg "NotCoprime" = some (.ref C)) (RI : Ref K CT CI fI) (M_NoInverse : mg "NoInverse" = some (.ref CI)) : FnOk P w K mg base (L2.CX P w) (k + 4) f fd P_joined (spJoinT K C) := by
  have G_check_coprime : FnOk P w K mg base (L2.CX P w) 3 f2 d2 P_check_coprime (spChkT K C) := ok_chkT (k := 0) D_check_coprime.F T D_are_coprime x R M_NotCoprime
  have G_inverse : FnOk P w K mg base (L2.CX P w) 3 f3 d3 P_inverse (spInv CI) := ok_inverse (k := 0) D_inverse.F x.F x.b x.ty RI M_NoInverse
  have nd := sc_joined.nd
  refine F.okX sc_joined (fun vs H Q E h => ?_) (fun cdv A outer s H vs Q E hr h => ?_)
  · obtain ⟨a, b, rs, bs, rfl, _⟩ := h
    rfl
  · obtain ⟨a, b, rs, bs, rfl, ha, hb, hll, hlen, hbb, hrb, qy, qn⟩ := h
    refine ⟨_, (pss_cons (ps_expr (pe_call G_check_coprime (hr.mono (by omega)) (by rfl) D_check_coprime.g D_check_coprime.F.kp D_check_coprime.b .nil (passes_call (takes_of rfl rfl rfl rfl) (fun _ _ _ _ h => h)) (pa_cons (pv 1) pa_nil)))
      (pss_cons (ps_set (i := 2) nd rfl (Or.inl rfl) (pe_int))
      (pss_cons (ps_set (i := 3) nd rfl (Or.inl rfl) (pe_int))
      (pss_cons (ps_for (passes_of rfl) rfl (RZ.pi_zipA (by rfl) T.b_zip (pa_cons (pv 0) (pa_cons (pv 1) pa_nil))) (pg_tup (by rfl) (pgs_cons (pg_name (i := 4) nd rfl (Or.inl rfl)) (pgs_cons (pg_name (i := 5) nd rfl (Or.inl rfl)) pgs_nil)))
      (pss_one (ps_if (pt_cmpR op_gt (pv 5) (pe_int) (nomark _)) (pss_cons (ps_aug (i := 2) nd rfl (Or.inl rfl) (pe_op op_mul (pv 3) (pe_op op_mod (pe_op op_mul (pe_op op_sub (pv 4) (pv 2)) (pe_call G_inverse (hr.mono (by omega)) (by rfl) D_inverse.g D_inverse.F.kp D_inverse.b .nil (passes_call (takes_of rfl rfl rfl rfl) (fun _ _ _ _ h => h)) (pa_cons (pv 3) (pa_cons (pv 5) pa_nil)))) (pv 5))) ip_add)
      (pss_one (ps_aug (i := 3) nd rfl (Or.inl rfl) (pv 5) ip_mul))) pss_nil)))
      (pss_one (ps_ret (pv 2))))))), ?_⟩
    have hbb0 : ∀ x ∈ bs, 0 ≤ x ∧ x ≤ 1000000 := fun x hx => by
      have := hbb x hx
      omega
    walk_at "ev"
    refine ⟨fun hgd H1 sm1 => ?_, qn⟩
    have ha1 := same_t sm1 ha
    have hb1 := same_t sm1 hb
    walk_at "ev"
    refine .inr ⟨ha1, hb1, ?_⟩
    refine RZ.for_zipT (K := K) (a := a) (b := b) (xs := rs.map V.int) (ys := bs.map V.int) (by rw [List.length_map, List.length_map]; exact hll) (fun i σ H' => Hold (∃ (r p : Int) (s4 s5 : Option V), σ = [some (.ref a), some (.ref b), some (.int r), some (.int p), s4, s5] ∧ Same H H' ∧ Crt rs bs i r ∧ p = prd (bs.take i))) (.mk ⟨0, 1, none, none, rfl, sm1, Crt.zero, rfl⟩) ?_ ?_ ?_
    · intro i σ H2 hP
      obtain ⟨r, p, s4, s5, rfl, sm2, hcr, hp⟩ := hP.un
      exact ⟨same_t sm2 ha, same_t sm2 hb⟩
    · intro i u v T' σ H2 hu hv hP hT
      obtain ⟨r, p, s4, s5, rfl, sm2, hcr, hp⟩ := hP.un
      rw [List.getElem?_map] at hu hv
      obtain ⟨y, hy, ev⟩ := Option.map_eq_some_iff.mp hv
      subst ev
      obtain ⟨q, hq, ev⟩ := Option.map_eq_some_iff.mp hu
      subst ev
      have hil : i < bs.length := (List.getElem?_eq_some_iff.mp hy).1
      have eyi : bs.getD i 0 = y := by rw [List.getD_eq_getElem?_getD, hy]; rfl
      have eqi : rs.getD i 0 = q := by rw [List.getD_eq_getElem?_getD, hq]; rfl
      have hyb := hbb y (List.mem_of_getElem? hy)
      have hqb := hrb i hil
      rw [eyi, eqi] at hqb
      have hp0 : 0 < p := by
        rw [hp]
        exact prd_pos fun x hx => (hbb x (List.mem_of_mem_take hx)).1
      generalize hG : upd _ T' _ = H3
      obtain ⟨sm3, hq3⟩ := newO hG hT
      clear hG
      have hT3 : SqT K H3 T' [.int q, .int y] := SqT.of hq3
      have ep : prd (bs.take (i + 1)) = p * y := by
        rw [prd_take hy, hp]
      walk_at "ev"
      refine ite2 (fun c => ?_) (fun c => ?_)
      · have c1 : 1 < y := of_decide_eq_true c
        have y2 : 2 ≤ y := by omega
        have y9 : y ≤ 1000000000 := by omega
        have hp0' : 0 ≤ p := by omega
        have gpy : Int.gcd p y = 1 := by
          rw [hp]
          exact gcd_prd (fun x hx => by rw [← eyi]; exact hgd i hil x hx)
        walk_at "ev"
        refine ⟨fun _ z z0 z1 hz H4 sm4 => ?_, fun e => absurd gpy e⟩
        have cm1 : CMul (q - r) z := .inr ⟨by omega, by omega⟩
        have w0 := Int.emod_nonneg ((q - r) * z) (show y ≠ 0 by omega)
        have w1 := Int.emod_lt_of_pos ((q - r) * z) (show 0 < y by omega)
        have cm2 : CMul p ((q - r) * z % y) := .inr ⟨by omega, by omega⟩
        have cm3 : CMul p y := .inr ⟨by omega, by omega⟩
        walk_at "ev"
        refine .mk ⟨_, _, _, _, rfl, sm2.trans (sm3.trans sm4), ?_, ep.symm⟩
        exact hcr.step hy hq hp hqb.1 hqb.2 hz z0 (by omega) (fun x hx => (hbb x (List.mem_of_mem_take hx)).1)
      · have c1 : y = 1 := by
          have : ¬ 1 < y := fun z => c (decide_eq_true z)
          omega
        walk_at "ev"
        refine .mk ⟨_, _, _, _, rfl, sm2.trans sm3, ?_, ?_⟩
        · exact hcr.skip hy hq c1 (by omega)
        · rw [ep, c1, Int.mul_one]
    · intro σ H2 hP
      obtain ⟨r, p, s4, s5, rfl, sm2, hcr, hp⟩ := hP.un
      rw [List.length_map, hll] at hcr
      walk_at "ev"
      exact qy hgd r H2 hcr sm2
end
local macro_rules | `(tactic| walk_at "ev1") => `(tactic| ((first | with_reducible show ClsV _ _ | with_reducible show Paired ClsV _ _); first | exact ClsV.own _ | exact ClsV.ty _ | exact .cons (.own _) (.cons (.own _) .nil) | exact .cons (.own _) (.cons (.own _) (.cons (.own _) .nil))))
abbrev s__law_told : Stmt := top 16
abbrev N__law_told : List Str := ["_law_rests", "_law_bys_here", "_law_found", "_law_caught", "error"]
abbrev P__law_told : List Str := ["_law_rests", "_law_bys_here"]
theorem sc__law_told : FnScope N__law_told P__law_told (defScope s__law_told) := ⟨rfl, rfl, rfl, by decide +kernel, rfl, by decide +kernel, by decide +kernel⟩
section
variable {P : Program} {w : World} {K : PySem.W.Frag} {mg : Str → Option Value} {base : Heap}
def spToldL (K : PySem.W.Frag) : Sp := fun vs H Q _ => ∃ (a b : Addr) (rs bs : List Int), vs = [.ref a, .ref b] ∧ SqL K H a (rs.map V.int) ∧ SqL K H b (bs.map V.int) ∧ rs.length = bs.length ∧ bs.length ≤ 1000 ∧ (∀ x ∈ bs, 1 ≤ x ∧ x ≤ 1000000) ∧ (∀ i < bs.length, 0 ≤ rs.getD i 0 ∧ rs.getD i 0 < bs.getD i 0) ∧
  ((∀ i < bs.length, Good bs i) → ∀ r H', Crt rs bs bs.length r → Same H H' → Q (.int r) H') ∧ (∀ p < bs.length, (∀ i < p, Good bs i) → ¬ Good bs p → ∀ t H', Same H H' → H' t = some (.tup [.str "place", .int p]) → Q (.ref t) H')
theorem ok_toldL {f f1 fI C CI CR CT : Addr} {fd d1 : FuncData} {k : Nat} (F : Fun K "_law_told" "_law_told" s__law_told f fd) (T : Blt mg) (D_joined : Df K mg "joined" s_joined P_joined f1 d1) (G_joined : FnOk P w K mg base (L2.CX P w) 4 f1 d1 P_joined (spJoinL K C))
    (R : Ref K CT C fI) (M_NotCoprime : mg "NotCoprime" = some (.ref C)) (M_NoInverse : mg "NoInverse" = some (.ref CI)) (M_NoRoot : mg "NoRoot" = some (.ref CR)) (M_TurnError : mg "TurnError" = some (.ref CT)) (k1 : PySem.W.kitOne K (.ref C) (.ref C) = some true) (k2 : PySem.W.kitAny K (.ref C) [.ref CI, .ref CR] = some false) : FnOk P w K mg base CX0 (k + 5) f fd P__law_told (spToldL K) := by
  have nd := sc__law_told.nd
  refine F.ok sc__law_told (fun vs H Q E h => ?_) (fun cdv A outer s H vs Q E hr h => ?_)
  · obtain ⟨a, b, rs, bs, rfl, _⟩ := h
    rfl
  · obtain ⟨a, b, rs, bs, rfl, ha, hb, hll, hlen, hbb, hrb, qy, qn⟩ := h
    refine ⟨_, (pss_cons (ps_asg (pe_tup (pa_cons (pe_non) (pa_cons (pe_non) pa_nil))) (pg_tup (by rfl) (pgs_cons (pg_name (i := 2) nd rfl (Or.inl rfl)) (pgs_cons (pg_name (i := 3) nd rfl (Or.inl rfl)) pgs_nil))))
      (pss_cons (ps_try_keep (i := 4) (Wout := fun _ _ _ _ => False) rfl rfl rfl nd rfl rfl ⟨by rfl, by decide, Or.inl M_TurnError⟩ takes0 (fun W pn xe tk _ => (pss_one (ps_set (i := 2) nd rfl (Or.inl rfl) (pe_callS G_joined (hr.mono (by omega)) (by rfl) D_joined.g D_joined.F.kp D_joined.b (fun σ => passAt tk σ) (pa_cons (pv 0) (pa_cons (pv 1) pa_nil)))))) (fun a pn => (pss_one (ps_set (i := 3) nd rfl (Or.inl rfl) (pv 4)))))
      (pss_cons (ps_if (pt_cmpR op_isN (pv 3) (pe_non) (nomark _)) (pss_one (ps_ret (pv 2))) pss_nil)
      (pss_cons (ps_if (PW.pt (pw_or (pt_not (pt_val (pe_callB (r := rIsX K) call_isX (by rfl) T.b_isinstance (by decide +kernel) (pa_cons (pv 3) (pa_cons (pe_bltn (v := .ty "ValueError") (by rfl) T.b_ValueError (by decide +kernel) rfl) pa_nil))))) (pw_or1 (pt_val (pe_callB (r := rIsXT K) call_isXT (by rfl) T.b_isinstance (by decide +kernel) (pa_cons (pv 3) (pa_cons (pe_tup (pa_cons (pe_glob (v := .ref _) (by rfl) M_NoInverse rfl) (pa_cons (pe_glob (v := .ref _) (by rfl) M_NoRoot rfl) pa_nil))) pa_nil))))))) (pss_one (ps_ret (pe_str))) pss_nil)
      (pss_one (ps_ret (pe_ifExp (pt_val (pe_callB (r := rIsX K) call_isX (by rfl) T.b_isinstance (by decide +kernel) (pa_cons (pv 3) (pa_cons (pe_glob (v := .ref _) (by rfl) M_NotCoprime rfl) pa_nil)))) (pe_tup (pa_cons (pe_str) (pa_cons (pe_xw (pv 3)) pa_nil))) (pe_str)))))))), ?_⟩
    walk_at "ev"
    w_cond _1
    have hT1 := SqT.of (K := K) hq1
    have ha1 := Same.seq sm1 ha
    have hb1 := Same.seq sm1 hb
    walk_at "ev"
    refine ⟨fun hg r H2 hcr sm2 => ?_, fun p hp hg hng d H2 hw => ?_⟩
    · walk_at "ev"
      exact qy hg r H2 hcr (sm1.trans sm2)
    · refine ⟨true, R.em, fun _ => ⟨C, d, rfl, rfl, fun a ha => ?_⟩, fun z => nomatch z⟩
      have sm3 : Same H2 (upd H2 a (XOb C d a)) := same_new ha
      have hx3 : XAt (upd H2 a (XOb C d a)) a C [(("what" : Str), .int p)] := ⟨d, upd_same, sm3 _ _ hw.2.2⟩
      have ek := R.ek
      have kv := R.kv
      have nw := R.ek.nw
      walk_at "ev"
      w_cond _4
      have hx4 := hx3.same sm4
      walk_at "ev"
      w_cond _5
      exact qn p hp hg hng l5 H5 (sm1.trans (hw.2.1.trans (sm3.trans (sm4.trans sm5)))) hq5
end
section
variable {P : Program} {w : World} {K : PySem.W.Frag} {mg : Str → Option Value} {base : Heap}
def spToldT (K : PySem.W.Frag) : Sp := fun vs H Q _ => ∃ (a b : Addr) (rs bs : List Int), vs = [.ref a, .ref b] ∧ SqT K H a (rs.map V.int) ∧ SqT K H b (bs.map V.int) ∧ rs.length = bs.length ∧ bs.length ≤ 1000 ∧ (∀ x ∈ bs, 1 ≤ x ∧ x ≤ 1000000) ∧ (∀ i < bs.length, 0 ≤ rs.getD i 0 ∧ rs.getD i 0 < bs.getD i 0) ∧
  ((∀ i < bs.length, Good bs i) → ∀ r H', Crt rs bs bs.length r → Same H H' → Q (.int r) H') ∧ (∀ p < bs.length, (∀ i < p, Good bs i) → ¬ Good bs p → ∀ t H', Same H H' → H' t = some (.tup [.str "place", .int p]) → Q (.ref t) H')
theorem ok_toldT {f f1 fI C CI CR CT : Addr} {fd d1 : FuncData} {k : Nat} (F : Fun K "_law_told" "_law_told" s__law_told f fd) (T : Blt mg) (D_joined : Df K mg "joined" s_joined P_joined f1 d1) (G_joined : FnOk P w K mg base (L2.CX P w) 4 f1 d1 P_joined (spJoinT K C))
    (R : Ref K CT C fI) (M_NotCoprime : mg "NotCoprime" = some (.ref C)) (M_NoInverse : mg "NoInverse" = some (.ref CI)) (M_NoRoot : mg "NoRoot" = some (.ref CR)) (M_TurnError : mg "TurnError" = some (.ref CT)) (k1 : PySem.W.kitOne K (.ref C) (.ref C) = some true) (k2 : PySem.W.kitAny K (.ref C) [.ref CI, .ref CR] = some false) : FnOk P w K mg base CX0 (k + 5) f fd P__law_told (spToldT K) := by
  have nd := sc__law_told.nd
  refine F.ok sc__law_told (fun vs H Q E h => ?_) (fun cdv A outer s H vs Q E hr h => ?_)
  · obtain ⟨a, b, rs, bs, rfl, _⟩ := h
    rfl
  · obtain ⟨a, b, rs, bs, rfl, ha, hb, hll, hlen, hbb, hrb, qy, qn⟩ := h
    refine ⟨_, (pss_cons (ps_asg (pe_tup (pa_cons (pe_non) (pa_cons (pe_non) pa_nil))) (pg_tup (by rfl) (pgs_cons (pg_name (i := 2) nd rfl (Or.inl rfl)) (pgs_cons (pg_name (i := 3) nd rfl (Or.inl rfl)) pgs_nil))))
      (pss_cons (ps_try_keep (i := 4) (Wout := fun _ _ _ _ => False) rfl rfl rfl nd rfl rfl ⟨by rfl, by decide, Or.inl M_TurnError⟩ takes0 (fun W pn xe tk _ => (pss_one (ps_set (i := 2) nd rfl (Or.inl rfl) (pe_callS G_joined (hr.mono (by omega)) (by rfl) D_joined.g D_joined.F.kp D_joined.b (fun σ => passAt tk σ) (pa_cons (pv 0) (pa_cons (pv 1) pa_nil)))))) (fun a pn => (pss_one (ps_set (i := 3) nd rfl (Or.inl rfl) (pv 4)))))
      (pss_cons (ps_if (pt_cmpR op_isN (pv 3) (pe_non) (nomark _)) (pss_one (ps_ret (pv 2))) pss_nil)
      (pss_cons (ps_if (PW.pt (pw_or (pt_not (pt_val (pe_callB (r := rIsX K) call_isX (by rfl) T.b_isinstance (by decide +kernel) (pa_cons (pv 3) (pa_cons (pe_bltn (v := .ty "ValueError") (by rfl) T.b_ValueError (by decide +kernel) rfl) pa_nil))))) (pw_or1 (pt_val (pe_callB (r := rIsXT K) call_isXT (by rfl) T.b_isinstance (by decide +kernel) (pa_cons (pv 3) (pa_cons (pe_tup (pa_cons (pe_glob (v := .ref _) (by rfl) M_NoInverse rfl) (pa_cons (pe_glob (v := .ref _) (by rfl) M_NoRoot rfl) pa_nil))) pa_nil))))))) (pss_one (ps_ret (pe_str))) pss_nil)
      (pss_one (ps_ret (pe_ifExp (pt_val (pe_callB (r := rIsX K) call_isX (by rfl) T.b_isinstance (by decide +kernel) (pa_cons (pv 3) (pa_cons (pe_glob (v := .ref _) (by rfl) M_NotCoprime rfl) pa_nil)))) (pe_tup (pa_cons (pe_str) (pa_cons (pe_xw (pv 3)) pa_nil))) (pe_str)))))))), ?_⟩
    walk_at "ev"
    w_cond _1
    have hT1 := SqT.of (K := K) hq1
    have ha1 := same_t sm1 ha
    have hb1 := same_t sm1 hb
    walk_at "ev"
    refine ⟨fun hg r H2 hcr sm2 => ?_, fun p hp hg hng d H2 hw => ?_⟩
    · walk_at "ev"
      exact qy hg r H2 hcr (sm1.trans sm2)
    · refine ⟨true, R.em, fun _ => ⟨C, d, rfl, rfl, fun a ha => ?_⟩, fun z => nomatch z⟩
      have sm3 : Same H2 (upd H2 a (XOb C d a)) := same_new ha
      have hx3 : XAt (upd H2 a (XOb C d a)) a C [(("what" : Str), .int p)] := ⟨d, upd_same, sm3 _ _ hw.2.2⟩
      have ek := R.ek
      have kv := R.kv
      have nw := R.ek.nw
      walk_at "ev"
      w_cond _4
      have hx4 := hx3.same sm4
      walk_at "ev"
      w_cond _5
      exact qn p hp hg hng l5 H5 (sm1.trans (hw.2.1.trans (sm3.trans (sm4.trans sm5)))) hq5
end
theorem shM_end {n : Nat} {a : Int} (ha : 0 ≤ a) : shM (n + 1) a 0 = decide (1 < Int.gcd a 0) := by
  show (if (0 : Int) = 0 then decide (1 < a) else _) = _
  rw [if_pos rfl, Int.gcd_zero_right]
  exact decide_eq_decide.mpr ⟨fun h => by omega, fun h => by omega⟩
theorem shM_gcd : ∀ (n : Nat) {a b : Int}, 0 ≤ b → b ≤ a → a * b < 2 ^ n → shM (n + 1) a b = decide (1 < Int.gcd a b)
  | n, a, b, hb, h, hm => by
    by_cases e : b = 0
    · subst e
      exact shM_end h
    · have b1 : 0 < b := by omega
      cases n with
      | zero =>
        have : 1 * 1 ≤ a * b := Int.mul_le_mul (by omega) (by omega) (by omega) (by omega)
        rw [Int.pow_zero] at hm
        omega
      | succ n =>
        show (if b = 0 then decide (1 < a) else shM (n + 1) b (a % b)) = _
        rw [if_neg e, shM_gcd n (Int.emod_nonneg _ e) (Int.le_of_lt (Int.emod_lt_of_pos _ b1)) ?_, gcd_step (by omega) hb]
        have h1 : b * (2 * (a % b)) ≤ b * a := Int.mul_le_mul_of_nonneg_left (emod_half b1 h) hb
        have h2 : b * (2 * (a % b)) = 2 * (b * (a % b)) := by rw [← Int.mul_assoc, Int.mul_comm b 2, Int.mul_assoc]
        have h3 : b * a = a * b := Int.mul_comm _ _
        rw [Int.pow_succ] at hm
        omega
theorem shM64 {a b : Int} (ha : 0 ≤ a) (hb : 0 ≤ b) (a6 : a ≤ 1000000000) (b6 : b ≤ 1000000000) : shM 64 a b = decide (1 < Int.gcd a b) := by
  by_cases e : b = 0
  · subst e
    exact shM_end ha
  · have b1 : 0 < b := by omega
    show (if b = 0 then decide (1 < a) else shM (62 + 1) b (a % b)) = _
    rw [if_neg e, shM_gcd 62 (Int.emod_nonneg _ e) (Int.le_of_lt (Int.emod_lt_of_pos _ b1)) ?_, gcd_step ha hb]
    have h1 : a % b < b := Int.emod_lt_of_pos _ b1
    have h0 : 0 ≤ a % b := Int.emod_nonneg _ e
    have h2 : b * (a % b) ≤ 1000000000 * 1000000000 := Int.mul_le_mul b6 (by omega) h0 (by omega)
    have h3 : (2 : Int) ^ 62 = 4611686018427387904 := by decide
    omega
theorem gcd_ne {a b : Int} (ha : 1 ≤ a) : (!decide (1 < Int.gcd a b)) = decide (Int.gcd a b = 1) := by
  have h : 0 < Int.gcd a b := Int.gcd_pos_of_ne_zero_left _ (by omega)
  by_cases e : Int.gcd a b = 1
  · rw [decide_eq_true e, decide_eq_false (by omega)]
    rfl
  · rw [decide_eq_false e, decide_eq_true (by omega)]
    rfl
theorem gcd_ne' {a b : Int} (hb : 1 ≤ b) : (!decide (1 < Int.gcd a b)) = decide (Int.gcd a b = 1) := by
  rw [Int.gcd_comm]
  exact gcd_ne hb
abbrev s__law_first_shared : Stmt := top 18
abbrev N__law_first_shared : List Str := ["_law_bys_here", "_law_place", "_law_one", "_law_other"]
abbrev P__law_first_shared : List Str := ["_law_bys_here"]
theorem sc__law_first_shared : FnScope N__law_first_shared P__law_first_shared (defScope s__law_first_shared) := ⟨rfl, rfl, rfl, by decide +kernel, rfl, by decide +kernel, by decide +kernel⟩
def spFirst (K : PySem.W.Frag) : Sp := fun vs H Q _ => ∃ (b : Addr) (bs : List Int), vs = [.ref b] ∧ SqL K H b (bs.map V.int) ∧ bs.length ≤ 1000 ∧ (∀ x ∈ bs, 1 ≤ x ∧ x ≤ 1000000) ∧
  ((∀ i < bs.length, Good bs i) → ∀ H', Same H H' → Q .non H') ∧ (∀ p < bs.length, (∀ i < p, Good bs i) → ¬ Good bs p → ∀ H', Same H H' → Q (.int p) H')
section
variable {P : Program} {w : World} {K : PySem.W.Frag} {mg : Str → Option Value} {base : Heap}
theorem ok_first {f f1 : Addr} {fd d1 : FuncData} {k : Nat} (F : Fun K "_law_first_shared" "_law_first_shared" s__law_first_shared f fd) (T : Blt mg) (D__law_shares : Df K mg "_law_shares" s__law_shares P__law_shares f1 d1) : FnOk P w K mg base CX0 (k + 2) f fd P__law_first_shared (spFirst K) := by
  have G__law_shares : FnOk P w K mg base CX0 1 f1 d1 P__law_shares spShM := ok_shm D__law_shares.F T
  have nd := sc__law_first_shared.nd
  refine F.ok sc__law_first_shared (fun vs H Q E h => ?_) (fun cdv A outer s H vs Q E hr h => ?_)
  · obtain ⟨b, bs, rfl, _⟩ := h
    rfl
  · obtain ⟨b, bs, rfl, hb, hlen, hbb, qy, qn⟩ := h
    refine ⟨_, (pss_cons (ps_for PassesOwn.never rfl (pi_enum (by rfl) T.b_enumerate (pa_cons (pv 0) pa_nil)) (pg_tup (by rfl) (pgs_cons (pg_name (i := 1) nd rfl (Or.inl rfl)) (pgs_cons (pg_name (i := 2) nd rfl (Or.inr rfl)) pgs_nil)))
      (pss_one (ps_if (pt_val (pe_callB (r := rAny K) (cr_any rfl) (by rfl) T.b_any (by decide +kernel) (pa_cons (pe_lc (own := [("_law_other", 3)]) (g := gName 3) (by rfl) nd (pi_list (pe_slice (r := rSlL K) sl_list (pv 0) po_none (po_some (pv 1)))) (blkOk_by (own := [("_law_other", 3)]) (N := N__law_first_shared) (sc := defScope s__law_first_shared) (by decide +kernel)) (fun _ _ _ _ _ => (pg_name (i := 3) nd rfl (Or.inl rfl))) (fun _ _ _ _ _ => pts_nil) (fun _ _ _ _ _ => (pe_call G__law_shares (hr.mono (by omega)) (by rfl) D__law_shares.g D__law_shares.F.kp D__law_shares.b .nil pass0 (pa_cons (pv 2) (pa_cons (pv 3) pa_nil))))) pa_nil))) (pss_one (ps_ret (pv 1))) pss_nil)))
      (pss_one (ps_ret (pe_non)))), ?_⟩
    walk_at "ev"
    refine for_enumL (K := K) (a := b) (xs := bs.map V.int) (fun i σ H' => Hold (∃ s1 s2, σ = [some (.ref b), s1, s2, none] ∧ Same H H' ∧ ∀ j < i, Good bs j)) (.mk ⟨none, none, rfl, Same.refl _, fun j hj => absurd hj (Nat.not_lt_zero j)⟩) ?_ ?_ ?_
    · intro i σ H1 hP
      obtain ⟨s1, s2, rfl, sm1, hg⟩ := hP.un
      exact sm1.seq hb
    · intro i v T' σ H1 hv hP hT
      obtain ⟨s1, s2, rfl, sm1, hg⟩ := hP.un
      rw [List.getElem?_map] at hv
      obtain ⟨y, hy, ev⟩ := Option.map_eq_some_iff.mp hv
      subst ev
      have hil : i < bs.length := (List.getElem?_eq_some_iff.mp hy).1
      have eyi : bs.getD i 0 = y := by rw [List.getD_eq_getElem?_getD, hy]; rfl
      have hyb := hbb y (List.mem_of_getElem? hy)
      generalize hG : upd _ T' _ = H2
      obtain ⟨sm2, hq2⟩ := newO hG hT
      clear hG
      have hT2 : SqT K H2 T' [.int (i : Nat), .int y] := SqT.of hq2
      have hb2 := (sm1.trans sm2).seq hb
      have ecut : cutV (bs.map V.int) none (some (i : Int)) = (bs.take i).map V.int := by
        have e : cutV (bs.map V.int) none (some (i : Int)) = ((bs.map V.int).drop 0).take (HT.sIx (bs.map V.int).length (bs.map V.int).length (some (i : Int)) - 0) := rfl
        rw [e, List.drop_zero, List.map_take, sIx_nat (by rw [List.length_map]; omega)]
        rfl
      walk_at "ev"
      w_cond _3
      rw [ecut] at hq3
      have hL3 := SqL.of (K := K) hq3
      refine ⟨l3, rfl, ⟨_, hL3⟩, fun D hD => ?_⟩
      refine lc_list (K := K) (a := l3) (xs := (bs.take i).map V.int) (fun j H' => Hold (Same H3 H' ∧ H' D = some (.lst ((((bs.take i).take j).map fun z => decide (1 < Int.gcd y z)).map V.bl)))) (.mk ⟨same_new hD, upd_same⟩) ?_ ?_ ?_
      · intro j H4 hj hP4
        obtain ⟨sm4, hD4⟩ := hP4.un
        exact sm4.seq hL3
      · intro j v H4 hv hP4
        obtain ⟨sm4, hD4⟩ := hP4.un
        rw [List.getElem?_map] at hv
        obtain ⟨z, hz, ev⟩ := Option.map_eq_some_iff.mp hv
        subst ev
        have hzb := hbb z (List.mem_of_mem_take (List.mem_of_getElem? hz))
        have hjl : j < (bs.take i).length := (List.getElem?_eq_some_iff.mp hz).1
        rw [List.length_take] at hjl
        have hsz : ((((bs.take i).take j).map fun z => decide (1 < Int.gcd y z)).map V.bl).length < sizeLine := szm (by rw [List.length_map, List.length_map, List.length_take]; omega)
        have esh : shM 64 y z = decide (1 < Int.gcd y z) := shM64 (by omega) (by omega) (by omega) (by omega)
        walk_at "ev"
        refine .mk ⟨same_mut sm4 hD, ?_⟩
        rw [upd_same, List.take_add_one, hz, esh]
        simp only [List.map_append]
        rfl
      intro H4 hP4
      obtain ⟨sm4, hD4⟩ := hP4.un
      rw [List.length_map, List.take_length] at hD4
      have s14 := sm2.trans (sm3.trans sm4)
      refine ⟨D, _, rfl, SqL.of hD4, ?_⟩
      have eg : (((bs.take i).map fun z => decide (1 < Int.gcd y z)).any id = false) ↔ Good bs i := by
        unfold Good
        rw [eyi, List.any_map, List.any_eq_false]
        simp only [Function.comp, id, decide_eq_true_eq]
        constructor
        · intro h a ha
          have h1 := h a ha
          have h2 : Int.gcd y a ≠ 0 := by
            intro z
            have := Int.gcd_eq_zero_iff.mp z
            omega
          omega
        · intro h a ha
          have := h a ha
          omega
      walk_at "ev"
      by_cases c : Good bs i
      · refine iteFe (eg.mpr c) ?_
        walk_at "ev"
        refine .mk ⟨_, _, rfl, sm1.trans s14, fun j hj => ?_⟩
        by_cases e : j = i
        · rw [e]
          exact c
        · exact hg j (by omega)
      · have c1 : ((bs.take i).map fun z => decide (1 < Int.gcd y z)).any id = true := by
          cases z : ((bs.take i).map fun z => decide (1 < Int.gcd y z)).any id with
          | true => rfl
          | false => exact absurd (eg.mp z) c
        refine iteTe c1 ?_
        walk_at "ev"
        exact qn i hil hg c _ (sm1.trans s14)
    · intro σ H1 hP
      obtain ⟨s1, s2, rfl, sm1, hg⟩ := hP.un
      rw [List.length_map] at hg
      walk_at "ev"
      exact qy hg _ sm1
end
abbrev s__law_pick : Stmt := top 13
abbrev N__law_pick : List Str := ["_law_box_here", "_law_things"]
abbrev P__law_pick : List Str := ["_law_box_here", "_law_things"]
theorem sc__law_pick : FnScope N__law_pick P__law_pick (defScope s__law_pick) := ⟨rfl, rfl, rfl, by decide +kernel, rfl, by decide +kernel, by decide +kernel⟩
def spPick (K : PySem.W.Frag) : Sp := fun vs H Q _ => ∃ (b a : Addr) (xs : List V) (n : Int), vs = [.ref b, .ref a] ∧ BoxAt H b n ∧ SqL K H a xs ∧ a ≠ b ∧ 0 < (xs.length : Int) ∧ (xs.length : Int) < 1048576 ∧ n < 1048576 ∧ ∀ v H', v ∈ xs → Keep b H H' → BoxAt H' b (n + 1) → Q v H'
section
variable {P : Program} {w : World} {K : PySem.W.Frag} {mg : Str → Option Value} {base : Heap}
theorem ok_pick {f fT : Addr} {fd fdT : FuncData} {k : Nat} (F : Fun K "_law_pick" "_law_pick" s__law_pick f fd) (T : Blt mg) (D__law_take : Df K mg "_law_take" s__law_take P__law_take fT fdT) : FnOk P w K mg base CX0 (k + 2) f fd P__law_pick (spPick K) := by
  have G__law_take : FnOk P w K mg base CX0 (k + 1) fT fdT P__law_take spTake := ok_take D__law_take.F
  have nd := sc__law_pick.nd
  refine F.ok sc__law_pick (fun vs H Q E h => ?_) (fun cdv A outer s H vs Q E hr h => ?_)
  · obtain ⟨b, a, xs, n, rfl, _⟩ := h
    rfl
  · obtain ⟨b, a, xs, n, rfl, hb, hL, hne, h0, h1, hn, q⟩ := h
    refine ⟨_, (pss_one (ps_ret (pe_ix (r := rIxL K) ix_list (pv 1) (pe_call G__law_take (hr.mono (by omega)) (by rfl) D__law_take.g D__law_take.F.kp D__law_take.b .nil pass0 (pa_cons (pv 0) (pa_cons (pe_callB (r := rLenQ K) call_len_seq (by rfl) T.b_len (by decide +kernel) (pa_cons (pv 1) pa_nil)) pa_nil))) (fun _ _ => rfl)))), ?_⟩
    walk_at "ev"
    intro r H' hr0 hr1 hk hb'
    obtain ⟨v, hv, hat⟩ := at_some hr0 hr1
    have hL' := hk.seq hne hL
    walk_at "ev"
    exact q _ _ hv hk hb'
end
def spTakeW : Sp := fun vs H Q _ => ∃ (b : Addr) (top n : Int), vs = [.ref b, .int top] ∧ BoxAt H b n ∧ 0 < top ∧ top.natAbs.log2 < 9000 ∧ n < 1048576 ∧ ∀ r H', 0 ≤ r → r < top → Keep b H H' → BoxAt H' b (n + 1) → Q (.int r) H'
section
variable {P : Program} {w : World} {K : PySem.W.Frag} {mg : Str → Option Value} {base : Heap}
theorem ok_takeW {f : Addr} {fd : FuncData} {k : Nat} (F : Fun K "_law_take" "_law_take" s__law_take f fd) : FnOk P w K mg base CX0 (k + 1) f fd P__law_take spTakeW := by
  have nd := sc__law_take.nd
  refine F.ok sc__law_take (fun vs H Q E h => ?_) (fun cdv A outer s H vs Q E hr h => ?_)
  · obtain ⟨b, top, n, rfl, _⟩ := h
    rfl
  · obtain ⟨b, top, n, rfl, ⟨x, y, z, hb, hx, hy, hy2, hz, hzn⟩, ht, ht2, hn, q⟩ := h
    refine ⟨_, (pss_cons (ps_if (pt_cmpR op_gt (pe_ix (r := rIxL K) ix_list (pv 0) (pe_int) (fun _ _ => rfl)) (pe_int) (nomark _)) (pss_cons (ps_set (i := 2) nd rfl (Or.inl rfl) (pe_op op_mod (pe_ix (r := rIxL K) ix_list (pv 0) (pe_int) (fun _ _ => rfl)) (pv 1)))
      (pss_cons (ps_asg (pe_op op_fdivW (pe_ix (r := rIxL K) ix_list (pv 0) (pe_int) (fun _ _ => rfl)) (pv 1)) (pg_sub (pv 0) (pe_int) set_list))
      (pss_one (ps_ret (pv 2))))) pss_nil)
      (pss_cons (ps_asg (pe_op op_add (pe_ix (r := rIxL K) ix_list (pv 0) (pe_int) (fun _ _ => rfl)) (pe_int)) (pg_sub (pv 0) (pe_int) set_list))
      (pss_cons (ps_set (i := 3) nd rfl (Or.inl rfl) (pe_op op_mod (pe_op op_pow (pe_op op_add (pe_ix (r := rIxL K) ix_list (pv 0) (pe_int) (fun _ _ => rfl)) (pe_op op_mul (pe_int) (pe_ix (r := rIxL K) ix_list (pv 0) (pe_int) (fun _ _ => rfl)))) (pe_int)) (pe_int)))
      (pss_one (ps_ret (pe_op op_mod (pe_op op_fdivW (pe_op op_mod (pe_op op_add (pe_op op_mul (pv 3) (pe_op op_add (pe_op op_mod (pv 3) (pe_int)) (pe_int))) (pe_op op_mul (pe_ix (r := rIxL K) ix_list (pv 0) (pe_int) (fun _ _ => rfl)) (pe_int))) (pe_int)) (pe_int)) (pv 1))))))), ?_⟩
    have hL : SqL K H b [.int x, .int y, .int z] := SqL.of hb
    have cw : ∀ i : Int, CDivW i top := fun i => ⟨ht, ht2⟩
    have cw6 : ∀ i : Int, CDivW i 64 := fun i => ⟨by decide, by decide⟩
    have cw1 := cw x
    walk_at "ev"
    refine ite2 (fun e => ?_) (fun e => ?_)
    · have e1 : 0 < x := of_decide_eq_true e
      walk_at "ev"
      exact q _ _ (Int.emod_nonneg _ (by omega)) (Int.emod_lt_of_pos _ ht) (keep_upd (Keep.refl _ _)) ⟨_, _, _, upd_same, Int.ediv_nonneg hx (by omega), hy, hy2, hz, by omega⟩
    · walk_at "ev"
      exact q _ _ (Int.emod_nonneg _ (by omega)) (Int.emod_lt_of_pos _ ht) (keep_upd (Keep.refl _ _)) ⟨_, _, _, upd_same, hx, hy, hy2, by omega, by omega⟩
end
theorem keep_fresh {b D : Addr} {H H' : Hp} {o : HO} (h : Keep b H H') (n : H D = none) : Keep b H (upd H' D o) := fun a u na e => by
  rw [upd_ne (ne_of_none e n)]
  exact h a u na e
theorem BoxAt.upd {H : Hp} {b D : Addr} {n : Int} {o : HO} (h : BoxAt H b n) (e : D ≠ b) : BoxAt (L2.upd H D o) b n := by
  obtain ⟨x, y, z, a1, a2⟩ := h
  exact ⟨x, y, z, by rw [upd_ne e.symm]; exact a1, a2⟩
theorem dpl {K : PySem.W.Frag} {H : Hp} {a : Addr} (ns : List Int) (h : SqL K H a (ns.map V.int)) : Dp K H (.ref a) (.list (ns.map PyData.int)) := .lst h (dp_ints ns)
theorem fitl (ns : List Int) (h : ns.length ≤ 4000) : Fit 1 (.list (ns.map PyData.int)) := by
  refine ⟨by rw [List.length_map]; exact h, fun e he => ?_⟩
  obtain ⟨c, _, rfl⟩ := List.mem_map.mp he
  exact True.intro
theorem fit_ni {x : Str} {a : Int} : Fit 1 (.tuple [.str x, .int a]) := by
  refine ⟨by simp, fun e he => ?_⟩
  simp only [List.mem_cons, List.not_mem_nil, or_false] at he
  rcases he with h | h <;> rw [h] <;> exact True.intro
abbrev s__law_bys : Stmt := top 17
abbrev N__law_bys : List Str := ["_law_box_here", "_law_found", "_law_many", "_law_turn", "_law_one", "_law_more", "_law_other"]
abbrev P__law_bys : List Str := ["_law_box_here"]
theorem sc__law_bys : FnScope N__law_bys P__law_bys (defScope s__law_bys) := ⟨rfl, rfl, rfl, by decide +kernel, rfl, by decide +kernel, by decide +kernel⟩
def spBys : Sp := fun vs H Q _ => ∃ (b : Addr) (n : Int), vs = [.ref b] ∧ BoxAt H b n ∧ n < 900000 ∧ ∀ p (bs : List Int) H', 1 ≤ bs.length → bs.length ≤ 10 → (∀ x ∈ bs, 1 ≤ x ∧ x ≤ 1000) → H p = none → Keep b H H' → BoxAt H' b (n + 60) → H' p = some (.lst (bs.map V.int)) → Q (.ref p) H'
section
variable {P : Program} {w : World} {K : PySem.W.Frag} {mg : Str → Option Value} {base : Heap}
theorem bys_T {f : Addr} {A : Around} {outer : List Env} {s : Shared} {H : Hp} {Q : VK} {E : XK} {cdv : Value} (T : Blt mg) :
    ∃ tl, PSs (cxOf CX0 P w K mg base N__law_bys "_law_bys" (defScope s__law_bys) f cdv A outer s H E).nox ((defBody s__law_bys).drop 4) tl ∧
      ∀ (lo : Addr) (os : List Int) (H3 : Hp) (x0 x2 x3 x4 x5 : Option V), 1 ≤ os.length → os.length ≤ 10 → (∀ x ∈ os, 0 ≤ x ∧ x ≤ 1000) → H3 lo = some (.lst (os.map V.int)) →
        (∀ p (bs : List Int) H', 1 ≤ bs.length → bs.length ≤ 10 → (∀ x ∈ bs, 1 ≤ x ∧ x ≤ 1000) → H3 p = none → Same H3 H' → H' p = some (.lst (bs.map V.int)) → Q (.ref p) H') →
        tl { nx := fun _ H' => Q .non H', rt := Q } [x0, some (.ref lo), x2, x3, x4, x5, none] H3 := by
  have nd := sc__law_bys.nd
  refine ⟨_, (pss_one (ps_ret (pe_lc (own := [("_law_one", 4)]) (g := gName 4) (by rfl) nd (pi_list (pv 1)) (blkOk_by (own := [("_law_one", 4)]) (N := N__law_bys) (sc := defScope s__law_bys) (by decide +kernel)) (fun _ _ _ _ _ => (pg_name (i := 4) nd rfl (Or.inl rfl))) (fun _ _ _ _ _ => pts_nil) (fun _ _ _ _ _ => (pe_callB (call_max2 rfl) (by rfl) T.b_max (by decide +kernel) (pa_cons (pe_int) (pa_cons (pv 4) pa_nil))))))), ?_⟩
  intro lo os H3 x0 x2 x3 x4 x5 h1 h10 hob hlo q
  have hL3 := SqL.of (K := K) hlo
  walk_at "ev"
  refine ⟨⟨_, hL3⟩, fun D hD => ?_⟩
  refine lc_list (K := K) (a := lo) (xs := os.map V.int) (fun z H' => Hold (∃ bs : List Int, bs.length = z ∧ (∀ x ∈ bs, 1 ≤ x ∧ x ≤ 1000) ∧ Same H3 H' ∧ H' D = some (.lst (bs.map V.int)))) (.mk ⟨[], rfl, fun x hx => absurd hx (by simp), same_new hD, upd_same⟩) ?_ ?_ ?_
  · intro z H12 hz hP12
    obtain ⟨bl, hbl, hbb, sm12, hD12⟩ := hP12.un
    exact sm12.seq hL3
  · intro z v H12 hv hP12
    obtain ⟨bl, hbl, hbb, sm12, hD12⟩ := hP12.un
    have hzl : z < (os.map V.int).length := (List.getElem?_eq_some_iff.mp hv).1
    rw [List.length_map] at hzl
    rw [List.getElem?_map] at hv
    obtain ⟨y, hy, ev⟩ := Option.map_eq_some_iff.mp hv
    subst ev
    have hyb := hob y (List.mem_of_getElem? hy)
    have hsz : (bl.map V.int).length < sizeLine := szm (by rw [List.length_map]; omega)
    walk_at "ev"
    refine .mk ⟨bl ++ [if y > 1 then y else 1], by simp [hbl], fun x hx => ?_, same_mut sm12 hD, ?_⟩
    · rcases List.mem_append.mp hx with z | z
      · exact hbb x z
      · rw [List.mem_singleton.mp z]
        split <;> omega
    · rw [upd_same, List.map_append]
      rfl
  intro H12 hP12
  obtain ⟨bl, hbl, hbb, sm12, hD12⟩ := hP12.un
  rw [List.length_map] at hbl
  exact q D bl H12 (by omega) (by omega) hbb hD sm12 hD12
theorem ok_bys {f f1 f2 f3 : Addr} {fd d1 d2 d3 : FuncData} {k : Nat} (F : Fun K "_law_bys" "_law_bys" s__law_bys f fd) (T : Blt mg) (D__law_take : Df K mg "_law_take" s__law_take P__law_take f1 d1) (D__law_pick : Df K mg "_law_pick" s__law_pick P__law_pick f2 d2) (D__law_shares : Df K mg "_law_shares" s__law_shares P__law_shares f3 d3) : FnOk P w K mg base CX0 (k + 3) f fd P__law_bys spBys := by
  have G__law_take : FnOk P w K mg base CX0 1 f1 d1 P__law_take spTake := ok_take D__law_take.F
  have G__law_pick : FnOk P w K mg base CX0 2 f2 d2 P__law_pick (spPick K) := ok_pick D__law_pick.F T D__law_take
  have G__law_shares : FnOk P w K mg base CX0 1 f3 d3 P__law_shares spShM := ok_shm D__law_shares.F T
  have nd := sc__law_bys.nd
  refine F.ok sc__law_bys (fun vs H Q E h => ?_) (fun cdv A outer s H vs Q E hr h => ?_)
  · obtain ⟨b, n, rfl, _⟩ := h
    rfl
  · obtain ⟨b, n, rfl, hb, hn, q⟩ := h
    obtain ⟨tl, htl, fin⟩ := bys_T (P := P) (w := w) (base := base) (outer := outer) (H := H) (Q := Q) (E := E) (A := A) (s := s) (cdv := cdv) (f := f) T
    refine ⟨_, (pss_cons (ps_set (i := 1) nd rfl (Or.inl rfl) (pe_lst pa_nil))
      (pss_cons (ps_set (i := 2) nd rfl (Or.inl rfl) (pe_ix (r := rIxL K) ix_list (pe_lst (pa_cons (pe_op op_add (pe_int) (pe_call G__law_take (hr.mono (by omega)) (by rfl) D__law_take.g D__law_take.F.kp D__law_take.b .nil pass0 (pa_cons (pv 0) (pa_cons (pe_int) pa_nil)))) (pa_cons (pe_op op_add (pe_int) (pe_call G__law_take (hr.mono (by omega)) (by rfl) D__law_take.g D__law_take.F.kp D__law_take.b .nil pass0 (pa_cons (pv 0) (pa_cons (pe_int) pa_nil)))) pa_nil))) (pe_callTy call_int1 (by rfl) T.b_int (by decide +kernel) (pa_cons (pe_cmpR op_eq (pe_call G__law_take (hr.mono (by omega)) (by rfl) D__law_take.g D__law_take.F.kp D__law_take.b .nil pass0 (pa_cons (pv 0) (pa_cons (pe_int) pa_nil))) (pe_int) (nomark _)) pa_nil)) (fun _ _ => rfl)))
      (pss_cons (ps_for PassesOwn.never rfl (pi_range1 (by rfl) T.b_range (pa_cons (pv 2) pa_nil)) (pg_name (i := 3) nd rfl (Or.inl rfl))
      (pss_cons (ps_set (i := 4) nd rfl (Or.inr rfl) (pe_call G__law_pick (hr.mono (by omega)) (by rfl) D__law_pick.g D__law_pick.F.kp D__law_pick.b .nil pass0 (pa_cons (pv 0) (pa_cons (pe_lst (pa_cons (pe_op op_add (pe_int) (pe_call G__law_take (hr.mono (by omega)) (by rfl) D__law_take.g D__law_take.F.kp D__law_take.b .nil pass0 (pa_cons (pv 0) (pa_cons (pe_int) pa_nil)))) (pa_cons (pe_op op_add (pe_int) (pe_call G__law_take (hr.mono (by omega)) (by rfl) D__law_take.g D__law_take.F.kp D__law_take.b .nil pass0 (pa_cons (pv 0) (pa_cons (pe_int) pa_nil)))) (pa_cons (pe_int) (pa_cons (pe_int) (pa_cons (pe_int) (pa_cons (pe_int) (pa_cons (pe_int) (pa_cons (pe_op op_mod (pe_int) (pe_int)) pa_nil))))))))) pa_nil))))
      (pss_cons (ps_for PassesOwn.never rfl (pi_range1 (by rfl) T.b_range (pa_cons (pe_int) pa_nil)) (pg_name (i := 5) nd rfl (Or.inl rfl))
      (pss_one (ps_if (pt_val (pe_callB (r := rAny K) (cr_any rfl) (by rfl) T.b_any (by decide +kernel) (pa_cons (pe_lc (own := [("_law_other", 6)]) (g := gName 6) (by rfl) nd (pi_list (pv 1)) (blkOk_by (own := [("_law_other", 6)]) (N := N__law_bys) (sc := defScope s__law_bys) (by decide +kernel)) (fun _ _ _ _ _ => (pg_name (i := 6) nd rfl (Or.inl rfl))) (fun _ _ _ _ _ => pts_nil) (fun _ _ _ _ _ => (pe_call G__law_shares (hr.mono (by omega)) (by rfl) D__law_shares.g D__law_shares.F.kp D__law_shares.b .nil pass0 (pa_cons (pv 4) (pa_cons (pv 6) pa_nil))))) pa_nil))) (pss_one (ps_set (i := 4) nd rfl (Or.inr rfl) (pe_op op_add (pe_op op_mod (pv 4) (pe_int)) (pe_int)))) pss_nil)))
      (pss_one (ps_expr (pe_bm PySem.F.plainAttrs_list PySem.F.slot_list_append PySem.F.type_list_append mt_append (pv 1) (pa_cons (pv 4) pa_nil)))))))
      (pss_cons (ps_if (PW.pt (pw_and (pt_cmpR op_lt (pe_callB (r := rLenQ K) call_len_seq (by rfl) T.b_len (by decide +kernel) (pa_cons (pv 1) pa_nil)) (pe_int) (nomark _)) (pw_and1 (pt_cmpR op_eq (pe_call G__law_take (hr.mono (by omega)) (by rfl) D__law_take.g D__law_take.F.kp D__law_take.b .nil pass0 (pa_cons (pv 0) (pa_cons (pe_int) pa_nil))) (pe_int) (nomark _))))) (pss_one (ps_expr (pe_bm PySem.F.plainAttrs_list PySem.F.slot_list_insert PySem.F.type_list_insert mt_insert (pv 1) (pa_cons (pe_call G__law_take (hr.mono (by omega)) (by rfl) D__law_take.g D__law_take.F.kp D__law_take.b .nil pass0 (pa_cons (pv 0) (pa_cons (pe_op op_add (pe_callB (r := rLenQ K) call_len_seq (by rfl) T.b_len (by decide +kernel) (pa_cons (pv 1) pa_nil)) (pe_int)) pa_nil))) (pa_cons (pe_op op_mul (pe_op op_mod (pe_ix (r := rIxL K) ix_list (pv 1) (pe_call G__law_take (hr.mono (by omega)) (by rfl) D__law_take.g D__law_take.F.kp D__law_take.b .nil pass0 (pa_cons (pv 0) (pa_cons (pe_callB (r := rLenQ K) call_len_seq (by rfl) T.b_len (by decide +kernel) (pa_cons (pv 1) pa_nil)) pa_nil))) (fun _ _ => rfl)) (pe_int)) (pe_int)) pa_nil))))) pss_nil)
      htl)))), ?_⟩
    walk_at "ev"
    w_cond _1
    have n1b := hb.ne hl1
    have hb1 := hb.same sm1
    walk_at "ev"
    intro r2 H2 r20 r21 k2 hb2
    walk_at "ev"
    intro r3 H3 r30 r31 k3 hb3
    walk_at "ev"
    w_cond _4
    have n4b := hb3.ne hl4
    have hb4 := hb3.same sm4
    walk_at "ev"
    intro r5 H5 r50 r51 k5 hb5
    have hL5 := SqL.of (K := K) (k5 _ _ n4b hq4)
    obtain ⟨mn, hmn, hat⟩ : ∃ mn : Int, (1 ≤ mn ∧ mn ≤ 10) ∧ atI [(fun i j => V.int (i + j)) 1 r2, (fun i j => V.int (i + j)) 8 r3] (if decide (V.int r5 = V.int 0) = true then 1 else 0) = some (.int mn) := by
      split
      · exact ⟨8 + r3, by omega, rfl⟩
      · exact ⟨1 + r2, by omega, rfl⟩
    walk_at "ev"
    have k05 : Keep b H H5 := (keepS sm1).trans (k2.trans (k3.trans ((keepS sm4).trans k5)))
    have h15 : H5 l1 = some (.lst ([] : List V)) := k5 _ _ n1b (sm4 _ _ (k3 _ _ n1b (k2 _ _ n1b hq1)))
    refine for_range (lo := 0) (n := _) (fun i σ H' => Hold (∃ (os : List Int) (s3 s4 s5 : Option V), σ = [some (.ref b), some (.ref l1), some (.int mn), s3, s4, s5, none] ∧ os.length = i ∧ (∀ x ∈ os, 1 ≤ x ∧ x ≤ 1000) ∧ Keep b H H' ∧ BoxAt H' b (n + 5 + 4 * (i : Int)) ∧ H' l1 = some (.lst (os.map V.int)))) (.mk ⟨[], none, none, none, rfl, rfl, fun x hx => absurd hx (by simp), k05, hb5.mono (by omega), h15⟩) ?_ ?_
    · intro i σ H6 hi hP
      obtain ⟨os, s3, s4, s5, rfl, hol, hob, k06, hb6, h16⟩ := hP.un
      have hi10 : i < 10 := by omega
      walk_at "ev"
      intro r7 H7 r70 r71 k7 hb7
      walk_at "ev"
      intro r8 H8 r80 r81 k8 hb8
      walk_at "ev"
      w_cond _9
      have n9b := hb8.ne hl9
      have hb9 := hb8.same sm9
      have hL9 := SqL.of (K := K) hq9
      walk_at "ev"
      intro v H10 hv k10 hb10
      obtain ⟨one, ho, rfl⟩ : ∃ one : Int, (1 ≤ one ∧ one ≤ 1000) ∧ v = .int one := by
        simp only [List.mem_cons, List.not_mem_nil, or_false] at hv
        rcases hv with z | z | z | z | z | z | z | z
        · exact ⟨1 + r7, by omega, z⟩
        · exact ⟨1 + r8, by omega, z⟩
        · exact ⟨97, by decide, z⟩
        · exact ⟨193, by decide, z⟩
        · exact ⟨241, by decide, z⟩
        · exact ⟨256, by decide, z⟩
        · exact ⟨257, by decide, z⟩
        · exact ⟨2521 % 1000, by decide, z⟩
      have k6a : Keep b H6 H10 := k7.trans (k8.trans ((keepS sm9).trans k10))
      have h1a := k6a _ _ n1b h16
      walk_at "ev"
      refine for_range (lo := 0) (n := _) (fun j σ H' => Hold (∃ (one : Int) (s5 : Option V), σ = [some (.ref b), some (.ref l1), some (.int mn), some (.int (0 + (i : Int))), some (.int one), s5, none] ∧ (1 ≤ one ∧ one ≤ 1000) ∧ Same H10 H')) (.mk ⟨one, _, rfl, ho, Same.refl _⟩) ?_ ?_
      · intro j σ H11 hj hP11
        obtain ⟨one, t5, rfl, ho, sm11⟩ := hP11.un
        have hL11 := SqL.of (K := K) (sm11 _ _ h1a)
        walk_at "ev"
        refine ⟨⟨_, hL11⟩, fun D hD => ?_⟩
        refine lc_list (K := K) (a := l1) (xs := os.map V.int) (fun z H' => Hold (∃ bl : List Bool, bl.length = z ∧ Same H11 H' ∧ H' D = some (.lst (bl.map V.bl)))) (.mk ⟨[], rfl, same_new hD, upd_same⟩) ?_ ?_ ?_
        · intro z H12 hz hP12
          obtain ⟨bl, hbl, sm12, hD12⟩ := hP12.un
          exact sm12.seq hL11
        · intro z v H12 hv hP12
          obtain ⟨bl, hbl, sm12, hD12⟩ := hP12.un
          have hzl : z < (os.map V.int).length := (List.getElem?_eq_some_iff.mp hv).1
          rw [List.length_map] at hzl
          rw [List.getElem?_map] at hv
          obtain ⟨y, hy, ev⟩ := Option.map_eq_some_iff.mp hv
          subst ev
          have hyb := hob y (List.mem_of_getElem? hy)
          have hsz : (bl.map V.bl).length < sizeLine := szm (by rw [List.length_map]; omega)
          walk_at "ev"
          refine .mk ⟨bl ++ [shM 64 one y], by simp [hbl], same_mut sm12 hD, ?_⟩
          rw [upd_same, List.map_append]
          rfl
        intro H12 hP12
        obtain ⟨bl, hbl, sm12, hD12⟩ := hP12.un
        refine ⟨D, bl, rfl, SqL.of hD12, ?_⟩
        walk_at "ev"
        refine ite2 (fun c => ?_) (fun c => ?_)
        · walk_at "ev"
          exact .mk ⟨_, _, rfl, by omega, sm11.trans sm12⟩
        · walk_at "ev"
          exact .mk ⟨_, _, rfl, ho, sm11.trans sm12⟩
      · intro σ H11 hP11
        obtain ⟨one, t5, rfl, ho, sm11⟩ := hP11.un
        have h111 := sm11 _ _ h1a
        have ty11 : tyV K "list" (.ref l1) H11 := .inl ⟨rfl, _, SqL.of h111⟩
        have z11 : (os.map V.int).length < sizeLine := szm (by rw [List.length_map]; omega)
        walk_at "ev"
        refine .mk ⟨os ++ [one], _, _, _, rfl, by simp [hol], fun x hx => ?_, ?_, ?_, ?_⟩
        · rcases List.mem_append.mp hx with z | z
          · exact hob x z
          · rw [List.mem_singleton.mp z]
            exact ho
        · exact keep_fresh (k06.trans (k6a.trans (keepS sm11))) hl1
        · exact ((hb10.same sm11).upd n1b).mono (by omega)
        · rw [upd_same, List.map_append]
          rfl
    · intro σ H6 hP
      obtain ⟨os, s3, s4, s5, rfl, hol, hob, k06, hb6, h16⟩ := hP.un
      have hL6 := SqL.of (K := K) h16
      have hol1 : os.length = mn.toNat := by omega
      have hob0 : ∀ x ∈ os, 0 ≤ x ∧ x ≤ 1000 := fun x hx => by
        have := hob x hx
        omega
      have b6 : BoxAt H6 b (n + 50) := hb6.mono (by omega)
      have done4 : ∀ (os : List Int) (H7 : Hp), 1 ≤ os.length → os.length ≤ 10 → (∀ x ∈ os, 0 ≤ x ∧ x ≤ 1000) → Keep b H H7 → BoxAt H7 b (n + 60) → H7 l1 = some (.lst (os.map V.int)) → tl { nx := fun _ H' => Q .non H', rt := Q } [some (.ref b), some (.ref l1), some (.int mn), s3, s4, s5, none] H7 := fun os H7 a1 a2 a3 a4 a5 a6 =>
        fin l1 os H7 _ _ _ _ _ a1 a2 a3 a6 fun p bs H' c1 c2 c3 c4 c5 c6 => by
          refine q p bs H' c1 c2 c3 ?_ (a4.trans (keepS c5)) (a5.same c5) c6
          cases e : H p with
          | none => rfl
          | some o =>
            obtain ⟨u, hu⟩ := a5.some
            have npb : p ≠ b := fun z => by
              rw [z, hu] at c4
              cases c4
            rw [a4 p o npb e] at c4
            cases c4
      walk_at "ev"
      refine ite2 (fun c => ?_) (fun c => ?_)
      · have c1 : os.length < 10 := by
          have := of_decide_eq_true c
          rw [List.length_map] at this
          omega
        walk_at "ev"
        intro r7 H7 r70 r71 k7 hb7
        have h17 := k7 _ _ n1b h16
        walk_at "ev"
        refine ite2 (fun c2 => ?_) (fun c2 => ?_)
        · have hL7 := SqL.of (K := K) h17
          have ty7 : tyV K "list" (.ref l1) H7 := .inl ⟨rfl, _, hL7⟩
          walk_at "ev"
          intro r8 H8 r80 r81 k8 hb8
          have h18 := k8 _ _ n1b h17
          have hL8 := SqL.of (K := K) h18
          walk_at "ev"
          intro r9 H9 r90 r91 k9 hb9
          have h19 := k9 _ _ n1b h18
          have hL9 := SqL.of (K := K) h19
          rw [List.length_map] at r91 r81
          obtain ⟨y, hy, hat⟩ := at_ints (ns := os) r90 r91
          have hyb := hob y hy
          have z9 : (os.map V.int).length < sizeLine := szm (by rw [List.length_map]; omega)
          have cm : CMul (y % 500) 2 := .inr ⟨by omega, by omega⟩
          walk_at "ev"
          have k69 : Keep b H6 H9 := k7.trans (k8.trans k9)
          refine done4 (os.take r8.toNat ++ [y % 500 * 2] ++ os.drop r8.toNat) _ ?_ ?_ ?_ (keep_fresh (k06.trans k69) hl1) ((hb9.upd n1b).mono (by omega)) ?_
          · simp
            omega
          · simp
            omega
          · intro x hx
            rcases List.mem_append.mp hx with z | z
            · rcases List.mem_append.mp z with z | z
              · exact hob0 x (List.mem_of_mem_take z)
              · rw [List.mem_singleton.mp z]
                omega
            · exact hob0 x (List.mem_of_mem_drop z)
          · rw [upd_same, List.map_append, List.map_append, List.map_take, List.map_drop]
            rfl
        · walk_at "ev"
          exact done4 os H7 (by omega) (by omega) hob0 (k06.trans k7) (hb7.mono (by omega)) h17
      · walk_at "ev"
        exact done4 os H6 (by omega) (by omega) hob0 k06 (b6.mono (by omega)) h16
end
/-! ### repr of lists and tuples in one another, whatever repr is under way around them -/
section
open PySem.Spec PyProof.Rows
/-- things with their addresses -/
inductive AT where
  | leaf (d : PyData)
  | lst (a : Addr) (l : List AT)
  | tup (a : Addr) (l : List AT)
mutual
inductive Ap (K : PySem.W.Frag) (H : Hp) : V → AT → Prop
  | non : Ap K H .non (.leaf .none)
  | bl (b : Bool) : Ap K H (.bl b) (.leaf (.bool b))
  | int (i : Int) : Ap K H (.int i) (.leaf (.int i))
  | str (x : Str) : Ap K H (.str x) (.leaf (.str x))
  | lst {a : Addr} {xs : List V} {l : List AT} : SqL K H a xs → ApAll K H xs l → Ap K H (.ref a) (.lst a l)
  | tup {a : Addr} {xs : List V} {l : List AT} : SqT K H a xs → ApAll K H xs l → Ap K H (.ref a) (.tup a l)
inductive ApAll (K : PySem.W.Frag) (H : Hp) : List V → List AT → Prop
  | nil : ApAll K H [] []
  | cons {v : V} {vs : List V} {t : AT} {l : List AT} : Ap K H v t → ApAll K H vs l → ApAll K H (v :: vs) (t :: l)
end
/-- list.__repr__'s loop over this very list is under way -/
def loopF (self : Value) : Code × Pos → Bool := fun
  | (.builtin "list.__repr__.loop" ⟨v :: _, _⟩, _) => Builtin.List.listSameRef v self
  | _ => false
theorem loopF_pos (self : Value) (c : Code) (p : Pos) : loopF self (c, p) = loopF self (c, default) := by
  unfold loopF
  split
  · next v r k q heq =>
    cases heq
    rfl
  · next h =>
    split
    · next v r k q heq =>
      cases heq
      exact absurd rfl (h v r k p)
    · rfl
theorem loopF_off (self : Value) (c : Code) (p : Pos) (h : c.isGuard = false) : loopF self (c, p) = false := by
  unfold loopF
  split
  · next v r k q heq =>
    cases heq
    simp [Code.isGuard, guardIds] at h
  · rfl
def blkL (g : List Code) (b : Addr) : Bool := g.any fun c => loopF (.ref b) (c, default)
def blkT (g : List Code) (b : Addr) : Bool := g.any fun c => tupGuardF (.ref b) (c, default)
mutual
def AT.data : AT → PyData
  | .leaf d => d
  | .lst _ l => .list (AT.dataAll l)
  | .tup _ l => .tuple (AT.dataAll l)
def AT.dataAll : List AT → List PyData
  | [] => []
  | t :: l => AT.data t :: AT.dataAll l
end
mutual
def AT.txt (g : List Code) : AT → Str
  | .leaf d => d.shown
  | .lst _ [] => "[]"
  | .lst a (t :: l) => if blkL g a then "[...]" else listText (AT.txt g t :: AT.txtAll g l)
  | .tup a l => if blkT g a then "(...)" else tupleText (AT.txtAll g l)
def AT.txtAll (g : List Code) : List AT → List Str
  | [] => []
  | t :: l => AT.txt g t :: AT.txtAll g l
end
/-! how long it may come to be -/
mutual
def AT.wid : AT → Nat
  | .leaf d => d.shown.length
  | .lst _ l => 6 + AT.widAll l
  | .tup _ l => 6 + AT.widAll l
def AT.widAll : List AT → Nat
  | [] => 0
  | t :: l => AT.wid t + 2 + AT.widAll l
end
theorem txtAll_sum (g : List Code) : ∀ (l : List AT), (∀ t ∈ l, (AT.txt g t).length ≤ AT.wid t) → ((AT.txtAll g l).map (·.length)).sum + 2 * (AT.txtAll g l).length ≤ AT.widAll l
  | [], _ => by simp [AT.txtAll, AT.widAll]
  | t :: l, h => by
    have h1 := h t List.mem_cons_self
    have h2 := txtAll_sum g l fun u hu => h u (List.mem_cons_of_mem _ hu)
    simp only [AT.txtAll, AT.widAll, List.map_cons, List.sum_cons, List.length_cons]
    omega
mutual
theorem txt_wid (g : List Code) : ∀ t : AT, (AT.txt g t).length ≤ AT.wid t
  | .leaf d => by rw [AT.txt, AT.wid]; exact Nat.le_refl _
  | .lst a [] => by
    rw [AT.txt, AT.wid]
    have : (("[]" : String) : Str).length = 2 := rfl
    omega
  | .lst a (t :: l) => by
    rw [AT.txt, AT.wid]
    split
    · have : (("[...]" : String) : Str).length = 5 := rfl
      omega
    · have h := listText_len_le (AT.txt g t :: AT.txtAll g l)
      have h2 := txtAll_sum g (t :: l) (txt_widAll g (t :: l))
      rw [AT.txtAll] at h2
      omega
  | .tup a l => by
    rw [AT.txt, AT.wid]
    split
    · have : (("(...)" : String) : Str).length = 5 := rfl
      omega
    · have h := tupleText_len_le (AT.txtAll g l)
      have h2 := txtAll_sum g l (txt_widAll g l)
      omega
theorem txt_widAll (g : List Code) : ∀ l : List AT, ∀ t ∈ l, (AT.txt g t).length ≤ AT.wid t
  | [], _, h => nomatch h
  | u :: l, t, h => by
    rcases List.mem_cons.mp h with e | h
    · rw [e]
      exact txt_wid g u
    · exact txt_widAll g l t h
end
def Agr (g0 g : List Code) (as : List Addr) : Prop := ∀ b ∈ as, blkL g b = blkL g0 b ∧ blkT g b = blkT g0 b
theorem Agr.refl (g : List Code) (as : List Addr) : Agr g g as := fun _ _ => ⟨rfl, rfl⟩
theorem ref_beq {a b : Addr} (n : a ≠ b) : (Value.ref a == Value.ref b) = false := beq_eq_false_iff_ne.mpr fun e => n (Value.ref.inj e)
theorem Agr.cons {g0 g : List Code} {as : List Addr} {a : Addr} {id : String} {rest : List Value} {kw : List (Str × Value)} (h : Agr g0 g as) (n : a ∉ as) : Agr g0 (.builtin id ⟨.ref a :: rest, kw⟩ :: g) as := by
  intro b hb
  have ne : a ≠ b := fun e => n (e ▸ hb)
  obtain ⟨h1, h2⟩ := h b hb
  constructor
  · rw [← h1]
    unfold blkL
    rw [List.any_cons]
    have : loopF (.ref b) (Code.builtin id ⟨.ref a :: rest, kw⟩, default) = false := by
      unfold loopF
      split
      · next v r k q heq =>
        cases heq
        exact listSameRef_of_ne fun e => ne (Value.ref.inj e)
      · rfl
    rw [this, Bool.false_or]
  · rw [← h2]
    unfold blkT
    rw [List.any_cons]
    have : tupGuardF (.ref b) (Code.builtin id ⟨.ref a :: rest, kw⟩, default) = false := by
      simp only [tupGuardF, ref_beq ne, Bool.false_and]
    rw [this, Bool.false_or]
end
section
open PySem.Spec PyProof.Rows
open Sem (wp)
open Builtin Builtin.List
variable {prog : Program} {w : World} {g0 : List Code}
def ReprD (prog : Program) (w : World) (g0 : List Code) (as : List Addr) (h0 : Heap) (d : Nat) (x : Value) (t : Str) : Prop :=
  ∀ (n : Nat), n + t.length ≤ sizeLine → ∀ (A : Around) (g : List Code) (E : Value → Shared → Prop) (s : Shared) (Q : Str → Shared → Prop), A.guards = some g → Agr g0 g as → A.units + d < cLine →
    (∀ b o, h0.get? b = some o → s.heap.get? b = some o) → (∀ h' tk, (∀ b o, s.heap.get? b = some o → h'.get? b = some o) → Q t { s with heap := h', toks := tk }) → wpAny (model prog w) A (pyReprUnder n x) Q E s
theorem ReprD.leaf {x : Value} {t : Str} (h : ReprIs prog w x t) (as : List Addr) (h0 : Heap) (d : Nat) : ReprD prog w g0 as h0 d x t :=
  fun n hn A _ E s Q _ _ _ _ q => h n hn A E s Q fun tk => q s.heap tk fun _ _ e => e
theorem ReprD.wide {as bs : List Addr} {h0 : Heap} {d e : Nat} {x : Value} {t : Str} (h : ReprD prog w g0 as h0 d x t) (i : ∀ b ∈ as, b ∈ bs) (l : d ≤ e) : ReprD prog w g0 bs h0 e x t :=
  fun n hn A g E s Q hg ha hu hk q => h n hn A g E s Q hg (fun b hb => ha b (i b hb)) (by omega) hk q
/-- the loop of list.__repr__ -/
theorem loopD {A : Around} {R : Result → Shared → Prop} {a P : Addr} (hne : a ≠ P) {items : Array Value} {ts : List Str} {as : List Addr} {h0 : Heap} {d n : Nat} {g : List Code} (hg : A.guards = some g) (hag : Agr g0 g as)
    (hu : A.units + (d + 1) < cLine) (hna : a ∉ as) (hPf : h0.get? P = none) (hlen : ts.length = items.size)
    (hT : ∀ (i : Nat) (x : Value), items[i]? = some x → ∃ t, ts[i]? = some t ∧ ReprD prog w g0 as h0 d x t) (hsz : n + (listText ts).length ≤ sizeLine) :
    ∀ (k i : Nat) (s : Shared) (oa : Obj) (na : Nat) (acc : Array Value) (c : Nat) (done : List (Str × Tok)), items.size - i = k → i ≤ items.size → (∀ b o, h0.get? b = some o → s.heap.get? b = some o) →
      s.heap.get? a = some oa → oa.data = .seq items na → s.heap.get? P = some { cls := .type "list", dict := none, data := .seq acc c, slots := #[] } → acc.toList = strValues done → done.map (·.1) = ts.take i →
      (∀ h' u tk, (∀ b o, b ≠ P → s.heap.get? b = some o → h'.get? b = some o) → R (.ok (.ret (.str (listText ts) u))) { s with heap := h', toks := tk }) →
      codeAny (model prog w) A (.builtin "list.__repr__.loop" ⟨[.ref a, rawInt i, .ref P, rawInt ((n + piled (ts.take i) : Nat) : Int)], []⟩) R s := by
  have hX : (listText ts).length = (textFrom 0 "[" ts).length + 1 := by
    show ((textFrom 0 "[" ts) ++ ("]" : Str)).length = _
    rw [strLen_append]
    rfl
  obtain ⟨hL1, hL2, _⟩ := textFrom_len ts 0 "["
  rw [if_neg (Nat.lt_irrefl 0)] at hL1
  have hsz1 : items.size ≤ sizeLine := by omega
  have hp3 := piled_le_listText ts
  intro k
  induction k with
  | zero =>
    intro i s oa na acc c done hk hi hk0 ha hda hP hacc hdone hR
    have hin : i = items.size := by omega
    refine codeAny_builtin F.entry_list_repr_loop ?_
    show wpAny _ _ («list.__repr__.loop» ⟨[.ref a, .int i 0, .ref P, .int ((n + piled (ts.take i) : Nat) : Int) 0], []⟩) _ _ s
    rw [repr_loop_tree]
    refine wpAny_bind (wpAny_listItems ha hda ?_)
    have e0 : items[(i : Int).toNat]? = none := by simp [hin]
    simp only [e0]
    unfold reprEnd
    refine wpAny_bind (wpAny_listItems hP rfl ?_)
    rw [hacc, repr_fold]
    refine wpAny_bind (wpAny_pure ?_)
    have e1 : done.map (·.1) = ts := by rw [hdone, hin, ← hlen, List.take_length]
    rw [e1]
    exact wpAny_bind (wpAny_mkStr (wpAny_pure (hR s.heap _ _ fun _ _ _ e => e)) (show (listText ts).length ≤ sizeLine by omega))
  | succ k ih =>
    intro i s oa na acc c done hk hi hk0 ha hda hP hacc hdone hR
    have hlt : i < items.size := by omega
    obtain ⟨t, ht, hrep⟩ := hT i items[i] (by simp [hlt])
    have hp1 := piled_take_succ ht
    have hp2 := piled_take_le ts (i + 1)
    have ht2 := hL2 t (List.mem_of_getElem? ht)
    refine codeAny_builtin F.entry_list_repr_loop ?_
    show wpAny _ _ («list.__repr__.loop» ⟨[.ref a, .int i 0, .ref P, .int ((n + piled (ts.take i) : Nat) : Int) 0], []⟩) _ _ s
    rw [repr_loop_tree]
    refine wpAny_bind (wpAny_listItems ha hda ?_)
    have e0 : items[(i : Int).toNat]? = some items[i] := by simp [hlt]
    simp only [e0]
    rw [Int.toNat_natCast]
    refine wpAny_bind (wpAny_holding (hrep (n + piled (ts.take i) + 1) (by omega) _ _ _ _ _ (guards_under_guard (isGuard_list_loop _) hg) (hag.cons (a := a) hna) (by rw [units_under_list_loop]; omega) hk0 fun h' tk hkp => ?_))
    refine wpAny_bind (wpAny_mkStr ?_ (by omega))
    refine wpAny_bind ?_
    show wpAny _ _ (updateSeq P _) _ _ _
    have hasz : acc.size ≤ sizeLine := by
      have e1 : acc.toList.length = acc.size := by simp
      have e2 : (strValues done).length = (done.map (·.1)).length := by simp [strValues]
      rw [hdone, List.length_take] at e2
      rw [hacc] at e1
      omega
    refine wpAny_updateSeq (hkp _ _ hP) rfl (wpAny_pure ⟨F.quiet_list_repr_loop _, ?_⟩) hasz
    have f1 : ((i : Int) + 1) = ((i + 1 : Nat) : Int) := by omega
    have f2 : n + piled (ts.take i) + (t.length + 2) = n + piled (ts.take (i + 1)) := by omega
    rw [f1, f2]
    have out : ∀ {b : Addr}, b ≠ P → P ≠ b := fun z e => z e.symm
    refine ih (i + 1) _ oa na (acc.push (.str t tk)) _ (done ++ [(t, tk)]) (by omega) hlt (fun b o e => (Heap.get?_update_other _ _ (out fun z => by rw [z, hPf] at e; cases e)).trans (hkp _ _ (hk0 _ _ e)))
      ((Heap.get?_update_other _ _ (out hne)).trans (hkp _ _ ha)) hda (Heap.get?_update_self _ (hkp _ _ hP) rfl) (by simp [hacc, strValues]) (by simp [List.take_add_one, ht, hdone]) fun h'' u tk' hh => ?_
    exact hR h'' u tk' fun b o hb e => hh b o hb ((Heap.get?_update_other _ _ (out hb)).trans (hkp _ _ e))
end
section
open PySem.Spec PyProof.Rows
open Sem (wp)
open Builtin Builtin.List
variable {prog : Program} {w : World} {g0 : List Code}
abbrev finE (prog : Program) (w : World) (A : Around) (R : Result → Shared → Prop) : Fin → Shared → Prop := fun f s => match f with
  | .done v => R (.ok v) s
  | .again c => c.quiet = true ∧ codeAny (model prog w) A c R s
/-- the list is being shown already -/
theorem list_way {A : Around} {g : List Code} {c : Code} {a : Addr} {o : Obj} {x : Value} {l : List Value} {m n : Nat} {s : Shared} {Q : Fin → Shared → Prop} {E : Value → Shared → Prop} (hg : A.guards = some g) (hb : blkL g a = true)
    (ha : s.heap.get? a = some o) (hd : o.data = .seq (x :: l).toArray m) (h : ∀ u tk, Q (.done (.ret (.str "[...]" u))) { s with toks := tk }) : wpOwn (model prog w) A c (listReprAt n ⟨[.ref a], []⟩) Q E s := by
  intro Γ p hc hΓ
  have k : wpAny (model prog w) (A.under c) (do rule "list.__repr__.in-itself"; retStr "[...]") Q E s :=
    wpAny_bind (wpAny_rule (wpAny_bind (wpAny_mkStr (wpAny_pure (h _ _)) (by decide +kernel))))
  have k1 := k Γ p (hc ▸ hΓ.in)
  unfold listReprAt
  simp [slotArgs, listItems, seqItems?, Sem.wp_load_of (h := ha), hd, stack]
  show wp _ Γ (if (Γ.below.any (loopF (.ref a))) = true then _ else _) _ _ p s
  rw [if_pos]
  · exact k1
  · rw [any_eq_guards (loopF_off _) (loopF_pos _), hΓ.2.2.2.1 g hg]
    exact hb
theorem list_no {g : List Code} {a : Addr} (h : blkL g a = false) (v : Value) (rest : List Value) (kw : List (Str × Value)) (hm : Code.builtin "list.__repr__.loop" ⟨v :: rest, kw⟩ ∈ g) : listSameRef v (.ref a) = false := by
  have := List.any_eq_false.mp h _ hm
  simpa [loopF] using this
theorem list_at {as : List Addr} {h0 : Heap} {d : Nat} {a : Addr} {oa : Obj} {x : Value} {l : List Value} {na : Nat} {ts : List Str} (ha : h0.get? a = some oa) (hda : oa.data = .seq (x :: l).toArray na) (hna : a ∉ as)
    (hlen : ts.length = (x :: l).toArray.size) (hT : ∀ (i : Nat) (y : Value), (x :: l).toArray[i]? = some y → ∃ t, ts[i]? = some t ∧ ReprD prog w g0 as h0 d y t) {A : Around} {g : List Code} {s : Shared} {R : Result → Shared → Prop} {n : Nat} {id : String} {rest : List Value}
    (hpl : plainId id = true) (hg : A.guards = some g) (hag : Agr g0 g (a :: as)) (hu : A.units + (d + 1) < cLine) (hk0 : ∀ b o, h0.get? b = some o → s.heap.get? b = some o)
    (hR : ∀ h' u tk, (∀ b o, s.heap.get? b = some o → h'.get? b = some o) → R (.ok (.ret (.str (if blkL g0 a then "[...]" else listText ts) u))) { s with heap := h', toks := tk })
    (hsz : blkL g0 a = false → n + (listText ts).length ≤ sizeLine) : wpOwn (model prog w) A (.builtin id ⟨.ref a :: rest, []⟩) (listReprAt n ⟨[.ref a], []⟩) (finE prog w A R) (fun e s' => R (.error e) s') s := by
  have e := (hag a List.mem_cons_self).1
  cases hB : blkL g0 a with
  | true =>
    rw [hB] at e
    simp only [hB] at hR
    exact list_way hg e (hk0 _ _ ha) hda fun u tk => hR s.heap u tk fun _ _ z => z
  | false =>
    rw [hB] at e
    simp only [hB] at hR
    have hPf : h0.get? s.heap.objs.size = none := by
      cases q : h0.get? s.heap.objs.size with
      | none => rfl
      | some o => exact absurd (Heap.lt_size (hk0 _ _ q)) (Nat.lt_irrefl _)
    refine wpOwn_of_wpAny ?_
    rw [Around.under_plainId hpl]
    refine wpAny_list_repr_head (A := A.in1) hg (list_no e) (hk0 _ _ ha) hda ?_
    refine wpAny_bind (m := newList []) (wpAny_newObj_type (wpAny_pure ⟨F.quiet_list_repr_loop _, ?_⟩))
    refine loopD (P := s.heap.objs.size) (g0 := g0) (Nat.ne_of_lt (Heap.lt_size (hk0 _ _ ha))) hg (fun b hb => hag b (List.mem_cons_of_mem _ hb)) hu hna hPf hlen hT (hsz hB) _ 0 _ oa na #[] _ [] rfl (Nat.zero_le _)
      (fun b o z => Heap.get?_push_of_some _ (hk0 _ _ z)) (Heap.get?_push_of_some _ (hk0 _ _ ha)) hda (Heap.get?_push_size _ rfl) rfl (by simp) fun h' u tk hk => ?_
    exact hR h' u tk fun b o z => hk b o (Nat.ne_of_lt (Heap.lt_size z)) (Heap.get?_push_of_some _ z)
inductive ReprDs (prog : Program) (w : World) (g0 : List Code) (as : List Addr) (h0 : Heap) (d : Nat) : List Value → List Str → Prop
  | nil : ReprDs prog w g0 as h0 d [] []
  | cons {x : Value} {t : Str} {l : List Value} {ts : List Str} : ReprD prog w g0 as h0 d x t → ReprDs prog w g0 as h0 d l ts → ReprDs prog w g0 as h0 d (x :: l) (t :: ts)
theorem ReprDs.len {as : List Addr} {h0 : Heap} {d : Nat} : ∀ {l : List Value} {ts : List Str}, ReprDs prog w g0 as h0 d l ts → ts.length = l.length
  | _, _, .nil => rfl
  | _, _, .cons _ h => by rw [List.length_cons, List.length_cons, h.len]
theorem ReprDs.item {as : List Addr} {h0 : Heap} {d : Nat} : ∀ {l : List Value} {ts : List Str}, ReprDs prog w g0 as h0 d l ts → ∀ (i : Nat) (y : Value), l[i]? = some y → ∃ t, ts[i]? = some t ∧ ReprD prog w g0 as h0 d y t
  | _, _, .nil, i, y, e => by simp at e
  | _, _, .cons hx _, 0, y, e => by
    cases Option.some.inj e
    exact ⟨_, rfl, hx⟩
  | _, _, .cons _ hl, i + 1, y, e => hl.item i y e
theorem ReprDs.wide {as bs : List Addr} {h0 : Heap} {d e : Nat} (i : ∀ b ∈ as, b ∈ bs) (l : d ≤ e) : ∀ {vs : List Value} {ts : List Str}, ReprDs prog w g0 as h0 d vs ts → ReprDs prog w g0 bs h0 e vs ts
  | _, _, .nil => .nil
  | _, _, .cons hx hl => .cons (hx.wide i l) (hl.wide i l)
theorem tup_fold {A : Around} {E : Value → Shared → Prop} {as : List Addr} {h0 : Heap} {d : Nat} {g : List Code} (hg : A.guards = some g) (hag : Agr g0 g as) (hu : A.units + d < cLine) :
    ∀ (l : List Value) (ts : List Str) (acc : Array Str) (n : Nat) (s : Shared) (Q : (Array Str × Nat) → Shared → Prop), ReprDs prog w g0 as h0 d l ts → n + piled ts ≤ sizeLine → (∀ b o, h0.get? b = some o → s.heap.get? b = some o) →
      (∀ h' tk, (∀ b o, s.heap.get? b = some o → h'.get? b = some o) → Q ⟨acc ++ ts.toArray, n + piled ts⟩ { s with heap := h', toks := tk }) → wpAny (model prog w) A (forIn l (⟨acc, n⟩ : (Array Str × Nat)) tupBody) Q E s := by
  intro l
  induction l with
  | nil =>
    intro ts acc n s Q hT _ _ q
    cases hT
    have q0 := q s.heap s.toks fun _ _ e => e
    simp only [List.forIn_nil]
    exact wpAny_pure (by simpa [piled] using q0)
  | cons x l ih =>
    intro ts acc n s Q hT hn hk0 q
    cases hT with
    | cons hx hl =>
      rename_i t ts'
      rw [piled_cons] at hn
      rw [List.forIn_cons]
      refine wpAny_bind (wpAny_bind (hx (n + 1) (by omega) _ _ _ _ _ hg hag hu hk0 fun h' tk hk1 => wpAny_pure ?_))
      refine ih ts' (acc.push t) (n + (t.length + 2)) _ Q hl (by omega) (fun b o z => hk1 _ _ (hk0 _ _ z)) fun h'' tk' hk2 => ?_
      have q1 := q h'' tk' fun b o z => hk2 _ _ (hk1 _ _ z)
      rw [show n + piled (t :: ts') = n + (t.length + 2) + piled ts' by rw [piled_cons]; omega] at q1
      simpa using q1
theorem tup_at {as : List Addr} {h0 : Heap} {d : Nat} {a : Addr} {o : Obj} {items : Array Value} {na : Nat} {ts : List Str} (ha : h0.get? a = some o) (hd : o.data = .seq items na) (hna : a ∉ as) (hT : ReprDs prog w g0 as h0 d items.toList ts)
    {A : Around} {g : List Code} {s : Shared} {R : Result → Shared → Prop} {n : Nat} {id : String} {rest : List Value} (hcg : (Code.builtin id ⟨.ref a :: rest, []⟩).isGuard = true) (hcu : (A.under (.builtin id ⟨.ref a :: rest, []⟩)).units = A.units + 1)
    (hg : A.guards = some g) (hag : Agr g0 g (a :: as)) (hu : A.units + (d + 1) < cLine) (hk0 : ∀ b o, h0.get? b = some o → s.heap.get? b = some o)
    (hR : ∀ h' u tk, (∀ b o, s.heap.get? b = some o → h'.get? b = some o) → R (.ok (.ret (.str (if blkT g0 a then "(...)" else tupleText ts) u))) { s with heap := h', toks := tk })
    (hsz : blkT g0 a = false → n + (tupleText ts).length ≤ sizeLine) : wpOwn (model prog w) A (.builtin id ⟨.ref a :: rest, []⟩) (tupleReprAt n ⟨[.ref a], []⟩) (finE prog w A R) (fun e s' => R (.error e) s') s := by
  have e := (hag a List.mem_cons_self).2
  unfold blkT at e
  have hlen : ts.length = items.size := by simpa using hT.len
  have hp := piled_le_tupleText ts
  rw [tuple_repr_tree, tupleReprUnderWay_eq]
  refine wpOwn_bind (wpOwn_stackTailAny hg (tupGuardF_off _) (tupGuardF_pos _) ?_)
  rw [e]
  show wpOwn _ _ _ (if blkT g0 a = true then _ else _) _ _ _
  refine wpOwn_of_wpAny ?_
  cases hB : blkT g0 a with
  | true =>
    simp only [hB] at hR
    refine PySem.W.KFB.if_so rfl ?_
    exact wpAny_bind (wpAny_rule (wpAny_bind (wpAny_mkStr (wpAny_pure (hR s.heap _ _ fun _ _ z => z)) (by decide +kernel))))
  | false =>
    simp only [hB] at hR
    have hz := hsz hB
    refine PySem.W.KFB.if_not rfl ?_
    unfold tupleReprRest Builtin.Tuple.tupleItemsOf
    refine wpAny_bind (wpAny_bind (wpAny_seqItems (hk0 _ _ ha) hd (wpAny_pure ?_)))
    rw [← Array.forIn_toList]
    refine wpAny_bind (tup_fold (g0 := g0) (guards_under_guard hcg hg) (Agr.cons (a := a) (fun b hb => hag b (List.mem_cons_of_mem _ hb)) hna) (by rw [hcu]; omega) _ ts _ _ _ _ hT (by omega) hk0 fun h' tk hk1 => ?_)
    refine wpAny_bind (wpAny_mkStr (wpAny_pure ?_) (by simpa [tupleText, hlen] using (show (tupleText ts).length ≤ sizeLine by omega)))
    have q := hR h' tk (tk + 1) hk1
    simpa [tupleText, hlen] using q
end
section
open PySem.Spec PyProof.Rows
open Sem (wp)
open Builtin Builtin.List
variable {prog : Program} {w : World} {g0 : List Code}
theorem ReprD.lst {as : List Addr} {h0 : Heap} {d : Nat} {a : Addr} {oa : Obj} {x : Value} {l : List Value} {na : Nat} {ts : List Str} (ha : h0.get? a = some oa) (hc : oa.cls = .type "list") (hda : oa.data = .seq (x :: l).toArray na) (hna : a ∉ as)
    (hT : ReprDs prog w g0 as h0 d (x :: l) ts) : ReprD prog w g0 (a :: as) h0 (d + 1) (.ref a) (if blkL g0 a then "[...]" else listText ts) := by
  intro n hn A g E s Q hg hag hu hk q
  have hl : ts.length = (x :: l).toArray.size := by simpa using hT.len
  refine wpAny_pyReprUnder_ref (by omega) (wpAny_pyReprObjUnder_twin (twin := "list.__repr__.under") ⟨oa, hk _ _ ha, hc⟩ F.slot_list_repr.toG rfl (by omega) ?_)
  refine call_twin_own (Code.quiet_builtin _ (by decide +kernel)) F.entry_list_repr_under F.check_list_repr_under ⟨oa, hk _ _ ha, hc⟩ F.slot_list_repr.toG (F.args_list_repr_1 _) ?_
  refine list_at (R := callEnd _ E) ha hda hna hl (fun i y e => hT.item i y (by simpa using e)) F.plain_list_repr_under hg hag hu hk (fun h' u tk hk1 => ⟨⟨_, _, rfl⟩, _, _, rfl, q h' tk hk1⟩) fun hB => ?_
  rw [hB] at hn
  exact hn
theorem ReprD.bare {as : List Addr} {h0 : Heap} {d : Nat} {a : Addr} {oa : Obj} {na : Nat} (ha : h0.get? a = some oa) (hc : oa.cls = .type "list") (hda : oa.data = .seq #[] na) : ReprD prog w g0 as h0 d (.ref a) "[]" := by
  intro n hn A g E s Q _ _ hu hk q
  exact wpAny_pyReprUnder_ref (by omega) (wpAny_pyReprObjUnder_list_empty ⟨oa, hk _ _ ha, hc⟩ (by omega) (hk _ _ ha) hda ⟨_, _, rfl, q s.heap _ fun _ _ e => e⟩)
theorem ReprD.tup {as : List Addr} {h0 : Heap} {d : Nat} {a : Addr} {oa : Obj} {items : Array Value} {na : Nat} {ts : List Str} (ha : h0.get? a = some oa) (hc : oa.cls = .type "tuple") (hda : oa.data = .seq items na) (hna : a ∉ as)
    (hT : ReprDs prog w g0 as h0 d items.toList ts) : ReprD prog w g0 (a :: as) h0 (d + 1) (.ref a) (if blkT g0 a then "(...)" else tupleText ts) := by
  intro n hn A g E s Q hg hag hu hk q
  refine wpAny_pyReprUnder_ref (by omega) (wpAny_pyReprObjUnder_twin (twin := "tuple.__repr__.under") ⟨oa, hk _ _ ha, hc⟩ F.slot_tuple_repr rfl (by omega) ?_)
  refine call_twin_own (F.quiet_tuple_repr_under _) F.entry_tuple_repr_under F.check_tuple_repr_under ⟨oa, hk _ _ ha, hc⟩ F.slot_tuple_repr (F.args_tuple_repr_1 _) ?_
  refine tup_at (R := callEnd _ E) ha hda hna hT (isGuard_tuple_repr_under _) (units_under_tuple_repr_under _ _) hg hag hu hk (fun h' u tk hk1 => ⟨⟨_, _, rfl⟩, _, _, rfl, q h' tk hk1⟩) fun hB => ?_
  rw [hB] at hn
  exact hn
mutual
theorem Ap.dp {K : PySem.W.Frag} {H : Hp} : ∀ {v : V} {t : AT}, Ap K H v t → Dp K H v t.data
  | _, _, .non => .non
  | _, _, .bl b => .bl b
  | _, _, .int i => .int i
  | _, _, .str x => .str x
  | _, _, .lst h a => by rw [AT.data]; exact .lst h a.dp
  | _, _, .tup h a => by rw [AT.data]; exact .tup h a.dp
theorem ApAll.dp {K : PySem.W.Frag} {H : Hp} : ∀ {vs : List V} {l : List AT}, ApAll K H vs l → DpAll K H vs (AT.dataAll l)
  | _, _, .nil => by rw [AT.dataAll]; exact .nil
  | _, _, .cons h a => by rw [AT.dataAll]; exact .cons h.dp a.dp
end
mutual
theorem Ap.same {K : PySem.W.Frag} {H H' : Hp} (e : Same H H') : ∀ {v : V} {t : AT}, Ap K H v t → Ap K H' v t
  | _, _, .non => .non
  | _, _, .bl b => .bl b
  | _, _, .int i => .int i
  | _, _, .str x => .str x
  | _, _, .lst h a => .lst (e.seq h) (ApAll.same e a)
  | _, _, .tup h a => .tup (same_t e h) (ApAll.same e a)
theorem ApAll.same {K : PySem.W.Frag} {H H' : Hp} (e : Same H H') : ∀ {vs : List V} {l : List AT}, ApAll K H vs l → ApAll K H' vs l
  | _, _, .nil => .nil
  | _, _, .cons h a => .cons (Ap.same e h) (ApAll.same e a)
end
section
variable {X : Cx} {pins : List (Addr × Obj)} {σ : L2.St} {H : Hp} {s : Shared}
mutual
theorem repr_of (I : Inv X pins σ H s) : ∀ (t : AT) (v : V) (u : Value), Ap X.K H v t → RelV v u → t.data.showable = true → t.wid ≤ sizeLine → ∃ bs, ReadAtMost s.heap t.data.depth bs ∧ ReprD X.prog X.w g0 bs s.heap t.data.depth u (t.txt g0)
  | .leaf d, v, u, h, r, hs, hw => by
    refine ⟨[], (fun _ z => nomatch z), ?_⟩
    rw [AT.txt]
    rw [AT.wid] at hw
    cases h with
    | non =>
      cases r
      exact .leaf ReprIs.none _ _ _
    | bl b =>
      cases r
      exact .leaf (ReprIs.bool b) _ _ _
    | int i =>
      obtain ⟨k, rfl⟩ := r
      exact .leaf (ReprIs.int k (by simpa [AT.data, PyData.showable] using hs)) _ _ _
    | str x =>
      obtain ⟨k, rfl⟩ := r
      exact .leaf (ReprIs.str x k (by simpa only [PyData.shown] using hw)) _ _ _
  | .lst a [], v, u, h, r, hs, hw => by
    cases h with
    | lst hq ha =>
      cases ha
      cases r
      obtain ⟨its, rv, ⟨o, n, ho, hc, _, hd⟩, _⟩ := I.list hq
      cases rv
      rw [AT.txt]
      exact ⟨[], (fun _ z => nomatch z), ReprD.bare ho hc hd⟩
  | .lst a (t :: l), v, u, h, r, hs, hw => by
    obtain ⟨as, hR⟩ := Dp.reads I _ v u h.dp r
    cases h with
    | lst hq ha =>
      cases r
      obtain ⟨its, rv, ⟨o, n, ho, hc, _, hd⟩, _⟩ := I.list hq
      rw [AT.data, PyData.showable] at hs
      rw [AT.wid] at hw
      obtain ⟨bs, hb, hk⟩ := repr_ofAll I (t :: l) _ its ha rv hs (by omega)
      rw [AT.data] at hR
      have hna : a ∉ bs := not_mem_of_deeper hR (by simp only [PyData.depth]; omega) hb
      refine ⟨a :: bs, ?_, ?_⟩
      · rw [AT.data]
        exact ReadAtMost.cons hR (by simp only [PyData.depth]; omega) hb
      · rw [AT.txt, AT.data, PyData.depth]
        cases ha with
        | cons h1 h2 =>
          cases rv with
          | cons r1 r2 =>
            rw [AT.txtAll] at hk
            exact .lst ho hc hd hna hk
  | .tup a l, v, u, h, r, hs, hw => by
    obtain ⟨as, hR⟩ := Dp.reads I _ v u h.dp r
    cases h with
    | tup hq ha =>
      cases r
      obtain ⟨its, rv, ⟨o, ho, hc, n, hd⟩, _⟩ := I.tuple hq
      rw [AT.data, PyData.showable] at hs
      rw [AT.wid] at hw
      obtain ⟨bs, hb, hk⟩ := repr_ofAll I l _ its ha rv hs (by omega)
      rw [AT.data] at hR
      have hna : a ∉ bs := not_mem_of_deeper hR (by simp only [PyData.depth]; omega) hb
      refine ⟨a :: bs, ?_, ?_⟩
      · rw [AT.data]
        exact ReadAtMost.cons hR (by simp only [PyData.depth]; omega) hb
      · rw [AT.txt, AT.data, PyData.depth]
        exact .tup ho hc hd hna (by simpa using hk)
theorem repr_ofAll (I : Inv X pins σ H s) : ∀ (l : List AT) (vs : List V) (us : List Value), ApAll X.K H vs l → Vals vs us → PyData.showableAll (AT.dataAll l) = true → AT.widAll l ≤ sizeLine → ∃ bs, ReadAtMost s.heap (PyData.depthAll (AT.dataAll l)) bs ∧ ReprDs X.prog X.w g0 bs s.heap (PyData.depthAll (AT.dataAll l)) us (AT.txtAll g0 l)
  | [], _, _, h, r, _, _ => by
    cases h
    cases r
    exact ⟨[], (fun _ z => nomatch z), by rw [AT.txtAll]; exact .nil⟩
  | t :: l, _, _, h, r, hs, hw => by
    cases h with
    | cons h1 h2 =>
      cases r with
      | cons r1 r2 =>
        have hs' : t.data.showable = true ∧ PyData.showableAll (AT.dataAll l) = true := by simpa [AT.dataAll, PyData.showableAll] using hs
        rw [AT.widAll] at hw
        obtain ⟨b1, k1, m1⟩ := repr_of I t _ _ h1 r1 hs'.1 (by omega)
        obtain ⟨b2, k2, m2⟩ := repr_ofAll I l _ _ h2 r2 hs'.2 (by omega)
        rw [AT.dataAll, AT.txtAll, PyData.depthAll]
        exact ⟨b1 ++ b2, (k1.mono (Nat.le_max_left _ _)).append (k2.mono (Nat.le_max_right _ _)), .cons (m1.wide (fun b hb => List.mem_append_left _ hb) (Nat.le_max_left _ _)) (m2.wide (fun b hb => List.mem_append_right _ hb) (Nat.le_max_right _ _))⟩
end
end
end
section
open PySem.Spec PyProof.Rows
variable {X : Cx}
def gdX (X : Cx) (g : List Code) : Cx := { X with A := { X.A with guards := some g } }
theorem gd_inv {pins : List (Addr × Obj)} {σ : L2.St} {H : Hp} {s : Shared} {g : List Code} (I : Inv X pins σ H s) : Inv (gdX X g) pins σ H s :=
  ⟨⟨I.ok.mod, I.ok.kind, I.ok.glob, I.ok.blt, I.ok.above, I.ok.inj, I.ok.has, I.ok.cab, I.ok.hd, I.ok.frames, I.ok.stk, I.ok.exf, I.ok.bs, I.ok.bsz, I.ok.noex, I.ok.exfs, I.ok.funs, I.ok.frf⟩, I.os, I.bare, I.base, I.loc, I.cell, I.free, I.freeC, I.pin, I.hok, I.len⟩
theorem ungd_inv {pins : List (Addr × Obj)} {σ : L2.St} {H : Hp} {s : Shared} {g : List Code} (I : Inv (gdX X g) pins σ H s) : Inv X pins σ H s :=
  ⟨⟨I.ok.mod, I.ok.kind, I.ok.glob, I.ok.blt, I.ok.above, I.ok.inj, I.ok.has, I.ok.cab, I.ok.hd, I.ok.frames, I.ok.stk, I.ok.exf, I.ok.bs, I.ok.bsz, I.ok.noex, I.ok.exfs, I.ok.funs, I.ok.frf⟩, I.os, I.bare, I.base, I.loc, I.cell, I.free, I.freeC, I.pin, I.hok, I.len⟩
theorem gd_in {Γ : PySem.Ctx} {A : Around} (h : Γ.In A) : Γ.In { A with guards := some (Γ.code.guards ++ guardsOf Γ.below) } :=
  ⟨h.1, h.2.1, h.2.2.1, fun g hg => Option.some.inj hg, h.2.2.2.2⟩
theorem gd_room {k : Nat} {g : List Code} {A : Around} (h : Room k A) : Room k { A with guards := some g } := ⟨h.hd, h.dp, h.un⟩
/-- a block, for each list of what is being shown around it -/
theorem pss_gd {b : List Stmt} {t : List Code → TS} (h : ∀ g, PSs (gdX X g) b (t g)) : PSs X b (fun D σ H => ∀ g, t g D σ H) := by
  refine ⟨fun pins s σ H D I q Γ p hΓ => ?_⟩
  have k := (h (Γ.code.guards ++ guardsOf Γ.below)).run pins s σ H D (gd_inv I) (q _)
  refine (wpAny_mono k (fun f s' z => ?_) fun e s' z => z) Γ p (gd_in hΓ)
  cases f with
  | next =>
    obtain ⟨σ', H', J, z⟩ := z
    exact ⟨σ', H', ungd_inv J, z⟩
  | brk =>
    obtain ⟨σ', H', J, z⟩ := z
    exact ⟨σ', H', ungd_inv J, z⟩
  | cont =>
    obtain ⟨σ', H', J, z⟩ := z
    exact ⟨σ', H', ungd_inv J, z⟩
  | ret u =>
    obtain ⟨v, σ', H', J, r, z⟩ := z
    exact ⟨v, σ', H', ungd_inv J, r, z⟩
def rRepr (K : PySem.W.Frag) (g : List Code) : List V → Hp → VK → Prop := fun xs H Q => ∃ (v : V) (t : AT), xs = [v] ∧ Ap K H v t ∧ t.data.showable = true ∧ t.wid ≤ sizeLine ∧ t.data.depth ≤ 40 ∧ Q (.str (t.txt g)) H
theorem call_reprA {g : List Code} (hg : X.A.guards = some g) (hu : X.A.units + 64 < cLine) : CallR X (.builtin "repr") (rRepr X.K g) := by
  intro pins s σ H xs us Q I r h
  obtain ⟨v, t, rfl, ha, hs, hw, hd, q⟩ := h
  obtain ⟨u, rfl, ru⟩ := r.one
  have fin : ∀ (h' : Heap) (k tk : Tok), (∀ b o, s.heap.get? b = some o → h'.get? b = some o) → EP X pins σ Q (.str (t.txt g) k) { s with heap := h', toks := tk } := fun h' k tk hk => ⟨.str _, H, I.kept hk, ⟨_, rfl⟩, q⟩
  have fin0 : EP X pins σ Q (.str (t.txt g) s.toks) { s with toks := s.toks + 1 } := fin s.heap _ _ fun _ _ e => e
  cases t with
  | leaf d =>
    rw [AT.txt] at fin0
    rw [AT.wid] at hw
    cases ha with
    | non =>
      cases ru
      exact PySem.P.repr_of_none fin0
    | bl b =>
      cases ru
      exact PySem.P.repr_of_bool fin0
    | int i =>
      obtain ⟨k, rfl⟩ := ru
      exact PySem.P.repr_of_int (by simpa [AT.data, PyData.showable] using hs) fin0
    | str x =>
      obtain ⟨k, rfl⟩ := ru
      exact PySem.P.repr_of_str fin0 (by simpa only [PyData.shown] using hw)
  | lst a l =>
    have ha0 := ha
    obtain ⟨as, hR⟩ := Dp.reads I _ v u ha.dp ru
    cases ha with
    | lst hq hl =>
      cases ru
      obtain ⟨its, rv, ⟨o, n, ho, hc, _, hdt⟩, _⟩ := I.list hq
      refine call_repr_slot (by omega) ⟨o, ho, hc⟩ F.slot_list_repr.toG ?_
      cases l with
      | nil =>
        cases hl
        cases rv
        rw [AT.txt] at fin
        exact call_list_repr_empty ⟨o, ho, hc⟩ ho hdt ⟨_, _, rfl, fin s.heap _ _ fun _ _ e => e⟩
      | cons t l =>
        rw [AT.data, PyData.showable] at hs
        rw [AT.wid] at hw
        rw [AT.data, PyData.depth] at hd
        obtain ⟨bs, hb, hk⟩ := repr_ofAll (g0 := g) I (t :: l) _ its hl rv hs (by omega)
        rw [AT.data] at hR
        have hna : a ∉ bs := not_mem_of_deeper hR (by simp only [PyData.depth]; omega) hb
        cases hl with
        | cons h1 h2 =>
          cases rv with
          | cons r1 r2 =>
            rw [AT.txtAll] at hk
            rw [AT.txt] at fin
            have hz := txt_wid g (AT.lst a (t :: l))
            rw [AT.txt, AT.wid] at hz
            refine wpAny_call (codeAny_call_builtin_own (Code.quiet_builtin _ (by decide +kernel)) F.entry_list_repr (F.slot_list_repr.toG.check _ _ _ _ _ _ _ _ ⟨o, ho, hc⟩ (F.args_list_repr_1 _) ?_))
            refine list_at (R := callEnd _ _) (n := 0) ho hdt hna (by simpa using hk.len) (fun i y e => hk.item i y (by simpa using e)) F.slot_list_repr.plain hg (Agr.refl _ _) (by show X.A.units + 1 + _ < _; omega) (fun _ _ e => e) (fun h' u tk hk1 => ⟨_, _, rfl, fin h' u tk hk1⟩) fun hB => ?_
            rw [hB] at hz
            have hz2 : (listText (AT.txt g t :: AT.txtAll g l)).length ≤ 6 + AT.widAll (t :: l) := hz
            omega
  | tup a l =>
    obtain ⟨as, hR⟩ := Dp.reads I _ v u ha.dp ru
    cases ha with
    | tup hq hl =>
      cases ru
      obtain ⟨its, rv, ⟨o, ho, hc, n, hdt⟩, _⟩ := I.tuple hq
      refine call_repr_slot (by omega) ⟨o, ho, hc⟩ F.slot_tuple_repr ?_
      rw [AT.data, PyData.showable] at hs
      rw [AT.wid] at hw
      rw [AT.data, PyData.depth] at hd
      obtain ⟨bs, hb, hk⟩ := repr_ofAll (g0 := g) I l _ its hl rv hs (by omega)
      rw [AT.data] at hR
      have hna : a ∉ bs := not_mem_of_deeper hR (by simp only [PyData.depth]; omega) hb
      rw [AT.txt] at fin
      have hz := txt_wid g (AT.tup a l)
      rw [AT.txt, AT.wid] at hz
      refine wpAny_call (codeAny_call_builtin_own (Code.quiet_builtin _ (by decide +kernel)) F.entry_tuple_repr (F.slot_tuple_repr.check _ _ _ _ _ _ _ _ ⟨o, ho, hc⟩ (F.args_tuple_repr_1 _) ?_))
      refine tup_at (R := callEnd _ _) (n := 0) ho hdt hna (by simpa using hk) (isGuard_tuple_repr _) (units_under_tuple_repr _ _) hg (Agr.refl _ _) (by show X.A.units + 1 + _ < _; omega) (fun _ _ e => e) (fun h' u tk hk1 => ⟨_, _, rfl, fin h' u tk hk1⟩) fun hB => ?_
      rw [hB] at hz
      have hz2 : (tupleText (AT.txtAll g l)).length ≤ 6 + AT.widAll l := hz
      omega
end
theorem dpi {K : PySem.W.Frag} {H : Hp} {a : Addr} {ns : List Int} (h : H a = some (.lst (ns.map V.int))) : Dp K H (.ref a) (.list (ns.map PyData.int)) := .lst (SqL.of h) (dp_ints ns)
theorem dvd_both {p y d : Int} (hp : p ∣ d) (hy : y ∣ d) (g : Int.gcd p y = 1) : p * y ∣ d := by
  obtain ⟨c, rfl⟩ := hp
  have h1 : y ∣ c := by
    have h2 : Nat.Coprime y.natAbs p.natAbs := by
      show Nat.gcd _ _ = 1
      rw [Nat.gcd_comm]
      exact g
    have h3 : y.natAbs ∣ p.natAbs * c.natAbs := by
      rw [← Int.natAbs_mul]
      exact Int.natAbs_dvd_natAbs.mpr hy
    exact Int.natAbs_dvd_natAbs.mp (h2.dvd_of_dvd_mul_left h3)
  exact Int.mul_dvd_mul (Int.dvd_refl p) h1
theorem small_dvd {m d : Int} (h : m ∣ d) (a : -m < d) (b : d < m) : d = 0 := by
  obtain ⟨c, rfl⟩ := h
  have hm : 0 < m := by omega
  by_cases c0 : c = 0
  · rw [c0, Int.mul_zero]
  · rcases Int.lt_or_gt_of_ne c0 with z | z
    · have := Int.mul_le_mul_of_nonneg_left (show c ≤ -1 by omega) (show 0 ≤ m by omega)
      rw [Int.mul_neg, Int.mul_one] at this
      omega
    · have := Int.mul_le_mul_of_nonneg_left (show 1 ≤ c by omega) (show 0 ≤ m by omega)
      rw [Int.mul_one] at this
      omega
theorem mod_dvd {a b m : Int} (h : a % m = b % m) : m ∣ a - b := Int.dvd_of_emod_eq_zero (Int.emod_eq_emod_iff_emod_sub_eq_zero.mp h)
/-- there is one number alone -/
theorem crt_dvd {bs : List Int} {r r' : Int} (hb : ∀ x ∈ bs, 1 ≤ x) : ∀ i : Nat, i ≤ bs.length → (∀ j < i, Good bs j) → (∀ j < i, r % bs.getD j 0 = r' % bs.getD j 0) → prd (bs.take i) ∣ r - r'
  | 0, _, _, _ => by
    show (1 : Int) ∣ _
    exact Int.one_dvd _
  | i + 1, hi, hg, ha => by
    obtain ⟨y, hy⟩ : ∃ y, bs[i]? = some y := ⟨_, List.getElem?_eq_getElem (by omega)⟩
    have eyi : bs.getD i 0 = y := by rw [List.getD_eq_getElem?_getD, hy]; rfl
    rw [prd_take hy]
    refine dvd_both (crt_dvd hb i (by omega) (fun j hj => hg j (by omega)) fun j hj => ha j (by omega)) ?_ ?_
    · have := ha i (by omega)
      rw [eyi] at this
      exact mod_dvd this
    · exact gcd_prd fun x hx => by rw [← eyi]; exact hg i (by omega) x hx
theorem Crt.uniq {rs bs : List Int} {r r' : Int} (hb : ∀ x ∈ bs, 1 ≤ x) (hg : ∀ i < bs.length, Good bs i) (h : Crt rs bs bs.length r) (k : Crt rs bs bs.length r') : r = r' := by
  have d := crt_dvd (r := r) (r' := r') hb bs.length (Nat.le_refl _) hg fun j hj => (h.at_ j hj).trans (k.at_ j hj).symm
  have h1 := h.hi
  have h2 := k.hi
  have h3 := h.lo
  have h4 := k.lo
  have := small_dvd d (by omega) (by omega)
  omega
theorem prd_le : ∀ {ns : List Int}, (∀ x ∈ ns, 1 ≤ x ∧ x ≤ 1000) → prd ns ≤ 1000 ^ ns.length
  | [], _ => by decide
  | x :: r, h => by
    have h1 := prd_le fun y hy => h y (List.mem_cons_of_mem _ hy)
    have h2 := prd_pos fun y hy => (h y (List.mem_cons_of_mem _ hy)).1
    have h3 := h x List.mem_cons_self
    rw [prd_cons, List.length_cons, Int.pow_succ, Int.mul_comm]
    exact Int.mul_le_mul h1 h3.2 (by omega) (by omega)
theorem prd_log {ns : List Int} (h : ∀ x ∈ ns, 1 ≤ x ∧ x ≤ 1000) (l : ns.length ≤ 10) : (prd ns).natAbs.log2 < 9000 := by
  have h1 := prd_le h
  have h2 := prd_pos fun y hy => (h y hy).1
  have h3 : (1000 : Int) ^ ns.length ≤ 1000 ^ 10 := by
    have k : (1000 : Nat) ^ ns.length ≤ 1000 ^ 10 := Nat.pow_le_pow_right (by decide) l
    exact_mod_cast k
  have h4 : (1000 : Int) ^ 10 = 1000000000000000000000000000000 := by decide
  have h5 : (prd ns).natAbs < 2 ^ 100 := by
    have e : (2 : Nat) ^ 100 = 1267650600228229401496703205376 := by decide
    rw [e]
    omega
  exact Nat.lt_trans ((Nat.log2_lt (by omega)).mpr h5) (by decide)
theorem FnOk_or {P : Program} {w : World} {K : PySem.W.Frag} {mg : Str → Option Value} {base : Heap} {CX : CXT} {k : Nat} {f : Addr} {fd : FuncData} {ps : List Str} {sp sp' : Sp} (F : FnOk P w K mg base CX k f fd ps sp) (F' : FnOk P w K mg base CX k f fd ps sp') : FnOk P w K mg base CX k f fd ps (fun vs H Q E => sp vs H Q E ∨ sp' vs H Q E) :=
  ⟨fun vs H Q E h => h.elim (F.len vs H Q E) (F'.len vs H Q E), fun A outer s H args us vs Q E hr he hb hv h => h.elim (F.run A outer s H args us vs Q E hr he hb hv) (F'.run A outer s H args us vs Q E hr he hb hv)⟩
abbrev spToldQ (K : PySem.W.Frag) : Sp := fun vs H Q E => spToldL K vs H Q E ∨ spToldT K vs H Q E
abbrev s__law_right : Stmt := top 19
abbrev N__law_right : List Str := ["_law_box_here", "_law_bys_here", "_law_one", "_law_rests", "_law_handed", "_law_before", "_law_place", "_law_product", "_law_found", "_law_number"]
abbrev P__law_right : List Str := ["_law_box_here"]
theorem sc__law_right : FnScope N__law_right P__law_right (defScope s__law_right) := ⟨rfl, rfl, rfl, by decide +kernel, rfl, by decide +kernel, by decide +kernel⟩
def spRt : Sp := fun vs H Q _ => ∃ (b : Addr) (n : Int), vs = [.ref b] ∧ BoxAt H b n ∧ n < 900000 ∧ ∀ H', Keep b H H' → BoxAt H' b (n + 120) → Q (.bl true) H'
section
variable {P : Program} {w : World} {K : PySem.W.Frag} {mg : Str → Option Value} {base : Heap}
theorem right_U {f f1 f2 : Addr} {d1 d2 : FuncData} {A : Around} {outer : List Env} {s : Shared} {H : Hp} {Q : VK} {E : XK} {cdv : Value} {g : List Code} (T : Blt mg) (hr : Room 5 { A.deeper (PyProof.Rows.envOfC "_law_right" (defScope s__law_right) s.heap.objs.size f cdv) with guards := some g })
    (D__law_take : Df K mg "_law_take" s__law_take P__law_take f1 d1) (D__law_told : Df K mg "_law_told" s__law_told P__law_told f2 d2) (G__law_told : FnOk P w K mg base CX0 5 f2 d2 P__law_told (spToldQ K)) :
    ∃ tl, PSs (gdX (cxOf CX0 P w K mg base N__law_right "_law_right" (defScope s__law_right) f cdv A outer s H E).nox g) ((defBody s__law_right).drop 7) tl ∧
      ∀ (b lb lr : Addr) (bs rs : List Int) (r m : Int) (H3 : Hp) (x2 x4 x5 x6 : Option V), 1 ≤ bs.length → bs.length ≤ 10 → (∀ x ∈ bs, 1 ≤ x ∧ x ≤ 1000) → rs.length = bs.length → (∀ i < bs.length, Good bs i) → Crt rs bs bs.length r → BoxAt H3 b m → m < 1000000 → lb ≠ b → lr ≠ b → H3 lb = some (.lst (bs.map V.int)) → H3 lr = some (.lst (rs.map V.int)) →
        (∀ H', Keep b H3 H' → BoxAt H' b (m + 1) → Q (.bl true) H') →
        tl { nx := fun _ H' => Q .non H', rt := Q } [some (.ref b), some (.ref lb), x2, some (.ref lr), x4, x5, x6, some (.int 1), some (.int r), none] H3 := by
  have G__law_takeW : FnOk P w K mg base CX0 1 f1 d1 P__law_take spTakeW := ok_takeW D__law_take.F
  have nd := sc__law_right.nd
  refine ⟨_, (pss_cons (ps_for PassesOwn.never rfl (pi_list (pv 1)) (pg_name (i := 2) nd rfl (Or.inl rfl))
      (pss_one (ps_set (i := 7) nd rfl (Or.inl rfl) (pe_op op_mul (pv 7) (pv 2)))))
      (pss_cons (ps_if (PW.pt (pw_or (pt_not (pt_val (pe_callB (r := rIsi K) call_isi (by rfl) T.b_isinstance (by decide +kernel) (pa_cons (pv 8) (pa_cons (pe_bltn (v := .ty "int") (by rfl) T.b_int (by decide +kernel) rfl) pa_nil))))) (pw_or (pt_val (pe_callB (r := rIsi K) call_isi (by rfl) T.b_isinstance (by decide +kernel) (pa_cons (pv 8) (pa_cons (pe_bltn (v := .ty "bool") (by rfl) T.b_bool (by decide +kernel) rfl) pa_nil)))) (pw_or1 (pt_not (pt_chain op_le op_lt (pe_int) (pv 8) (pv 7))))))) (pss_one (ps_ret (pe_bl))) pss_nil)
      (pss_cons (ps_if (pt_cmpR (r := rNeD K) (op_neD hr.units) (pe_lc (own := [("_law_one", 2)]) (g := gName 2) (by rfl) nd (pi_list (pv 1)) (blkOk_by (own := [("_law_one", 2)]) (N := N__law_right) (sc := defScope s__law_right) (by decide +kernel)) (fun _ _ _ _ _ => (pg_name (i := 2) nd rfl (Or.inl rfl))) (fun _ _ _ _ _ => pts_nil) (fun _ _ _ _ _ => (pe_op op_mod (pv 8) (pv 2)))) (pv 3) (nomark _)) (pss_one (ps_ret (pe_bl))) pss_nil)
      (pss_cons (ps_set (i := 9) nd rfl (Or.inr rfl) (pe_call G__law_takeW (hr.mono (by omega)) (by rfl) D__law_take.g D__law_take.F.kp D__law_take.b .nil pass0 (pa_cons (pv 0) (pa_cons (pv 7) pa_nil))))
      (pss_one (ps_ret (pe_cmpR op_eq (pe_call G__law_told (hr.mono (by omega)) (by rfl) D__law_told.g D__law_told.F.kp D__law_told.b .nil pass0 (pa_cons (pe_lc (own := [("_law_one", 2)]) (g := gName 2) (by rfl) nd (pi_list (pv 1)) (blkOk_by (own := [("_law_one", 2)]) (N := N__law_right) (sc := defScope s__law_right) (by decide +kernel)) (fun _ _ _ _ _ => (pg_name (i := 2) nd rfl (Or.inl rfl))) (fun _ _ _ _ _ => pts_nil) (fun _ _ _ _ _ => (pe_op op_mod (pv 9) (pv 2)))) (pa_cons (pv 1) pa_nil))) (pv 9) (nomark _)))))))), ?_⟩
  intro b lb lr bs rs r m H3 x2 x4 x5 x6 h1 h10 hbb hll hg hcr hbx hm nlb nlr hlb hlr q
  have hL3 := SqL.of (K := K) hlb
  walk_at "ev"
  refine ⟨⟨_, hL3⟩, ?_⟩
  refine for_list (K := K) (a := lb) (xs := bs.map V.int) (fun i σ H' => Hold (∃ (p : Int) (y2 : Option V), σ = [some (.ref b), some (.ref lb), y2, some (.ref lr), x4, x5, x6, some (.int p), some (.int r), none] ∧ p = prd (bs.take i) ∧ H' = H3)) (.mk ⟨1, _, rfl, rfl, rfl⟩) ?_ ?_ ?_
  · intro i σ H4 hi hP
    obtain ⟨p, y2, rfl, hp, rfl⟩ := hP.un
    exact hL3
  · intro i v σ H4 hv hP
    obtain ⟨p, y2, rfl, hp, rfl⟩ := hP.un
    rw [List.getElem?_map] at hv
    obtain ⟨y, hy, ev⟩ := Option.map_eq_some_iff.mp hv
    subst ev
    have hyb := hbb y (List.mem_of_getElem? hy)
    have cm : CMul p y := .inr ⟨by omega, by omega⟩
    walk_at "ev"
    exact .mk ⟨_, _, rfl, by rw [prd_take hy, hp], rfl⟩
  intro σ H4 hP
  obtain ⟨p, y2, rfl, hp, rfl⟩ := hP.un
  rw [List.length_map, List.take_length] at hp
  subst hp
  have kd : Kd K H4 (.int r) "int" := .int r
  have ty := kd.ty
  obtain ⟨k1, k2, k3, k4, k5⟩ := kd.kit
  have c1 : decide ((0 : Int) ≤ r) = true := decide_eq_true hcr.lo
  have hhi := hcr.hi
  rw [List.take_length] at hhi
  have c2 : decide (r < prd bs) = true := decide_eq_true hhi
  have hpp : 0 < prd bs := prd_pos fun x hx => (hbb x hx).1
  walk_at "ev"
  rw [c1]
  walk_at "ev"
  refine ⟨⟨_, hL3⟩, fun D hD => ?_⟩
  refine lc_list (K := K) (a := lb) (xs := bs.map V.int) (fun z H' => Hold (Same H4 H' ∧ H' D = some (.lst ((rs.take z).map V.int)))) (.mk ⟨same_new hD, upd_same⟩) ?_ ?_ ?_
  · intro z H5 hz hP5
    obtain ⟨sm5, hD5⟩ := hP5.un
    exact sm5.seq hL3
  · intro z v H5 hv hP5
    obtain ⟨sm5, hD5⟩ := hP5.un
    have hzl : z < (bs.map V.int).length := (List.getElem?_eq_some_iff.mp hv).1
    rw [List.length_map] at hzl
    rw [List.getElem?_map] at hv
    obtain ⟨y, hy, ev⟩ := Option.map_eq_some_iff.mp hv
    subst ev
    have hyb := hbb y (List.mem_of_getElem? hy)
    have eyi : bs.getD z 0 = y := by rw [List.getD_eq_getElem?_getD, hy]; rfl
    have ers := hcr.at_ z hzl
    rw [eyi] at ers
    have hrz : rs[z]? = some (r % y) := by
      rw [ers, List.getD_eq_getElem?_getD, List.getElem?_eq_getElem (by omega)]
      rfl
    have hsz : ((rs.take z).map V.int).length < sizeLine := szm (by rw [List.length_map, List.length_take]; omega)
    have y0 : 0 < y := by omega
    walk_at "ev"
    refine .mk ⟨same_mut sm5 hD, ?_⟩
    rw [upd_same, List.take_add_one, hrz, List.map_append]
    rfl
  intro H5 hP5
  obtain ⟨sm5, hD5⟩ := hP5.un
  rw [List.length_map, ← hll, List.take_length] at hD5
  have hdR := dpi (K := K) hD5
  have hdS := dpi (K := K) (sm5 _ _ hlr)
  have hsh := PySem.W.ke_shaped_ints rs
  have heq : (!PyData.eqv (.list (rs.map PyData.int)) (.list (rs.map PyData.int))) = false := by
    rw [PyData.eqv, eqv_ints, decide_eq_true rfl]
    rfl
  have hb5 := hbx.same sm5
  have hlg := prd_log hbb h10
  have hm' : m < 1048576 := by omega
  walk_at "ev"
  refine iteFe heq ?_
  walk_at "ev"
  intro nm H6 n0 n1 k6 hb6
  have hL6 := SqL.of (K := K) (k6 _ _ nlb (sm5 _ _ hlb))
  walk_at "ev"
  refine ⟨⟨_, hL6⟩, fun D2 hD2 => ?_⟩
  refine lc_list (K := K) (a := lb) (xs := bs.map V.int) (fun z H' => Hold (Same H6 H' ∧ H' D2 = some (.lst (((bs.take z).map fun y => nm % y).map V.int)))) (.mk ⟨same_new hD2, upd_same⟩) ?_ ?_ ?_
  · intro z H7 hz hP7
    obtain ⟨sm7, hD7⟩ := hP7.un
    exact sm7.seq hL6
  · intro z v H7 hv hP7
    obtain ⟨sm7, hD7⟩ := hP7.un
    have hzl : z < (bs.map V.int).length := (List.getElem?_eq_some_iff.mp hv).1
    rw [List.length_map] at hzl
    rw [List.getElem?_map] at hv
    obtain ⟨y, hy, ev⟩ := Option.map_eq_some_iff.mp hv
    subst ev
    have hyb := hbb y (List.mem_of_getElem? hy)
    have y0 : 0 < y := by omega
    have hsz : (((bs.take z).map fun y => nm % y).map V.int).length < sizeLine := szm (by rw [List.length_map, List.length_map, List.length_take]; omega)
    walk_at "ev"
    refine .mk ⟨same_mut sm7 hD2, ?_⟩
    rw [upd_same, List.take_add_one, hy]
    simp only [List.map_append]
    rfl
  intro H7 hP7
  obtain ⟨sm7, hD7⟩ := hP7.un
  rw [List.length_map, List.take_length] at hD7
  have hL7 := SqL.of (K := K) hD7
  have hB7 := sm7.seq hL6
  have hl2 : (bs.map fun y => nm % y).length = bs.length := by rw [List.length_map]
  have hget : ∀ i < bs.length, (bs.map fun y => nm % y).getD i 0 = nm % bs.getD i 0 := fun i hi => by
    rw [List.getD_eq_getElem?_getD, List.getElem?_map, List.getD_eq_getElem?_getD, List.getElem?_eq_getElem hi]
    rfl
  have hrb : ∀ i < bs.length, 0 ≤ (bs.map fun y => nm % y).getD i 0 ∧ (bs.map fun y => nm % y).getD i 0 < bs.getD i 0 := fun i hi => by
    rw [hget i hi]
    have : bs.getD i 0 ∈ bs := by
      rw [List.getD_eq_getElem?_getD, List.getElem?_eq_getElem hi]
      exact List.getElem_mem hi
    have hb2 := hbb _ this
    exact ⟨Int.emod_nonneg _ (by omega), Int.emod_lt_of_pos _ (by omega)⟩
  have hbb6 : ∀ x ∈ bs, 1 ≤ x ∧ x ≤ 1000000 := fun x hx => by
    have := hbb x hx
    omega
  have hcn : Crt (bs.map fun y => nm % y) bs bs.length nm := ⟨n0, by rw [List.take_length]; exact n1, fun j hj => (hget j hj).symm⟩
  walk_at "ev"
  refine .inl ⟨D2, lb, _, bs, rfl, hL7, hB7, hl2, by omega, hbb6, hrb, fun _ r' H8 hc8 sm8 => ?_, fun p hp _ hng => absurd (hg p hp) hng⟩
  have er : r' = nm := Crt.uniq (fun x hx => (hbb x hx).1) hg hc8 hcn
  subst er
  walk_at "ev"
  rw [decide_eq_true rfl]
  exact q _ ((keepS sm5).trans (k6.trans (keepS (sm7.trans sm8)))) (hb6.same (sm7.trans sm8))
end
/-! ### rows of numbers, shown -/
def lfI (i : Int) : AT := .leaf (.int i)
theorem ap_ints {K : PySem.W.Frag} {H : Hp} : ∀ ns : List Int, ApAll K H (ns.map V.int) (ns.map lfI)
  | [] => .nil
  | n :: r => .cons (.int n) (ap_ints r)
theorem int_show {i : Int} (h : -1000000 ≤ i ∧ i ≤ 1000000) : PyData.showable (.int i) = true := by
  rw [PyData.showable]
  refine decide_eq_true ?_
  have h1 : i.natAbs < 2 ^ 20 := by
    have : (2 : Nat) ^ 20 = 1048576 := by decide
    omega
  by_cases c : i.natAbs = 0
  · rw [c]
    decide
  · exact Nat.lt_trans ((Nat.log2_lt c).mpr h1) (by decide)
theorem int_wid {i : Int} (h : -1000000 ≤ i ∧ i ≤ 1000000) : (PyData.shown (.int i)).length ≤ 13 := PyData.shown_int_le2 (by omega) (by omega)
structure Shw (l : List AT) (n : Nat) (d : Nat) : Prop where
  s : PyData.showableAll (AT.dataAll l) = true
  w : AT.widAll l ≤ n
  d : PyData.depthAll (AT.dataAll l) ≤ d
theorem Shw.nil {d : Nat} : Shw [] 0 d := ⟨by rw [AT.dataAll, PyData.showableAll], by rw [AT.widAll]; exact Nat.le_refl _, by rw [AT.dataAll, PyData.depthAll]; exact Nat.zero_le _⟩
structure Sh1 (t : AT) (n : Nat) (d : Nat) : Prop where
  s : PyData.showable t.data = true
  w : t.wid ≤ n
  d : t.data.depth ≤ d
theorem Shw.cons {t : AT} {l : List AT} {n m d : Nat} (a : Sh1 t n d) (b : Shw l m d) : Shw (t :: l) (n + 2 + m) d := by
  refine ⟨?_, ?_, ?_⟩
  · rw [AT.dataAll, PyData.showableAll, a.s, b.s]
    rfl
  · rw [AT.widAll]
    have := a.w
    have := b.w
    omega
  · rw [AT.dataAll, PyData.depthAll]
    exact Nat.max_le.mpr ⟨a.d, b.d⟩
theorem Shw.lst {l : List AT} {n d : Nat} {a : Addr} (h : Shw l n d) : Sh1 (.lst a l) (n + 6) (d + 1) := by
  refine ⟨?_, ?_, ?_⟩
  · rw [AT.data, PyData.showable]
    exact h.s
  · rw [AT.wid]
    have := h.w
    omega
  · rw [AT.data, PyData.depth]
    have := h.d
    omega
theorem Shw.tup {l : List AT} {n d : Nat} {a : Addr} (h : Shw l n d) : Sh1 (.tup a l) (n + 6) (d + 1) := by
  refine ⟨?_, ?_, ?_⟩
  · rw [AT.data, PyData.showable]
    exact h.s
  · rw [AT.wid]
    have := h.w
    omega
  · rw [AT.data, PyData.depth]
    have := h.d
    omega
theorem shw_ints {d : Nat} : ∀ {ns : List Int}, (∀ x ∈ ns, -1000000 ≤ x ∧ x ≤ 1000000) → Shw (ns.map lfI) (15 * ns.length) d
  | [], _ => Shw.nil
  | x :: r, h => by
    have hx := h x List.mem_cons_self
    have a : Sh1 (lfI x) 13 d := ⟨int_show hx, by show AT.wid (.leaf _) ≤ 13; rw [AT.wid]; exact int_wid hx, by show PyData.depth (AT.data (.leaf _)) ≤ d; rw [AT.data, PyData.depth]; exact Nat.zero_le _⟩
    have b := Shw.cons a (shw_ints fun y hy => h y (List.mem_cons_of_mem _ hy))
    rw [List.map_cons]
    refine ⟨b.s, Nat.le_trans b.w ?_, b.d⟩
    rw [List.length_cons]
    omega
theorem fit_up : ∀ {n : Nat} {d : PyData}, Fit n d → Fit (n + 1) d
  | 0, .list _, h => h.elim
  | 0, .tuple _, h => h.elim
  | n + 1, .list ds, h => ⟨h.1, fun e he => fit_up (h.2 e he)⟩
  | n + 1, .tuple ds, h => ⟨h.1, fun e he => fit_up (h.2 e he)⟩
  | 0, .dict _, h => h.elim
  | _ + 1, .dict _, h => h.elim
  | 0, .none, _ => True.intro
  | _ + 1, .none, _ => True.intro
  | 0, .bool _, _ => True.intro
  | _ + 1, .bool _, _ => True.intro
  | 0, .int _, _ => True.intro
  | _ + 1, .int _, _ => True.intro
  | 0, .str _, _ => True.intro
  | _ + 1, .str _, _ => True.intro
section
variable {P : Program} {w : World} {K : PySem.W.Frag} {mg : Str → Option Value} {base : Heap}
theorem fit_ni2 {x : Str} {a : Int} : Fit 1 (.tuple [.str x, .int a]) := by
  refine ⟨by simp, fun e he => ?_⟩
  simp only [List.mem_cons, List.not_mem_nil, or_false] at he
  rcases he with h | h <;> rw [h] <;> exact True.intro
/-- both rows as they are handed in -/
def Hnd (H : Hp) (lh h0 h1 : Addr) (rs bs : List Int) : Prop := H lh = some (.lst [.ref h0, .ref h1]) ∧ ((H h0 = some (.lst (rs.map V.int)) ∧ H h1 = some (.lst (bs.map V.int))) ∨ (H h0 = some (.tup (rs.map V.int)) ∧ H h1 = some (.tup (bs.map V.int))))
theorem Hnd.same {H H' : Hp} {lh h0 h1 : Addr} {rs bs : List Int} (h : Hnd H lh h0 h1 rs bs) (e : Same H H') : Hnd H' lh h0 h1 rs bs := by
  obtain ⟨a, ⟨b, c⟩ | ⟨b, c⟩⟩ := h
  · exact ⟨e _ _ a, .inl ⟨e _ _ b, e _ _ c⟩⟩
  · exact ⟨e _ _ a, .inr ⟨e _ _ b, e _ _ c⟩⟩
theorem Hnd.tree {K : PySem.W.Frag} {H : Hp} {lh h0 h1 : Addr} {rs bs : List Int} (h : Hnd H lh h0 h1 rs bs) (l1 : rs.length ≤ 1000) (l2 : bs.length ≤ 1000) (b1 : ∀ x ∈ rs, -1000000 ≤ x ∧ x ≤ 1000000) (b2 : ∀ x ∈ bs, -1000000 ≤ x ∧ x ≤ 1000000) : ∃ t : AT, (∀ H', Same H H' → Ap K H' (.ref lh) t) ∧ t.data.showable = true ∧ t.wid ≤ sizeLine ∧ t.data.depth ≤ 40 := by
  have s1 := shw_ints (d := 0) b1
  have s2 := shw_ints (d := 0) b2
  have hz : sizeLine = 16777216 := by decide
  obtain ⟨a, ⟨b, c⟩ | ⟨b, c⟩⟩ := h
  · have s := Shw.lst (a := lh) (Shw.cons (Shw.lst (a := h0) s1) (Shw.cons (Shw.lst (a := h1) s2) Shw.nil))
    refine ⟨_, fun H' e => .lst (SqL.of (e _ _ a)) (.cons (.lst (SqL.of (e _ _ b)) (ap_ints rs)) (.cons (.lst (SqL.of (e _ _ c)) (ap_ints bs)) .nil)), s.s, Nat.le_trans s.w (by omega), Nat.le_trans s.d (by omega)⟩
  · have s := Shw.lst (a := lh) (Shw.cons (Shw.tup (a := h0) s1) (Shw.cons (Shw.tup (a := h1) s2) Shw.nil))
    refine ⟨_, fun H' e => .lst (SqL.of (e _ _ a)) (.cons (.tup (SqT.of (e _ _ b)) (ap_ints rs)) (.cons (.tup (SqT.of (e _ _ c)) (ap_ints bs)) .nil)), s.s, Nat.le_trans s.w (by omega), Nat.le_trans s.d (by omega)⟩
theorem Hnd.told {K : PySem.W.Frag} {H : Hp} {lh h0 h1 : Addr} {rs bs : List Int} {Q : VK} {E : XK} (h : Hnd H lh h0 h1 rs bs) (hll : rs.length = bs.length) (hlen : bs.length ≤ 1000) (hbb : ∀ x ∈ bs, 1 ≤ x ∧ x ≤ 1000000) (hrb : ∀ i < bs.length, 0 ≤ rs.getD i 0 ∧ rs.getD i 0 < bs.getD i 0)
    (qy : (∀ i < bs.length, Good bs i) → ∀ r H', Crt rs bs bs.length r → Same H H' → Q (.int r) H') (qn : ∀ p < bs.length, (∀ i < p, Good bs i) → ¬ Good bs p → ∀ t H', Same H H' → H' t = some (.tup [.str "place", .int p]) → Q (.ref t) H') : spToldQ K [.ref h0, .ref h1] H Q E := by
  obtain ⟨a, ⟨b, c⟩ | ⟨b, c⟩⟩ := h
  · exact .inl ⟨h0, h1, rs, bs, rfl, SqL.of b, SqL.of c, hll, hlen, hbb, hrb, qy, qn⟩
  · exact .inr ⟨h0, h1, rs, bs, rfl, SqT.of b, SqT.of c, hll, hlen, hbb, hrb, qy, qn⟩
theorem good_dec (bs : List Int) : ∀ n : Nat, (∀ i < n, Good bs i) ∨ ∃ p < n, (∀ i < p, Good bs i) ∧ ¬ Good bs p
  | 0 => .inl fun i hi => absurd hi (Nat.not_lt_zero i)
  | n + 1 => by
    rcases good_dec bs n with h | ⟨p, h1, h2⟩
    · by_cases c : Good bs n
      · refine .inl fun i hi => ?_
        by_cases e : i = n
        · rw [e]
          exact c
        · exact h i (by omega)
      · exact .inr ⟨n, by omega, h, c⟩
    · exact .inr ⟨p, by omega, h2⟩
theorem right_S {f f1 f2 f3 f4 f5 : Addr} {d1 d2 d3 d4 d5 : FuncData} {A : Around} {outer : List Env} {s : Shared} {H : Hp} {Q : VK} {E : XK} {cdv : Value} {g : List Code} (T : Blt mg) (hr : Room 5 { A.deeper (PyProof.Rows.envOfC "_law_right" (defScope s__law_right) s.heap.objs.size f cdv) with guards := some g })
    (D__law_take : Df K mg "_law_take" s__law_take P__law_take f1 d1) (D__law_told : Df K mg "_law_told" s__law_told P__law_told f2 d2) (D__law_same : Df K mg "_law_same" s__law_same P__law_same f3 d3) (D__law_first_shared : Df K mg "_law_first_shared" s__law_first_shared P__law_first_shared f4 d4) (D__law_shares : Df K mg "_law_shares" s__law_shares P__law_shares f5 d5) (G__law_told : FnOk P w K mg base CX0 5 f2 d2 P__law_told (spToldQ K)) :
    ∃ tl, PSs (gdX (cxOf CX0 P w K mg base N__law_right "_law_right" (defScope s__law_right) f cdv A outer s H E).nox g) ((defBody s__law_right).drop 3) tl ∧
      ∀ (b lb lr lh h0 h1 : Addr) (bs rs : List Int) (m : Int) (H3 : Hp), 1 ≤ bs.length → bs.length ≤ 10 → (∀ x ∈ bs, 1 ≤ x ∧ x ≤ 1000) → rs.length = bs.length → (∀ i < bs.length, 0 ≤ rs.getD i 0 ∧ rs.getD i 0 < bs.getD i 0) → BoxAt H3 b m → m < 1000000 → lb ≠ b → lr ≠ b → H3 lb = some (.lst (bs.map V.int)) → H3 lr = some (.lst (rs.map V.int)) → Hnd H3 lh h0 h1 rs bs →
        (∀ H', Keep b H3 H' → BoxAt H' b (m + 1) → Q (.bl true) H') →
        tl { nx := fun _ H' => Q .non H', rt := Q } [some (.ref b), some (.ref lb), none, some (.ref lr), some (.ref lh), none, none, none, none, none] H3 := by
  have G__law_same : FnOk P w K mg base CX0 3 f3 d3 P__law_same (spSame K 2) := ok_same D__law_same T 2
  have G__law_first_shared : FnOk P w K mg base CX0 2 f4 d4 P__law_first_shared (spFirst K) := ok_first (k := 0) D__law_first_shared.F T D__law_shares
  obtain ⟨tl, htl, fin⟩ := right_U (P := P) (w := w) (base := base) (outer := outer) (H := H) (Q := Q) (E := E) T hr D__law_take D__law_told G__law_told
  have nd := sc__law_right.nd
  refine ⟨_, (pss_cons (ps_par3 (i := 5) (j := 6) (l := 7) (by rfl) nd rfl rfl rfl (by decide) (by decide) (by decide) rfl rfl rfl (pa_cons (pe_callB (r := rRepr K g) (call_reprA rfl hr.units) (by rfl) T.b_repr (by decide +kernel) (pa_cons (pv 4) pa_nil)) (pa_cons (pe_call G__law_first_shared (hr.mono (by omega)) (by rfl) D__law_first_shared.g D__law_first_shared.F.kp D__law_first_shared.b .nil pass0 (pa_cons (pv 1) pa_nil)) (pa_cons (pe_int) pa_nil))) (by rfl))
      (pss_cons (ps_set (i := 8) nd rfl (Or.inr rfl) (pe_call G__law_told (hr.mono (by omega)) (by rfl) D__law_told.g D__law_told.F.kp D__law_told.b .nil pass0 (pa_cons (pe_ix (r := rIxL K) ix_list (pv 4) (pe_int) (fun _ _ => rfl)) (pa_cons (pe_ix (r := rIxL K) ix_list (pv 4) (pe_int) (fun _ _ => rfl)) pa_nil))))
      (pss_cons (ps_if (PW.pt (pw_or (pt_not (pt_val (pe_call G__law_same (hr.mono (by omega)) (by rfl) D__law_same.g D__law_same.F.kp D__law_same.b .nil pass0 (pa_cons (pe_call G__law_told (hr.mono (by omega)) (by rfl) D__law_told.g D__law_told.F.kp D__law_told.b .nil pass0 (pa_cons (pe_ix (r := rIxL K) ix_list (pv 4) (pe_int) (fun _ _ => rfl)) (pa_cons (pe_ix (r := rIxL K) ix_list (pv 4) (pe_int) (fun _ _ => rfl)) pa_nil))) (pa_cons (pv 8) pa_nil))))) (pw_or1 (pt_cmpR op_ne (pe_callB (r := rRepr K g) (call_reprA rfl hr.units) (by rfl) T.b_repr (by decide +kernel) (pa_cons (pv 4) pa_nil)) (pv 5) (nomark _))))) (pss_one (ps_ret (pe_bl))) pss_nil)
      (pss_cons (ps_if (pt_cmpR op_notN (pv 6) (pe_non) (nomark _)) (pss_one (ps_ret (pe_call G__law_same (hr.mono (by omega)) (by rfl) D__law_same.g D__law_same.F.kp D__law_same.b .nil pass0 (pa_cons (pv 8) (pa_cons (pe_tup (pa_cons (pe_str) (pa_cons (pv 6) pa_nil))) pa_nil))))) pss_nil)
      htl)))), ?_⟩
  intro b lb lr lh h0 h1 bs rs m H3 h1l h10 hbb hll hrb hbx hm nlb nlr hlb hlr hhd q
  have hbb6 : ∀ x ∈ bs, 1 ≤ x ∧ x ≤ 1000000 := fun x hx => by
    have := hbb x hx
    omega
  obtain ⟨t, hap, hsh, hwd, hdp⟩ := hhd.tree (K := K) (by omega) (by omega) (fun x hx => by
    obtain ⟨i, hi, e⟩ := List.getElem_of_mem hx
    have h2 := hrb i (by omega)
    have h3 : bs.getD i 0 ∈ bs := by
      rw [List.getD_eq_getElem?_getD, List.getElem?_eq_getElem (by omega)]
      exact List.getElem_mem (by omega)
    have h4 := hbb _ h3
    rw [List.getD_eq_getElem?_getD, List.getElem?_eq_getElem hi, Option.getD_some, e] at h2
    omega) (fun x hx => by
    have := hbb x hx
    omega)
  have hap3 := hap H3 (Same.refl _)
  have hL3 := SqL.of (K := K) hlb
  have hlb1 : bs.length ≤ 1000 := by omega
  walk_at "ev"
  have at0 : atI [V.ref h0, V.ref h1] 0 = some (.ref h0) := rfl
  have at1 : atI [V.ref h0, V.ref h1] 1 = some (.ref h1) := rfl
  refine ⟨fun hg H4 sm4 => ?_, fun p hp hg hng H4 sm4 => ?_⟩
  · have hh4 := hhd.same sm4
    have hLh := SqL.of (K := K) hh4.1
    walk_at "ev"
    refine hh4.told hll hlb1 hbb6 hrb (fun _ r H5 hcr sm5 => ?_) fun p hp _ hng => absurd (hg p hp) hng
    have hh5 := hh4.same sm5
    have hLh5 := SqL.of (K := K) hh5.1
    walk_at "ev"
    refine hh5.told hll hlb1 hbb6 hrb (fun _ r2 H6 hcr2 sm6 => ?_) fun p hp _ hng => absurd (hg p hp) hng
    have er : r2 = r := Crt.uniq (fun x hx => (hbb x hx).1) hg hcr2 hcr
    subst er
    have hd1 : Dp K H6 (.int r2) (.int r2) := .int r2
    have hft : Fit 2 (.int r2) := True.intro
    walk_at "ev"
    intro H7 sm7
    have s37 := sm4.trans (sm5.trans (sm6.trans sm7))
    have hap7 := hap H7 s37
    walk_at "ev"
    exact fin b lb lr bs rs r2 m H7 _ _ _ _ h1l h10 hbb hll hg hcr2 (hbx.same s37) hm nlb nlr (s37 _ _ hlb) (s37 _ _ hlr) fun H' k' b' => q H' ((keepS s37).trans k') b'
  · have hh4 := hhd.same sm4
    have hLh := SqL.of (K := K) hh4.1
    walk_at "ev"
    refine hh4.told hll hlb1 hbb6 hrb (fun hg2 => absurd (hg2 p hp) hng) fun p2 hp2 hg2 hng2 t1 H5 sm5 hq5 => ?_
    have ep : p2 = p := by
      rcases Nat.lt_trichotomy p p2 with z | z | z
      · exact absurd (hg2 p z) hng
      · exact z.symm
      · exact absurd (hg p2 z) hng2
    subst ep
    have hh5 := hh4.same sm5
    have hLh5 := SqL.of (K := K) hh5.1
    walk_at "ev"
    refine hh5.told hll hlb1 hbb6 hrb (fun hg2 => absurd (hg2 p2 hp) hng) fun p3 hp3 hg3 hng3 t2 H6 sm6 hq6 => ?_
    have ep : p3 = p2 := by
      rcases Nat.lt_trichotomy p2 p3 with z | z | z
      · exact absurd (hg3 p2 z) hng
      · exact z.symm
      · exact absurd (hg p3 z) hng3
    subst ep
    have hd1 : Dp K H6 (.ref t2) (.tuple [.str "place", .int p3]) := .tup (SqT.of hq6) (.cons (.str _) (.cons (.int _) .nil))
    have hd2 : Dp K H6 (.ref t1) (.tuple [.str "place", .int p3]) := .tup (SqT.of (sm6 _ _ hq5)) (.cons (.str _) (.cons (.int _) .nil))
    have hft : Fit 2 (.tuple [.str "place", .int p3]) := fit_up fit_ni2
    walk_at "ev"
    intro H7 sm7
    have s37 := sm4.trans (sm5.trans (sm6.trans sm7))
    have hap7 := hap H7 s37
    walk_at "ev"
    w_cond _8
    have hd3 : Dp K H8 (.ref t1) (.tuple [.str "place", .int p3]) := .tup (SqT.of ((sm6.trans (sm7.trans sm8)) _ _ hq5)) (.cons (.str _) (.cons (.int _) .nil))
    have hd4 : Dp K H8 (.ref l8) (.tuple [.str "place", .int p3]) := .tup (SqT.of hq8) (.cons (.str _) (.cons (.int _) .nil))
    walk_at "ev"
    intro H9 sm9
    have s39 := s37.trans (sm8.trans sm9)
    exact q _ (keepS s39) ((hbx.same s39).mono (by omega))
end
section
variable {P : Program} {w : World} {K : PySem.W.Frag} {mg : Str → Option Value} {base : Heap}
theorem right_ex {f f1 f2 f3 f4 f5 f6 f7 : Addr} {d1 d2 d3 d4 d5 d6 d7 : FuncData} {A : Around} {outer : List Env} {s : Shared} {H : Hp} {Q : VK} {E : XK} {cdv : Value} {g : List Code} (T : Blt mg) (hr : Room 5 { A.deeper (PyProof.Rows.envOfC "_law_right" (defScope s__law_right) s.heap.objs.size f cdv) with guards := some g })
    (D__law_take : Df K mg "_law_take" s__law_take P__law_take f1 d1) (D__law_told : Df K mg "_law_told" s__law_told P__law_told f2 d2) (D__law_same : Df K mg "_law_same" s__law_same P__law_same f3 d3) (D__law_first_shared : Df K mg "_law_first_shared" s__law_first_shared P__law_first_shared f4 d4) (D__law_shares : Df K mg "_law_shares" s__law_shares P__law_shares f5 d5) (D__law_pick : Df K mg "_law_pick" s__law_pick P__law_pick f6 d6) (D__law_bys : Df K mg "_law_bys" s__law_bys P__law_bys f7 d7) (G__law_told : FnOk P w K mg base CX0 5 f2 d2 P__law_told (spToldQ K)) :
    ∃ tl, PSs (gdX (cxOf CX0 P w K mg base N__law_right "_law_right" (defScope s__law_right) f cdv A outer s H E).nox g) (defBody s__law_right) tl ∧
      ∀ (b : Addr) (n : Int), BoxAt H b n → n < 900000 → (∀ H', Keep b H H' → BoxAt H' b (n + 120) → Q (.bl true) H') → tl { nx := fun _ H' => Q .non H', rt := Q } (L2.start N__law_right [.ref b]) H := by
  have G__law_take : FnOk P w K mg base CX0 1 f1 d1 P__law_take spTake := ok_take D__law_take.F
  have G__law_pick : FnOk P w K mg base CX0 2 f6 d6 P__law_pick (spPick K) := ok_pick D__law_pick.F T D__law_take
  have G__law_bys : FnOk P w K mg base CX0 3 f7 d7 P__law_bys spBys := ok_bys (k := 0) D__law_bys.F T D__law_take D__law_pick D__law_shares
  obtain ⟨tl, htl, fin⟩ := right_S (P := P) (w := w) (base := base) (outer := outer) (H := H) (Q := Q) (E := E) T hr D__law_take D__law_told D__law_same D__law_first_shared D__law_shares G__law_told
  have nd := sc__law_right.nd
  refine ⟨_, (pss_cons (ps_set (i := 1) nd rfl (Or.inl rfl) (pe_call G__law_bys (hr.mono (by omega)) (by rfl) D__law_bys.g D__law_bys.F.kp D__law_bys.b .nil pass0 (pa_cons (pv 0) pa_nil)))
      (pss_cons (ps_setLc (i := 3) (own := [("_law_one", 2)]) (g := gName 2) (by rfl) nd rfl rfl (sw_true rfl rfl rfl (by decide +kernel)) (pi_list (pv 1)) (blkOk_by (own := [("_law_one", 2)]) (N := N__law_right) (sc := defScope s__law_right) (by decide +kernel)) (fun _ _ _ _ _ => (pg_name (i := 2) nd rfl (Or.inl rfl))) (fun _ _ _ _ _ => pts_nil) (fun _ _ _ _ _ => (pe_call G__law_pick (hr.mono (by omega)) (by rfl) D__law_pick.g D__law_pick.F.kp D__law_pick.b .nil pass0 (pa_cons (pv 0) (pa_cons (pe_lst (pa_cons (pe_int) (pa_cons (pe_op op_sub (pv 2) (pe_int)) (pa_cons (pe_call G__law_take (hr.mono (by omega)) (by rfl) D__law_take.g D__law_take.F.kp D__law_take.b .nil pass0 (pa_cons (pv 0) (pa_cons (pv 2) pa_nil))) pa_nil)))) pa_nil)))))
      (pss_cons (ps_set (i := 4) nd rfl (Or.inl rfl) (pe_ifExp (pt_cmpR op_eq (pe_call G__law_take (hr.mono (by omega)) (by rfl) D__law_take.g D__law_take.F.kp D__law_take.b .nil pass0 (pa_cons (pv 0) (pa_cons (pe_int) pa_nil))) (pe_int) (nomark _)) (pe_lst (pa_cons (pe_callTy call_list_of (by rfl) T.b_list (by decide +kernel) (pa_cons (pv 3) pa_nil)) (pa_cons (pe_callTy call_list_of (by rfl) T.b_list (by decide +kernel) (pa_cons (pv 1) pa_nil)) pa_nil))) (pe_lst (pa_cons (pe_callTy call_tuple_of (by rfl) T.b_tuple (by decide +kernel) (pa_cons (pv 3) pa_nil)) (pa_cons (pe_callTy call_tuple_of (by rfl) T.b_tuple (by decide +kernel) (pa_cons (pv 1) pa_nil)) pa_nil)))))
      htl))), ?_⟩
  intro b n hb hn q
  walk_at "ev"
  intro lb bs H1 h1l h10 hbb hlb0 k1 hb1 hlb
  have nlb : lb ≠ b := hb.ne hlb0
  have hL1 := SqL.of (K := K) hlb
  walk_at "ev"
  refine ⟨⟨_, hL1⟩, fun D hD => ?_⟩
  have nDb : D ≠ b := hb1.ne hD
  have nlD : lb ≠ D := ne_of_none hlb hD
  refine lc_list (K := K) (a := lb) (xs := bs.map V.int) (fun z H' => Hold (∃ rs : List Int, rs.length = z ∧ (∀ i < z, 0 ≤ rs.getD i 0 ∧ rs.getD i 0 < bs.getD i 0) ∧ Keep b H1 H' ∧ BoxAt H' b (n + 60 + 3 * (z : Int)) ∧ H' lb = some (.lst (bs.map V.int)) ∧ H' D = some (.lst (rs.map V.int)))) (.mk ⟨[], rfl, fun i hi => absurd hi (Nat.not_lt_zero i), keepS (same_new hD), (hb1.upd nDb).mono (by omega), by rw [upd_ne nlD]; exact hlb, upd_same⟩) ?_ ?_ ?_
  · intro z H2 hz hP
    obtain ⟨rs, hrl, hrb, k2, hb2, hl2, hD2⟩ := hP.un
    exact SqL.of hl2
  · intro z v H2 hv hP
    obtain ⟨rs, hrl, hrb, k2, hb2, hl2, hD2⟩ := hP.un
    have hzl : z < (bs.map V.int).length := (List.getElem?_eq_some_iff.mp hv).1
    rw [List.length_map] at hzl
    rw [List.getElem?_map] at hv
    obtain ⟨y, hy, ev⟩ := Option.map_eq_some_iff.mp hv
    subst ev
    have hyb := hbb y (List.mem_of_getElem? hy)
    have eyi : bs.getD z 0 = y := by rw [List.getD_eq_getElem?_getD, hy]; rfl
    walk_at "ev"
    intro r3 H3 r30 r31 k3 hb3
    walk_at "ev"
    w_cond _4
    have n4b := hb3.ne hl4
    have hb4 := hb3.same sm4
    have hL4 := SqL.of (K := K) hq4
    walk_at "ev"
    intro u H5 hu k5 hb5
    obtain ⟨x, hx, rfl⟩ : ∃ x : Int, (0 ≤ x ∧ x < y) ∧ u = .int x := by
      simp only [List.mem_cons, List.not_mem_nil, or_false] at hu
      rcases hu with z | z | z
      · exact ⟨0, by omega, z⟩
      · exact ⟨y - 1, by omega, z⟩
      · exact ⟨r3, by omega, z⟩
    have k25 : Keep b H2 H5 := k3.trans ((keepS sm4).trans k5)
    have hD5 := k25 _ _ nDb hD2
    have hl5 := k25 _ _ nlb hl2
    refine ⟨_, hD5, szm (by rw [List.length_map]; omega), .mk ⟨rs ++ [x], by simp [hrl], fun i hi => ?_, keep_fresh (k2.trans k25) hD, (hb5.upd nDb).mono (by omega), ?_, ?_⟩⟩
    · by_cases c : i = z
      · rw [c, eyi, List.getD_eq_getElem?_getD, List.getElem?_append_right (by omega)]
        rw [show z - rs.length = 0 by omega]
        exact hx
      · have h2 := hrb i (by omega)
        rw [List.getD_eq_getElem?_getD, List.getElem?_append_left (by omega), ← List.getD_eq_getElem?_getD]
        exact h2
    · rw [upd_ne nlD]
      exact hl5
    · rw [upd_same, List.map_append]
      rfl
  intro H2 hP
  obtain ⟨rs, hrl, hrb, k2, hb2, hl2, hD2⟩ := hP.un
  rw [List.length_map] at hrl hrb hb2
  walk_at "ev"
  intro r3 H3 r30 r31 k3 hb3
  have hl3 := k3 _ _ nlb hl2
  have hD3 := k3 _ _ nDb hD2
  have k13 : Keep b H H3 := k1.trans (k2.trans k3)
  have fin3 : ∀ (lh h0 h1 : Addr) (H4 : Hp), Same H3 H4 → Hnd H4 lh h0 h1 rs bs → tl { nx := fun _ H' => Q .non H', rt := Q } [some (.ref b), some (.ref lb), none, some (.ref D), some (.ref lh), none, none, none, none, none] H4 := fun lh h0 h1 H4 sm4 hh =>
    fin b lb D lh h0 h1 bs rs (n + 100) H4 h1l h10 hbb hrl hrb ((hb3.same sm4).mono (by omega)) (by omega) nlb nDb (sm4 _ _ hl3) (sm4 _ _ hD3) hh fun H' k' b' => q H' (k13.trans ((keepS sm4).trans k')) (b'.mono (by omega))
  walk_at "ev"
  refine ite2 (fun c => ?_) (fun c => ?_)
  · walk_at "ev"
    refine ⟨.inl (SqL.of hD3), ?_⟩
    w_cond _4
    walk_at "ev"
    refine ⟨.inl (SqL.of (sm4 _ _ hl3)), ?_⟩
    w_cond _5
    walk_at "ev"
    w_cond _6
    exact fin3 l6 l4 l5 H6 (sm4.trans (sm5.trans sm6)) ⟨hq6, .inl ⟨(sm5.trans sm6) _ _ hq4, sm6 _ _ hq5⟩⟩
  · walk_at "ev"
    refine .inl ⟨SqL.of hD3, ?_⟩
    w_cond _4
    walk_at "ev"
    refine .inl ⟨SqL.of (sm4 _ _ hl3), ?_⟩
    w_cond _5
    walk_at "ev"
    w_cond _6
    exact fin3 l6 l4 l5 H6 (sm4.trans (sm5.trans sm6)) ⟨hq6, .inr ⟨(sm5.trans sm6) _ _ hq4, sm6 _ _ hq5⟩⟩
end
section
variable {P : Program} {w : World} {K : PySem.W.Frag} {mg : Str → Option Value} {base : Heap}
theorem ok_rt {f f1 f2 f3 f4 f5 f6 f7 : Addr} {fd d1 d2 d3 d4 d5 d6 d7 : FuncData} (F : Fun K "_law_right" "_law_right" s__law_right f fd) (T : Blt mg)
    (D__law_take : Df K mg "_law_take" s__law_take P__law_take f1 d1) (D__law_told : Df K mg "_law_told" s__law_told P__law_told f2 d2) (D__law_same : Df K mg "_law_same" s__law_same P__law_same f3 d3) (D__law_first_shared : Df K mg "_law_first_shared" s__law_first_shared P__law_first_shared f4 d4) (D__law_shares : Df K mg "_law_shares" s__law_shares P__law_shares f5 d5) (D__law_pick : Df K mg "_law_pick" s__law_pick P__law_pick f6 d6) (D__law_bys : Df K mg "_law_bys" s__law_bys P__law_bys f7 d7) (G__law_told : FnOk P w K mg base CX0 5 f2 d2 P__law_told (spToldQ K)) : FnOk P w K mg base CX0 6 f fd P__law_right spRt := by
  have G__law_take : FnOk P w K mg base CX0 1 f1 d1 P__law_take spTake := ok_take D__law_take.F
  have G__law_pick : FnOk P w K mg base CX0 2 f6 d6 P__law_pick (spPick K) := ok_pick D__law_pick.F T D__law_take
  have G__law_bys : FnOk P w K mg base CX0 3 f7 d7 P__law_bys spBys := ok_bys (k := 0) D__law_bys.F T D__law_take D__law_pick D__law_shares
  have nd := sc__law_right.nd
  refine F.ok sc__law_right (fun vs H Q E h => ?_) (fun cdv A outer s H vs Q E hr0 h => ?_)
  · obtain ⟨b, n, rfl, _⟩ := h
    rfl
  · obtain ⟨b, n, rfl, hb, hn, q⟩ := h
    refine ⟨_, pss_gd fun g => (right_ex (P := P) (w := w) (base := base) (outer := outer) (H := H) (Q := Q) (E := E) T (gd_room (g := g) hr0) D__law_take D__law_told D__law_same D__law_first_shared D__law_shares D__law_pick D__law_bys G__law_told).choose_spec.1, fun g => ?_⟩
    exact (right_ex (P := P) (w := w) (base := base) (outer := outer) (H := H) (Q := Q) (E := E) T (gd_room (g := g) hr0) D__law_take D__law_told D__law_same D__law_first_shared D__law_shares D__law_pick D__law_bys G__law_told).choose_spec.2 b n hb hn q
end
abbrev s_law : Stmt := top 20
abbrev N_law : List Str := ["_law_script", "_law_k", "_law_box_here", "_law_turn"]
abbrev P_law : List Str := ["_law_script"]
theorem sc_law : FnScope N_law P_law (defScope s_law) := ⟨rfl, rfl, rfl, by decide +kernel, rfl, by decide +kernel, by decide +kernel⟩
def spLaw (K : PySem.W.Frag) : Sp := fun vs H Q _ => ∃ (a : Addr) (ns : List Int), vs = [.ref a] ∧ SqL K H a (ns.map V.int) ∧ ns.length ≤ 63 ∧ ∀ H', Q (.bl true) H'
structure Fns (P : Program) (w : World) (K : PySem.W.Frag) (mg : Str → Option Value) (base : Heap) : Prop where
  cop : ∃ f fd, Df K mg "are_coprime" s_are_coprime P_are_coprime f fd
  inv : ∃ f fd, Df K mg "inverse" s_inverse P_inverse f fd
  chk : ∃ f fd, Df K mg "check_coprime" s_check_coprime P_check_coprime f fd
  join : ∃ f fd, Df K mg "joined" s_joined P_joined f fd
  box : ∃ f fd, Df K mg "_law_box" s__law_box P__law_box f fd
  take : ∃ f fd, Df K mg "_law_take" s__law_take P__law_take f fd
  pick : ∃ f fd, Df K mg "_law_pick" s__law_pick P__law_pick f fd
  same : ∃ f fd, Df K mg "_law_same" s__law_same P__law_same f fd
  shares : ∃ f fd, Df K mg "_law_shares" s__law_shares P__law_shares f fd
  told : ∃ f fd, Df K mg "_law_told" s__law_told P__law_told f fd
  bys : ∃ f fd, Df K mg "_law_bys" s__law_bys P__law_bys f fd
  first : ∃ f fd, Df K mg "_law_first_shared" s__law_first_shared P__law_first_shared f fd
  right : ∃ f fd, Df K mg "_law_right" s__law_right P__law_right f fd
structure Exs (K : PySem.W.Frag) (mg : Str → Option Value) (fI : Addr) (fdI : FuncData) (CT CI CN CR : Addr) : Prop where
  F : Fun K "__init__" "TurnError.__init__" s_init fI fdI
  b : Binds K fdI N_init []
  ty : PySem.W.typeIn K (.ref fI) = some (.type "function")
  ri : Ref K CT CI fI
  rn : Ref K CT CN fI
  mt : mg "TurnError" = some (.ref CT)
  mi : mg "NoInverse" = some (.ref CI)
  mn : mg "NotCoprime" = some (.ref CN)
  mr : mg "NoRoot" = some (.ref CR)
  k1 : PySem.W.kitOne K (.ref CN) (.ref CN) = some true
  k2 : PySem.W.kitAny K (.ref CN) [.ref CI, .ref CR] = some false
section
variable {P : Program} {w : World} {K : PySem.W.Frag} {mg : Str → Option Value} {base : Heap}
theorem ok_law {f fI CT CI CN CR : Addr} {fd fdI : FuncData} (F : Fun K "law" "law" s_law f fd) (T : Blt mg) (U : Fns P w K mg base) (e : Exs K mg fI fdI CT CI CN CR) : FnOk P w K mg base CX0 7 f fd P_law (spLaw K) := by
  obtain ⟨⟨f1, d1, D_are_coprime⟩, ⟨f2, d2, D_inverse⟩, ⟨f3, d3, D_check_coprime⟩, ⟨f4, d4, D_joined⟩, ⟨f5, d5, D__law_box⟩, ⟨f6, d6, D__law_take⟩, ⟨f7, d7, D__law_pick⟩, ⟨f8, d8, D__law_same⟩, ⟨f9, d9, D__law_shares⟩, ⟨f10, d10, D__law_told⟩, ⟨f11, d11, D__law_bys⟩, ⟨f12, d12, D__law_first_shared⟩, ⟨f13, d13, D__law_right⟩⟩ := U
  have x : XI K fI fdI := ⟨e.F, e.b, e.ty⟩
  have G__law_box : FnOk P w K mg base CX0 1 f5 d5 P__law_box (spBox K) := ok_box D__law_box.F T
  have G_joined : FnOk P w K mg base (L2.CX P w) 4 f4 d4 P_joined (spJoinL K CN) := ok_joinL (k := 0) D_joined.F T D_are_coprime D_check_coprime D_inverse x e.rn e.mn e.ri e.mi
  have G_joinedT : FnOk P w K mg base (L2.CX P w) 4 f4 d4 P_joined (spJoinT K CN) := ok_joinT (k := 0) D_joined.F T D_are_coprime D_check_coprime D_inverse x e.rn e.mn e.ri e.mi
  have GL : FnOk P w K mg base CX0 5 f10 d10 P__law_told (spToldL K) := ok_toldL (k := 0) D__law_told.F T D_joined G_joined e.rn e.mn e.mi e.mr e.mt e.k1 e.k2
  have GT : FnOk P w K mg base CX0 5 f10 d10 P__law_told (spToldT K) := ok_toldT (k := 0) D__law_told.F T D_joined G_joinedT e.rn e.mn e.mi e.mr e.mt e.k1 e.k2
  have G__law_right : FnOk P w K mg base CX0 6 f13 d13 P__law_right spRt := ok_rt D__law_right.F T D__law_take D__law_told D__law_same D__law_first_shared D__law_shares D__law_pick D__law_bys (FnOk_or GL GT)
  have nd := sc_law.nd
  refine F.ok sc_law (fun vs H Q E h => ?_) (fun cdv A outer s H vs Q E hr h => ?_)
  · obtain ⟨a, ns, rfl, _⟩ := h
    rfl
  · obtain ⟨a, ns, rfl, hS, hlen, q⟩ := h
    refine ⟨_, (pss_cons (ps_for PassesOwn.never rfl (pi_range1 (by rfl) T.b_range (pa_cons (pe_callB (call_max2 rfl) (by rfl) T.b_max (by decide +kernel) (pa_cons (pe_int) (pa_cons (pe_callB (call_min2 rfl) (by rfl) T.b_min (by decide +kernel) (pa_cons (pe_int) (pa_cons (pe_callB (r := rLenQ K) call_len_seq (by rfl) T.b_len (by decide +kernel) (pa_cons (pv 0) pa_nil)) pa_nil))) pa_nil))) pa_nil)) (pg_name (i := 1) nd rfl (Or.inl rfl))
      (pss_cons (ps_set (i := 2) nd rfl (Or.inr rfl) (pe_call G__law_box (hr.mono (by omega)) (by rfl) D__law_box.g D__law_box.F.kp D__law_box.b .nil pass0 (pa_cons (pv 0) (pa_cons (pv 1) pa_nil))))
      (pss_one (ps_if (pt_not (pt_val (pe_callB (r := rAll K) (cr_all rfl) (by rfl) T.b_all (by decide +kernel) (pa_cons (pe_lc (own := [("_law_turn", 3)]) (g := gName 3) (by rfl) nd (pi_range1 (by rfl) T.b_range (pa_cons (pe_int) pa_nil)) (blkOk_by (own := [("_law_turn", 3)]) (N := N_law) (sc := defScope s_law) (by decide +kernel)) (fun _ _ _ _ _ => (pg_name (i := 3) nd rfl (Or.inl rfl))) (fun _ _ _ _ _ => pts_nil) (fun _ _ _ _ _ => (pe_call G__law_right (hr.mono (by omega)) (by rfl) D__law_right.g D__law_right.F.kp D__law_right.b .nil pass0 (pa_cons (pv 2) pa_nil)))) pa_nil)))) (pss_one (ps_ret (pe_bl))) pss_nil))))
      (pss_one (ps_ret (pe_and (pe_cmpR op_eq (pe_call G_joined (hr.mono (by omega)) (by rfl) D_joined.g D_joined.F.kp D_joined.b .nil passL (pa_cons (pe_lst (pa_cons (pe_int) (pa_cons (pe_int) (pa_cons (pe_int) pa_nil)))) (pa_cons (pe_lst (pa_cons (pe_int) (pa_cons (pe_int) (pa_cons (pe_int) pa_nil)))) pa_nil))) (pe_int) (nomark _)) (pe_one (pe_cmpR op_eq (pe_call G_joined (hr.mono (by omega)) (by rfl) D_joined.g D_joined.F.kp D_joined.b .nil passL (pa_cons (pe_lst (pa_cons (pe_int) pa_nil)) (pa_cons (pe_lst (pa_cons (pe_int) pa_nil)) pa_nil))) (pe_int) (nomark _))))))), ?_⟩
    walk_at "ev"
    refine for_range (lo := 0) (n := _) (fun i σ H' => Hold (∃ s1 s2, σ = [some (.ref a), s1, s2, none] ∧ Same H H')) (.mk ⟨none, none, rfl, Same.refl _⟩) ?_ ?_
    · intro i σ H2 hi hP
      obtain ⟨s1, s2, rfl, sm2⟩ := hP.un
      have hi2 : i < 64 := by
        simp only [List.length_map] at hi
        split at hi <;> split at hi <;> omega
      have hS2 := sm2.seq hS
      walk_at "ev"
      intro b H3 hb0 sm3 hbx
      have hbf : H b = none := sm2.free hb0
      walk_at "ev"
      intro D hD
      have nDb := hbx.ne hD
      refine lc_range (lo := 0) (n := _) (fun j H' => Hold (Keep b H3 H' ∧ BoxAt H' b (120 * (j : Int)) ∧ H' D = some (.lst ((List.replicate j true).map V.bl)))) (.mk ⟨keepS (same_new hD), (hbx.upd nDb).mono (by omega), upd_same⟩) ?_ ?_
      · intro j H4 hj hP4
        obtain ⟨k4, b4, hD4⟩ := hP4.un
        have hj5 : j < 100 := by
          have : j < 12 := hj
          omega
        walk_at "ev"
        intro H5 k5 b5
        have hD5 := k5 _ _ nDb hD4
        refine ⟨_, hD5, szm (by rw [List.length_map, List.length_replicate]; omega), .mk ⟨keep_fresh (k4.trans k5) hD, (b5.upd nDb).mono (by omega), ?_⟩⟩
        rw [upd_same, List.replicate_succ', List.map_append]
        rfl
      · intro H4 hP4
        obtain ⟨k4, b4, hD4⟩ := hP4.un
        refine ⟨D, _, rfl, SqL.of hD4, ?_⟩
        rw [all_true]
        walk_at "ev"
        exact .mk ⟨_, _, rfl, keep_same (sm2.trans sm3) hbf k4⟩
    · intro σ H2 hP
      obtain ⟨s1, s2, rfl, sm2⟩ := hP.un
      have g3 : ∀ i < ([3, 5, 7] : List Int).length, Good [3, 5, 7] i := by
        intro i hi
        have : i = 0 ∨ i = 1 ∨ i = 2 := by
          simp at hi
          omega
        rcases this with z | z | z <;> subst z <;> unfold Good <;> decide
      have g1 : ∀ i < ([1] : List Int).length, Good [1] i := by
        intro i hi
        have : i = 0 := by
          simp at hi
          omega
        subst this
        unfold Good
        decide
      walk_at "ev"
      w_cond _3
      walk_at "ev"
      w_cond _4
      have hA : SqL K H4 l3 (([2, 3, 2] : List Int).map V.int) := SqL.of (sm4 _ _ hq3)
      have hB : SqL K H4 l4 (([3, 5, 7] : List Int).map V.int) := SqL.of hq4
      have hb3 : ∀ x ∈ ([3, 5, 7] : List Int), 1 ≤ x ∧ x ≤ 1000000 := by decide
      have hr3 : ∀ i < ([3, 5, 7] : List Int).length, 0 ≤ ([2, 3, 2] : List Int).getD i 0 ∧ ([2, 3, 2] : List Int).getD i 0 < ([3, 5, 7] : List Int).getD i 0 := by
        intro i hi
        have : i = 0 ∨ i = 1 ∨ i = 2 := by
          simp at hi
          omega
        rcases this with z | z | z <;> subst z <;> decide
      walk_at "ev"
      refine ⟨fun _ r H5 hcr sm5 => ?_, fun p hp _ hng => absurd (g3 p hp) hng⟩
      have e0 : r % 3 = 2 := hcr.at_ 0 (by decide)
      have e1 : r % 5 = 3 := hcr.at_ 1 (by decide)
      have e2 : r % 7 = 2 := hcr.at_ 2 (by decide)
      have eh : r < 105 := hcr.hi
      have el := hcr.lo
      have er : r = 23 := by omega
      subst er
      walk_at "ev"
      w_cond _6
      walk_at "ev"
      w_cond _7
      have hC : SqL K H7 l6 (([0] : List Int).map V.int) := SqL.of (sm7 _ _ hq6)
      have hE : SqL K H7 l7 (([1] : List Int).map V.int) := SqL.of hq7
      have hb1 : ∀ x ∈ ([1] : List Int), 1 ≤ x ∧ x ≤ 1000000 := by decide
      have hr1 : ∀ i < ([1] : List Int).length, 0 ≤ ([0] : List Int).getD i 0 ∧ ([0] : List Int).getD i 0 < ([1] : List Int).getD i 0 := by
        intro i hi
        have : i = 0 := by
          simp at hi
          omega
        subst this
        decide
      walk_at "ev"
      refine ⟨fun _ r H8 hcr sm8 => ?_, fun p hp _ hng => absurd (g1 p hp) hng⟩
      have eh : r < 1 := hcr.hi
      have el := hcr.lo
      have er : r = 0 := by omega
      subst er
      walk_at "ev"
      exact q _
end
theorem all_mk {l : PySem.W.OpenLaw} {w : World} {K : PySem.W.Frag} {h : Heap} {mg : Str → Option Value} {fa : Addr} (X : K.In h) (G : h.Ns mainGlobals mg) (hfa : mg "law" = some (.ref fa))
    {od0 an0 : Option Addr} {sl0 : Array (Option Value)} {oc0 kV0 dc0 pm0 cd0 ct0 : Value} {f0 : Addr}
    {od1 an1 : Option Addr} {sl1 : Array (Option Value)} {oc1 kV1 dc1 pm1 cd1 ct1 : Value} {f1 : Addr}
    {od2 an2 : Option Addr} {sl2 : Array (Option Value)} {oc2 kV2 dc2 pm2 cd2 ct2 : Value} {f2 : Addr}
    {od3 an3 : Option Addr} {sl3 : Array (Option Value)} {oc3 kV3 dc3 pm3 cd3 ct3 : Value} {f3 : Addr}
    {od4 an4 : Option Addr} {sl4 : Array (Option Value)} {oc4 kV4 dc4 pm4 cd4 ct4 : Value} {f4 : Addr}
    {od5 an5 : Option Addr} {sl5 : Array (Option Value)} {oc5 kV5 dc5 pm5 cd5 ct5 : Value} {f5 : Addr}
    {od6 an6 : Option Addr} {sl6 : Array (Option Value)} {oc6 kV6 dc6 pm6 cd6 ct6 : Value} {f6 : Addr}
    {od7 an7 : Option Addr} {sl7 : Array (Option Value)} {oc7 kV7 dc7 pm7 cd7 ct7 : Value} {f7 : Addr}
    {od8 an8 : Option Addr} {sl8 : Array (Option Value)} {oc8 kV8 dc8 pm8 cd8 ct8 : Value} {f8 : Addr}
    {od9 an9 : Option Addr} {sl9 : Array (Option Value)} {oc9 kV9 dc9 pm9 cd9 ct9 : Value} {f9 : Addr}
    {od10 an10 : Option Addr} {sl10 : Array (Option Value)} {oc10 kV10 dc10 pm10 cd10 ct10 : Value} {f10 : Addr}
    {od11 an11 : Option Addr} {sl11 : Array (Option Value)} {oc11 kV11 dc11 pm11 cd11 ct11 : Value} {f11 : Addr}
    {od12 an12 : Option Addr} {sl12 : Array (Option Value)} {oc12 kV12 dc12 pm12 cd12 ct12 : Value} {f12 : Addr}
    {od13 an13 : Option Addr} {sl13 : Array (Option Value)} {oc13 kV13 dc13 pm13 cd13 ct13 : Value} {f13 : Addr}
    {fI : Addr} {odI anI : Option Addr} {slI : Array (Option Value)} {ocI kVI dcI pmI cdI ctI : Value}
    {C_TurnError : Addr}
    {C_NoInverse : Addr}
    {C_NotCoprime : Addr}
    {C_NoRoot : Addr}
    {nm_NoInverse q_NoInverse : Str} {N_NoInverse : Addr} {bs_NoInverse : List Value} {sn_NoInverse : List Str} {sb_NoInverse : List Value} {ab_NoInverse : Bool} {co_NoInverse : Option Bool} {dd_NoInverse : Option Addr} {m0_NoInverse m1_NoInverse m2_NoInverse m3_NoInverse m5_NoInverse : Option Value}
    {nm_NotCoprime q_NotCoprime : Str} {N_NotCoprime : Addr} {bs_NotCoprime : List Value} {sn_NotCoprime : List Str} {sb_NotCoprime : List Value} {ab_NotCoprime : Bool} {co_NotCoprime : Option Bool} {dd_NotCoprime : Option Addr} {m0_NotCoprime m1_NotCoprime m2_NotCoprime m3_NotCoprime m5_NotCoprime : Option Value}
    (g_TurnError : PySem.W.nsIn K mainGlobals "TurnError" = some (some (.ref C_TurnError)))
    (g_NoInverse : PySem.W.nsIn K mainGlobals "NoInverse" = some (some (.ref C_NoInverse)))
    (g_NotCoprime : PySem.W.nsIn K mainGlobals "NotCoprime" = some (some (.ref C_NotCoprime)))
    (g_NoRoot : PySem.W.nsIn K mainGlobals "NoRoot" = some (some (.ref C_NoRoot)))
    (on : PySem.W.specialIn K (.builtin "object.__class__") "__get__" = some (some (.builtin "getset_descriptor.__get__")))
    (ot : PySem.W.takesIn K (.builtin "object.__class__") = some true)
    (eT : PySem.W.subIn K (.ref C_TurnError) (.type "BaseException") = some true)
    (hT : PySem.W.hasDictIn K C_TurnError = true)
    (tT : PySem.W.typeIn K (.ref C_TurnError) = some (.type "type"))
    (xL_NoInverse : K.lookup C_NoInverse = some (excClassObj nm_NoInverse q_NoInverse C_NoInverse N_NoInverse bs_NoInverse [.ref C_TurnError, .type "ValueError", .type "Exception", .type "BaseException", .type "object"] true sn_NoInverse sb_NoInverse ab_NoInverse co_NoInverse dd_NoInverse m0_NoInverse m1_NoInverse m2_NoInverse m3_NoInverse m5_NoInverse "ValueError.__new__"))
    (sa_NoInverse : PySem.W.findIn K (.ref C_NoInverse) "__setattr__" = some (some (.builtin "object.__setattr__")))
    (ga_NoInverse : PySem.W.findIn K (.ref C_NoInverse) "__getattribute__" = some (some (.builtin "BaseException.__getattribute__")))
    (gg_NoInverse : PySem.W.findIn K (.ref C_NoInverse) "__getattr__" = some none)
    (nw_NoInverse : PySem.W.findIn K (.ref C_NoInverse) "what" = some none)
    (ii_NoInverse : PySem.W.findIn K (.ref C_NoInverse) "__init__" = some (some (.ref fI)))
    (oc_NoInverse : PySem.W.findIn K (.ref C_NoInverse) "__class__" = some (some (.builtin "object.__class__")))
    (kC_NoInverse : PySem.W.keepIn K (.ref C_NoInverse) = true)
    (eC_NoInverse : PySem.W.subIn K (.ref C_NoInverse) (.type "BaseException") = some true)
    (tC_NoInverse : PySem.W.typeIn K (.ref C_NoInverse) = some (.type "type"))
    (hC_NoInverse : PySem.W.hasDictIn K C_NoInverse = true)
    (mo_NoInverse : PySem.W.mroIn K C_NoInverse (.type "object") = some true)
    (su_NoInverse : PySem.W.subIn K (.ref C_NoInverse) (.ref C_TurnError) = some true)
    (kv_NoInverse : PySem.W.kitOne K (.ref C_NoInverse) (.type "ValueError") = some true)
    (kt_NoInverse : PySem.W.kitOne K (.ref C_NoInverse) (.ref C_TurnError) = some true)
    (xL_NotCoprime : K.lookup C_NotCoprime = some (excClassObj nm_NotCoprime q_NotCoprime C_NotCoprime N_NotCoprime bs_NotCoprime [.ref C_TurnError, .type "ValueError", .type "Exception", .type "BaseException", .type "object"] true sn_NotCoprime sb_NotCoprime ab_NotCoprime co_NotCoprime dd_NotCoprime m0_NotCoprime m1_NotCoprime m2_NotCoprime m3_NotCoprime m5_NotCoprime "ValueError.__new__"))
    (sa_NotCoprime : PySem.W.findIn K (.ref C_NotCoprime) "__setattr__" = some (some (.builtin "object.__setattr__")))
    (ga_NotCoprime : PySem.W.findIn K (.ref C_NotCoprime) "__getattribute__" = some (some (.builtin "BaseException.__getattribute__")))
    (gg_NotCoprime : PySem.W.findIn K (.ref C_NotCoprime) "__getattr__" = some none)
    (nw_NotCoprime : PySem.W.findIn K (.ref C_NotCoprime) "what" = some none)
    (ii_NotCoprime : PySem.W.findIn K (.ref C_NotCoprime) "__init__" = some (some (.ref fI)))
    (oc_NotCoprime : PySem.W.findIn K (.ref C_NotCoprime) "__class__" = some (some (.builtin "object.__class__")))
    (kC_NotCoprime : PySem.W.keepIn K (.ref C_NotCoprime) = true)
    (eC_NotCoprime : PySem.W.subIn K (.ref C_NotCoprime) (.type "BaseException") = some true)
    (tC_NotCoprime : PySem.W.typeIn K (.ref C_NotCoprime) = some (.type "type"))
    (hC_NotCoprime : PySem.W.hasDictIn K C_NotCoprime = true)
    (mo_NotCoprime : PySem.W.mroIn K C_NotCoprime (.type "object") = some true)
    (su_NotCoprime : PySem.W.subIn K (.ref C_NotCoprime) (.ref C_TurnError) = some true)
    (kv_NotCoprime : PySem.W.kitOne K (.ref C_NotCoprime) (.type "ValueError") = some true)
    (kt_NotCoprime : PySem.W.kitOne K (.ref C_NotCoprime) (.ref C_TurnError) = some true)
    (lI : K.lookup fI = some ⟨ocI, odI, .func (PySem.W.fnOf "__init__" "TurnError.__init__" (defArgs s_init) (defBody s_init) (defScope s_init) .none kVI dcI pmI anI cdI ctI), slI⟩)
    (cI : PySem.W.codeIn K cdI "TurnError.__init__" = true)
    (kI : PySem.W.keepIn K (.ref fI) = true)
    (tI : PySem.W.typeIn K (.ref fI) = some (.type "function"))
    (fk1 : PySem.W.kitOne K (.ref C_NotCoprime) (.ref C_NotCoprime) = some true)
    (fk2 : PySem.W.kitAny K (.ref C_NotCoprime) [.ref C_NoInverse, .ref C_NoRoot] = some false)
    (a0 : PySem.W.nsIn K mainGlobals "are_coprime" = some (some (.ref f0))) (l0 : K.lookup f0 = some ⟨oc0, od0, .func (PySem.W.fnOf "are_coprime" "are_coprime" (defArgs s_are_coprime) (defBody s_are_coprime) (defScope s_are_coprime) .none kV0 dc0 pm0 an0 cd0 ct0), sl0⟩) (c0 : PySem.W.codeIn K cd0 "are_coprime" = true) (k0 : PySem.W.keepIn K (.ref f0) = true)
    (a1 : PySem.W.nsIn K mainGlobals "inverse" = some (some (.ref f1))) (l1 : K.lookup f1 = some ⟨oc1, od1, .func (PySem.W.fnOf "inverse" "inverse" (defArgs s_inverse) (defBody s_inverse) (defScope s_inverse) .none kV1 dc1 pm1 an1 cd1 ct1), sl1⟩) (c1 : PySem.W.codeIn K cd1 "inverse" = true) (k1 : PySem.W.keepIn K (.ref f1) = true)
    (a2 : PySem.W.nsIn K mainGlobals "check_coprime" = some (some (.ref f2))) (l2 : K.lookup f2 = some ⟨oc2, od2, .func (PySem.W.fnOf "check_coprime" "check_coprime" (defArgs s_check_coprime) (defBody s_check_coprime) (defScope s_check_coprime) .none kV2 dc2 pm2 an2 cd2 ct2), sl2⟩) (c2 : PySem.W.codeIn K cd2 "check_coprime" = true) (k2 : PySem.W.keepIn K (.ref f2) = true)
    (a3 : PySem.W.nsIn K mainGlobals "joined" = some (some (.ref f3))) (l3 : K.lookup f3 = some ⟨oc3, od3, .func (PySem.W.fnOf "joined" "joined" (defArgs s_joined) (defBody s_joined) (defScope s_joined) .none kV3 dc3 pm3 an3 cd3 ct3), sl3⟩) (c3 : PySem.W.codeIn K cd3 "joined" = true) (k3 : PySem.W.keepIn K (.ref f3) = true)
    (a4 : PySem.W.nsIn K mainGlobals "_law_box" = some (some (.ref f4))) (l4 : K.lookup f4 = some ⟨oc4, od4, .func (PySem.W.fnOf "_law_box" "_law_box" (defArgs s__law_box) (defBody s__law_box) (defScope s__law_box) .none kV4 dc4 pm4 an4 cd4 ct4), sl4⟩) (c4 : PySem.W.codeIn K cd4 "_law_box" = true) (k4 : PySem.W.keepIn K (.ref f4) = true)
    (a5 : PySem.W.nsIn K mainGlobals "_law_take" = some (some (.ref f5))) (l5 : K.lookup f5 = some ⟨oc5, od5, .func (PySem.W.fnOf "_law_take" "_law_take" (defArgs s__law_take) (defBody s__law_take) (defScope s__law_take) .none kV5 dc5 pm5 an5 cd5 ct5), sl5⟩) (c5 : PySem.W.codeIn K cd5 "_law_take" = true) (k5 : PySem.W.keepIn K (.ref f5) = true)
    (a6 : PySem.W.nsIn K mainGlobals "_law_pick" = some (some (.ref f6))) (l6 : K.lookup f6 = some ⟨oc6, od6, .func (PySem.W.fnOf "_law_pick" "_law_pick" (defArgs s__law_pick) (defBody s__law_pick) (defScope s__law_pick) .none kV6 dc6 pm6 an6 cd6 ct6), sl6⟩) (c6 : PySem.W.codeIn K cd6 "_law_pick" = true) (k6 : PySem.W.keepIn K (.ref f6) = true)
    (a7 : PySem.W.nsIn K mainGlobals "_law_same" = some (some (.ref f7))) (l7 : K.lookup f7 = some ⟨oc7, od7, .func (PySem.W.fnOf "_law_same" "_law_same" (defArgs s__law_same) (defBody s__law_same) (defScope s__law_same) .none kV7 dc7 pm7 an7 cd7 ct7), sl7⟩) (c7 : PySem.W.codeIn K cd7 "_law_same" = true) (k7 : PySem.W.keepIn K (.ref f7) = true)
    (a8 : PySem.W.nsIn K mainGlobals "_law_shares" = some (some (.ref f8))) (l8 : K.lookup f8 = some ⟨oc8, od8, .func (PySem.W.fnOf "_law_shares" "_law_shares" (defArgs s__law_shares) (defBody s__law_shares) (defScope s__law_shares) .none kV8 dc8 pm8 an8 cd8 ct8), sl8⟩) (c8 : PySem.W.codeIn K cd8 "_law_shares" = true) (k8 : PySem.W.keepIn K (.ref f8) = true)
    (a9 : PySem.W.nsIn K mainGlobals "_law_told" = some (some (.ref f9))) (l9 : K.lookup f9 = some ⟨oc9, od9, .func (PySem.W.fnOf "_law_told" "_law_told" (defArgs s__law_told) (defBody s__law_told) (defScope s__law_told) .none kV9 dc9 pm9 an9 cd9 ct9), sl9⟩) (c9 : PySem.W.codeIn K cd9 "_law_told" = true) (k9 : PySem.W.keepIn K (.ref f9) = true)
    (a10 : PySem.W.nsIn K mainGlobals "_law_bys" = some (some (.ref f10))) (l10 : K.lookup f10 = some ⟨oc10, od10, .func (PySem.W.fnOf "_law_bys" "_law_bys" (defArgs s__law_bys) (defBody s__law_bys) (defScope s__law_bys) .none kV10 dc10 pm10 an10 cd10 ct10), sl10⟩) (c10 : PySem.W.codeIn K cd10 "_law_bys" = true) (k10 : PySem.W.keepIn K (.ref f10) = true)
    (a11 : PySem.W.nsIn K mainGlobals "_law_first_shared" = some (some (.ref f11))) (l11 : K.lookup f11 = some ⟨oc11, od11, .func (PySem.W.fnOf "_law_first_shared" "_law_first_shared" (defArgs s__law_first_shared) (defBody s__law_first_shared) (defScope s__law_first_shared) .none kV11 dc11 pm11 an11 cd11 ct11), sl11⟩) (c11 : PySem.W.codeIn K cd11 "_law_first_shared" = true) (k11 : PySem.W.keepIn K (.ref f11) = true)
    (a12 : PySem.W.nsIn K mainGlobals "_law_right" = some (some (.ref f12))) (l12 : K.lookup f12 = some ⟨oc12, od12, .func (PySem.W.fnOf "_law_right" "_law_right" (defArgs s__law_right) (defBody s__law_right) (defScope s__law_right) .none kV12 dc12 pm12 an12 cd12 ct12), sl12⟩) (c12 : PySem.W.codeIn K cd12 "_law_right" = true) (k12 : PySem.W.keepIn K (.ref f12) = true)
    (a13 : PySem.W.nsIn K mainGlobals "law" = some (some (.ref f13))) (l13 : K.lookup f13 = some ⟨oc13, od13, .func (PySem.W.fnOf "law" "law" (defArgs s_law) (defBody s_law) (defScope s_law) .none kV13 dc13 pm13 an13 cd13 ct13), sl13⟩) (c13 : PySem.W.codeIn K cd13 "law" = true) (k13 : PySem.W.keepIn K (.ref f13) = true)
    (z0 : PySem.W.nsIn K mainGlobals "ValueError" = some none) (z1 : PySem.W.nsIn K mainGlobals "abs" = some none) (z2 : PySem.W.nsIn K mainGlobals "all" = some none) (z3 : PySem.W.nsIn K mainGlobals "any" = some none) (z4 : PySem.W.nsIn K mainGlobals "bool" = some none) (z5 : PySem.W.nsIn K mainGlobals "enumerate" = some none) (z6 : PySem.W.nsIn K mainGlobals "int" = some none) (z7 : PySem.W.nsIn K mainGlobals "isinstance" = some none) (z8 : PySem.W.nsIn K mainGlobals "len" = some none) (z9 : PySem.W.nsIn K mainGlobals "list" = some none) (z10 : PySem.W.nsIn K mainGlobals "max" = some none) (z11 : PySem.W.nsIn K mainGlobals "min" = some none) (z12 : PySem.W.nsIn K mainGlobals "range" = some none) (z13 : PySem.W.nsIn K mainGlobals "repr" = some none) (z14 : PySem.W.nsIn K mainGlobals "str" = some none) (z15 : PySem.W.nsIn K mainGlobals "tuple" = some none) (z16 : PySem.W.nsIn K mainGlobals "zip" = some none) :
    ∃ fd : FuncData, (∀ (s : Shared) (v : Value), BindsTo s fd ⟨[v], []⟩ [("_law_script", v)]) ∧ ∀ base : Heap, K.In base → base.Ns mainGlobals mg → FnOk l.prog w K mg base CX0 7 fa fd ["_law_script"] (spLaw K) := by
  have e := hfa.symm.trans (PySem.W.mg_of X G a13)
  cases e
  have T : Blt mg := ⟨PySem.W.mg_none_of X G z0, PySem.W.mg_none_of X G z1, PySem.W.mg_none_of X G z2, PySem.W.mg_none_of X G z3, PySem.W.mg_none_of X G z4, PySem.W.mg_none_of X G z5, PySem.W.mg_none_of X G z6, PySem.W.mg_none_of X G z7, PySem.W.mg_none_of X G z8, PySem.W.mg_none_of X G z9, PySem.W.mg_none_of X G z10, PySem.W.mg_none_of X G z11, PySem.W.mg_none_of X G z12, PySem.W.mg_none_of X G z13, PySem.W.mg_none_of X G z14, PySem.W.mg_none_of X G z15, PySem.W.mg_none_of X G z16⟩
  have F0 := fun_mk (st := s_are_coprime) l0 c0 k0
  have b0 := F0.binds (ps := P_are_coprime) fun _ _ _ _ _ _ us hl => match us, hl with | [_, _], _ => rfl
  have F1 := fun_mk (st := s_inverse) l1 c1 k1
  have b1 := F1.binds (ps := P_inverse) fun _ _ _ _ _ _ us hl => match us, hl with | [_, _], _ => rfl
  have F2 := fun_mk (st := s_check_coprime) l2 c2 k2
  have b2 := F2.binds (ps := P_check_coprime) fun _ _ _ _ _ _ us hl => match us, hl with | [_], _ => rfl
  have F3 := fun_mk (st := s_joined) l3 c3 k3
  have b3 := F3.binds (ps := P_joined) fun _ _ _ _ _ _ us hl => match us, hl with | [_, _], _ => rfl
  have F4 := fun_mk (st := s__law_box) l4 c4 k4
  have b4 := F4.binds (ps := P__law_box) fun _ _ _ _ _ _ us hl => match us, hl with | [_, _], _ => rfl
  have F5 := fun_mk (st := s__law_take) l5 c5 k5
  have b5 := F5.binds (ps := P__law_take) fun _ _ _ _ _ _ us hl => match us, hl with | [_, _], _ => rfl
  have F6 := fun_mk (st := s__law_pick) l6 c6 k6
  have b6 := F6.binds (ps := P__law_pick) fun _ _ _ _ _ _ us hl => match us, hl with | [_, _], _ => rfl
  have F7 := fun_mk (st := s__law_same) l7 c7 k7
  have b7 := F7.binds (ps := P__law_same) fun _ _ _ _ _ _ us hl => match us, hl with | [_, _], _ => rfl
  have F8 := fun_mk (st := s__law_shares) l8 c8 k8
  have b8 := F8.binds (ps := P__law_shares) fun _ _ _ _ _ _ us hl => match us, hl with | [_, _], _ => rfl
  have F9 := fun_mk (st := s__law_told) l9 c9 k9
  have b9 := F9.binds (ps := P__law_told) fun _ _ _ _ _ _ us hl => match us, hl with | [_, _], _ => rfl
  have F10 := fun_mk (st := s__law_bys) l10 c10 k10
  have b10 := F10.binds (ps := P__law_bys) fun _ _ _ _ _ _ us hl => match us, hl with | [_], _ => rfl
  have F11 := fun_mk (st := s__law_first_shared) l11 c11 k11
  have b11 := F11.binds (ps := P__law_first_shared) fun _ _ _ _ _ _ us hl => match us, hl with | [_], _ => rfl
  have F12 := fun_mk (st := s__law_right) l12 c12 k12
  have b12 := F12.binds (ps := P__law_right) fun _ _ _ _ _ _ us hl => match us, hl with | [_], _ => rfl
  have F13 := fun_mk (st := s_law) l13 c13 k13
  have F_I := fun_mk (st := s_init) lI cI kI
  have b_I := F_I.binds (ps := N_init) fun _ _ _ _ _ _ us hl => match us, hl with | [_, _], _ => rfl
  have EK_NoInverse : ExK K C_NoInverse := ⟨⟨⟨nm_NoInverse, q_NoInverse, N_NoInverse, bs_NoInverse, _, sn_NoInverse, sb_NoInverse, ab_NoInverse, co_NoInverse, dd_NoInverse, m0_NoInverse, m1_NoInverse, m2_NoInverse, m3_NoInverse, m5_NoInverse, xL_NoInverse, rfl⟩, sa_NoInverse, eC_NoInverse, tC_NoInverse, kC_NoInverse⟩, ⟨ga_NoInverse, gg_NoInverse, eC_NoInverse, hC_NoInverse⟩, ⟨ga_NoInverse, gg_NoInverse, eC_NoInverse, hC_NoInverse, oc_NoInverse, on, ot, mo_NoInverse⟩, nw_NoInverse⟩
  have R_NoInverse : Ref K C_TurnError C_NoInverse fI := ⟨EK_NoInverse, ii_NoInverse, PySem.W.exm_ref eT hT tT su_NoInverse, kv_NoInverse, kt_NoInverse⟩
  have EK_NotCoprime : ExK K C_NotCoprime := ⟨⟨⟨nm_NotCoprime, q_NotCoprime, N_NotCoprime, bs_NotCoprime, _, sn_NotCoprime, sb_NotCoprime, ab_NotCoprime, co_NotCoprime, dd_NotCoprime, m0_NotCoprime, m1_NotCoprime, m2_NotCoprime, m3_NotCoprime, m5_NotCoprime, xL_NotCoprime, rfl⟩, sa_NotCoprime, eC_NotCoprime, tC_NotCoprime, kC_NotCoprime⟩, ⟨ga_NotCoprime, gg_NotCoprime, eC_NotCoprime, hC_NotCoprime⟩, ⟨ga_NotCoprime, gg_NotCoprime, eC_NotCoprime, hC_NotCoprime, oc_NotCoprime, on, ot, mo_NotCoprime⟩, nw_NotCoprime⟩
  have R_NotCoprime : Ref K C_TurnError C_NotCoprime fI := ⟨EK_NotCoprime, ii_NotCoprime, PySem.W.exm_ref eT hT tT su_NotCoprime, kv_NotCoprime, kt_NotCoprime⟩
  have M_TurnError := PySem.W.mg_of X G g_TurnError
  have M_NoInverse := PySem.W.mg_of X G g_NoInverse
  have M_NotCoprime := PySem.W.mg_of X G g_NotCoprime
  have M_NoRoot := PySem.W.mg_of X G g_NoRoot
  refine ⟨_, fun s v => .of_eq rfl, fun base _ _ => ok_law (P := l.prog) (w := w) (base := base) F13 T ⟨⟨_, _, F0, b0, PySem.W.mg_of X G a0⟩, ⟨_, _, F1, b1, PySem.W.mg_of X G a1⟩, ⟨_, _, F2, b2, PySem.W.mg_of X G a2⟩, ⟨_, _, F3, b3, PySem.W.mg_of X G a3⟩, ⟨_, _, F4, b4, PySem.W.mg_of X G a4⟩, ⟨_, _, F5, b5, PySem.W.mg_of X G a5⟩, ⟨_, _, F6, b6, PySem.W.mg_of X G a6⟩, ⟨_, _, F7, b7, PySem.W.mg_of X G a7⟩, ⟨_, _, F8, b8, PySem.W.mg_of X G a8⟩, ⟨_, _, F9, b9, PySem.W.mg_of X G a9⟩, ⟨_, _, F10, b10, PySem.W.mg_of X G a10⟩, ⟨_, _, F11, b11, PySem.W.mg_of X G a11⟩, ⟨_, _, F12, b12, PySem.W.mg_of X G a12⟩⟩ ⟨F_I, b_I, tI, R_NoInverse, R_NotCoprime, M_TurnError, M_NoInverse, M_NotCoprime, M_NoRoot, fk1, fk2⟩⟩
end My
open PySem PySem.W PyProof.Rows
set_option maxRecDepth 100000 in
set_option maxHeartbeats 0 in
theorem PySem.Challenge.cw_turnsums_k06_rests_joined_holds : PySem.Challenge.rw_turnsums_k06_rests_joined.Holds := by
  w_on; o_law; k_head; (case hw => w_witness2)
  k_fill
  refine L2.walk_of (l := PySem.Challenge.rw_turnsums_k06_rests_joined) (n := 63) (k := 7) (x := "_law_script") (CX := fun _ => L2.CX0) (sp := fun w => My.spLaw _) rfl (by decide) rfl ⟨rfl, by decide, by decide⟩ (fun w h Y => PySem.W.kIn_of Y) ?F (fun _ _ a ns hl _ hS => ⟨a, ns, rfl, hS, hl, fun _ => rfl⟩) (fun _ _ _ _ _ h => h)
  case F =>
    intro w mg fa h KX G hmg
    refine' My.all_mk KX G hmg ?g_TurnError ?g_NoInverse ?g_NotCoprime ?g_NoRoot ?on ?ot ?eT ?hT ?tT ?xL_NoInverse ?sa_NoInverse ?ga_NoInverse ?gg_NoInverse ?nw_NoInverse ?ii_NoInverse ?oc_NoInverse ?kC_NoInverse ?eC_NoInverse ?tC_NoInverse ?hC_NoInverse ?mo_NoInverse ?su_NoInverse ?kv_NoInverse ?kt_NoInverse ?xL_NotCoprime ?sa_NotCoprime ?ga_NotCoprime ?gg_NotCoprime ?nw_NotCoprime ?ii_NotCoprime ?oc_NotCoprime ?kC_NotCoprime ?eC_NotCoprime ?tC_NotCoprime ?hC_NotCoprime ?mo_NotCoprime ?su_NotCoprime ?kv_NotCoprime ?kt_NotCoprime ?lI ?cI ?kI ?tI ?fk1 ?fk2 ?a0 ?l0 ?c0 ?k0 ?a1 ?l1 ?c1 ?k1 ?a2 ?l2 ?c2 ?k2 ?a3 ?l3 ?c3 ?k3 ?a4 ?l4 ?c4 ?k4 ?a5 ?l5 ?c5 ?k5 ?a6 ?l6 ?c6 ?k6 ?a7 ?l7 ?c7 ?k7 ?a8 ?l8 ?c8 ?k8 ?a9 ?l9 ?c9 ?k9 ?a10 ?l10 ?c10 ?k10 ?a11 ?l11 ?c11 ?k11 ?a12 ?l12 ?c12 ?k12 ?a13 ?l13 ?c13 ?k13 ?z0 ?z1 ?z2 ?z3 ?z4 ?z5 ?z6 ?z7 ?z8 ?z9 ?z10 ?z11 ?z12 ?z13 ?z14 ?z15 ?z16
    (case g_TurnError => first | k_is | rfl)
    (case g_NoInverse => first | k_is | rfl)
    (case g_NotCoprime => first | k_is | rfl)
    (case g_NoRoot => first | k_is | rfl)
    (case on => first | k_is | rfl)
    (case ot => first | k_is | rfl)
    (case eT => first | k_is | rfl)
    (case hT => first | k_is | rfl)
    (case tT => first | k_is | rfl)
    (case xL_NoInverse => first | k_is | rfl)
    (case sa_NoInverse => first | k_is | rfl)
    (case ga_NoInverse => first | k_is | rfl)
    (case gg_NoInverse => first | k_is | rfl)
    (case nw_NoInverse => first | k_is | rfl)
    (case ii_NoInverse => first | k_is | rfl)
    (case oc_NoInverse => first | k_is | rfl)
    (case kC_NoInverse => first | k_is | rfl)
    (case eC_NoInverse => first | k_is | rfl)
    (case tC_NoInverse => first | k_is | rfl)
    (case hC_NoInverse => first | k_is | rfl)
    (case mo_NoInverse => first | k_is | rfl)
    (case su_NoInverse => first | k_is | rfl)
    (case kv_NoInverse => first | k_is | rfl)
    (case kt_NoInverse => first | k_is | rfl)
    (case xL_NotCoprime => first | k_is | rfl)
    (case sa_NotCoprime => first | k_is | rfl)
    (case ga_NotCoprime => first | k_is | rfl)
    (case gg_NotCoprime => first | k_is | rfl)
    (case nw_NotCoprime => first | k_is | rfl)
    (case ii_NotCoprime => first | k_is | rfl)
    (case oc_NotCoprime => first | k_is | rfl)
    (case kC_NotCoprime => first | k_is | rfl)
    (case eC_NotCoprime => first | k_is | rfl)
    (case tC_NotCoprime => first | k_is | rfl)
    (case hC_NotCoprime => first | k_is | rfl)
    (case mo_NotCoprime => first | k_is | rfl)
    (case su_NotCoprime => first | k_is | rfl)
    (case kv_NotCoprime => first | k_is | rfl)
    (case kt_NotCoprime => first | k_is | rfl)
    (case lI => first | k_is | rfl)
    (case cI => first | k_is | rfl)
    (case kI => first | k_is | rfl)
    (case tI => first | k_is | rfl)
    (case fk1 => first | k_is | rfl)
    (case fk2 => first | k_is | rfl)
    (case a0 => k_is)
    (case l0 => k_is)
    (case c0 => k_is)
    (case k0 => k_is)
    (case a1 => k_is)
    (case l1 => k_is)
    (case c1 => k_is)
    (case k1 => k_is)
    (case a2 => k_is)
    (case l2 => k_is)
    (case c2 => k_is)
    (case k2 => k_is)
    (case a3 => k_is)
    (case l3 => k_is)
    (case c3 => k_is)
    (case k3 => k_is)
    (case a4 => k_is)
    (case l4 => k_is)
    (case c4 => k_is)
    (case k4 => k_is)
    (case a5 => k_is)
    (case l5 => k_is)
    (case c5 => k_is)
    (case k5 => k_is)
    (case a6 => k_is)
    (case l6 => k_is)
    (case c6 => k_is)
    (case k6 => k_is)
    (case a7 => k_is)
    (case l7 => k_is)
    (case c7 => k_is)
    (case k7 => k_is)
    (case a8 => k_is)
    (case l8 => k_is)
    (case c8 => k_is)
    (case k8 => k_is)
    (case a9 => k_is)
    (case l9 => k_is)
    (case c9 => k_is)
    (case k9 => k_is)
    (case a10 => k_is)
    (case l10 => k_is)
    (case c10 => k_is)
    (case k10 => k_is)
    (case a11 => k_is)
    (case l11 => k_is)
    (case c11 => k_is)
    (case k11 => k_is)
    (case a12 => k_is)
    (case l12 => k_is)
    (case c12 => k_is)
    (case k12 => k_is)
    (case a13 => k_is)
    (case l13 => k_is)
    (case c13 => k_is)
    (case k13 => k_is)
    (case z0 => k_is)
    (case z1 => k_is)
    (case z2 => k_is)
    (case z3 => k_is)
    (case z4 => k_is)
    (case z5 => k_is)
    (case z6 => k_is)
    (case z7 => k_is)
    (case z8 => k_is)
    (case z9 => k_is)
    (case z10 => k_is)
    (case z11 => k_is)
    (case z12 => k_is)
    (case z13 => k_is)
    (case z14 => k_is)
    (case z15 => k_is)
    (case z16 => k_is)

