import PyProof.Rows.All
import Wide.All
import OpenK.AllK
import Wide.FinOn
import HandS.ForMost
import HandS.IsInst
import HandS.Style
import HandS.Wide
import HandS.WideMore
import HandS.Zip
import HandS.Flow
import HandS.SetFor
import HandS.Strs
import HandS.SortInts
import HandS.ExcInit
import HandS.ExcField
import HandS.ExcIs
import HandS.ExcValue
import HandS.WordsExc
import HandS.NoneIn
import HandS.Conv
import HandS.TupMul
import HandS.TupAny
import HandS.Dict
import HandS.Deep
import KE.KExcIs
import KE.GoesMore
import PyProof.Draws
import PySem.Challenge.RW_turnsums_k23_what_fits_a_ground
set_option Elab.async false
set_option linter.all false
set_option maxRecDepth 100000
set_option maxHeartbeats 4000000
namespace My
open PySem L2
def top (i : Nat) : Stmt := PySem.Challenge.pw_turnsums_k23_what_fits_a_ground.main.body.getD i (.Pass ⟨0, 0, 0, 0⟩)
/-- a def of the text: where it stands, how it is called -/
structure Df (K : PySem.W.Frag) (mg : Str → Option Value) (x : Str) (st : Stmt) (ps : List Str) (f : Addr) (fd : FuncData) : Prop where
  F : Fun K x x st f fd
  b : Binds K fd ps []
  g : mg x = some (.ref f)
/-! heaps: all but the box stays -/
theorem same_upd {H H' : Hp} {p : Addr} {o : HO} (h : Same H H') (n : H' p = none) : Same H (upd H' p o) := fun b x e => by
  rw [upd_ne (ne_of_none (h b x e) n)]
  exact h b x e
theorem same_new {H : Hp} {p : Addr} {o : HO} (n : H p = none) : Same H (upd H p o) := same_upd (Same.refl H) n
theorem same_mut {H H' : Hp} {p : Addr} {o : HO} (h : Same H H') (n : H p = none) : Same H (upd H' p o) := fun b x e => by
  rw [upd_ne (ne_of_none e n)]
  exact h b x e
theorem same_t {K : PySem.W.Frag} {H H' : Hp} {a : Addr} {xs : List V} (e : Same H H') (h : SqT K H a xs) : SqT K H' a xs := by
  rcases h with (h | ⟨o, h⟩) | h
  · exact .inl (.inl (e _ _ h))
  · exact .inl (.inr ⟨o, e _ _ h⟩)
  · exact .inr h
def Keep (b : Addr) (H H' : Hp) : Prop := ∀ a o, a ≠ b → H a = some o → H' a = some o
theorem Keep.refl (b : Addr) (H : Hp) : Keep b H H := fun _ _ _ h => h
theorem Keep.trans {b : Addr} {H H1 H2 : Hp} (a : Keep b H H1) (c : Keep b H1 H2) : Keep b H H2 := fun x o n h => c x o n (a x o n h)
theorem keepS {b : Addr} {H H' : Hp} (h : Same H H') : Keep b H H' := fun x o _ e => h x o e
theorem keep_same {b : Addr} {H0 H H' : Hp} (a : Same H0 H) (n : H0 b = none) (k : Keep b H H') : Same H0 H' := fun x o e => k x o (ne_of_none e n) (a x o e)
theorem keep_upd {b : Addr} {H H' : Hp} {o : HO} (h : Keep b H H') : Keep b H (upd H' b o) := fun a u n e => by
  rw [upd_ne n]
  exact h a u n e
theorem keep_new {b p : Addr} {H H' : Hp} {o : HO} (h : Keep b H H') (n : H' p = none) : Keep b H (upd H' p o) := fun a u na e => by
  rw [upd_ne (ne_of_none (h a u na e) n)]
  exact h a u na e
theorem Keep.seq {K : PySem.W.Frag} {b a : Addr} {H H' : Hp} {xs : List V} (e : Keep b H H') (n : a ≠ b) (h : SqL K H a xs) : SqL K H' a xs := by
  rcases h with (h | ⟨o, h⟩) | h
  · exact .inl (.inl (e _ _ n h))
  · exact .inl (.inr ⟨o, e _ _ n h⟩)
  · exact .inr h
def BoxAt (H : Hp) (b : Addr) (n : Int) : Prop := ∃ x y z : Int, H b = some (.lst [.int x, .int y, .int z]) ∧ 0 ≤ x ∧ 0 ≤ y ∧ y ≤ 4294967296 ∧ 0 ≤ z ∧ z ≤ n
theorem BoxAt.mono {H : Hp} {b : Addr} {n m : Int} (h : BoxAt H b n) (e : n ≤ m) : BoxAt H b m := by
  obtain ⟨x, y, z, a1, a2, a3, a4, a5, a6⟩ := h
  exact ⟨x, y, z, a1, a2, a3, a4, a5, by omega⟩
theorem BoxAt.same {H H' : Hp} {b : Addr} {n : Int} (h : BoxAt H b n) (e : Same H H') : BoxAt H' b n := by
  obtain ⟨x, y, z, a1, a2⟩ := h
  exact ⟨x, y, z, e _ _ a1, a2⟩
theorem BoxAt.some {H : Hp} {b : Addr} {n : Int} (h : BoxAt H b n) : ∃ o, H b = some o := by
  obtain ⟨x, y, z, a1, a2⟩ := h
  exact ⟨_, a1⟩
theorem BoxAt.ne {H : Hp} {b p : Addr} {n : Int} (h : BoxAt H b n) (e : H p = none) : p ≠ b := by
  obtain ⟨o, h⟩ := h.some
  exact (ne_of_none h e).symm
theorem szl {n : Nat} (h : n ≤ 60000) : n ≤ sizeLine := Nat.le_trans h (by decide)
theorem szm {n : Nat} (h : n ≤ 60000) : n < sizeLine := Nat.lt_of_le_of_lt h (by decide)
theorem pw6 : (10 : Int) ^ Int.toNat 6 = 1000000 := by decide
theorem pw9 : (10 : Int) ^ Int.toNat 9 = 1000000000 := by decide
theorem newO {H H' : Hp} {p : Addr} {o : HO} (e : upd H p o = H') (hp : H p = none) : Same H H' ∧ H' p = some o := by
  subst e
  exact ⟨same_new hp, upd_same⟩
theorem mutO {H H' : Hp} {p : Addr} {o : HO} (e : upd H p o = H') : Keep p H H' ∧ H' p = some o := by
  subst e
  exact ⟨keep_upd (Keep.refl _ _), upd_same⟩
/-- a word of ours that the walk must not open -/
inductive Hold (p : Prop) : Prop
  | mk : p → Hold p
theorem Hold.un {p : Prop} (h : Hold p) : p := by
  cases h with
  | mk h => exact h
theorem holdN {W : Nat → L2.St → Hp → Prop} {m : Nat} : ∀ (σ' : L2.St) (H' : Hp), Hold (∃ m', m' < m ∧ W m' σ' H') → ∃ m', m' < m ∧ W m' σ' H' := fun _ _ h => h.un
theorem ite_dec {c A B : Prop} [Decidable c] (hc : c) (h : A) : if decide c = true then A else B := by
  rw [decide_eq_true hc]
  exact iteT h
def rLenQ (K : PySem.W.Frag) : List V → Hp → VK → Prop := fun xs H Q => ∃ p ys, xs = [.ref p] ∧ (SqL K H p ys ∨ SqT K H p ys) ∧ Q (.int ys.length) H
theorem iteTe {b : Bool} {A B : Prop} (e : b = true) (h : A) : if b = true then A else B := by
  rw [if_pos e]
  exact h
theorem iteFe {b : Bool} {A B : Prop} (e : b = false) (h : B) : if b = true then A else B := by
  rw [e]
  exact iteF h
theorem cmul_b {i : Int} {b : Bool} : CMul i (if b then 1 else 0) := by
  refine .inr ?_
  cases b <;> exact ⟨by decide, by decide⟩
theorem at_ints {ns : List Int} {k : Int} (h0 : 0 ≤ k) (h : k < (ns.length : Int)) : ∃ c, c ∈ ns ∧ atI (ns.map V.int) k = some (.int c) := by
  have hk : k.toNat < ns.length := by omega
  refine ⟨ns[k.toNat], List.getElem_mem hk, at_of (j := k.toNat) (by omega) ?_⟩
  rw [List.getElem?_map, List.getElem?_eq_getElem hk]
  rfl
theorem at_some {xs : List V} {k : Int} (h0 : 0 ≤ k) (h : k < (xs.length : Int)) : ∃ v, v ∈ xs ∧ atI xs k = some v := by
  have hk : k.toNat < xs.length := by omega
  exact ⟨xs[k.toNat], List.getElem_mem hk, at_of (j := k.toNat) (by omega) (List.getElem?_eq_getElem hk)⟩
theorem int_mem {ns : List Int} {v : V} (h : v ∈ ns.map V.int) : ∃ c, c ∈ ns ∧ v = .int c := by
  obtain ⟨c, hc, e⟩ := List.mem_map.mp h
  exact ⟨c, hc, e.symm⟩
structure Blt (mg : Str → Option Value) : Prop where
  b_ValueError : mg "ValueError" = none
  b_abs : mg "abs" = none
  b_all : mg "all" = none
  b_any : mg "any" = none
  b_bool : mg "bool" = none
  b_enumerate : mg "enumerate" = none
  b_int : mg "int" = none
  b_isinstance : mg "isinstance" = none
  b_len : mg "len" = none
  b_list : mg "list" = none
  b_min : mg "min" = none
  b_range : mg "range" = none
  b_set : mg "set" = none
  b_sorted : mg "sorted" = none
  b_str : mg "str" = none
  b_tuple : mg "tuple" = none
  b_zip : mg "zip" = none
/-! ### sorted(set(xs)), xs a list of few ints -/
section
open PySem.Spec PyProof.Rows PySem.Calls
abbrev bareSet (w : World) : Obj := { cls := .type "set", dict := none, data := .set #[] 0 (.fresh 0 0 (!w.params.followText "set-order")) }
/-- what set(xs) leaves behind -/
def SetLeft (w : World) (s : Shared) (ns : List Int) (h' : Heap) (c : Nat) : Prop := SetR w h' s.heap.objs.size (fun j => decide (j ∈ ns)) c ∧ c ≤ ns.length ∧ ∀ b o, s.heap.get? b = some o → h'.get? b = some o
variable {P : Program} {w : World} {A : Around} {E : Value → Shared → Prop} {s : Shared}
theorem items_ints {items : Array Value} {ns : List Int} (hi : IntsAre items.toList ns) (i : Nat) (v : Value) (hv : items[i]? = some v) : ∃ k t, ns[i]? = some k ∧ v = .int k t := by
  have hl : items.size = ns.length := by
    rw [← Array.length_toList]
    exact hi.length
  have hlt : i < ns.length := by
    rw [← hl]
    exact (Array.getElem?_eq_some_iff.mp hv).1
  obtain ⟨t, e⟩ := hi.int_at i v (by rw [Array.getElem?_toList]; exact hv)
  refine ⟨ns[i], t, List.getElem?_eq_getElem hlt, e.trans ?_⟩
  rw [List.getD_eq_getElem?_getD, List.getElem?_eq_getElem hlt]
  rfl
set_option maxHeartbeats 3200000 in
theorem set_of_list {l : Addr} {items : Array Value} {ns : List Int} {Q : Value → Shared → Prop} (hh : A.handled = none) (hl : s.heap.IsList l items) (hi : IntsAre items.toList ns) (hb : ns.length + 1 < scanBound)
    (h : ∀ (h' : Heap) (tk c : Nat), SetLeft w s ns h' c → Q (.ref s.heap.objs.size) { s with heap := h', toks := tk }) : wpAny (model P w) A (call (.type "set") [.ref l]) Q E s := by
  have hsz : items.size = ns.length := by
    rw [← Array.length_toList]
    exact hi.length
  obtain ⟨mc, mt, hmro⟩ := F.called_set.mro
  have a1 := F.called_set.made; have a2 := F.called_set.sub; have a3 := F.called_set.notType; have a4 := F.called_set.canCreate; have a5 := F.typeCall_set_1 (.ref l)
  refine wpAny_call (codeAny_of_tree (show wpAny _ _ (callAny (.type "set") _) _ _ _ from wpAny_pure ⟨Code.quiet_builtin _ (by decide +kernel), codeAny_builtin F.entry_type_call ?_⟩))
  rw [Around.under_plain (weight_type_call_type "set" [.ref l] []) rfl]; repeat (any_goals (first | assumption | wp_step))
  refine codeAny_mono (code_set_led1 (.ref l) (E := E) (Q₁ := fun v s' => v = .ref s.heap.objs.size ∧ s' = { s with heap := s.heap.push (bareSet w) }) ⟨rfl, rfl⟩) fun res s1 hres => ?_
  match res, hres with
  | .error e, hres => exact hres
  | .ok .next, hres => exact hres.elim
  | .ok .cont, hres => exact hres.elim
  | .ok .brk, hres => exact hres.elim
  | .ok (.ret v), hres =>
    obtain ⟨rfl, rfl⟩ := hres
    have g0 : (s.heap.push (bareSet w)).get? s.heap.objs.size = some (bareSet w) := Heap.get?_push_size _ rfl
    have ty0 : Shared.TypeIs { s with heap := s.heap.push (bareSet w) } (.ref s.heap.objs.size) "set" := ⟨_, g0, rfl⟩
    have i1 := F.called_set.init.lookup; have i2 := F.called_set.init.bind (.ref s.heap.objs.size)
    repeat (any_goals (first | assumption | wp_step))
    refine codeAny_mono (codeAny_call_builtin (R := wants (fun v s' => v = .none ∧ ∃ h' tk c, s' = { s with heap := h', toks := tk } ∧ SetLeft w s ns h' c) E) F.called_set.init.plain F.entry_set_init (check_set_init_1 ty0 ?_)) fun res2 s2 hres2 => ?_
    · obtain ⟨⟨lc, ld, la, ls⟩, hol, hcl, nl, hdl⟩ := hl
      simp only at hcl hdl; subst hcl; subst hdl
      have hol1 := Heap.get?_push_of_some (bareSet w) hol
      have hL1 : (s.heap.push (bareSet w)).IsList l items := ⟨_, hol1, rfl, nl, rfl⟩
      have n1 := F.sub_list_set; have n2 := F.sub_list_frozenset; have n3 : (Value.type "list" == Value.type "dict") = false := by decide
      unfold Builtin.«set.__init__» noKeywords Builtin.Frozenset.updateFrom; generalize hgo : pyIter = go; wp_walk; subst hgo
      refine wpAny_pyIter_list hL1 (wpAny_bind (wpAny_runValue ?_))
      have ll := Heap.lt_size hol
      have hhd : A.in1.in1.in1.handled = none := by simp [hh]
      have sz1 : (s.heap.push (bareSet w)).objs.size = s.heap.objs.size + 1 := Heap.size_push ..
      have off : l ≠ (s.heap.push (bareSet w)).objs.size := by rw [sz1]; exact Nat.ne_of_lt (Nat.lt_succ_of_lt ll)
      have out : s.heap.objs.size ∉ [(s.heap.push (bareSet w)).objs.size, l] := by
        intro z
        rcases List.mem_cons.mp z with z | z
        · rw [sz1] at z
          exact absurd z (Nat.ne_of_lt (Nat.lt_succ_self _))
        · exact absurd (List.mem_singleton.mp z) (Nat.ne_of_gt ll)
      refine set_update_ints ((Walks.list hhd _ l off items).toS) s.heap.objs.size out ns hsz hb (items_ints hi) (items.size - 0) 0 _ (by omega) (Nat.zero_le _) ⟨⟨_, Heap.get?_push_size _ rfl, rfl, rfl⟩, hL1.push _⟩ ⟨0, Nat.le_refl 0, setR_new_at (Heap.get?_push_of_some _ g0)⟩ ?_
      rintro ⟨h', g', d', tk', os'⟩ c' hm hc' hS'
      obtain ⟨e1, e2, e3⟩ := (show g' = s.gens ∧ d' = s.drawn ∧ os' = s.os from ⟨hm.gens, hm.drawn, hm.os⟩)
      subst e1; subst e2; subst e3
      refine wpAny_pure (show wpAny _ _ (ret Value.none) _ _ _ from wpAny_pure ⟨rfl, h', tk', c', rfl, hS', by omega, fun b o e => ?_⟩)
      have lb := Heap.lt_size e
      refine hm.heap b o ?_ (Heap.get?_push_of_some _ (Heap.get?_push_of_some _ e))
      intro z
      rcases List.mem_cons.mp z with z | z
      · exact absurd z (Nat.ne_of_lt lb)
      · have z2 := List.mem_singleton.mp z
        rw [sz1] at z2
        exact absurd z2 (Nat.ne_of_lt (Nat.lt_succ_of_lt lb))
    · match res2, hres2 with
      | .error e, hres2 => exact hres2
      | .ok .next, hres2 => exact hres2.elim
      | .ok .cont, hres2 => exact hres2.elim
      | .ok .brk, hres2 => exact hres2.elim
      | .ok (.ret v2), hres2 =>
        obtain ⟨rfl, h', tk, c', rfl, hS'⟩ := hres2
        repeat (any_goals (first | assumption | wp_step))
        exact h _ _ _ hS'
end
open PySem.Spec PyProof.Rows in
/-- sorted of a set of ints, however many -/
theorem set_sorted {P : Program} {w : World} {A : Around} {E : Value → Shared → Prop} {s : Shared} {a : Addr} {S : Int → Bool} {n : Nat} {Q : Value → Shared → Prop} (R : SetR w s.heap a S n) (hh : A.handled = none)
    (q : ∀ s' p (out : List Value) (c : Nat) (ms : List Int), (∀ b o, s.heap.get? b = some o → s'.heap.get? b = some o) → s'.gens = s.gens → s'.os = s.os → s.heap.objs.size ≤ p →
      s'.heap.get? p = some (seqObj "list" out.toArray c) → IntsAre out ms → ms.Pairwise (· < ·) → (∀ k, k ∈ ms ↔ S k = true) → ms.length = n → Q (.ref p) s') : wpAny (model P w) A (call (.builtin "sorted") [.ref a]) Q E s := by
  obtain ⟨o, es, ep, t, g1, g2, g3, good, nod, mem, g4, g5, g6, g7, g8⟩ := R
  refine Calls.call_function_entry kind_sorted plain_sorted entry_sorted (args_sorted1 _) ?_; unfold Builtin.«sorted»
  refine wpAny_bind (m := checkCount "sorted" 1 1 _) (wpAny_pure (wpAny_bind (collect_set (A := A.in1) hh ⟨o, g1, g2.1, g3⟩ g5 g4 g7 g8 fun s1 vs k1 z1 e1 e2 pm => ?_)))
  have len : vs.length = n := by
    rw [pm.length_eq, List.length_map, Array.length_toList]
    exact g6
  have ivs : ∀ e ∈ es.toList, SrtO.iv e.2 = keyOf e := fun e he => by
    obtain ⟨k, tk, h1, _⟩ := good e he
    unfold keyOf
    rw [h1]
    rfl
  have hI : IntsAre vs (vs.map SrtO.iv) := SrtO.ints_iv fun v hv => by
    obtain ⟨e, he, ev⟩ := List.mem_map.mp (pm.mem_iff.mp hv)
    obtain ⟨k, tk, h1, _⟩ := good e he
    exact ⟨k, tk, ev.symm.trans h1⟩
  have prm : (vs.map SrtO.iv).Perm (es.toList.map keyOf) := by
    refine (pm.map SrtO.iv).trans ?_
    rw [List.map_map]
    exact List.Perm.of_eq (List.map_congr_left ivs)
  have zn : n ≤ sizeLine := by
    unfold scanBound at g4
    exact szl (by omega)
  refine wpAny_bind (wpAny_newList ?_ (by rw [len]; exact zn))
  have at1 : (s1.heap.push (seqObj "list" vs.toArray 0)).get? s1.heap.objs.size = some (seqObj "list" vs.toArray 0) := Heap.get?_push_size _ rfl
  refine wpAny_bind (wpAny_holding (wpAny_call_entry slot_list_sort ⟨_, at1, rfl⟩ entry_list_sort (SrtO.list_sort_ord SrtO.swo_int at1 (by rw [len]; exact zn) (fun two => SrtO.ints_sortable hI two) fun out o1 o2 => ⟨_, rfl, ?_⟩) (args_list_sort _)))
  obtain ⟨j1, j2, j3⟩ := SrtO.ints_out hI o1 o2
  obtain ⟨c, at2⟩ := sortedHeap_at (vs := vs) (out := out.toArray) at1
  have prm2 := j2.trans prm
  refine wpAny_pure ⟨_, rfl, q _ s1.heap.objs.size out c _ (fun b u e => ?_) e1 e2 z1 at2 j1 (lt_of_le_nodup _ j3 (prm2.nodup_iff.mpr nod)) (fun k => by rw [prm2.mem_iff, ← mem k]) (by rw [prm2.length_eq, List.length_map, Array.length_toList]; exact g6)⟩
  have e3 := k1 b u e
  have l3 := Heap.lt_size e3
  exact (sortedHeap_old (vs := vs) (out := out.toArray) (Nat.ne_of_lt l3) (by rw [size_push']; exact Nat.lt_succ_of_lt l3)).trans (Heap.get?_push_of_some _ e3)
def tSortSet (K : PySem.W.Frag) (ta : TE) : TE := fun σ H Q => ta σ H fun x H1 => ∃ (l : Addr) (ns : List Int), x = .ref l ∧ SqL K H1 l (ns.map V.int) ∧ ns.length ≤ 4000 ∧
  ∀ (out : List Int) (p : Addr), H1 p = none → out.Pairwise (· < ·) → (∀ k, k ∈ out ↔ k ∈ ns) → out.length ≤ ns.length → Q (.ref p) (upd H1 p (.lst (out.map V.int)))
open PySem.Spec PyProof.Rows in
theorem pe_sortSet {X : Cx} {a : Expr} {ta : TE} {p p2 q pos : Pos} (hg : Gl X "sorted") (hm : X.mg "sorted" = none) (hg2 : Gl X "set") (hm2 : X.mg "set" = none) (ha : PE X a ta) (hc : X.calm = true := by rfl)
    (na : starEach [a] X.env = (false, eval a X.env) :: starEach [] X.env := by rfl) : PE X (.Call (.Name "sorted" p) [.Call (.Name "set" p2) [a] [] q] [] pos) (tSortSet X.K ta) := by
  refine ⟨fun pins s σ H Q I h => ?_⟩
  refine Call_ (ld_blt I hg hm boot_sorted (callWith_builtin1 (args_cons (Call_ (ld_blt I hg2 hm2 boot_set (callWith_type1 (args_cons (thn (ha.run pins s σ H _ I h) fun v s1 ⟨x, H1, I1, r1, q1⟩ => args_nil ?_) na) na rfl))) rfl) rfl rfl))
  obtain ⟨l, ns, rfl, hq, hn, q1⟩ := q1
  cases r1
  obtain ⟨its, r, pl, hz⟩ := I1.list hq
  have hd := I1.ok.hd hc
  refine set_of_list hd pl.isList (by simpa using ints_of_vals r) (by unfold scanBound; omega) fun h' tk c hL => args_nil ?_
  obtain ⟨R1, hcn, kept⟩ := hL
  refine set_sorted (s := { s1 with heap := h', toks := tk }) R1 hd fun s' pp out cc ms k g o hp hgt hi hs hmem hlen => ?_
  have kk : ∀ b u, s1.heap.get? b = some u → s'.heap.get? b = some u := fun b u e => k b u (kept b u e)
  have hpp : s1.heap.objs.size ≤ pp := Nat.le_trans (Nat.le_of_lt R1.lt) hp
  have fr : H1 pp = none := I1.hok.fresh hpp
  have sl : (ms.map V.int).length ≤ sizeLine := by
    rw [List.length_map, hlen]
    exact szl (by omega)
  have hos : s'.os = s1.os := o
  have J : Inv X pins σ (upd H1 pp (.lst (ms.map V.int))) { s1 with heap := s'.heap, gens := s'.gens, drawn := s'.drawn, toks := s'.toks } :=
    I1.call (ch := []) (Un.laid kk hpp fr) (I1.hok.laid kk hpp ⟨sl, out, cc, vals_of_ints hi, hgt⟩) (by rw [g]; exact I1.bare) (fun _ z => nomatch z)
  have es : s' = { s1 with heap := s'.heap, gens := s'.gens, drawn := s'.drawn, toks := s'.toks } := by
    obtain ⟨b1, b2, b3, b4, b5⟩ := s'
    simp only at hos
    subst hos
    rfl
  rw [es]
  exact ⟨.ref pp, _, J, rfl, q1 ms pp fr hs (fun j => (hmem j).trans decide_eq_true_iff) (by omega)⟩
local macro_rules | `(tactic| walk_at "ev1") => `(tactic| first
  | with_reducible assumption
  | ((with_reducible show _ = _); exact rfl)
  | ((first | with_reducible show (_ : Int) = _ | with_reducible show (_ : Int) < _ | with_reducible show (_ : Int) ≤ _ | with_reducible show (_ : Nat) < _ | with_reducible show (_ : Nat) ≤ _); first | omega | decide | (simp only [pw6, pw9]; omega) | (simp only [List.length_cons, List.length_nil, List.length_append, List.length_map, List.length_replicate]; omega))
  | assumption
  | exact upd_same
  | exact SqL.of upd_same
  | exact Or.inl (SqL.of upd_same)
  | exact Or.inl (by assumption)
  | exact Or.inr (by assumption)
  | omega
  | exact (show CDiv _ _ from ⟨by omega, by omega⟩)
  | exact (show CPow _ _ from ⟨by omega, by omega, by omega⟩)
  | exact (show CMul _ _ from .inl ⟨by omega, by omega⟩)
  | exact (show CMul _ _ from .inr ⟨by omega, by omega⟩)
  | exact (show CMul _ _ from cmul_b)
  | exact (show CDivW _ _ from wide_div (b := 31) (by omega) (by omega) (by decide) (by decide))
  | exact (Or.inl ⟨rfl, _, SqL.of (by assumption)⟩)
  | exact ClsV.ty _
  | exact .cons (.ty _) (.cons (.ty _) .nil)
  | (refine szl ?_; simp only [List.length_cons, List.length_nil, List.length_append, List.length_map, List.length_replicate]; omega)
  | (refine szm ?_; simp only [List.length_cons, List.length_nil, List.length_append, List.length_map, List.length_replicate]; omega))
local macro_rules | `(tactic| walk_at "s") => `(tactic| (first
  | (refine And.intro ?l ?_; (case l => walk_at "ev1"))
  | with_reducible refine iteT ?_
  | with_reducible refine iteF ?_
  | with_reducible refine ite_dec rfl ?_
  | with_reducible refine iteNS rfl ?_
  | with_reducible refine iteNS (by assumption) ?_
  | (apply Or.inl; apply Exists.intro; apply And.intro rfl)
  | (apply Or.inr; apply Exists.intro; apply And.intro rfl)
  | ((fail_if_success (refine @Exists.intro (Nat → Nat → L2.St → Hp → Prop) _ ?_ ?_)); (fail_if_success (refine @Exists.intro (Nat → L2.St → Hp → Prop) _ ?_ ?_)); (fail_if_success (refine @Exists.intro (L2.St → Hp → Prop) _ ?_ ?_)); (fail_if_success (refine @Exists.intro (Hp → Prop) _ ?_ ?_)); (fail_if_success (refine @Exists.intro (Nat → Nat → Hp → Prop) _ ?_ ?_)); apply Exists.intro)))
local macro_rules | `(tactic| walk_at "ev") => `(tactic| repeat (walk_at "s"))
local macro_rules | `(tactic| w_cond $i:ident) => do
  let b := (i.getId.toString.drop 1).toString
  let l := Lean.mkIdent (.mkSimple ("l" ++ b))
  let hl := Lean.mkIdent (.mkSimple ("hl" ++ b))
  let h := Lean.mkIdent (.mkSimple ("H" ++ b))
  let sm := Lean.mkIdent (.mkSimple ("sm" ++ b))
  let hq := Lean.mkIdent (.mkSimple ("hq" ++ b))
  `(tactic| (intro $l:ident $hl:ident; generalize hG : upd _ $l:ident _ = $h:ident; obtain ⟨$sm:ident, $hq:ident⟩ := newO hG $hl:ident; clear hG))
/-! ### a caught exception that a name keeps behind its clause -/
/-- at a: an exception of the class at C, its dict at d -/
def XOb (C d a : Addr) : HO := .ext fun h => ∃ (ob : Obj) (fl : Array Value), h.get? a = some ob ∧ Zc (.ref C) (some d) ob ∧ ob.data = .fields fl
theorem xob_ok {P : Program} {w : World} {H : Hp} {h : Heap} {C d a : Addr} {ob : Obj} {fl : Array Value} (q1 : h.get? a = some ob) (q2 : Zc (.ref C) (some d) ob) (q3 : ob.data = .fields fl) : ObjOk P w H h a (XOb C d a) :=
  ⟨⟨ob, fl, q1, q2, q3⟩, ⟨ob, q1⟩, fun _ _ ⟨u, v, r1, r2⟩ k => ⟨u, v, k u r1, r2⟩⟩
/-- an object of the heap that nobody tracks is tracked from now on -/
theorem track {X : Cx} {pins : List (Addr × Obj)} {σ : L2.St} {H : Hp} {s : Shared} {a : Addr} {o : HO} (I : Inv X pins σ H s) (n0 : X.s_0.heap.get? a = none) (hn : H a = none) (nL : a ≠ X.env.locals) (nC : ∀ x c, X.env.cells.lookup x = some c → c ≠ a)
    (nP : ∀ p ∈ X.pn ++ pins, p.1 ≠ a) (new : ObjOk X.prog X.w (upd H a o) s.heap a o) : Inv X pins σ (upd H a o) s := by
  have ne : ∀ {b : Addr} {u : HO}, H b = some u → b ≠ a := fun e => ne_of_none e hn
  refine ⟨I.ok, I.os, I.bare, ⟨I.base.keep, I.base.slot, fun b u e n hx => ?_, I.base.there, fun b xs e => ?_, fun b u v e => ?_, fun b ps e => ?_⟩, I.loc, I.cell, ?_, fun x c e => ?_, fun p hp => ?_, I.hok.laidN (fun _ _ z => z) hn new, I.len⟩
  · have : b ≠ a := fun z => by
      rw [z, n0] at e
      cases e
    rw [upd_ne this]
    exact I.base.free b u e n hx
  · have q := I.base.tups b xs e
    rw [upd_ne (ne q)]
    exact q
  · have q := I.base.frzs b u v e
    rw [upd_ne (ne q)]
    exact q
  · obtain ⟨m, q⟩ := I.base.tbls b ps e
    exact ⟨m, by rw [upd_ne (ne q)]; exact q⟩
  · rw [upd_ne nL.symm]
    exact I.free
  · rw [upd_ne (nC x c e)]
    exact I.freeC x c e
  · obtain ⟨e, n, r⟩ := I.pin p hp
    exact ⟨e, by rw [upd_ne (nP p hp)]; exact n, r⟩
/-- what 'except x as n: ..' wishes, the exception tracked behind it -/
def wKeep (K : PySem.W.Frag) (c : Value) (i : Nat) (ts : Addr → TS) (Wout : WX) (D : Ends) : WX := fun cls d σ H =>
  ∃ b, PySem.W.exmOne K cls c = some b ∧ (b = true → ∃ C dd, cls = .ref C ∧ d = some dd ∧ ∀ a, H a = none →
    ts a { nx := fun σ2 H2 => D.nx (σ2.set i none) (upd H2 a (XOb C dd a)), rt := fun _ _ => False, bk := fun _ _ => False, ct := fun _ _ => False } (σ.set i (some (.ref a))) H) ∧ (b = false → Wout cls d σ H)
section
variable {X : Cx} {x n : Str} {c : Value} {i : Nat} {body suite : List Stmt} {b₀ : Stmt} {np pos pos' : Pos} {tb : WX → TS} {ts : Addr → TS} {Wout : WX}
theorem ps_try_keep (hs : X.stack = X.env :: X.outer) (hf : X.env.frame = some X.env.locals) (hex : X.ex = []) (hN : X.N.Nodup) (hi : X.N[i]? = some n) (hln : X.env.kindOf n = some .local) (hc : Names X x c) (tk : Takes X Wout)
    (hb : ∀ (W : WX) (pn : List (Addr × Obj)) (xe : Value → Shared → Prop), Takes (X.tr pn xe) W → PassesOwn (model X.prog X.w) X.A X.env xe → PSs (X.tr pn xe) body (tb W))
    (hsu : ∀ (a : Addr) (pn : List (Addr × Obj)), PSs (X.suite a pn) (b₀ :: suite) (ts a)) :
    PS X (.Try body [.ExceptHandler (some (.Name x np)) (some n) (b₀ :: suite) pos'] [] [] pos) (fun D σ H => tb (wKeep X.K c i ts Wout D) D σ H) := by
  refine ⟨fun pins s σ H D I h => ?_⟩
  have ok := I.ok
  have fr : X.A.frames = some (X.env :: X.outer) := ok.frames.trans (congrArg some hs)
  refine wpAny_Try_except (wpAny_mono ((hb (wKeep X.K c i ts Wout D) (X.pn ++ pins) (fun e s1 => wpAny (model X.prog X.w) X.A (noteFrame e X.env)
    (fun _ s2 => wpAny (model X.prog X.w) X.A (setFlight e none) (fun _ s3 => wpAny (model X.prog X.w) X.A (handleBy e X.env [.ExceptHandler (some (.Name x np)) (some n) (b₀ :: suite) pos']) (SP X pins D) X.xe s3) X.xe s2) X.xe s1)
    (fun u s1 fly => ?_) PassesOwn.looking).run [] s σ H D (I.toTry _) h) (fun f s1 q => ?_) (fun _ _ z => z))
  · obtain ⟨a, B, s0, pins1, σ1, H1, cls, d, rfl, J0, nb, up, sky, na, os, ag, b, hm, yes, no⟩ := fly
    have J : Inv X pins σ1 H1 s0 := J0.ofTry ok
    have sky1 : Sky B (X.env :: X.outer) a (Zc cls d) X.env.locals s1.heap := hs ▸ sky
    show wpAny (model X.prog X.w) X.A (noteFrame (.ref a) X.env) _ _ _
    refine Sky.land Zc.steady fr hf sky1 fun g3 fly3 up3 => ?_
    have J3 : Inv X pins σ1 H1 { s1 with heap := g3 } := J.landed nb fly3.1 (up.trans up3) os ag
    obtain ⟨o3, f3, e3, z3, d3⟩ := fly3.there
    have away : a ∉ frs (X.env :: X.outer) := fun hmem => by
      obtain ⟨_, o', e', hnf⟩ := fly3.2.2.1.mem hmem
      cases e3.symm.trans e'
      exact hnf _ d3
    have nL : a ≠ X.env.locals := fun z => away (List.mem_filterMap.mpr ⟨X.env, List.mem_cons_self, hf.trans (congrArg some z.symm)⟩)
    have nF : a ∉ X.fs := fun hmem => by
      obtain ⟨e, he, q⟩ := List.mem_filterMap.mp hmem
      exact away (List.mem_filterMap.mpr ⟨e, List.mem_cons_of_mem _ he, q⟩)
    have nB : B.get? a = none := fly3.2.1
    have n0 : X.s_0.heap.get? a = none := by
      cases e : X.s_0.heap.get? a with
      | none => rfl
      | some o =>
        obtain ⟨o', q⟩ := J.base.there a o e (by rw [hex]; exact fun z => nomatch z)
        have q2 := nb a o' q (by rw [hs]; exact away)
        rw [nB] at q2
        cases q2
    have nP : ∀ p ∈ X.pn ++ pins, p.1 ≠ a := fun p hp z => by
      obtain ⟨q, _⟩ := J.pin p hp
      have q2 := nb p.1 p.2 q (by rw [hs, z]; exact away)
      rw [z, nB] at q2
      cases q2
    have S3 := J3.suite e3 d3 na nL nF
    have lt : PySem.W.Looks (model X.prog X.w) g3 (typeOf (.ref a)) cls := fun A Q E s k q => wpAny_typeOf_ref (k _ _ e3) (by rw [z3.1]; exact q)
    have lm := PySem.W.exm_one (M := model X.prog X.w) J3.kIn lt hm
    refine wpAny_handleBy_cons (codeAny_handlers_test ?_) (fun q => nomatch q)
    have named : ∀ {Q E : Value → Shared → Prop}, Q c { s1 with heap := g3 } → wpAny (model X.prog X.w) (X.A.mark (some (.ref a))) (eval (.Name x np) X.env) Q E { s1 with heap := g3 } := fun {Q E} q => by
      rcases hc with ⟨hg, hdb, hm1 | ⟨hm1, hv, hnn⟩⟩
      · exact ld_glob (X := X.suite a ((a, o3) :: (X.pn ++ pins))) S3 hg hm1 q hdb
      · exact ld_blt (X := X.suite a ((a, o3) :: (X.pn ++ pins))) S3 hg hm1 hv q hnn hdb
    refine named (lm.here ?_)
    cases b with
    | true =>
      obtain ⟨C, dd, ec, ed, yes⟩ := yes rfl
      refine codeAny_handlers_suite_as (HandSPX.lands_againZ fly3 fun g4 fly4 up4 => ?_)
      have J4 : Inv X pins σ1 H1 { s1 with heap := g4 } := J.landed nb fly4.1 ((up.trans up3).trans up4) os ag
      obtain ⟨o4, f4, e4, z4, d4⟩ := fly4.there
      refine store_ok (X := X.suite a ((a, o4) :: (X.pn ++ pins))) (v := .ref a) (J4.suite e4 d4 na nL nF) hN hi (.inl hln) rfl (fun s5 S5 => ?_) (.inr hln)
      refine wpAny_mono ((hsu a ((a, o4) :: (X.pn ++ pins))).run [] s5 _ H1 _ S5 (yes a na)) (fun f s6 q6 => ?_) (fun _ _ z => z.elim)
      cases f with
      | next =>
        obtain ⟨σ6, H6, S6, q6⟩ := q6
        refine gone_ok (X := X.suite a ((a, o4) :: (X.pn ++ pins))) (pins := []) S6 hN hi hln fun s7 S7 => ?_
        obtain ⟨e7, n7, _⟩ := S7.pin (a, o4) (List.mem_append_left _ List.mem_cons_self)
        refine ⟨_, _, track (S7.unsuite ok) n0 n7 nL (fun y c' ey z => ?_) nP (xob_ok (C := C) (d := dd) e7 (by rw [← ec, ← ed]; exact z4) d4), q6⟩
        obtain ⟨v, ob, q1, q2⟩ := S7.cell y c' ey
        subst z
        cases e7.symm.trans q1
        cases d4.symm.trans q2
      | brk =>
        obtain ⟨_, _, _, q6⟩ := q6
        exact q6.elim
      | cont =>
        obtain ⟨_, _, _, q6⟩ := q6
        exact q6.elim
      | ret u =>
        obtain ⟨_, _, _, _, _, q6⟩ := q6
        exact q6.elim
    | false =>
      show wpAny _ X.A (handleBy (.ref a) X.env []) _ _ _
      refine wpAny_handleBy_nil ?_
      obtain ⟨k1, k2, k3, ob, fl, T, oT, tl, he, hz, hd, h1, hr⟩ := id fly3
      unfold PySem.passOn
      refine wpAny_bind (wpAny_field he hd h1 ?_)
      rw [if_neg (show ¬ ((Value.ref T == Value.none) = true) from by simp)]
      have fin : wpAny (model X.prog X.w) X.A (setFlight (.ref a) X.env.frame) (fun _ s4 => wpAny (model X.prog X.w) X.A (throw (.ref a) : Sem Flow) (SP X pins D) X.xe s4) X.xe { s1 with heap := g3 } := by
        rw [hf]
        exact HandSPX.setFlight_upZ fly3 fun g4 held4 up4 => wpAny_throw (tk _ _ ⟨a, B, s0, pins, σ1, H1, cls, d, rfl, J, nb, (up.trans up3).trans up4, .inr (.inr (hs ▸ held4)), na, os, ag, no rfl⟩)
      first
        | exact wpAny_bind (wpAny_pure (wpAny_bind fin))
        | exact wpAny_bind fin
  · cases f with
    | next =>
      obtain ⟨σ1, H1, J, q⟩ := q
      exact wpAny_execs_nil ⟨σ1, H1, J.ofTry ok, q⟩
    | brk =>
      obtain ⟨σ1, H1, J, q⟩ := q
      exact ⟨σ1, H1, J.ofTry ok, q⟩
    | cont =>
      obtain ⟨σ1, H1, J, q⟩ := q
      exact ⟨σ1, H1, J.ofTry ok, q⟩
    | ret u =>
      obtain ⟨v, σ1, H1, J, r, q⟩ := q
      exact ⟨v, σ1, H1, J.ofTry ok, r, q⟩
end
/-- what is told of an own exception class -/
structure ExK (K : PySem.W.Frag) (C : Addr) : Prop where
  oex : OexC K C
  xf : XfC K C
  ec : ExcC K C
  nw : PySem.W.findIn K (.ref C) "what" = some none
/-- an exception object, tracked, with its fields -/
def XAt (H : Hp) (a C : Addr) (fs : List (Str × V)) : Prop := ∃ d, H a = some (XOb C d a) ∧ H d = some (.xd fs)
theorem XAt.same {H H' : Hp} {a C : Addr} {fs : List (Str × V)} (h : XAt H a C fs) (e : Same H H') : XAt H' a C fs := by
  obtain ⟨d, h1, h2⟩ := h
  exact ⟨d, e _ _ h1, e _ _ h2⟩
theorem xat_inst {X : Cx} {pins : List (Addr × Obj)} {σ : L2.St} {H : Hp} {s : Shared} {a C : Addr} {fs : List (Str × V)} (I : Inv X pins σ H s) (h : XAt H a C fs) : ∃ (ob od : Obj) (mA : Str → Option Value), PySem.W.InstAt s.heap a ob C (some od) ∧ (∀ name, PySem.W.lookIn name od = some (mA name)) ∧ ∀ f, RelO (fs.lookup f) (mA f) := by
  obtain ⟨d, h1, h2⟩ := h
  obtain ⟨⟨ob, fl, q1, q2, q3⟩, _, _⟩ := (show ObjOk X.prog X.w H s.heap a (XOb C d a) from I.hok a _ h1)
  obtain ⟨mA, hns, hr⟩ := (show ObjOk X.prog X.w H s.heap d (.xd fs) from I.hok d _ h2)
  obtain ⟨od, ho, hl⟩ := lookIn_ns hns
  exact ⟨ob, od, mA, ⟨q1, q2.1, by unfold PySem.W.notCls; rw [q3] <;> rfl, by rw [q2.2]; exact ho⟩, hl, hr⟩
/-- isinstance(e, c), e tracked -/
def rIsX (K : PySem.W.Frag) : List V → Hp → VK → Prop := fun xs H Q => ∃ (a C : Addr) (fs : List (Str × V)) (c : V) (cv : Value) (b : Bool), xs = [.ref a, c] ∧ XAt H a C fs ∧ ExK K C ∧ ClsV c cv ∧ PySem.W.kitOne K (.ref C) cv = some b ∧ Q (.bl b) H
def rIsXT (K : PySem.W.Frag) : List V → Hp → VK → Prop := fun xs H Q => ∃ (a C tp : Addr) (fs : List (Str × V)) (cs : List V) (us : List Value) (b : Bool), xs = [.ref a, .ref tp] ∧ H tp = some (.tup cs) ∧ XAt H a C fs ∧ ExK K C ∧ Paired ClsV cs us ∧ PySem.W.kitAny K (.ref C) us = some b ∧ Q (.bl b) H
theorem kit_x {K : PySem.W.Frag} {a C : Addr} {ob od : Obj} (E : ExK K C) : PySem.W.KitX K (.ref a) (.ref C) (fun h => PySem.W.InstAt h a ob C (some od)) := by
  obtain ⟨cd, hc, _⟩ := PySem.W.any_some E.ec.hd
  exact PySem.W.kitx_exc (by rw [hc]; rfl) E.ec.hg E.ec.hk E.ec.hs E.ec.ha E.ec.hn E.ec.ht E.ec.hm
theorem call_isX {X : Cx} : CallR X (.builtin "isinstance") (rIsX X.K) := by
  intro pins s σ H xs us Q I r h
  obtain ⟨a, C, fs, c, cv, b, rfl, hx, E, k, e, q⟩ := h
  obtain ⟨u1, u2, rfl, r1, r2⟩ := vals2 r
  cases (show u1 = Value.ref a from r1)
  have e2 := k.eq r2
  subst e2
  obtain ⟨ob, od, mA, J, _, _⟩ := xat_inst I hx
  exact PySem.W.kia_one (kit_x E) I.kIn J e (fun z => nomatch z) fun tk => ⟨.bl b, H, I.tok tk, rfl, q⟩
theorem call_isXT {X : Cx} : CallR X (.builtin "isinstance") (rIsXT X.K) := by
  intro pins s σ H xs us Q I r h
  obtain ⟨a, C, tp, fs, cs, ws, b, rfl, hT, hx, E, k, e, q⟩ := h
  obtain ⟨u1, u2, rfl, r1, r2⟩ := vals2 r
  cases (show u1 = Value.ref a from r1)
  cases (show u2 = Value.ref tp from r2)
  obtain ⟨ob, od, mA, J, _, _⟩ := xat_inst I hx
  obtain ⟨_, its, rv, o, h1, h2, n, h3⟩ := (show ObjOk X.prog X.w H s.heap tp (.tup cs) from I.hok tp _ hT)
  have e3 := ClsV.all k rv
  subst e3
  rcases o with ⟨oc, od', dt, sl⟩
  dsimp only at h2 h3
  cases h2
  cases h3
  exact PySem.W.kia_tup (kit_x E) I.kIn J h1 e (fun z => nomatch z) fun tk => ⟨.bl b, H, I.tok tk, rfl, q⟩
/-- e.f, e tracked -/
def tXw (K : PySem.W.Frag) (f : Str) (te : TE) : TE := fun σ H Q => te σ H fun x H1 => ∃ (a C : Addr) (fs : List (Str × V)) (v : V), x = .ref a ∧ XAt H1 a C fs ∧ ExK K C ∧ PySem.W.findIn K (.ref C) f = some none ∧ fs.lookup f = some v ∧ Q v H1
theorem pe_xw {X : Cx} {e : Expr} {te : TE} {pos : Pos} {n : Str} (he : PE X e te) (hb : attributeBase e n X.env (eval e X.env) = eval e X.env := by rfl) : PE X (.Attribute e n pos) (tXw X.K n te) := by
  refine ⟨fun pins s σ H Q I h => attr_of hb (thn (he.run pins s σ H _ I h) fun u s1 hh => ?_)⟩
  obtain ⟨x, H1, I1, rx, a, C, fs, v, ex, hx, E, hno, l, q⟩ := hh
  subst ex
  cases (show u = Value.ref a from rx)
  obtain ⟨ob, od, mA, J, hl, hr⟩ := xat_inst I1 hx
  obtain ⟨u, hu, ru⟩ := RelO.some_of (v := v) (o := mA n) (by rw [← l]; exact hr n)
  exact HandSPX.exc_get I1.kIn J E.xf.ga E.xf.gg E.xf.exC (PySem.W.findObj_own E.xf.hdC hno rfl (by rw [hl, hu])) (handed_of ru) ⟨v, H1, I1.tok _, ru, q⟩
/-! ### methods and classes, what they raise wished for at the caller's slots -/
def tMethS (C : Addr) (m : Str) (sp : Sp) (E : L2.St → XK) (ta : TE) (t : TA) : TE := fun σ H Q => ta σ H fun x H1 => ∃ a dx fs, x = .ref a ∧ H1 a = some (.ins C dx fs) ∧ fs.lookup m = none ∧ t σ H1 fun vs H2 => sp (x :: vs) H2 Q (E σ)
def tMakeS (C : Addr) (sp : Sp) (E : L2.St → XK) (t : TA) : TE := fun σ H Q => t σ H fun vs H1 => ∀ x dx, H1 x = none → H1 dx = none → dx ≠ x → sp (.ref x :: vs) (upd (upd H1 dx (.own x)) x (.ins C dx [])) (fun v H2 => v = .non ∧ Q (.ref x) H2) (E σ)
section
variable {X : Cx} {CX : CXT} {k : Nat} {f C : Addr} {fd : FuncData} {ps : List Str} {sp : Sp} {E : L2.St → XK} {x m : Str} {p pos apos : Pos} {e o : Expr} {es : List Expr} {ta : TE} {t : TA}
theorem pe_methS {pl : Sem Bool} (he : PE X o ta) (c : L2.Cls X.K C) (hm : Meth X.K C m f) (F : FnOk X.prog X.w X.K X.mg X.base CX k f fd ps sp) (hr : Room k X.A) (hb : Binds X.K fd ps []) (hx : ∀ σ, PassesAt CX X σ (E σ)) (ha : PA X (e :: es) t)
    (hst : starEach (e :: es) X.env = (false, eval e X.env) :: starEach es X.env := by rfl) (hpl : (backTo pos (starEach es X.env)).any (·.1) = false := by rfl)
    (ht : eval (.Call (.Attribute o m apos) (e :: es) [] pos) X.env = (do
      let ov ← eval o X.env
      standAt apos.atName
      let (f, first) ← holding [ov] (getMethod ov m pl)
      callWith pos f first (backTo pos (starEach (e :: es) X.env)) (backToKw pos (keywordEach [] X.env))) := by rfl) : PE X (.Call (.Attribute o m apos) (e :: es) [] pos) (tMethS C m sp E ta t) := by
  refine ⟨fun pins s σ H Q I h => PySem.W.methodCall_KW (pl := pl) (thn (he.run pins s σ H _ I h) fun u s1 q1 => ?_) ht⟩
  obtain ⟨y, H1, I1, ry, a, dx, fs, ey, ea, l, q⟩ := q1
  subst ey
  cases (show u = Value.ref a from ry)
  refine getmeth_ok I1 ea c hm l (PySem.W.callWith_K (first := [.ref a]) (h₀ := X.base) I.ok.mod.kin hm.kp (thn (ha.run pos pins s1 σ H1 _ I1 q) fun us s2 q2 => ?_) hst hpl)
  obtain ⟨vs, H2, I2, r, q2⟩ := q2
  exact ⟨I2.kIn, run_fnS (us := .ref a :: us) (vs := .ref a :: vs) F hr hb (hx σ) I2 (.cons rfl r) q2⟩
theorem run_makeS {pins : List (Addr × Obj)} {σ : L2.St} {H : Hp} {s : Shared} {Q : VK} {us : List Value} {vs : List V} (M : Mk X.K C f) (F : FnOk X.prog X.w X.K X.mg X.base CX k f fd ps sp) (hr : Room (k + 1) X.A) (hb : Binds X.K fd ps []) (hx : PassesAt CX X σ (E σ)) (I : Inv X pins σ H s) (r : Vals vs us)
    (h : ∀ y dx, H y = none → H dx = none → dx ≠ y → sp (.ref y :: vs) (upd (upd H dx (.own y)) y (.ins C dx [])) (fun v H2 => v = .non ∧ Q (.ref y) H2) (E σ)) : wpAny (model X.prog X.w) X.A (call (.ref C) us) (EP X pins σ Q) X.xe s := by
  have hq := h (s.heap.objs.size + 1) s.heap.objs.size (I.hok.fresh (Nat.le_succ _)) (I.hok.fresh (Nat.le_refl _)) (Nat.ne_of_lt (Nat.lt_succ_self _))
  have J := Inv.made (C := C) I
  have r2 : Vals (V.ref (s.heap.objs.size + 1) :: vs) (Value.ref (s.heap.objs.size + 1) :: us) := .cons rfl r
  have hl : (Value.ref (s.heap.objs.size + 1) :: us).length = ps.length := r2.length.symm.trans (F.len _ _ _ _ hq)
  have bi := hb _ (Value.ref (s.heap.objs.size + 1) :: us) J.kIn (by rw [List.append_nil]; exact hl)
  rw [List.append_nil] at bi
  refine wpAny_call (make_map (f := f) I.kIn M.makes M.init (beq_iff_eq.mp M.fn) (codeAny_mono (F.run _ X.stack _ _ ⟨_, []⟩ _ _ _ (E σ) (hr.make C us []) (J.env0.make C us []) bi r2 hq) fun rs s1 q1 => ?_))
  cases rs with
  | error er => exact hx pins _ _ er s1 J q1
  | ok fl =>
    cases fl with
    | ret u =>
      obtain ⟨v, H3, I3, rv, ev, q3⟩ := J.after q1
      subst ev
      exact ⟨rv, ⟨V.ref (s.heap.objs.size + 1), H3, I3, rfl, q3⟩⟩
    | next => exact q1.elim
    | brk => exact q1.elim
    | cont => exact q1.elim
theorem pe_makeS (M : Mk X.K C f) (F : FnOk X.prog X.w X.K X.mg X.base CX k f fd ps sp) (hr : Room (k + 1) X.A) (hg : Gl X x) (hm : X.mg x = some (.ref C)) (hb : Binds X.K fd ps []) (hx : ∀ σ, PassesAt CX X σ (E σ)) (ha : PA X (e :: es) t)
    (hdb : (x == ("__debug__" : Str)) = false := by decide) (he : starEach (e :: es) X.env = (false, eval e X.env) :: starEach es X.env := by rfl) (hpl : (backTo pos (starEach es X.env)).any (·.1) = false := by rfl) : PE X (.Call (.Name x p) (e :: es) [] pos) (tMakeS C sp E t) := by
  refine ⟨fun pins s σ H Q I h => wpAny_Call_Name_kw (ld_glob I hg hm (PySem.W.callWith_K (h₀ := X.base) I.ok.mod.kin M.kp (thn (ha.run pos pins s σ H _ I h) fun us s1 q1 => ?_) he hpl) hdb)⟩
  obtain ⟨vs, H1, I1, r, q⟩ := q1
  exact ⟨I1.kIn, run_makeS M F hr hb (hx σ) I1 r q⟩
end
/-! ### xs[i] op= e, xs a list -/
section
open PySem.Spec PyProof.Rows
variable {X : Cx}
theorem get_list : PGet X (rIxL X.K) := by
  intro pins s σ H o i ov iv Q I ro ri h
  obtain ⟨p, xs, k, z, rfl, rfl, hq, he, q⟩ := h
  cases ro
  obtain ⟨t, rfl⟩ := ri
  obtain ⟨its, r, pl, hz⟩ := I.list hq
  obtain ⟨j, h1, h2, h3, h4, h5⟩ := atI_get he
  obtain ⟨w, ew, rw'⟩ := r.get h2
  have hl := r.length
  have hn := line63
  have fin : EP X pins σ Q w s := ⟨z, H, I, rw', q⟩
  by_cases h0 : 0 ≤ k
  · have hj : k.toNat = j := by
      rw [seqIndex_of h0 h5] at h1
      exact Option.some.inj h1
    exact wpAny_getItem_list pl.isList h0 (by omega) (by rw [hj]; simpa using ew) fin
  · have hj : (k + (its.toArray.size : Int)).toNat = j := by
      rw [seqIndex_neg (by omega) h4] at h1
      rw [List.size_toArray, ← hl]
      exact Option.some.inj h1
    exact wpAny_getItem_list_neg pl.isList (by omega) (by rw [List.size_toArray] <;> omega) (by omega) (by rw [hj]; simpa using ew) fin
end
/-! ### the drawing -/
theorem log2_lt60 {t : Int} (h0 : 0 < t) (h : t < 1152921504606846976) : t.natAbs.log2 < 9000 := by
  have h1 : t.natAbs < 2 ^ 60 := by
    have : (2 : Nat) ^ 60 = 1152921504606846976 := by decide
    omega
  exact Nat.lt_trans ((Nat.log2_lt (by omega)).mpr h1) (by decide)
abbrev s__law_take : Stmt := top 27
abbrev N__law_take : List Str := ["_law_box_here", "_law_top", "_law_found", "_law_once"]
abbrev P__law_take : List Str := ["_law_box_here", "_law_top"]
theorem sc__law_take : FnScope N__law_take P__law_take (defScope s__law_take) := ⟨rfl, rfl, rfl, by decide +kernel, rfl, by decide +kernel, by decide +kernel⟩
def spTake : Sp := fun vs H Q _ => ∃ (b : Addr) (top n : Int), vs = [.ref b, .int top] ∧ BoxAt H b n ∧ 0 < top ∧ top < 1152921504606846976 ∧ n < 1048576 ∧ ∀ r H', 0 ≤ r → r < top → Keep b H H' → BoxAt H' b (n + 1) → Q (.int r) H'
section
variable {P : Program} {w : World} {K : PySem.W.Frag} {mg : Str → Option Value} {base : Heap}
theorem ok_take {f : Addr} {fd : FuncData} {k : Nat} (F : Fun K "_law_take" "_law_take" s__law_take f fd) : FnOk P w K mg base CX0 (k + 1) f fd P__law_take spTake := by
  have nd := sc__law_take.nd
  refine F.ok sc__law_take (fun vs H Q E h => ?_) (fun cdv A outer s H vs Q E hr h => ?_)
  · obtain ⟨b, top, n, rfl, _⟩ := h
    rfl
  · obtain ⟨b, top, n, rfl, ⟨x, y, z, hb, hx, hy, hy2, hz, hzn⟩, ht, ht2, hn, q⟩ := h
    refine ⟨_, (pss_cons (ps_if (pt_cmpR op_gt (pe_ix (r := rIxL K) ix_list (pv 0) (pe_int) (fun _ _ => rfl)) (pe_int) (nomark _)) (pss_cons (ps_set (i := 2) nd rfl (Or.inl rfl) (pe_op op_mod (pe_ix (r := rIxL K) ix_list (pv 0) (pe_int) (fun _ _ => rfl)) (pv 1)))
      (pss_cons (ps_asg (pe_op op_fdivW (pe_ix (r := rIxL K) ix_list (pv 0) (pe_int) (fun _ _ => rfl)) (pv 1)) (pg_sub (pv 0) (pe_int) set_list))
      (pss_one (ps_ret (pv 2))))) pss_nil)
      (pss_cons (ps_asg (pe_op op_add (pe_ix (r := rIxL K) ix_list (pv 0) (pe_int) (fun _ _ => rfl)) (pe_int)) (pg_sub (pv 0) (pe_int) set_list))
      (pss_cons (ps_set (i := 3) nd rfl (Or.inl rfl) (pe_op op_mod (pe_op op_pow (pe_op op_add (pe_ix (r := rIxL K) ix_list (pv 0) (pe_int) (fun _ _ => rfl)) (pe_op op_mul (pe_int) (pe_ix (r := rIxL K) ix_list (pv 0) (pe_int) (fun _ _ => rfl)))) (pe_int)) (pe_int)))
      (pss_one (ps_ret (pe_op op_mod (pe_op op_fdivW (pe_op op_mod (pe_op op_add (pe_op op_mul (pv 3) (pe_op op_add (pe_op op_mod (pv 3) (pe_int)) (pe_int))) (pe_op op_mul (pe_ix (r := rIxL K) ix_list (pv 0) (pe_int) (fun _ _ => rfl)) (pe_int))) (pe_int)) (pe_int)) (pv 1))))))), ?_⟩
    have hL : SqL K H b [.int x, .int y, .int z] := SqL.of hb
    have cw : ∀ i : Int, CDivW i top := fun i => ⟨ht, log2_lt60 ht ht2⟩
    have cw6 : ∀ i : Int, CDivW i 64 := fun i => ⟨by decide, by decide⟩
    have cw1 := cw x
    walk_at "ev"
    refine ite2 (fun e => ?_) (fun e => ?_)
    · have e1 : 0 < x := of_decide_eq_true e
      walk_at "ev"
      exact q _ _ (Int.emod_nonneg _ (by omega)) (Int.emod_lt_of_pos _ ht) (keep_upd (Keep.refl _ _)) ⟨_, _, _, upd_same, Int.ediv_nonneg hx (by omega), hy, hy2, hz, by omega⟩
    · walk_at "ev"
      exact q _ _ (Int.emod_nonneg _ (by omega)) (Int.emod_lt_of_pos _ ht) (keep_upd (Keep.refl _ _)) ⟨_, _, _, upd_same, hx, hy, hy2, by omega, by omega⟩
end
abbrev s__law_box : Stmt := top 26
abbrev N__law_box : List Str := ["_law_script", "_law_k", "_law_cell"]
abbrev P__law_box : List Str := ["_law_script", "_law_k"]
theorem sc__law_box : FnScope N__law_box P__law_box (defScope s__law_box) := ⟨rfl, rfl, rfl, by decide +kernel, rfl, by decide +kernel, by decide +kernel⟩
def spBox (K : PySem.W.Frag) : Sp := fun vs H Q _ => ∃ (a : Addr) (ns : List Int) (k : Int), vs = [.ref a, .int k] ∧ SqL K H a (ns.map V.int) ∧ 0 ≤ k ∧ k ≤ 100000 ∧ ∀ p H', H p = none → Same H H' → BoxAt H' p 0 → Q (.ref p) H'
section
variable {P : Program} {w : World} {K : PySem.W.Frag} {mg : Str → Option Value} {base : Heap}
theorem ok_box {f : Addr} {fd : FuncData} {k : Nat} (F : Fun K "_law_box" "_law_box" s__law_box f fd) (T : Blt mg) : FnOk P w K mg base CX0 (k + 1) f fd P__law_box (spBox K) := by
  have nd := sc__law_box.nd
  refine F.ok sc__law_box (fun vs H Q E h => ?_) (fun cdv A outer s H vs Q E hr h => ?_)
  · obtain ⟨b, top, n, rfl, _⟩ := h
    rfl
  · obtain ⟨a, ns, k, rfl, hL, h0, h1, q⟩ := h
    refine ⟨_, (pss_cons (ps_set (i := 2) nd rfl (Or.inl rfl) (pe_int))
      (pss_cons (ps_if (pt_cmpR op_lt (pv 1) (pe_callB (r := rLenQ K) call_len_seq (by rfl) T.b_len (by decide +kernel) (pa_cons (pv 0) pa_nil)) (nomark _)) (pss_one (ps_set (i := 2) nd rfl (Or.inl rfl) (pe_ix (r := rIxL K) ix_list (pv 0) (pv 1) (fun _ _ => rfl)))) pss_nil)
      (pss_one (ps_ret (pe_lst (pa_cons (pe_op op_mul (pe_callB call_abs (by rfl) T.b_abs (by decide +kernel) (pa_cons (pv 2) pa_nil)) (pe_callTy call_int1 (by rfl) T.b_int (by decide +kernel) (pa_cons (pe_cmpR op_ge (pe_callB call_abs (by rfl) T.b_abs (by decide +kernel) (pa_cons (pv 2) pa_nil)) (pe_op op_pow (pe_int) (pe_int)) (nomark _)) pa_nil))) (pa_cons (pe_op op_add (pe_op op_add (pe_op op_mod (pv 2) (pe_int)) (pe_op op_mul (pe_int) (pv 1))) (pe_int)) (pa_cons (pe_int) pa_nil)))))))), ?_⟩
    have fin : ∀ c : Int, ∀ p, H p = none → Q (.ref p) (upd H p (.lst [.int ((if c < 0 then -c else c) * (if decide ((10 : Int) ^ 18 ≤ if c < 0 then -c else c) then 1 else 0)), .int (c % 2147483629 + 7919 * k + 11), .int 0])) := by
      intro c p hp
      refine q p _ hp (same_new hp) ⟨_, _, _, upd_same, ?_, ?_, ?_, by omega, by omega⟩
      · refine Int.mul_nonneg ?_ ?_
        · split <;> omega
        · split <;> omega
      · have := Int.emod_nonneg c (show (2147483629 : Int) ≠ 0 by decide)
        omega
      · have := Int.emod_lt_of_pos c (show (0 : Int) < 2147483629 by decide)
        omega
    walk_at "ev"
    refine ite2 (fun e => ?_) (fun e => ?_)
    · have e1 : k < ((ns.map V.int).length : Int) := of_decide_eq_true e
      rw [List.length_map] at e1
      obtain ⟨c, hc, hat⟩ := at_ints h0 e1
      walk_at "ev"
      exact fin c
    · walk_at "ev"
      exact fin 0
end
/-! ### the mathematics of primes -/
def Rough (n d : Int) : Prop := ∀ e : Int, 2 ≤ e → e < d → ¬ e ∣ n
inductive Fac : Int → List Int → Prop
  | one : Fac 1 []
  | cons {n p q : Int} {ps : List Int} : 2 ≤ p → n = p * q → 1 ≤ q → Rough n p → Fac q ps → Fac n (p :: ps)
theorem Fac.uniq : ∀ {n : Int} {xs ys : List Int}, Fac n xs → Fac n ys → xs = ys := by
  intro n xs ys h
  induction h generalizing ys with
  | one =>
    intro k
    cases k with
    | one => rfl
    | cons h1 h2 h3 h4 h5 =>
      rename_i p q ps
      have : 2 * 1 ≤ p * q := Int.mul_le_mul h1 h3 (by omega) (by omega)
      omega
  | cons h1 h2 h3 h4 h5 ih =>
    rename_i n p q ps
    intro k
    cases k with
    | one =>
      have : 2 * 1 ≤ p * q := Int.mul_le_mul h1 h3 (by omega) (by omega)
      omega
    | cons g1 g2 g3 g4 g5 =>
      rename_i p' q' ps'
      have e : p = p' := by
        rcases Int.lt_trichotomy p p' with l | l | l
        · exact absurd ⟨q, h2⟩ (g4 p h1 l)
        · exact l
        · exact absurd ⟨q', g2⟩ (h4 p' g1 l)
      subst e
      have e2 : q = q' := by
        have : p * q = p * q' := by omega
        exact Int.eq_of_mul_eq_mul_left (by omega) this
      subst e2
      rw [ih g5]
theorem Fac.len1 {n : Int} {xs : List Int} (h : Fac n xs) (e : xs.length = 1) : xs = [n] := by
  cases h with
  | one => simp at e
  | cons h1 h2 h3 h4 h5 =>
    rename_i p q ps
    have : ps = [] := by
      cases ps with
      | nil => rfl
      | cons a r => simp at e
    subst this
    cases h5 with
    | one =>
      rw [h2, Int.mul_one]
theorem Fac.self {n : Int} (h : 2 ≤ n) (r : Rough n n) : Fac n [n] := .cons h (by omega) (by omega) r .one
theorem Rough.of_fac {n : Int} (h : Fac n [n]) : 2 ≤ n ∧ Rough n n := by
  cases h with
  | cons h1 h2 h3 h4 h5 => exact ⟨h1, h4⟩
theorem Rough.step {n d : Int} (h : Rough n d) (e : ¬ d ∣ n) : Rough n (d + 1) := fun c h1 h2 => by
  by_cases q : c = d
  · rw [q]; exact e
  · exact h c h1 (by omega)
theorem Rough.quot {n p q d : Int} (h : Rough n d) (e : n = p * q) : Rough q d := fun c h1 h2 k => h c h1 h2 (by rw [e]; exact Int.dvd_trans k (Int.dvd_mul_left p q))
/-- nothing below d divides n, d squared is above n: n has no divisor at all -/
theorem Rough.top {n d : Int} (h : Rough n d) (hd : 2 ≤ d) (hn : 2 ≤ n) (e : n < d * d) : Rough n n := fun c h1 h2 k => by
  obtain ⟨q, hq⟩ := k
  by_cases hc : c < d
  · exact h c h1 hc ⟨q, hq⟩
  · have hq0 : 0 < q := by
      apply Int.lt_of_not_ge
      intro z
      have : c * q ≤ 0 := Int.mul_nonpos_of_nonneg_of_nonpos (by omega) z
      omega
    have hq1 : q ≠ 1 := by
      intro z
      rw [z] at hq
      omega
    have hqd : q < d := by
      apply Int.lt_of_not_ge
      intro z
      have : d * d ≤ c * q := Int.mul_le_mul (by omega) z (by omega) (by omega)
      omega
    exact h q (by omega) hqd ⟨c, by rw [hq, Int.mul_comm]⟩
theorem dvd_iff {n d : Int} : n % d = 0 ↔ d ∣ n := ⟨Int.dvd_of_emod_eq_zero, Int.emod_eq_zero_of_dvd⟩
/-- a divisor taken out -/
theorem Fac.out {n num d : Int} {found : List Int} (h : ∀ ps, Fac num ps → Fac n (found ++ ps)) (hd : 2 ≤ d) (h1 : 1 ≤ num) (r : Rough num d) (e : num % d = 0) :
    (∀ ps, Fac (num / d) ps → Fac n ((found ++ [d]) ++ ps)) ∧ 1 ≤ num / d ∧ Rough (num / d) d ∧ 2 * (num / d) ≤ num := by
  have e1 : num = d * (num / d) := (Int.mul_ediv_cancel' (Int.dvd_of_emod_eq_zero e)).symm
  generalize num / d = q at *
  have q0 : 0 < q := by
    apply Int.lt_of_not_ge
    intro z
    have : d * q ≤ 0 := Int.mul_nonpos_of_nonneg_of_nonpos (by omega) z
    omega
  refine ⟨fun ps f => ?_, q0, r.quot e1, ?_⟩
  · rw [List.append_assoc]
    exact h _ (.cons hd e1 q0 r f)
  · have : 2 * q ≤ d * q := Int.mul_le_mul_of_nonneg_right hd (by omega)
    omega
theorem pow_len {L : Nat} {num n : Int} (h : 2 ^ L * num.toNat ≤ n.toNat) (h1 : 1 ≤ num) (hn : n ≤ 1000000000) : L ≤ 30 := by
  apply Nat.le_of_not_gt
  intro z
  have a : 2 ^ 31 ≤ 2 ^ L := Nat.pow_le_pow_right (by decide) z
  have b : 2 ^ L * 1 ≤ 2 ^ L * num.toNat := Nat.mul_le_mul_left _ (by omega)
  have h31 : (2 : Nat) ^ 31 = 2147483648 := by decide
  omega
theorem pow_step {L : Nat} {num q n : Int} (h : 2 ^ L * num.toNat ≤ n.toNat) (e : 2 * q ≤ num) : 2 ^ (L + 1) * q.toNat ≤ n.toNat := by
  have : 2 ^ (L + 1) * q.toNat = 2 ^ L * (2 * q.toNat) := by rw [Nat.pow_succ, Nat.mul_assoc]
  rw [this]
  exact Nat.le_trans (Nat.mul_le_mul_left _ (by omega)) h
/-! ### kinds of things -/
inductive Kd (K : PySem.W.Frag) (H : Hp) : V → String → Prop
  | non : Kd K H .non "NoneType"
  | bl (b : Bool) : Kd K H (.bl b) "bool"
  | int (i : Int) : Kd K H (.int i) "int"
  | str (x : Str) : Kd K H (.str x) "str"
  | lst {a : Addr} {xs : List V} : SqL K H a xs → Kd K H (.ref a) "list"
  | tup {a : Addr} {xs : List V} : SqT K H a xs → Kd K H (.ref a) "tuple"
theorem Kd.ty {K : PySem.W.Frag} {H : Hp} {x : V} {t : String} (h : Kd K H x t) : TyX K H x (.type t) := by
  cases h with
  | non => exact .base .non
  | bl b => exact .base (.bl b)
  | int i => exact .base (.int i)
  | str x => exact .base (.str x)
  | lst h =>
    rcases h with (h | ⟨o, h⟩) | ⟨o, its, n, h1, h2, _⟩
    · exact .base (.lst h)
    · exact .base (.frz h)
    · exact .kList h1 h2
  | tup h =>
    rcases h with (h | ⟨o, h⟩) | ⟨o, its, n, h1, h2, _⟩
    · exact .base (.tup h)
    · exact .fTuple h
    · exact .kTuple h1 h2
theorem Kd.same {K : PySem.W.Frag} {H H' : Hp} {x : V} {t : String} (h : Kd K H x t) (e : Same H H') : Kd K H' x t := by
  cases h with
  | non => exact .non
  | bl b => exact .bl b
  | int i => exact .int i
  | str x => exact .str x
  | lst h => exact .lst (e.seq h)
  | tup h => exact .tup (same_t e h)
def tis (t c : String) : Bool := t == c || (t == "bool" && c == "int")
theorem Kd.kit {K : PySem.W.Frag} {H : Hp} {x : V} {t : String} (h : Kd K H x t) : PySem.W.kitOne K (.type t) (.type "int") = some (tis t "int") ∧ PySem.W.kitOne K (.type t) (.type "bool") = some (tis t "bool") ∧ PySem.W.kitOne K (.type t) (.type "str") = some (tis t "str") ∧ PySem.W.kitOne K (.type t) (.type "list") = some (tis t "list") ∧ PySem.W.kitOne K (.type t) (.type "tuple") = some (tis t "tuple") := by
  cases h <;> exact ⟨kit_ty (by decide +kernel), kit_ty (by decide +kernel), kit_ty (by decide +kernel), kit_ty (by decide +kernel), kit_ty (by decide +kernel)⟩
theorem kit_lt {K : PySem.W.Frag} {t : String} {a b : Bool} (h1 : PySem.W.kitOne K (.type t) (.type "list") = some a) (h2 : PySem.W.kitOne K (.type t) (.type "tuple") = some b) : PySem.W.kitAny K (.type t) [.type "list", .type "tuple"] = some (a || b) := by
  refine kitAny_cons h1 (fun e => kitAny_cons h2 (fun e2 => ?_) (fun e2 => ?_)) (fun e => by rw [e]; rfl)
  · rw [e, e2]
    exact kitAny_nil
  · rw [e, e2]
    rfl
/-! ### == of lists of ints -/
theorem dp_ints {K : PySem.W.Frag} {H : Hp} : ∀ ns : List Int, DpAll K H (ns.map V.int) (ns.map PyData.int)
  | [] => .nil
  | n :: r => .cons (.int n) (dp_ints r)
theorem eqv_ints : ∀ ns ms : List Int, PyData.eqvAll (ns.map PyData.int) (ms.map PyData.int) = decide (ns = ms)
  | [], [] => by simp [PyData.eqvAll]
  | [], _ :: _ => by simp [PyData.eqvAll]
  | _ :: _, [] => by simp [PyData.eqvAll]
  | a :: r, b :: t => by
    simp only [List.map_cons, PyData.eqvAll, PyData.eqv, eqv_ints r t]
    by_cases h : a = b <;> by_cases h' : r = t <;> simp [h, h']
theorem eqd_ints {K : PySem.W.Frag} {H : Hp} {a b : Addr} {ns ms : List Int} {Q : VK} (ha : SqL K H a (ns.map V.int)) (hb : SqL K H b (ms.map V.int)) (q : Q (.bl (decide (ns = ms))) H) : rEqD K (.ref a) (.ref b) H Q := by
  refine ⟨_, _, .lst ha (dp_ints ns), .lst hb (dp_ints ms), PySem.W.ke_shaped_ints ns, PySem.W.ke_shaped_ints ms, ?_⟩
  have e : PyData.eqv (.list (ns.map PyData.int)) (.list (ms.map PyData.int)) = decide (ns = ms) := by
    rw [PyData.eqv]
    exact eqv_ints ns ms
  rw [e]
  exact q
abbrev s_factors : Stmt := top 7
abbrev N_factors : List Str := ["number", "found", "divisor"]
abbrev P_factors : List Str := ["number"]
theorem sc_factors : FnScope N_factors P_factors (defScope s_factors) := ⟨rfl, rfl, rfl, by decide +kernel, rfl, by decide +kernel, by decide +kernel⟩
def spFactors : Sp := fun vs H Q _ => ∃ (n : Int), vs = [.int n] ∧ 1 ≤ n ∧ n ≤ 1000000000 ∧ ∀ xs p H', Fac n xs → H p = none → Same H H' → H' p = some (.lst (xs.map V.int)) → Q (.ref p) H'
section
variable {P : Program} {w : World} {K : PySem.W.Frag} {mg : Str → Option Value} {base : Heap}
theorem ok_factors {f : Addr} {fd : FuncData} {k : Nat} (F : Fun K "factors" "factors" s_factors f fd) : FnOk P w K mg base CX0 (k + 1) f fd P_factors spFactors := by
  have nd := sc_factors.nd
  refine F.ok sc_factors (fun vs H Q E h => ?_) (fun cdv A outer s H vs Q E hr h => ?_)
  · obtain ⟨n, rfl, _⟩ := h
    rfl
  · obtain ⟨n, rfl, hn1, hn2, q⟩ := h
    refine ⟨_, (pss_cons (ps_set (i := 1) nd rfl (Or.inl rfl) (pe_lst pa_nil))
      (pss_cons (ps_set (i := 2) nd rfl (Or.inl rfl) (pe_int))
      (pss_cons (ps_while PassesOwn.never (pt_cmpR op_le (pe_op op_mul (pv 2) (pv 2)) (pv 0) (nomark _))
      (pss_one (ps_if (pt_cmpR op_eq (pe_op op_mod (pv 0) (pv 2)) (pe_int) (nomark _)) (pss_cons (ps_expr (pe_bm PySem.F.plainAttrs_list PySem.F.slot_list_append PySem.F.type_list_append mt_append (pv 1) (pa_cons (pv 2) pa_nil)))
      (pss_one (ps_aug (i := 0) nd rfl (Or.inl rfl) (pv 2) iop_fdivW))) (pss_one (ps_aug (i := 2) nd rfl (Or.inl rfl) (pe_int) ip_add)))))
      (pss_cons (ps_if (pt_cmpR op_gt (pv 0) (pe_int) (nomark _)) (pss_one (ps_expr (pe_bm PySem.F.plainAttrs_list PySem.F.slot_list_append PySem.F.type_list_append mt_append (pv 1) (pa_cons (pv 0) pa_nil)))) pss_nil)
      (pss_one (ps_ret (pv 1))))))), ?_⟩
    walk_at "ev"
    intro p hp
    generalize hG : upd _ p _ = H1
    obtain ⟨sm, hp1⟩ := newO hG hp
    refine ⟨fun m σ H' => ∃ (num d : Int) (found : List Int), σ = [some (.int num), some (.ref p), some (.int d)] ∧ m = (num - d).toNat + num.toNat ∧ 1 ≤ num ∧ num ≤ n ∧ 2 ≤ d ∧ d ≤ n + 2 ∧ 2 ^ found.length * num.toNat ≤ n.toNat ∧ Rough num d ∧ (∀ ps, Fac num ps → Fac n (found ++ ps)) ∧ Same H H' ∧ H' p = some (.lst (found.map V.int)), ⟨_, n, 2, [], rfl, rfl, hn1, by omega, by omega, by omega, by simp, fun e h1 h2 => by omega, fun ps f => f, sm, hp1⟩, ?_⟩
    rintro m σ H' ⟨num, d, found, rfl, rfl, h1, h2, h3, h4, h5, hr', hf, sm', hp'⟩
    have hL := pow_len h5 h1 hn2
    have cm : CMul d d := .inl ⟨by omega, by omega⟩
    walk_at "ev"
    refine ite2 (fun e => ?_) (fun e => ?_)
    · have e1 : d * d ≤ num := of_decide_eq_true e
      refine ⟨_, holdN, ?_⟩
      walk_at "ev"
      refine ite2 (fun e2 => ?_) (fun e2 => ?_)
      · have e3 : num % d = 0 := V.int.inj (of_decide_eq_true e2)
        obtain ⟨o1, o2, o3, o4⟩ := Fac.out hf h3 h1 hr' e3
        walk_at "ev"
        refine .mk ⟨(num / d - d).toNat + (num / d).toNat, by omega, num / d, d, found ++ [d], rfl, rfl, o2, by omega, h3, h4, ?_, o3, o1, same_mut sm' hp, by rw [upd_same, List.map_append]; rfl⟩
        rw [List.length_append]
        exact pow_step h5 o4
      · have e3 : ¬ num % d = 0 := fun z => e2 (decide_eq_true (congrArg V.int z))
        have e4 : 2 * d ≤ d * d := Int.mul_le_mul_of_nonneg_right h3 (by omega)
        walk_at "ev"
        exact .mk ⟨(num - (d + 1)).toNat + num.toNat, by omega, num, d + 1, found, rfl, rfl, h1, h2, by omega, by omega, h5, hr'.step (fun z => e3 (dvd_iff.mpr z)), hf, sm', hp'⟩
    · have e1 : ¬ d * d ≤ num := fun z => e (decide_eq_true z)
      walk_at "ev"
      refine ite2 (fun e2 => ?_) (fun e2 => ?_)
      · have e3 : 1 < num := of_decide_eq_true e2
        walk_at "ev"
        refine q (found ++ [num]) _ _ (hf _ (Fac.self (by omega) (hr'.top h3 (by omega) (by omega)))) hp (same_mut sm' hp) (by rw [upd_same, List.map_append]; rfl)
      · have e3 : ¬ 1 < num := fun z => e2 (decide_eq_true z)
        have e4 : num = 1 := by omega
        walk_at "ev"
        subst e4
        have fin := hf [] .one
        rw [List.append_nil] at fin
        exact q found _ _ fin hp sm' hp'
end
/-! ### the law's own comparing, of like things -/
def Fit : Nat → PyData → Prop
  | 0, .list _ => False
  | 0, .tuple _ => False
  | n + 1, .list ds => ds.length ≤ 4000 ∧ ∀ e ∈ ds, Fit n e
  | n + 1, .tuple ds => ds.length ≤ 4000 ∧ ∀ e ∈ ds, Fit n e
  | _, .dict _ => False
  | _, _ => True
theorem dpall_len {K : PySem.W.Frag} {H : Hp} : ∀ {xs : List V} {ds : List PyData}, DpAll K H xs ds → xs.length = ds.length
  | _, _, .nil => rfl
  | _, _, .cons _ h => by rw [List.length_cons, List.length_cons, dpall_len h]
theorem dpall_get {K : PySem.W.Frag} {H : Hp} : ∀ {xs : List V} {ds : List PyData} {i : Nat} {x : V}, DpAll K H xs ds → xs[i]? = some x → ∃ d, ds[i]? = some d ∧ Dp K H x d
  | _, _, _, _, .nil, h => by simp at h
  | _, _, 0, _, .cons (d := d) h1 h2, h => ⟨d, rfl, by
      have e := Option.some.inj h
      rw [← e]
      exact h1⟩
  | _, _, i + 1, _, .cons h1 h2, h => dpall_get (i := i) h2 h
mutual
theorem dp_same {K : PySem.W.Frag} {H H' : Hp} (e : Same H H') : ∀ {x : V} {d : PyData}, Dp K H x d → Dp K H' x d
  | _, _, .non => .non
  | _, _, .bl b => .bl b
  | _, _, .int i => .int i
  | _, _, .str x => .str x
  | _, _, .lst h a => .lst (e.seq h) (dpall_same e a)
  | _, _, .tup h a => .tup (same_t e h) (dpall_same e a)
theorem dpall_same {K : PySem.W.Frag} {H H' : Hp} (e : Same H H') : ∀ {xs : List V} {ds : List PyData}, DpAll K H xs ds → DpAll K H' xs ds
  | _, _, .nil => .nil
  | _, _, .cons h a => .cons (dp_same e h) (dpall_same e a)
end
def spSame (K : PySem.W.Frag) (n : Nat) : Sp := fun vs H Q _ => ∃ (x y : V) (d : PyData), vs = [x, y] ∧ Dp K H x d ∧ Dp K H y d ∧ Fit n d ∧ ∀ H', Same H H' → Q (.bl true) H'
/-- a comprehension over pairs -/
theorem lc_pairs {J : It} {xs ys : List V} {g : TG} {tt : TT} {te : TE} {vs : List Nat} {σ : L2.St} {H1 : Hp} {D : Addr} {Qd : Hp → Prop} (Pv : Nat → Hp → Prop) (h0 : Pv 0 (upd H1 D (.lst [])))
    (hgo : ∀ i H, Pv i H → i < xs.length → J.go i H) (hy : ∀ i H v H', Pv i H → i < xs.length → J.yld i H v H' → ∃ T x y, v = .ref T ∧ H T = none ∧ H' = upd H T (.tup [x, y]) ∧ xs[i]? = some x ∧ ys[i]? = some y)
    (hst : ∀ H, Pv xs.length H → J.stop xs.length H)
    (hs : ∀ i x y T H H', xs[i]? = some x → ys[i]? = some y → Pv i H → H T = none → H' = upd H T (.tup [x, y]) → g (.ref T) (wipe σ vs) H' fun σ2 H2 => wipe σ2 vs = wipe σ vs ∧ tt σ2 H2 fun b H3 =>
      if b = true then te σ2 H3 fun y H4 => ∃ acc, H4 D = some (.lst acc) ∧ acc.length < sizeLine ∧ Pv (i + 1) (upd H4 D (.lst (acc ++ [y]))) else Pv (i + 1) H3) (hd : ∀ H, Pv xs.length H → Qd H) :
    ∃ W : Nat → Nat → Hp → Prop, (∃ m, W 0 m (upd H1 D (.lst []))) ∧ ∀ i m H, W i m H →
      (J.stop i H ∧ Qd H) ∨ (J.go i H ∧ ∃ Nx : Hp → Prop, (∀ H', Nx H' → ∃ m', m' < m ∧ W (i + 1) m' H') ∧ ∀ x H', J.yld i H x H' → g x (wipe σ vs) H' fun σ2 H2 => wipe σ2 vs = wipe σ vs ∧ tt σ2 H2 fun b H3 =>
        if b = true then te σ2 H3 fun y H4 => ∃ acc, H4 D = some (.lst acc) ∧ acc.length < sizeLine ∧ Nx (upd H4 D (.lst (acc ++ [y]))) else Nx H3) := by
  refine ⟨fun i m H => m = xs.length - i ∧ i ≤ xs.length ∧ Pv i H, ⟨xs.length, by simp, Nat.zero_le _, h0⟩, ?_⟩
  rintro i m H ⟨rfl, hi, p⟩
  by_cases hlt : i < xs.length
  · refine .inr ⟨hgo i H p hlt, Pv (i + 1), fun H' p' => ⟨xs.length - (i + 1), by omega, rfl, hlt, p'⟩, fun v H' yl => ?_⟩
    obtain ⟨T, x, y, rfl, hT, e, f1, f2⟩ := hy i H v H' p hlt yl
    exact hs i x y T H H' f1 f2 p hT e
  · have e : i = xs.length := by omega
    subst e
    exact .inl ⟨hst H p, hd H p⟩
theorem q_dec {Q : VK} {x : V} {H : Hp} (h : Q (.bl true) H) : Q (.bl (decide (x = x))) H := by
  rw [decide_eq_true rfl]
  exact h
theorem all_true : ∀ n : Nat, (List.replicate n true).all id = true
  | 0 => rfl
  | n + 1 => by
    rw [List.replicate_succ, List.all_cons, all_true n]
    rfl
theorem srt_ext : ∀ {l m : List Int}, l.Pairwise (· < ·) → m.Pairwise (· < ·) → (∀ k, k ∈ l ↔ k ∈ m) → l = m
  | [], [], _, _, _ => rfl
  | [], y :: m, _, _, h => by
    have := (h y).mpr List.mem_cons_self
    simp at this
  | x :: l, [], _, _, h => by
    have := (h x).mp List.mem_cons_self
    simp at this
  | x :: l, y :: m, hl, hm, h => by
    obtain ⟨hx, hl'⟩ := List.pairwise_cons.mp hl
    obtain ⟨hy, hm'⟩ := List.pairwise_cons.mp hm
    have e : x = y := by
      have a1 := (h x).mp List.mem_cons_self
      have a2 := (h y).mpr List.mem_cons_self
      rcases List.mem_cons.mp a1 with e | e
      · exact e
      · rcases List.mem_cons.mp a2 with e2 | e2
        · exact e2.symm
        · have := hy x e
          have := hx y e2
          omega
    subst e
    rw [srt_ext hl' hm' fun k => ?_]
    constructor
    · intro hk
      rcases List.mem_cons.mp ((h k).mp (List.mem_cons_of_mem _ hk)) with e | e
      · have := hx k hk
        omega
      · exact e
    · intro hk
      rcases List.mem_cons.mp ((h k).mpr (List.mem_cons_of_mem _ hk)) with e | e
      · have := hy k hk
        omega
      · exact e
theorem Fac.len {n : Int} {xs : List Int} (h : Fac n xs) (hn : n ≤ 1000000000) : xs.length ≤ 30 := by
  have key : ∀ {n : Int} {xs : List Int}, Fac n xs → 2 ^ xs.length * 1 ≤ n.toNat ∧ 1 ≤ n := by
    intro n xs h
    induction h with
    | one => exact ⟨by decide, by decide⟩
    | cons h1 h2 h3 h4 h5 ih =>
      rename_i n p q ps
      obtain ⟨i1, i2⟩ := ih
      have : 2 * q ≤ p * q := Int.mul_le_mul_of_nonneg_right h1 (by omega)
      refine ⟨?_, by omega⟩
      rw [List.length_cons, Nat.pow_succ]
      omega
  obtain ⟨k1, k2⟩ := key h
  exact pow_len (num := 1) (n := n) (by simpa using k1) (by decide) hn
theorem Fac.pos {n : Int} {xs : List Int} (h : Fac n xs) : 1 ≤ n := by
  induction h with
  | one => decide
  | cons h1 h2 h3 h4 h5 ih =>
    rename_i n p q ps
    have : 1 * 1 ≤ p * q := Int.mul_le_mul (by omega) ih (by omega) (by omega)
    omega
theorem Fac.le {n : Int} {xs : List Int} (h : Fac n xs) : ∀ q ∈ xs, q ≤ n := by
  induction h with
  | one => intro q hq; simp at hq
  | cons h1 h2 h3 h4 h5 ih =>
    rename_i n p q ps
    intro x hx
    rcases List.mem_cons.mp hx with e | e
    · rw [e]
      have : p * 1 ≤ p * q := Int.mul_le_mul_of_nonneg_left h3 (by omega)
      omega
    · have := ih x e
      have : 1 * q ≤ p * q := Int.mul_le_mul_of_nonneg_right (by omega) (by omega)
      omega
theorem Fac.primes {n : Int} {xs : List Int} (h : Fac n xs) : ∀ q ∈ xs, 2 ≤ q ∧ Rough q q := by
  induction h with
  | one => intro q hq; simp at hq
  | cons h1 h2 h3 h4 h5 ih =>
    rename_i n p q ps
    intro x hx
    rcases List.mem_cons.mp hx with e | e
    · rw [e]
      exact ⟨h1, fun c c1 c2 c3 => h4 c c1 c2 (Int.dvd_trans c3 ⟨q, h2⟩)⟩
    · exact ih x e
/-! ### all divisors, rising -/
/-- ds is the rising list of all that divides n -/
def IsDv (n : Int) (ds : List Int) : Prop := ds.Pairwise (· < ·) ∧ ∀ k, k ∈ ds ↔ 1 ≤ k ∧ k ∣ n
theorem IsDv.uniq {n : Int} {l m : List Int} (a : IsDv n l) (b : IsDv n m) : l = m := srt_ext a.1 b.1 fun k => (a.2 k).trans (b.2 k).symm
theorem sq_lt {a b : Int} (ha : 0 ≤ a) (h : a * a < b * b) (hb : 0 ≤ b) : a < b := by
  apply Int.lt_of_not_ge
  intro z
  have : b * b ≤ a * a := Int.mul_le_mul z z hb ha
  omega
/-- low: those below c; high: the partners of those whose square is less, falling -/
structure Half (n c : Int) (low high : List Int) : Prop where
  up : low.Pairwise (· < ·)
  mem : ∀ k, k ∈ low ↔ 1 ≤ k ∧ k < c ∧ k ∣ n
  down : high.Pairwise (· > ·)
  part : ∀ y, y ∈ high ↔ ∃ d, 1 ≤ d ∧ d < c ∧ d * d < n ∧ y * d = n
  sq : ∀ d, 1 ≤ d → d < c → d * d ≤ n
theorem Half.start (n : Int) : Half n 1 [] [] := ⟨.nil, fun k => ⟨fun h => by simp at h, fun ⟨a, b, _⟩ => by omega⟩, .nil, fun y => ⟨fun h => by simp at h, fun ⟨d, a, b, _⟩ => by omega⟩, fun d a b => by omega⟩
theorem Half.skip {n c : Int} {low high : List Int} (h : Half n c low high) (hc : 1 ≤ c) (e : ¬ c ∣ n) (s : c * c ≤ n) : Half n (c + 1) low high := by
  refine ⟨h.up, fun k => ?_, h.down, fun y => ?_, fun d a b => ?_⟩
  · rw [h.mem]
    constructor
    · rintro ⟨a, b, d⟩
      exact ⟨a, by omega, d⟩
    · rintro ⟨a, b, d⟩
      refine ⟨a, ?_, d⟩
      have : k ≠ c := fun z => e (z ▸ d)
      omega
  · rw [h.part]
    constructor
    · rintro ⟨d, a, b, x, z⟩
      exact ⟨d, a, by omega, x, z⟩
    · rintro ⟨d, a, b, x, z⟩
      refine ⟨d, a, ?_, x, z⟩
      have : d ≠ c := fun w => e ⟨y, by rw [← w, Int.mul_comm]; exact z.symm⟩
      omega
  · by_cases z : d = c
    · rw [z]; exact s
    · exact h.sq d a (by omega)
theorem pw_append {R : Int → Int → Prop} {l : List Int} {x : Int} (h : l.Pairwise R) (k : ∀ y ∈ l, R y x) : (l ++ [x]).Pairwise R := by
  rw [List.pairwise_append]
  exact ⟨h, List.pairwise_singleton _ _, fun a ha b hb => by
    have e : b = x := by simpa using hb
    rw [e]
    exact k a ha⟩
theorem Half.low {n c : Int} {low high : List Int} (h : Half n c low high) (hc : 1 ≤ c) (e : c ∣ n) (s : c * c ≤ n) :
    (c * c < n → Half n (c + 1) (low ++ [c]) (high ++ [n / c])) ∧ (¬ c * c < n → Half n (c + 1) (low ++ [c]) high) := by
  have up : (low ++ [c]).Pairwise (· < ·) := pw_append h.up fun y hy => ((h.mem y).mp hy).2.1
  have mem : ∀ k, k ∈ low ++ [c] ↔ 1 ≤ k ∧ k < c + 1 ∧ k ∣ n := fun k => by
    rw [List.mem_append, h.mem, List.mem_singleton]
    constructor
    · rintro (⟨a, b, d⟩ | z)
      · exact ⟨a, by omega, d⟩
      · rw [z]
        exact ⟨hc, by omega, e⟩
    · rintro ⟨a, b, d⟩
      by_cases z : k = c
      · exact .inr z
      · exact .inl ⟨a, by omega, d⟩
  have sq : ∀ d, 1 ≤ d → d < c + 1 → d * d ≤ n := fun d a b => by
    by_cases z : d = c
    · rw [z]; exact s
    · exact h.sq d a (by omega)
  have ec : n / c * c = n := Int.ediv_mul_cancel e
  constructor
  · intro lt
    refine ⟨up, mem, pw_append h.down fun y hy => ?_, fun y => ?_, sq⟩
    · obtain ⟨d, a, b, x, z⟩ := (h.part y).mp hy
      show n / c < y
      apply Int.lt_of_not_ge
      intro w
      have p1 : y * d ≤ n / c * d := Int.mul_le_mul_of_nonneg_right w (by omega)
      have q0 : 0 < n / c := by
        apply Int.lt_of_not_ge
        intro v
        have : n / c * c ≤ 0 := Int.mul_nonpos_of_nonpos_of_nonneg v (by omega)
        have : 1 * 1 ≤ c * c := Int.mul_le_mul hc hc (by omega) (by omega)
        omega
      have p2 : n / c * d < n / c * c := Int.mul_lt_mul_of_pos_left b q0
      omega
    · rw [List.mem_append, h.part, List.mem_singleton]
      constructor
      · rintro (⟨d, a, b, x, z⟩ | w)
        · exact ⟨d, a, by omega, x, z⟩
        · rw [w]
          exact ⟨c, hc, by omega, lt, ec⟩
      · rintro ⟨d, a, b, x, z⟩
        by_cases w : d = c
        · right
          subst w
          have : y * d = n / d * d := by omega
          exact Int.eq_of_mul_eq_mul_right (by omega) this
        · exact .inl ⟨d, a, by omega, x, z⟩
  · intro nlt
    refine ⟨up, mem, h.down, fun y => ?_, sq⟩
    rw [h.part]
    constructor
    · rintro ⟨d, a, b, x, z⟩
      exact ⟨d, a, by omega, x, z⟩
    · rintro ⟨d, a, b, x, z⟩
      refine ⟨d, a, ?_, x, z⟩
      have : d ≠ c := fun w => nlt (w ▸ x)
      omega
theorem Half.done {n c : Int} {low high : List Int} (h : Half n c low high) (hn : 1 ≤ n) (hc : 1 ≤ c) (e : n < c * c) : IsDv n (low ++ high.reverse) := by
  constructor
  · rw [List.pairwise_append]
    refine ⟨h.up, ?_, fun x hx y hy => ?_⟩
    · rw [List.pairwise_reverse]
      exact h.down
    · obtain ⟨a, b, d⟩ := (h.mem x).mp hx
      obtain ⟨d', a', b', s', z'⟩ := (h.part y).mp (List.mem_reverse.mp hy)
      have sx := h.sq x a b
      -- y * y > n ≥ x * x
      have y0 : 0 < y := by
        apply Int.lt_of_not_ge
        intro v
        have : y * d' ≤ 0 := Int.mul_nonpos_of_nonpos_of_nonneg v (by omega)
        omega
      have yd : d' < y := by
        apply Int.lt_of_not_ge
        intro v
        have : y * d' ≤ d' * d' := Int.mul_le_mul_of_nonneg_right v (by omega)
        omega
      have : y * d' < y * y := Int.mul_lt_mul_of_pos_left yd y0
      exact sq_lt (by omega) (by omega) (by omega)
  · intro k
    rw [List.mem_append, List.mem_reverse, h.mem, h.part]
    constructor
    · rintro (⟨a, b, d⟩ | ⟨d, a, b, x, z⟩)
      · exact ⟨a, d⟩
      · refine ⟨?_, ⟨d, z.symm⟩⟩
        show 0 < k
        apply Int.lt_of_not_ge
        intro v
        have : k * d ≤ 0 := Int.mul_nonpos_of_nonpos_of_nonneg (by omega) (by omega)
        omega
    · rintro ⟨a, b⟩
      by_cases kc : k < c
      · exact .inl ⟨a, kc, b⟩
      · right
        obtain ⟨d, hd⟩ := b
        have d0 : 0 < d := by
          apply Int.lt_of_not_ge
          intro v
          have : k * d ≤ 0 := Int.mul_nonpos_of_nonneg_of_nonpos (by omega) v
          omega
        have dc : d < c := by
          apply Int.lt_of_not_ge
          intro v
          have : c * c ≤ k * d := Int.mul_le_mul (by omega) v (by omega) (by omega)
          omega
        have dk : d < k := by omega
        have : d * d < k * d := Int.mul_lt_mul_of_pos_right dk d0
        exact ⟨d, by omega, dc, by omega, hd.symm⟩
theorem half_len {m : Int} (hm : 1 ≤ m) (hm2 : m ≤ 1000000) : ∀ c : Nat, 1 ≤ c → (∃ (c' : Nat) (low high : List Int), 1 ≤ c' ∧ c' ≤ c ∧ m < (c' : Int) * c' ∧ Half m c' low high ∧ low.length + high.length + 2 ≤ 2 * c') ∨ (∃ low high : List Int, Half m c low high ∧ low.length + high.length + 2 ≤ 2 * c) := by
  intro c
  induction c with
  | zero => intro h; omega
  | succ c ih =>
    intro _
    by_cases c0 : c = 0
    · subst c0
      exact .inr ⟨[], [], Half.start m, by simp⟩
    · rcases ih (by omega) with ⟨c', low, high, a1, a2, a3, a4, a5⟩ | ⟨low, high, a4, a5⟩
      · exact .inl ⟨c', low, high, a1, by omega, a3, a4, a5⟩
      · by_cases z : m < (c : Int) * c
        · exact .inl ⟨c, low, high, by omega, by omega, z, a4, a5⟩
        · have e1 : (((c + 1 : Nat) : Int)) = (c : Int) + 1 := by omega
          by_cases dv : (c : Int) ∣ m
          · obtain ⟨b1, b2⟩ := a4.low (by omega) dv (by omega)
            by_cases lt : (c : Int) * c < m
            · refine .inr ⟨_, _, by rw [e1]; exact b1 lt, ?_⟩
              simp
              omega
            · refine .inr ⟨_, _, by rw [e1]; exact b2 lt, ?_⟩
              simp
              omega
          · refine .inr ⟨low, high, by rw [e1]; exact a4.skip (by omega) dv (by omega), by omega⟩
theorem IsDv.len {m : Int} {ds : List Int} (h : IsDv m ds) (hm : 1 ≤ m) (hm2 : m ≤ 1000000) : ds.length ≤ 2000 := by
  rcases half_len hm hm2 1001 (by decide) with ⟨c', low, high, a1, a2, a3, a4, a5⟩ | ⟨low, high, a4, a5⟩
  · have e := h.uniq (a4.done hm (by omega) a3)
    rw [e, List.length_append, List.length_reverse]
    omega
  · have big : m < ((1001 : Nat) : Int) * ((1001 : Nat) : Int) := by
      have e : ((1001 : Nat) : Int) * ((1001 : Nat) : Int) = 1002001 := by decide
      omega
    have e := h.uniq (a4.done hm (by omega) big)
    rw [e, List.length_append, List.length_reverse]
    omega
theorem dv_one : IsDv 1 [1] := by
  refine ⟨List.pairwise_singleton _ _, fun k => ?_⟩
  rw [List.mem_singleton]
  constructor
  · intro e
    rw [e]
    exact ⟨by decide, Int.dvd_refl _⟩
  · rintro ⟨a, b⟩
    exact Int.le_antisymm (Int.le_of_dvd (by decide) b) a
/-- d divides m * p, p a prime -/
theorem dv_prime {k m p : Int} (hk : 1 ≤ k) (hp : 2 ≤ p) (r : Rough p p) (h : k ∣ m * p) : k ∣ m ∨ ∃ e, k = e * p := by
  by_cases hpk : p ∣ k
  · obtain ⟨e, he⟩ := hpk
    exact .inr ⟨e, by rw [he, Int.mul_comm]⟩
  · left
    have hg : Nat.gcd k.natAbs p.natAbs = 1 := by
      have d1 := Nat.gcd_dvd_left k.natAbs p.natAbs
      have d2 := Nat.gcd_dvd_right k.natAbs p.natAbs
      generalize Nat.gcd k.natAbs p.natAbs = g at *
      have gp : (g : Int) ∣ p := by
        rw [← Int.natAbs_dvd_natAbs, Int.natAbs_natCast]
        exact d2
      have gk : (g : Int) ∣ k := by
        rw [← Int.natAbs_dvd_natAbs, Int.natAbs_natCast]
        exact d1
      have gle : (g : Int) ≤ p := Int.le_of_dvd (by omega) gp
      have g0 : g ≠ 0 := fun z => by
        rw [z] at gp
        have := Int.zero_dvd.mp gp
        omega
      by_cases g1 : g = 1
      · exact g1
      · exfalso
        by_cases gpe : (g : Int) = p
        · rw [gpe] at gk
          exact hpk gk
        · exact r g (by omega) (by omega) gp
    have h1 : k.natAbs ∣ m.natAbs * p.natAbs := by
      rw [← Int.natAbs_mul]
      exact Int.natAbs_dvd_natAbs.mpr h
    have h2 := Nat.Coprime.dvd_of_dvd_mul_right (show Nat.Coprime k.natAbs p.natAbs from hg) h1
    exact Int.natAbs_dvd_natAbs.mp h2
theorem dv_step {m p : Int} {found out : List Int} (h : IsDv m found) (hp : 2 ≤ p) (r : Rough p p) (hs : out.Pairwise (· < ·)) (hm : ∀ k, k ∈ out ↔ k ∈ found ++ found.map (· * p)) : IsDv (m * p) out := by
  refine ⟨hs, fun k => ?_⟩
  rw [hm, List.mem_append, List.mem_map, h.2]
  constructor
  · rintro (⟨a, b⟩ | ⟨x, hx, e⟩)
    · exact ⟨a, Int.dvd_trans b (Int.dvd_mul_right m p)⟩
    · obtain ⟨a, b⟩ := (h.2 x).mp hx
      rw [← e]
      refine ⟨?_, Int.mul_dvd_mul_right p b⟩
      have : 1 * 1 ≤ x * p := Int.mul_le_mul a (by omega) (by omega) (by omega)
      omega
  · rintro ⟨a, b⟩
    rcases dv_prime a hp r b with z | ⟨e, he⟩
    · exact .inl ⟨a, z⟩
    · right
      refine ⟨e, (h.2 e).mpr ⟨?_, ?_⟩, he.symm⟩
      · show 0 < e
        apply Int.lt_of_not_ge
        intro v
        have : e * p ≤ 0 := Int.mul_nonpos_of_nonpos_of_nonneg (by omega) (by omega)
        omega
      · rw [he] at b
        exact Int.dvd_of_mul_dvd_mul_right (by omega) b
abbrev s_divisors : Stmt := top 8
abbrev N_divisors : List Str := ["number", "low", "high", "divisor"]
abbrev P_divisors : List Str := ["number"]
theorem sc_divisors : FnScope N_divisors P_divisors (defScope s_divisors) := ⟨rfl, rfl, rfl, by decide +kernel, rfl, by decide +kernel, by decide +kernel⟩
def spDiv : Sp := fun vs H Q _ => ∃ (n : Int), vs = [.int n] ∧ 1 ≤ n ∧ n ≤ 1000000 ∧ ∀ ds l H', IsDv n ds → H l = none → Same H H' → H' l = some (.lst (ds.map V.int)) → Q (.ref l) H'
section
variable {P : Program} {w : World} {K : PySem.W.Frag} {mg : Str → Option Value} {base : Heap}
theorem ok_divisors {f : Addr} {fd : FuncData} {k : Nat} (F : Fun K "divisors" "divisors" s_divisors f fd) (T : Blt mg) : FnOk P w K mg base CX0 (k + 1) f fd P_divisors spDiv := by
  have nd := sc_divisors.nd
  refine F.ok sc_divisors (fun vs H Q E h => ?_) (fun cdv A outer s H vs Q E hr h => ?_)
  · obtain ⟨n, rfl, _⟩ := h
    rfl
  · obtain ⟨n, rfl, h1, h2, q⟩ := h
    refine ⟨_, (pss_cons (ps_set (i := 1) nd rfl (Or.inl rfl) (pe_lst pa_nil))
      (pss_cons (ps_set (i := 2) nd rfl (Or.inl rfl) (pe_lst pa_nil))
      (pss_cons (ps_set (i := 3) nd rfl (Or.inl rfl) (pe_int))
      (pss_cons (ps_while PassesOwn.never (pt_cmpR op_le (pe_op op_mul (pv 3) (pv 3)) (pv 0) (nomark _))
      (pss_cons (ps_if (pt_cmpR op_eq (pe_op op_mod (pv 0) (pv 3)) (pe_int) (nomark _)) (pss_cons (ps_expr (pe_bm PySem.F.plainAttrs_list PySem.F.slot_list_append PySem.F.type_list_append mt_append (pv 1) (pa_cons (pv 3) pa_nil)))
      (pss_one (ps_if (pt_cmpR op_lt (pe_op op_mul (pv 3) (pv 3)) (pv 0) (nomark _)) (pss_one (ps_expr (pe_bm PySem.F.plainAttrs_list PySem.F.slot_list_append PySem.F.type_list_append mt_append (pv 2) (pa_cons (pe_op op_fdiv (pv 0) (pv 3)) pa_nil)))) pss_nil))) pss_nil)
      (pss_one (ps_aug (i := 3) nd rfl (Or.inl rfl) (pe_int) ip_add))))
      (pss_one (ps_ret (pe_op op_cat (pv 1) (pe_revL (pv 2))))))))), ?_⟩
    walk_at "ev"
    intro a ha
    generalize hG1 : upd _ a _ = H1
    obtain ⟨sm1, hq1⟩ := newO hG1 ha
    walk_at "ev"
    intro b hb
    generalize hG2 : upd _ b _ = H2
    obtain ⟨sm2, hq2⟩ := newO hG2 hb
    have nab : a ≠ b := ne_of_none hq1 hb
    have hbf : H b = none := sm1.free hb
    refine ⟨fun m σ H' => ∃ (c : Int) (low high : List Int), σ = [some (.int n), some (.ref a), some (.ref b), some (.int c)] ∧ m = (n + 1 - c).toNat ∧ 1 ≤ c ∧ c ≤ 1001 ∧ c ≤ n + 1 ∧ Half n c low high ∧ low.length + high.length + 2 ≤ 2 * c.toNat ∧ Same H H' ∧ H' a = some (.lst (low.map V.int)) ∧ H' b = some (.lst (high.map V.int)), ⟨_, 1, [], [], rfl, rfl, by omega, by omega, by omega, Half.start n, by simp, sm1.trans sm2, sm2 _ _ hq1, hq2⟩, ?_⟩
    rintro m σ H' ⟨c, low, high, rfl, rfl, c1, c2, c3, hf, hl, sm, hqa, hqb⟩
    have cm : CMul c c := .inl ⟨by omega, by omega⟩
    walk_at "ev"
    refine ite2 (fun e => ?_) (fun e => ?_)
    · have e1 : c * c ≤ n := of_decide_eq_true e
      have cl : c ≤ c * c := by
        have : 1 * c ≤ c * c := Int.mul_le_mul_of_nonneg_right c1 (by omega)
        omega
      have c1000 : c ≤ 1000 := by
        apply Int.le_of_not_gt
        intro z
        have : 1001 * 1001 ≤ c * c := Int.mul_le_mul (by omega) (by omega) (by omega) (by omega)
        omega
      refine ⟨_, holdN, ?_⟩
      walk_at "ev"
      refine ite2 (fun e2 => ?_) (fun e2 => ?_)
      · have e3 : n % c = 0 := V.int.inj (of_decide_eq_true e2)
        obtain ⟨g1, g2⟩ := hf.low c1 (dvd_iff.mp e3) e1
        have hty : tyV K "list" (.ref a) H' := .inl ⟨rfl, _, SqL.of hqa⟩
        have hsa : (low.map V.int).length < sizeLine := by
          rw [List.length_map]
          exact szm (by omega)
        walk_at "ev"
        generalize hG3 : upd H' a _ = H3
        have hqa3 : H3 a = some (.lst ((low ++ [c]).map V.int)) := by
          rw [(mutO hG3).2, List.map_append]
          rfl
        have hqb3 : H3 b = some (.lst (high.map V.int)) := (mutO hG3).1 _ _ nab.symm hqb
        have sm3 : Same H H3 := by
          rw [← hG3]
          exact same_mut sm ha
        clear hG3
        refine ite2 (fun e4 => ?_) (fun e4 => ?_)
        · have e5 : c * c < n := of_decide_eq_true e4
          have hty3 : tyV K "list" (.ref b) H3 := .inl ⟨rfl, _, SqL.of hqb3⟩
          have hsb : (high.map V.int).length < sizeLine := by
            rw [List.length_map]
            exact szm (by omega)
          walk_at "ev"
          refine .mk ⟨(n + 1 - (c + 1)).toNat, by omega, c + 1, low ++ [c], high ++ [n / c], rfl, rfl, by omega, by omega, by omega, g1 e5, ?_, same_mut sm3 hbf, ?_, ?_⟩
          · simp
            omega
          · rw [upd_ne nab]
            exact hqa3
          · rw [upd_same, List.map_append]
            rfl
        · have e5 : ¬ c * c < n := fun z => e4 (decide_eq_true z)
          walk_at "ev"
          refine .mk ⟨(n + 1 - (c + 1)).toNat, by omega, c + 1, low ++ [c], high, rfl, rfl, by omega, by omega, by omega, g2 e5, ?_, sm3, hqa3, hqb3⟩
          simp
          omega
      · have e3 : ¬ n % c = 0 := fun z => e2 (decide_eq_true (congrArg V.int z))
        walk_at "ev"
        exact .mk ⟨(n + 1 - (c + 1)).toNat, by omega, c + 1, low, high, rfl, rfl, by omega, by omega, by omega, hf.skip c1 (fun z => e3 (dvd_iff.mpr z)) e1, by omega, sm, hqa, hqb⟩
    · have e1 : ¬ c * c ≤ n := fun z => e (decide_eq_true z)
      have hLb : SqL K H' b (high.map V.int) := SqL.of hqb
      walk_at "ev"
      intro r hr'
      generalize hG3 : upd _ r _ = H3
      obtain ⟨sm3, hq3⟩ := newO hG3 hr'
      have hqa3 := sm3 _ _ hqa
      have hsz : (low.map V.int).length + (high.map V.int).reverse.length ≤ sizeLine := by
        rw [List.length_map, List.length_reverse, List.length_map]
        exact szl (by omega)
      walk_at "ev"
      intro p hp
      generalize hG4 : upd _ p _ = H4
      obtain ⟨sm4, hq4⟩ := newO hG4 hp
      refine q (low ++ high.reverse) p H4 (hf.done h1 c1 (by omega)) ((sm.trans sm3).free hp) (sm.trans (sm3.trans sm4)) ?_
      rw [hq4, List.map_append, List.map_reverse]
end
/-! ### the sieve: mathematics -/
def pk (m j : Nat) : Bool := (List.range' 2 (m - 2)).all fun d => decide (j < d * d) || decide (j % d ≠ 0)
theorem pk_iff {m j : Nat} : pk m j = true ↔ ∀ d, 2 ≤ d → d < m → d * d ≤ j → ¬ d ∣ j := by
  unfold pk
  rw [List.all_eq_true]
  constructor
  · intro h d h1 h2 h3 h4
    have := h d (List.mem_range'_1.mpr ⟨h1, by omega⟩)
    rw [Bool.or_eq_true, decide_eq_true_iff, decide_eq_true_iff] at this
    rcases this with z | z
    · omega
    · exact z (Nat.mod_eq_zero_of_dvd h4)
  · intro h d hd
    have h1 := List.mem_range'_1.mp hd
    rw [Bool.or_eq_true, decide_eq_true_iff, decide_eq_true_iff]
    by_cases z : j < d * d
    · exact .inl z
    · exact .inr fun e => h d h1.1 (by omega) (by omega) (Nat.dvd_of_mod_eq_zero e)
theorem pk_ext {a b : Bool} (h : a = true ↔ b = true) : a = b := by
  cases a <;> cases b <;> simp at h ⊢
theorem pk_two (j : Nat) : pk 2 j = true := pk_iff.mpr fun d h1 h2 => by omega
/-- no marking at m: it was marked itself -/
theorem pk_skip {m j : Nat} (hm : 2 ≤ m) (h : pk m m = false) : pk (m + 1) j = pk m j := by
  refine pk_ext ?_
  rw [pk_iff, pk_iff]
  constructor
  · intro k d h1 h2
    exact k d h1 (by omega)
  · intro k d h1 h2 h3 h4
    by_cases e : d < m
    · exact k d h1 e h3 h4
    · have e2 : d = m := by omega
      subst e2
      have hn : ¬ pk d d = true := by rw [h]; exact Bool.false_ne_true
      apply hn
      rw [pk_iff]
      intro c c1 c2 c3 c4
      have hle : d * 1 ≤ d * d := Nat.mul_le_mul_left d (by omega)
      exact k c c1 c2 (by omega) (Nat.dvd_trans c4 h4)
/-- .. or its square is beyond -/
theorem pk_far {m j : Nat} (h : j < m * m) : pk (m + 1) j = pk m j := by
  refine pk_ext ?_
  rw [pk_iff, pk_iff]
  constructor
  · intro k d h1 h2
    exact k d h1 (by omega)
  · intro k d h1 h2 h3 h4
    by_cases e : d < m
    · exact k d h1 e h3 h4
    · have e2 : d = m := by omega
      subst e2
      omega
/-- what is marked behind t turns at m -/
def mk (m t j : Nat) : Bool := pk m j && !(decide (m * m ≤ j) && decide (j % m = 0) && decide (j < m * m + t * m))
theorem mk_zero (m j : Nat) : mk m 0 j = pk m j := by
  unfold mk
  by_cases h : m * m ≤ j
  · have : decide (j < m * m + 0 * m) = false := decide_eq_false (by omega)
    rw [this, Bool.and_false, Bool.not_false, Bool.and_true]
  · simp [h]
theorem mk_step {m t j : Nat} (hm : 0 < m) : mk m (t + 1) j = if j = m * m + t * m then false else mk m t j := by
  unfold mk
  have es : (t + 1) * m = t * m + m := by rw [Nat.add_mul, Nat.one_mul]
  split
  · rename_i e
    have h1 : j % m = 0 := by
      rw [e, ← Nat.add_mul]
      exact Nat.mul_mod_left _ _
    have h2 : m * m ≤ j := by omega
    have h3 : j < m * m + (t + 1) * m := by omega
    simp [h1, h2, h3]
  · rename_i e
    by_cases h1 : j % m = 0
    · by_cases h2 : m * m ≤ j
      · have h3 : (j < m * m + (t + 1) * m) ↔ (j < m * m + t * m) := by
          constructor
          · intro z
            apply Nat.lt_of_not_ge
            intro y
            apply e
            obtain ⟨q, hq⟩ := Nat.dvd_of_mod_eq_zero h1
            have a1 : m * (m + t) ≤ m * q := by rw [Nat.mul_add, Nat.mul_comm m t, ← hq]; omega
            have a2 : m * q < m * (m + t + 1) := by rw [Nat.mul_add, Nat.mul_add, Nat.mul_comm m t, ← hq]; omega
            have b1 := Nat.le_of_mul_le_mul_left a1 hm
            have b2 := Nat.lt_of_mul_lt_mul_left a2
            have b3 : q = m + t := by omega
            rw [hq, b3, Nat.mul_add, Nat.mul_comm m t]
          · intro z
            omega
        simp only [h3]
      · simp [h2]
    · simp [h1]
theorem mk_last {m t j : Nat} (hm : 2 ≤ m) (h : j < m * m + t * m) : mk m t j = pk (m + 1) j := by
  refine pk_ext ?_
  unfold mk
  rw [Bool.and_eq_true, pk_iff, pk_iff]
  constructor
  · rintro ⟨k, z⟩ d h1 h2 h3 h4
    by_cases e : d < m
    · exact k d h1 e h3 h4
    · have e2 : d = m := by omega
      subst e2
      have := Nat.mod_eq_zero_of_dvd h4
      simp [h, h3, this] at z
  · intro k
    refine ⟨fun d h1 h2 => k d h1 (by omega), ?_⟩
    by_cases h2 : m * m ≤ j
    · have h3 : ¬ j % m = 0 := fun e => k m hm (by omega) h2 (Nat.dvd_of_mod_eq_zero e)
      simp [h3]
    · simp [h2]
/-- the list of truths -/
def bls (n : Nat) (f : Nat → Bool) : List V := (List.range n).map fun j => V.bl (f j)
theorem bls_len (n : Nat) (f : Nat → Bool) : (bls n f).length = n := by
  unfold bls
  rw [List.length_map, List.length_range]
theorem bls_get {n j : Nat} {f : Nat → Bool} (h : j < n) : (bls n f)[j]? = some (.bl (f j)) := by
  unfold bls
  rw [List.getElem?_map, List.getElem?_range h]
  rfl
theorem bls_at {n : Nat} {f : Nat → Bool} {k : Int} (h0 : 0 ≤ k) (h : k < (n : Int)) : atI (bls n f) k = some (.bl (f k.toNat)) := at_of (j := k.toNat) (by omega) (bls_get (by omega))
theorem bls_ext {n : Nat} {f g : Nat → Bool} (h : ∀ j, j < n → f j = g j) : bls n f = bls n g := by
  unfold bls
  refine List.map_congr_left fun j hj => ?_
  rw [h j (List.mem_range.mp hj)]
theorem bls_set {n j : Nat} {f : Nat → Bool} {b : Bool} : (bls n f).set j (.bl b) = bls n fun i => if i = j then b else f i := by
  refine List.ext_getElem? fun i => ?_
  rw [List.getElem?_set]
  by_cases hi : i < n
  · rw [bls_get hi, bls_get hi, bls_len]
    by_cases e : j = i
    · subst e
      simp [hi]
    · have e2 : ¬ i = j := fun z => e z.symm
      simp [e, e2]
  · have h1 : (bls n f)[i]? = none := List.getElem?_eq_none (by rw [bls_len]; omega)
    have h2 : (bls n fun i => if i = j then b else f i)[i]? = none := List.getElem?_eq_none (by rw [bls_len]; omega)
    rw [h1, h2, bls_len]
    by_cases e : j = i
    · subst e
      simp [hi]
    · simp [e]
theorem bls_rep : ∀ n : Nat, (List.replicate n [V.bl true]).flatten = bls n fun _ => true
  | 0 => rfl
  | n + 1 => by
    have ih := bls_rep n
    rw [List.replicate_succ', List.flatten_append, ih]
    unfold bls
    rw [List.range_succ, List.map_append]
    rfl
theorem rg_pos {i j c : Int} (hc : 0 < c) (hc2 : c < 1073741824) (hi : 0 ≤ i) (hij : i < j) (hj : j < 1099511627776) : RgC i j c ((j - i - 1) / c + 1).toNat := by
  have h0 : 0 ≤ (j - i - 1) / c := Int.ediv_nonneg (by omega) (by omega)
  have h1 : (j - i - 1) / c ≤ j - i - 1 := Int.ediv_le_self _ (by omega)
  have e : Builtin.Range.rangeSize i j c = (j - i - 1) / c + 1 := by
    unfold Builtin.Range.rangeSize
    rw [if_pos hc, if_pos hij]
  refine ⟨by omega, by omega, ?_, by rw [e]; omega⟩
  unfold Builtin.Range.small
  rw [e]
  generalize (j - i - 1) / c = z at *
  simp only [Builtin.Range.rangeFitsLong, Bool.and_eq_true, Bool.or_eq_true, decide_eq_true_eq, beq_iff_eq]
  rw [if_pos hc, Bool.and_eq_true, decide_eq_true_iff, decide_eq_true_iff]
  omega
def prs (top : Nat) : List Int := ((List.range' 2 (top - 1)).filter (pk (top + 1))).map Int.ofNat
/-! ### the law's own dividing -/
theorem mem_prs {top : Nat} {x : Int} : x ∈ prs top ↔ ∃ j : Nat, x = (j : Int) ∧ 2 ≤ j ∧ j ≤ top ∧ pk (top + 1) j = true := by
  unfold prs
  rw [List.mem_map]
  constructor
  · rintro ⟨j, hj, e⟩
    have h1 := List.mem_filter.mp hj
    have h2 := List.mem_range'_1.mp h1.1
    exact ⟨j, e.symm, h2.1, by omega, h1.2⟩
  · rintro ⟨j, e, h1, h2, h3⟩
    exact ⟨j, List.mem_filter.mpr ⟨List.mem_range'_1.mpr ⟨h1, by omega⟩, h3⟩, e.symm⟩
theorem prs_sorted (top : Nat) : (prs top).Pairwise (· < ·) := by
  unfold prs
  rw [List.pairwise_map]
  refine List.Pairwise.imp (R := fun a b : Nat => a < b) (fun {a b} h => ?_) ((List.pairwise_lt_range' (s := 2) (n := top - 1) (step := 1)).sublist List.filter_sublist)
  show (a : Int) < (b : Int)
  omega
theorem prs_len (top : Nat) : (prs top).length ≤ top := by
  unfold prs
  rw [List.length_map]
  refine Nat.le_trans (List.length_filter_le _ _) ?_
  rw [List.length_range']
  omega
theorem prs_div {top : Nat} : ∀ d : Nat, 2 ≤ d → d ≤ top → ∃ x : Nat, (x : Int) ∈ prs top ∧ x ≤ d ∧ x ∣ d := by
  intro d
  induction d using Nat.strongRecOn with
  | ind d ih =>
    intro h1 h2
    by_cases h : pk (top + 1) d = true
    · exact ⟨d, mem_prs.mpr ⟨d, rfl, h1, h2, h⟩, Nat.le_refl _, Nat.dvd_refl _⟩
    · have : ∃ c, 2 ≤ c ∧ c * c ≤ d ∧ c ∣ d := by
        apply Classical.byContradiction
        intro z
        apply h
        rw [pk_iff]
        intro c c1 c2 c3 c4
        exact z ⟨c, c1, c3, c4⟩
      obtain ⟨c, c1, c2, c3⟩ := this
      have c4 : 2 * c ≤ c * c := Nat.mul_le_mul_right c c1
      obtain ⟨x, x1, x2, x3⟩ := ih c (by omega) c1 (by omega)
      exact ⟨x, x1, by omega, Nat.dvd_trans x3 c3⟩
theorem rough_of {top : Nat} {m p : Int} {i : Nat} (h : ∀ x ∈ (prs top).take i, ¬ x ∣ m) (hp : (prs top)[i]? = some p) : Rough m p := by
  intro d h1 h2 h3
  have hm : p ∈ prs top := List.mem_of_getElem? hp
  obtain ⟨j, ej, j1, j2, j3⟩ := mem_prs.mp hm
  obtain ⟨x, x1, x2, x3⟩ := prs_div d.toNat (by omega) (by omega : d.toNat ≤ top)
  have x4 : (x : Int) ∣ d := by
    have := Int.natCast_dvd_natCast.mpr x3
    rwa [Int.toNat_of_nonneg (by omega)] at this
  refine h x ?_ (Int.dvd_trans x4 h3)
  obtain ⟨l, hl⟩ := List.getElem?_of_mem x1
  obtain ⟨l1, l2⟩ := List.getElem?_eq_some_iff.mp hl
  obtain ⟨i1, i2⟩ := List.getElem?_eq_some_iff.mp hp
  have hli : l < i := by
    apply Nat.lt_of_not_ge
    intro z
    rcases Nat.lt_or_eq_of_le z with y | y
    · have := (List.pairwise_iff_getElem.mp (prs_sorted top)) i l i1 l1 y
      omega
    · subst y
      omega
  refine List.mem_iff_getElem?.mpr ⟨l, ?_⟩
  rw [List.getElem?_take_of_lt hli]
  exact hl
theorem rough_end {top : Nat} {m : Int} (h : ∀ x ∈ prs top, ¬ x ∣ m) : Rough m (top + 1) := by
  intro d h1 h2 h3
  obtain ⟨x, x1, x2, x3⟩ := prs_div d.toNat (by omega) (by omega : d.toNat ≤ top)
  have x4 : (x : Int) ∣ d := by
    have := Int.natCast_dvd_natCast.mpr x3
    rwa [Int.toNat_of_nonneg (by omega)] at this
  exact h x x1 (Int.dvd_trans x4 h3)
/-! ### powers by rests -/
theorem emod_pow (a m : Int) : ∀ k : Nat, (a % m) ^ k % m = a ^ k % m
  | 0 => by rw [Int.pow_zero, Int.pow_zero]
  | k + 1 => by rw [Int.pow_succ, Int.pow_succ, Int.mul_emod, emod_pow a m k, Int.emod_emod_of_dvd _ (Int.dvd_refl m), ← Int.mul_emod]
theorem mul_pow_mod (t b m : Int) (k : Nat) : t * (b % m) ^ k % m = t * b ^ k % m := by
  rw [Int.mul_emod, emod_pow, ← Int.mul_emod]
theorem mod_mul_mod (t x m : Int) : t % m * x % m = t * x % m := by
  rw [Int.mul_emod, Int.emod_emod_of_dvd _ (Int.dvd_refl m), ← Int.mul_emod]
theorem pow_sq (b : Int) : ∀ k : Nat, (b * b) ^ k = b ^ (2 * k)
  | 0 => by rw [Nat.mul_zero, Int.pow_zero, Int.pow_zero]
  | k + 1 => by
    rw [Int.pow_succ, pow_sq b k, show 2 * (k + 1) = 2 * k + 1 + 1 by omega, Int.pow_succ, Int.pow_succ, Int.mul_assoc]
theorem step_odd {t b m e : Int} (h : e % 2 = 1) (he : 0 ≤ e) : t * b % m * (b * b % m) ^ (e / 2).toNat % m = t * b ^ e.toNat % m := by
  rw [mul_pow_mod, mod_mul_mod, pow_sq]
  have : e.toNat = 2 * (e / 2).toNat + 1 := by omega
  rw [this, Int.pow_succ, Int.mul_comm (b ^ _) b, ← Int.mul_assoc]
theorem step_even {t b m e : Int} (h : ¬ e % 2 = 1) (he : 0 ≤ e) : t * (b * b % m) ^ (e / 2).toNat % m = t * b ^ e.toNat % m := by
  rw [mul_pow_mod, pow_sq]
  have : e.toNat = 2 * (e / 2).toNat := by omega
  rw [← this]
abbrev s_power_rest : Stmt := top 9
abbrev N_power_rest : List Str := ["number", "power", "by", "told"]
abbrev P_power_rest : List Str := ["number", "power", "by"]
theorem sc_power_rest : FnScope N_power_rest P_power_rest (defScope s_power_rest) := ⟨rfl, rfl, rfl, by decide +kernel, rfl, by decide +kernel, by decide +kernel⟩
def spPow : Sp := fun vs H Q _ => ∃ (b e m : Int), vs = [.int b, .int e, .int m] ∧ 0 ≤ e ∧ 1 ≤ m ∧ m ≤ 1000000 ∧ Q (.int (b ^ e.toNat % m)) H
section
variable {P : Program} {w : World} {K : PySem.W.Frag} {mg : Str → Option Value} {base : Heap}
theorem ok_power {f : Addr} {fd : FuncData} {k : Nat} (F : Fun K "power_rest" "power_rest" s_power_rest f fd) : FnOk P w K mg base CX0 (k + 1) f fd P_power_rest spPow := by
  have nd := sc_power_rest.nd
  refine F.ok sc_power_rest (fun vs H Q E h => ?_) (fun cdv A outer s H vs Q E hr h => ?_)
  · obtain ⟨b, e, m, rfl, _⟩ := h
    rfl
  · obtain ⟨b, e, m, rfl, he, hm1, hm2, q⟩ := h
    refine ⟨_, (pss_cons (ps_set (i := 3) nd rfl (Or.inl rfl) (pe_op op_mod (pe_int) (pv 2)))
      (pss_cons (ps_set (i := 0) nd rfl (Or.inl rfl) (pe_op op_mod (pv 0) (pv 2)))
      (pss_cons (ps_while PassesOwn.never (pt_cmpR op_gt (pv 1) (pe_int) (nomark _))
      (pss_cons (ps_if (pt_cmpR op_eq (pe_op op_mod (pv 1) (pe_int)) (pe_int) (nomark _)) (pss_one (ps_set (i := 3) nd rfl (Or.inl rfl) (pe_op op_mod (pe_op op_mul (pv 3) (pv 0)) (pv 2)))) pss_nil)
      (pss_cons (ps_set (i := 0) nd rfl (Or.inl rfl) (pe_op op_mod (pe_op op_mul (pv 0) (pv 0)) (pv 2)))
      (pss_one (ps_aug (i := 1) nd rfl (Or.inl rfl) (pe_int) iop_fdivW)))))
      (pss_one (ps_ret (pv 3)))))), ?_⟩
    walk_at "ev"
    have r0 : ∀ x : Int, 0 ≤ x % m ∧ x % m < m := fun x => ⟨Int.emod_nonneg _ (by omega), Int.emod_lt_of_pos _ (by omega)⟩
    refine ⟨fun z σ H' => H' = H ∧ ∃ (x p t : Int), σ = [some (.int x), some (.int p), some (.int m), some (.int t)] ∧ z = p.toNat ∧ 0 ≤ p ∧ 0 ≤ t ∧ t < m ∧ 0 ≤ x ∧ x < m ∧ t * x ^ p.toNat % m = b ^ e.toNat % m, ⟨_, rfl, b % m, e, 1 % m, rfl, rfl, he, (r0 _).1, (r0 _).2, (r0 _).1, (r0 _).2, ?_⟩, ?_⟩
    · rw [mod_mul_mod, mul_pow_mod, Int.one_mul]
    · rintro z σ H' ⟨rfl, x, p, t, rfl, rfl, p0, t0, t1, x0, x1, inv⟩
      have cm1 : CMul t x := .inl ⟨by omega, by omega⟩
      have cm2 : CMul x x := .inl ⟨by omega, by omega⟩
      walk_at "ev"
      refine ite2 (fun c => ?_) (fun c => ?_)
      · have c1 : 0 < p := of_decide_eq_true c
        refine ⟨_, holdN, ?_⟩
        walk_at "ev"
        refine ite2 (fun d => ?_) (fun d => ?_)
        · have d1 : p % 2 = 1 := V.int.inj (of_decide_eq_true d)
          walk_at "ev"
          exact .mk ⟨(p / 2).toNat, by omega, rfl, x * x % m, p / 2, t * x % m, rfl, rfl, by omega, (r0 _).1, (r0 _).2, (r0 _).1, (r0 _).2, by rw [step_odd d1 p0]; exact inv⟩
        · have d1 : ¬ p % 2 = 1 := fun z => d (decide_eq_true (congrArg V.int z))
          walk_at "ev"
          exact .mk ⟨(p / 2).toNat, by omega, rfl, x * x % m, p / 2, t, rfl, rfl, by omega, t0, t1, (r0 _).1, (r0 _).2, by rw [step_even d1 p0]; exact inv⟩
      · have c1 : p = 0 := by
          have : ¬ 0 < p := fun z => c (decide_eq_true z)
          omega
        subst c1
        walk_at "ev"
        have et : t = b ^ e.toNat % m := by
          rw [← inv]
          show t = t * x ^ (0 : Nat) % m
          rw [Int.pow_zero, Int.mul_one, Int.emod_eq_of_lt t0 t1]
        rw [et]
        exact q
end
abbrev s_generator : Stmt := top 10
abbrev N_generator : List Str := ["prime", "early", "number", "factor", "power"]
abbrev P_generator : List Str := ["prime"]
theorem sc_generator : FnScope N_generator P_generator (defScope s_generator) := ⟨rfl, rfl, rfl, by decide +kernel, rfl, by decide +kernel, by decide +kernel⟩
/-- the exponents at which powers may come round too early -/
def erl (p : Int) (fs : List Int) : List Int := fs.map fun f => (p - 1) / f
def GenOk (p g : Int) (es : List Int) : Prop := ∀ e ∈ es, ¬ g ^ e.toNat % p = 1
def LeastGen (p g : Int) (es : List Int) : Prop := 1 ≤ g ∧ g < p ∧ GenOk p g es ∧ ∀ x, 1 ≤ x → x < g → ¬ GenOk p x es
def spGen : Sp := fun vs H Q _ => ∃ (p g0 : Int) (fs out : List Int), vs = [.int p] ∧ 2 ≤ p ∧ p ≤ 1000000 ∧ Fac (p - 1) fs ∧ out.Pairwise (· < ·) ∧ (∀ k, k ∈ out ↔ k ∈ fs) ∧ 1 ≤ g0 ∧ g0 < p ∧ GenOk p g0 (erl p out) ∧ ∀ g H', Same H H' → LeastGen p g (erl p out) → Q (.int g) H'
section
variable {P : Program} {w : World} {K : PySem.W.Frag} {mg : Str → Option Value} {base : Heap}
theorem ok_generator {f f1 f2 : Addr} {fd d1 d2 : FuncData} {k : Nat} (F : Fun K "generator" "generator" s_generator f fd) (T : Blt mg) (D_factors : Df K mg "factors" s_factors P_factors f1 d1) (D_power_rest : Df K mg "power_rest" s_power_rest P_power_rest f2 d2) : FnOk P w K mg base CX0 (k + 2) f fd P_generator spGen := by
  have G_factors : FnOk P w K mg base CX0 (k + 1) f1 d1 P_factors spFactors := ok_factors D_factors.F
  have G_power_rest : FnOk P w K mg base CX0 (k + 1) f2 d2 P_power_rest spPow := ok_power D_power_rest.F
  have nd := sc_generator.nd
  refine F.ok sc_generator (fun vs H Q E h => ?_) (fun cdv A outer s H vs Q E hr h => ?_)
  · obtain ⟨p, g0, fs, out, rfl, _⟩ := h
    rfl
  · obtain ⟨p, g0, fs, out, rfl, p2, p6, hfac, hso, hmo, g1, gp, hg0, q⟩ := h
    refine ⟨_, (pss_cons (ps_setLc (i := 1) (own := [("factor", 3)]) (g := gName 3) (by rfl) nd rfl rfl (sw_true rfl rfl rfl (by decide +kernel)) (pi_list (pe_sortSet (by rfl) T.b_sorted (by rfl) T.b_set (pe_call G_factors (hr.mono (by omega)) (by rfl) D_factors.g D_factors.F.kp D_factors.b .nil pass0 (pa_cons (pe_op op_sub (pv 0) (pe_int)) pa_nil)))) (blkOk_by (own := [("factor", 3)]) (N := N_generator) (sc := defScope s_generator) (by decide +kernel)) (fun _ _ _ _ _ => (pg_name (i := 3) nd rfl (Or.inl rfl))) (fun _ _ _ _ _ => pts_nil) (fun _ _ _ _ _ => (pe_op op_fdiv (pe_op op_sub (pv 0) (pe_int)) (pv 3))))
      (pss_cons (ps_set (i := 2) nd rfl (Or.inr rfl) (pe_int))
      (pss_cons (ps_while PassesOwn.never (pt_val (pe_callB (r := rAny K) (cr_any rfl) (by rfl) T.b_any (by decide +kernel) (pa_cons (pe_lc (own := [("power", 4)]) (g := gName 4) (by rfl) nd (pi_list (pv 1)) (blkOk_by (own := [("power", 4)]) (N := N_generator) (sc := defScope s_generator) (by decide +kernel)) (fun _ _ _ _ _ => (pg_name (i := 4) nd rfl (Or.inl rfl))) (fun _ _ _ _ _ => pts_nil) (fun _ _ _ _ _ => (pe_cmpR op_eq (pe_call G_power_rest (hr.mono (by omega)) (by rfl) D_power_rest.g D_power_rest.F.kp D_power_rest.b .nil pass0 (pa_cons (pv 2) (pa_cons (pv 4) (pa_cons (pv 0) pa_nil)))) (pe_int) (nomark _)))) pa_nil)))
      (pss_one (ps_aug (i := 2) nd rfl (Or.inr rfl) (pe_int) ip_add)))
      (pss_one (ps_ret (pv 2)))))), ?_⟩
    walk_at "ev"
    intro xs l H1 hf1 hl sm1 hq1
    have ex : xs = fs := hf1.uniq hfac
    subst ex
    have hxl := hfac.len (by omega)
    have hL1 : SqL K H1 l (xs.map V.int) := SqL.of hq1
    refine ⟨l, xs, rfl, hL1, by omega, ?_⟩
    intro out2 l2 hl2 hs2 hm2 ho2
    have eo : out2 = out := srt_ext hs2 hso fun k => (hm2 k).trans (hmo k).symm
    subst eo
    generalize hG2 : upd _ l2 _ = H2
    obtain ⟨sm2, hq2⟩ := newO hG2 hl2
    have hL2 : SqL K H2 l2 (out2.map V.int) := SqL.of hq2
    refine ⟨l2, rfl, ⟨_, hL2⟩, fun D hD => ?_⟩
    refine lc_list (K := K) (a := l2) (xs := out2.map V.int) (fun i H' => Hold (Same H2 H' ∧ H' D = some (.lst ((erl p (out2.take i)).map V.int)))) (.mk ⟨same_new hD, upd_same⟩) ?_ ?_ ?_
    · intro i H3 hi hP
      obtain ⟨sm3, hD3⟩ := hP.un
      exact sm3.seq hL2
    · intro i v H3 hv hP
      obtain ⟨sm3, hD3⟩ := hP.un
      rw [List.getElem?_map] at hv
      obtain ⟨x, hx, ev⟩ := Option.map_eq_some_iff.mp hv
      subst ev
      have hxm := (hmo x).mp (List.mem_of_getElem? hx)
      obtain ⟨x2, _⟩ := hfac.primes x hxm
      have hx6 : x ≤ p - 1 := hfac.le x hxm
      have hil : i < out2.length := (List.getElem?_eq_some_iff.mp hx).1
      have hsz : ((erl p (out2.take i)).map V.int).length < sizeLine := by
        unfold erl
        rw [List.length_map, List.length_map, List.length_take]
        exact szm (by omega)
      walk_at "ev"
      refine .mk ⟨same_mut sm3 hD, ?_⟩
      unfold erl
      rw [upd_same, List.take_add_one, hx, List.map_append, List.map_append]
      rfl
    · intro H3 hP
      obtain ⟨sm3, hD3⟩ := hP.un
      rw [List.length_map, List.take_length] at hD3
      have sm03 := sm1.trans (sm2.trans sm3)
      have hlE : (erl p out2).length ≤ 30 := by
        unfold erl
        rw [List.length_map]
        omega
      have he0 : ∀ e ∈ erl p out2, 0 ≤ e := by
        intro e he
        obtain ⟨x, hx, ee⟩ := List.mem_map.mp he
        obtain ⟨x2, _⟩ := hfac.primes x ((hmo x).mp hx)
        rw [← ee]
        exact Int.ediv_nonneg (by omega) (by omega)
      generalize erl p out2 = es at *
      clear hG2 hP
      have hD1 : H D = none := (sm1.trans sm2).free hD
      walk_at "ev"
      refine ⟨fun z σ H' => ∃ (x : Int) (s3 s4 : Option V), σ = [some (.int p), some (.ref D), some (.int x), s3, s4] ∧ z = (g0 - x).toNat ∧ 1 ≤ x ∧ x ≤ g0 ∧ (∀ y, 1 ≤ y → y < x → ¬ GenOk p y es) ∧ Same H3 H', ⟨_, 1, _, _, rfl, rfl, by omega, by omega, fun y a b => by omega, Same.refl _⟩, ?_⟩
      rintro z σ H4 ⟨x, s3, s4, rfl, rfl, x1, x2, hless, sm4⟩
      have hL4 : SqL K H4 D (es.map V.int) := SqL.of (sm4 _ _ hD3)
      have hL4' : ∃ xs, SqL K H4 D xs := ⟨_, hL4⟩
      walk_at "ev"
      intro D5 hD5
      refine lc_list (K := K) (a := D) (xs := es.map V.int) (fun i H' => Hold (Same H4 H' ∧ H' D5 = some (.lst (((es.take i).map fun e => decide (x ^ e.toNat % p = 1)).map V.bl)))) (.mk ⟨same_new hD5, upd_same⟩) ?_ ?_ ?_
      · intro i H5 hi hP
        obtain ⟨sm5, hq5⟩ := hP.un
        exact sm5.seq hL4
      · intro i v H5 hv hP
        obtain ⟨sm5, hq5⟩ := hP.un
        rw [List.getElem?_map] at hv
        obtain ⟨e, he, ev⟩ := Option.map_eq_some_iff.mp hv
        subst ev
        have e0 := he0 e (List.mem_of_getElem? he)
        have hil : i < es.length := (List.getElem?_eq_some_iff.mp he).1
        have hsz : (((es.take i).map fun e => decide (x ^ e.toNat % p = 1)).map V.bl).length < sizeLine := by
          rw [List.length_map, List.length_map, List.length_take]
          exact szm (by omega)
        walk_at "ev"
        refine .mk ⟨same_mut sm5 hD5, ?_⟩
        have ed : decide (V.int (x ^ e.toNat % p) = V.int 1) = decide (x ^ e.toNat % p = 1) := by
          by_cases c : x ^ e.toNat % p = 1
          · rw [decide_eq_true c, decide_eq_true (congrArg V.int c)]
          · rw [decide_eq_false c, decide_eq_false fun z => c (V.int.inj z)]
        rw [upd_same, List.take_add_one, he, List.map_append, List.map_append, ed]
        rfl
      · intro H5 hP
        obtain ⟨sm5, hq5⟩ := hP.un
        rw [List.length_map, List.take_length] at hq5
        refine ⟨D5, _, rfl, SqL.of hq5, _, rfl, ?_⟩
        refine ite2 (fun c => ?_) (fun c => ?_)
        · have bad : ¬ GenOk p x es := by
            obtain ⟨b, hb, eb⟩ := List.any_eq_true.mp c
            obtain ⟨e, he, ee⟩ := List.mem_map.mp hb
            intro ok
            refine ok e he ?_
            rw [← ee] at eb
            exact of_decide_eq_true eb
          have xne : x ≠ g0 := fun z => bad (z ▸ hg0)
          refine ⟨_, holdN, ?_⟩
          walk_at "ev"
          refine .mk ⟨(g0 - (x + 1)).toNat, by omega, x + 1, _, _, rfl, rfl, by omega, by omega, fun y a b => ?_, sm4.trans sm5⟩
          by_cases yx : y = x
          · rw [yx]; exact bad
          · exact hless y a (by omega)
        · have good : GenOk p x es := by
            intro e he z
            apply c
            rw [List.any_eq_true]
            exact ⟨true, List.mem_map.mpr ⟨e, he, decide_eq_true z⟩, rfl⟩
          walk_at "ev"
          exact q _ _ (sm03.trans (sm4.trans sm5)) ⟨x1, by omega, good, hless⟩
end
def IsPf (n : Int) (out : List Int) : Prop := out.Pairwise (· < ·) ∧ ∀ k, k ∈ out ↔ 2 ≤ k ∧ k ∣ n ∧ Rough k k
/-! ### what stands in a list of primes; counts to 300 -/
theorem Fac.dvds {n : Int} {xs : List Int} (h : Fac n xs) : ∀ q ∈ xs, q ∣ n := by
  induction h with
  | one => intro q hq; simp at hq
  | cons h1 h2 h3 h4 h5 ih =>
    rename_i n p q ps
    intro x hx
    rcases List.mem_cons.mp hx with e | e
    · rw [e]
      exact ⟨q, h2⟩
    · exact Int.dvd_trans (ih x e) ⟨p, by rw [h2, Int.mul_comm]⟩
theorem Fac.mem_iff {n : Int} {xs : List Int} (h : Fac n xs) : ∀ k, k ∈ xs ↔ 2 ≤ k ∧ k ∣ n ∧ Rough k k := by
  intro k
  constructor
  · intro hk
    obtain ⟨a, b⟩ := h.primes k hk
    exact ⟨a, h.dvds k hk, b⟩
  · rintro ⟨k2, kn, kr⟩
    induction h with
    | one =>
      have := Int.le_of_dvd (by decide) kn
      omega
    | cons h1 h2 h3 h4 h5 ih =>
      rename_i n p q ps
      have pr : Rough p p := fun c c1 c2 c3 => h4 c c1 c2 (Int.dvd_trans c3 ⟨q, h2⟩)
      have kn' : k ∣ q * p := by
        rw [Int.mul_comm, ← h2]
        exact kn
      rcases dv_prime (by omega) h1 pr kn' with z | ⟨e, he⟩
      · exact List.mem_cons_of_mem _ (ih z)
      · have pk : p ∣ k := ⟨e, by rw [he, Int.mul_comm]⟩
        have ple := Int.le_of_dvd (by omega) pk
        have : ¬ p < k := fun z => kr p h1 z pk
        have : k = p := by omega
        rw [this]
        exact List.mem_cons_self
theorem fac_ex : ∀ n : Nat, 1 ≤ n → ∃ xs, Fac (n : Int) xs := by
  intro n
  induction n using Nat.strongRecOn with
  | ind n ih =>
    intro h1
    by_cases n1 : n = 1
    · subst n1
      exact ⟨[], .one⟩
    · -- the least divisor
      have ex : ∃ d : Nat, 2 ≤ d ∧ d ∣ n := ⟨n, by omega, Nat.dvd_refl n⟩
      obtain ⟨d, ⟨d2, dn⟩, least⟩ : ∃ d : Nat, (2 ≤ d ∧ d ∣ n) ∧ ∀ c, c < d → ¬ (2 ≤ c ∧ c ∣ n) := by
        obtain ⟨m, hm⟩ := ex
        revert hm
        induction m using Nat.strongRecOn with
        | ind m im =>
          intro hm
          by_cases hc : ∃ c, c < m ∧ 2 ≤ c ∧ c ∣ n
          · obtain ⟨c, c1, c2⟩ := hc
            exact im c c1 c2
          · exact ⟨m, hm, fun c c1 c2 => hc ⟨_, c1, c2⟩⟩
      obtain ⟨q, hq⟩ := dn
      have q1 : 1 ≤ q := by
        apply Nat.pos_of_ne_zero
        intro z
        rw [z] at hq
        omega
      have qn : q < n := by
        have : 2 * q ≤ d * q := Nat.mul_le_mul_right q d2
        omega
      obtain ⟨xs, hx⟩ := ih q qn q1
      refine ⟨(d : Int) :: xs, .cons (by omega) (by rw [hq, Int.natCast_mul]) (by omega) ?_ hx⟩
      intro e e2 ed en
      refine least e.toNat (by omega) ⟨by omega, ?_⟩
      rw [← Int.natCast_dvd_natCast, Int.toNat_of_nonneg (by omega)]
      exact en
theorem pf_ex {n : Int} (h1 : 1 ≤ n) : ∃ fs out, Fac n fs ∧ out.Pairwise (· < ·) ∧ (∀ k, k ∈ out ↔ k ∈ fs) ∧ IsPf n out := by
  obtain ⟨fs, hf⟩ := fac_ex n.toNat (by omega)
  rw [Int.toNat_of_nonneg (by omega)] at hf
  have hs : (((List.range' 2 n.toNat : List Nat).filter (fun (k : Nat) => decide ((k : Int) ∈ fs))).map Int.ofNat).Pairwise (· < ·) := by
    rw [List.pairwise_map]
    refine List.Pairwise.imp (R := fun a b : Nat => a < b) (fun {a b} h => ?_) ((List.pairwise_lt_range' (s := 2) (n := n.toNat) (step := 1)).sublist List.filter_sublist)
    show (a : Int) < (b : Int)
    omega
  have hm : ∀ k, k ∈ ((List.range' 2 n.toNat : List Nat).filter (fun (k : Nat) => decide ((k : Int) ∈ fs))).map Int.ofNat ↔ k ∈ fs := by
    intro k
    rw [List.mem_map]
    constructor
    · rintro ⟨j, hj, e⟩
      have := of_decide_eq_true (List.mem_filter.mp hj).2
      rw [← e]
      exact this
    · intro hk
      obtain ⟨k2, kd, _⟩ := (hf.mem_iff k).mp hk
      have kn := Int.le_of_dvd (by omega) kd
      have ek : ((k.toNat : Nat) : Int) = k := Int.toNat_of_nonneg (by omega)
      refine ⟨k.toNat, List.mem_filter.mpr ⟨List.mem_range'_1.mpr ⟨by omega, by omega⟩, decide_eq_true (by rw [ek]; exact hk)⟩, ek⟩
  exact ⟨fs, _, hf, hs, hm, hs, fun k => (hm k).trans (hf.mem_iff k)⟩
/-! ### a list or a tuple -/
section
open PySem.Spec PyProof.Rows
variable {X : Cx}
def rIxQ (K : PySem.W.Frag) : R2 := fun x y H Q => ∃ p xs i v, x = .ref p ∧ y = .int i ∧ (SqL K H p xs ∨ SqT K H p xs) ∧ atI xs i = some v ∧ Q v H
theorem ix_seq : IxR X (rIxQ X.K) := by
  intro value slice pins s σ H x y v u Q I rx ry h hs
  obtain ⟨p, xs, i, z, e1, e2, hq | hq, he, q⟩ := h
  · exact ix_list value slice pins s σ H x y v u Q I rx ry ⟨p, xs, i, z, e1, e2, hq, he, q⟩ hs
  · exact ix_tup value slice pins s σ H x y v u Q I rx ry ⟨p, xs, i, z, e1, e2, hq, he, q⟩ hs
end
theorem sq_same {K : PySem.W.Frag} {H H' : Hp} {a : Addr} {xs : List V} (e : Same H H') (h : SqL K H a xs ∨ SqT K H a xs) : SqL K H' a xs ∨ SqT K H' a xs := by
  rcases h with h | h
  · exact .inl (e.seq h)
  · exact .inr (same_t e h)
/-! ### the refusals' own making -/
abbrev s_init : Stmt := inClass (top 2) 0
abbrev N_init : List Str := ["self", "what"]
theorem sc_init : FnScope N_init N_init (defScope s_init) := ⟨rfl, rfl, rfl, by decide +kernel, rfl, by decide +kernel, by decide +kernel⟩
def spInit (K : PySem.W.Frag) : Sp := fun vs H Q _ => ∃ (a C : Addr) (v : V), vs = [.ref a, v] ∧ OexC K C ∧ PySem.W.findIn K (.ref C) "what" = some none ∧ H a = some (exo a C none) ∧
  ∀ dx, H dx = none → dx ≠ a → Q .non (upd (upd H dx (exd dx [(("what" : Str), v)])) a (exo a C (some dx)))
section
variable {P : Program} {w : World} {K : PySem.W.Frag} {mg : Str → Option Value} {base : Heap}
theorem ok_init {f : Addr} {fd : FuncData} {k : Nat} (F : Fun K "__init__" "TurnError.__init__" s_init f fd) : FnOk P w K mg base CX0 (k + 1) f fd N_init (spInit K) := by
  refine F.ok sc_init (fun vs H Q E h => ?_) (fun cdv A outer s H vs Q E hr h => ?_)
  · obtain ⟨a, C, v, rfl, _⟩ := h
    rfl
  · obtain ⟨a, C, v, rfl, T, nw, ha, q⟩ := h
    refine ⟨_, pss_one (ps_ost (pv 0) (pv 1)), ?_⟩
    exact ⟨_, rfl, _, rfl, a, C, rfl, T, nw, .inl ⟨ha, q⟩⟩
end
/-- C(v), made to be raised -/
theorem mk_what {K : PySem.W.Frag} {C : Addr} {v : V} {Q : XK} {H1 : Hp} (E : ExK K C) (h : ∀ d H', H1 d = none → Same H1 H' → H' d = some (.xd [(("what" : Str), v)]) → Q (.ref C) (some d) H') : ∀ a, H1 a = none → spInit K (.ref a :: ([v] ++ [])) (upd H1 a (exo a C none))
    (fun v' H2 => v' = .non ∧ ∃ (d : Addr) (fs : List (Str × V)), H2 a = some (exo a C (some d)) ∧ H2 d = some (exd d fs) ∧ H1 d = none ∧ Q (.ref C) (some d) (upd (del H2 a) d (.xd fs))) (fun _ _ _ => False) := by
  intro a ha
  refine ⟨a, C, v, rfl, E.oex, E.nw, upd_same, fun dx hd ne => ?_⟩
  rw [upd_ne ne] at hd
  refine ⟨rfl, dx, _, upd_same, ?_, hd, h dx _ hd (fun b o e => ?_) upd_same⟩
  · rw [upd_ne ne, upd_same]
  · have n1 := ne_of_none e hd
    have n2 := ne_of_none e ha
    rw [upd_ne n1, del_ne n2, upd_ne n2, upd_ne n1, upd_ne n2]
    exact e
/-- what is told of the class of a refusal, under TurnError at CT -/
structure Ref (K : PySem.W.Frag) (CT C fI : Addr) : Prop where
  ek : ExK K C
  ini : PySem.W.findIn K (.ref C) "__init__" = some (some (.ref fI))
  em : PySem.W.exmOne K (.ref C) (.ref CT) = some true
  kv : PySem.W.kitOne K (.ref C) (.type "ValueError") = some true
  kt : PySem.W.kitOne K (.ref C) (.ref CT) = some true
abbrev s_is_whole : Stmt := top 5
abbrev N_is_whole : List Str := ["thing"]
abbrev P_is_whole : List Str := ["thing"]
theorem sc_is_whole : FnScope N_is_whole P_is_whole (defScope s_is_whole) := ⟨rfl, rfl, rfl, by decide +kernel, rfl, by decide +kernel, by decide +kernel⟩
def spWhole (K : PySem.W.Frag) : Sp := fun vs H Q _ => ∃ (x : V) (t : String), vs = [x] ∧ Kd K H x t ∧ Q (.bl (t == "int")) H
section
variable {P : Program} {w : World} {K : PySem.W.Frag} {mg : Str → Option Value} {base : Heap}
theorem ok_whole {f : Addr} {fd : FuncData} {k : Nat} (F : Fun K "is_whole" "is_whole" s_is_whole f fd) (T : Blt mg) : FnOk P w K mg base CX0 (k + 1) f fd P_is_whole (spWhole K) := by
  have nd := sc_is_whole.nd
  refine F.ok sc_is_whole (fun vs H Q E h => ?_) (fun cdv A outer s H vs Q E hr h => ?_)
  · obtain ⟨x, t, rfl, _⟩ := h
    rfl
  · obtain ⟨x, t, rfl, kd, q⟩ := h
    refine ⟨_, (pss_one (ps_ret (pe_and (pe_callB (r := rIsi K) call_isi (by rfl) T.b_isinstance (by decide +kernel) (pa_cons (pv 0) (pa_cons (pe_bltn (v := .ty "int") (by rfl) T.b_int (by decide +kernel) rfl) pa_nil))) (pe_one (pe_not (pe_callB (r := rIsi K) call_isi (by rfl) T.b_isinstance (by decide +kernel) (pa_cons (pv 0) (pa_cons (pe_bltn (v := .ty "bool") (by rfl) T.b_bool (by decide +kernel) rfl) pa_nil)))))))), ?_⟩
    have ty := kd.ty
    obtain ⟨k1, k2, k3, k4, k5⟩ := kd.kit
    walk_at "ev"
    cases kd
    all_goals (walk_at "ev"; exact q)
end
abbrev s_is_prime : Stmt := top 6
abbrev N_is_prime : List Str := ["thing"]
abbrev P_is_prime : List Str := ["thing"]
theorem sc_is_prime : FnScope N_is_prime P_is_prime (defScope s_is_prime) := ⟨rfl, rfl, rfl, by decide +kernel, rfl, by decide +kernel, by decide +kernel⟩
def spPrime (K : PySem.W.Frag) : Sp := fun vs H Q _ => ∃ (x : V) (t : String), vs = [x] ∧ Kd K H x t ∧ (∀ n, x = .int n → n ≤ 1000000000) ∧ ∀ b H', Same H H' → (b = true ↔ ∃ n, x = .int n ∧ Fac n [n]) → Q (.bl b) H'
section
variable {P : Program} {w : World} {K : PySem.W.Frag} {mg : Str → Option Value} {base : Heap}
theorem ok_prime {f fW fF : Addr} {fd fdW fdF : FuncData} {k : Nat} (F : Fun K "is_prime" "is_prime" s_is_prime f fd) (T : Blt mg) (D_is_whole : Df K mg "is_whole" s_is_whole P_is_whole fW fdW) (D_factors : Df K mg "factors" s_factors P_factors fF fdF) : FnOk P w K mg base CX0 (k + 2) f fd P_is_prime (spPrime K) := by
  have G_is_whole : FnOk P w K mg base CX0 (k + 1) fW fdW P_is_whole (spWhole K) := ok_whole D_is_whole.F T
  have G_factors : FnOk P w K mg base CX0 (k + 1) fF fdF P_factors spFactors := ok_factors D_factors.F
  have nd := sc_is_prime.nd
  refine F.ok sc_is_prime (fun vs H Q E h => ?_) (fun cdv A outer s H vs Q E hr h => ?_)
  · obtain ⟨x, t, rfl, _⟩ := h
    rfl
  · obtain ⟨x, t, rfl, kd, hb, q⟩ := h
    refine ⟨_, (pss_one (ps_ret (pe_and (pe_call G_is_whole (hr.mono (by omega)) (by rfl) D_is_whole.g D_is_whole.F.kp D_is_whole.b .nil pass0 (pa_cons (pv 0) pa_nil)) (pe_and (pe_cmpR op_gt (pv 0) (pe_int) (nomark _)) (pe_one (pe_cmpR (r := rEqD K) (op_eqD hr.units) (pe_call G_factors (hr.mono (by omega)) (by rfl) D_factors.g D_factors.F.kp D_factors.b .nil pass0 (pa_cons (pv 0) pa_nil)) (pe_lst (pa_cons (pv 0) pa_nil)) (nomark _))))))), ?_⟩
    walk_at "ev"
    cases kd with
    | int n =>
      have hn := hb n rfl
      walk_at "ev"
      refine ite2 (fun e => ?_) (fun e => ?_)
      · have e1 : 1 < n := of_decide_eq_true e
        walk_at "ev"
        intro xs p H' hf hp sm hp'
        walk_at "ev"
        intro p2 hp2
        generalize hG : upd _ p2 _ = H2
        obtain ⟨sm2, hp3⟩ := newO hG hp2
        refine eqd_ints (ns := xs) (ms := [n]) (SqL.of (sm2 _ _ hp')) (SqL.of hp3) ?_
        refine q _ _ (sm.trans sm2) ?_
        rw [decide_eq_true_iff]
        constructor
        · intro z
          exact ⟨n, rfl, z ▸ hf⟩
        · rintro ⟨m, z, hm⟩
          cases z
          exact hf.uniq hm
      · have e1 : ¬ 1 < n := fun z => e (decide_eq_true z)
        refine q _ _ (Same.refl _) ⟨fun z => Bool.noConfusion z, ?_⟩
        rintro ⟨m, z, hm⟩
        cases z
        have := (Rough.of_fac hm).1
        omega
    | _ =>
      walk_at "ev"
      refine q _ _ (Same.refl _) ⟨fun z => Bool.noConfusion z, ?_⟩
      rintro ⟨m, z, hm⟩
      cases z
end
abbrev s__law_pick : Stmt := top 28
abbrev N__law_pick : List Str := ["_law_box_here", "_law_things"]
abbrev P__law_pick : List Str := ["_law_box_here", "_law_things"]
theorem sc__law_pick : FnScope N__law_pick P__law_pick (defScope s__law_pick) := ⟨rfl, rfl, rfl, by decide +kernel, rfl, by decide +kernel, by decide +kernel⟩
def spPick (K : PySem.W.Frag) : Sp := fun vs H Q _ => ∃ (b a : Addr) (xs : List V) (n : Int), vs = [.ref b, .ref a] ∧ BoxAt H b n ∧ SqL K H a xs ∧ a ≠ b ∧ 0 < (xs.length : Int) ∧ (xs.length : Int) < 1048576 ∧ n < 1048576 ∧ ∀ v H', v ∈ xs → Keep b H H' → BoxAt H' b (n + 1) → Q v H'
section
variable {P : Program} {w : World} {K : PySem.W.Frag} {mg : Str → Option Value} {base : Heap}
theorem ok_pick {f fT : Addr} {fd fdT : FuncData} {k : Nat} (F : Fun K "_law_pick" "_law_pick" s__law_pick f fd) (T : Blt mg) (D__law_take : Df K mg "_law_take" s__law_take P__law_take fT fdT) : FnOk P w K mg base CX0 (k + 2) f fd P__law_pick (spPick K) := by
  have G__law_take : FnOk P w K mg base CX0 (k + 1) fT fdT P__law_take spTake := ok_take D__law_take.F
  have nd := sc__law_pick.nd
  refine F.ok sc__law_pick (fun vs H Q E h => ?_) (fun cdv A outer s H vs Q E hr h => ?_)
  · obtain ⟨b, a, xs, n, rfl, _⟩ := h
    rfl
  · obtain ⟨b, a, xs, n, rfl, hb, hL, hne, h0, h1, hn, q⟩ := h
    refine ⟨_, (pss_one (ps_ret (pe_ix (r := rIxL K) ix_list (pv 1) (pe_call G__law_take (hr.mono (by omega)) (by rfl) D__law_take.g D__law_take.F.kp D__law_take.b .nil pass0 (pa_cons (pv 0) (pa_cons (pe_callB (r := rLenQ K) call_len_seq (by rfl) T.b_len (by decide +kernel) (pa_cons (pv 1) pa_nil)) pa_nil))) (fun _ _ => rfl)))), ?_⟩
    walk_at "ev"
    intro r H' hr0 hr1 hk hb'
    obtain ⟨v, hv, hat⟩ := at_some hr0 hr1
    have hL' := hk.seq hne hL
    walk_at "ev"
    exact q _ _ hv hk hb'
end
theorem keep_fresh {b D : Addr} {H H' : Hp} {o : HO} (h : Keep b H H') (n : H D = none) : Keep b H (upd H' D o) := fun a u na e => by
  rw [upd_ne (ne_of_none e n)]
  exact h a u na e
theorem BoxAt.upd {H : Hp} {b D : Addr} {n : Int} {o : HO} (h : BoxAt H b n) (e : D ≠ b) : BoxAt (L2.upd H D o) b n := by
  obtain ⟨x, y, z, a1, a2⟩ := h
  exact ⟨x, y, z, by rw [upd_ne e.symm]; exact a1, a2⟩
theorem dpl {K : PySem.W.Frag} {H : Hp} {a : Addr} (ns : List Int) (h : SqL K H a (ns.map V.int)) : Dp K H (.ref a) (.list (ns.map PyData.int)) := .lst h (dp_ints ns)
theorem fitl (ns : List Int) (h : ns.length ≤ 4000) : Fit 1 (.list (ns.map PyData.int)) := by
  refine ⟨by rw [List.length_map]; exact h, fun e he => ?_⟩
  obtain ⟨c, _, rfl⟩ := List.mem_map.mp he
  exact True.intro
theorem fit_ni {x : Str} {a : Int} : Fit 1 (.tuple [.str x, .int a]) := by
  refine ⟨by simp, fun e he => ?_⟩
  simp only [List.mem_cons, List.not_mem_nil, or_false] at he
  rcases he with h | h <;> rw [h] <;> exact True.intro
/-! ### a loop over enumerate -/
theorem for_enumL {K : PySem.W.Frag} {a : Addr} {xs : List V} {g : TG} {tb : TS} {D : Ends} {σ : L2.St} {H : Hp} (Pv : Nat → L2.St → Hp → Prop) (h0 : Pv 0 σ H) (hq : ∀ i σ H, Pv i σ H → SqL K H a xs)
    (hs : ∀ (i : Nat) (x : V) (T : Addr) (σ : L2.St) (H : Hp), xs[i]? = some x → Pv i σ H → H T = none → g (.ref T) σ (upd H T (.tup [.int (i : Nat), x])) fun σ2 H2 => tb { D with nx := Pv (i + 1), ct := Pv (i + 1), bk := D.nx } σ2 H2) (hd : ∀ σ H, Pv xs.length σ H → D.nx σ H) :
    ∃ W : Nat → Nat → L2.St → Hp → Prop, (∃ m, W 0 m σ H) ∧ ∀ i m σ H, W i m σ H →
      ((Ite K a).stop i H ∧ D.nx σ H) ∨ ((Ite K a).go i H ∧ ∃ N : L2.St → Hp → Prop, (∀ σ' H', N σ' H' → ∃ m', m' < m ∧ W (i + 1) m' σ' H') ∧ ∀ v H', (Ite K a).yld i H v H' → g v σ H' fun σ2 H2 => tb { D with nx := N, ct := N, bk := D.nx } σ2 H2) := by
  refine ⟨fun i m σ H => m = xs.length - i ∧ i ≤ xs.length ∧ Pv i σ H, ⟨xs.length, rfl, Nat.zero_le _, h0⟩, ?_⟩
  rintro i m σ H ⟨rfl, hi, p⟩
  have q := hq i σ H p
  by_cases hlt : i < xs.length
  · refine .inr ⟨⟨xs, xs[i], q, List.getElem?_eq_getElem hlt⟩, Pv (i + 1), fun σ' H' p' => ⟨xs.length - (i + 1), by omega, rfl, hlt, p'⟩, fun v H' y => ?_⟩
    obtain ⟨T, x', rfl, hT, rfl, f1⟩ := y
    exact hs i x' T σ H (f1 xs q) p hT
  · have e : i = xs.length := by omega
    subst e
    exact .inl ⟨⟨xs, q, Nat.le_refl _⟩, hd σ H p⟩
/-! ### enumerate of a tuple -/
section
open PySem.Spec PyProof.Rows
abbrev tIt (t : Addr) : Obj := { cls := .type "tuple_iterator", data := .fields #[.ref t, .int 0 0] }
abbrev tEn (i : Addr) : Obj := { cls := .type "enumerate", data := .fields #[.none, .bool false, .ref i, rawInt 0, .none, .none] }
theorem meets_enumT (l : Addr) (items : Array Value) (n : Nat) (dct : Option Addr) (sl : Array (Option Value)) :
    Meets (Builtin.«enumerate.__new__» ⟨[.type "enumerate", .ref l], []⟩) (fun _ R s => s.heap.get? l = some { cls := .type "tuple", dict := dct, data := .seq items n, slots := sl } ∧
      R (.ok (.ret (.ref (s.heap.push (tIt l)).objs.size))) { s with heap := (s.heap.push (tIt l)).push (tEn s.heap.objs.size) }) :=
  .of_wp fun prog w A R s h => by
    obtain ⟨hp, g, d, tk, os⟩ := s
    obtain ⟨hl, h⟩ := h
    have hsub := sub_enumerate
    have hT : Heap.IsTuple (Shared.heap ⟨hp, g, d, tk, os⟩) l items := ⟨_, hl, rfl, n, rfl⟩
    have q1 : ∀ {A' : Around} {E : Value → Shared → Prop} {Q : Value → Shared → Prop}, Q (.ref hp.objs.size) ⟨hp.push (tIt l), g, d, tk, os⟩ → wpAny (model prog w) A' (pyIter (.ref l)) Q E ⟨hp, g, d, tk, os⟩ := fun q => wpAny_pyIter_tuple hT q
    wp_walk using AutoSeq1.wpAny_loadPart' hl
    refine wpAny_stack_any fun st => wpAny_pure ?_
    split
    · rename_i c _ _ _ _ _
      cases (c == Value.type "enumerate")
      · wp_walk using AutoSeq1.wpAny_loadPart' hl, q1
        exact ⟨_, rfl, h⟩
      · wp_walk using AutoSeq1.wpAny_loadPart' hl, q1
        exact ⟨_, rfl, h⟩
    · wp_walk using AutoSeq1.wpAny_loadPart' hl, q1
      exact ⟨_, rfl, h⟩
theorem call_enumT {prog : Program} {w : World} {A : Around} {E : Value → Shared → Prop} {s : Shared} {l : Addr} {items : Array Value} {Q : Value → Shared → Prop} (hL : s.heap.IsTuple l items)
    (h : ∀ h', IsEnum h' (s.heap.objs.size + 1) s.heap.objs.size 0 .none → h'.IsTupleIter s.heap.objs.size l 0 → (∀ b o, s.heap.get? b = some o → h'.get? b = some o) → Q (.ref (s.heap.objs.size + 1)) { s with heap := h' }) :
    wpAny (model prog w) A (call (.type "enumerate") [.ref l]) Q E s := by
  obtain ⟨⟨c, dct, dt, sl⟩, hl, hc, n, hd⟩ := hL
  replace hc : c = .type "tuple" := hc
  replace hd : dt = .seq items n := hd
  subst hc hd
  refine callType_new F.called_enumerate (by decide) (F.typeCall_enumerate_1 _) (F.newCall_enumerate_1 _) (fun obj => F.args_object_init_2 obj _) F.entry_enumerate_new (meets_enumT l items n dct sl) ⟨hl, ?_⟩
  have hz : (s.heap.push (tIt l)).objs.size = s.heap.objs.size + 1 := Heap.size_push ..
  show _ ∧ _
  rw [hz]
  have he : IsEnum ((s.heap.push (tIt l)).push (tEn s.heap.objs.size)) (s.heap.objs.size + 1) s.heap.objs.size 0 .none := by
    have k := Heap.get?_push_size (s.heap.push (tIt l)) (o := tEn s.heap.objs.size) rfl
    rw [hz] at k
    exact k
  exact ⟨⟨_, he, rfl⟩, h _ he ⟨_, Heap.get?_push_of_some _ (Heap.get?_push_size _ rfl), rfl, rfl⟩ fun b o x => Heap.get?_push_of_some _ (Heap.get?_push_of_some _ x)⟩
/-- the tuple at a, each item in a new pair -/
def IteT (K : PySem.W.Frag) (a : Addr) : It :=
  ⟨fun i H => ∃ (xs : List V) (x : V), SqT K H a xs ∧ xs[i]? = some x, fun i H v H' => ∃ T x, v = .ref T ∧ H T = none ∧ H' = upd H T (.tup [.int (i : Nat), x]) ∧ ∀ xs, SqT K H a xs → xs[i]? = some x, fun i H => ∃ xs : List V, SqT K H a xs ∧ xs.length = i⟩
theorem turn_enumT {P : Program} {w : World} {K : PySem.W.Frag} {elts : List Expr} {kk : Nat} {tpos : Pos} (a e it : Addr) :
    Turn P w K (.Tuple elts kk tpos) (IteT K a) [e, it] e (fun i h => (∃ old, IsEnum h e it ((i : Nat) : Int) old) ∧ h.IsTupleIter it a i ∧ e ≠ it ∧ a ≠ it ∧ a ≠ e) where
  mem := by simp
  obj := fun i h st b hb => by
    obtain ⟨⟨old, he⟩, ⟨o, ho, hc, hd⟩, _⟩ := st
    have z : b = e ∨ b = it := by simpa using hb
    rcases z with z | z
    · rw [z]
      exact ⟨_, he, fun v q => nomatch q⟩
    · rw [z]
      exact ⟨o, ho, fun v q => by rw [hd] at q; cases q⟩
  keep := fun i h h' st k => by
    obtain ⟨⟨old, he⟩, hi, hne⟩ := st
    exact ⟨⟨old, k e (by simp) _ he⟩, hi.at fun o q => k it (by simp) o q, hne⟩
  item := by
    intro X hP hw hK hc i pins s σ H E I hf st hg
    subst hP hw hK
    obtain ⟨⟨old, he⟩, hit, hne, hna, hnb⟩ := st
    obtain ⟨xs, x, hq, hx⟩ := hg
    obtain ⟨its, rv, p, hz⟩ := I.tuple hq
    obtain ⟨u, hu, ru⟩ := rv.get hx
    have hel : e < s.heap.objs.size := Heap.lt_size he
    have hil : it < s.heap.objs.size := by
      obtain ⟨_, q, _⟩ := hit
      exact Heap.lt_size q
    have hlt : i < its.toArray.size := by
      rw [List.size_toArray]
      exact (List.getElem?_eq_some_iff.mp hu).1
    have dr : Draws X.prog X.w X.A.in1 it [it, a] its.toArray.size (fun i v => its.toArray[i]? = some v) (fun i h => h.IsTupleIter it a i ∧ h.IsTuple a its.toArray) := Draws.tuple (A := X.A.in1) (I.ok.hd hc) it a hna its.toArray
    refine wpAny_pyNext_enum_itemD dr he ⟨hit, p⟩ hlt hne (by simp [hne, hnb.symm]) fun y h' tk hy ho hst hT hsz hk => ?_
    have ey : y = u := by
      have h1 : its.toArray[i]? = some u := by simpa using hu
      rw [h1] at hy
      exact (Option.some.inj hy).symm
    subst ey
    refine ⟨_, rfl, wpAny_letOwnedTupleGo_enum (s := { s with heap := h', toks := tk + 1 }) ho fun h'' he' sb => ?_⟩
    have hT2 := (sb.2 _ (Nat.ne_of_gt hel)).trans hT
    have new : ObjOk X.prog X.w (upd H s.heap.objs.size (.tup [.int (i : Nat), x])) h'' s.heap.objs.size (.tup [.int (i : Nat), x]) := ⟨by show 2 ≤ sizeLine; decide, [.int i tk, y], .cons ⟨_, rfl⟩ (.cons ru .nil), ⟨_, hT2, rfl, _, rfl⟩⟩
    have I1 : Inv X pins σ (upd H s.heap.objs.size (.tup [.int (i : Nat), x])) { s with heap := h'', toks := tk + 1 } :=
      I.turnedNew (ch := [e, it]) (fun b ob hb q => (sb.2 b (fun z => hb (by simp [z]))).trans (hk b ob (fun z => hb (by simp [z])) (fun z => hb (by simp [z])) q)) hf (Nat.le_refl _) new
    refine ⟨.ref s.heap.objs.size, _, I1, rfl, ⟨_, x, rfl, I.hok.fresh (Nat.le_refl _), rfl, fun ys hy => by rw [I.tuple_inj hy hq]; exact hx⟩, ⟨⟨y, ?_⟩, hst.1.at fun o q => (sb.2 it hne.symm).trans q, hne, hna, hnb⟩, fun b hb => ?_⟩
    · rw [show ((i + 1 : Nat) : Int) = (i : Int) + 1 by omega]
      exact he'
    · have hb' : b < s.heap.objs.size := by
        have z : b = e ∨ b = it := by simpa using hb
        rcases z with z | z <;> rw [z]
        · exact hel
        · exact hil
      rw [upd_ne (Nat.ne_of_lt hb')]
      exact (hf b hb).1
  done := by
    intro X hP hw hK hc i pins s σ H E I hf st hg
    subst hP hw hK
    obtain ⟨⟨old, he⟩, hit, hne, hna, hnb⟩ := st
    obtain ⟨xs, hq, hx⟩ := hg
    obtain ⟨its, rv, p, hz⟩ := I.tuple hq
    obtain ⟨f0, f1, f2, f3, f4, f5⟩ := hf it (by simp)
    have hl : its.toArray.size = i := by
      rw [List.size_toArray, ← rv.length]
      exact hx
    have dr : Draws X.prog X.w X.A.in1 it [it, a] its.toArray.size (fun i v => its.toArray[i]? = some v) (fun i h => h.IsTupleIter it a i ∧ h.IsTuple a its.toArray) := Draws.tuple (A := X.A.in1) (I.ok.hd hc) it a hna its.toArray
    exact wpAny_pyNext_enum_endD dr he (by rw [hl]; exact ⟨hit, p⟩) fun h' eb => ⟨rfl, I.turned (t' := s.toks) (fun b o hb q => eb b o hb q) f0 f1 f3 f4 f5⟩
  self := fun A i s Q E st h => by
    obtain ⟨⟨_, he⟩, _⟩ := st
    exact wpAny_pyIter_enum he h
def iEnumT (K : PySem.W.Frag) (ta : TA) : TI := fun σ H R => ta σ H fun vs H1 => ∃ a xs, vs = [.ref a] ∧ SqT K H1 a xs ∧ R (IteT K a) H1
theorem pi_enumT {X : Cx} {e : Expr} {ta : TA} {p pos tpos : Pos} {elts : List Expr} {kk : Nat} (hg : Gl X "enumerate") (hm : X.mg "enumerate" = none) (ha : PA X [e] ta) (hs : starEach [e] X.env = [(false, eval e X.env)] := by rfl) :
    PI X (.Tuple elts kk tpos) (.Call (.Name "enumerate" p) [e] [] pos) (iEnumT X.K ta) := by
  refine ⟨fun pins s σ H R I h => ?_⟩
  refine Call_ (ld_blt I hg hm boot_enumerate (PyProof.Rows.callWith_type1 (thn (ha.run pos pins s σ H _ I h) fun us s1 ⟨vs, H1, I1, r1, q1⟩ => ?_) hs rfl))
  obtain ⟨a, xs, ex, hq, q⟩ := q1
  subst ex
  obtain ⟨u, rfl, ru⟩ := r1.one
  cases ru
  obtain ⟨its, rv, p', hz⟩ := I1.tuple hq
  have hal : a < s1.heap.objs.size := by
    obtain ⟨o, ho, _⟩ := p'
    exact Heap.lt_size ho
  refine call_enumT p' fun h' he hit hk => wpAny_pyIter_enum he ?_
  have I2 : Inv X pins σ H1 { s1 with heap := h' } := I1.kept (t' := s1.toks) hk
  refine ⟨s1.heap.objs.size + 1, [s1.heap.objs.size + 1, s1.heap.objs.size], _, _, H1, rfl, I2, turn_enumT a (s1.heap.objs.size + 1) s1.heap.objs.size, ⟨⟨.none, he⟩, hit, Nat.succ_ne_self _, Nat.ne_of_lt hal, Nat.ne_of_lt (Nat.lt_succ_of_lt hal)⟩, fun b hb => ?_, q⟩
  have hle : s1.heap.objs.size ≤ b := by
    have z : b = s1.heap.objs.size + 1 ∨ b = s1.heap.objs.size := by simpa using hb
    rcases z with z | z <;> rw [z]
    · exact Nat.le_add_right _ _
    · exact Nat.le_refl _
  exact I1.fpOk hle (I1.hok.fresh hle)
end
theorem for_enumT {K : PySem.W.Frag} {a : Addr} {xs : List V} {g : TG} {tb : TS} {D : Ends} {σ : L2.St} {H : Hp} (Pv : Nat → L2.St → Hp → Prop) (h0 : Pv 0 σ H) (hq : ∀ i σ H, Pv i σ H → SqT K H a xs)
    (hs : ∀ (i : Nat) (x : V) (T : Addr) (σ : L2.St) (H : Hp), xs[i]? = some x → Pv i σ H → H T = none → g (.ref T) σ (upd H T (.tup [.int (i : Nat), x])) fun σ2 H2 => tb { D with nx := Pv (i + 1), ct := Pv (i + 1), bk := D.nx } σ2 H2) (hd : ∀ σ H, Pv xs.length σ H → D.nx σ H) :
    ∃ W : Nat → Nat → L2.St → Hp → Prop, (∃ m, W 0 m σ H) ∧ ∀ i m σ H, W i m σ H →
      ((IteT K a).stop i H ∧ D.nx σ H) ∨ ((IteT K a).go i H ∧ ∃ N : L2.St → Hp → Prop, (∀ σ' H', N σ' H' → ∃ m', m' < m ∧ W (i + 1) m' σ' H') ∧ ∀ v H', (IteT K a).yld i H v H' → g v σ H' fun σ2 H2 => tb { D with nx := N, ct := N, bk := D.nx } σ2 H2) := by
  refine ⟨fun i m σ H => m = xs.length - i ∧ i ≤ xs.length ∧ Pv i σ H, ⟨xs.length, rfl, Nat.zero_le _, h0⟩, ?_⟩
  rintro i m σ H ⟨rfl, hi, p⟩
  have q := hq i σ H p
  by_cases hlt : i < xs.length
  · refine .inr ⟨⟨xs, xs[i], q, List.getElem?_eq_getElem hlt⟩, Pv (i + 1), fun σ' H' p' => ⟨xs.length - (i + 1), by omega, rfl, hlt, p'⟩, fun v H' y => ?_⟩
    obtain ⟨T, x', rfl, hT, rfl, f1⟩ := y
    exact hs i x' T σ H (f1 xs q) p hT
  · have e : i = xs.length := by omega
    subst e
    exact .inl ⟨⟨xs, q, rfl⟩, hd σ H p⟩
theorem ned_ints {K : PySem.W.Frag} {H : Hp} {a b : Addr} {ns ms : List Int} {Q : VK} (ha : SqL K H a (ns.map V.int)) (hb : SqL K H b (ms.map V.int)) (q : Q (.bl (!decide (ns = ms))) H) : rNeD K (.ref a) (.ref b) H Q := by
  refine ⟨_, _, .lst ha (dp_ints ns), .lst hb (dp_ints ms), PySem.W.ke_shaped_ints ns, PySem.W.ke_shaped_ints ms, ?_⟩
  have e : PyData.eqv (.list (ns.map PyData.int)) (.list (ms.map PyData.int)) = decide (ns = ms) := by
    rw [PyData.eqv]
    exact eqv_ints ns ms
  rw [e]
  exact q
/-! ### long division of rows, as the program walks it -/
def subAt (start : Nat) (top : Int) (bs : List Int) (r : List Int) : Nat → List Int
  | 0 => r
  | i + 1 => (subAt start top bs r i).set (start + i) ((subAt start top bs r i).getD (start + i) 0 - top * bs.getD i 0)
theorem subAt_len {start : Nat} {top : Int} {bs r : List Int} {i : Nat} : (subAt start top bs r i).length = r.length := by
  induction i with
  | zero => rfl
  | succ i ih => rw [subAt, List.length_set, ih]
def dvS (bs : List Int) (x : List Int × List Int) : List Int × List Int :=
  (subAt (x.1.length - 1 - (bs.length - 1)) (x.1.getD (x.1.length - 1) 0) bs x.1.dropLast (bs.length - 1), x.2 ++ [x.1.getD (x.1.length - 1) 0])
def dvN (bs : List Int) (row : List Int) : Nat → List Int × List Int
  | 0 => (row, [])
  | n + 1 => dvS bs (dvN bs row n)
theorem dvN_len {bs row : List Int} {n : Nat} : (dvN bs row n).1.length = row.length - n ∧ (dvN bs row n).2.length = n := by
  induction n with
  | zero => exact ⟨rfl, rfl⟩
  | succ n ih =>
    rw [dvN, dvS]
    refine ⟨?_, ?_⟩
    · show (subAt _ _ _ _ _).length = _
      rw [subAt_len, List.length_dropLast, ih.1]
      omega
    · show List.length (_ ++ _) = _
      rw [List.length_append, ih.2]
      rfl
theorem at_nat {xs : List V} {v : V} {i : Int} {j : Nat} (h : xs[j]? = some v) (e : i = (j : Int)) : atI xs i = some v := at_of (j := j) (by omega) (by rw [← h])
theorem at_map {ns : List Int} {i : Int} {j : Nat} (h : j < ns.length) (e : i = (j : Int)) : atI (ns.map V.int) i = some (.int (ns.getD j 0)) := by
  refine at_nat ?_ e
  rw [List.getElem?_map, List.getD_eq_getElem?_getD, List.getElem?_eq_getElem h]
  rfl
theorem ixn_of {n j : Nat} {i : Int} (h : j < n) (e : i = (j : Int)) : ixN n i = some j := by
  subst e
  unfold ixN
  simp [h]
theorem rep_len {n : Nat} {v : V} : (List.replicate n [v]).flatten.length = n := by
  induction n with
  | zero => rfl
  | succ n ih =>
    rw [List.replicate_succ, List.flatten_cons, List.length_append, ih]
    show 1 + n = n + 1
    omega
/-- the share of row by bs -/
def dvQ (bs row : List Int) : List Int := (dvN bs row (row.length - (bs.length - 1))).2.reverse
/-- the rest of row by bs -/
def dvR (bs row : List Int) : List Int := (dvN bs row (row.length - (bs.length - 1))).1 ++ List.replicate (bs.length - 1 - (dvN bs row (row.length - (bs.length - 1))).1.length) 0
theorem rep_flat2 {n : Nat} {v : V} : (List.replicate n [v]).flatten = List.replicate n v := by
  induction n with
  | zero => rfl
  | succ n ih =>
    rw [List.replicate_succ, List.flatten_cons, ih]
    rfl
section
open PySem.Spec PyProof.Rows
variable {P : Program} {w : World} {K : PySem.W.Frag} {mg : Str → Option Value} {base : Heap}
theorem fnsub {CX : CXT} {k : Nat} {f : Addr} {fd : FuncData} {ps : List Str} {sp sp1 : Sp} (G1 : FnOk P w K mg base CX k f fd ps sp1) (h : ∀ vs H Q E, sp vs H Q E → sp1 vs H Q E) : FnOk P w K mg base CX k f fd ps sp :=
  ⟨fun vs H Q E x => G1.len vs H Q E (h vs H Q E x), fun A outer s H args us vs Q E hr e0 hb r x => G1.run A outer s H args us vs Q E hr e0 hb r (h vs H Q E x)⟩
end
abbrev s_divided : Stmt := top 22
abbrev N_divided : List Str := ["row", "by", "degree", "rest", "falling", "top", "start", "at"]
abbrev P_divided : List Str := ["row", "by"]
theorem sc_divided : FnScope N_divided P_divided (defScope s_divided) := ⟨rfl, rfl, rfl, by decide +kernel, rfl, by decide +kernel, by decide +kernel⟩
def spDvd (K : PySem.W.Frag) : Sp := fun vs H Q _ => ∃ (a b : Addr) (row bs : List Int), vs = [.ref a, .ref b] ∧ SqL K H a (row.map V.int) ∧ SqL K H b (bs.map V.int) ∧ 1 ≤ bs.length ∧ bs.length ≤ 1000 ∧ row.length ≤ 1000 ∧ (∀ x ∈ bs, -1000000 ≤ x ∧ x ≤ 1000000) ∧
  ∀ t q z H', H q = none → Same H H' → SqT K H' t [.ref q, .ref z] → H' q = some (.lst ((dvQ bs row).map V.int)) → Q (.ref t) H'
def spDvd2 (K : PySem.W.Frag) : Sp := fun vs H Q _ => ∃ (a b : Addr) (row bs : List Int), vs = [.ref a, .ref b] ∧ SqL K H a (row.map V.int) ∧ (SqL K H b (bs.map V.int) ∨ SqT K H b (bs.map V.int)) ∧ 1 ≤ bs.length ∧ bs.length ≤ 1000 ∧ row.length ≤ 1000 ∧ (∀ x ∈ bs, -1000000 ≤ x ∧ x ≤ 1000000) ∧
  ∀ t q z H', H q = none → Same H H' → SqT K H' t [.ref q, .ref z] → H' q = some (.lst ((dvQ bs row).map V.int)) → H z = none → H' z = some (.lst ((dvR bs row).map V.int)) → Q (.ref t) H'
section
variable {P : Program} {w : World} {K : PySem.W.Frag} {mg : Str → Option Value} {base : Heap}
theorem ok_divided2 {f : Addr} {fd : FuncData} {k : Nat} (F : Fun K "divided" "divided" s_divided f fd) (T : Blt mg) : FnOk P w K mg base CX0 (k + 1) f fd P_divided (spDvd2 K) := by
  have nd := sc_divided.nd
  refine F.ok sc_divided (fun vs H Q E h => ?_) (fun cdv A outer s H vs Q E hr h => ?_)
  · obtain ⟨a, b, row, bs, rfl, _⟩ := h
    rfl
  · obtain ⟨a, b, row, bs, rfl, ha, hb, b1, b2, r1, hbb, q⟩ := h
    refine ⟨_, (pss_cons (ps_set (i := 2) nd rfl (Or.inl rfl) (pe_op op_sub (pe_callB (r := rLenQ K) call_len_seq (by rfl) T.b_len (by decide +kernel) (pa_cons (pv 1) pa_nil)) (pe_int)))
      (pss_cons (ps_set (i := 3) nd rfl (Or.inl rfl) (pe_callTy call_list_of (by rfl) T.b_list (by decide +kernel) (pa_cons (pv 0) pa_nil)))
      (pss_cons (ps_set (i := 4) nd rfl (Or.inl rfl) (pe_lst pa_nil))
      (pss_cons (ps_while PassesOwn.never (pt_cmpR op_gt (pe_callB (r := rLenQ K) call_len_seq (by rfl) T.b_len (by decide +kernel) (pa_cons (pv 3) pa_nil)) (pv 2) (nomark _))
      (pss_cons (ps_set (i := 5) nd rfl (Or.inl rfl) (pe_bm0 PySem.F.plainAttrs_list PySem.F.slot_list_pop PySem.F.type_list_pop mt_pop (pv 3)))
      (pss_cons (ps_expr (pe_bm PySem.F.plainAttrs_list PySem.F.slot_list_append PySem.F.type_list_append mt_append (pv 4) (pa_cons (pv 5) pa_nil)))
      (pss_cons (ps_set (i := 6) nd rfl (Or.inl rfl) (pe_op op_sub (pe_callB (r := rLenQ K) call_len_seq (by rfl) T.b_len (by decide +kernel) (pa_cons (pv 3) pa_nil)) (pv 2)))
      (pss_one (ps_for PassesOwn.never rfl (pi_range1 (by rfl) T.b_range (pa_cons (pv 2) pa_nil)) (pg_name (i := 7) nd rfl (Or.inl rfl))
      (pss_one (ps_augS (pv 3) (pe_op op_add (pv 6) (pv 7)) (get_list (X := _)) (pe_op op_mul (pv 5) (pe_ix (r := rIxQ K) ix_seq (pv 1) (pv 7) (fun _ _ => rfl))) ip_sub set_list))))))))
      (pss_one (ps_ret (pe_tup (pa_cons (pe_revL (pv 4)) (pa_cons (pe_op op_cat (pv 3) (pe_op op_rep (pe_lst (pa_cons (pe_int) pa_nil)) (pe_op op_sub (pv 2) (pe_callB (r := rLenQ K) call_len_seq (by rfl) T.b_len (by decide +kernel) (pa_cons (pv 3) pa_nil))))) pa_nil))))))))), ?_⟩
    walk_at "ev"
    intro l1 hl1
    generalize hG : upd _ l1 _ = H1
    obtain ⟨sm1, hq1⟩ := newO hG hl1
    clear hG
    walk_at "ev"
    intro l2 hl2
    generalize hG : upd _ l2 _ = H2
    obtain ⟨sm2, hq2⟩ := newO hG hl2
    clear hG
    have n12 : l1 ≠ l2 := ne_of_none hq1 hl2
    have f2 : H l2 = none := sm1.free hl2
    walk_at "ev"
    refine ⟨fun m σ H' => ∃ (n : Nat) (s5 s6 s7 : Option V), σ = [some (.ref a), some (.ref b), some (.int (((bs.map V.int).length : Int) - 1)), some (.ref l1), some (.ref l2), s5, s6, s7] ∧ m = row.length - n ∧ n ≤ row.length - (bs.length - 1) ∧ Same H H' ∧ H' l1 = some (.lst ((dvN bs row n).1.map V.int)) ∧ H' l2 = some (.lst ((dvN bs row n).2.map V.int)), ⟨_, 0, none, none, none, rfl, rfl, Nat.zero_le _, sm1.trans sm2, sm2 _ _ hq1, hq2⟩, ?_⟩
    rintro m σ H3 ⟨n, s5, s6, s7, rfl, rfl, hn, sm3, h1, h2⟩
    obtain ⟨e1, e2⟩ := dvN_len (bs := bs) (row := row) (n := n)
    have hL1 := SqL.of (K := K) h1
    walk_at "ev"
    refine ite2 (fun c => ?_) (fun c => ?_)
    · have c1 := of_decide_eq_true c
      simp only [List.length_map, e1] at c1
      refine ⟨_, holdN, ?_⟩
      have hy : ((dvN bs row n).1.map V.int)[((dvN bs row n).1.map V.int).length - 1]? = some (.int ((dvN bs row n).1.getD ((dvN bs row n).1.length - 1) 0)) := by
        rw [List.getElem?_map, List.length_map, List.getD_eq_getElem?_getD, List.getElem?_eq_getElem (by omega)]
        rfl
      have etop : ∃ top, (dvN bs row n).1.getD ((dvN bs row n).1.length - 1) 0 = top := ⟨_, rfl⟩
      obtain ⟨top, htop⟩ := etop
      rw [htop] at hy
      walk_at "ev"
      generalize hG : upd _ l1 _ = H4
      obtain ⟨k4, hq4⟩ := mutO hG
      have sm4 : Same H H4 := by rw [← hG]; exact same_mut sm3 hl1
      clear hG
      have h24 := k4 _ _ n12.symm h2
      have h14 : upd H4 l2 (.lst ((dvN bs row n).2.map V.int ++ [.int top])) l1 = some (.lst ((dvN bs row n).1.map V.int).dropLast) := by
        rw [upd_ne n12]
        exact hq4
      have hL5 := SqL.of (K := K) h14
      walk_at "ev"
      generalize hG : upd H4 l2 _ = H5
      have sm5 : Same H H5 := by rw [← hG]; exact same_mut sm4 f2
      have h25 := (mutO hG).2
      rw [hG] at h14
      clear hG hL5
      have edl : ((dvN bs row n).1.map V.int).dropLast = (dvN bs row n).1.dropLast.map V.int := by
        rw [List.map_dropLast]
      rw [edl] at h14
      refine for_range (lo := 0) (n := (((bs.map V.int).length : Int) - 1).toNat) (fun i σ H' => Hold (∃ s7, σ = [some (.ref a), some (.ref b), some (.int (((bs.map V.int).length : Int) - 1)), some (.ref l1), some (.ref l2), some (.int top), some (.int (((((dvN bs row n).1.map V.int).dropLast).length : Int) - (((bs.map V.int).length : Int) - 1))), s7] ∧ Same H H' ∧ H' l1 = some (.lst ((subAt ((dvN bs row n).1.length - 1 - (bs.length - 1)) top bs (dvN bs row n).1.dropLast i).map V.int)) ∧ H' l2 = some (.lst ((dvN bs row n).2.map V.int ++ [.int top])))) (.mk ⟨_, rfl, sm5, h14, h25⟩) ?_ ?_
      · intro i σ H6 hi hP
        obtain ⟨s7, rfl, sm6, h16, h26⟩ := hP.un
        have hi1 : i < bs.length - 1 := by
          rw [List.length_map] at hi
          omega
        have hb6 := sq_same sm6 hb
        have hL6 := SqL.of (K := K) h16
        have hsl := subAt_len (start := (dvN bs row n).1.length - 1 - (bs.length - 1)) (top := top) (bs := bs) (r := (dvN bs row n).1.dropLast) (i := i)
        rw [List.length_dropLast] at hsl
        have eix : ((((dvN bs row n).1.map V.int).dropLast).length : Int) - (((bs.map V.int).length : Int) - 1) + (0 + (i : Int)) = (((dvN bs row n).1.length - 1 - (bs.length - 1) + i : Nat) : Int) := by
          rw [List.length_dropLast, List.length_map, List.length_map]
          omega
        have hlt : (dvN bs row n).1.length - 1 - (bs.length - 1) + i < (dvN bs row n).1.length - 1 := by omega
        have at1 : atI ((subAt ((dvN bs row n).1.length - 1 - (bs.length - 1)) top bs (dvN bs row n).1.dropLast i).map V.int) (((((dvN bs row n).1.map V.int).dropLast).length : Int) - (((bs.map V.int).length : Int) - 1) + (0 + (i : Int))) = some (.int ((subAt ((dvN bs row n).1.length - 1 - (bs.length - 1)) top bs (dvN bs row n).1.dropLast i).getD ((dvN bs row n).1.length - 1 - (bs.length - 1) + i) 0)) := by
          refine at_nat ?_ eix
          rw [List.getElem?_map, List.getD_eq_getElem?_getD, List.getElem?_eq_getElem (by omega)]
          rfl
        have hix : ixN ((subAt ((dvN bs row n).1.length - 1 - (bs.length - 1)) top bs (dvN bs row n).1.dropLast i).map V.int).length (((((dvN bs row n).1.map V.int).dropLast).length : Int) - (((bs.map V.int).length : Int) - 1) + (0 + (i : Int))) = some ((dvN bs row n).1.length - 1 - (bs.length - 1) + i) := by
          exact ixn_of (by rw [List.length_map]; omega) eix
        have at2 : atI (bs.map V.int) (0 + (i : Int)) = some (.int (bs.getD i 0)) := by
          refine at_nat (j := i) ?_ (by omega)
          rw [List.getElem?_map, List.getD_eq_getElem?_getD, List.getElem?_eq_getElem (by omega)]
          rfl
        have hbi : -1000000 ≤ bs.getD i 0 ∧ bs.getD i 0 ≤ 1000000 := by
          rw [List.getD_eq_getElem?_getD, List.getElem?_eq_getElem (by omega)]
          exact hbb _ (List.getElem_mem _)
        have cm : CMul top (bs.getD i 0) := .inr ⟨by omega, by omega⟩
        walk_at "ev"
        refine .mk ⟨_, rfl, same_mut sm6 hl1, ?_, ?_⟩
        · rw [upd_same, subAt, List.map_set]
        · rw [upd_ne n12.symm]
          exact h26
      · intro σ H6 hP
        obtain ⟨s7, rfl, sm6, h16, h26⟩ := hP.un
        have edg : (((bs.map V.int).length : Int) - 1).toNat = bs.length - 1 := by
          rw [List.length_map]
          omega
        rw [edg] at h16
        refine .mk ⟨row.length - (n + 1), by omega, n + 1, _, _, _, rfl, rfl, by omega, sm6, ?_, ?_⟩
        · rw [h16, dvN, dvS, htop]
        · rw [h26, dvN, dvS, htop]
          show _ = some (HO.lst (List.map _ (_ ++ _)))
          rw [List.map_append]
          rfl
    · have c1 : ¬ _ := fun z => c (decide_eq_true z)
      simp only [List.length_map, e1] at c1
      have hL2 := SqL.of (K := K) h2
      have en : n = row.length - (bs.length - 1) := by omega
      walk_at "ev"
      intro q1 hq
      generalize hG : upd _ q1 _ = H4
      obtain ⟨sm4, hq4⟩ := newO hG hq
      clear hG
      have hL4 := sm4.seq hL1
      walk_at "ev"
      intro l5 hl5
      generalize hG : upd _ l5 _ = H5
      obtain ⟨sm5, hq5⟩ := newO hG hl5
      clear hG
      have hL5 := sm5.seq hL4
      have z1 : ([V.int 0] : List V).length * ((((bs.map V.int).length : Int) - 1) - (((dvN bs row n).1.map V.int).length : Int)).toNat ≤ sizeLine := szl (by rw [List.length_map, List.length_map]; show 1 * _ ≤ 60000; omega)
      have z2 : -(2 ^ 63) ≤ (((bs.map V.int).length : Int) - 1) - (((dvN bs row n).1.map V.int).length : Int) := by rw [List.length_map, List.length_map]; omega
      have z3 : (((bs.map V.int).length : Int) - 1) - (((dvN bs row n).1.map V.int).length : Int) < 2 ^ 63 := by rw [List.length_map, List.length_map]; omega
      walk_at "ev"
      intro l6 hl6
      generalize hG : upd _ l6 _ = H6
      obtain ⟨sm6, hq6⟩ := newO hG hl6
      clear hG
      have h16 := (sm4.trans (sm5.trans sm6)) _ _ h1
      have z4 : ((dvN bs row n).1.map V.int).length + (List.replicate ((((bs.map V.int).length : Int) - 1) - (((dvN bs row n).1.map V.int).length : Int)).toNat [V.int 0]).flatten.length ≤ sizeLine := szl (by
        rw [rep_len, List.length_map, List.length_map]
        show _ ≤ 60000
        omega)
      walk_at "ev"
      intro l7 hl7
      generalize hG : upd _ l7 _ = H7
      obtain ⟨sm7, hq7⟩ := newO hG hl7
      clear hG
      walk_at "ev"
      intro t8 ht8
      generalize hG : upd _ t8 _ = H8
      obtain ⟨sm8, hq8⟩ := newO hG ht8
      clear hG
      have s48 := sm5.trans (sm6.trans (sm7.trans sm8))
      refine q t8 q1 l7 H8 (sm3.free hq) (sm3.trans (sm4.trans s48)) (SqT.of hq8) ?_ ((sm3.trans (sm4.trans (sm5.trans sm6))).free hl7) ?_
      · rw [s48 _ _ hq4, dvQ, ← en, List.map_reverse]
      · rw [sm8 _ _ hq7, dvR, ← en, List.map_append, rep_flat2, List.map_replicate, List.length_map, List.length_map]
        congr 4
        omega
theorem ok_divided {f : Addr} {fd : FuncData} {k : Nat} (F : Fun K "divided" "divided" s_divided f fd) (T : Blt mg) : FnOk P w K mg base CX0 (k + 1) f fd P_divided (spDvd K) :=
  fnsub (ok_divided2 F T) fun vs H Q E ⟨a, b, row, bs, h1, h2, h3, h4, h5, h6, h7, q⟩ => ⟨a, b, row, bs, h1, h2, .inl h3, h4, h5, h6, h7, fun t y z H' e1 e2 e3 e4 _ _ => q t y z H' e1 e2 e3 e4⟩
end
/-! ### wheels to thirty, by a table -/
def WT : List (List Int) := [[], [-1, 1], [1, 1], [1, 1, 1], [1, 0, 1], [1, 1, 1, 1, 1], [1, -1, 1], [1, 1, 1, 1, 1, 1, 1], [1, 0, 0, 0, 1], [1, 0, 0, 1, 0, 0, 1], [1, -1, 1, -1, 1], [1, 1, 1, 1, 1, 1, 1, 1, 1, 1, 1], [1, 0, -1, 0, 1], [1, 1, 1, 1, 1, 1, 1, 1, 1, 1, 1, 1, 1], [1, -1, 1, -1, 1, -1, 1], [1, -1, 0, 1, -1, 1, 0, -1, 1], [1, 0, 0, 0, 0, 0, 0, 0, 1], [1, 1, 1, 1, 1, 1, 1, 1, 1, 1, 1, 1, 1, 1, 1, 1, 1], [1, 0, 0, -1, 0, 0, 1], [1, 1, 1, 1, 1, 1, 1, 1, 1, 1, 1, 1, 1, 1, 1, 1, 1, 1, 1], [1, 0, -1, 0, 1, 0, -1, 0, 1], [1, -1, 0, 1, -1, 0, 1, 0, -1, 1, 0, -1, 1], [1, -1, 1, -1, 1, -1, 1, -1, 1, -1, 1], [1, 1, 1, 1, 1, 1, 1, 1, 1, 1, 1, 1, 1, 1, 1, 1, 1, 1, 1, 1, 1, 1, 1], [1, 0, 0, 0, -1, 0, 0, 0, 1], [1, 0, 0, 0, 0, 1, 0, 0, 0, 0, 1, 0, 0, 0, 0, 1, 0, 0, 0, 0, 1], [1, -1, 1, -1, 1, -1, 1, -1, 1, -1, 1, -1, 1], [1, 0, 0, 0, 0, 0, 0, 0, 0, 1, 0, 0, 0, 0, 0, 0, 0, 0, 1], [1, 0, -1, 0, 1, 0, -1, 0, 1, 0, -1, 0, 1], [1, 1, 1, 1, 1, 1, 1, 1, 1, 1, 1, 1, 1, 1, 1, 1, 1, 1, 1, 1, 1, 1, 1, 1, 1, 1, 1, 1, 1], [1, 1, 0, -1, -1, -1, 0, 1, 1]]
def whl (n : Nat) : List Int := WT.getD n []
def pdv (n : Nat) : List Nat := (List.range' 1 (n - 1)).filter fun d => decide (n % d = 0)
def whS (n : Nat) : List Int := [-1] ++ List.replicate (n - 1) 0 ++ [1]
theorem whl_ok : ∀ n < 31, 1 ≤ n → (pdv n).foldl (fun t d => dvQ (whl d) t) (whS n) = whl n := by decide +kernel
theorem whl_len : ∀ n < 31, 1 ≤ n → 1 ≤ (whl n).length ∧ (whl n).length ≤ 31 := by decide +kernel
theorem whl_bnd : ∀ n < 31, ∀ x ∈ whl n, -1000000 ≤ x ∧ x ≤ 1000000 := by decide +kernel
theorem dvQ_len {bs row : List Int} : (dvQ bs row).length ≤ row.length := by
  unfold dvQ
  rw [List.length_reverse, dvN_len.2]
  omega
theorem pdv_dv {n : Nat} (h : 1 ≤ n) : IsDv (n : Int) ((pdv n ++ [n]).map Int.ofNat) := by
  refine ⟨?_, fun k => ?_⟩
  · rw [List.pairwise_map, List.pairwise_append]
    refine ⟨?_, List.pairwise_singleton _ _, fun x hx y hy => ?_⟩
    · refine (List.Pairwise.filter _ (List.pairwise_lt_range' (s := 1) (n := n - 1))).imp fun {x y} z => ?_
      exact Int.ofNat_lt.mpr z
    · have h1 := (List.mem_filter.mp hx).1
      rw [List.mem_range'_1] at h1
      rw [List.mem_singleton.mp hy]
      exact Int.ofNat_lt.mpr (by omega)
  · rw [List.mem_map]
    constructor
    · rintro ⟨x, hx, rfl⟩
      rcases List.mem_append.mp hx with z | z
      · obtain ⟨h1, h2⟩ := List.mem_filter.mp z
        rw [List.mem_range'_1] at h1
        exact ⟨Int.ofNat_le.mpr h1.1, Int.ofNat_dvd.mpr (Nat.dvd_of_mod_eq_zero (of_decide_eq_true h2))⟩
      · rw [List.mem_singleton.mp z]
        exact ⟨Int.ofNat_le.mpr h, Int.dvd_refl _⟩
    · rintro ⟨h1, h2⟩
      obtain ⟨m, rfl⟩ := Int.eq_ofNat_of_zero_le (show 0 ≤ k by omega)
      have h3 : m ∣ n := Int.ofNat_dvd.mp h2
      have h4 := Nat.le_of_dvd (by omega) h3
      refine ⟨m, List.mem_append.mpr ?_, rfl⟩
      by_cases c : m = n
      · exact .inr (by rw [c]; exact List.mem_singleton.mpr rfl)
      · refine .inl (List.mem_filter.mpr ⟨?_, decide_eq_true (Nat.mod_eq_zero_of_dvd h3)⟩)
        rw [List.mem_range'_1]
        omega
theorem rep_flat {n : Nat} {v : V} : (List.replicate n [v]).flatten = List.replicate n v := by
  induction n with
  | zero => rfl
  | succ n ih =>
    rw [List.replicate_succ, List.flatten_cons, ih]
    rfl
theorem cut_last {xs : List V} {v : V} : cutV (xs ++ [v]) none (some (-1)) = xs := by
  unfold cutV
  have e : HT.sIx (xs ++ [v]).length (xs ++ [v]).length (some (-1)) = xs.length := by
    simp [HT.sIx]
    try omega
  have e0 : HT.sIx (xs ++ [v]).length 0 none = 0 := by simp [HT.sIx]
  rw [e, e0, List.drop_zero, Nat.sub_zero, List.take_left]
abbrev s_wheel : Stmt := top 23
abbrev N_wheel : List Str := ["order", "told", "divisor"]
abbrev P_wheel : List Str := ["order"]
theorem sc_wheel : FnScope N_wheel P_wheel (defScope s_wheel) := ⟨rfl, rfl, rfl, by decide +kernel, rfl, by decide +kernel, by decide +kernel⟩
def spWheel (j : Nat) : Sp := fun vs H Q _ => ∃ (n : Nat), vs = [.int (n : Int)] ∧ 1 ≤ n ∧ n < 31 ∧ n < 2 ^ j ∧ ∀ l H', H l = none → Same H H' → H' l = some (.lst ((whl n).map V.int)) → Q (.ref l) H'
section
variable {P : Program} {w : World} {K : PySem.W.Frag} {mg : Str → Option Value} {base : Heap}
theorem wheel_step {f f1 f2 : Addr} {fd d1 d2 : FuncData} {j : Nat} (D_wheel : Df K mg "wheel" s_wheel P_wheel f fd) (T : Blt mg) (D_divisors : Df K mg "divisors" s_divisors P_divisors f1 d1) (D_divided : Df K mg "divided" s_divided P_divided f2 d2)
    (G_wheel : FnOk P w K mg base CX0 (j + 1) f fd P_wheel (spWheel j)) : FnOk P w K mg base CX0 (j + 2) f fd P_wheel (spWheel (j + 1)) := by
  have F := D_wheel.F
  have G_divisors : FnOk P w K mg base CX0 1 f1 d1 P_divisors spDiv := ok_divisors D_divisors.F T
  have G_divided : FnOk P w K mg base CX0 1 f2 d2 P_divided (spDvd K) := ok_divided D_divided.F T
  have nd := sc_wheel.nd
  refine F.ok sc_wheel (fun vs H Q E h => ?_) (fun cdv A outer s H vs Q E hr h => ?_)
  · obtain ⟨n, rfl, _⟩ := h
    rfl
  · obtain ⟨n, rfl, n1, n31, nj, q⟩ := h
    refine ⟨_, (pss_cons (ps_set (i := 1) nd rfl (Or.inl rfl) (pe_op op_cat (pe_op op_cat (pe_lst (pa_cons (pe_un un_neg (pe_int)) pa_nil)) (pe_op op_rep (pe_lst (pa_cons (pe_int) pa_nil)) (pe_op op_sub (pv 0) (pe_int)))) (pe_lst (pa_cons (pe_int) pa_nil))))
      (pss_cons (ps_for PassesOwn.never rfl (pi_list (pe_slice (r := rSlL K) sl_list (pe_call G_divisors (hr.mono (by omega)) (by rfl) D_divisors.g D_divisors.F.kp D_divisors.b .nil pass0 (pa_cons (pv 0) pa_nil)) po_none (po_some (pe_un un_neg (pe_int))))) (pg_name (i := 2) nd rfl (Or.inl rfl))
      (pss_one (ps_set (i := 1) nd rfl (Or.inl rfl) (pe_ix (r := rIxT K) ix_tup (pe_call G_divided (hr.mono (by omega)) (by rfl) D_divided.g D_divided.F.kp D_divided.b .nil pass0 (pa_cons (pv 1) (pa_cons (pe_call G_wheel (hr.mono (by omega)) (by rfl) D_wheel.g D_wheel.F.kp D_wheel.b .nil pass0 (pa_cons (pv 2) pa_nil)) pa_nil))) (pe_int) (fun _ _ => rfl)))))
      (pss_one (ps_ret (pv 1))))), ?_⟩
    walk_at "ev"
    intro l1 hl1
    generalize hG : upd _ l1 _ = H1
    obtain ⟨sm1, hq1⟩ := newO hG hl1
    clear hG
    walk_at "ev"
    intro l2 hl2
    generalize hG : upd _ l2 _ = H2
    obtain ⟨sm2, hq2⟩ := newO hG hl2
    clear hG
    have z1 : ([V.int 0] : List V).length * ((n : Int) - 1).toNat ≤ sizeLine := szl (by show 1 * _ ≤ 60000; omega)
    walk_at "ev"
    intro l3 hl3
    generalize hG : upd _ l3 _ = H3
    obtain ⟨sm3, hq3⟩ := newO hG hl3
    clear hG
    have h13 := (sm2.trans sm3) _ _ hq1
    have z2 : ([(fun i => V.int (-i)) 1] : List V).length + (List.replicate ((n : Int) - 1).toNat [V.int 0]).flatten.length ≤ sizeLine := szl (by rw [rep_len]; show 1 + _ ≤ 60000; omega)
    walk_at "ev"
    intro l4 hl4
    generalize hG : upd _ l4 _ = H4
    obtain ⟨sm4, hq4⟩ := newO hG hl4
    clear hG
    walk_at "ev"
    intro l5 hl5
    generalize hG : upd _ l5 _ = H5
    obtain ⟨sm5, hq5⟩ := newO hG hl5
    clear hG
    have h45 := sm5 _ _ hq4
    have z3 : ([(fun i => V.int (-i)) 1] ++ (List.replicate ((n : Int) - 1).toNat [V.int 0]).flatten).length + ([V.int 1] : List V).length ≤ sizeLine := szl (by rw [List.length_append, rep_len]; show 1 + _ + 1 ≤ 60000; omega)
    walk_at "ev"
    intro l6 hl6
    generalize hG : upd _ l6 _ = H6
    obtain ⟨sm6, hq6⟩ := newO hG hl6
    clear hG
    have ew : [(fun i => V.int (-i)) 1] ++ (List.replicate ((n : Int) - 1).toNat [V.int 0]).flatten ++ [V.int 1] = (whS n).map V.int := by
      unfold whS
      rw [List.map_append, List.map_append, show ((n : Int) - 1).toNat = n - 1 by omega, List.map_replicate, rep_flat]
      rfl
    rw [ew] at hq6
    have s06 := sm1.trans (sm2.trans (sm3.trans (sm4.trans (sm5.trans sm6))))
    have f6 : H l6 = none := (sm1.trans (sm2.trans (sm3.trans (sm4.trans sm5)))).free hl6
    walk_at "ev"
    intro ds l7 H7 hdv hl7 sm7 hq7
    have eds := hdv.uniq (pdv_dv n1)
    subst eds
    have hL7 := SqL.of (K := K) hq7
    walk_at "ev"
    intro l8 hl8
    generalize hG : upd _ l8 _ = H8
    obtain ⟨sm8, hq8⟩ := newO hG hl8
    clear hG
    have ec : cutV (((pdv n ++ [n]).map Int.ofNat).map V.int) none (some (-1)) = (pdv n).map fun (d : Nat) => V.int (d : Int) := by
      rw [List.map_map, List.map_append]
      exact cut_last
    have hq8' : H8 l8 = some (.lst ((pdv n).map fun (d : Nat) => V.int (d : Int))) := by
      rw [hq8, ← ec]
    clear hq8
    have s08 := s06.trans (sm7.trans sm8)
    have f8 : H l8 = none := (s06.trans sm7).free hl8
    refine ⟨l8, rfl, ⟨_, SqL.of hq8'⟩, ?_⟩
    refine for_list (K := K) (a := l8) (xs := (pdv n).map fun (d : Nat) => V.int (d : Int)) (fun i σ H' => Hold (∃ (lt : Addr) (s2 : Option V), σ = [some (.int (n : Int)), some (.ref lt), s2] ∧ H lt = none ∧ Same H H' ∧ H' l8 = some (.lst ((pdv n).map fun (d : Nat) => V.int (d : Int))) ∧ (((pdv n).take i).foldl (fun t d => dvQ (whl d) t) (whS n)).length ≤ 1000 ∧ H' lt = some (.lst ((((pdv n).take i).foldl (fun t d => dvQ (whl d) t) (whS n)).map V.int)))) (.mk ⟨l6, _, rfl, f6, s08, hq8', ?_, (sm7.trans sm8) _ _ hq6⟩) ?_ ?_ ?_
    · show (whS n).length ≤ 1000
      unfold whS
      rw [List.length_append, List.length_append, List.length_replicate]
      show 1 + (n - 1) + 1 ≤ 1000
      omega
    · intro i σ Hx hi hP
      obtain ⟨lt, s2, rfl, ft, smx, hx8, hlen, hxt⟩ := hP.un
      exact SqL.of hx8
    · intro i v σ Hx hv hP
      obtain ⟨lt, s2, rfl, ft, smx, hx8, hlen, hxt⟩ := hP.un
      rw [List.getElem?_map] at hv
      obtain ⟨d, hd, ev⟩ := Option.map_eq_some_iff.mp hv
      subst ev
      obtain ⟨hd1, hd2⟩ := List.mem_filter.mp (List.mem_of_getElem? hd)
      rw [List.mem_range'_1] at hd1
      have hd3 := of_decide_eq_true hd2
      have hdn : 2 * d ≤ n := by
        obtain ⟨c, hc⟩ := Nat.dvd_of_mod_eq_zero hd3
        have c2 : 2 ≤ c := by
          apply Nat.le_of_not_lt
          intro z
          have : c = 0 ∨ c = 1 := by omega
          rcases this with z | z <;> subst z <;> omega
        have := Nat.mul_le_mul_left d c2
        omega
      have hdj : d < 2 ^ j := by
        rw [Nat.pow_succ] at nj
        omega
      have hd31 : d < 31 := by omega
      have hd0 : 1 ≤ d := hd1.1
      have hLt := SqL.of (K := K) hxt
      obtain ⟨wl1, wl2⟩ := whl_len d hd31 hd0
      have wl3 : (whl d).length ≤ 1000 := by omega
      have wb := whl_bnd d hd31
      walk_at "ev"
      intro lw H9 hlw sm9 hq9
      have hLw := SqL.of (K := K) hq9
      have hLt9 := sm9.seq hLt
      have et : ((pdv n).take (i + 1)).foldl (fun t d => dvQ (whl d) t) (whS n) = dvQ (whl d) (((pdv n).take i).foldl (fun t d => dvQ (whl d) t) (whS n)) := by
        rw [List.take_succ, hd, List.foldl_append]
        rfl
      have el := dvQ_len (bs := whl d) (row := ((pdv n).take i).foldl (fun t d => dvQ (whl d) t) (whS n))
      walk_at "ev"
      intro t10 q10 z10 H10 hq sm10 hT hq10
      have at0 : atI [V.ref q10, V.ref z10] 0 = some (.ref q10) := rfl
      walk_at "ev"
      refine .mk ⟨q10, _, rfl, (smx.trans sm9).free hq, smx.trans (sm9.trans sm10), (sm9.trans sm10) _ _ hx8, ?_, ?_⟩
      · rw [et]
        omega
      · rw [et]
        exact hq10
    · intro σ Hx hP
      obtain ⟨lt, s2, rfl, ft, smx, hx8, hlen, hxt⟩ := hP.un
      rw [List.length_map, List.take_length, whl_ok n n31 n1] at hxt
      walk_at "ev"
      exact q lt Hx ft smx hxt
theorem ok_wheel {f f1 f2 : Addr} {fd d1 d2 : FuncData} (D_wheel : Df K mg "wheel" s_wheel P_wheel f fd) (T : Blt mg) (D_divisors : Df K mg "divisors" s_divisors P_divisors f1 d1) (D_divided : Df K mg "divided" s_divided P_divided f2 d2) : ∀ j : Nat, FnOk P w K mg base CX0 (j + 1) f fd P_wheel (spWheel j)
  | 0 => ⟨fun _ _ _ _ ⟨n, _, h1, _, h2, _⟩ => absurd h2 (by rw [Nat.pow_zero]; omega), fun _ _ _ _ _ _ _ _ _ _ _ _ _ ⟨n, _, h1, _, h2, _⟩ => absurd h2 (by rw [Nat.pow_zero]; omega)⟩
  | j + 1 => wheel_step D_wheel T D_divisors D_divided (ok_wheel D_wheel T D_divisors D_divided j)
end
/-! ### the law's own dividing -/
def ldN (bs row : List Int) : Nat → List Int × List Int
  | 0 => (row, [])
  | n + 1 => (subAt (row.length - bs.length - n) ((ldN bs row n).1.getD (row.length - bs.length - n + bs.length - 1) 0) bs (ldN bs row n).1 bs.length, (ldN bs row n).2 ++ [(ldN bs row n).1.getD (row.length - bs.length - n + bs.length - 1) 0])
theorem ldN_len {bs row : List Int} {n : Nat} : (ldN bs row n).1.length = row.length ∧ (ldN bs row n).2.length = n := by
  induction n with
  | zero => exact ⟨rfl, rfl⟩
  | succ n ih =>
    rw [ldN]
    refine ⟨?_, ?_⟩
    · show (subAt _ _ _ _ _).length = _
      rw [subAt_len, ih.1]
    · show List.length (_ ++ _) = _
      rw [List.length_append, ih.2]
      rfl
def ldQ (bs row : List Int) : List Int := (ldN bs row (row.length + 1 - bs.length)).2.reverse
theorem ldQ_len {bs row : List Int} (h : 1 ≤ bs.length) : (ldQ bs row).length ≤ row.length := by
  unfold ldQ
  rw [List.length_reverse, ldN_len.2]
  omega
abbrev s__law_divided : Stmt := top 34
abbrev N__law_divided : List Str := ["_law_top", "_law_low", "_law_rest", "_law_found", "_law_place", "_law_many", "_law_spot", "_law_number"]
abbrev P__law_divided : List Str := ["_law_top", "_law_low"]
theorem sc__law_divided : FnScope N__law_divided P__law_divided (defScope s__law_divided) := ⟨rfl, rfl, rfl, by decide +kernel, rfl, by decide +kernel, by decide +kernel⟩
def spLdv (K : PySem.W.Frag) : Sp := fun vs H Q _ => ∃ (a b : Addr) (row bs : List Int), vs = [.ref a, .ref b] ∧ SqL K H a (row.map V.int) ∧ SqL K H b (bs.map V.int) ∧ 1 ≤ bs.length ∧ bs.length ≤ 1000 ∧ row.length ≤ 1000 ∧ (∀ x ∈ bs, -1000000 ≤ x ∧ x ≤ 1000000) ∧
  ∀ q H', H q = none → Same H H' → H' q = some (.lst ((ldQ bs row).map V.int)) → Q (.ref q) H'
section
variable {P : Program} {w : World} {K : PySem.W.Frag} {mg : Str → Option Value} {base : Heap}
theorem ok_ldv {f : Addr} {fd : FuncData} {k : Nat} (F : Fun K "_law_divided" "_law_divided" s__law_divided f fd) (T : Blt mg) : FnOk P w K mg base CX0 (k + 1) f fd P__law_divided (spLdv K) := by
  have nd := sc__law_divided.nd
  refine F.ok sc__law_divided (fun vs H Q E h => ?_) (fun cdv A outer s H vs Q E hr h => ?_)
  · obtain ⟨a, b, row, bs, rfl, _⟩ := h
    rfl
  · obtain ⟨a, b, row, bs, rfl, ha, hb, b1, b2, r1, hbb, q⟩ := h
    refine ⟨_, (pss_cons (ps_par (i := 2) (j := 3) (by rfl) nd rfl rfl (by decide) rfl rfl (pa_cons (pe_callTy call_list_of (by rfl) T.b_list (by decide +kernel) (pa_cons (pv 0) pa_nil)) (pa_cons (pe_lst pa_nil) pa_nil)) (by rfl))
      (pss_cons (ps_for PassesOwn.never rfl (pi_range3 (by rfl) T.b_range (pa_cons (pe_op op_sub (pe_callB (r := rLenQ K) call_len_seq (by rfl) T.b_len (by decide +kernel) (pa_cons (pv 0) pa_nil)) (pe_callB (r := rLenQ K) call_len_seq (by rfl) T.b_len (by decide +kernel) (pa_cons (pv 1) pa_nil))) (pa_cons (pe_un un_neg (pe_int)) (pa_cons (pe_un un_neg (pe_int)) pa_nil)))) (pg_name (i := 4) nd rfl (Or.inl rfl))
      (pss_cons (ps_set (i := 5) nd rfl (Or.inl rfl) (pe_ix (r := rIxL K) ix_list (pv 2) (pe_op op_sub (pe_op op_add (pv 4) (pe_callB (r := rLenQ K) call_len_seq (by rfl) T.b_len (by decide +kernel) (pa_cons (pv 1) pa_nil))) (pe_int)) (fun _ _ => rfl)))
      (pss_cons (ps_expr (pe_bm PySem.F.plainAttrs_list PySem.F.slot_list_append PySem.F.type_list_append mt_append (pv 3) (pa_cons (pv 5) pa_nil)))
      (pss_one (ps_for PassesOwn.never rfl (pi_enum (by rfl) T.b_enumerate (pa_cons (pv 1) pa_nil)) (pg_tup (by rfl) (pgs_cons (pg_name (i := 6) nd rfl (Or.inl rfl)) (pgs_cons (pg_name (i := 7) nd rfl (Or.inl rfl)) pgs_nil)))
      (pss_one (ps_asg (pe_op op_sub (pe_ix (r := rIxL K) ix_list (pv 2) (pe_op op_add (pv 4) (pv 6)) (fun _ _ => rfl)) (pe_op op_mul (pv 5) (pv 7))) (pg_sub (pv 2) (pe_op op_add (pv 4) (pv 6)) set_list))))))))
      (pss_one (ps_ret (pe_revL (pv 3)))))), ?_⟩
    walk_at "ev"
    intro l1 hl1
    generalize hG : upd _ l1 _ = H1
    obtain ⟨sm1, hq1⟩ := newO hG hl1
    clear hG
    walk_at "ev"
    intro l2 hl2
    generalize hG : upd _ l2 _ = H2
    obtain ⟨sm2, hq2⟩ := newO hG hl2
    clear hG
    have n12 : l1 ≠ l2 := ne_of_none hq1 hl2
    have f2 : H l2 = none := sm1.free hl2
    have sm02 := sm1.trans sm2
    have ha2 := sm02.seq ha
    have hb2 := sm02.seq hb
    have rg : RgC (((row.map V.int).length : Int) - ((bs.map V.int).length : Int)) (-1) (-1) ((((row.map V.int).length : Int) - ((bs.map V.int).length : Int)) - (-1)).toNat := RgC.neg (by rw [List.length_map, List.length_map]; omega) (by rw [List.length_map, List.length_map]; omega) (by decide) (by decide)
    walk_at "ev"
    have en : ((((row.map V.int).length : Int) - ((bs.map V.int).length : Int)) - (-1)).toNat = row.length + 1 - bs.length := by
      rw [List.length_map, List.length_map]
      omega
    refine for_rangeC (lo := _) (c := _) (n := _) (fun n σ H' => Hold (∃ (s4 s5 s6 s7 : Option V), σ = [some (.ref a), some (.ref b), some (.ref l1), some (.ref l2), s4, s5, s6, s7] ∧ Same H H' ∧ H' l1 = some (.lst ((ldN bs row n).1.map V.int)) ∧ H' l2 = some (.lst ((ldN bs row n).2.map V.int)))) (.mk ⟨none, none, none, none, rfl, sm02, sm2 _ _ hq1, hq2⟩) ?_ ?_
    · intro n σ H3 hn hP
      obtain ⟨s4, s5, s6, s7, rfl, sm3, h1, h2⟩ := hP.un
      rw [en] at hn
      obtain ⟨e1, e2⟩ := ldN_len (bs := bs) (row := row) (n := n)
      have hL1 := SqL.of (K := K) h1
      have hb3 := sm3.seq hb
      have epl : (((row.map V.int).length : Int) - ((bs.map V.int).length : Int)) + (n : Nat) * (-1) = ((row.length - bs.length - n : Nat) : Int) := by
        rw [List.length_map, List.length_map]
        omega
      rw [epl]
      have at1 : atI ((ldN bs row n).1.map V.int) (((row.length - bs.length - n : Nat) : Int) + ((bs.map V.int).length : Int) - 1) = some (.int ((ldN bs row n).1.getD (row.length - bs.length - n + bs.length - 1) 0)) := at_map (by omega) (by rw [List.length_map]; omega)
      obtain ⟨top, htop⟩ : ∃ top, (ldN bs row n).1.getD (row.length - bs.length - n + bs.length - 1) 0 = top := ⟨_, rfl⟩
      rw [htop] at at1
      walk_at "ev"
      generalize hG : upd _ l2 _ = H4
      obtain ⟨k4, hq4⟩ := mutO hG
      have sm4 : Same H H4 := by rw [← hG]; exact same_mut sm3 f2
      clear hG
      have h14 := k4 _ _ n12 h1
      have hb4 := sm4.seq hb
      refine ⟨hb4, for_enumL (K := K) (a := b) (xs := bs.map V.int) (fun i σ H' => Hold (∃ (s6 s7 : Option V), σ = [some (.ref a), some (.ref b), some (.ref l1), some (.ref l2), some (.int ((row.length - bs.length - n : Nat) : Int)), some (.int top), s6, s7] ∧ Same H H' ∧ H' l1 = some (.lst ((subAt (row.length - bs.length - n) top bs (ldN bs row n).1 i).map V.int)) ∧ H' l2 = some (.lst ((ldN bs row n).2.map V.int ++ [.int top])))) (.mk ⟨_, _, rfl, sm4, h14, hq4⟩) ?_ ?_ ?_⟩
      · intro i σ H5 hP
        obtain ⟨s6, s7, rfl, sm5, h15, h25⟩ := hP.un
        exact sm5.seq hb
      · intro i v T' σ H5 hv hP hT
        obtain ⟨s6, s7, rfl, sm5, h15, h25⟩ := hP.un
        rw [List.getElem?_map] at hv
        obtain ⟨x, hx, ev⟩ := Option.map_eq_some_iff.mp hv
        subst ev
        have hil : i < bs.length := (List.getElem?_eq_some_iff.mp hx).1
        have exi : bs.getD i 0 = x := by rw [List.getD_eq_getElem?_getD, hx]; rfl
        have hxb := hbb x (List.mem_of_getElem? hx)
        generalize hG : upd _ T' _ = H6
        obtain ⟨sm6, hq6⟩ := newO hG hT
        clear hG
        have hT6 : SqT K H6 T' [.int (i : Nat), .int x] := SqT.of hq6
        have h16 := sm6 _ _ h15
        have hL6 := SqL.of (K := K) h16
        have hsl := subAt_len (start := row.length - bs.length - n) (top := top) (bs := bs) (r := (ldN bs row n).1) (i := i)
        have at2 : atI ((subAt (row.length - bs.length - n) top bs (ldN bs row n).1 i).map V.int) (((row.length - bs.length - n : Nat) : Int) + (i : Nat)) = some (.int ((subAt (row.length - bs.length - n) top bs (ldN bs row n).1 i).getD (row.length - bs.length - n + i) 0)) := at_map (by omega) (by omega)
        have hix : ixN ((subAt (row.length - bs.length - n) top bs (ldN bs row n).1 i).map V.int).length (((row.length - bs.length - n : Nat) : Int) + (i : Nat)) = some (row.length - bs.length - n + i) := ixn_of (by rw [List.length_map]; omega) (by omega)
        have cm : CMul top x := .inr ⟨by omega, by omega⟩
        walk_at "ev"
        refine .mk ⟨_, _, rfl, same_mut (sm5.trans sm6) hl1, ?_, ?_⟩
        · rw [upd_same, subAt, List.map_set, exi]
        · rw [upd_ne n12.symm]
          exact sm6 _ _ h25
      · intro σ H5 hP
        obtain ⟨s6, s7, rfl, sm5, h15, h25⟩ := hP.un
        rw [List.length_map] at h15
        refine .mk ⟨_, _, _, _, rfl, sm5, ?_, ?_⟩
        · rw [h15, ldN, htop]
        · rw [h25, ldN, htop, List.map_append]
          rfl
    · intro σ H3 hP
      obtain ⟨s4, s5, s6, s7, rfl, sm3, h1, h2⟩ := hP.un
      rw [en] at h2
      have hL2 := SqL.of (K := K) h2
      walk_at "ev"
      intro q1 hq
      generalize hG : upd _ q1 _ = H4
      obtain ⟨sm4, hq4⟩ := newO hG hq
      clear hG
      refine q q1 H4 (sm3.free hq) (sm3.trans sm4) ?_
      rw [hq4, ldQ, List.map_reverse]
end
theorem owl_ok : ∀ n < 31, 1 ≤ n → (pdv n).foldl (fun t d => ldQ (whl d) t) (whS n) = whl n := by decide +kernel
theorem pdv_step {n i : Nat} (h : i < n - 1) : (List.range' 1 (i + 1)).filter (fun d => decide (n % d = 0)) = (List.range' 1 i).filter (fun d => decide (n % d = 0)) ++ (if n % (1 + i) = 0 then [1 + i] else []) := by
  rw [List.range'_concat, List.filter_append, Nat.one_mul]
  congr 1
  by_cases c : n % (1 + i) = 0
  · rw [if_pos c]
    simp [c]
  · rw [if_neg c]
    simp [c]
abbrev s__law_own_wheel : Stmt := top 35
abbrev N__law_own_wheel : List Str := ["_law_number", "_law_found", "_law_part"]
abbrev P__law_own_wheel : List Str := ["_law_number"]
theorem sc__law_own_wheel : FnScope N__law_own_wheel P__law_own_wheel (defScope s__law_own_wheel) := ⟨rfl, rfl, rfl, by decide +kernel, rfl, by decide +kernel, by decide +kernel⟩
section
variable {P : Program} {w : World} {K : PySem.W.Frag} {mg : Str → Option Value} {base : Heap}
theorem own_step {f f2 : Addr} {fd d2 : FuncData} {j : Nat} (D__law_own_wheel : Df K mg "_law_own_wheel" s__law_own_wheel P__law_own_wheel f fd) (T : Blt mg) (D__law_divided : Df K mg "_law_divided" s__law_divided P__law_divided f2 d2)
    (G__law_own_wheel : FnOk P w K mg base CX0 (j + 1) f fd P__law_own_wheel (spWheel j)) : FnOk P w K mg base CX0 (j + 2) f fd P__law_own_wheel (spWheel (j + 1)) := by
  have F := D__law_own_wheel.F
  have G__law_divided : FnOk P w K mg base CX0 1 f2 d2 P__law_divided (spLdv K) := ok_ldv D__law_divided.F T
  have nd := sc__law_own_wheel.nd
  refine F.ok sc__law_own_wheel (fun vs H Q E h => ?_) (fun cdv A outer s H vs Q E hr h => ?_)
  · obtain ⟨n, rfl, _⟩ := h
    rfl
  · obtain ⟨n, rfl, n1, n31, nj, q⟩ := h
    refine ⟨_, (pss_cons (ps_set (i := 1) nd rfl (Or.inl rfl) (pe_op op_cat (pe_op op_cat (pe_lst (pa_cons (pe_un un_neg (pe_int)) pa_nil)) (pe_op op_rep (pe_lst (pa_cons (pe_int) pa_nil)) (pe_op op_sub (pv 0) (pe_int)))) (pe_lst (pa_cons (pe_int) pa_nil))))
      (pss_cons (ps_for PassesOwn.never rfl (pi_range2 (by rfl) T.b_range (pa_cons (pe_int) (pa_cons (pv 0) pa_nil))) (pg_name (i := 2) nd rfl (Or.inl rfl))
      (pss_one (ps_if (pt_cmpR op_eq (pe_op op_mod (pv 0) (pv 2)) (pe_int) (nomark _)) (pss_one (ps_set (i := 1) nd rfl (Or.inl rfl) (pe_call G__law_divided (hr.mono (by omega)) (by rfl) D__law_divided.g D__law_divided.F.kp D__law_divided.b .nil pass0 (pa_cons (pv 1) (pa_cons (pe_call G__law_own_wheel (hr.mono (by omega)) (by rfl) D__law_own_wheel.g D__law_own_wheel.F.kp D__law_own_wheel.b .nil pass0 (pa_cons (pv 2) pa_nil)) pa_nil))))) pss_nil)))
      (pss_one (ps_ret (pv 1))))), ?_⟩
    walk_at "ev"
    intro l1 hl1
    generalize hG : upd _ l1 _ = H1
    obtain ⟨sm1, hq1⟩ := newO hG hl1
    clear hG
    walk_at "ev"
    intro l2 hl2
    generalize hG : upd _ l2 _ = H2
    obtain ⟨sm2, hq2⟩ := newO hG hl2
    clear hG
    have z1 : ([V.int 0] : List V).length * ((n : Int) - 1).toNat ≤ sizeLine := szl (by show 1 * _ ≤ 60000; omega)
    walk_at "ev"
    intro l3 hl3
    generalize hG : upd _ l3 _ = H3
    obtain ⟨sm3, hq3⟩ := newO hG hl3
    clear hG
    have h13 := (sm2.trans sm3) _ _ hq1
    have z2 : ([(fun i => V.int (-i)) 1] : List V).length + (List.replicate ((n : Int) - 1).toNat [V.int 0]).flatten.length ≤ sizeLine := szl (by rw [rep_len]; show 1 + _ ≤ 60000; omega)
    walk_at "ev"
    intro l4 hl4
    generalize hG : upd _ l4 _ = H4
    obtain ⟨sm4, hq4⟩ := newO hG hl4
    clear hG
    walk_at "ev"
    intro l5 hl5
    generalize hG : upd _ l5 _ = H5
    obtain ⟨sm5, hq5⟩ := newO hG hl5
    clear hG
    have h45 := sm5 _ _ hq4
    have z3 : ([(fun i => V.int (-i)) 1] ++ (List.replicate ((n : Int) - 1).toNat [V.int 0]).flatten).length + ([V.int 1] : List V).length ≤ sizeLine := szl (by rw [List.length_append, rep_len]; show 1 + _ + 1 ≤ 60000; omega)
    walk_at "ev"
    intro l6 hl6
    generalize hG : upd _ l6 _ = H6
    obtain ⟨sm6, hq6⟩ := newO hG hl6
    clear hG
    have ew : [(fun i => V.int (-i)) 1] ++ (List.replicate ((n : Int) - 1).toNat [V.int 0]).flatten ++ [V.int 1] = (whS n).map V.int := by
      unfold whS
      rw [List.map_append, List.map_append, show ((n : Int) - 1).toNat = n - 1 by omega, List.map_replicate, rep_flat]
      rfl
    rw [ew] at hq6
    have s06 := sm1.trans (sm2.trans (sm3.trans (sm4.trans (sm5.trans sm6))))
    have f6 : H l6 = none := (sm1.trans (sm2.trans (sm3.trans (sm4.trans sm5)))).free hl6
    walk_at "ev"
    refine for_range (lo := 1) (n := _) (fun i σ H' => Hold (∃ (lt : Addr) (s2 : Option V), σ = [some (.int (n : Int)), some (.ref lt), s2] ∧ H lt = none ∧ Same H H' ∧ ((((List.range' 1 i).filter fun d => decide (n % d = 0))).foldl (fun t d => ldQ (whl d) t) (whS n)).length ≤ 1000 ∧ H' lt = some (.lst (((((List.range' 1 i).filter fun d => decide (n % d = 0))).foldl (fun t d => ldQ (whl d) t) (whS n)).map V.int)))) (.mk ⟨l6, _, rfl, f6, s06, ?_, hq6⟩) ?_ ?_
    · show (whS n).length ≤ 1000
      unfold whS
      rw [List.length_append, List.length_append, List.length_replicate]
      show 1 + (n - 1) + 1 ≤ 1000
      omega
    · intro i σ Hx hi hP
      obtain ⟨lt, s2, rfl, ft, smx, hlen, hxt⟩ := hP.un
      have hi1 : i < n - 1 := by omega
      have hst := pdv_step hi1
      have ei : (1 : Int) + (i : Nat) = ((1 + i : Nat) : Int) := by omega
      rw [ei]
      walk_at "ev"
      refine ite2 (fun c => ?_) (fun c => ?_)
      · have c1 : n % (1 + i) = 0 := by
          have := V.int.inj (of_decide_eq_true c)
          omega
        rw [if_pos c1] at hst
        have hdn : 2 * (1 + i) ≤ n := by
          obtain ⟨m, hc⟩ := Nat.dvd_of_mod_eq_zero c1
          have c2 : 2 ≤ m := by
            apply Nat.le_of_not_lt
            intro z
            have : m = 0 ∨ m = 1 := by omega
            rcases this with z | z <;> subst z <;> omega
          have := Nat.mul_le_mul_left (1 + i) c2
          omega
        have hdj : 1 + i < 2 ^ j := by
          rw [Nat.pow_succ] at nj
          omega
        have hd31 : 1 + i < 31 := by omega
        have hd0 : 1 ≤ 1 + i := by omega
        have hLt := SqL.of (K := K) hxt
        obtain ⟨wl1, wl2⟩ := whl_len (1 + i) hd31 hd0
        have wl3 : (whl (1 + i)).length ≤ 1000 := by omega
        have wb := whl_bnd (1 + i) hd31
        walk_at "ev"
        intro lw H9 hlw sm9 hq9
        have hLw := SqL.of (K := K) hq9
        have hLt9 := sm9.seq hLt
        have el := ldQ_len (bs := whl (1 + i)) (row := ((List.range' 1 i).filter fun d => decide (n % d = 0)).foldl (fun t d => ldQ (whl d) t) (whS n)) wl1
        walk_at "ev"
        intro q10 H10 hq sm10 hq10
        refine .mk ⟨q10, _, rfl, (smx.trans sm9).free hq, smx.trans (sm9.trans sm10), ?_, ?_⟩
        · rw [hst, List.foldl_append]
          show (ldQ _ _).length ≤ 1000
          omega
        · rw [hst, List.foldl_append]
          exact hq10
      · have c1 : ¬ n % (1 + i) = 0 := fun z => c (decide_eq_true (congrArg V.int (by omega)))
        rw [if_neg c1, List.append_nil] at hst
        walk_at "ev"
        refine .mk ⟨lt, _, rfl, ft, smx, ?_, ?_⟩
        · rw [hst]
          exact hlen
        · rw [hst]
          exact hxt
    · intro σ Hx hP
      obtain ⟨lt, s2, rfl, ft, smx, hlen, hxt⟩ := hP.un
      have en : ((n : Int) - 1).toNat = n - 1 := by omega
      rw [en] at hxt
      have hk := owl_ok n n31 n1
      unfold pdv at hk
      rw [hk] at hxt
      walk_at "ev"
      exact q lt Hx ft smx hxt
theorem ok_own {f f2 : Addr} {fd d2 : FuncData} (D__law_own_wheel : Df K mg "_law_own_wheel" s__law_own_wheel P__law_own_wheel f fd) (T : Blt mg) (D__law_divided : Df K mg "_law_divided" s__law_divided P__law_divided f2 d2) : ∀ j : Nat, FnOk P w K mg base CX0 (j + 1) f fd P__law_own_wheel (spWheel j)
  | 0 => ⟨fun _ _ _ _ ⟨n, _, h1, _, h2, _⟩ => absurd h2 (by rw [Nat.pow_zero]; omega), fun _ _ _ _ _ _ _ _ _ _ _ _ _ ⟨n, _, h1, _, h2, _⟩ => absurd h2 (by rw [Nat.pow_zero]; omega)⟩
  | j + 1 => own_step D__law_own_wheel T D__law_divided (ok_own D__law_own_wheel T D__law_divided j)
end
section
open PySem.Spec PyProof.Rows
variable {P : Program} {w : World} {K : PySem.W.Frag} {mg : Str → Option Value} {base : Heap}
theorem fnor {CX : CXT} {k : Nat} {f : Addr} {fd : FuncData} {ps : List Str} {sp sp1 sp2 : Sp} (G1 : FnOk P w K mg base CX k f fd ps sp1) (G2 : FnOk P w K mg base CX k f fd ps sp2) (h : ∀ vs H Q E, sp vs H Q E → sp1 vs H Q E ∨ sp2 vs H Q E) : FnOk P w K mg base CX k f fd ps sp :=
  ⟨fun vs H Q E x => (h vs H Q E x).elim (G1.len vs H Q E) (G2.len vs H Q E), fun A outer s H args us vs Q E hr e0 hb r x => (h vs H Q E x).elim (G1.run A outer s H args us vs Q E hr e0 hb r) (G2.run A outer s H args us vs Q E hr e0 hb r)⟩
end
abbrev s__law_is_plain_prime : Stmt := top 31
abbrev N__law_is_plain_prime : List Str := ["_law_number", "_law_small", "_law_part"]
abbrev P__law_is_plain_prime : List Str := ["_law_number"]
theorem sc__law_is_plain_prime : FnScope N__law_is_plain_prime P__law_is_plain_prime (defScope s__law_is_plain_prime) := ⟨rfl, rfl, rfl, by decide +kernel, rfl, by decide +kernel, by decide +kernel⟩
def spPlainPrime : Sp := fun vs H Q _ => ∃ (n : Int), vs = [.int n] ∧ 0 ≤ n ∧ n ≤ 10000 ∧ ∀ (b : Bool) H', Same H H' → Q (.bl b) H'
section
variable {P : Program} {w : World} {K : PySem.W.Frag} {mg : Str → Option Value} {base : Heap}
theorem ok_plainprime {f : Addr} {fd : FuncData} {k : Nat} (F : Fun K "_law_is_plain_prime" "_law_is_plain_prime" s__law_is_plain_prime f fd) (T : Blt mg) : FnOk P w K mg base CX0 (k + 1) f fd P__law_is_plain_prime spPlainPrime := by
  have nd := sc__law_is_plain_prime.nd
  refine F.ok sc__law_is_plain_prime (fun vs H Q E h => ?_) (fun cdv A outer s H vs Q E hr h => ?_)
  · obtain ⟨n, rfl, _⟩ := h
    rfl
  · obtain ⟨n, rfl, h0, h1, q⟩ := h
    refine ⟨_, (pss_cons (ps_setLc (i := 1) (own := [("_law_part", 2)]) (g := gName 2) (by rfl) nd rfl rfl (sw_true rfl rfl rfl (by decide +kernel)) (pi_range2 (by rfl) T.b_range (pa_cons (pe_int) (pa_cons (pv 0) pa_nil))) (blkOk_by (own := [("_law_part", 2)]) (N := N__law_is_plain_prime) (sc := defScope s__law_is_plain_prime) (by decide +kernel)) (fun _ _ _ _ _ => (pg_name (i := 2) nd rfl (Or.inl rfl))) (fun _ _ _ _ _ => pts_one (pt_cmpR op_le (pe_op op_mul (pv 2) (pv 2)) (pv 0) (nomark _))) (fun _ _ _ _ _ => (pv 2)))
      (pss_one (ps_ret (pe_and (pe_cmpR op_gt (pv 0) (pe_int) (nomark _)) (pe_one (pe_callB (r := rAll K) (cr_all rfl) (by rfl) T.b_all (by decide +kernel) (pa_cons (pe_lc (own := [("_law_part", 2)]) (g := gName 2) (by rfl) nd (pi_list (pv 1)) (blkOk_by (own := [("_law_part", 2)]) (N := N__law_is_plain_prime) (sc := defScope s__law_is_plain_prime) (by decide +kernel)) (fun _ _ _ _ _ => (pg_name (i := 2) nd rfl (Or.inl rfl))) (fun _ _ _ _ _ => pts_nil) (fun _ _ _ _ _ => (pe_cmpR op_gt (pe_op op_mod (pv 0) (pv 2)) (pe_int) (nomark _)))) pa_nil))))))), ?_⟩
    walk_at "ev"
    intro D hD
    refine lc_range (lo := 2) (n := _) (fun i H' => Hold (∃ ms : List Int, Same H H' ∧ H' D = some (.lst (ms.map V.int)) ∧ ms.length ≤ i ∧ ∀ m ∈ ms, 2 ≤ m)) (.mk ⟨[], same_new hD, upd_same, Nat.zero_le _, by simp⟩) ?_ ?_
    · intro i H2 hi hP
      obtain ⟨ms, sm2, hD2, hl, hm⟩ := hP.un
      have hcm : CMul (2 + (i : Int)) (2 + i) := .inl ⟨by omega, by omega⟩
      have hfl : (ms.map V.int).length < sizeLine := by
        rw [List.length_map]
        exact szm (by omega)
      walk_at "ev"
      refine ite2 (fun e => ?_) (fun e => ?_)
      · walk_at "ev"
        refine .mk ⟨ms ++ [2 + (i : Int)], same_mut sm2 hD, ?_, ?_, ?_⟩
        · rw [upd_same, List.map_append]
          rfl
        · simp
          omega
        · intro m hmm
          rcases List.mem_append.mp hmm with h | h
          · exact hm m h
          · have e : m = 2 + (i : Int) := by simpa using h
            omega
      · exact .mk ⟨ms, sm2, hD2, by omega, hm⟩
    · intro H2 hP
      obtain ⟨ms, sm2, hD2, hl, hm⟩ := hP.un
      have hL : SqL K H2 D (ms.map V.int) := SqL.of hD2
      have hL' : ∃ xs, SqL K H2 D xs := ⟨_, hL⟩
      walk_at "ev"
      refine ite2 (fun e => ?_) (fun e => ?_)
      · walk_at "ev"
        intro D3 hD3
        refine lc_list (K := K) (a := D) (xs := ms.map V.int) (fun i H' => Hold (∃ bs : List Bool, Same H2 H' ∧ H' D3 = some (.lst (bs.map V.bl)) ∧ bs.length = i)) (.mk ⟨[], same_new hD3, upd_same, rfl⟩) ?_ ?_ ?_
        · intro i H3 hi hP3
          obtain ⟨bs, sm3, hD4, hl4⟩ := hP3.un
          exact sm3.seq hL
        · intro i x H3 hx hP3
          obtain ⟨bs, sm3, hD4, hl4⟩ := hP3.un
          obtain ⟨m, hmm, rfl⟩ := int_mem (List.mem_of_getElem? hx)
          have := hm m hmm
          have hil : i < (ms.map V.int).length := (List.getElem?_eq_some_iff.mp hx).1
          rw [List.length_map] at hil
          walk_at "ev"
          refine .mk ⟨bs ++ [decide (0 < n % m)], same_mut sm3 hD3, ?_, ?_⟩
          · rw [upd_same, List.map_append]
            rfl
          · simp [hl4]
        · intro H3 hP3
          obtain ⟨bs, sm3, hD4, hl4⟩ := hP3.un
          exact ⟨D3, bs, rfl, SqL.of hD4, q _ _ (sm2.trans sm3)⟩
      · exact q _ _ sm2
end
abbrev s__law_raised : Stmt := top 32
abbrev N__law_raised : List Str := ["_law_base", "_law_exponent", "_law_by", "_law_found", "_law_turn"]
abbrev P__law_raised : List Str := ["_law_base", "_law_exponent", "_law_by"]
theorem sc__law_raised : FnScope N__law_raised P__law_raised (defScope s__law_raised) := ⟨rfl, rfl, rfl, by decide +kernel, rfl, by decide +kernel, by decide +kernel⟩
def spRaise : Sp := fun vs H Q _ => ∃ (b e p : Int), vs = [.int b, .int e, .int p] ∧ 0 ≤ b ∧ b < 10000 ∧ 0 ≤ e ∧ e < 10000 ∧ 2 ≤ p ∧ p ≤ 10000 ∧ ∀ (r : Int), 0 ≤ r → r < p → Q (.int r) H
section
variable {P : Program} {w : World} {K : PySem.W.Frag} {mg : Str → Option Value} {base : Heap}
theorem ok_raise {f : Addr} {fd : FuncData} {k : Nat} (F : Fun K "_law_raised" "_law_raised" s__law_raised f fd) (T : Blt mg) : FnOk P w K mg base CX0 (k + 1) f fd P__law_raised spRaise := by
  have nd := sc__law_raised.nd
  refine F.ok sc__law_raised (fun vs H Q E h => ?_) (fun cdv A outer s H vs Q E hr h => ?_)
  · obtain ⟨b, e, p, rfl, _⟩ := h
    rfl
  · obtain ⟨b, e, p, rfl, b0, b1, e0, e1, p0, p1, q⟩ := h
    refine ⟨_, (pss_cons (ps_set (i := 3) nd rfl (Or.inl rfl) (pe_op op_mod (pe_int) (pv 2)))
      (pss_cons (ps_for PassesOwn.never rfl (pi_range1 (by rfl) T.b_range (pa_cons (pe_int) pa_nil)) (pg_name (i := 4) nd rfl (Or.inl rfl))
      (pss_cons (ps_if (pt_cmpR op_eq (pe_op op_mod (pv 1) (pe_int)) (pe_int) (nomark _)) (pss_one (ps_set (i := 3) nd rfl (Or.inl rfl) (pe_op op_mod (pe_op op_mul (pv 3) (pv 0)) (pv 2)))) pss_nil)
      (pss_one (ps_par (i := 0) (j := 1) (by rfl) nd rfl rfl (by decide) rfl rfl (pa_cons (pe_op op_mod (pe_op op_mul (pv 0) (pv 0)) (pv 2)) (pa_cons (pe_op op_fdiv (pv 1) (pe_int)) pa_nil)) (by rfl)))))
      (pss_one (ps_ret (pv 3))))), ?_⟩
    have hr1 : 0 ≤ 1 % p ∧ 1 % p < p := ⟨Int.emod_nonneg _ (by omega), Int.emod_lt_of_pos _ (by omega)⟩
    walk_at "ev"
    refine for_range (lo := 0) (n := _) (fun i σ H' => Hold (∃ (b e r : Int) (s4 : Option V), σ = [some (.int b), some (.int e), some (.int p), some (.int r), s4] ∧ H' = H ∧ 0 ≤ b ∧ b < 10000 ∧ 0 ≤ e ∧ e < 10000 ∧ 0 ≤ r ∧ r < p)) (.mk ⟨b, e, _, none, rfl, rfl, b0, b1, e0, e1, hr1.1, hr1.2⟩) ?_ ?_
    · intro i σ H1 hi hP
      obtain ⟨b, e, r, s4, rfl, rfl, b0, b1, e0, e1, r0, r1⟩ := hP.un
      have hb : 0 ≤ b * b % p ∧ b * b % p < p := ⟨Int.emod_nonneg _ (by omega), Int.emod_lt_of_pos _ (by omega)⟩
      have hrb : 0 ≤ r * b % p ∧ r * b % p < p := ⟨Int.emod_nonneg _ (by omega), Int.emod_lt_of_pos _ (by omega)⟩
      have c1 : CMul r b := .inl ⟨by omega, by omega⟩
      have c2 : CMul b b := .inl ⟨by omega, by omega⟩
      walk_at "ev"
      refine ite2 (fun c => ?_) (fun c => ?_)
      · walk_at "ev"
        exact .mk ⟨_, _, _, _, rfl, rfl, hb.1, by omega, by omega, by omega, hrb.1, hrb.2⟩
      · walk_at "ev"
        exact .mk ⟨_, _, _, _, rfl, rfl, hb.1, by omega, by omega, by omega, r0, r1⟩
    · intro σ H1 hP
      obtain ⟨b, e, r, s4, rfl, rfl, b0, b1, e0, e1, r0, r1⟩ := hP.un
      walk_at "ev"
      exact q r r0 r1
end
abbrev s__law_least_generator : Stmt := top 33
abbrev N__law_least_generator : List Str := ["_law_prime", "_law_parts", "_law_one", "_law_part"]
abbrev P__law_least_generator : List Str := ["_law_prime"]
theorem sc__law_least_generator : FnScope N__law_least_generator P__law_least_generator (defScope s__law_least_generator) := ⟨rfl, rfl, rfl, by decide +kernel, rfl, by decide +kernel, by decide +kernel⟩
def spLeastN : Sp := fun vs H Q _ => ∃ (p : Int), vs = [.int p] ∧ 2 ≤ p ∧ p ≤ 10000 ∧ ∀ (g : Int) H', Same H H' → Q (.int g) H'
section
variable {P : Program} {w : World} {K : PySem.W.Frag} {mg : Str → Option Value} {base : Heap}
theorem ok_leastN {f f1 f2 : Addr} {fd d1 d2 : FuncData} {k : Nat} (F : Fun K "_law_least_generator" "_law_least_generator" s__law_least_generator f fd) (T : Blt mg) (D__law_is_plain_prime : Df K mg "_law_is_plain_prime" s__law_is_plain_prime P__law_is_plain_prime f1 d1) (D__law_raised : Df K mg "_law_raised" s__law_raised P__law_raised f2 d2) : FnOk P w K mg base CX0 (k + 2) f fd P__law_least_generator spLeastN := by
  have G__law_is_plain_prime : FnOk P w K mg base CX0 1 f1 d1 P__law_is_plain_prime spPlainPrime := ok_plainprime (k := 0) D__law_is_plain_prime.F T
  have G__law_raised : FnOk P w K mg base CX0 1 f2 d2 P__law_raised spRaise := ok_raise (k := 0) D__law_raised.F T
  have nd := sc__law_least_generator.nd
  refine F.ok sc__law_least_generator (fun vs H Q E h => ?_) (fun cdv A outer s H vs Q E hr h => ?_)
  · obtain ⟨p, rfl, _⟩ := h
    rfl
  · obtain ⟨p, rfl, p0, p1, q⟩ := h
    refine ⟨_, (pss_cons (ps_setLc (i := 1) (own := [("_law_part", 3)]) (g := gName 3) (by rfl) nd rfl rfl (sw_true rfl rfl rfl (by decide +kernel)) (pi_range2 (by rfl) T.b_range (pa_cons (pe_int) (pa_cons (pv 0) pa_nil))) (blkOk_by (own := [("_law_part", 3)]) (N := N__law_least_generator) (sc := defScope s__law_least_generator) (by decide +kernel)) (fun _ _ _ _ _ => (pg_name (i := 3) nd rfl (Or.inl rfl))) (fun _ _ _ _ _ => pts_one (PW.pt (pw_and (pt_cmpR op_eq (pe_op op_mod (pe_op op_sub (pv 0) (pe_int)) (pv 3)) (pe_int) (nomark _)) (pw_and1 (pt_val (pe_call G__law_is_plain_prime (hr.mono (by omega)) (by rfl) D__law_is_plain_prime.g D__law_is_plain_prime.F.kp D__law_is_plain_prime.b .nil pass0 (pa_cons (pv 3) pa_nil))))))) (fun _ _ _ _ _ => (pv 3)))
      (pss_cons (ps_for PassesOwn.never rfl (pi_range2 (by rfl) T.b_range (pa_cons (pe_int) (pa_cons (pv 0) pa_nil))) (pg_name (i := 2) nd rfl (Or.inr rfl))
      (pss_one (ps_if (pt_val (pe_callB (r := rAll K) (cr_all rfl) (by rfl) T.b_all (by decide +kernel) (pa_cons (pe_lc (own := [("_law_part", 3)]) (g := gName 3) (by rfl) nd (pi_list (pv 1)) (blkOk_by (own := [("_law_part", 3)]) (N := N__law_least_generator) (sc := defScope s__law_least_generator) (by decide +kernel)) (fun _ _ _ _ _ => (pg_name (i := 3) nd rfl (Or.inl rfl))) (fun _ _ _ _ _ => pts_nil) (fun _ _ _ _ _ => (pe_cmpR op_ne (pe_call G__law_raised (hr.mono (by omega)) (by rfl) D__law_raised.g D__law_raised.F.kp D__law_raised.b .nil pass0 (pa_cons (pv 2) (pa_cons (pe_op op_fdiv (pe_op op_sub (pv 0) (pe_int)) (pv 3)) (pa_cons (pv 0) pa_nil)))) (pe_int) (nomark _)))) pa_nil))) (pss_one (ps_ret (pv 2))) pss_nil)))
      (pss_one (ps_ret (pe_int))))), ?_⟩
    walk_at "ev"
    intro D hD
    refine lc_range (lo := 2) (n := _) (fun i H' => Hold (∃ ms : List Int, Same H H' ∧ H' D = some (.lst (ms.map V.int)) ∧ ms.length ≤ i ∧ ∀ m ∈ ms, 2 ≤ m ∧ m ≤ 10000)) (.mk ⟨[], same_new hD, upd_same, Nat.zero_le _, by simp⟩) ?_ ?_
    · intro i H2 hi hP
      obtain ⟨ms, sm2, hD2, hl, hm⟩ := hP.un
      have hfl : (ms.map V.int).length < sizeLine := by
        rw [List.length_map]
        exact szm (by omega)
      walk_at "ev"
      refine ite2 (fun e => ?_) (fun e => ?_)
      · walk_at "ev"
        intro b H3 sm3
        have hD3 := sm3 _ _ hD2
        cases b with
        | true =>
          walk_at "ev"
          refine .mk ⟨ms ++ [2 + (i : Int)], same_mut (sm2.trans sm3) hD, ?_, ?_, ?_⟩
          · rw [upd_same, List.map_append]
            rfl
          · simp
            omega
          · intro m hmm
            rcases List.mem_append.mp hmm with h | h
            · exact hm m h
            · have e : m = 2 + (i : Int) := by simpa using h
              omega
        | false =>
          walk_at "ev"
          exact .mk ⟨ms, sm2.trans sm3, hD3, by omega, hm⟩
      · walk_at "ev"
        exact .mk ⟨ms, sm2, hD2, by omega, hm⟩
    · intro H2 hP
      obtain ⟨ms, sm2, hD2, hl, hm⟩ := hP.un
      have hL := SqL.of (K := K) hD2
      walk_at "ev"
      refine for_range (lo := 1) (n := _) (fun i σ H' => Hold (∃ s2 s3, σ = [some (.int p), some (.ref D), s2, s3] ∧ Same H2 H')) (.mk ⟨none, none, rfl, Same.refl _⟩) ?_ ?_
      · intro i σ H3 hi hP3
        obtain ⟨s2, s3, rfl, sm3⟩ := hP3.un
        have hL3 := sm3.seq hL
        have hL' : ∃ xs, SqL K H3 D xs := ⟨_, hL3⟩
        walk_at "ev"
        intro D3 hD3
        refine lc_list (K := K) (a := D) (xs := ms.map V.int) (fun i H' => Hold (∃ bs : List Bool, Same H3 H' ∧ H' D3 = some (.lst (bs.map V.bl)) ∧ bs.length = i)) (.mk ⟨[], same_new hD3, upd_same, rfl⟩) ?_ ?_ ?_
        · intro i H4 hi hP4
          obtain ⟨bs, sm4, hD4, hl4⟩ := hP4.un
          exact sm4.seq hL3
        · intro j x H4 hx hP4
          obtain ⟨bs, sm4, hD4, hl4⟩ := hP4.un
          obtain ⟨m, hmm, rfl⟩ := int_mem (List.mem_of_getElem? hx)
          obtain ⟨m2, m3⟩ := hm m hmm
          have hil : j < (ms.map V.int).length := (List.getElem?_eq_some_iff.mp hx).1
          rw [List.length_map] at hil
          have hd0 : 0 ≤ (p - 1) / m ∧ (p - 1) / m < 10000 := ⟨Int.ediv_nonneg (by omega) (by omega), Int.ediv_lt_of_lt_mul (by omega) (by omega)⟩
          have hfl : (bs.map V.bl).length < sizeLine := by
            rw [List.length_map]
            exact szm (by omega)
          walk_at "ev"
          intro r r0 r1
          walk_at "ev"
          refine .mk ⟨bs ++ [_], same_mut sm4 hD3, by rw [upd_same, List.map_append]; rfl, by rw [List.length_append, hl4]; rfl⟩
        · intro H4 hP4
          obtain ⟨bs, sm4, hD4, hl4⟩ := hP4.un
          refine ⟨D3, bs, rfl, SqL.of hD4, ?_⟩
          cases bs.all id with
          | true =>
            walk_at "ev"
            exact q _ _ (sm2.trans (sm3.trans sm4))
          | false =>
            walk_at "ev"
            exact .mk ⟨_, _, rfl, sm3.trans sm4⟩
      · intro σ H3 hP3
        obtain ⟨s2, s3, rfl, sm3⟩ := hP3.un
        walk_at "ev"
        exact q _ _ (sm2.trans sm3)
end
theorem du {k : Nat} {A : Around} (h : Room k A) : A.units + 1 < cLine := by
  have := h.units
  omega
theorem keep_free {b p : Addr} {H H' : Hp} (k : Keep b H H') (n : p ≠ b) (h : H' p = none) : H p = none := by
  cases u : H p with
  | none => rfl
  | some o =>
    rw [k p o n u] at h
    cases h
abbrev wrldK (n : Nat) (l : Addr) : List (Key × V) := [(.inr "kind", .str "roots"), (.inr "by", .int (n : Int)), (.inr "wheel", .ref l), (.inr "first", .non)]

abbrev wrldR (p g : Int) : List (Key × V) := [(.inr "kind", .str "rests"), (.inr "by", .int p), (.inr "wheel", .non), (.inr "first", .int g)]
inductive Gk
  | rests (p : Int)
  | roots (n : Nat)
def numM : Gk → Int
  | .rests p => p - 1
  | .roots n => (n : Int)
def prL : List Int := [97, 13, 31, 37, 61, 73, 181, 241, 337, 421, 257, 2521, 41, 17, 7, 5, 3, 2]
theorem prL_b : ∀ x ∈ prL, 2 ≤ x ∧ x ≤ 2521 := by decide
/-- a world of one kind -/
def WdM (H : Hp) (b d : Addr) (g : Gk) : Prop := d ≠ b ∧ match g with
  | .rests p => p ∈ prL ∧ ∃ q, H d = some (.dK (wrldR p q))
  | .roots n => 1 ≤ n ∧ n < 31 ∧ ∃ l, H d = some (.dK (wrldK n l))
theorem WdM.keep {H H' : Hp} {b d : Addr} {g : Gk} (h : WdM H b d g) (e : Keep b H H') : WdM H' b d g := by
  cases g with
  | rests p =>
    obtain ⟨h1, h2, q, h3⟩ := h
    exact ⟨h1, h2, q, e _ _ h1 h3⟩
  | roots n =>
    obtain ⟨h1, h2, h3, l, h4⟩ := h
    exact ⟨h1, h2, h3, l, e _ _ h1 h4⟩
theorem WdM.up {H H' : Hp} {b d : Addr} {g : Gk} (h : WdM H b d g) (e : Same H H') : WdM H' b d g := h.keep (keepS e)
theorem WdM.mut {H : Hp} {b d D : Addr} {g : Gk} {xs : List V} {o : HO} (h : WdM H b d g) (e : H D = some (.lst xs)) : WdM (upd H D o) b d g := by
  cases g with
  | rests p =>
    obtain ⟨h1, h2, q, h3⟩ := h
    exact ⟨h1, h2, q, by rw [upd_ne (fun z => by rw [z, e] at h3; cases h3)]; exact h3⟩
  | roots n =>
    obtain ⟨h1, h2, h3, l, h4⟩ := h
    exact ⟨h1, h2, h3, l, by rw [upd_ne (fun z => by rw [z, e] at h4; cases h4)]; exact h4⟩
theorem WdM.num {H : Hp} {b d : Addr} {g : Gk} (h : WdM H b d g) : 1 ≤ numM g ∧ numM g ≤ 2520 := by
  cases g with
  | rests p =>
    obtain ⟨h1, h2, q, h3⟩ := h
    have := prL_b p h2
    exact ⟨by show 1 ≤ p - 1; omega, by show p - 1 ≤ 2520; omega⟩
  | roots n =>
    obtain ⟨h1, h2, h3, l, h4⟩ := h
    exact ⟨by show (1 : Int) ≤ (n : Int); omega, by show (n : Int) ≤ 2520; omega⟩
theorem dget_w {H : Hp} {d l : Addr} {n : Nat} (h : H d = some (.dK (wrldK n l))) : DGet H d (.str "kind") (some (.str "roots")) ∧ DGet H d (.str "by") (some (.int (n : Int))) ∧ DGet H d (.str "wheel") (some (.ref l)) :=
  ⟨DGet.k (k := .inr "kind") h, DGet.k (k := .inr "by") h, DGet.k (k := .inr "wheel") h⟩
theorem dget_r {H : Hp} {d : Addr} {p g : Int} (h : H d = some (.dK (wrldR p g))) : DGet H d (.str "kind") (some (.str "rests")) ∧ DGet H d (.str "by") (some (.int p)) :=
  ⟨DGet.k (k := .inr "kind") h, DGet.k (k := .inr "by") h⟩
theorem whl_l23 : ∀ n < 31, 1 ≤ n → 2 ≤ (whl n).length ∧ (whl n).length ≤ 31 := by decide +kernel
abbrev s__law_world : Stmt := top 36
abbrev N__law_world : List Str := ["_law_box_here", "_law_primes", "_law_prime", "_law_number"]
abbrev P__law_world : List Str := ["_law_box_here"]
theorem sc__law_world : FnScope N__law_world P__law_world (defScope s__law_world) := ⟨rfl, rfl, rfl, by decide +kernel, rfl, by decide +kernel, by decide +kernel⟩
def spWorld : Sp := fun vs H Q _ => ∃ (b : Addr) (c : Int), vs = [.ref b] ∧ BoxAt H b c ∧ c < 900000 ∧ ∀ d H', H d = none → Keep b H H' → BoxAt H' b (c + 4) → ∀ g, WdM H' b d g → Q (.ref d) H'
section
variable {P : Program} {w : World} {K : PySem.W.Frag} {mg : Str → Option Value} {base : Heap}
theorem ok_world {f f1 f2 f3 f4 f5 f6 : Addr} {fd d1 d2 d3 d4 d5 d6 : FuncData} (F : Fun K "_law_world" "_law_world" s__law_world f fd) (T : Blt mg) (D__law_take : Df K mg "_law_take" s__law_take P__law_take f1 d1) (D__law_own_wheel : Df K mg "_law_own_wheel" s__law_own_wheel P__law_own_wheel f2 d2) (D__law_divided : Df K mg "_law_divided" s__law_divided P__law_divided f3 d3)
    (D__law_least_generator : Df K mg "_law_least_generator" s__law_least_generator P__law_least_generator f4 d4) (D__law_is_plain_prime : Df K mg "_law_is_plain_prime" s__law_is_plain_prime P__law_is_plain_prime f5 d5) (D__law_raised : Df K mg "_law_raised" s__law_raised P__law_raised f6 d6) : FnOk P w K mg base CX0 7 f fd P__law_world spWorld := by
  have G__law_take : FnOk P w K mg base CX0 1 f1 d1 P__law_take spTake := ok_take D__law_take.F
  have G__law_own_wheel : FnOk P w K mg base CX0 6 f2 d2 P__law_own_wheel (spWheel 5) := ok_own D__law_own_wheel T D__law_divided 5
  have G__law_least_generator : FnOk P w K mg base CX0 2 f4 d4 P__law_least_generator spLeastN := ok_leastN (k := 0) D__law_least_generator.F T D__law_is_plain_prime D__law_raised
  have nd := sc__law_world.nd
  refine F.ok sc__law_world (fun vs H Q E h => ?_) (fun cdv A outer s H vs Q E hr h => ?_)
  · obtain ⟨b, c, rfl, _⟩ := h
    rfl
  · obtain ⟨b, c, rfl, hb, hc, q⟩ := h
    refine ⟨_, (pss_cons (ps_if (pt_cmpR op_gt (pe_call G__law_take (hr.mono (by omega)) (by rfl) D__law_take.g D__law_take.F.kp D__law_take.b .nil pass0 (pa_cons (pv 0) (pa_cons (pe_int) pa_nil))) (pe_int) (nomark _)) (pss_cons (ps_set (i := 1) nd rfl (Or.inl rfl) (pe_lst (pa_cons (pe_int) (pa_cons (pe_int) (pa_cons (pe_int) (pa_cons (pe_int) (pa_cons (pe_int) (pa_cons (pe_int) (pa_cons (pe_int) (pa_cons (pe_int) (pa_cons (pe_int) (pa_cons (pe_int) (pa_cons (pe_int) (pa_cons (pe_int) (pa_cons (pe_int) (pa_cons (pe_int) (pa_cons (pe_int) (pa_cons (pe_int) (pa_cons (pe_int) (pa_cons (pe_int) pa_nil))))))))))))))))))))
      (pss_cons (ps_set (i := 2) nd rfl (Or.inl rfl) (pe_ix (r := rIxL K) ix_list (pv 1) (pe_call G__law_take (hr.mono (by omega)) (by rfl) D__law_take.g D__law_take.F.kp D__law_take.b .nil pass0 (pa_cons (pv 0) (pa_cons (pe_ix (r := rIxL K) ix_list (pe_lst (pa_cons (pe_int) (pa_cons (pe_int) pa_nil))) (pe_call G__law_take (hr.mono (by omega)) (by rfl) D__law_take.g D__law_take.F.kp D__law_take.b .nil pass0 (pa_cons (pv 0) (pa_cons (pe_int) pa_nil))) (fun _ _ => rfl)) pa_nil))) (fun _ _ => rfl)))
      (pss_one (ps_ret (pe_disp (pps_cons (pe_str) (pe_str) (pps_cons (pe_str) (pv 2) (pps_cons (pe_str) (pe_non) (pps_cons (pe_str) (pe_call G__law_least_generator (hr.mono (by omega)) (by rfl) D__law_least_generator.g D__law_least_generator.F.kp D__law_least_generator.b .nil pass0 (pa_cons (pv 2) pa_nil)) pps_nil)))) (by rfl) (by rfl) (by simp) (by decide)))))) pss_nil)
      (pss_cons (ps_set (i := 3) nd rfl (Or.inl rfl) (pe_ix (r := rIxL K) ix_list (pe_lst (pa_cons (pe_int) (pa_cons (pe_int) (pa_cons (pe_int) (pa_cons (pe_int) (pa_cons (pe_int) (pa_cons (pe_int) (pa_cons (pe_op op_add (pe_int) (pe_call G__law_take (hr.mono (by omega)) (by rfl) D__law_take.g D__law_take.F.kp D__law_take.b .nil pass0 (pa_cons (pv 0) (pa_cons (pe_int) pa_nil)))) (pa_cons (pe_op op_add (pe_int) (pe_call G__law_take (hr.mono (by omega)) (by rfl) D__law_take.g D__law_take.F.kp D__law_take.b .nil pass0 (pa_cons (pv 0) (pa_cons (pe_int) pa_nil)))) pa_nil))))))))) (pe_call G__law_take (hr.mono (by omega)) (by rfl) D__law_take.g D__law_take.F.kp D__law_take.b .nil pass0 (pa_cons (pv 0) (pa_cons (pe_int) pa_nil))) (fun _ _ => rfl)))
      (pss_one (ps_ret (pe_disp (pps_cons (pe_str) (pe_str) (pps_cons (pe_str) (pv 3) (pps_cons (pe_str) (pe_call G__law_own_wheel (hr.mono (by omega)) (by rfl) D__law_own_wheel.g D__law_own_wheel.F.kp D__law_own_wheel.b .nil pass0 (pa_cons (pv 3) pa_nil)) (pps_cons (pe_str) (pe_non) pps_nil)))) (by rfl) (by rfl) (by simp) (by decide)))))), ?_⟩
    walk_at "ev"
    intro r1 H1 r10 r11 k1 hb1
    walk_at "ev"
    refine ite2 (fun c1 => ?_) (fun c1 => ?_)
    · walk_at "ev"
      w_cond _2
      have hb2 := hb1.same sm2
      have n2b := hb1.ne hl2
      walk_at "ev"
      w_cond _3
      have hb3 := hb2.same sm3
      have n3b := hb2.ne hl3
      walk_at "ev"
      intro r4 H4 r40 r41 k4 hb4
      have hL4 := SqL.of (K := K) (k4 _ _ n3b hq3)
      obtain ⟨t, ht, hat⟩ : ∃ t : Int, (1 ≤ t ∧ t ≤ 18) ∧ atI [V.int 8, V.int 18] r4 = some (.int t) := by
        have : r4 = 0 ∨ r4 = 1 := by omega
        rcases this with z | z <;> subst z
        · exact ⟨8, by omega, rfl⟩
        · exact ⟨18, by omega, rfl⟩
      obtain ⟨t1, t2⟩ := ht
      walk_at "ev"
      intro r5 H5 r50 r51 k5 hb5
      have hL5 : SqL K H5 l2 (prL.map V.int) := SqL.of (k5 _ _ n2b (k4 _ _ n2b (sm3 _ _ hq2)))
      obtain ⟨pr, hpm, hpa⟩ := at_ints (ns := prL) (k := r5) r50 (by show r5 < 18; omega)
      obtain ⟨p2, p3⟩ := prL_b pr hpm
      walk_at "ev"
      intro p hp
      generalize hG : upd H5 p _ = H6
      obtain ⟨sm6, hq6⟩ := newO hG hp
      clear hG
      have hb6 := hb5.same sm6
      have npb : p ≠ b := hb5.ne hp
      walk_at "ev"
      intro g H7 sm7
      have hq7 := sm7 _ _ hq6
      have em : mergeK [] (wrldR pr g) = wrldR pr g := rfl
      have k15 : Keep b H H5 := k1.trans ((keepS (sm2.trans sm3)).trans (k4.trans k5))
      walk_at "ev"
      refine ⟨(show _ = List.map (fun kv : Key × V => (kV kv.1, kv.2)) (wrldR pr g) from rfl), (by show 4 ≤ 15; decide), ?_⟩
      rw [em]
      exact q p _ (keep_free k15 npb hp) (keep_fresh (k15.trans (keepS (sm6.trans sm7))) (keep_free k15 npb hp)) (((hb6.same sm7).upd npb).mono (by omega)) (.rests pr) ⟨npb, hpm, g, upd_same⟩
    · walk_at "ev"
      intro r2 H2 r20 r21 k2 hb2
      walk_at "ev"
      intro r3 H3 r30 r31 k3 hb3
      walk_at "ev"
      w_cond _4
      have hb4 := hb3.same sm4
      have n4b := hb3.ne hl4
      walk_at "ev"
      intro r5 H5 r50 r51 k5 hb5
      have hL5 := SqL.of (K := K) (k5 _ _ n4b hq4)
      obtain ⟨n, hn, hat⟩ : ∃ n : Nat, (1 ≤ n ∧ n < 31) ∧ atI [V.int 12, V.int 4, V.int 6, V.int 8, V.int 12, V.int 20, V.int (1 + r2), V.int (1 + r3)] r5 = some (.int (n : Int)) := by
        have : r5 = 0 ∨ r5 = 1 ∨ r5 = 2 ∨ r5 = 3 ∨ r5 = 4 ∨ r5 = 5 ∨ r5 = 6 ∨ r5 = 7 := by omega
        rcases this with z | z | z | z | z | z | z | z <;> subst z
        · exact ⟨12, by decide, rfl⟩
        · exact ⟨4, by decide, rfl⟩
        · exact ⟨6, by decide, rfl⟩
        · exact ⟨8, by decide, rfl⟩
        · exact ⟨12, by decide, rfl⟩
        · exact ⟨20, by decide, rfl⟩
        · obtain ⟨m, hm⟩ := Int.eq_ofNat_of_zero_le (show 0 ≤ 1 + r2 by omega)
          exact ⟨m, by omega, by rw [← hm]; rfl⟩
        · obtain ⟨m, hm⟩ := Int.eq_ofNat_of_zero_le (show 0 ≤ 1 + r3 by omega)
          exact ⟨m, by omega, by rw [← hm]; rfl⟩
      obtain ⟨n1, n31⟩ := hn
      have n32 : n < 2 ^ 5 := by omega
      walk_at "ev"
      intro p hp
      generalize hG : upd H5 p _ = H6
      obtain ⟨sm6, hq6⟩ := newO hG hp
      clear hG
      have hb6 := hb5.same sm6
      walk_at "ev"
      intro l H7 hl sm7 hq7
      have hq67 := sm7 _ _ hq6
      have npl : l ≠ p := (ne_of_none hq6 hl).symm
      have npb : p ≠ b := hb5.ne hp
      have nlb : l ≠ b := hb6.ne hl
      have em : mergeK [] (wrldK n l) = wrldK n l := rfl
      have k15 : Keep b H H5 := k1.trans (k2.trans (k3.trans ((keepS sm4).trans k5)))
      walk_at "ev"
      refine ⟨(show _ = List.map (fun kv : Key × V => (kV kv.1, kv.2)) (wrldK n l) from rfl), (by show 4 ≤ 15; decide), ?_⟩
      rw [em]
      exact q p _ (keep_free k15 npb hp) (keep_fresh (k15.trans (keepS (sm6.trans sm7))) (keep_free k15 npb hp)) (((hb6.same sm7).upd npb).mono (by omega)) (.roots n) ⟨npb, n1, n31, l, upd_same⟩
end
abbrev s__law_has : Stmt := top 38
abbrev N__law_has : List Str := ["_law_world_here", "_law_length"]
abbrev P__law_has : List Str := ["_law_world_here", "_law_length"]
theorem sc__law_has : FnScope N__law_has P__law_has (defScope s__law_has) := ⟨rfl, rfl, rfl, by decide +kernel, rfl, by decide +kernel, by decide +kernel⟩
def spHas : Sp := fun vs H Q _ => ∃ (b d : Addr) (g : Gk) (l : Int), vs = [.ref d, .int l] ∧ WdM H b d g ∧ 1 ≤ l ∧ l ≤ 100000 ∧ Q (.bl (decide (numM g % l = 0))) H
abbrev s__law_lengths : Stmt := top 39
abbrev N__law_lengths : List Str := ["_law_world_here", "_law_top", "_law_length"]
abbrev P__law_lengths : List Str := ["_law_world_here", "_law_top"]
theorem sc__law_lengths : FnScope N__law_lengths P__law_lengths (defScope s__law_lengths) := ⟨rfl, rfl, rfl, by decide +kernel, rfl, by decide +kernel, by decide +kernel⟩
def spLns : Sp := fun vs H Q _ => ∃ (b d : Addr) (g : Gk) (t : Int), vs = [.ref d, .int t] ∧ WdM H b d g ∧ 1 ≤ t ∧ t ≤ 100 ∧ ∀ p (ks : List Int) H', H p = none → Same H H' → H' p = some (.lst (ks.map V.int)) → 0 < ks.length → ks.length ≤ 100 → (∀ k ∈ ks, 1 ≤ k ∧ k ≤ t ∧ numM g % k = 0) → Q (.ref p) H'
section
variable {P : Program} {w : World} {K : PySem.W.Frag} {mg : Str → Option Value} {base : Heap}
theorem ok_has {f : Addr} {fd : FuncData} {k : Nat} (F : Fun K "_law_has" "_law_has" s__law_has f fd) (T : Blt mg) : FnOk P w K mg base CX0 (k + 1) f fd P__law_has spHas := by
  have nd := sc__law_has.nd
  refine F.ok sc__law_has (fun vs H Q E h => ?_) (fun cdv A outer s H vs Q E hr h => ?_)
  · obtain ⟨b, d, g, l, rfl, _⟩ := h
    rfl
  · obtain ⟨b, d, g, l, rfl, hW, l1, l2, q⟩ := h
    refine ⟨_, (pss_one (ps_ret (pe_cmpR op_eq (pe_op op_mod (pe_op op_sub (pe_dget (du hr) (pv 0) (pe_str) (fun _ _ => rfl)) (pe_callTy call_int1 (by rfl) T.b_int (by decide +kernel) (pa_cons (pe_cmpR op_eq (pe_dget (du hr) (pv 0) (pe_str) (fun _ _ => rfl)) (pe_str) (nomark _)) pa_nil))) (pv 1)) (pe_int) (nomark _)))), ?_⟩
    have e : ∀ m : Int, decide (V.int (m % l) = V.int 0) = decide (m % l = 0) := fun m => decide_eq_decide.mpr ⟨fun h => V.int.inj h, fun h => congrArg V.int h⟩
    cases g with
    | rests p =>
      obtain ⟨h1, h2, gg, h3⟩ := hW
      obtain ⟨g1, g2⟩ := dget_r h3
      walk_at "ev"
      refine Eq.mp ?_ q
      congr 2
      exact (e _).symm
    | roots n =>
      obtain ⟨h1, h2, h3, ll, h4⟩ := hW
      obtain ⟨g1, g2, g3⟩ := dget_w h4
      walk_at "ev"
      refine Eq.mp ?_ q
      congr 2
      exact (e _).symm
theorem ok_lns {f f1 : Addr} {fd d1 : FuncData} {k : Nat} (F : Fun K "_law_lengths" "_law_lengths" s__law_lengths f fd) (T : Blt mg) (D__law_has : Df K mg "_law_has" s__law_has P__law_has f1 d1) : FnOk P w K mg base CX0 (k + 2) f fd P__law_lengths spLns := by
  have G__law_has : FnOk P w K mg base CX0 1 f1 d1 P__law_has spHas := ok_has (k := 0) D__law_has.F T
  have nd := sc__law_lengths.nd
  refine F.ok sc__law_lengths (fun vs H Q E h => ?_) (fun cdv A outer s H vs Q E hr h => ?_)
  · obtain ⟨b, d, g, t, rfl, _⟩ := h
    rfl
  · obtain ⟨b, d, g, t, rfl, hW, t1, t2, q⟩ := h
    refine ⟨_, (pss_one (ps_ret (pe_lc (own := [("_law_length", 2)]) (g := gName 2) (by rfl) nd (pi_range2 (by rfl) T.b_range (pa_cons (pe_int) (pa_cons (pe_op op_add (pv 1) (pe_int)) pa_nil))) (blkOk_by (own := [("_law_length", 2)]) (N := N__law_lengths) (sc := defScope s__law_lengths) (by decide +kernel)) (fun _ _ _ _ _ => (pg_name (i := 2) nd rfl (Or.inl rfl))) (fun _ _ _ _ _ => pts_one (pt_val (pe_call G__law_has (hr.mono (by omega)) (by rfl) D__law_has.g D__law_has.F.kp D__law_has.b .nil pass0 (pa_cons (pv 0) (pa_cons (pv 2) pa_nil))))) (fun _ _ _ _ _ => (pv 2))))), ?_⟩
    walk_at "ev"
    intro D hD
    refine lc_range (lo := 1) (n := _) (fun i H' => Hold (∃ ks : List Int, Same H H' ∧ H' D = some (.lst (ks.map V.int)) ∧ ks.length ≤ i ∧ (0 < i → 0 < ks.length) ∧ ∀ k ∈ ks, 1 ≤ k ∧ k ≤ t ∧ numM g % k = 0)) (.mk ⟨[], same_new hD, upd_same, Nat.zero_le _, fun z => absurd z (by decide), fun k hk => by cases hk⟩) ?_ ?_
    · intro i H3 hi hP
      obtain ⟨ks, sm3, hD3, hl3, hp3, hk3⟩ := hP.un
      have hW3 := hW.up sm3
      have hfl : (ks.map V.int).length < sizeLine := szm (by rw [List.length_map]; omega)
      walk_at "ev"
      refine ite2 (fun e => ?_) (fun e => ?_)
      · have e1 : numM g % (1 + (i : Int)) = 0 := of_decide_eq_true e
        walk_at "ev"
        refine .mk ⟨ks ++ [1 + (i : Int)], same_mut sm3 hD, by rw [upd_same, List.map_append]; rfl, by rw [List.length_append]; show _ + 1 ≤ _; omega, fun _ => by rw [List.length_append]; show 0 < _ + 1; omega, fun k hk => ?_⟩
        rcases List.mem_append.mp hk with h | h
        · exact hk3 k h
        · rw [List.mem_singleton.mp h]
          exact ⟨by omega, by omega, e1⟩
      · refine .mk ⟨ks, sm3, hD3, by omega, fun _ => ?_, hk3⟩
        cases i with
        | zero => exact absurd (decide_eq_true (by simp)) e
        | succ i => exact hp3 (by omega)
    · intro H3 hP
      obtain ⟨ks, sm3, hD3, hl3, hp3, hk3⟩ := hP.un
      exact q D ks H3 hD sm3 hD3 (hp3 (by omega)) (by omega) hk3
end
/-! ### plans as data -/
inductive Pl
  | leaf (w : Str) (n : Int)
  | two (w : Str) (a b : Pl)
  | led (w : Str) (n : Int) (a : Pl)
def plen : Pl → Int
  | .leaf _ n => n
  | .two _ a b => plen a * plen b
  | .led _ n _ => n
def pdep : Pl → Nat
  | .leaf _ _ => 0
  | .two _ a b => 1 + max (pdep a) (pdep b)
  | .led _ _ a => 1 + pdep a
def Ok : Pl → Prop
  | .leaf _ n => 1 ≤ n ∧ n ≤ 1000
  | .two _ a b => Ok a ∧ Ok b ∧ 1 ≤ plen a * plen b ∧ plen a * plen b ≤ 1000
  | .led _ n a => 1 ≤ n ∧ n ≤ 1000 ∧ Ok a
theorem Ok.len : ∀ {p : Pl}, Ok p → 1 ≤ plen p ∧ plen p ≤ 1000
  | .leaf _ _, h => h
  | .two _ _ _, h => ⟨h.2.2.1, h.2.2.2⟩
  | .led _ _ _, h => ⟨h.1, h.2.1⟩
inductive PlAt (K : PySem.W.Frag) (H : Hp) : V → Pl → Prop
  | leaf {a : Addr} {w : Str} {n : Int} : (w = "plain" ∨ w = "short") → SqT K H a [.str w, .int n] → PlAt K H (.ref a) (.leaf w n)
  | two {a : Addr} {w : Str} {x y : V} {p q : Pl} : (w = "split" ∨ w = "parts") → SqT K H a [.str w, x, y] → PlAt K H x p → PlAt K H y q → PlAt K H (.ref a) (.two w p q)
  | led {a : Addr} {w : Str} {n : Int} {x : V} {p : Pl} : (w = "powers" ∨ w = "stretch") → SqT K H a [.str w, .int n, x] → PlAt K H x p → PlAt K H (.ref a) (.led w n p)
theorem PlAt.same {K : PySem.W.Frag} {H H' : Hp} {v : V} {p : Pl} (h : PlAt K H v p) (e : Same H H') : PlAt K H' v p := by
  induction h with
  | leaf a b => exact .leaf a (same_t e b)
  | two a b c d i1 i2 => exact .two a (same_t e b) i1 i2
  | led a b c i1 => exact .led a (same_t e b) i1
theorem PlAt.kd {K : PySem.W.Frag} {H : Hp} {v : V} {p : Pl} (h : PlAt K H v p) : Kd K H v "tuple" := by
  cases h with
  | leaf a b => exact .tup b
  | two a b c d => exact .tup b
  | led a b c => exact .tup b
theorem in_sp {w : Str} (h : w = "split" ∨ w = "parts") : inV (.str w) [.str "split", .str "parts"] = true := by
  rcases h with h | h <;> rw [h] <;> decide
theorem in_sp_leaf {w : Str} (h : w = "plain" ∨ w = "short") : inV (.str w) [.str "split", .str "parts"] = false := by
  rcases h with h | h <;> rw [h] <;> decide
theorem in_sp_led {w : Str} (h : w = "powers" ∨ w = "stretch") : inV (.str w) [.str "split", .str "parts"] = false := by
  rcases h with h | h <;> rw [h] <;> decide
abbrev s_plan_length : Stmt := top 12
abbrev N_plan_length : List Str := ["plan"]
abbrev P_plan_length : List Str := ["plan"]
theorem sc_plan_length : FnScope N_plan_length P_plan_length (defScope s_plan_length) := ⟨rfl, rfl, rfl, by decide +kernel, rfl, by decide +kernel, by decide +kernel⟩
def spPlen (K : PySem.W.Frag) (d : Nat) : Sp := fun vs H Q _ => ∃ (v : V) (p : Pl), vs = [v] ∧ PlAt K H v p ∧ pdep p ≤ d ∧ Ok p ∧ ∀ H', Same H H' → Q (.int (plen p)) H'
section
variable {P : Program} {w : World} {K : PySem.W.Frag} {mg : Str → Option Value} {base : Heap}
theorem plen_step {f : Addr} {fd : FuncData} {n : Nat} {spI : Sp} (D_plan_length : Df K mg "plan_length" s_plan_length P_plan_length f fd) (T : Blt mg) (G_plan_length : FnOk P w K mg base CX0 n f fd P_plan_length spI) (hG : ∀ m, n = m + 1 → spI = spPlen K m) : FnOk P w K mg base CX0 (n + 1) f fd P_plan_length (spPlen K n) := by
  have nd := sc_plan_length.nd
  refine D_plan_length.F.ok sc_plan_length (fun vs H Q E h => ?_) (fun cdv A outer s H vs Q E hr h => ?_)
  · obtain ⟨v, p, rfl, _⟩ := h
    rfl
  · obtain ⟨v, p, rfl, hp, hd, ok, q⟩ := h
    refine ⟨_, (pss_cons (ps_if (pt_cmpR (r := rIn K false) op_in_seq (pe_ix (r := rIxT K) ix_tup (pv 0) (pe_int) (fun _ _ => rfl)) (pe_tup (pa_cons (pe_str) (pa_cons (pe_str) pa_nil))) (by rfl)) (pss_one (ps_ret (pe_op op_mul (pe_call G_plan_length (hr.mono (by omega)) (by rfl) D_plan_length.g D_plan_length.F.kp D_plan_length.b .nil pass0 (pa_cons (pe_ix (r := rIxT K) ix_tup (pv 0) (pe_int) (fun _ _ => rfl)) pa_nil)) (pe_call G_plan_length (hr.mono (by omega)) (by rfl) D_plan_length.g D_plan_length.F.kp D_plan_length.b .nil pass0 (pa_cons (pe_ix (r := rIxT K) ix_tup (pv 0) (pe_int) (fun _ _ => rfl)) pa_nil))))) pss_nil)
      (pss_one (ps_ret (pe_ix (r := rIxT K) ix_tup (pv 0) (pe_int) (fun _ _ => rfl))))), ?_⟩
    cases hp with
    | leaf hw hs =>
      rename_i a wd n
      have hat0 : atI [V.str wd, V.int n] 0 = some (.str wd) := rfl
      walk_at "ev"
      intro p1 hp1
      generalize hG1 : upd _ p1 _ = H1
      obtain ⟨sm1, hq1⟩ := newO hG1 hp1
      have ht : SqL K H1 p1 [.str "split", .str "parts"] ∨ SqT K H1 p1 [.str "split", .str "parts"] := .inr (SqT.of hq1)
      have hs1 := same_t sm1 hs
      walk_at "ev"
      refine iteFe (in_sp_leaf hw) ?_
      walk_at "ev"
      exact q _ sm1
    | two hw hs hx hy =>
      rename_i a wd x y p1 p2
      cases n with
      | zero =>
        have : 1 + max (pdep p1) (pdep p2) ≤ 0 := hd
        omega
      | succ n =>
      have hS := hG n rfl
      subst hS
      have hd' : 1 + max (pdep p1) (pdep p2) ≤ n + 1 := hd
      obtain ⟨ok1, ok2, ok3, ok4⟩ := (show Ok p1 ∧ Ok p2 ∧ 1 ≤ plen p1 * plen p2 ∧ plen p1 * plen p2 ≤ 1000 from ok)
      walk_at "ev"
      intro t1 ht1
      generalize hG1 : upd _ t1 _ = H1
      obtain ⟨sm1, hq1⟩ := newO hG1 ht1
      have ht : SqL K H1 t1 [.str "split", .str "parts"] ∨ SqT K H1 t1 [.str "split", .str "parts"] := .inr (SqT.of hq1)
      have hs1 := same_t sm1 hs
      walk_at "ev"
      refine iteTe (in_sp hw) ?_
      have hx1 := hx.same sm1
      have hdx : pdep p1 ≤ n := by omega
      have hdy : pdep p2 ≤ n := by omega
      walk_at "ev"
      intro H2 sm2
      have hs2 := same_t sm2 hs1
      have hy2 := (hy.same sm1).same sm2
      walk_at "ev"
      intro H3 sm3
      have l1 := ok1.len
      have hcm : CMul (plen p1) (plen p2) := .inl ⟨by omega, by omega⟩
      walk_at "ev"
      exact q _ (sm1.trans (sm2.trans sm3))
    | led hw hs hx =>
      rename_i a wd m x p1
      walk_at "ev"
      intro t1 ht1
      generalize hG1 : upd _ t1 _ = H1
      obtain ⟨sm1, hq1⟩ := newO hG1 ht1
      have ht : SqL K H1 t1 [.str "split", .str "parts"] ∨ SqT K H1 t1 [.str "split", .str "parts"] := .inr (SqT.of hq1)
      have hs1 := same_t sm1 hs
      walk_at "ev"
      refine iteFe (in_sp_led hw) ?_
      walk_at "ev"
      exact q _ sm1
theorem ok_plen {f : Addr} {fd : FuncData} (D_plan_length : Df K mg "plan_length" s_plan_length P_plan_length f fd) (T : Blt mg) : ∀ n : Nat, FnOk P w K mg base CX0 (n + 1) f fd P_plan_length (spPlen K n)
  | 0 => plen_step (spI := fun _ _ _ _ => False) D_plan_length T ⟨fun _ _ _ _ h => h.elim, fun _ _ _ _ _ _ _ _ _ _ _ _ _ h => h.elim⟩ (fun m h => by omega)
  | n + 1 => plen_step D_plan_length T (ok_plen D_plan_length T n) (fun m h => by cases h; rfl)
end
/-! ### depths -/
inductive PlAll (K : PySem.W.Frag) (H : Hp) : List V → List Pl → Prop
  | nil : PlAll K H [] []
  | cons {v : V} {p : Pl} {vs : List V} {ps : List Pl} : PlAt K H v p → PlAll K H vs ps → PlAll K H (v :: vs) (p :: ps)
theorem PlAll.same {K : PySem.W.Frag} {H H' : Hp} {vs : List V} {ps : List Pl} (h : PlAll K H vs ps) (e : Same H H') : PlAll K H' vs ps := by
  induction h with
  | nil => exact .nil
  | cons a b i => exact .cons (a.same e) i
theorem PlAll.len {K : PySem.W.Frag} {H : Hp} {vs : List V} {ps : List Pl} (h : PlAll K H vs ps) : vs.length = ps.length := by
  induction h with
  | nil => rfl
  | cons a b i => rw [List.length_cons, List.length_cons, i]
theorem PlAll.get {K : PySem.W.Frag} {H : Hp} : ∀ {vs : List V} {ps : List Pl} {i : Nat} {v : V}, PlAll K H vs ps → vs[i]? = some v → ∃ p, ps[i]? = some p ∧ PlAt K H v p
  | _, _, _, _, .nil, h => by simp at h
  | _, _, 0, _, .cons (p := p) a b, h => ⟨p, rfl, by
      have e := Option.some.inj h
      rw [← e]
      exact a⟩
  | _, _, i + 1, _, .cons a b, h => PlAll.get (i := i) b h
theorem PlAt.mut {K : PySem.W.Frag} {H : Hp} {v : V} {p : Pl} {a : Addr} {xs : List V} {o : HO} (h : PlAt K H v p) (ha : H a = some (.lst xs)) : PlAt K (upd H a o) v p := by
  have go : ∀ {b : Addr} {ys : List V}, SqT K H b ys → SqT K (upd H a o) b ys := fun {b ys} e => by
    rcases e with (e | ⟨u, e⟩) | e
    · refine .inl (.inl ?_)
      rw [upd_ne (ne_of e ha (by intro q; cases q))]
      exact e
    · refine .inl (.inr ⟨u, ?_⟩)
      rw [upd_ne (ne_of e ha (by intro q; cases q))]
      exact e
    · exact .inr e
  induction h with
  | leaf a b => exact .leaf a (go b)
  | two a b c d i1 i2 => exact .two a (go b) i1 i2
  | led a b c i1 => exact .led a (go b) i1
theorem PlAll.mut {K : PySem.W.Frag} {H : Hp} {vs : List V} {ps : List Pl} {a : Addr} {xs : List V} {o : HO} (h : PlAll K H vs ps) (ha : H a = some (.lst xs)) : PlAll K (upd H a o) vs ps := by
  induction h with
  | nil => exact .nil
  | cons x y i => exact .cons (x.mut ha) i
def inn : Pl → List Pl
  | .leaf _ _ => []
  | .two _ a b => [a, b]
  | .led _ _ a => [a]
theorem inn_dep {p q : Pl} (h : q ∈ inn p) : pdep q + 1 ≤ pdep p := by
  cases p with
  | leaf w n => simp [inn] at h
  | two w a b =>
    have h' : q = a ∨ q = b := by simpa [inn] using h
    show pdep q + 1 ≤ 1 + max (pdep a) (pdep b)
    rcases h' with h | h <;> rw [h] <;> omega
  | led w n a =>
    have h' : q = a := by simpa [inn] using h
    show pdep q + 1 ≤ 1 + pdep a
    rw [h']
    omega
theorem inn_max {p : Pl} {m : Int} (h : m ∈ (inn p).map fun q => (pdep q : Int)) (hm : ∀ y ∈ (inn p).map (fun q => (pdep q : Int)), y ≤ m) : 1 + m = (pdep p : Int) := by
  cases p with
  | leaf w n => simp [inn] at h
  | two w a b =>
    have h' : m = (pdep a : Int) ∨ m = (pdep b : Int) := by simpa [inn] using h
    have h1 := hm (pdep a) (by simp [inn])
    have h2 := hm (pdep b) (by simp [inn])
    show 1 + m = ((1 + max (pdep a) (pdep b) : Nat) : Int)
    omega
  | led w n a =>
    have h' : m = (pdep a : Int) := by simpa [inn] using h
    show 1 + m = ((1 + pdep a : Nat) : Int)
    omega
def isT : V → Bool
  | .ref _ => true
  | _ => false
abbrev s_inner_plans : Stmt := top 13
abbrev N_inner_plans : List Str := ["plan", "part"]
abbrev P_inner_plans : List Str := ["plan"]
theorem sc_inner_plans : FnScope N_inner_plans P_inner_plans (defScope s_inner_plans) := ⟨rfl, rfl, rfl, by decide +kernel, rfl, by decide +kernel, by decide +kernel⟩
def spInner (K : PySem.W.Frag) : Sp := fun vs H Q _ => ∃ (v : V) (p : Pl), vs = [v] ∧ PlAt K H v p ∧ ∀ xs l H', H l = none → Same H H' → H' l = some (.lst xs) → PlAll K H' xs (inn p) → Q (.ref l) H'
section
variable {P : Program} {w : World} {K : PySem.W.Frag} {mg : Str → Option Value} {base : Heap}
theorem ok_inner {f : Addr} {fd : FuncData} {k : Nat} (F : Fun K "inner_plans" "inner_plans" s_inner_plans f fd) (T : Blt mg) : FnOk P w K mg base CX0 (k + 1) f fd P_inner_plans (spInner K) := by
  have nd := sc_inner_plans.nd
  refine F.ok sc_inner_plans (fun vs H Q E h => ?_) (fun cdv A outer s H vs Q E hr h => ?_)
  · obtain ⟨v, p, rfl, _⟩ := h
    rfl
  · obtain ⟨v, p, rfl, hp, q⟩ := h
    refine ⟨_, (pss_one (ps_ret (pe_lc (own := [("part", 1)]) (g := gName 1) (by rfl) nd (pi_tup (pe_slice (r := rSlT K) sl_tup (pv 0) (po_some (pe_int)) po_none)) (blkOk_by (own := [("part", 1)]) (N := N_inner_plans) (sc := defScope s_inner_plans) (by decide +kernel)) (fun _ _ _ _ _ => (pg_name (i := 1) nd rfl (Or.inl rfl))) (fun _ _ _ _ _ => pts_one (pt_val (pe_callB (r := rIsi K) call_isi (by rfl) T.b_isinstance (by decide +kernel) (pa_cons (pv 1) (pa_cons (pe_bltn (v := .ty "tuple") (by rfl) T.b_tuple (by decide +kernel) rfl) pa_nil))))) (fun _ _ _ _ _ => (pv 1))))), ?_⟩
    have key : ∃ a ys zs, v = .ref a ∧ SqT K H a ys ∧ cutV ys (some 1) none = zs ∧ (¬ (HT.sIx ys.length 0 (some 1) = 0 ∧ HT.sIx ys.length ys.length none = ys.length)) ∧ zs.length ≤ 2 ∧ (∀ x ∈ zs, ∃ t, Kd K H x t ∧ tis t "tuple" = isT x) ∧ PlAll K H (zs.filter isT) (inn p) := by
      cases hp with
      | leaf hw hs =>
        refine ⟨_, _, _, rfl, hs, rfl, (fun z => absurd z.1 (show ¬ HT.sIx 2 0 (some 1) = 0 by decide)), (show 1 ≤ 2 by decide), ?_, ?_⟩
        · intro x hx
          have e : x = .int _ := List.mem_singleton.mp hx
          rw [e]
          exact ⟨_, .int _, (show tis "int" "tuple" = false by decide)⟩
        · exact .nil
      | two hw hs hx hy =>
        rename_i a wd x y p1 p2
        refine ⟨_, _, [x, y], rfl, hs, rfl, (fun z => absurd z.1 (show ¬ HT.sIx 3 0 (some 1) = 0 by decide)), (show 2 ≤ 2 by decide), ?_, ?_⟩
        · intro z hz
          have e : z = x ∨ z = y := by simpa using hz
          have tt : tis "tuple" "tuple" = true := by decide
          rcases e with e | e
          · rw [e]
            refine ⟨_, hx.kd, ?_⟩
            cases hx <;> exact tt
          · rw [e]
            refine ⟨_, hy.kd, ?_⟩
            cases hy <;> exact tt
        · have e1 : isT x = true := by cases hx <;> rfl
          have e2 : isT y = true := by cases hy <;> rfl
          have e : [x, y].filter isT = [x, y] := by simp [e1, e2]
          rw [e]
          exact .cons hx (.cons hy .nil)
      | led hw hs hx =>
        rename_i a wd m x p1
        refine ⟨_, _, [.int m, x], rfl, hs, rfl, (fun z => absurd z.1 (show ¬ HT.sIx 3 0 (some 1) = 0 by decide)), (show 2 ≤ 2 by decide), ?_, ?_⟩
        · intro z hz
          have e : z = .int m ∨ z = x := by simpa using hz
          rcases e with e | e
          · rw [e]
            exact ⟨_, .int _, (show tis "int" "tuple" = false by decide)⟩
          · rw [e]
            refine ⟨_, hx.kd, ?_⟩
            have tt : tis "tuple" "tuple" = true := by decide
            cases hx <;> exact tt
        · have e1 : isT x = true := by cases hx <;> rfl
          have e2 : isT (.int m) = false := rfl
          have e : [.int m, x].filter isT = [x] := by simp [e1, e2]
          rw [e]
          exact .cons hx .nil
    obtain ⟨a, ys, zs, rfl, hs, hcut, hnw, hzl, hkd, hall⟩ := key
    walk_at "ev"
    intro t1 ht1
    rw [hcut]
    generalize hG1 : upd _ t1 _ = H1
    obtain ⟨sm1, hq1⟩ := newO hG1 ht1
    have ht : SqT K H1 t1 zs := SqT.of hq1
    have ht' : ∃ xs, SqT K H1 t1 xs := ⟨_, ht⟩
    walk_at "ev"
    intro D hD
    refine lc_tup (K := K) (a := t1) (xs := zs) (fun i H' => Hold (Same H1 H' ∧ H' D = some (.lst ((zs.take i).filter isT)))) (.mk ⟨same_new hD, upd_same⟩) ?_ ?_ ?_
    · intro i H2 hi hP
      obtain ⟨sm2, hD2⟩ := hP.un
      exact same_t sm2 ht
    · intro i x H2 hx hP
      obtain ⟨sm2, hD2⟩ := hP.un
      obtain ⟨t, kd0, et⟩ := hkd x (List.mem_of_getElem? hx)
      have kd := (kd0.same sm1).same sm2
      have ty := kd.ty
      obtain ⟨k1, k2, k3, k4, k5⟩ := kd.kit
      rw [et] at k5
      have hfl : ((zs.take i).filter isT).length < sizeLine := by
        refine szm (Nat.le_trans (List.length_filter_le _ _) ?_)
        rw [List.length_take]
        omega
      walk_at "ev"
      refine ite2 (fun e => ?_) (fun e => ?_)
      · walk_at "ev"
        refine .mk ⟨same_mut sm2 hD, ?_⟩
        rw [upd_same, List.take_add_one, hx, List.filter_append]
        simp [e]
      · refine .mk ⟨sm2, ?_⟩
        rw [hD2, List.take_add_one, hx, List.filter_append]
        simp [e]
    · intro H2 hP
      obtain ⟨sm2, hD2⟩ := hP.un
      rw [List.take_length] at hD2
      exact q _ D H2 (sm1.free hD) (sm1.trans sm2) hD2 ((hall.same sm1).same sm2)
end
abbrev s__law_length_of : Stmt := top 41
abbrev N__law_length_of : List Str := ["_law_thing"]
abbrev P__law_length_of : List Str := ["_law_thing"]
theorem sc__law_length_of : FnScope N__law_length_of P__law_length_of (defScope s__law_length_of) := ⟨rfl, rfl, rfl, by decide +kernel, rfl, by decide +kernel, by decide +kernel⟩
section
variable {P : Program} {w : World} {K : PySem.W.Frag} {mg : Str → Option Value} {base : Heap}
theorem lof_step {f : Addr} {fd : FuncData} {n : Nat} {spI : Sp} (D__law_length_of : Df K mg "_law_length_of" s__law_length_of P__law_length_of f fd) (T : Blt mg) (G__law_length_of : FnOk P w K mg base CX0 n f fd P__law_length_of spI) (hG : ∀ m, n = m + 1 → spI = spPlen K m) : FnOk P w K mg base CX0 (n + 1) f fd P__law_length_of (spPlen K n) := by
  have nd := sc__law_length_of.nd
  refine D__law_length_of.F.ok sc__law_length_of (fun vs H Q E h => ?_) (fun cdv A outer s H vs Q E hr h => ?_)
  · obtain ⟨v, p, rfl, _⟩ := h
    rfl
  · obtain ⟨v, p, rfl, hp, hd, ok, q⟩ := h
    refine ⟨_, (pss_cons (ps_if (pt_cmpR (r := rIn K false) op_in_seq (pe_ix (r := rIxT K) ix_tup (pv 0) (pe_int) (fun _ _ => rfl)) (pe_tup (pa_cons (pe_str) (pa_cons (pe_str) pa_nil))) (by rfl)) (pss_one (ps_ret (pe_op op_mul (pe_call G__law_length_of (hr.mono (by omega)) (by rfl) D__law_length_of.g D__law_length_of.F.kp D__law_length_of.b .nil pass0 (pa_cons (pe_ix (r := rIxT K) ix_tup (pv 0) (pe_int) (fun _ _ => rfl)) pa_nil)) (pe_call G__law_length_of (hr.mono (by omega)) (by rfl) D__law_length_of.g D__law_length_of.F.kp D__law_length_of.b .nil pass0 (pa_cons (pe_ix (r := rIxT K) ix_tup (pv 0) (pe_int) (fun _ _ => rfl)) pa_nil))))) pss_nil)
      (pss_one (ps_ret (pe_ix (r := rIxT K) ix_tup (pv 0) (pe_int) (fun _ _ => rfl))))), ?_⟩
    cases hp with
    | leaf hw hs =>
      rename_i a wd n
      have hat0 : atI [V.str wd, V.int n] 0 = some (.str wd) := rfl
      walk_at "ev"
      intro p1 hp1
      generalize hG1 : upd _ p1 _ = H1
      obtain ⟨sm1, hq1⟩ := newO hG1 hp1
      have ht : SqL K H1 p1 [.str "split", .str "parts"] ∨ SqT K H1 p1 [.str "split", .str "parts"] := .inr (SqT.of hq1)
      have hs1 := same_t sm1 hs
      walk_at "ev"
      refine iteFe (in_sp_leaf hw) ?_
      walk_at "ev"
      exact q _ sm1
    | two hw hs hx hy =>
      rename_i a wd x y p1 p2
      cases n with
      | zero =>
        have : 1 + max (pdep p1) (pdep p2) ≤ 0 := hd
        omega
      | succ n =>
      have hS := hG n rfl
      subst hS
      have hd' : 1 + max (pdep p1) (pdep p2) ≤ n + 1 := hd
      obtain ⟨ok1, ok2, ok3, ok4⟩ := (show Ok p1 ∧ Ok p2 ∧ 1 ≤ plen p1 * plen p2 ∧ plen p1 * plen p2 ≤ 1000 from ok)
      walk_at "ev"
      intro t1 ht1
      generalize hG1 : upd _ t1 _ = H1
      obtain ⟨sm1, hq1⟩ := newO hG1 ht1
      have ht : SqL K H1 t1 [.str "split", .str "parts"] ∨ SqT K H1 t1 [.str "split", .str "parts"] := .inr (SqT.of hq1)
      have hs1 := same_t sm1 hs
      walk_at "ev"
      refine iteTe (in_sp hw) ?_
      have hx1 := hx.same sm1
      have hdx : pdep p1 ≤ n := by omega
      have hdy : pdep p2 ≤ n := by omega
      walk_at "ev"
      intro H2 sm2
      have hs2 := same_t sm2 hs1
      have hy2 := (hy.same sm1).same sm2
      walk_at "ev"
      intro H3 sm3
      have l1 := ok1.len
      have hcm : CMul (plen p1) (plen p2) := .inl ⟨by omega, by omega⟩
      walk_at "ev"
      exact q _ (sm1.trans (sm2.trans sm3))
    | led hw hs hx =>
      rename_i a wd m x p1
      walk_at "ev"
      intro t1 ht1
      generalize hG1 : upd _ t1 _ = H1
      obtain ⟨sm1, hq1⟩ := newO hG1 ht1
      have ht : SqL K H1 t1 [.str "split", .str "parts"] ∨ SqT K H1 t1 [.str "split", .str "parts"] := .inr (SqT.of hq1)
      have hs1 := same_t sm1 hs
      walk_at "ev"
      refine iteFe (in_sp_led hw) ?_
      walk_at "ev"
      exact q _ sm1
theorem ok_lof {f : Addr} {fd : FuncData} (D__law_length_of : Df K mg "_law_length_of" s__law_length_of P__law_length_of f fd) (T : Blt mg) : ∀ n : Nat, FnOk P w K mg base CX0 (n + 1) f fd P__law_length_of (spPlen K n)
  | 0 => lof_step (spI := fun _ _ _ _ => False) D__law_length_of T ⟨fun _ _ _ _ h => h.elim, fun _ _ _ _ _ _ _ _ _ _ _ _ _ h => h.elim⟩ (fun m h => by omega)
  | n + 1 => lof_step D__law_length_of T (ok_lof D__law_length_of T n) (fun m h => by cases h; rfl)
end
/-! ### the lengths in a plan -/
def lens : Pl → List Int
  | .leaf _ n => [n]
  | .two _ a b => plen a * plen b :: (lens a ++ lens b)
  | .led _ n a => n :: lens a
theorem lens_len : ∀ p : Pl, (lens p).length + 1 ≤ 2 ^ (pdep p + 1)
  | .leaf _ _ => (show 1 + 1 ≤ 2 ^ (0 + 1) by decide)
  | .two w a b => by
    have h1 := lens_len a
    have h2 := lens_len b
    have e : pdep (.two w a b) = 1 + max (pdep a) (pdep b) := rfl
    have m1 : 2 ^ (pdep a + 1) ≤ 2 ^ (max (pdep a) (pdep b) + 1) := Nat.pow_le_pow_right (by decide) (by omega)
    have m2 : 2 ^ (pdep b + 1) ≤ 2 ^ (max (pdep a) (pdep b) + 1) := Nat.pow_le_pow_right (by decide) (by omega)
    have e2 : 2 ^ (1 + max (pdep a) (pdep b) + 1) = 2 * 2 ^ (max (pdep a) (pdep b) + 1) := by
      rw [show 1 + max (pdep a) (pdep b) + 1 = (max (pdep a) (pdep b) + 1) + 1 by omega, Nat.pow_succ, Nat.mul_comm]
    rw [e, e2]
    show (lens a ++ lens b).length + 1 + 1 ≤ _
    rw [List.length_append]
    omega
  | .led w n a => by
    have h1 := lens_len a
    have e : pdep (.led w n a) = 1 + pdep a := rfl
    have e2 : 2 ^ (1 + pdep a + 1) = 2 * 2 ^ (pdep a + 1) := by
      rw [show 1 + pdep a + 1 = (pdep a + 1) + 1 by omega, Nat.pow_succ, Nat.mul_comm]
    rw [e, e2]
    show (lens a).length + 1 + 1 ≤ _
    omega
theorem lens_63 {p : Pl} (h : pdep p ≤ 5) : (lens p).length ≤ 63 := by
  have h1 := lens_len p
  have h2 : 2 ^ (pdep p + 1) ≤ 2 ^ 6 := Nat.pow_le_pow_right (by decide) (by omega)
  have h3 : (2 : Nat) ^ 6 = 64 := by decide
  omega
theorem lens_inn : ∀ p : Pl, lens p = plen p :: ((inn p).map lens).flatten
  | .leaf _ _ => rfl
  | .two _ a b => by simp [lens, inn, plen]
  | .led _ _ a => by simp [lens, inn, plen]
theorem inn_ok {p q : Pl} (h : Ok p) (hq : q ∈ inn p) : Ok q := by
  cases p with
  | leaf w n => simp [inn] at hq
  | two w a b =>
    obtain ⟨h1, h2, _⟩ := h
    have h' : q = a ∨ q = b := by simpa [inn] using hq
    rcases h' with e | e <;> rw [e] <;> assumption
  | led w n a =>
    obtain ⟨_, _, h1⟩ := h
    have h' : q = a := by simpa [inn] using hq
    rw [h']
    exact h1
abbrev s_lengths_in : Stmt := top 14
abbrev N_lengths_in : List Str := ["plan", "found", "inner"]
abbrev P_lengths_in : List Str := ["plan"]
theorem sc_lengths_in : FnScope N_lengths_in P_lengths_in (defScope s_lengths_in) := ⟨rfl, rfl, rfl, by decide +kernel, rfl, by decide +kernel, by decide +kernel⟩
def spLens (K : PySem.W.Frag) (d : Nat) : Sp := fun vs H Q _ => ∃ (v : V) (p : Pl), vs = [v] ∧ PlAt K H v p ∧ pdep p ≤ d ∧ d ≤ 5 ∧ Ok p ∧ ∀ l H', H l = none → Same H H' → H' l = some (.lst ((lens p).map V.int)) → Q (.ref l) H'
section
variable {P : Program} {w : World} {K : PySem.W.Frag} {mg : Str → Option Value} {base : Heap}
theorem lens_step {f f1 f2 : Addr} {fd d1 d2 : FuncData} {n : Nat} {spI : Sp} (D_lengths_in : Df K mg "lengths_in" s_lengths_in P_lengths_in f fd) (D_plan_length : Df K mg "plan_length" s_plan_length P_plan_length f1 d1) (D_inner_plans : Df K mg "inner_plans" s_inner_plans P_inner_plans f2 d2) (T : Blt mg) (G_lengths_in : FnOk P w K mg base CX0 (n + 1) f fd P_lengths_in spI) (hG : ∀ m, n = m + 1 → spI = spLens K m) : FnOk P w K mg base CX0 (n + 2) f fd P_lengths_in (spLens K n) := by
  have G_plan_length : FnOk P w K mg base CX0 (n + 1) f1 d1 P_plan_length (spPlen K n) := ok_plen D_plan_length T n
  have G_inner_plans : FnOk P w K mg base CX0 1 f2 d2 P_inner_plans (spInner K) := ok_inner D_inner_plans.F T
  have nd := sc_lengths_in.nd
  refine D_lengths_in.F.ok sc_lengths_in (fun vs H Q E h => ?_) (fun cdv A outer s H vs Q E hr h => ?_)
  · obtain ⟨v, p, rfl, _⟩ := h
    rfl
  · obtain ⟨v, p, rfl, hp, hd, hd5, ok, q⟩ := h
    refine ⟨_, (pss_cons (ps_set (i := 1) nd rfl (Or.inl rfl) (pe_lst (pa_cons (pe_call G_plan_length (hr.mono (by omega)) (by rfl) D_plan_length.g D_plan_length.F.kp D_plan_length.b .nil pass0 (pa_cons (pv 0) pa_nil)) pa_nil)))
      (pss_cons (ps_for PassesOwn.never rfl (pi_list (pe_call G_inner_plans (hr.mono (by omega)) (by rfl) D_inner_plans.g D_inner_plans.F.kp D_inner_plans.b .nil pass0 (pa_cons (pv 0) pa_nil))) (pg_name (i := 2) nd rfl (Or.inl rfl))
      (pss_one (ps_expr (pe_bm PySem.F.plainAttrs_list PySem.F.slot_list_extend PySem.F.type_list_extend mt_extend (pv 1) (pa_cons (pe_call G_lengths_in (hr.mono (by omega)) (by rfl) D_lengths_in.g D_lengths_in.F.kp D_lengths_in.b .nil pass0 (pa_cons (pv 2) pa_nil)) pa_nil)))))
      (pss_one (ps_ret (pv 1))))), ?_⟩
    walk_at "ev"
    intro H1 sm1
    walk_at "ev"
    intro l hl
    generalize hG1 : upd _ l _ = H2
    obtain ⟨sm2, hq2⟩ := newO hG1 hl
    have hlf : H l = none := sm1.free hl
    have hp2 := (hp.same sm1).same sm2
    walk_at "ev"
    intro xs li H3 hli sm3 hq3 hall
    have hL3 : SqL K H3 li xs := SqL.of hq3
    have hL3' : ∃ xs, SqL K H3 li xs := ⟨_, hL3⟩
    have hlen := hall.len
    have nll : li ≠ l := (ne_of_none hq2 hli).symm
    have hlif : H li = none := (sm1.trans sm2).free hli
    walk_at "ev"
    refine for_list (K := K) (a := li) (xs := xs) (fun i σ H' => Hold (∃ s2, σ = [some v, some (.ref l), s2] ∧ Same H H' ∧ H' li = some (.lst xs) ∧ PlAll K H' xs (inn p) ∧ H' l = some (.lst ((plen p :: (((inn p).take i).map lens).flatten).map V.int)))) (.mk ⟨none, rfl, sm1.trans (sm2.trans sm3), hq3, hall, sm3 _ _ hq2⟩) ?_ ?_ ?_
    · intro i σ H4 hi hP
      obtain ⟨s2, rfl, sm4, hq4, hall4, hl4⟩ := hP.un
      exact SqL.of hq4
    · intro i x σ H4 hx hP
      obtain ⟨s2, rfl, sm4, hq4, hall4, hl4⟩ := hP.un
      obtain ⟨pp, hpp, hat⟩ := hall4.get hx
      have hdp := inn_dep (List.mem_of_getElem? hpp)
      have hn : ∃ m, n = m + 1 := ⟨n - 1, by omega⟩
      obtain ⟨m, rfl⟩ := hn
      have hS := hG m rfl
      subst hS
      have hdp2 : pdep pp ≤ m := by omega
      have hm5 : m ≤ 5 := by omega
      have okp := inn_ok ok (List.mem_of_getElem? hpp)
      have hty : tyV K "list" (.ref l) H4 := .inl ⟨rfl, _, SqL.of hl4⟩
      walk_at "ev"
      intro l5 H5 hl5 sm5 hq5
      have hl5' := sm5 _ _ hl4
      have n5 : l5 ≠ l := (ne_of_none hl4 hl5).symm
      have hsz : ((plen p :: (((inn p).take i).map lens).flatten).map V.int).length + ((lens pp).map V.int).length ≤ sizeLine := by
        rw [List.length_map, List.length_map]
        refine szl ?_
        have h1 := lens_63 (p := p) (by omega)
        have h2 := lens_63 (p := pp) (by omega)
        rw [lens_inn p] at h1
        have h3 : (((inn p).take i).map lens).flatten.length ≤ ((inn p).map lens).flatten.length := by
          rw [List.map_take]
          conv => rhs; rw [← List.take_append_drop i ((inn p).map lens), List.flatten_append, List.length_append]
          omega
        simp only [List.length_cons] at h1 ⊢
        omega
      walk_at "ev"
      refine .mk ⟨_, rfl, same_mut (sm4.trans sm5) hlf, ?_, ?_, ?_⟩
      · rw [upd_ne nll]
        exact sm5 _ _ hq4
      · have h5 := hall4.same sm5
        exact h5.mut hl5'
      · rw [upd_same, List.take_add_one, hpp, List.map_append, List.flatten_append]
        simp
    · intro σ H4 hP
      obtain ⟨s2, rfl, sm4, hq4, hall4, hl4⟩ := hP.un
      rw [hlen, List.take_length, ← lens_inn] at hl4
      walk_at "ev"
      exact q l H4 hlf sm4 hl4
theorem ok_lens {f f1 f2 : Addr} {fd d1 d2 : FuncData} (D_lengths_in : Df K mg "lengths_in" s_lengths_in P_lengths_in f fd) (D_plan_length : Df K mg "plan_length" s_plan_length P_plan_length f1 d1) (D_inner_plans : Df K mg "inner_plans" s_inner_plans P_inner_plans f2 d2) (T : Blt mg) : ∀ n : Nat, FnOk P w K mg base CX0 (n + 2) f fd P_lengths_in (spLens K n)
  | 0 => lens_step (spI := fun _ _ _ _ => False) D_lengths_in D_plan_length D_inner_plans T ⟨fun _ _ _ _ h => h.elim, fun _ _ _ _ _ _ _ _ _ _ _ _ _ h => h.elim⟩ (fun m h => by omega)
  | n + 1 => lens_step D_lengths_in D_plan_length D_inner_plans T (ok_lens D_lengths_in D_plan_length D_inner_plans T n) (fun m h => by cases h; rfl)
end
abbrev s_plan_lengths : Stmt := top 15
abbrev N_plan_lengths : List Str := ["plan"]
abbrev P_plan_lengths : List Str := ["plan"]
theorem sc_plan_lengths : FnScope N_plan_lengths P_plan_lengths (defScope s_plan_lengths) := ⟨rfl, rfl, rfl, by decide +kernel, rfl, by decide +kernel, by decide +kernel⟩
def spPlens (K : PySem.W.Frag) : Sp := fun vs H Q _ => ∃ (v : V) (p : Pl), vs = [v] ∧ PlAt K H v p ∧ pdep p ≤ 5 ∧ Ok p ∧ ∀ (out : List Int) l H', H l = none → Same H H' → H' l = some (.lst (out.map V.int)) → out.Pairwise (· < ·) → (∀ k, k ∈ out ↔ k ∈ lens p) → out.length ≤ 63 → Q (.ref l) H'
section
variable {P : Program} {w : World} {K : PySem.W.Frag} {mg : Str → Option Value} {base : Heap}
theorem ok_plens {f f0 f1 f2 : Addr} {fd d0 d1 d2 : FuncData} (F : Fun K "plan_lengths" "plan_lengths" s_plan_lengths f fd) (D_lengths_in : Df K mg "lengths_in" s_lengths_in P_lengths_in f0 d0) (D_plan_length : Df K mg "plan_length" s_plan_length P_plan_length f1 d1) (D_inner_plans : Df K mg "inner_plans" s_inner_plans P_inner_plans f2 d2) (T : Blt mg) : FnOk P w K mg base CX0 8 f fd P_plan_lengths (spPlens K) := by
  have G_lengths_in : FnOk P w K mg base CX0 7 f0 d0 P_lengths_in (spLens K 5) := ok_lens D_lengths_in D_plan_length D_inner_plans T 5
  have nd := sc_plan_lengths.nd
  refine F.ok sc_plan_lengths (fun vs H Q E h => ?_) (fun cdv A outer s H vs Q E hr h => ?_)
  · obtain ⟨v, p, rfl, _⟩ := h
    rfl
  · obtain ⟨v, p, rfl, hp, hd, ok, q⟩ := h
    refine ⟨_, (pss_one (ps_ret (pe_sortSet (by rfl) T.b_sorted (by rfl) T.b_set (pe_call G_lengths_in (hr.mono (by omega)) (by rfl) D_lengths_in.g D_lengths_in.F.kp D_lengths_in.b .nil pass0 (pa_cons (pv 0) pa_nil))))), ?_⟩
    have d5 : (5 : Nat) ≤ 5 := Nat.le_refl _
    walk_at "ev"
    intro l H1 hl sm1 hq1
    have hL : SqL K H1 l ((lens p).map V.int) := SqL.of hq1
    have h63 := lens_63 hd
    have h64 : (lens p).length ≤ 4000 := by omega
    refine ⟨l, lens p, rfl, hL, h64, ?_⟩
    intro out p2 hp2 hs hm hol
    generalize hG2 : upd _ p2 _ = H2
    obtain ⟨sm2, hq2⟩ := newO hG2 hp2
    exact q out p2 H2 (sm1.free hp2) (sm1.trans sm2) hq2 hs hm (by omega)
end
abbrev s__law_lengths_in : Stmt := top 43
abbrev N__law_lengths_in : List Str := ["_law_thing", "_law_found", "_law_inner", "_law_one"]
abbrev P__law_lengths_in : List Str := ["_law_thing"]
theorem sc__law_lengths_in : FnScope N__law_lengths_in P__law_lengths_in (defScope s__law_lengths_in) := ⟨rfl, rfl, rfl, by decide +kernel, rfl, by decide +kernel, by decide +kernel⟩
section
variable {P : Program} {w : World} {K : PySem.W.Frag} {mg : Str → Option Value} {base : Heap}
theorem ownl_step {f f1 : Addr} {fd d1 : FuncData} {n : Nat} {spI : Sp} (D__law_lengths_in : Df K mg "_law_lengths_in" s__law_lengths_in P__law_lengths_in f fd) (D__law_length_of : Df K mg "_law_length_of" s__law_length_of P__law_length_of f1 d1) (T : Blt mg) (G__law_lengths_in : FnOk P w K mg base CX0 (n + 1) f fd P__law_lengths_in spI) (hG : ∀ m, n = m + 1 → spI = spLens K m) : FnOk P w K mg base CX0 (n + 2) f fd P__law_lengths_in (spLens K n) := by
  have G__law_length_of : FnOk P w K mg base CX0 (n + 1) f1 d1 P__law_length_of (spPlen K n) := ok_lof D__law_length_of T n
  have nd := sc__law_lengths_in.nd
  refine D__law_lengths_in.F.ok sc__law_lengths_in (fun vs H Q E h => ?_) (fun cdv A outer s H vs Q E hr h => ?_)
  · obtain ⟨v, p, rfl, _⟩ := h
    rfl
  · obtain ⟨v, p, rfl, hp, hd, hd5, ok, q⟩ := h
    have tail : ∃ tl, PSs (cxOf CX0 P w K mg base N__law_lengths_in "_law_lengths_in" (defScope s__law_lengths_in) f cdv A outer s H E).nox ((defBody s__law_lengths_in).drop 2) tl ∧ ∀ (l t : Addr) (xs : List V) (H3 : Hp), H l = none → Same H H3 → H3 l = some (.lst [.int (plen p)]) → H3 t = some (.tup xs) → PlAll K H3 xs (inn p) → tl { nx := fun _ H' => Q .non H', rt := Q } [some v, some (.ref l), some (.ref t), none] H3 := by
      refine ⟨_, (pss_cons (ps_for PassesOwn.never rfl (pi_tup (pv 2)) (pg_name (i := 3) nd rfl (Or.inl rfl))
      (pss_one (ps_set (i := 1) nd rfl (Or.inl rfl) (pe_op op_cat (pv 1) (pe_call G__law_lengths_in (hr.mono (by omega)) (by rfl) D__law_lengths_in.g D__law_lengths_in.F.kp D__law_lengths_in.b .nil pass0 (pa_cons (pv 3) pa_nil))))))
      (pss_one (ps_ret (pv 1)))), ?_⟩
      intro l t xs H3 hlf sm3 hq3 ht3 hall
      have hlen := hall.len
      have hT3 : SqT K H3 t xs := SqT.of ht3
      have hT3' : ∃ xs, SqT K H3 t xs := ⟨_, hT3⟩
      walk_at "ev"
      refine for_tup (K := K) (a := t) (xs := xs) (fun i σ H' => Hold (∃ l' s3, σ = [some v, some (.ref l'), some (.ref t), s3] ∧ H l' = none ∧ Same H3 H' ∧ H' l' = some (.lst ((plen p :: (((inn p).take i).map lens).flatten).map V.int)))) (.mk ⟨l, none, rfl, hlf, Same.refl _, hq3⟩) ?_ ?_ ?_
      · intro i σ H4 hi hP
        obtain ⟨l', s3, rfl, hl', sm4, hq4⟩ := hP.un
        exact same_t sm4 hT3
      · intro i x σ H4 hx hP
        obtain ⟨l', s3, rfl, hl', sm4, hq4⟩ := hP.un
        obtain ⟨pp, hpp, hat0⟩ := hall.get hx
        have hat := hat0.same sm4
        have hdp := inn_dep (List.mem_of_getElem? hpp)
        obtain ⟨m, rfl⟩ : ∃ m, n = m + 1 := ⟨n - 1, by omega⟩
        have hS := hG m rfl
        subst hS
        have hdp2 : pdep pp ≤ m := by omega
        have hm5 : m ≤ 5 := by omega
        have okp := inn_ok ok (List.mem_of_getElem? hpp)
        walk_at "ev"
        intro l5 H5 hl5 sm5 hq5
        have hl5' := sm5 _ _ hq4
        have hsz : ((plen p :: (((inn p).take i).map lens).flatten).map V.int).length + ((lens pp).map V.int).length ≤ sizeLine := by
          rw [List.length_map, List.length_map]
          refine szl ?_
          have h1 := lens_63 (p := p) (by omega)
          have h2 := lens_63 (p := pp) (by omega)
          rw [lens_inn p] at h1
          have h3 : (((inn p).take i).map lens).flatten.length ≤ ((inn p).map lens).flatten.length := by
            rw [List.map_take]
            conv => rhs; rw [← List.take_append_drop i ((inn p).map lens), List.flatten_append, List.length_append]
            omega
          simp only [List.length_cons] at h1 ⊢
          omega
        walk_at "ev"
        intro l6 hl6
        generalize hG6 : upd _ l6 _ = H6
        obtain ⟨sm6, hq6⟩ := newO hG6 hl6
        refine .mk ⟨l6, _, rfl, (sm3.trans (sm4.trans sm5)).free hl6, sm4.trans (sm5.trans sm6), ?_⟩
        rw [hq6, List.take_add_one, hpp, List.map_append, List.flatten_append]
        simp
      · intro σ H4 hP
        obtain ⟨l', s3, rfl, hl', sm4, hq4⟩ := hP.un
        rw [hlen, List.take_length, ← lens_inn] at hq4
        walk_at "ev"
        exact q l' H4 hl' (sm3.trans sm4) hq4
    obtain ⟨tl, htl, fin⟩ := tail
    refine ⟨_, (pss_cons (ps_set (i := 1) nd rfl (Or.inl rfl) (pe_lst (pa_cons (pe_call G__law_length_of (hr.mono (by omega)) (by rfl) D__law_length_of.g D__law_length_of.F.kp D__law_length_of.b .nil pass0 (pa_cons (pv 0) pa_nil)) pa_nil)))
      (pss_cons (ps_set (i := 2) nd rfl (Or.inl rfl) (pe_ifExp (pt_cmpR (r := rIn K false) op_in_seq (pe_ix (r := rIxT K) ix_tup (pv 0) (pe_int) (fun _ _ => rfl)) (pe_tup (pa_cons (pe_str) (pa_cons (pe_str) pa_nil))) (by rfl)) (pe_slice (r := rSlT K) sl_tup (pv 0) (po_some (pe_int)) po_none) (pe_slice (r := rSlT K) sl_tup (pv 0) (po_some (pe_int)) po_none)))
      htl)), ?_⟩
    walk_at "ev"
    intro H1 sm1
    walk_at "ev"
    intro l hl
    generalize hG1 : upd _ l _ = H2
    obtain ⟨sm2, hq2⟩ := newO hG1 hl
    have hlf : H l = none := sm1.free hl
    have sm02 := sm1.trans sm2
    cases hp with
    | leaf hw hs =>
      rename_i a wd m
      have hs2 := same_t sm02 hs
      have hnw : ¬ (HT.sIx [V.str wd, V.int m].length 0 (some 2) = 0 ∧ HT.sIx [V.str wd, V.int m].length [V.str wd, V.int m].length none = [V.str wd, V.int m].length) := fun z => absurd z.1 (show ¬ HT.sIx 2 0 (some 2) = 0 by decide)
      walk_at "ev"
      intro t1 ht1
      generalize hG3 : upd _ t1 _ = H3
      obtain ⟨sm3, hq3⟩ := newO hG3 ht1
      have hin : SqL K H3 t1 [.str "split", .str "parts"] ∨ SqT K H3 t1 [.str "split", .str "parts"] := .inr (SqT.of hq3)
      have hs3 := same_t sm3 hs2
      walk_at "ev"
      refine iteFe (in_sp_leaf hw) ?_
      walk_at "ev"
      intro t2 ht2
      generalize hG4 : upd _ t2 _ = H4
      obtain ⟨sm4, hq4⟩ := newO hG4 ht2
      exact fin l t2 [] H4 hlf (sm02.trans (sm3.trans sm4)) ((sm3.trans sm4) _ _ hq2) hq4 .nil
    | two hw hs hx hy =>
      rename_i a wd x y p1 p2
      have hs2 := same_t sm02 hs
      have hnw : ¬ (HT.sIx [V.str wd, x, y].length 0 (some 1) = 0 ∧ HT.sIx [V.str wd, x, y].length [V.str wd, x, y].length none = [V.str wd, x, y].length) := fun z => absurd z.1 (show ¬ HT.sIx 3 0 (some 1) = 0 by decide)
      walk_at "ev"
      intro t1 ht1
      generalize hG3 : upd _ t1 _ = H3
      obtain ⟨sm3, hq3⟩ := newO hG3 ht1
      have hin : SqL K H3 t1 [.str "split", .str "parts"] ∨ SqT K H3 t1 [.str "split", .str "parts"] := .inr (SqT.of hq3)
      have hs3 := same_t sm3 hs2
      walk_at "ev"
      refine iteTe (in_sp hw) ?_
      walk_at "ev"
      intro t2 ht2
      generalize hG4 : upd _ t2 _ = H4
      obtain ⟨sm4, hq4⟩ := newO hG4 ht2
      have smz := sm02.trans (sm3.trans sm4)
      exact fin l t2 [x, y] H4 hlf smz ((sm3.trans sm4) _ _ hq2) hq4 (.cons (hx.same smz) (.cons (hy.same smz) .nil))
    | led hw hs hx =>
      rename_i a wd m x p1
      have hs2 := same_t sm02 hs
      have hnw : ¬ (HT.sIx [V.str wd, V.int m, x].length 0 (some 2) = 0 ∧ HT.sIx [V.str wd, V.int m, x].length [V.str wd, V.int m, x].length none = [V.str wd, V.int m, x].length) := fun z => absurd z.1 (show ¬ HT.sIx 3 0 (some 2) = 0 by decide)
      walk_at "ev"
      intro t1 ht1
      generalize hG3 : upd _ t1 _ = H3
      obtain ⟨sm3, hq3⟩ := newO hG3 ht1
      have hin : SqL K H3 t1 [.str "split", .str "parts"] ∨ SqT K H3 t1 [.str "split", .str "parts"] := .inr (SqT.of hq3)
      have hs3 := same_t sm3 hs2
      walk_at "ev"
      refine iteFe (in_sp_led hw) ?_
      walk_at "ev"
      intro t2 ht2
      generalize hG4 : upd _ t2 _ = H4
      obtain ⟨sm4, hq4⟩ := newO hG4 ht2
      have smz := sm02.trans (sm3.trans sm4)
      exact fin l t2 [x] H4 hlf smz ((sm3.trans sm4) _ _ hq2) hq4 (.cons (hx.same smz) .nil)
theorem ok_ownl {f f1 : Addr} {fd d1 : FuncData} (D__law_lengths_in : Df K mg "_law_lengths_in" s__law_lengths_in P__law_lengths_in f fd) (D__law_length_of : Df K mg "_law_length_of" s__law_length_of P__law_length_of f1 d1) (T : Blt mg) : ∀ n : Nat, FnOk P w K mg base CX0 (n + 2) f fd P__law_lengths_in (spLens K n)
  | 0 => ownl_step (spI := fun _ _ _ _ => False) D__law_lengths_in D__law_length_of T ⟨fun _ _ _ _ h => h.elim, fun _ _ _ _ _ _ _ _ _ _ _ _ _ h => h.elim⟩ (fun m h => by omega)
  | n + 1 => ownl_step D__law_lengths_in D__law_length_of T (ok_ownl D__law_lengths_in D__law_length_of T n) (fun m h => by cases h; rfl)
end
abbrev s__law_shares : Stmt := top 30
abbrev N__law_shares : List Str := ["_law_one", "_law_two", "_law_turn"]
abbrev P__law_shares : List Str := ["_law_one", "_law_two"]
theorem sc__law_shares : FnScope N__law_shares P__law_shares (defScope s__law_shares) := ⟨rfl, rfl, rfl, by decide +kernel, rfl, by decide +kernel, by decide +kernel⟩
def spShares : Sp := fun vs H Q _ => ∃ (x y : Int), vs = [.int x, .int y] ∧ 0 ≤ x ∧ 0 ≤ y ∧ ∀ b : Bool, Q (.bl b) H
section
variable {P : Program} {w : World} {K : PySem.W.Frag} {mg : Str → Option Value} {base : Heap}
theorem ok_shares0 {f : Addr} {fd : FuncData} {k : Nat} (F : Fun K "_law_shares" "_law_shares" s__law_shares f fd) (T : Blt mg) : FnOk P w K mg base CX0 (k + 1) f fd P__law_shares spShares := by
  have nd := sc__law_shares.nd
  refine F.ok sc__law_shares (fun vs H Q E h => ?_) (fun cdv A outer s H vs Q E hr h => ?_)
  · obtain ⟨x, y, rfl, _⟩ := h
    rfl
  · obtain ⟨x, y, rfl, hx, hy, q⟩ := h
    refine ⟨_, (pss_cons (ps_for PassesOwn.never rfl (pi_range1 (by rfl) T.b_range (pa_cons (pe_int) pa_nil)) (pg_name (i := 2) nd rfl (Or.inl rfl))
      (pss_cons (ps_if (pt_cmpR op_eq (pv 1) (pe_int) (nomark _)) (pss_one (ps_ret (pe_cmpR op_gt (pv 0) (pe_int) (nomark _)))) pss_nil)
      (pss_one (ps_par (i := 0) (j := 1) (by rfl) nd rfl rfl (by decide) rfl rfl (pa_cons (pv 1) (pa_cons (pe_op op_mod (pv 0) (pv 1)) pa_nil)) (by rfl)))))
      (pss_one (ps_ret (pe_bl)))), ?_⟩
    walk_at "ev"
    refine for_range (lo := 0) (n := (64 : Int).toNat) (fun i σ H' => Hold (∃ (x y : Int) (s2 : Option V), σ = [some (.int x), some (.int y), s2] ∧ 0 ≤ x ∧ 0 ≤ y ∧ H' = H)) (.mk ⟨x, y, none, rfl, hx, hy, rfl⟩) ?_ ?_
    · intro i σ H' hi hP
      obtain ⟨x, y, s2, rfl, hx, hy, rfl⟩ := hP.un
      walk_at "ev"
      refine ite2 (fun e => ?_) (fun e => ?_)
      · walk_at "ev"
        exact q _
      · have e1 : y ≠ 0 := fun z => e (decide_eq_true (congrArg V.int z))
        walk_at "ev"
        exact .mk ⟨_, _, _, rfl, hy, Int.emod_nonneg _ e1, rfl⟩
    · intro σ H' hP
      obtain ⟨x, y, s2, rfl, hx, hy, rfl⟩ := hP.un
      walk_at "ev"
      exact q _
end
/-! ### the law's own plans -/
abbrev s__law_any_plan : Stmt := top 42
abbrev N__law_any_plan : List Str := ["_law_box_here", "_law_length", "_law_deep", "_law_some", "_law_parts", "_law_way", "_law_one", "_law_part"]
abbrev P__law_any_plan : List Str := ["_law_box_here", "_law_length", "_law_deep"]
theorem sc__law_any_plan : FnScope N__law_any_plan P__law_any_plan (defScope s__law_any_plan) := ⟨rfl, rfl, rfl, by decide +kernel, rfl, by decide +kernel, by decide +kernel⟩
inductive Way (H : Hp) (n : Int) (d : Nat) : V → Prop
  | leaf {a : Addr} {w : Str} : (w = "plain" ∨ w = "short") → H a = some (.tup [.str w]) → Way H n d (.ref a)
  | pow {a : Addr} : 0 < d → 2 < n → H a = some (.tup [.str "powers"]) → Way H n d (.ref a)
  | two {a : Addr} {w : Str} {k : Int} : (w = "split" ∨ w = "parts") → 0 < d → 2 ≤ k → k < n → n % k = 0 → H a = some (.tup [.str w, .int k]) → Way H n d (.ref a)
  | str {a : Addr} {m : Int} : 0 < d → 1 < n → 2 * n - 1 ≤ m → m ≤ 242 → H a = some (.tup [.str "stretch", .int m]) → Way H n d (.ref a)
theorem Way.same {H H' : Hp} {n : Int} {d : Nat} {v : V} (h : Way H n d v) (e : Same H H') : Way H' n d v := by
  cases h with
  | leaf a b => exact .leaf a (e _ _ b)
  | pow a b c => exact .pow a b (e _ _ c)
  | two a b c d f g => exact .two a b c d f (e _ _ g)
  | str a b c d f => exact .str a b c d (e _ _ f)
theorem keep_at {H H' : Hp} {b a : Addr} {c : Int} {xs : List V} (e : Keep b H H') (hb : BoxAt H b c) (h : H a = some (.tup xs)) : H' a = some (.tup xs) := by
  obtain ⟨x, y, z, e1, e2⟩ := hb
  exact e _ _ (ne_of h e1 (by intro q; cases q)) h
theorem Way.keep {H H' : Hp} {n : Int} {d : Nat} {v : V} {b : Addr} {c : Int} (h : Way H n d v) (e : Keep b H H') (hb : BoxAt H b c) : Way H' n d v := by
  cases h with
  | leaf a b => exact .leaf a (keep_at e hb b)
  | pow a b c => exact .pow a b (keep_at e hb c)
  | two a b c d f g => exact .two a b c d f (keep_at e hb g)
  | str a b c d f => exact .str a b c d (keep_at e hb f)
theorem Way.mut {H : Hp} {n : Int} {d : Nat} {v : V} {p : Addr} {xs : List V} {o : HO} (h : Way H n d v) (hp : H p = some (.lst xs)) : Way (upd H p o) n d v := by
  have go : ∀ {a : Addr} {ys : List V}, H a = some (.tup ys) → upd H p o a = some (.tup ys) := fun {a ys} e => by
    rw [upd_ne (ne_of e hp (by intro q; cases q))]
    exact e
  cases h with
  | leaf a b => exact .leaf a (go b)
  | pow a b c => exact .pow a b (go c)
  | two a b c d f g => exact .two a b c d f (go g)
  | str a b c d f => exact .str a b c d (go f)
theorem iteDn {c A B : Prop} [Decidable c] (hc : ¬ c) (h : B) : if decide c = true then A else B := by
  rw [decide_eq_false hc]
  exact iteF h
theorem iteNp {c A B : Prop} [Decidable c] (hc : ¬ c) (h : A) : if (!decide c) = true then A else B := by
  rw [decide_eq_false hc]
  exact iteT h
theorem ne_pow {w : Str} (h : w = "plain" ∨ w = "short") : ¬ V.str w = V.str "powers" := by
  rcases h with h | h <;> rw [h] <;> decide
theorem mem_rep {k : Nat} {ys : List V} {x : V} (h : x ∈ (List.replicate k ys).flatten) : x ∈ ys ∧ 0 < k := by
  obtain ⟨l, hl, hx⟩ := List.mem_flatten.mp h
  have h1 := List.mem_replicate.mp hl
  rw [h1.2] at hx
  exact ⟨hx, by omega⟩
theorem len_rep {ys : List V} : ∀ k : Nat, (List.replicate k ys).flatten.length = k * ys.length
  | 0 => by simp
  | k + 1 => by
    rw [List.replicate_succ, List.flatten_cons, List.length_append, len_rep k, Nat.add_mul]
    omega
theorem in_pq_two {w : Str} (h : w = "split" ∨ w = "parts") : inV (.str w) [.str "powers", .str "stretch"] = false := by
  rcases h with h | h <;> rw [h] <;> decide
def tks : Nat → Int
  | 0 => 2
  | d + 1 => 2 + 2 * tks d
theorem tks_pos : ∀ d : Nat, 0 ≤ tks d
  | 0 => by decide
  | d + 1 => by
    show 0 ≤ 2 + 2 * tks d
    have := tks_pos d
    omega
/-- a plan all of whose objects are tracked tuples -/
inductive PlT (H : Hp) : V → Pl → Prop
  | leaf {a : Addr} {w : Str} {n : Int} : (w = "plain" ∨ w = "short") → H a = some (.tup [.str w, .int n]) → PlT H (.ref a) (.leaf w n)
  | two {a : Addr} {w : Str} {x y : V} {p q : Pl} : (w = "split" ∨ w = "parts") → H a = some (.tup [.str w, x, y]) → PlT H x p → PlT H y q → PlT H (.ref a) (.two w p q)
  | led {a : Addr} {w : Str} {n : Int} {x : V} {p : Pl} : (w = "powers" ∨ w = "stretch") → H a = some (.tup [.str w, .int n, x]) → PlT H x p → PlT H (.ref a) (.led w n p)
theorem PlT.same {H H' : Hp} {v : V} {p : Pl} (h : PlT H v p) (e : Same H H') : PlT H' v p := by
  induction h with
  | leaf a b => exact .leaf a (e _ _ b)
  | two a b c d i1 i2 => exact .two a (e _ _ b) i1 i2
  | led a b c i1 => exact .led a (e _ _ b) i1
theorem PlT.keep {H H' : Hp} {v : V} {p : Pl} {b : Addr} {c : Int} (h : PlT H v p) (e : Keep b H H') (hb : BoxAt H b c) : PlT H' v p := by
  induction h with
  | leaf a b => exact .leaf a (keep_at e hb b)
  | two a b c d i1 i2 => exact .two a (keep_at e hb b) i1 i2
  | led a b c i1 => exact .led a (keep_at e hb b) i1
theorem PlT.mut {H : Hp} {v : V} {p : Pl} {a : Addr} {xs : List V} {o : HO} (h : PlT H v p) (ha : H a = some (.lst xs)) : PlT (upd H a o) v p := by
  have go : ∀ {b : Addr} {ys : List V}, H b = some (.tup ys) → upd H a o b = some (.tup ys) := fun {b ys} e => by
    rw [upd_ne (ne_of e ha (by intro q; cases q))]
    exact e
  induction h with
  | leaf a b => exact .leaf a (go b)
  | two a b c d i1 i2 => exact .two a (go b) i1 i2
  | led a b c i1 => exact .led a (go b) i1
theorem PlT.at {K : PySem.W.Frag} {H : Hp} {v : V} {p : Pl} (h : PlT H v p) : PlAt K H v p := by
  induction h with
  | leaf a b => exact .leaf a (SqT.of b)
  | two a b c d i1 i2 => exact .two a (SqT.of b) i1 i2
  | led a b c i1 => exact .led a (SqT.of b) i1
def spAny (K : PySem.W.Frag) (d : Nat) : Sp := fun vs H Q _ => ∃ (b : Addr) (n c dd : Int), vs = [.ref b, .int n, .int dd] ∧ dd = (d : Int) ∧ BoxAt H b c ∧ c + tks d < 1000000 ∧ 1 ≤ n ∧ n ≤ 242 ∧ ∀ v p H', PlT H' v p → plen p = n → pdep p ≤ d → Ok p → Keep b H H' → BoxAt H' b (c + tks d) → Q v H'
section
variable {P : Program} {w : World} {K : PySem.W.Frag} {mg : Str → Option Value} {base : Heap}
theorem any_step {f f1 f2 f3 f4 : Addr} {fd d1 d2 d3 d4 : FuncData} {d : Nat} {spI : Sp} (D__law_any_plan : Df K mg "_law_any_plan" s__law_any_plan P__law_any_plan f fd) (T : Blt mg) (D__law_take : Df K mg "_law_take" s__law_take P__law_take f1 d1) (D__law_pick : Df K mg "_law_pick" s__law_pick P__law_pick f2 d2) (D__law_shares : Df K mg "_law_shares" s__law_shares P__law_shares f3 d3) (D__law_is_plain_prime : Df K mg "_law_is_plain_prime" s__law_is_plain_prime P__law_is_plain_prime f4 d4)
    (G__law_any_plan : FnOk P w K mg base CX0 (d + 2) f fd P__law_any_plan spI) (hG : ∀ m, d = m + 1 → spI = spAny K m) : FnOk P w K mg base CX0 (d + 3) f fd P__law_any_plan (spAny K d) := by
  have G__law_take : FnOk P w K mg base CX0 1 f1 d1 P__law_take spTake := ok_take D__law_take.F
  have G__law_pick : FnOk P w K mg base CX0 2 f2 d2 P__law_pick (spPick K) := ok_pick D__law_pick.F T D__law_take
  have G__law_shares : FnOk P w K mg base CX0 1 f3 d3 P__law_shares spShares := ok_shares0 D__law_shares.F T
  have G__law_is_plain_prime : FnOk P w K mg base CX0 1 f4 d4 P__law_is_plain_prime spPlainPrime := ok_plainprime D__law_is_plain_prime.F T
  have nd := sc__law_any_plan.nd
  refine D__law_any_plan.F.ok sc__law_any_plan (fun vs H Q E h => ?_) (fun cdv A outer s H vs Q E hr h => ?_)
  · obtain ⟨b, n, c, dd, rfl, _⟩ := h
    rfl
  · obtain ⟨b, n, c, dd, rfl, rfl, hb, hc, hn1, hn2, q⟩ := h
    have htp := tks_pos d
    have tail : ∃ tl, PSs (cxOf CX0 P w K mg base N__law_any_plan "_law_any_plan" (defScope s__law_any_plan) f cdv A outer s H E).nox ((defBody s__law_any_plan).drop 3) tl ∧ ∀ (l : Addr) (xs : List V) (H1 : Hp) (s4 s5 s6 s7 : Option V) (e : Int), Keep b H H1 → BoxAt H1 b (c + e) → (e = 0 ∨ (e = 1 ∧ 0 < d)) → H1 l = some (.lst xs) → l ≠ b → (∀ x ∈ xs, Way H1 n d x) → 0 < xs.length → xs.length ≤ 3000 → tl { nx := fun _ H' => Q .non H', rt := Q } [some (.ref b), some (.int n), some (.int (d : Int)), some (.ref l), s4, s5, s6, s7] H1 := by
      refine ⟨_, (pss_cons (ps_set (i := 5) nd rfl (Or.inl rfl) (pe_call G__law_pick (hr.mono (by omega)) (by rfl) D__law_pick.g D__law_pick.F.kp D__law_pick.b .nil pass0 (pa_cons (pv 0) (pa_cons (pv 3) pa_nil))))
      (pss_cons (ps_if (PW.pt (pw_and (pt_cmpR op_eq (pe_callB (r := rLenQ K) call_len_seq (by rfl) T.b_len (by decide +kernel) (pa_cons (pv 5) pa_nil)) (pe_int) (nomark _)) (pw_and1 (pt_cmpR op_ne (pe_ix (r := rIxT K) ix_tup (pv 5) (pe_int) (fun _ _ => rfl)) (pe_str) (nomark _))))) (pss_one (ps_ret (pe_tup (pa_cons (pe_ix (r := rIxT K) ix_tup (pv 5) (pe_int) (fun _ _ => rfl)) (pa_cons (pv 1) pa_nil))))) pss_nil)
      (pss_cons (ps_if (pt_cmpR (r := rIn K false) op_in_seq (pe_ix (r := rIxT K) ix_tup (pv 5) (pe_int) (fun _ _ => rfl)) (pe_tup (pa_cons (pe_str) (pa_cons (pe_str) pa_nil))) (by rfl)) (pss_one (ps_ret (pe_tup (pa_cons (pe_ix (r := rIxT K) ix_tup (pv 5) (pe_int) (fun _ _ => rfl)) (pa_cons (pv 1) (pa_cons (pe_call G__law_any_plan (hr.mono (by omega)) (by rfl) D__law_any_plan.g D__law_any_plan.F.kp D__law_any_plan.b .nil pass0 (pa_cons (pv 0) (pa_cons (pe_ifExp (pt_cmpR op_eq (pe_ix (r := rIxT K) ix_tup (pv 5) (pe_int) (fun _ _ => rfl)) (pe_str) (nomark _)) (pe_op op_sub (pv 1) (pe_int)) (pe_ix (r := rIxT K) ix_tup (pv 5) (pe_int) (fun _ _ => rfl))) (pa_cons (pe_op op_sub (pv 2) (pe_int)) pa_nil)))) pa_nil)))))) pss_nil)
      (pss_cons (ps_set (i := 6) nd rfl (Or.inl rfl) (pe_call G__law_any_plan (hr.mono (by omega)) (by rfl) D__law_any_plan.g D__law_any_plan.F.kp D__law_any_plan.b .nil pass0 (pa_cons (pv 0) (pa_cons (pe_ix (r := rIxT K) ix_tup (pv 5) (pe_int) (fun _ _ => rfl)) (pa_cons (pe_op op_sub (pv 2) (pe_int)) pa_nil)))))
      (pss_one (ps_ret (pe_tup (pa_cons (pe_ix (r := rIxT K) ix_tup (pv 5) (pe_int) (fun _ _ => rfl)) (pa_cons (pv 6) (pa_cons (pe_call G__law_any_plan (hr.mono (by omega)) (by rfl) D__law_any_plan.g D__law_any_plan.F.kp D__law_any_plan.b .nil pass0 (pa_cons (pv 0) (pa_cons (pe_op op_fdiv (pv 1) (pe_ix (r := rIxT K) ix_tup (pv 5) (pe_int) (fun _ _ => rfl))) (pa_cons (pe_op op_sub (pv 2) (pe_int)) pa_nil)))) pa_nil)))))))))), ?_⟩
      intro l xs H1 s4 s5 s6 s7 e kp hb1 he hl hlb hw h0 hln
      have hL : SqL K H1 l xs := SqL.of hl
      have h0' : 0 < (xs.length : Int) := by omega
      have hx1 : (xs.length : Int) < 1048576 := by omega
      walk_at "ev"
      intro v H2 hv k2 hb2
      have hway := (hw v hv).keep k2 hb1
      have hb2' := hb2
      cases hway with
      | leaf hww hs =>
        rename_i a wd
        have hT : SqT K H2 a [.str wd] := SqT.of hs
        walk_at "ev"
        refine iteNp (ne_pow hww) ?_
        walk_at "ev"
        intro t3 ht3
        generalize hG3 : upd _ t3 _ = H3
        obtain ⟨sm3, hq3⟩ := newO hG3 ht3
        have h2 : 2 ≤ tks d := by
          cases d with
          | zero => exact (by decide : (2 : Int) ≤ 2)
          | succ m =>
            show 2 ≤ 2 + 2 * tks m
            have := tks_pos m
            omega
        exact q _ (.leaf wd n) _ (.leaf hww hq3) rfl (Nat.zero_le _) ⟨by omega, by omega⟩ (kp.trans (k2.trans (keepS sm3))) ((hb2.same sm3).mono (by omega))
      | pow hd0 hn3 hs =>
        rename_i a
        obtain ⟨m, rfl⟩ : ∃ m, d = m + 1 := ⟨d - 1, by omega⟩
        have hS := hG m rfl
        subst hS
        have htm := tks_pos m
        have etk : tks (m + 1) = 2 + 2 * tks m := rfl
        have edm : (((m + 1 : Nat) : Int) - 1) = (m : Int) := by omega
        have hT : SqT K H2 a [.str "powers"] := SqT.of hs
        walk_at "ev"
        intro t3 ht3
        generalize hG3 : upd _ t3 _ = H3
        obtain ⟨sm3, hq3⟩ := newO hG3 ht3
        have hT3 := same_t sm3 hT
        have hin : SqL K H3 t3 [.str "powers", .str "stretch"] ∨ SqT K H3 t3 [.str "powers", .str "stretch"] := .inr (SqT.of hq3)
        have hb3 := hb2.same sm3
        walk_at "ev"
        intro v4 p4 H4 hpl hl4 hd4 ok4 k4 hb4
        walk_at "ev"
        intro t5 ht5
        generalize hG5 : upd _ t5 _ = H5
        obtain ⟨sm5, hq5⟩ := newO hG5 ht5
        refine q _ (.led "powers" n p4) _ (.led (.inl rfl) hq5 (hpl.same sm5)) rfl ?_ ⟨by omega, by omega, ok4⟩ (kp.trans (k2.trans ((keepS sm3).trans (k4.trans (keepS sm5))))) ((hb4.same sm5).mono (by omega))
        show 1 + pdep p4 ≤ m + 1
        omega
      | two hww hd0 hk2 hkn hkm hs =>
        rename_i a wd kk
        obtain ⟨m, rfl⟩ : ∃ m, d = m + 1 := ⟨d - 1, by omega⟩
        have hS := hG m rfl
        subst hS
        have htm := tks_pos m
        have etk : tks (m + 1) = 2 + 2 * tks m := rfl
        have edm : (((m + 1 : Nat) : Int) - 1) = (m : Int) := by omega
        have hT : SqT K H2 a [.str wd, .int kk] := SqT.of hs
        walk_at "ev"
        intro t3 ht3
        generalize hG3 : upd _ t3 _ = H3
        obtain ⟨sm3, hq3⟩ := newO hG3 ht3
        have hT3 := same_t sm3 hT
        have hs3 := sm3 _ _ hs
        have hin : SqL K H3 t3 [.str "powers", .str "stretch"] ∨ SqT K H3 t3 [.str "powers", .str "stretch"] := .inr (SqT.of hq3)
        walk_at "ev"
        refine iteFe (in_pq_two hww) ?_
        have hb3 := hb2.same sm3
        walk_at "ev"
        intro v4 p4 H4 hpl hl4 hd4 ok4 k4 hb4
        have hs4 := keep_at k4 hb3 hs3
        have hT4 : SqT K H4 a [.str wd, .int kk] := SqT.of hs4
        have hq0 : 1 ≤ n / kk := by
          have := Int.le_ediv_of_mul_le (show (0 : Int) < kk by omega) (show 1 * kk ≤ n by omega)
          exact this
        have hq1 : n / kk ≤ n := Int.ediv_le_self _ (by omega)
        have hmul : kk * (n / kk) = n := Int.mul_ediv_cancel' (Int.dvd_of_emod_eq_zero hkm)
        walk_at "ev"
        intro v5 p5 H5 hpl5 hl5 hd5 ok5 k5 hb5
        have hpl' := hpl.keep k5 hb4
        walk_at "ev"
        intro t6 ht6
        generalize hG6 : upd _ t6 _ = H6
        obtain ⟨sm6, hq6⟩ := newO hG6 ht6
        have epl : plen p4 * plen p5 = n := by rw [hl4, hl5, hmul]
        refine q _ (.two wd p4 p5) _ (.two hww hq6 (hpl'.same sm6) (hpl5.same sm6)) epl ?_ ⟨ok4, ok5, by rw [epl]; omega, by rw [epl]; omega⟩ (kp.trans (k2.trans ((keepS sm3).trans (k4.trans (k5.trans (keepS sm6)))))) ((hb5.same sm6).mono (by omega))
        show 1 + max (pdep p4) (pdep p5) ≤ m + 1
        omega
      | str hd0 hn1' hm1 hm2 hs =>
        rename_i a mm
        obtain ⟨m, rfl⟩ : ∃ m, d = m + 1 := ⟨d - 1, by omega⟩
        have hS := hG m rfl
        subst hS
        have htm := tks_pos m
        have etk : tks (m + 1) = 2 + 2 * tks m := rfl
        have edm : (((m + 1 : Nat) : Int) - 1) = (m : Int) := by omega
        have hT : SqT K H2 a [.str "stretch", .int mm] := SqT.of hs
        walk_at "ev"
        intro t3 ht3
        generalize hG3 : upd _ t3 _ = H3
        obtain ⟨sm3, hq3⟩ := newO hG3 ht3
        have hT3 := same_t sm3 hT
        have hin : SqL K H3 t3 [.str "powers", .str "stretch"] ∨ SqT K H3 t3 [.str "powers", .str "stretch"] := .inr (SqT.of hq3)
        have hb3 := hb2.same sm3
        walk_at "ev"
        intro v4 p4 H4 hpl hl4 hd4 ok4 k4 hb4
        walk_at "ev"
        intro t5 ht5
        generalize hG5 : upd _ t5 _ = H5
        obtain ⟨sm5, hq5⟩ := newO hG5 ht5
        refine q _ (.led "stretch" n p4) _ (.led (.inr rfl) hq5 (hpl.same sm5)) rfl ?_ ⟨by omega, by omega, ok4⟩ (kp.trans (k2.trans ((keepS sm3).trans (k4.trans (keepS sm5))))) ((hb4.same sm5).mono (by omega))
        show 1 + pdep p4 ≤ m + 1
        omega
    obtain ⟨tl, htl, fin⟩ := tail
    refine ⟨_, (pss_cons (ps_par (i := 3) (j := 4) (by rfl) nd rfl rfl (by decide) rfl rfl (pa_cons (pe_lst (pa_cons (pe_tup (pa_cons (pe_str) pa_nil)) pa_nil)) (pa_cons (pe_lc (own := [("_law_part", 7)]) (g := gName 7) (by rfl) nd (pi_range2 (by rfl) T.b_range (pa_cons (pe_int) (pa_cons (pv 1) pa_nil))) (blkOk_by (own := [("_law_part", 7)]) (N := N__law_any_plan) (sc := defScope s__law_any_plan) (by decide +kernel)) (fun _ _ _ _ _ => (pg_name (i := 7) nd rfl (Or.inl rfl))) (fun _ _ _ _ _ => pts_one (pt_cmpR op_eq (pe_op op_mod (pv 1) (pv 7)) (pe_int) (nomark _))) (fun _ _ _ _ _ => (pv 7))) pa_nil)) (by rfl))
      (pss_cons (ps_set (i := 3) nd rfl (Or.inl rfl) (pe_op op_cat (pv 3) (pe_op op_rep (pe_lst (pa_cons (pe_tup (pa_cons (pe_str) pa_nil)) pa_nil)) (pe_op op_mul (pe_int) (pe_callTy call_int1 (by rfl) T.b_int (by decide +kernel) (pa_cons (pe_cmpR op_lt (pv 1) (pe_int) (nomark _)) pa_nil))))))
      (pss_cons (ps_if (pt_cmpR op_gt (pv 2) (pe_int) (nomark _)) (pss_cons (ps_set (i := 3) nd rfl (Or.inl rfl) (pe_op op_cat (pv 3) (pe_op op_rep (pe_lc (own := [("_law_part", 7)]) (g := gName 7) (by rfl) nd (pi_list (pv 4)) (blkOk_by (own := [("_law_part", 7)]) (N := N__law_any_plan) (sc := defScope s__law_any_plan) (by decide +kernel)) (fun _ _ _ _ _ => (pg_name (i := 7) nd rfl (Or.inl rfl))) (fun _ _ _ _ _ => pts_nil) (fun _ _ _ _ _ => (pe_tup (pa_cons (pe_str) (pa_cons (pv 7) pa_nil))))) (pe_int))))
      (pss_cons (ps_set (i := 3) nd rfl (Or.inl rfl) (pe_op op_cat (pv 3) (pe_op op_rep (pe_lc (own := [("_law_part", 7)]) (g := gName 7) (by rfl) nd (pi_list (pv 4)) (blkOk_by (own := [("_law_part", 7)]) (N := N__law_any_plan) (sc := defScope s__law_any_plan) (by decide +kernel)) (fun _ _ _ _ _ => (pg_name (i := 7) nd rfl (Or.inl rfl))) (fun _ _ _ _ _ => pts_one (pt_not (pt_val (pe_call G__law_shares (hr.mono (by omega)) (by rfl) D__law_shares.g D__law_shares.F.kp D__law_shares.b .nil pass0 (pa_cons (pv 7) (pa_cons (pe_op op_fdiv (pv 1) (pv 7)) pa_nil)))))) (fun _ _ _ _ _ => (pe_tup (pa_cons (pe_str) (pa_cons (pv 7) pa_nil))))) (pe_int))))
      (pss_cons (ps_set (i := 3) nd rfl (Or.inl rfl) (pe_op op_cat (pv 3) (pe_op op_rep (pe_lst (pa_cons (pe_tup (pa_cons (pe_str) pa_nil)) pa_nil)) (pe_op op_mul (pe_int) (pe_callTy call_int1 (by rfl) T.b_int (by decide +kernel) (pa_cons (pe_and (pe_cmpR op_gt (pv 1) (pe_int) (nomark _)) (pe_one (pe_call G__law_is_plain_prime (hr.mono (by omega)) (by rfl) D__law_is_plain_prime.g D__law_is_plain_prime.F.kp D__law_is_plain_prime.b .nil pass0 (pa_cons (pv 1) pa_nil)))) pa_nil))))))
      (pss_one (ps_if (pt_chain op_lt op_lt (pe_int) (pv 1) (pe_int)) (pss_one (ps_expr (pe_bm PySem.F.plainAttrs_list PySem.F.slot_list_append PySem.F.type_list_append mt_append (pv 3) (pa_cons (pe_tup (pa_cons (pe_str) (pa_cons (pe_op op_add (pe_op op_sub (pe_op op_mul (pe_int) (pv 1)) (pe_int)) (pe_call G__law_take (hr.mono (by omega)) (by rfl) D__law_take.g D__law_take.F.kp D__law_take.b .nil pass0 (pa_cons (pv 0) (pa_cons (pe_callB (call_min2 rfl) (by rfl) T.b_min (by decide +kernel) (pa_cons (pe_op op_add (pe_op op_mul (pe_int) (pv 1)) (pe_int)) (pa_cons (pe_op op_sub (pe_int) (pe_op op_mul (pe_int) (pv 1))) pa_nil))) pa_nil)))) pa_nil))) pa_nil)))) pss_nil))))) pss_nil)
      htl))), ?_⟩
    walk_at "ev"
    intro t0 ht0
    generalize hG0 : upd _ t0 _ = H1
    obtain ⟨sm1, hq0⟩ := newO hG0 ht0
    walk_at "ev"
    intro l0 hl0
    generalize hG1 : upd _ l0 _ = H2
    obtain ⟨sm2, hq1⟩ := newO hG1 hl0
    have sm02 := sm1.trans sm2
    walk_at "ev"
    intro D hD
    have hDf : H D = none := sm02.free hD
    refine lc_range (lo := 2) (n := _) (fun i H' => Hold (∃ ks : List Int, Same H2 H' ∧ H' D = some (.lst (ks.map V.int)) ∧ ks.length ≤ i ∧ ∀ k ∈ ks, 2 ≤ k ∧ k < n ∧ n % k = 0)) (.mk ⟨[], same_new hD, upd_same, Nat.zero_le _, by simp⟩) ?_ ?_
    · intro i H3 hi hP
      obtain ⟨ks, sm3, hD3, hl3, hk3⟩ := hP.un
      have hfl : (ks.map V.int).length < sizeLine := by
        rw [List.length_map]
        exact szm (by omega)
      walk_at "ev"
      refine ite2 (fun e => ?_) (fun e => ?_)
      · have e1 : n % (2 + (i : Int)) = 0 := V.int.inj (of_decide_eq_true e)
        walk_at "ev"
        refine .mk ⟨ks ++ [2 + (i : Int)], same_mut sm3 hD, ?_, ?_, ?_⟩
        · rw [upd_same, List.map_append]
          rfl
        · simp
          omega
        · intro k hk
          rcases List.mem_append.mp hk with h | h
          · exact hk3 k h
          · have e2 : k = 2 + (i : Int) := by simpa using h
            subst e2
            exact ⟨by omega, by omega, e1⟩
      · exact .mk ⟨ks, sm3, hD3, by omega, hk3⟩
    · intro H3 hP
      obtain ⟨ks, sm3, hD3, hl3, hk3⟩ := hP.un
      have hkl : ks.length ≤ 242 := by omega
      have sm03 := sm02.trans sm3
      walk_at "ev"
      intro t1 ht1
      generalize hG3 : upd _ t1 _ = H4
      obtain ⟨sm4, hq4⟩ := newO hG3 ht1
      walk_at "ev"
      intro l1 hl1
      generalize hG4 : upd _ l1 _ = H5
      obtain ⟨sm5, hq5⟩ := newO hG4 hl1
      have hcm : CMul 2 (if decide (n < 5) = true then 1 else 0) := .inl ⟨by decide, by decide⟩
      have hk0 : 0 ≤ (2 * (if decide (n < 5) = true then 1 else 0) : Int) ∧ (2 * (if decide (n < 5) = true then 1 else 0) : Int) ≤ 2 := by split <;> decide
      walk_at "ev"
      generalize hkk : (2 * (if decide (n < 5) = true then 1 else 0) : Int) = kk at *
      have hr1 : -(2 ^ 63 : Int) ≤ kk := by omega
      have hr2 : kk < (2 ^ 63 : Int) := by omega
      have hr3 : [V.ref t1].length * kk.toNat ≤ sizeLine := by
        show 1 * kk.toNat ≤ sizeLine
        exact szl (by omega)
      walk_at "ev"
      intro l2 hl2
      generalize hG5 : upd _ l2 _ = H6
      obtain ⟨sm6, hq6⟩ := newO hG5 hl2
      have hq7 := (sm3.trans (sm4.trans (sm5.trans sm6))) _ _ hq1
      have hr4 : [V.ref t0].length + (List.replicate kk.toNat [V.ref t1]).flatten.length ≤ sizeLine := by
        rw [len_rep]
        show 1 + kk.toNat * 1 ≤ sizeLine
        exact szl (by omega)
      walk_at "ev"
      intro l3 hl3
      generalize hG6 : upd _ l3 _ = H7
      obtain ⟨sm7, hq8⟩ := newO hG6 hl3
      have sm47 : Same H3 H7 := sm4.trans (sm5.trans (sm6.trans sm7))
      have sm07 : Same H H7 := sm03.trans sm47
      have hb7 := hb.same sm07
      have hw7 : ∀ x ∈ [V.ref t0] ++ (List.replicate kk.toNat [V.ref t1]).flatten, Way H7 n d x := by
        intro x hx
        rcases List.mem_append.mp hx with h | h
        · have e : x = .ref t0 := by simpa using h
          rw [e]
          exact .leaf (.inl rfl) ((sm2.trans (sm3.trans sm47)) _ _ hq0)
        · have e : x = .ref t1 := by simpa using (mem_rep h).1
          rw [e]
          exact .leaf (.inr rfl) ((sm5.trans (sm6.trans sm7)) _ _ hq4)
      have hl7 : ([V.ref t0] ++ (List.replicate kk.toNat [V.ref t1]).flatten).length ≤ 3 ∧ 0 < ([V.ref t0] ++ (List.replicate kk.toNat [V.ref t1]).flatten).length := by
        rw [List.length_append, len_rep]
        show 1 + kk.toNat * 1 ≤ 3 ∧ 0 < 1 + kk.toNat * 1
        omega
      generalize [V.ref t0] ++ (List.replicate kk.toNat [V.ref t1]).flatten = xs7 at *
      have nl3b : l3 ≠ b := (hb.same (sm03.trans (sm4.trans (sm5.trans sm6)))).ne hl3
      have hD7 := sm47 _ _ hD3
      walk_at "ev"
      refine ite2 (fun e => ?_) (fun e => ?_)
      · have hd0 : 0 < d := by
          have := of_decide_eq_true e
          omega
        have hLD : SqL K H7 D (ks.map V.int) := SqL.of hD7
        have hLD' : ∃ xs, SqL K H7 D xs := ⟨_, hLD⟩
        clear hG0 hG1 hG3 hG4 hG5 hG6 hP
        walk_at "ev"
        intro E1 hE1
        refine lc_list (K := K) (a := D) (xs := ks.map V.int) (fun i H' => Hold (∃ ys : List V, Same H7 H' ∧ H' E1 = some (.lst ys) ∧ ys.length = i ∧ ∀ y ∈ ys, Way H' n d y)) (.mk ⟨[], same_new hE1, upd_same, rfl, by simp⟩) ?_ ?_ ?_
        · intro i H8 hi hP8
          obtain ⟨ys, sm8, hE8, hl8, hw8⟩ := hP8.un
          exact sm8.seq hLD
        · intro i x H8 hx hP8
          obtain ⟨ys, sm8, hE8, hl8, hw8⟩ := hP8.un
          obtain ⟨k, hk, rfl⟩ := int_mem (List.mem_of_getElem? hx)
          obtain ⟨k1, k2, k3⟩ := hk3 k hk
          have hil : i < (ks.map V.int).length := (List.getElem?_eq_some_iff.mp hx).1
          rw [List.length_map] at hil
          walk_at "ev"
          intro t9 ht9
          generalize hG9 : upd _ t9 _ = H9
          obtain ⟨sm9, hq9⟩ := newO hG9 ht9
          have hE9 := sm9 _ _ hE8
          refine ⟨_, hE9, szm (by omega), .mk ⟨ys ++ [.ref t9], same_mut (sm8.trans sm9) hE1, upd_same, by simp [hl8], ?_⟩⟩
          have nt : t9 ≠ E1 := (ne_of_none hE8 ht9).symm
          intro y hy
          have h9 : Way H9 n d y := by
            rcases List.mem_append.mp hy with h | h
            · exact (hw8 y h).same sm9
            · have ey : y = .ref t9 := by simpa using h
              rw [ey]
              exact .two (.inl rfl) hd0 k1 k2 k3 hq9
          exact h9.mut hE9
        · intro H8 hP8
          obtain ⟨ys, sm8, hE8, hl8, hw8⟩ := hP8.un
          rw [List.length_map] at hl8
          have hr5 : ys.length * (2 : Int).toNat ≤ sizeLine := by
            show ys.length * 2 ≤ sizeLine
            exact szl (by omega)
          walk_at "ev"
          intro l9 hl9
          generalize hG9 : upd _ l9 _ = H9
          obtain ⟨sm9, hq9⟩ := newO hG9 hl9
          have hq10 := (sm8.trans sm9) _ _ hq8
          have hlr : (List.replicate (2 : Int).toNat ys).flatten.length = 2 * ys.length := len_rep 2
          have hr6 : xs7.length + (List.replicate (2 : Int).toNat ys).flatten.length ≤ sizeLine := by
            rw [hlr]
            exact szl (by omega)
          walk_at "ev"
          intro l10 hl10
          generalize hG10 : upd _ l10 _ = H10
          obtain ⟨sm10, hq11⟩ := newO hG10 hl10
          have sm710 : Same H7 H10 := sm8.trans (sm9.trans sm10)
          have hw10 : ∀ x ∈ xs7 ++ (List.replicate (2 : Int).toNat ys).flatten, Way H10 n d x := by
            intro x hx
            rcases List.mem_append.mp hx with h | h
            · exact (hw7 x h).same sm710
            · exact (hw8 x (mem_rep h).1).same (sm9.trans sm10)
          have hl10' : (xs7 ++ (List.replicate (2 : Int).toNat ys).flatten).length ≤ 500 ∧ 0 < (xs7 ++ (List.replicate (2 : Int).toNat ys).flatten).length := by
            rw [List.length_append, hlr]
            omega
          generalize xs7 ++ (List.replicate (2 : Int).toNat ys).flatten = xs10 at *
          have hD10 := sm710 _ _ hD7
          have hLD10 : SqL K H10 D (ks.map V.int) := SqL.of hD10
          have hLD10' : ∃ xs, SqL K H10 D xs := ⟨_, hLD10⟩
          clear hG9 hG10 hP8
          walk_at "ev"
          intro E2 hE2
          refine lc_list (K := K) (a := D) (xs := ks.map V.int) (fun i H' => Hold (∃ ys : List V, Same H10 H' ∧ H' E2 = some (.lst ys) ∧ ys.length ≤ i ∧ ∀ y ∈ ys, Way H' n d y)) (.mk ⟨[], same_new hE2, upd_same, Nat.zero_le _, by simp⟩) ?_ ?_ ?_
          · intro i H11 hi hP11
            obtain ⟨zs, sm11, hE11, hl11, hw11⟩ := hP11.un
            exact sm11.seq hLD10
          · intro i x H11 hx hP11
            obtain ⟨zs, sm11, hE11, hl11, hw11⟩ := hP11.un
            obtain ⟨k, hk, rfl⟩ := int_mem (List.mem_of_getElem? hx)
            obtain ⟨k1, k2, k3⟩ := hk3 k hk
            have hil : i < (ks.map V.int).length := (List.getElem?_eq_some_iff.mp hx).1
            rw [List.length_map] at hil
            have hq0' : 0 ≤ n / k := Int.ediv_nonneg (by omega) (by omega)
            walk_at "ev"
            intro bb
            walk_at "ev"
            refine ite2 (fun e2 => ?_) (fun e2 => ?_)
            · walk_at "ev"
              intro t9 ht9
              generalize hG9 : upd _ t9 _ = H12
              obtain ⟨sm12, hq12⟩ := newO hG9 ht9
              have hE12 := sm12 _ _ hE11
              refine ⟨_, hE12, szm (by omega), .mk ⟨zs ++ [.ref t9], same_mut (sm11.trans sm12) hE2, upd_same, by simp; omega, ?_⟩⟩
              intro y hy
              have h9 : Way H12 n d y := by
                rcases List.mem_append.mp hy with h | h
                · exact (hw11 y h).same sm12
                · have ey : y = .ref t9 := by simpa using h
                  rw [ey]
                  exact .two (.inr rfl) hd0 k1 k2 k3 hq12
              exact h9.mut hE12
            · exact .mk ⟨zs, sm11, hE11, by omega, hw11⟩
          · intro H11 hP11
            obtain ⟨zs, sm11, hE11, hl11, hw11⟩ := hP11.un
            rw [List.length_map] at hl11
            have hr7 : zs.length * (2 : Int).toNat ≤ sizeLine := by
              show zs.length * 2 ≤ sizeLine
              exact szl (by omega)
            walk_at "ev"
            intro l12 hl12
            generalize hG12 : upd _ l12 _ = H12
            obtain ⟨sm12, hq12⟩ := newO hG12 hl12
            have hq13 := (sm11.trans sm12) _ _ hq11
            have hlr2 : (List.replicate (2 : Int).toNat zs).flatten.length = 2 * zs.length := len_rep 2
            have hr8 : xs10.length + (List.replicate (2 : Int).toNat zs).flatten.length ≤ sizeLine := by
              rw [hlr2]
              exact szl (by omega)
            walk_at "ev"
            intro l13 hl13
            generalize hG13 : upd _ l13 _ = H13
            obtain ⟨sm13, hq14⟩ := newO hG13 hl13
            have sm1013 : Same H10 H13 := sm11.trans (sm12.trans sm13)
            have hw13 : ∀ x ∈ xs10 ++ (List.replicate (2 : Int).toNat zs).flatten, Way H13 n d x := by
              intro x hx
              rcases List.mem_append.mp hx with h | h
              · exact (hw10 x h).same sm1013
              · exact (hw11 x (mem_rep h).1).same (sm12.trans sm13)
            have hl13' : (xs10 ++ (List.replicate (2 : Int).toNat zs).flatten).length ≤ 1000 ∧ 0 < (xs10 ++ (List.replicate (2 : Int).toNat zs).flatten).length := by
              rw [List.length_append, hlr2]
              omega
            generalize xs10 ++ (List.replicate (2 : Int).toNat zs).flatten = xs13 at *
            clear hG12 hG13 hP11
            walk_at "ev"
            intro t14 ht14
            generalize hG14 : upd _ t14 _ = H14
            obtain ⟨sm14, hq15⟩ := newO hG14 ht14
            walk_at "ev"
            intro l15 hl15
            generalize hG15 : upd _ l15 _ = H15
            obtain ⟨sm15, hq16⟩ := newO hG15 hl15
            have key : ∀ (σ : L2.St) (R : VK), σ[1]? = some (some (.int n)) → (∀ kk H16, Same H15 H16 → 0 ≤ kk → kk ≤ 3 → (0 < kk → 2 < n) → R (.int kk) H16) → tOp (rI CMul fun i j => V.int (i * j)) (tC (V.int 3)) (tCB (fun xs H Q => (∃ i, xs = [V.int i] ∧ Q (V.int i) H) ∨ ∃ k, xs = [V.bl k] ∧ Q (V.int (if k = true then 1 else 0)) H) (tCons (tAndV (tOp (rI0 fun i j => V.bl (decide (j < i))) (tVar 1) (tC (V.int 2))) (tCall spPlainPrime [] E0 (tCons (tVar 1) tNil))) tNil)) σ H15 R := by
              intro σ R h1 hR
              have cm3 : ∀ z : Int, CMul 3 z := fun z => .inl ⟨by decide, by decide⟩
              refine ⟨_, h1, _, _, rfl, rfl, _, rfl, ?_⟩
              refine ite2 (fun e3 => ?_) (fun e3 => ?_)
              · have e4 : 2 < n := of_decide_eq_true e3
                refine ⟨_, h1, n, rfl, by omega, by omega, ?_⟩
                intro bb H16 sm16
                refine .inr ⟨bb, rfl, _, _, rfl, rfl, cm3 _, ?_⟩
                refine hR _ _ sm16 ?_ ?_ (fun _ => e4)
                · cases bb <;> decide
                · cases bb <;> decide
              · refine .inr ⟨false, rfl, _, _, rfl, rfl, cm3 _, ?_⟩
                exact hR _ _ (Same.refl _) (by decide) (by decide) (fun z => absurd z (by decide))
            refine key _ _ rfl (fun kk H16 sm16 k0 k3 kn => ?_)
            have hq17 := sm16 _ _ hq16
            have hr9 : -(2 ^ 63 : Int) ≤ kk := by omega
            have hr10 : kk < (2 ^ 63 : Int) := by omega
            have hr11 : [V.ref t14].length * kk.toNat ≤ sizeLine := by
              show 1 * kk.toNat ≤ sizeLine
              exact szl (by omega)
            clear key
            walk_at "ev"
            intro l17 hl17
            generalize hG17 : upd _ l17 _ = H17
            obtain ⟨sm17, hq18⟩ := newO hG17 hl17
            have hq19 := (sm14.trans (sm15.trans (sm16.trans sm17))) _ _ hq14
            have hr12 : xs13.length + (List.replicate kk.toNat [V.ref t14]).flatten.length ≤ sizeLine := by
              rw [len_rep]
              exact szl (by simp; omega)
            walk_at "ev"
            intro l18 hl18
            generalize hG18 : upd _ l18 _ = H18
            obtain ⟨sm18, hq20⟩ := newO hG18 hl18
            have sm1318 : Same H13 H18 := sm14.trans (sm15.trans (sm16.trans (sm17.trans sm18)))
            have hw18 : ∀ x ∈ xs13 ++ (List.replicate kk.toNat [V.ref t14]).flatten, Way H18 n d x := by
              intro x hx
              rcases List.mem_append.mp hx with h | h
              · exact (hw13 x h).same sm1318
              · have hm := mem_rep h
                have ex : x = .ref t14 := by simpa using hm.1
                rw [ex]
                exact .pow hd0 (kn (by omega)) ((sm15.trans (sm16.trans (sm17.trans sm18))) _ _ hq15)
            have hl18' : (xs13 ++ (List.replicate kk.toNat [V.ref t14]).flatten).length ≤ 1100 ∧ 0 < (xs13 ++ (List.replicate kk.toNat [V.ref t14]).flatten).length := by
              rw [List.length_append, len_rep]
              simp
              omega
            generalize xs13 ++ (List.replicate kk.toNat [V.ref t14]).flatten = xs18 at *
            have sm018 : Same H H18 := sm07.trans (sm710.trans (sm1013.trans sm1318))
            have hb18 : BoxAt H18 b (c + 0) := by
              rw [Int.add_zero]
              exact hb.same sm018
            have hb17 : BoxAt H17 b c := hb.same (sm07.trans (sm710.trans (sm1013.trans (sm14.trans (sm15.trans (sm16.trans sm17))))))
            have nl18 : l18 ≠ b := hb17.ne hl18
            clear hG14 hG15 hG17 hG18
            walk_at "ev"
            refine ite2 (fun e5 => ?_) (fun e5 => ?_)
            · have e6 : 1 < n := of_decide_eq_true e5
              walk_at "ev"
              refine ite2 (fun e7 => ?_) (fun e7 => ?_)
              · have e8 : n < 121 := of_decide_eq_true e7
                have hL18 : SqL K H18 l18 xs18 := SqL.of hq20
                have hty : tyV K "list" (.ref l18) H18 := .inl ⟨rfl, _, hL18⟩
                have cm2 : CMul 2 n := .inl ⟨by decide, by decide⟩
                have hmin : 0 < (if 242 - 2 * n < 2 * n + 2 then 242 - 2 * n else 2 * n + 2) ∧ (if 242 - 2 * n < 2 * n + 2 then 242 - 2 * n else 2 * n + 2) ≤ 242 - 2 * n := by split <;> omega
                walk_at "ev"
                intro r H19 r0 r1 k19 hb19
                walk_at "ev"
                intro t20 ht20
                generalize hG20 : upd _ t20 _ = H20
                obtain ⟨sm20, hq21⟩ := newO hG20 ht20
                have hq22 := sm20 _ _ (k19 _ _ nl18 hq20)
                have hsz18 : xs18.length < sizeLine := szm (by omega)
                refine ⟨l18, xs18, _, rfl, rfl, hq22, hsz18, ?_⟩
                generalize hG21 : upd _ l18 _ = H21
                obtain ⟨k21, hq23⟩ := mutO hG21
                have hb20 := hb19.same sm20
                have hb21 : BoxAt H21 b (c + 1) := by
                  obtain ⟨x, y, z, e1, e2⟩ := hb20
                  refine BoxAt.mono ⟨x, y, z, k21 _ _ nl18.symm e1, e2⟩ (by omega)
                have hl18f : H l18 = none := (sm07.trans (sm710.trans (sm1013.trans (sm14.trans (sm15.trans (sm16.trans sm17)))))).free hl18
                have kf : Keep b H H21 := fun x o nx hx => k21 _ _ (ne_of_none hx hl18f) ((keepS sm20) _ _ nx (k19 _ _ nx (sm018 _ _ hx)))
                refine fin l18 _ H21 _ _ _ _ 1 kf hb21 (.inr ⟨rfl, hd0⟩) hq23 nl18 ?_ (by simp) (by simp; omega)
                intro x hx
                have h20 : Way H20 n d x := by
                  rcases List.mem_append.mp hx with h | h
                  · exact ((hw18 x h).keep k19 hb18).same sm20
                  · have ex : x = .ref t20 := by simpa using h
                    rw [ex]
                    exact .str hd0 e6 (by omega) (by omega) hq21
                rw [← hG21]
                exact h20.mut hq22
              · exact fin l18 xs18 H18 _ _ _ _ 0 (keepS sm018) hb18 (.inl rfl) hq20 nl18 hw18 hl18'.2 (by omega)
            · walk_at "ev"
              exact fin l18 xs18 H18 _ _ _ _ 0 (keepS sm018) hb18 (.inl rfl) hq20 nl18 hw18 hl18'.2 (by omega)
      · have hbz : BoxAt H7 b (c + 0) := by rw [Int.add_zero]; exact hb7
        exact fin l3 xs7 H7 _ _ _ _ 0 (keepS sm07) hbz (.inl rfl) hq8 nl3b hw7 hl7.2 (by omega)
theorem ok_any {f f1 f2 f3 f4 : Addr} {fd d1 d2 d3 d4 : FuncData} (D__law_any_plan : Df K mg "_law_any_plan" s__law_any_plan P__law_any_plan f fd) (T : Blt mg) (D__law_take : Df K mg "_law_take" s__law_take P__law_take f1 d1) (D__law_pick : Df K mg "_law_pick" s__law_pick P__law_pick f2 d2) (D__law_shares : Df K mg "_law_shares" s__law_shares P__law_shares f3 d3) (D__law_is_plain_prime : Df K mg "_law_is_plain_prime" s__law_is_plain_prime P__law_is_plain_prime f4 d4) : ∀ d : Nat, FnOk P w K mg base CX0 (d + 3) f fd P__law_any_plan (spAny K d)
  | 0 => any_step (spI := fun _ _ _ _ => False) D__law_any_plan T D__law_take D__law_pick D__law_shares D__law_is_plain_prime ⟨fun _ _ _ _ h => h.elim, fun _ _ _ _ _ _ _ _ _ _ _ _ _ h => h.elim⟩ (fun m h => by omega)
  | d + 1 => any_step D__law_any_plan T D__law_take D__law_pick D__law_shares D__law_is_plain_prime (ok_any D__law_any_plan T D__law_take D__law_pick D__law_shares D__law_is_plain_prime d) (fun m h => by cases h; rfl)
end
/-! ### the law's own plans that fit -/
def inB (l : List Stmt) (i k : Nat) : List Stmt := match l.drop i with
  | .If _ b _ _ :: _ => b.drop k
  | _ => []
abbrev s__law_plan_of : Stmt := top 40
abbrev N__law_plan_of : List Str := ["_law_box_here", "_law_world_here", "_law_length", "_law_deep", "_law_far", "_law_some", "_law_parts", "_law_longer", "_law_way", "_law_one", "_law_part", "_law_other"]
abbrev P__law_plan_of : List Str := ["_law_box_here", "_law_world_here", "_law_length", "_law_deep", "_law_far"]
theorem sc__law_plan_of : FnScope N__law_plan_of P__law_plan_of (defScope s__law_plan_of) := ⟨rfl, rfl, rfl, by decide +kernel, rfl, by decide +kernel, by decide +kernel⟩
inductive Wy (M : Int) (fr : Bool) (H : Hp) (n : Int) (d : Nat) : V → Prop
  | leaf {a : Addr} {w : Str} : (w = "plain" ∨ w = "short") → H a = some (.tup [.str w]) → Wy M fr H n d (.ref a)
  | pow {a : Addr} : 0 < d → 2 < n → M % (n - 1) = 0 → H a = some (.tup [.str "powers"]) → Wy M fr H n d (.ref a)
  | two {a : Addr} {w : Str} {k : Int} : (w = "split" ∨ w = "parts") → 0 < d → 2 ≤ k → k < n → n % k = 0 → H a = some (.tup [.str w, .int k]) → Wy M fr H n d (.ref a)
  | str {a : Addr} {m : Int} : 0 < d → 1 < n → fr = true → 2 * n - 1 ≤ m → m ≤ 4 * n → M % m = 0 → H a = some (.tup [.str "stretch", .int m]) → Wy M fr H n d (.ref a)
theorem Wy.same {M : Int} {fr : Bool} {H H' : Hp} {n : Int} {d : Nat} {v : V} (h : Wy M fr H n d v) (e : Same H H') : Wy M fr H' n d v := by
  cases h with
  | leaf a b => exact .leaf a (e _ _ b)
  | pow a b c x => exact .pow a b c (e _ _ x)
  | two a b c d f g => exact .two a b c d f (e _ _ g)
  | str a b c d f x y => exact .str a b c d f x (e _ _ y)
theorem Wy.keep {M : Int} {fr : Bool} {H H' : Hp} {n : Int} {d : Nat} {v : V} {b : Addr} {c : Int} (h : Wy M fr H n d v) (e : Keep b H H') (hb : BoxAt H b c) : Wy M fr H' n d v := by
  cases h with
  | leaf a b => exact .leaf a (keep_at e hb b)
  | pow a b c x => exact .pow a b c (keep_at e hb x)
  | two a b c d f g => exact .two a b c d f (keep_at e hb g)
  | str a b c d f x y => exact .str a b c d f x (keep_at e hb y)
theorem Wy.mut {M : Int} {fr : Bool} {H : Hp} {n : Int} {d : Nat} {v : V} {p : Addr} {xs : List V} {o : HO} (h : Wy M fr H n d v) (hp : H p = some (.lst xs)) : Wy M fr (upd H p o) n d v := by
  have go : ∀ {a : Addr} {ys : List V}, H a = some (.tup ys) → upd H p o a = some (.tup ys) := fun {a ys} e => by
    rw [upd_ne (ne_of e hp (by intro q; cases q))]
    exact e
  cases h with
  | leaf a b => exact .leaf a (go b)
  | pow a b c x => exact .pow a b c (go x)
  | two a b c d f g => exact .two a b c d f (go g)
  | str a b c d f x y => exact .str a b c d f x (go y)
theorem in_ps_leaf {w : Str} (h : w = "plain" ∨ w = "short") : inV (.str w) [.str "plain", .str "short"] = true := by
  rcases h with h | h <;> rw [h] <;> decide
theorem in_ps_two {w : Str} (h : w = "split" ∨ w = "parts") : inV (.str w) [.str "plain", .str "short"] = false ∧ ¬ V.str w = V.str "powers" ∧ ¬ V.str w = V.str "stretch" := by
  rcases h with h | h <;> rw [h] <;> decide
theorem mod_dvd {M n k : Int} (h : M % n = 0) (h2 : n % k = 0) : M % k = 0 := Int.emod_eq_zero_of_dvd (Int.dvd_trans (Int.dvd_of_emod_eq_zero h2) (Int.dvd_of_emod_eq_zero h))
def spPof (K : PySem.W.Frag) (d : Nat) : Sp := fun vs H Q _ => ∃ (b wd : Addr) (g : Gk) (n c dd : Int) (fr : Bool), vs = [.ref b, .ref wd, .int n, .int dd, .bl fr] ∧ dd = (d : Int) ∧ BoxAt H b c ∧ c + tks d < 1000000 ∧ 1 ≤ n ∧ n ≤ 240 ∧ (fr = true → n ≤ 60) ∧ numM g % n = 0 ∧ WdM H b wd g ∧
  ∀ v p H', PlT H' v p → plen p = n → pdep p ≤ d → Ok p → (∀ x ∈ lens p, numM g % x = 0) → Keep b H H' → BoxAt H' b (c + tks d) → Q v H'
section
variable {P : Program} {w : World} {K : PySem.W.Frag} {mg : Str → Option Value} {base : Heap}
theorem pof_step {f f1 f2 f3 f4 f5 : Addr} {fd d1 d2 d3 d4 d5 : FuncData} {d : Nat} {spI : Sp} (D__law_plan_of : Df K mg "_law_plan_of" s__law_plan_of P__law_plan_of f fd) (T : Blt mg) (D__law_take : Df K mg "_law_take" s__law_take P__law_take f1 d1) (D__law_pick : Df K mg "_law_pick" s__law_pick P__law_pick f2 d2) (D__law_shares : Df K mg "_law_shares" s__law_shares P__law_shares f3 d3) (D__law_is_plain_prime : Df K mg "_law_is_plain_prime" s__law_is_plain_prime P__law_is_plain_prime f4 d4) (D__law_has : Df K mg "_law_has" s__law_has P__law_has f5 d5)
    (G__law_plan_of : FnOk P w K mg base CX0 (d + 2) f fd P__law_plan_of spI) (hG : ∀ m, d = m + 1 → spI = spPof K m) : FnOk P w K mg base CX0 (d + 3) f fd P__law_plan_of (spPof K d) := by
  have G__law_pick : FnOk P w K mg base CX0 2 f2 d2 P__law_pick (spPick K) := ok_pick D__law_pick.F T D__law_take
  have G__law_shares : FnOk P w K mg base CX0 1 f3 d3 P__law_shares spShares := ok_shares0 D__law_shares.F T
  have G__law_is_plain_prime : FnOk P w K mg base CX0 1 f4 d4 P__law_is_plain_prime spPlainPrime := ok_plainprime D__law_is_plain_prime.F T
  have G__law_has : FnOk P w K mg base CX0 1 f5 d5 P__law_has spHas := ok_has (k := 0) D__law_has.F T
  have nd := sc__law_plan_of.nd
  refine D__law_plan_of.F.ok sc__law_plan_of (fun vs H Q E h => ?_) (fun cdv A outer s H vs Q E hr h => ?_)
  · obtain ⟨b, wd, g, n, c, dd, fr, rfl, _⟩ := h
    rfl
  · obtain ⟨b, wd, g, n, c, dd, fr, rfl, rfl, hb, hc, hn1, hn2, hfr, hMn, hW, q⟩ := h
    have htp := tks_pos d
    obtain ⟨M1, M2⟩ := hW.num
    obtain ⟨M, hM⟩ : ∃ M, numM g = M := ⟨_, rfl⟩
    have h2 : 2 ≤ tks d := by
      cases d with
      | zero => exact (by decide : (2 : Int) ≤ 2)
      | succ m =>
        show 2 ≤ 2 + 2 * tks m
        have := tks_pos m
        omega
    have tail : ∃ tl, PSs (cxOf CX0 P w K mg base N__law_plan_of "_law_plan_of" (defScope s__law_plan_of) f cdv A outer s H E).nox ((defBody s__law_plan_of).drop 3) tl ∧ ∀ (l : Addr) (xs : List V) (H1 : Hp) (s6 s7 s8 s9 s10 s11 : Option V), Same H H1 → H1 l = some (.lst xs) → l ≠ b → (∀ x ∈ xs, Wy (numM g) fr H1 n d x) → 0 < xs.length → xs.length ≤ 3000 → tl { nx := fun _ H' => Q .non H', rt := Q } [some (.ref b), some (.ref wd), some (.int n), some (.int (d : Int)), some (.bl fr), some (.ref l), s6, s7, s8, s9, s10, s11] H1 := by
      refine ⟨_, (pss_cons (ps_set (i := 8) nd rfl (Or.inl rfl) (pe_call G__law_pick (hr.mono (by omega)) (by rfl) D__law_pick.g D__law_pick.F.kp D__law_pick.b .nil pass0 (pa_cons (pv 0) (pa_cons (pv 5) pa_nil))))
      (pss_cons (ps_if (pt_cmpR (r := rIn K false) op_in_seq (pe_ix (r := rIxT K) ix_tup (pv 8) (pe_int) (fun _ _ => rfl)) (pe_tup (pa_cons (pe_str) (pa_cons (pe_str) pa_nil))) (by rfl)) (pss_one (ps_ret (pe_tup (pa_cons (pe_ix (r := rIxT K) ix_tup (pv 8) (pe_int) (fun _ _ => rfl)) (pa_cons (pv 2) pa_nil))))) pss_nil)
      (pss_cons (ps_if (pt_cmpR op_eq (pe_ix (r := rIxT K) ix_tup (pv 8) (pe_int) (fun _ _ => rfl)) (pe_str) (nomark _)) (pss_one (ps_ret (pe_tup (pa_cons (pe_str) (pa_cons (pv 2) (pa_cons (pe_call G__law_plan_of (hr.mono (by omega)) (by rfl) D__law_plan_of.g D__law_plan_of.F.kp D__law_plan_of.b .nil pass0 (pa_cons (pv 0) (pa_cons (pv 1) (pa_cons (pe_op op_sub (pv 2) (pe_int)) (pa_cons (pe_op op_sub (pv 3) (pe_int)) (pa_cons (pv 4) pa_nil)))))) pa_nil)))))) pss_nil)
      (pss_cons (ps_if (pt_cmpR op_eq (pe_ix (r := rIxT K) ix_tup (pv 8) (pe_int) (fun _ _ => rfl)) (pe_str) (nomark _)) (pss_one (ps_ret (pe_tup (pa_cons (pe_str) (pa_cons (pv 2) (pa_cons (pe_call G__law_plan_of (hr.mono (by omega)) (by rfl) D__law_plan_of.g D__law_plan_of.F.kp D__law_plan_of.b .nil pass0 (pa_cons (pv 0) (pa_cons (pv 1) (pa_cons (pe_ix (r := rIxT K) ix_tup (pv 8) (pe_int) (fun _ _ => rfl)) (pa_cons (pe_op op_sub (pv 3) (pe_int)) (pa_cons (pe_bl) pa_nil)))))) pa_nil)))))) pss_nil)
      (pss_cons (ps_set (i := 9) nd rfl (Or.inl rfl) (pe_call G__law_plan_of (hr.mono (by omega)) (by rfl) D__law_plan_of.g D__law_plan_of.F.kp D__law_plan_of.b .nil pass0 (pa_cons (pv 0) (pa_cons (pv 1) (pa_cons (pe_ix (r := rIxT K) ix_tup (pv 8) (pe_int) (fun _ _ => rfl)) (pa_cons (pe_op op_sub (pv 3) (pe_int)) (pa_cons (pv 4) pa_nil)))))))
      (pss_one (ps_ret (pe_tup (pa_cons (pe_ix (r := rIxT K) ix_tup (pv 8) (pe_int) (fun _ _ => rfl)) (pa_cons (pv 9) (pa_cons (pe_call G__law_plan_of (hr.mono (by omega)) (by rfl) D__law_plan_of.g D__law_plan_of.F.kp D__law_plan_of.b .nil pass0 (pa_cons (pv 0) (pa_cons (pv 1) (pa_cons (pe_op op_fdiv (pv 2) (pe_ix (r := rIxT K) ix_tup (pv 8) (pe_int) (fun _ _ => rfl))) (pa_cons (pe_op op_sub (pv 3) (pe_int)) (pa_cons (pv 4) pa_nil)))))) pa_nil))))))))))), ?_⟩
      intro l xs H1 s6 s7 s8 s9 s10 s11 sm1 hl hlb hw h0 hln
      have hb1 := hb.same sm1
      have hL : SqL K H1 l xs := SqL.of hl
      have h0' : 0 < (xs.length : Int) := by omega
      have hx1 : (xs.length : Int) < 1048576 := by omega
      walk_at "ev"
      intro v H2 hv k2 hb2
      have kH2 : Keep b H H2 := (keepS sm1).trans k2
      have hW2 := hW.keep kH2
      have hway := (hw v hv).keep k2 hb1
      cases hway with
      | leaf hww hs =>
        rename_i a wo
        have hT : SqT K H2 a [.str wo] := SqT.of hs
        walk_at "ev"
        w_cond _3
        have hT3 := same_t sm3 hT
        have hin : SqL K H3 l3 [.str "plain", .str "short"] ∨ SqT K H3 l3 [.str "plain", .str "short"] := .inr (SqT.of hq3)
        walk_at "ev"
        refine iteTe (in_ps_leaf hww) ?_
        walk_at "ev"
        w_cond _4
        have s24 := sm3.trans sm4
        refine q _ (.leaf wo n) _ (.leaf hww hq4) rfl (Nat.zero_le _) ⟨by omega, by omega⟩ (fun x hx => ?_) (kH2.trans (keepS s24)) ((hb2.same s24).mono (by omega))
        rw [List.mem_singleton.mp hx]
        exact hMn
      | pow hd0 hn3 hMk hs =>
        rename_i a
        obtain ⟨m, rfl⟩ : ∃ m, d = m + 1 := ⟨d - 1, by omega⟩
        have hS := hG m rfl
        subst hS
        have htm := tks_pos m
        have etk : tks (m + 1) = 2 + 2 * tks m := rfl
        have edm : (((m + 1 : Nat) : Int) - 1) = (m : Int) := by omega
        have hT : SqT K H2 a [.str "powers"] := SqT.of hs
        walk_at "ev"
        w_cond _3
        have hT3 := same_t sm3 hT
        have hin : SqL K H3 l3 [.str "plain", .str "short"] ∨ SqT K H3 l3 [.str "plain", .str "short"] := .inr (SqT.of hq3)
        have hb3 := hb2.same sm3
        have hW3 := hW2.up sm3
        have hfr' : fr = true → n - 1 ≤ 60 := fun z => by have := hfr z; omega
        walk_at "ev"
        intro v4 p4 H4 hpl hl4 hd4 ok4 hdv4 k4 hb4
        walk_at "ev"
        w_cond _5
        refine q _ (.led "powers" n p4) _ (.led (.inl rfl) hq5 (hpl.same sm5)) rfl ?_ ⟨by omega, by omega, ok4⟩ (fun x hx => ?_) (kH2.trans ((keepS sm3).trans (k4.trans (keepS sm5)))) ((hb4.same sm5).mono (by omega))
        · show 1 + pdep p4 ≤ m + 1
          omega
        · rcases List.mem_cons.mp hx with z | z
          · rw [z]
            exact hMn
          · exact hdv4 x z
      | two hww hd0 hk2 hkn hkm hs =>
        rename_i a wo kk
        obtain ⟨m, rfl⟩ : ∃ m, d = m + 1 := ⟨d - 1, by omega⟩
        have hS := hG m rfl
        subst hS
        have htm := tks_pos m
        have etk : tks (m + 1) = 2 + 2 * tks m := rfl
        have edm : (((m + 1 : Nat) : Int) - 1) = (m : Int) := by omega
        have hT : SqT K H2 a [.str wo, .int kk] := SqT.of hs
        walk_at "ev"
        w_cond _3
        have hT3 := same_t sm3 hT
        have hs3 := sm3 _ _ hs
        have hin : SqL K H3 l3 [.str "plain", .str "short"] ∨ SqT K H3 l3 [.str "plain", .str "short"] := .inr (SqT.of hq3)
        obtain ⟨n1, n2, n3⟩ := in_ps_two hww
        have hb3 := hb2.same sm3
        have hW3 := hW2.up sm3
        have hMk : numM g % kk = 0 := mod_dvd hMn hkm
        have hfr' : fr = true → kk ≤ 60 := fun z => by have := hfr z; omega
        walk_at "ev"
        refine iteFe n1 ?_
        walk_at "ev"
        refine iteFe (decide_eq_false n2) ?_
        walk_at "ev"
        refine iteFe (decide_eq_false n3) ?_
        walk_at "ev"
        intro v4 p4 H4 hpl hl4 hd4 ok4 hdv4 k4 hb4
        have hs4 := keep_at k4 hb3 hs3
        have hT4 : SqT K H4 a [.str wo, .int kk] := SqT.of hs4
        have hq0 : 1 ≤ n / kk := by
          have := Int.le_ediv_of_mul_le (show (0 : Int) < kk by omega) (show 1 * kk ≤ n by omega)
          exact this
        have hq1 : n / kk ≤ n := Int.ediv_le_self _ (by omega)
        have hmul : kk * (n / kk) = n := Int.mul_ediv_cancel' (Int.dvd_of_emod_eq_zero hkm)
        have hMq : numM g % (n / kk) = 0 := mod_dvd hMn (Int.emod_eq_zero_of_dvd ⟨kk, by rw [Int.mul_comm]; exact hmul.symm⟩)
        have hfq : fr = true → n / kk ≤ 60 := fun z => by have := hfr z; omega
        have hW4 := hW3.keep k4
        walk_at "ev"
        intro v5 p5 H5 hpl5 hl5 hd5 ok5 hdv5 k5 hb5
        have hpl' := hpl.keep k5 hb4
        have hT5 : SqT K H5 a [.str wo, .int kk] := SqT.of (keep_at k5 hb4 hs4)
        walk_at "ev"
        w_cond _6
        have epl : plen p4 * plen p5 = n := by rw [hl4, hl5, hmul]
        refine q _ (.two wo p4 p5) _ (.two hww hq6 (hpl'.same sm6) (hpl5.same sm6)) epl ?_ ⟨ok4, ok5, by rw [epl]; omega, by rw [epl]; omega⟩ (fun x hx => ?_) (kH2.trans ((keepS sm3).trans (k4.trans (k5.trans (keepS sm6))))) ((hb5.same sm6).mono (by omega))
        · show 1 + max (pdep p4) (pdep p5) ≤ m + 1
          omega
        · rcases List.mem_cons.mp hx with z | z
          · rw [z, epl]
            exact hMn
          · rcases List.mem_append.mp z with z | z
            · exact hdv4 x z
            · exact hdv5 x z
      | str hd0 hn1' hfrt hm1 hm2 hMk hs =>
        rename_i a mm
        obtain ⟨m, rfl⟩ : ∃ m, d = m + 1 := ⟨d - 1, by omega⟩
        have hS := hG m rfl
        subst hS
        have htm := tks_pos m
        have etk : tks (m + 1) = 2 + 2 * tks m := rfl
        have edm : (((m + 1 : Nat) : Int) - 1) = (m : Int) := by omega
        have hn60 := hfr hfrt
        have hT : SqT K H2 a [.str "stretch", .int mm] := SqT.of hs
        walk_at "ev"
        w_cond _3
        have hT3 := same_t sm3 hT
        have hin : SqL K H3 l3 [.str "plain", .str "short"] ∨ SqT K H3 l3 [.str "plain", .str "short"] := .inr (SqT.of hq3)
        have hb3 := hb2.same sm3
        have hW3 := hW2.up sm3
        have hff : false = true → mm ≤ 60 := fun z => by cases z
        walk_at "ev"
        intro v4 p4 H4 hpl hl4 hd4 ok4 hdv4 k4 hb4
        walk_at "ev"
        w_cond _5
        refine q _ (.led "stretch" n p4) _ (.led (.inr rfl) hq5 (hpl.same sm5)) rfl ?_ ⟨by omega, by omega, ok4⟩ (fun x hx => ?_) (kH2.trans ((keepS sm3).trans (k4.trans (keepS sm5)))) ((hb4.same sm5).mono (by omega))
        · show 1 + pdep p4 ≤ m + 1
          omega
        · rcases List.mem_cons.mp hx with z | z
          · rw [z]
            exact hMn
          · exact hdv4 x z
    obtain ⟨tl, htl, fin⟩ := tail
    have far : ∃ tf, PSs (cxOf CX0 P w K mg base N__law_plan_of "_law_plan_of" (defScope s__law_plan_of) f cdv A outer s H E).nox (inB (defBody s__law_plan_of) 2 3) tf ∧ ∀ (X : Ends) (l : Addr) (xs : List V) (H1 : Hp) (s6 s7 s8 s9 s10 s11 : Option V), 0 < d → Same H H1 → H1 l = some (.lst xs) → l ≠ b → (∀ x ∈ xs, Wy (numM g) fr H1 n d x) → 0 < xs.length → xs.length ≤ 2000 →
        (∀ (l' : Addr) (xs' : List V) (H2 : Hp) (t6 t7 t8 t9 t10 t11 : Option V), Same H H2 → H2 l' = some (.lst xs') → l' ≠ b → (∀ x ∈ xs', Wy (numM g) fr H2 n d x) → 0 < xs'.length → xs'.length ≤ 3000 → X.nx [some (.ref b), some (.ref wd), some (.int n), some (.int (d : Int)), some (.bl fr), some (.ref l'), t6, t7, t8, t9, t10, t11] H2) →
        tf X [some (.ref b), some (.ref wd), some (.int n), some (.int (d : Int)), some (.bl fr), some (.ref l), s6, s7, s8, s9, s10, s11] H1 := by
      refine ⟨_, (pss_one (ps_if (PW.pt (pw_and (pt_val (pv 4)) (pw_and1 (pt_cmpR op_gt (pv 2) (pe_int) (nomark _))))) (pss_cons (ps_setLc (i := 7) (own := [("_law_other", 11)]) (g := gName 11) (by rfl) nd rfl rfl (sw_true rfl rfl rfl (by decide +kernel)) (pi_range2 (by rfl) T.b_range (pa_cons (pe_op op_sub (pe_op op_mul (pe_int) (pv 2)) (pe_int)) (pa_cons (pe_op op_add (pe_op op_mul (pe_int) (pv 2)) (pe_int)) pa_nil))) (blkOk_by (own := [("_law_other", 11)]) (N := N__law_plan_of) (sc := defScope s__law_plan_of) (by decide +kernel)) (fun _ _ _ _ _ => (pg_name (i := 11) nd rfl (Or.inl rfl))) (fun _ _ _ _ _ => pts_one (pt_val (pe_call G__law_has (hr.mono (by omega)) (by rfl) D__law_has.g D__law_has.F.kp D__law_has.b .nil pass0 (pa_cons (pv 1) (pa_cons (pv 11) pa_nil))))) (fun _ _ _ _ _ => (pv 11)))
      (pss_one (ps_set (i := 5) nd rfl (Or.inl rfl) (pe_op op_cat (pv 5) (pe_lc (own := [("_law_other", 11)]) (g := gName 11) (by rfl) nd (pi_list (pe_slice (r := rSlL K) sl_list (pv 7) po_none (po_some (pe_int)))) (blkOk_by (own := [("_law_other", 11)]) (N := N__law_plan_of) (sc := defScope s__law_plan_of) (by decide +kernel)) (fun _ _ _ _ _ => (pg_name (i := 11) nd rfl (Or.inl rfl))) (fun _ _ _ _ _ => pts_nil) (fun _ _ _ _ _ => (pe_tup (pa_cons (pe_str) (pa_cons (pv 11) pa_nil))))))))) pss_nil)), ?_⟩
      intro X l xs H1 s6 s7 s8 s9 s10 s11 hd0 sm1 hl hlb hw h0 hln nx
      cases fr with
      | false =>
        walk_at "ev"
        exact nx l xs H1 _ _ _ _ _ _ sm1 hl hlb hw h0 (by omega)
      | true =>
        walk_at "ev"
        refine ite2 (fun e => ?_) (fun e => ?_)
        · have e1 : 1 < n := of_decide_eq_true e
          have hn60 := hfr rfl
          have cm2 : CMul 2 n := .inl ⟨by decide, by decide⟩
          have cm4 : CMul 4 n := .inl ⟨by decide, by decide⟩
          walk_at "ev"
          intro D hD
          refine lc_range (lo := 2 * n - 1) (n := _) (fun i H' => Hold (∃ ks : List Int, Same H1 H' ∧ H' D = some (.lst (ks.map V.int)) ∧ ks.length ≤ i ∧ ∀ k ∈ ks, 2 * n - 1 ≤ k ∧ k ≤ 4 * n ∧ numM g % k = 0)) (.mk ⟨[], same_new hD, upd_same, Nat.zero_le _, fun k hk => by cases hk⟩) ?_ ?_
          · intro i H3 hi hP
            obtain ⟨ks, sm3, hD3, hl3, hk3⟩ := hP.un
            have hW3 := hW.up (sm1.trans sm3)
            have hfl : (ks.map V.int).length < sizeLine := szm (by rw [List.length_map]; omega)
            walk_at "ev"
            refine ite2 (fun e => ?_) (fun e => ?_)
            · have e1 : numM g % (2 * n - 1 + (i : Int)) = 0 := of_decide_eq_true e
              walk_at "ev"
              refine .mk ⟨ks ++ [2 * n - 1 + (i : Int)], same_mut sm3 hD, by rw [upd_same, List.map_append]; rfl, by rw [List.length_append]; show _ + 1 ≤ _; omega, fun k hk => ?_⟩
              rcases List.mem_append.mp hk with h | h
              · exact hk3 k h
              · rw [List.mem_singleton.mp h]
                exact ⟨by omega, by omega, e1⟩
            · exact .mk ⟨ks, sm3, hD3, by omega, hk3⟩
          · intro H3 hP
            obtain ⟨ks, sm3, hD3, hl3, hk3⟩ := hP.un
            have hLD := SqL.of (K := K) hD3
            walk_at "ev"
            w_cond _4
            have hcm : ∀ v ∈ cutV (ks.map V.int) none (some 3), ∃ k, v = .int k ∧ k ∈ ks := fun v hv => by
              have : v ∈ ks.map V.int := by
                unfold cutV at hv
                exact List.mem_of_mem_drop (List.mem_of_mem_take hv)
              obtain ⟨k, hk, rfl⟩ := List.mem_map.mp this
              exact ⟨k, rfl, hk⟩
            have hcl : (cutV (ks.map V.int) none (some 3)).length ≤ 3 := by
              have e : cutV (ks.map V.int) none (some 3) = ((ks.map V.int).drop 0).take (HT.sIx (ks.map V.int).length (ks.map V.int).length (some 3) - 0) := rfl
              rw [e, List.length_take]
              have : HT.sIx (ks.map V.int).length (ks.map V.int).length (some 3) ≤ 3 := by
                unfold HT.sIx
                simp
                omega
              omega
            generalize cutV (ks.map V.int) none (some 3) = cc at *
            have hLc := SqL.of (K := K) hq4
            have hLc' : ∃ xs, SqL K H4 l4 xs := ⟨_, hLc⟩
            walk_at "ev"
            intro E1 hE1
            refine lc_list (K := K) (a := l4) (xs := cc) (fun i H' => Hold (∃ ys : List V, Same H4 H' ∧ H' E1 = some (.lst ys) ∧ ys.length = i ∧ ∀ y ∈ ys, Wy (numM g) true H' n d y)) (.mk ⟨[], same_new hE1, upd_same, rfl, by simp⟩) ?_ ?_ ?_
            · intro i H8 hi hP8
              obtain ⟨ys, sm8, hE8, hl8, hw8⟩ := hP8.un
              exact sm8.seq hLc
            · intro i x H8 hx hP8
              obtain ⟨ys, sm8, hE8, hl8, hw8⟩ := hP8.un
              obtain ⟨k, rfl, hk⟩ := hcm x (List.mem_of_getElem? hx)
              obtain ⟨k1, k2, k3⟩ := hk3 k hk
              have hil : i < cc.length := (List.getElem?_eq_some_iff.mp hx).1
              walk_at "ev"
              intro t9 ht9
              generalize hG9 : upd _ t9 _ = H9
              obtain ⟨sm9, hq9⟩ := newO hG9 ht9
              have hE9 := sm9 _ _ hE8
              refine ⟨_, hE9, szm (by omega), .mk ⟨ys ++ [.ref t9], same_mut (sm8.trans sm9) hE1, upd_same, by simp [hl8], ?_⟩⟩
              intro y hy
              have h9 : Wy (numM g) true H9 n d y := by
                rcases List.mem_append.mp hy with h | h
                · exact (hw8 y h).same sm9
                · have ey : y = .ref t9 := by simpa using h
                  rw [ey]
                  exact .str hd0 e1 rfl k1 k2 k3 hq9
              exact h9.mut hE9
            · intro H8 hP8
              obtain ⟨ys, sm8, hE8, hl8, hw8⟩ := hP8.un
              have hq8 := (sm3.trans (sm4.trans sm8)) _ _ hl
              have hz : xs.length + ys.length ≤ sizeLine := szl (by omega)
              walk_at "ev"
              w_cond _9
              have s19 : Same H1 H9 := sm3.trans (sm4.trans (sm8.trans sm9))
              refine nx l9 _ H9 _ _ _ _ _ _ (sm1.trans s19) hq9 ((hb.same (sm1.trans (sm3.trans (sm4.trans sm8)))).ne hl9) (fun x hx => ?_) (by rw [List.length_append]; omega) (by rw [List.length_append]; omega)
              rcases List.mem_append.mp hx with h | h
              · exact (hw x h).same s19
              · exact (hw8 x h).same sm9
        · walk_at "ev"
          exact nx l xs H1 _ _ _ _ _ _ sm1 hl hlb hw h0 (by omega)
    obtain ⟨tf, hfar, ffin⟩ := far
    have tail2 : ∃ tl2, PSs (cxOf CX0 P w K mg base N__law_plan_of "_law_plan_of" (defScope s__law_plan_of) f cdv A outer s H E).nox ((defBody s__law_plan_of).drop 2) tl2 ∧ ∀ (l D : Addr) (xs : List V) (ks : List Int) (H7 : Hp) (s7 s8 s9 s10 s11 : Option V), Same H H7 → H7 l = some (.lst xs) → l ≠ b → (∀ x ∈ xs, Wy (numM g) fr H7 n d x) → 0 < xs.length → xs.length ≤ 10 → H7 D = some (.lst (ks.map V.int)) → ks.length ≤ 240 → (∀ k ∈ ks, 2 ≤ k ∧ k < n ∧ n % k = 0) →
        tl2 { nx := fun _ H' => Q .non H', rt := Q } [some (.ref b), some (.ref wd), some (.int n), some (.int (d : Int)), some (.bl fr), some (.ref l), some (.ref D), s7, s8, s9, s10, s11] H7 := by
      refine ⟨_, (pss_cons (ps_if (pt_cmpR op_gt (pv 3) (pe_int) (nomark _)) (pss_cons (ps_set (i := 5) nd rfl (Or.inl rfl) (pe_op op_cat (pv 5) (pe_op op_rep (pe_lc (own := [("_law_part", 10)]) (g := gName 10) (by rfl) nd (pi_list (pv 6)) (blkOk_by (own := [("_law_part", 10)]) (N := N__law_plan_of) (sc := defScope s__law_plan_of) (by decide +kernel)) (fun _ _ _ _ _ => (pg_name (i := 10) nd rfl (Or.inl rfl))) (fun _ _ _ _ _ => pts_nil) (fun _ _ _ _ _ => (pe_tup (pa_cons (pe_str) (pa_cons (pv 10) pa_nil))))) (pe_int))))
      (pss_cons (ps_set (i := 5) nd rfl (Or.inl rfl) (pe_op op_cat (pv 5) (pe_op op_rep (pe_lc (own := [("_law_part", 10)]) (g := gName 10) (by rfl) nd (pi_list (pv 6)) (blkOk_by (own := [("_law_part", 10)]) (N := N__law_plan_of) (sc := defScope s__law_plan_of) (by decide +kernel)) (fun _ _ _ _ _ => (pg_name (i := 10) nd rfl (Or.inl rfl))) (fun _ _ _ _ _ => pts_one (pt_not (pt_val (pe_call G__law_shares (hr.mono (by omega)) (by rfl) D__law_shares.g D__law_shares.F.kp D__law_shares.b .nil pass0 (pa_cons (pv 10) (pa_cons (pe_op op_fdiv (pv 2) (pv 10)) pa_nil)))))) (fun _ _ _ _ _ => (pe_tup (pa_cons (pe_str) (pa_cons (pv 10) pa_nil))))) (pe_int))))
      (pss_cons (ps_if (PW.pt (pw_and (pt_cmpR op_gt (pv 2) (pe_int) (nomark _)) (pw_and (pt_val (pe_call G__law_is_plain_prime (hr.mono (by omega)) (by rfl) D__law_is_plain_prime.g D__law_is_plain_prime.F.kp D__law_is_plain_prime.b .nil pass0 (pa_cons (pv 2) pa_nil))) (pw_and1 (pt_val (pe_call G__law_has (hr.mono (by omega)) (by rfl) D__law_has.g D__law_has.F.kp D__law_has.b .nil pass0 (pa_cons (pv 1) (pa_cons (pe_op op_sub (pv 2) (pe_int)) pa_nil)))))))) (pss_one (ps_set (i := 5) nd rfl (Or.inl rfl) (pe_op op_cat (pv 5) (pe_op op_rep (pe_lst (pa_cons (pe_tup (pa_cons (pe_str) pa_nil)) pa_nil)) (pe_int))))) pss_nil)
      hfar))) pss_nil)
      htl), ?_⟩
      intro l D xs7 ks H7 s7 s8 s9 s10 s11 sm07 hq8 nlb hw7 hl70 hl7 hD7 hkl hk3
      walk_at "ev"
      refine ite2 (fun e => ?_) (fun e => ?_)
      · have hd0 : 0 < d := by
          have := of_decide_eq_true e
          omega
        have hLD : SqL K H7 D (ks.map V.int) := SqL.of hD7
        have hLD' : ∃ xs, SqL K H7 D xs := ⟨_, hLD⟩
        walk_at "ev"
        intro E1 hE1
        refine lc_list (K := K) (a := D) (xs := ks.map V.int) (fun i H' => Hold (∃ ys : List V, Same H7 H' ∧ H' E1 = some (.lst ys) ∧ ys.length = i ∧ ∀ y ∈ ys, Wy (numM g) fr H' n d y)) (.mk ⟨[], same_new hE1, upd_same, rfl, by simp⟩) ?_ ?_ ?_
        · intro i H8 hi hP8
          obtain ⟨ys, sm8, hE8, hl8, hw8⟩ := hP8.un
          exact sm8.seq hLD
        · intro i x H8 hx hP8
          obtain ⟨ys, sm8, hE8, hl8, hw8⟩ := hP8.un
          obtain ⟨k, hk, rfl⟩ := int_mem (List.mem_of_getElem? hx)
          obtain ⟨k1, k2, k3⟩ := hk3 k hk
          have hil : i < (ks.map V.int).length := (List.getElem?_eq_some_iff.mp hx).1
          rw [List.length_map] at hil
          walk_at "ev"
          intro t9 ht9
          generalize hG9 : upd _ t9 _ = H9
          obtain ⟨sm9, hq9⟩ := newO hG9 ht9
          have hE9 := sm9 _ _ hE8
          refine ⟨_, hE9, szm (by omega), .mk ⟨ys ++ [.ref t9], same_mut (sm8.trans sm9) hE1, upd_same, by simp [hl8], ?_⟩⟩
          intro y hy
          have h9 : Wy (numM g) fr H9 n d y := by
            rcases List.mem_append.mp hy with h | h
            · exact (hw8 y h).same sm9
            · have ey : y = .ref t9 := by simpa using h
              rw [ey]
              exact .two (.inl rfl) hd0 k1 k2 k3 hq9
          exact h9.mut hE9
        · intro H8 hP8
          obtain ⟨ys, sm8, hE8, hl8, hw8⟩ := hP8.un
          rw [List.length_map] at hl8
          have hr5 : ys.length * (2 : Int).toNat ≤ sizeLine := by
            show ys.length * 2 ≤ sizeLine
            exact szl (by omega)
          walk_at "ev"
          w_cond _9
          have hq10 := (sm8.trans sm9) _ _ hq8
          have hlr : (List.replicate (2 : Int).toNat ys).flatten.length = 2 * ys.length := len_rep 2
          have hr6 : xs7.length + (List.replicate (2 : Int).toNat ys).flatten.length ≤ sizeLine := by
            rw [hlr]
            exact szl (by omega)
          walk_at "ev"
          w_cond _10
          have sm710 : Same H7 H10 := sm8.trans (sm9.trans sm10)
          have hw10 : ∀ x ∈ xs7 ++ (List.replicate (2 : Int).toNat ys).flatten, Wy (numM g) fr H10 n d x := by
            intro x hx
            rcases List.mem_append.mp hx with h | h
            · exact (hw7 x h).same sm710
            · exact (hw8 x (mem_rep h).1).same (sm9.trans sm10)
          have hl10' : (xs7 ++ (List.replicate (2 : Int).toNat ys).flatten).length ≤ 500 ∧ 0 < (xs7 ++ (List.replicate (2 : Int).toNat ys).flatten).length := by
            rw [List.length_append, hlr]
            omega
          generalize xs7 ++ (List.replicate (2 : Int).toNat ys).flatten = xs10 at *
          have hD10 := sm710 _ _ hD7
          have hLD10 : SqL K H10 D (ks.map V.int) := SqL.of hD10
          have hLD10' : ∃ xs, SqL K H10 D xs := ⟨_, hLD10⟩
          clear hP8
          walk_at "ev"
          intro E2 hE2
          refine lc_list (K := K) (a := D) (xs := ks.map V.int) (fun i H' => Hold (∃ ys : List V, Same H10 H' ∧ H' E2 = some (.lst ys) ∧ ys.length ≤ i ∧ ∀ y ∈ ys, Wy (numM g) fr H' n d y)) (.mk ⟨[], same_new hE2, upd_same, Nat.zero_le _, by simp⟩) ?_ ?_ ?_
          · intro i H11 hi hP11
            obtain ⟨zs, sm11, hE11, hl11, hw11⟩ := hP11.un
            exact sm11.seq hLD10
          · intro i x H11 hx hP11
            obtain ⟨zs, sm11, hE11, hl11, hw11⟩ := hP11.un
            obtain ⟨k, hk, rfl⟩ := int_mem (List.mem_of_getElem? hx)
            obtain ⟨k1, k2, k3⟩ := hk3 k hk
            have hil : i < (ks.map V.int).length := (List.getElem?_eq_some_iff.mp hx).1
            rw [List.length_map] at hil
            have hq0' : 0 ≤ n / k := Int.ediv_nonneg (by omega) (by omega)
            walk_at "ev"
            intro bb
            walk_at "ev"
            refine ite2 (fun e2 => ?_) (fun e2 => ?_)
            · walk_at "ev"
              intro t9 ht9
              generalize hG9 : upd _ t9 _ = H12
              obtain ⟨sm12, hq12⟩ := newO hG9 ht9
              have hE12 := sm12 _ _ hE11
              refine ⟨_, hE12, szm (by omega), .mk ⟨zs ++ [.ref t9], same_mut (sm11.trans sm12) hE2, upd_same, by simp; omega, ?_⟩⟩
              intro y hy
              have h9 : Wy (numM g) fr H12 n d y := by
                rcases List.mem_append.mp hy with h | h
                · exact (hw11 y h).same sm12
                · have ey : y = .ref t9 := by simpa using h
                  rw [ey]
                  exact .two (.inr rfl) hd0 k1 k2 k3 hq12
              exact h9.mut hE12
            · exact .mk ⟨zs, sm11, hE11, by omega, hw11⟩
          · intro H11 hP11
            obtain ⟨zs, sm11, hE11, hl11, hw11⟩ := hP11.un
            rw [List.length_map] at hl11
            have hr7 : zs.length * (2 : Int).toNat ≤ sizeLine := by
              show zs.length * 2 ≤ sizeLine
              exact szl (by omega)
            walk_at "ev"
            w_cond _12
            have hq13 := (sm11.trans sm12) _ _ hq10
            have hlr2 : (List.replicate (2 : Int).toNat zs).flatten.length = 2 * zs.length := len_rep 2
            have hr8 : xs10.length + (List.replicate (2 : Int).toNat zs).flatten.length ≤ sizeLine := by
              rw [hlr2]
              exact szl (by omega)
            walk_at "ev"
            w_cond _13
            have sm1013 : Same H10 H13 := sm11.trans (sm12.trans sm13)
            have hw13 : ∀ x ∈ xs10 ++ (List.replicate (2 : Int).toNat zs).flatten, Wy (numM g) fr H13 n d x := by
              intro x hx
              rcases List.mem_append.mp hx with h | h
              · exact (hw10 x h).same sm1013
              · exact (hw11 x (mem_rep h).1).same (sm12.trans sm13)
            have hl13' : (xs10 ++ (List.replicate (2 : Int).toNat zs).flatten).length ≤ 1000 ∧ 0 < (xs10 ++ (List.replicate (2 : Int).toNat zs).flatten).length := by
              rw [List.length_append, hlr2]
              omega
            generalize xs10 ++ (List.replicate (2 : Int).toNat zs).flatten = xs13 at *
            clear hP11
            have s013 := sm07.trans (sm710.trans sm1013)
            have n13b : l13 ≠ b := (hb.same (sm07.trans (sm710.trans (sm11.trans sm12)))).ne hl13
            have goF : ∀ (H' : Hp) (s7 s8 s9 s10 s11 : Option V), Same H13 H' → tf { nx := tl { nx := fun _ H' => Q .non H', rt := Q }, rt := Q } [some (.ref b), some (.ref wd), some (.int n), some (.int (d : Int)), some (.bl fr), some (.ref l13), some (.ref D), s7, s8, s9, s10, s11] H' := fun H' s7 s8 s9 s10 s11 sm => ffin _ l13 xs13 H' _ _ _ _ _ _ hd0 (s013.trans sm) (sm _ _ hq13) n13b (fun x hx => (hw13 x hx).same sm) hl13'.2 (by omega) fun l' xs' H2 t6 t7 t8 t9 t10 t11 h1 h2 h3 h4 h5 h6 => fin l' xs' H2 _ _ _ _ _ _ h1 h2 h3 h4 h5 h6
            walk_at "ev"
            refine ite2 (fun e1 => ?_) (fun e1 => ?_)
            · have e2 : 2 < n := of_decide_eq_true e1
              walk_at "ev"
              intro bb H14 sm14
              have hW14 := hW.up (s013.trans sm14)
              walk_at "ev"
              refine ite2 (fun e3 => ?_) (fun e3 => ?_)
              · walk_at "ev"
                refine ite2 (fun e4 => ?_) (fun e4 => ?_)
                · have e5 : numM g % (n - 1) = 0 := of_decide_eq_true e4
                  walk_at "ev"
                  w_cond _15
                  walk_at "ev"
                  w_cond _16
                  have hr9 : 1 * 4 ≤ sizeLine := szl (by decide)
                  walk_at "ev"
                  w_cond _17
                  have hqq := (sm14.trans (sm15.trans (sm16.trans sm17))) _ _ hq13
                  have hr10 : xs13.length + 4 ≤ sizeLine := szl (by omega)
                  walk_at "ev"
                  w_cond _18
                  have s1318 : Same H13 H18 := sm14.trans (sm15.trans (sm16.trans (sm17.trans sm18)))
                  have n18b : l18 ≠ b := (hb.same (s013.trans (sm14.trans (sm15.trans (sm16.trans sm17))))).ne hl18
                  refine ffin _ l18 _ H18 _ _ _ _ _ _ hd0 (s013.trans s1318) hq18 n18b (fun x hx => ?_) (by rw [List.length_append]; omega) (by rw [List.length_append]; show _ + 4 ≤ 2000; omega) fun l' xs' H2 t6 t7 t8 t9 t10 t11 h1 h2 h3 h4 h5 h6 => fin l' xs' H2 _ _ _ _ _ _ h1 h2 h3 h4 h5 h6
                  rcases List.mem_append.mp hx with h | h
                  · exact (hw13 x h).same s1318
                  · have ex : x = .ref l15 := by simpa using (mem_rep h).1
                    rw [ex]
                    exact .pow hd0 e2 e5 ((sm16.trans (sm17.trans sm18)) _ _ hq15)
                · walk_at "ev"
                  exact goF _ _ _ _ _ _ sm14
              · walk_at "ev"
                exact goF _ _ _ _ _ _ sm14
            · walk_at "ev"
              exact goF _ _ _ _ _ _ (Same.refl _)
      · walk_at "ev"
        exact fin l xs7 H7 _ _ _ _ _ _ sm07 hq8 nlb hw7 hl70 (by omega)
    obtain ⟨tl2, htl, fin2⟩ := tail2
    clear fin ffin
    refine ⟨_, (pss_cons (ps_par (i := 5) (j := 6) (by rfl) nd rfl rfl (by decide) rfl rfl (pa_cons (pe_lst (pa_cons (pe_tup (pa_cons (pe_str) pa_nil)) pa_nil)) (pa_cons (pe_lc (own := [("_law_part", 10)]) (g := gName 10) (by rfl) nd (pi_range2 (by rfl) T.b_range (pa_cons (pe_int) (pa_cons (pv 2) pa_nil))) (blkOk_by (own := [("_law_part", 10)]) (N := N__law_plan_of) (sc := defScope s__law_plan_of) (by decide +kernel)) (fun _ _ _ _ _ => (pg_name (i := 10) nd rfl (Or.inl rfl))) (fun _ _ _ _ _ => pts_one (pt_cmpR op_eq (pe_op op_mod (pv 2) (pv 10)) (pe_int) (nomark _))) (fun _ _ _ _ _ => (pv 10))) pa_nil)) (by rfl))
      (pss_cons (ps_if (pt_cmpR op_lt (pv 2) (pe_int) (nomark _)) (pss_one (ps_set (i := 5) nd rfl (Or.inl rfl) (pe_op op_cat (pv 5) (pe_op op_rep (pe_lst (pa_cons (pe_tup (pa_cons (pe_str) pa_nil)) pa_nil)) (pe_int))))) pss_nil)
      htl)), ?_⟩
    walk_at "ev"
    w_cond _1
    walk_at "ev"
    w_cond _2
    have sm02 := sm1.trans sm2
    walk_at "ev"
    intro D hD
    refine lc_range (lo := 2) (n := _) (fun i H' => Hold (∃ ks : List Int, Same H2 H' ∧ H' D = some (.lst (ks.map V.int)) ∧ ks.length ≤ i ∧ ∀ k ∈ ks, 2 ≤ k ∧ k < n ∧ n % k = 0)) (.mk ⟨[], same_new hD, upd_same, Nat.zero_le _, by simp⟩) ?_ ?_
    · intro i H3 hi hP
      obtain ⟨ks, sm3, hD3, hl3, hk3⟩ := hP.un
      have hfl : (ks.map V.int).length < sizeLine := by
        rw [List.length_map]
        exact szm (by omega)
      walk_at "ev"
      refine ite2 (fun e => ?_) (fun e => ?_)
      · have e1 : n % (2 + (i : Int)) = 0 := V.int.inj (of_decide_eq_true e)
        walk_at "ev"
        refine .mk ⟨ks ++ [2 + (i : Int)], same_mut sm3 hD, ?_, ?_, ?_⟩
        · rw [upd_same, List.map_append]
          rfl
        · simp
          omega
        · intro k hk
          rcases List.mem_append.mp hk with h | h
          · exact hk3 k h
          · have e2 : k = 2 + (i : Int) := by simpa using h
            subst e2
            exact ⟨by omega, by omega, e1⟩
      · exact .mk ⟨ks, sm3, hD3, by omega, hk3⟩
    · intro H3 hP
      obtain ⟨ks, sm3, hD3, hl3, hk3⟩ := hP.un
      have hkl : ks.length ≤ 240 := by omega
      have sm03 := sm02.trans sm3
      have n2b : l2 ≠ b := (hb.same sm1).ne hl2
      have w3 : ∀ x ∈ [V.ref l1], Wy (numM g) fr H3 n d x := fun x hx => by
        rw [List.mem_singleton.mp hx]
        exact .leaf (.inl rfl) ((sm2.trans sm3) _ _ hq1)
      walk_at "ev"
      refine ite2 (fun e => ?_) (fun e => ?_)
      · walk_at "ev"
        w_cond _4
        walk_at "ev"
        w_cond _5
        have hr9 : 1 * 3 ≤ sizeLine := szl (by decide)
        walk_at "ev"
        w_cond _6
        have hqq := (sm3.trans (sm4.trans (sm5.trans sm6))) _ _ hq2
        have hr10 : 1 + 3 ≤ sizeLine := szl (by decide)
        walk_at "ev"
        w_cond _7
        have s37 : Same H3 H7 := sm4.trans (sm5.trans (sm6.trans sm7))
        refine fin2 l7 D _ ks H7 _ _ _ _ _ (sm03.trans s37) hq7 ((hb.same (sm03.trans (sm4.trans (sm5.trans sm6)))).ne hl7) (fun x hx => ?_) (by show 0 < 4; decide) (by show 4 ≤ 10; decide) (s37 _ _ hD3) hkl hk3
        rcases List.mem_append.mp hx with h | h
        · exact (w3 x h).same s37
        · have ex : x = .ref l4 := by simpa using (mem_rep h).1
          rw [ex]
          exact .leaf (.inr rfl) ((sm5.trans (sm6.trans sm7)) _ _ hq4)
      · walk_at "ev"
        exact fin2 l2 D _ ks H3 _ _ _ _ _ sm03 (sm3 _ _ hq2) n2b w3 (by show 0 < 1; decide) (by show 1 ≤ 10; decide) hD3 hkl hk3
theorem ok_pof {f f1 f2 f3 f4 f5 : Addr} {fd d1 d2 d3 d4 d5 : FuncData} (D__law_plan_of : Df K mg "_law_plan_of" s__law_plan_of P__law_plan_of f fd) (T : Blt mg) (D__law_take : Df K mg "_law_take" s__law_take P__law_take f1 d1) (D__law_pick : Df K mg "_law_pick" s__law_pick P__law_pick f2 d2) (D__law_shares : Df K mg "_law_shares" s__law_shares P__law_shares f3 d3) (D__law_is_plain_prime : Df K mg "_law_is_plain_prime" s__law_is_plain_prime P__law_is_plain_prime f4 d4) (D__law_has : Df K mg "_law_has" s__law_has P__law_has f5 d5) : ∀ d : Nat, FnOk P w K mg base CX0 (d + 3) f fd P__law_plan_of (spPof K d)
  | 0 => pof_step (spI := fun _ _ _ _ => False) D__law_plan_of T D__law_take D__law_pick D__law_shares D__law_is_plain_prime D__law_has ⟨fun _ _ _ _ h => h.elim, fun _ _ _ _ _ _ _ _ _ _ _ _ _ h => h.elim⟩ (fun m h => by omega)
  | d + 1 => pof_step D__law_plan_of T D__law_take D__law_pick D__law_shares D__law_is_plain_prime D__law_has (ok_pof D__law_plan_of T D__law_take D__law_pick D__law_shares D__law_is_plain_prime D__law_has d) (fun m h => by cases h; rfl)
end
/-! ### each prime has a generator: looked up by the kernel -/
def pm (m : Nat) : Nat → Nat → Nat → Nat
  | 0, _, _ => 1 % m
  | k + 1, b, e => if e % 2 = 1 then b * pm m k (b * b % m) (e / 2) % m else pm m k (b * b % m) (e / 2)
theorem npow_mod (a m : Nat) (k : Nat) : (a % m) ^ k % m = a ^ k % m := (Nat.pow_mod a k m).symm
theorem npow_sq (b k : Nat) : (b * b) ^ k = b ^ (2 * k) := by
  rw [Nat.pow_mul, Nat.pow_two]
theorem pm_eq (m : Nat) : ∀ k b e : Nat, e < 2 ^ k → pm m k b e = b ^ e % m
  | 0, b, e, h => by
    have : e = 0 := by
      have : (2 : Nat) ^ 0 = 1 := rfl
      omega
    subst this
    show 1 % m = b ^ 0 % m
    rw [Nat.pow_zero]
  | k + 1, b, e, h => by
    have he : e / 2 < 2 ^ k := by
      rw [Nat.pow_succ] at h
      omega
    have ih := pm_eq m k (b * b % m) (e / 2) he
    show (if e % 2 = 1 then b * pm m k (b * b % m) (e / 2) % m else pm m k (b * b % m) (e / 2)) = _
    rw [ih, npow_mod, npow_sq]
    split
    · rename_i o
      have e2 : e = 2 * (e / 2) + 1 := by omega
      conv => rhs; rw [e2, Nat.pow_succ, Nat.mul_comm (b ^ _) b, Nat.mul_mod]
      rw [Nat.mul_mod, Nat.mod_mod]
    · have e2 : e = 2 * (e / 2) := by omega
      conv => rhs; rw [e2]
def okG (p g d : Nat) : Bool := if (p - 1) % d = 0 then (pm p 20 g ((p - 1) / d) != 1) && (decide (d = p - 1) || (pm p 20 g d != 1)) else true
def okAll (p g s : Nat) : Bool := decide (2 ≤ g) && (decide (g < p) && (List.range' 2 (s - 1)).all (okG p g))
def fnd (p s : Nat) : Nat → Nat → Nat
  | 0, g => g
  | k + 1, g => if okAll p g s = true then g else fnd p s k (g + 1)
def isPr (p : Nat) : Bool := (List.range' 2 99).all fun d => decide (p < d * d) || decide (p % d ≠ 0)
def chk (p : Nat) : Bool := !isPr p || okAll p (fnd p 100 60 2) 100
theorem chk1 : (List.range' 3 2498).all chk = true := by decide +kernel
theorem chk2 : (List.range' 2501 2500).all chk = true := by decide +kernel
theorem chk3 : (List.range' 5001 2500).all chk = true := by decide +kernel
theorem chk4 : (List.range' 7501 2500).all chk = true := by decide +kernel
theorem far1 : okAll 10007 (fnd 10007 101 60 2) 101 = true := by decide +kernel
theorem far2 : okAll 40961 (fnd 40961 203 60 2) 203 = true := by decide +kernel
theorem far3 : okAll 65537 (fnd 65537 257 60 2) 257 = true := by decide +kernel
theorem far4 : okAll 786433 (fnd 786433 888 60 2) 888 = true := by decide +kernel
theorem far5 : okAll 999983 (fnd 999983 1000 60 2) 1000 = true := by decide +kernel
theorem okG_at {p g s : Nat} (h : okAll p g s = true) {d : Nat} (d2 : 2 ≤ d) (ds : d ≤ s) (hd : d ∣ p - 1) (hp : p ≤ 1048576) (hp3 : 3 ≤ p) : ¬ g ^ ((p - 1) / d) % p = 1 ∧ (d ≠ p - 1 → ¬ g ^ d % p = 1) := by
  unfold okAll at h
  simp only [Bool.and_eq_true, decide_eq_true_eq, List.all_eq_true] at h
  have h1 := h.2.2 d (List.mem_range'_1.mpr ⟨d2, by omega⟩)
  unfold okG at h1
  rw [if_pos (Nat.mod_eq_zero_of_dvd hd)] at h1
  have e20 : (2 : Nat) ^ 20 = 1048576 := by decide
  have dle : d ≤ p - 1 := Nat.le_of_dvd (by omega) hd
  have qle : (p - 1) / d ≤ p - 1 := Nat.div_le_self _ _
  rw [pm_eq p 20 g _ (by omega), pm_eq p 20 g _ (by omega)] at h1
  simp only [Bool.and_eq_true, Bool.or_eq_true, decide_eq_true_eq, bne_iff_ne, ne_eq] at h1
  exact ⟨h1.1, fun z => h1.2.resolve_left z⟩
/-- what was looked up is enough -/
theorem gen_of {p g s : Nat} (h : okAll p g s = true) (hp : p ≤ 1048576) (hp3 : 3 ≤ p) (hs : p ≤ (s + 1) * (s + 1)) {out : List Int} (ho : ∀ k ∈ out, 2 ≤ k ∧ k ∣ (p : Int) - 1) : 1 ≤ (g : Int) ∧ (g : Int) < p ∧ GenOk p g (erl p out) := by
  have h0 := h
  unfold okAll at h0
  simp only [Bool.and_eq_true, decide_eq_true_eq] at h0
  refine ⟨by omega, by omega, ?_⟩
  intro e he z
  obtain ⟨f, hf, ef⟩ := List.mem_map.mp he
  obtain ⟨f2, fd⟩ := ho f hf
  -- all in naturals
  have ep : ((p - 1 : Nat) : Int) = (p : Int) - 1 := by omega
  have fN : ((f.toNat : Nat) : Int) = f := Int.toNat_of_nonneg (by omega)
  have fdN : f.toNat ∣ p - 1 := by
    rw [← Int.natCast_dvd_natCast, fN, ep]
    exact fd
  have eN : e.toNat = (p - 1) / f.toNat := by
    rw [← ef]
    have : ((p : Int) - 1) / f = (((p - 1) / f.toNat : Nat) : Int) := by
      rw [Int.natCast_ediv, ep, fN]
    rw [this]
    rfl
  have zN : g ^ e.toNat % p = 1 := by
    have : ((g ^ e.toNat % p : Nat) : Int) = 1 := by
      rw [Int.natCast_emod, Int.natCast_pow]
      exact z
    omega
  rw [eN] at zN
  by_cases fs : f.toNat ≤ s
  · exact (okG_at h (by omega) fs fdN hp hp3).1 zN
  · -- the partner is small
    have hq : (p - 1) / f.toNat * f.toNat = p - 1 := Nat.div_mul_cancel fdN
    have hqs : (p - 1) / f.toNat ≤ s := by
      apply Nat.le_of_not_gt
      intro v
      have : (s + 1) * (s + 1) ≤ (p - 1) / f.toNat * f.toNat := Nat.mul_le_mul v (by omega)
      omega
    have hq0 : (p - 1) / f.toNat ≠ 0 := fun v => by
      rw [v] at hq
      omega
    by_cases q1 : (p - 1) / f.toNat = 1
    · rw [q1, Nat.pow_one, Nat.mod_eq_of_lt h0.2.1] at zN
      omega
    · refine (okG_at h (d := (p - 1) / f.toNat) (by omega) hqs ⟨f.toNat, hq.symm⟩ hp hp3).2 ?_ zN
      intro v
      have : (p - 1) / f.toNat * 2 ≤ (p - 1) / f.toNat * f.toNat := Nat.mul_le_mul_left _ (by omega)
      omega
theorem isPr_of {p : Nat} (hp : p ≤ 10000) (h : ∀ d, 2 ≤ d → d * d ≤ p → ¬ d ∣ p) : isPr p = true := by
  unfold isPr
  rw [List.all_eq_true]
  intro d hd
  have h1 := List.mem_range'_1.mp hd
  rw [Bool.or_eq_true, decide_eq_true_iff, decide_eq_true_iff]
  by_cases z : p < d * d
  · exact .inl z
  · exact .inr fun e => h d h1.1 (by omega) (Nat.dvd_of_mod_eq_zero e)
theorem gen_small {p : Nat} (h3 : 3 ≤ p) (hp : p ≤ 10000) (h : ∀ d, 2 ≤ d → d * d ≤ p → ¬ d ∣ p) {out : List Int} (ho : ∀ k ∈ out, 2 ≤ k ∧ k ∣ (p : Int) - 1) : ∃ g0 : Int, 1 ≤ g0 ∧ g0 < p ∧ GenOk p g0 (erl p out) := by
  have hc : chk p = true := by
    by_cases a : p ≤ 2500
    · exact (List.all_eq_true.mp chk1) p (List.mem_range'_1.mpr ⟨h3, by omega⟩)
    · by_cases b : p ≤ 5000
      · exact (List.all_eq_true.mp chk2) p (List.mem_range'_1.mpr ⟨by omega, by omega⟩)
      · by_cases c : p ≤ 7500
        · exact (List.all_eq_true.mp chk3) p (List.mem_range'_1.mpr ⟨by omega, by omega⟩)
        · exact (List.all_eq_true.mp chk4) p (List.mem_range'_1.mpr ⟨by omega, by omega⟩)
  unfold chk at hc
  rw [isPr_of hp h] at hc
  have hk : okAll p (fnd p 100 60 2) 100 = true := by simpa using hc
  obtain ⟨a, b, c⟩ := gen_of hk (by omega) h3 (by omega) ho
  exact ⟨_, a, b, c⟩
/-! ### the primes that are drawn -/
def GenAt (p : Int) : Prop := 2 ≤ p ∧ p ≤ 1000000 ∧ ∃ (fs out : List Int) (g0 : Int), Fac (p - 1) fs ∧ out.Pairwise (· < ·) ∧ (∀ k, k ∈ out ↔ k ∈ fs) ∧ IsPf (p - 1) out ∧ 1 ≤ g0 ∧ g0 < p ∧ GenOk p g0 (erl p out)
theorem gen_two : GenAt 2 := by
  refine ⟨by decide, by decide, [], [], 1, .one, .nil, fun k => Iff.rfl, ⟨.nil, fun k => ⟨fun h => by simp at h, fun ⟨a, b, _⟩ => ?_⟩⟩, by decide, by decide, fun e he => by simp [erl] at he⟩
  have := Int.le_of_dvd (by decide) b
  omega
theorem gen_odd {p : Nat} (h3 : 3 ≤ p) (hp : p ≤ 1000000) (h : ∀ out : List Int, (∀ k ∈ out, 2 ≤ k ∧ k ∣ (p : Int) - 1) → ∃ g0 : Int, 1 ≤ g0 ∧ g0 < p ∧ GenOk p g0 (erl p out)) : GenAt (p : Int) := by
  obtain ⟨fs, out, a, b, c, d⟩ := pf_ex (n := (p : Int) - 1) (by omega)
  obtain ⟨g0, e, f, g⟩ := h out fun k hk => by
    obtain ⟨u, v, _⟩ := (d.2 k).mp hk
    exact ⟨u, v⟩
  exact ⟨by omega, by omega, fs, out, g0, a, b, c, d, e, f, g⟩
theorem gen_prs {x : Int} (h : x ∈ prs 10000) : GenAt x := by
  obtain ⟨j, ej, j1, j2, j3⟩ := mem_prs.mp h
  rw [ej]
  by_cases j2' : j = 2
  · rw [j2']
    exact gen_two
  · refine gen_odd (by omega) (by omega) fun out ho => gen_small (by omega) (by omega) ?_ ho
    intro d d2 dd
    have : d * 2 ≤ d * d := Nat.mul_le_mul_left d d2
    exact pk_iff.mp j3 d d2 (by omega) dd
theorem gen_9973 : GenAt 9973 := gen_prs (mem_prs.mpr ⟨9973, rfl, by decide, by decide, by decide +kernel⟩)
theorem gen_7681 : GenAt 7681 := gen_prs (mem_prs.mpr ⟨7681, rfl, by decide, by decide, by decide +kernel⟩)
theorem prs_pos {top : Nat} (h : 4 ≤ top) : 0 < (prs top).length := by
  have : (2 : Int) ∈ prs top := mem_prs.mpr ⟨2, rfl, by omega, by omega, pk_iff.mpr fun d h1 h2 h3 => by
    have : 2 * 2 ≤ d * d := Nat.mul_le_mul h1 h1
    omega⟩
  exact List.length_pos_of_mem this
theorem cut12 {xs : List V} (h : 0 < xs.length) : 0 < (cutV xs none (some 12)).length ∧ ∀ v ∈ cutV xs none (some 12), v ∈ xs := by
  have e : cutV xs none (some 12) = xs.take (min 12 xs.length) := rfl
  rw [e]
  refine ⟨?_, fun v hv => List.mem_of_mem_take hv⟩
  rw [List.length_take]
  omega
theorem in_9973 : (9973 : Int) ∈ prs 10000 := mem_prs.mpr ⟨9973, rfl, by decide, by decide, by decide +kernel⟩
theorem in_two : (2 : Int) ∈ prs 10000 := mem_prs.mpr ⟨2, rfl, by decide, by decide, by decide +kernel⟩
theorem in_7681 : (7681 : Int) ∈ prs 10000 := mem_prs.mpr ⟨7681, rfl, by decide, by decide, by decide +kernel⟩
/-- a prime to ten thousand, as the law's sieve and as factors have it -/
theorem prs_iff {x : Int} : x ∈ prs 10000 ↔ x ≤ 10000 ∧ Fac x [x] := by
  constructor
  · intro h
    obtain ⟨j, ej, j1, j2, j3⟩ := mem_prs.mp h
    refine ⟨by omega, Fac.self (by omega) fun e e2 e3 k => ?_⟩
    obtain ⟨q, hq⟩ := k
    have q0 : 0 < q := by
      apply Int.lt_of_not_ge
      intro z
      have : e * q ≤ 0 := Int.mul_nonpos_of_nonneg_of_nonpos (by omega) z
      omega
    have q1 : q ≠ 1 := fun z => by
      rw [z, Int.mul_one] at hq
      omega
    have nat : ∀ u v : Int, 2 ≤ u → 2 ≤ v → u ≤ v → x = u * v → False := fun u v u2 v2 uv e => by
      have h1 : u * u ≤ x := by rw [e]; exact Int.mul_le_mul_of_nonneg_left uv (by omega)
      have h2 : u * 2 ≤ u * u := Int.mul_le_mul_of_nonneg_left u2 (by omega)
      have hu : ((u.toNat : Nat) : Int) = u := Int.toNat_of_nonneg (by omega)
      refine pk_iff.mp j3 u.toNat (by omega) (by omega) ?_ ?_
      · have : ((u.toNat * u.toNat : Nat) : Int) ≤ (j : Int) := by rw [Int.natCast_mul, hu]; omega
        omega
      · rw [← Int.natCast_dvd_natCast, hu, ← ej, e]
        exact ⟨v, rfl⟩
    rcases Int.le_total e q with z | z
    · exact nat e q e2 (by omega) z hq
    · exact nat q e (by omega) e2 z (by rw [Int.mul_comm]; exact hq)
  · rintro ⟨h1, h2⟩
    obtain ⟨h3, h4⟩ := Rough.of_fac h2
    refine mem_prs.mpr ⟨x.toNat, by omega, by omega, by omega, pk_iff.mpr fun d d2 _ dd k => ?_⟩
    have e : ((x.toNat : Nat) : Int) = x := Int.toNat_of_nonneg (by omega)
    have k2 := Int.natCast_dvd_natCast.mpr k
    rw [e] at k2
    have : d * 2 ≤ d * d := Nat.mul_le_mul_left d d2
    exact h4 (d : Int) (by omega) (by omega) k2
/-! ### the ground of rests -/
abbrev restF (p g : Int) : List (Str × V) := [(("prime" : Str), .int p), (("base" : Str), .int g)]
def RestAt (C : Addr) (H : Hp) (a : Addr) (p : Int) : Prop := ∃ dx g, H a = some (.ins C dx (restF p g)) ∧ ∃ out, IsPf (p - 1) out ∧ LeastGen p g (erl p out)
theorem RestAt.same {C : Addr} {H H' : Hp} {a : Addr} {p : Int} (h : RestAt C H a p) (e : Same H H') : RestAt C H' a p := by
  obtain ⟨dx, g, h1, h2⟩ := h
  exact ⟨dx, g, e _ _ h1, h2⟩
theorem RestAt.keep {C b : Addr} {H H' : Hp} {a : Addr} {p : Int} (h : RestAt C H a p) (n : a ≠ b) (e : Keep b H H') : RestAt C H' a p := by
  obtain ⟨dx, g, h1, h2⟩ := h
  exact ⟨dx, g, e _ _ n h1, h2⟩
theorem RestAt.some {C : Addr} {H : Hp} {a : Addr} {p : Int} (h : RestAt C H a p) : ∃ o, H a = some o := by
  obtain ⟨dx, g, h1, h2⟩ := h
  exact ⟨_, h1⟩
abbrev s_Rests___init__ : Stmt := inClass (top 19) 0
abbrev N_Rests___init__ : List Str := ["self", "prime"]
abbrev P_Rests___init__ : List Str := ["self", "prime"]
theorem sc_Rests___init__ : FnScope N_Rests___init__ P_Rests___init__ (defScope s_Rests___init__) := ⟨rfl, rfl, rfl, by decide +kernel, rfl, by decide +kernel, by decide +kernel⟩
/-- Rests(v): a new one of each prime to ten thousand; BadGround of all else -/
def spRI (K : PySem.W.Frag) (C CB : Addr) : Sp := fun vs H Q E => ∃ (a dx : Addr) (v : V) (t : String), vs = [.ref a, v] ∧ H a = some (.ins C dx []) ∧ Kd K H v t ∧
  (∀ p, v = .int p → p ∈ prs 10000 → ∀ H', Keep a H H' → RestAt C H' a p → Q .non H') ∧
  ((¬ ∃ p, v = .int p ∧ p ∈ prs 10000) → ∀ d H', H d = none → Same H H' → H' d = some (.xd [(("what" : Str), v)]) → E (.ref CB) (some d) H')
structure RestC (K : PySem.W.Frag) (C : Addr) : Prop where
  cl : L2.Cls K C
  np : NoAttr K C "prime"
  nb : NoAttr K C "base"
section
variable {P : Program} {w : World} {K : PySem.W.Frag} {mg : Str → Option Value} {base : Heap}
theorem ok_ri {f f1 f2 f3 f4 f5 fI C CB CT : Addr} {fd d1 d2 d3 d4 d5 fdI : FuncData} {k : Nat} {tM : Tok} (F : Fun K "__init__" "Rests.__init__" s_Rests___init__ f fd) (T : Blt mg) (RC : RestC K C) (D_is_whole : Df K mg "is_whole" s_is_whole P_is_whole f1 d1) (D_factors : Df K mg "factors" s_factors P_factors f2 d2) (D_is_prime : Df K mg "is_prime" s_is_prime P_is_prime f3 d3)
    (D_power_rest : Df K mg "power_rest" s_power_rest P_power_rest f4 d4) (D_generator : Df K mg "generator" s_generator P_generator f5 d5) (M_MOST_PRIME : mg "MOST_PRIME" = some (.int 10000 tM)) (FI : Fun K "__init__" "TurnError.__init__" s_init fI fdI) (I_b : Binds K fdI N_init []) (I_ty : PySem.W.typeIn K (.ref fI) = some (.type "function"))
    (R : Ref K CT CB fI) (M_BadGround : mg "BadGround" = some (.ref CB)) : FnOk P w K mg base (L2.CX P w) (k + 3) f fd P_Rests___init__ (spRI K C CB) := by
  have G_is_whole : FnOk P w K mg base CX0 (k + 1) f1 d1 P_is_whole (spWhole K) := ok_whole D_is_whole.F T
  have G_is_prime : FnOk P w K mg base CX0 (k + 2) f3 d3 P_is_prime (spPrime K) := ok_prime D_is_prime.F T D_is_whole D_factors
  have G_generator : FnOk P w K mg base CX0 (k + 2) f5 d5 P_generator spGen := ok_generator D_generator.F T D_factors D_power_rest
  have G_init : FnOk P w K mg base CX0 1 fI fdI N_init (spInit K) := ok_init FI
  have EK_BadGround := R.ek
  have II_BadGround := R.ini
  have nd := sc_Rests___init__.nd
  refine F.okX sc_Rests___init__ (fun vs H Q E h => ?_) (fun cdv A outer s H vs Q E hr h => ?_)
  · obtain ⟨a, dx, v, t, rfl, _⟩ := h
    rfl
  · obtain ⟨a, dx, v, t, rfl, ha, kd, qy, qn⟩ := h
    refine ⟨_, (pss_cons (ps_if (PW.pt (pw_or (pt_not (pt_val (pe_call G_is_whole (hr.mono (by omega)) (by rfl) D_is_whole.g D_is_whole.F.kp D_is_whole.b .nil pass0 (pa_cons (pv 1) pa_nil)))) (pw_or (pt_cmpR op_gt (pv 1) (pe_glob (v := .int 10000) (by rfl) M_MOST_PRIME ⟨_, rfl⟩) (nomark _)) (pw_or1 (pt_not (pt_val (pe_call G_is_prime (hr.mono (by omega)) (by rfl) D_is_prime.g D_is_prime.F.kp D_is_prime.b .nil pass0 (pa_cons (pv 1) pa_nil)))))))) (pss_one (ps_raise rfl (takes_of rfl rfl rfl rfl) (pmk_oex EK_BadGround.oex II_BadGround I_ty G_init (hr.mono (by omega)) I_b .nil pass0 (by rfl) M_BadGround (pa_cons (pv 1) pa_nil)))) pss_nil)
      (pss_cons (ps_fld (pv 0) (pv 1) (by rfl))
      (pss_one (ps_fld (pv 0) (pe_call G_generator (hr.mono (by omega)) (by rfl) D_generator.g D_generator.F.kp D_generator.b .nil pass0 (pa_cons (pv 1) pa_nil)) (by rfl))))), ?_⟩
    obtain ⟨cl, np, nb⟩ := RC
    have bad : ∀ H1, Same H H1 → (¬ ∃ p, v = .int p ∧ p ∈ prs 10000) → ∀ z, H1 z = none → _ := fun H1 sm1 no => mk_what (v := v) (Q := E) R.ek fun d H2 hd sm2 hq => qn no d H2 (sm1.free hd) (sm1.trans sm2) hq
    walk_at "ev"
    cases kd with
    | int p =>
      walk_at "ev"
      refine ite2 (fun e => ?_) (fun e => ?_)
      · have e1 : 10000 < p := of_decide_eq_true e
        refine ⟨_, rfl, (by show 1 ≤ 1000; decide), bad _ (Same.refl _) ?_⟩
        rintro ⟨p', h1, h2⟩
        cases h1
        have := (prs_iff.mp h2).1
        omega
      · have e1 : ¬ 10000 < p := fun z => e (decide_eq_true z)
        have kdp : Kd K H (.int p) "int" := .int p
        have bnd : ∀ n, V.int p = .int n → n ≤ 1000000000 := fun n z => by
          cases z
          omega
        walk_at "ev"
        intro b H1 sm1 hb
        walk_at "ev"
        cases b with
        | false =>
          have no : ¬ ∃ q, V.int p = .int q ∧ q ∈ prs 10000 := by
            rintro ⟨p', h1, h2⟩
            cases h1
            exact Bool.noConfusion (hb.mpr ⟨p, rfl, (prs_iff.mp h2).2⟩)
          walk_at "ev"
          exact bad _ sm1 no
        | true =>
          obtain ⟨p', h1, h2⟩ := hb.mp rfl
          cases h1
          have hp : p ∈ prs 10000 := prs_iff.mpr ⟨by omega, h2⟩
          obtain ⟨p2, p6, fs, out, g0, hf, hso, hmo, hpf, g1, gp, gok⟩ := gen_prs hp
          have ha1 := sm1 _ _ ha
          walk_at "ev"
          generalize hG : upd H1 a _ = H2
          obtain ⟨k2, hq2⟩ := mutO hG
          clear hG
          walk_at "ev"
          intro g H3 sm3 hg
          have ha3 := sm3 _ _ hq2
          walk_at "ev"
          refine ⟨(by show 1 < 1000; decide), ?_⟩
          exact qy p rfl hp _ (((keepS sm1).trans (k2.trans (keepS sm3))).trans (keep_upd (Keep.refl _ _))) ⟨dx, g, upd_same, out, hpf, hg⟩
    | _ =>
      walk_at "ev"
      refine bad _ (Same.refl _) ?_
      rintro ⟨p', h1, h2⟩
      cases h1
end
abbrev s_Rests_has_root : Stmt := inClass (top 19) 4
abbrev N_Rests_has_root : List Str := ["self", "length"]
abbrev P_Rests_has_root : List Str := ["self", "length"]
theorem sc_Rests_has_root : FnScope N_Rests_has_root P_Rests_has_root (defScope s_Rests_has_root) := ⟨rfl, rfl, rfl, by decide +kernel, rfl, by decide +kernel, by decide +kernel⟩
def sp_hasroot (C : Addr) : Sp := fun vs H Q _ => ∃ (a : Addr) (p l : Int), vs = [.ref a, .int l] ∧ RestAt C H a p ∧ 1 ≤ l ∧ l ≤ 1000000 ∧ Q (.bl (decide ((p - 1) % l = 0))) H
section
variable {P : Program} {w : World} {K : PySem.W.Frag} {mg : Str → Option Value} {base : Heap}
theorem ok_hasroot {f C : Addr} {fd : FuncData} {k : Nat} (F : Fun K "has_root" "Rests.has_root" s_Rests_has_root f fd) (RC : RestC K C) : FnOk P w K mg base CX0 (k + 1) f fd P_Rests_has_root (sp_hasroot C) := by
  have nd := sc_Rests_has_root.nd
  refine F.ok sc_Rests_has_root (fun vs H Q E h => ?_) (fun cdv A outer s H vs Q E hr h => ?_)
  · obtain ⟨a, p, l, rfl, _⟩ := h
    rfl
  · obtain ⟨a, p, l, rfl, ⟨dx, g, ha, hg⟩, l1, l6, q⟩ := h
    refine ⟨_, (pss_one (ps_ret (pe_and (pe_cmpR op_gt (pv 1) (pe_int) (nomark _)) (pe_one (pe_cmpR op_eq (pe_op op_mod (pe_op op_sub (pe_fld (pv 0) (by rfl)) (pe_int)) (pv 1)) (pe_int) (nomark _)))))), ?_⟩
    obtain ⟨cl, np, nb⟩ := RC
    have c1 : decide ((0 : Int) < l) = true := decide_eq_true (by omega)
    walk_at "ev"
    refine iteTe c1 ?_
    walk_at "ev"
    have e : decide (V.int ((p - 1) % l) = V.int 0) = decide ((p - 1) % l = 0) := by
      exact decide_eq_decide.mpr ⟨fun h => V.int.inj h, fun h => congrArg V.int h⟩
    rw [e]
    exact q
end
local macro_rules | `(tactic| walk_at "ev1") => `(tactic| ((first | with_reducible show ClsV _ _ | with_reducible show Paired ClsV _ _); first | exact ClsV.own _ | exact ClsV.ty _ | exact .cons (.own _) (.cons (.own _) .nil) | exact .cons (.own _) (.cons (.own _) (.cons (.own _) .nil))))
/-! ### the ground of exact roots -/
theorem whl_last : ∀ n < 31, 1 ≤ n → 2 ≤ (whl n).length ∧ (whl n).length ≤ 31 ∧ (whl n).getD ((whl n).length - 1) 0 = 1 := by decide +kernel
theorem whl_bd1 : ∀ n < 31, ∀ x ∈ whl n, x.natAbs ≤ 1 := by decide +kernel
abbrev rootF (n : Nat) (r : Addr) : List (Str × V) := [(("order" : Str), .int (n : Int)), (("rim" : Str), .ref r)]
def RootAt (C : Addr) (H : Hp) (a : Addr) (n : Nat) : Prop := ∃ dx r, H a = some (.ins C dx (rootF n r)) ∧ H r = some (.tup ((whl n).map V.int))
theorem RootAt.same {C : Addr} {H H' : Hp} {a : Addr} {n : Nat} (h : RootAt C H a n) (e : Same H H') : RootAt C H' a n := by
  obtain ⟨dx, r, h1, h2⟩ := h
  exact ⟨dx, r, e _ _ h1, e _ _ h2⟩
theorem RootAt.keep {C b : Addr} {H H' : Hp} {a : Addr} {n : Nat} {c : Int} (h : RootAt C H a n) (hb : BoxAt H b c) (e : Keep b H H') : RootAt C H' a n := by
  obtain ⟨dx, r, h1, h2⟩ := h
  obtain ⟨x, y, z, b1, _⟩ := hb
  exact ⟨dx, r, e _ _ (fun w => by rw [w, b1] at h1; cases h1) h1, e _ _ (fun w => by rw [w, b1] at h2; cases h2) h2⟩
theorem RootAt.some {C : Addr} {H : Hp} {a : Addr} {n : Nat} (h : RootAt C H a n) : ∃ o, H a = some o := by
  obtain ⟨dx, r, h1, h2⟩ := h
  exact ⟨_, h1⟩
structure RootC (K : PySem.W.Frag) (C : Addr) : Prop where
  cl : L2.Cls K C
  no : NoAttr K C "order"
  nr : NoAttr K C "rim"
abbrev s_Roots___init__ : Stmt := inClass (top 24) 0
abbrev N_Roots___init__ : List Str := ["self", "order"]
abbrev P_Roots___init__ : List Str := ["self", "order"]
theorem sc_Roots___init__ : FnScope N_Roots___init__ P_Roots___init__ (defScope s_Roots___init__) := ⟨rfl, rfl, rfl, by decide +kernel, rfl, by decide +kernel, by decide +kernel⟩
/-- Roots(v): a new one of each order to thirty; BadGround of all else -/
def spRoI (K : PySem.W.Frag) (C CB : Addr) : Sp := fun vs H Q E => ∃ (a dx : Addr) (v : V) (t : String), vs = [.ref a, v] ∧ H a = some (.ins C dx []) ∧ Kd K H v t ∧
  (∀ n : Nat, v = .int (n : Int) → 1 ≤ n → n < 31 → ∀ H', Keep a H H' → RootAt C H' a n → Q .non H') ∧
  ((¬ ∃ n : Nat, v = .int (n : Int) ∧ 1 ≤ n ∧ n < 31) → ∀ d H', H d = none → Same H H' → H' d = some (.xd [(("what" : Str), v)]) → E (.ref CB) (some d) H')
section
variable {P : Program} {w : World} {K : PySem.W.Frag} {mg : Str → Option Value} {base : Heap}
theorem ok_roi {f f1 f2 f3 f4 fI C CB CT : Addr} {fd d1 d2 d3 d4 fdI : FuncData} {tM : Tok} (F : Fun K "__init__" "Roots.__init__" s_Roots___init__ f fd) (T : Blt mg) (RC : RootC K C) (D_is_whole : Df K mg "is_whole" s_is_whole P_is_whole f1 d1) (D_wheel : Df K mg "wheel" s_wheel P_wheel f2 d2) (D_divisors : Df K mg "divisors" s_divisors P_divisors f3 d3) (D_divided : Df K mg "divided" s_divided P_divided f4 d4)
    (M_MOST_ORDER : mg "MOST_ORDER" = some (.int 30 tM)) (FI : Fun K "__init__" "TurnError.__init__" s_init fI fdI) (I_b : Binds K fdI N_init []) (I_ty : PySem.W.typeIn K (.ref fI) = some (.type "function"))
    (R : Ref K CT CB fI) (M_BadGround : mg "BadGround" = some (.ref CB)) : FnOk P w K mg base (L2.CX P w) 7 f fd P_Roots___init__ (spRoI K C CB) := by
  have G_is_whole : FnOk P w K mg base CX0 1 f1 d1 P_is_whole (spWhole K) := ok_whole D_is_whole.F T
  have G_wheel : FnOk P w K mg base CX0 6 f2 d2 P_wheel (spWheel 5) := ok_wheel D_wheel T D_divisors D_divided 5
  have G_init : FnOk P w K mg base CX0 1 fI fdI N_init (spInit K) := ok_init FI
  have EK_BadGround := R.ek
  have II_BadGround := R.ini
  have nd := sc_Roots___init__.nd
  refine F.okX sc_Roots___init__ (fun vs H Q E h => ?_) (fun cdv A outer s H vs Q E hr h => ?_)
  · obtain ⟨a, dx, v, t, rfl, _⟩ := h
    rfl
  · obtain ⟨a, dx, v, t, rfl, ha, kd, qy, qn⟩ := h
    refine ⟨_, (pss_cons (ps_if (PW.pt (pw_or (pt_not (pt_val (pe_call G_is_whole (hr.mono (by omega)) (by rfl) D_is_whole.g D_is_whole.F.kp D_is_whole.b .nil pass0 (pa_cons (pv 1) pa_nil)))) (pw_or (pt_cmpR op_lt (pv 1) (pe_int) (nomark _)) (pw_or1 (pt_cmpR op_gt (pv 1) (pe_glob (v := .int 30) (by rfl) M_MOST_ORDER ⟨_, rfl⟩) (nomark _)))))) (pss_one (ps_raise rfl (takes_of rfl rfl rfl rfl) (pmk_oex EK_BadGround.oex II_BadGround I_ty G_init (hr.mono (by omega)) I_b .nil pass0 (by rfl) M_BadGround (pa_cons (pv 1) pa_nil)))) pss_nil)
      (pss_cons (ps_fld (pv 0) (pv 1) (by rfl))
      (pss_one (ps_fld (pv 0) (pe_callTy call_tuple_of (by rfl) T.b_tuple (by decide +kernel) (pa_cons (pe_call G_wheel (hr.mono (by omega)) (by rfl) D_wheel.g D_wheel.F.kp D_wheel.b .nil pass0 (pa_cons (pv 1) pa_nil)) pa_nil)) (by rfl))))), ?_⟩
    obtain ⟨cl, no, nr⟩ := RC
    have bad : ∀ H1, Same H H1 → (¬ ∃ n : Nat, v = .int (n : Int) ∧ 1 ≤ n ∧ n < 31) → ∀ z, H1 z = none → _ := fun H1 sm1 no => mk_what (v := v) (Q := E) R.ek fun d H2 hd sm2 hq => qn no d H2 (sm1.free hd) (sm1.trans sm2) hq
    walk_at "ev"
    cases kd with
    | int p =>
      walk_at "ev"
      refine ite2 (fun e => ?_) (fun e => ?_)
      · have e1 : p < 1 := of_decide_eq_true e
        refine ⟨_, rfl, (by show 1 ≤ 1000; decide), bad _ (Same.refl _) ?_⟩
        rintro ⟨n, h1, h2, h3⟩
        cases h1
        omega
      · have e1 : ¬ p < 1 := fun z => e (decide_eq_true z)
        walk_at "ev"
        refine ite2 (fun e2 => ?_) (fun e2 => ?_)
        · have e3 : 30 < p := of_decide_eq_true e2
          refine ⟨_, rfl, (by show 1 ≤ 1000; decide), bad _ (Same.refl _) ?_⟩
          rintro ⟨n, h1, h2, h3⟩
          cases h1
          omega
        · have e3 : ¬ 30 < p := fun z => e2 (decide_eq_true z)
          obtain ⟨n, rfl⟩ := Int.eq_ofNat_of_zero_le (show 0 ≤ p by omega)
          have n1 : 1 ≤ n := by omega
          have n31 : n < 31 := by omega
          have n32 : n < 2 ^ 5 := by omega
          walk_at "ev"
          generalize hG : upd H a _ = H2
          obtain ⟨k2, hq2⟩ := mutO hG
          clear hG
          walk_at "ev"
          intro l H3 hl sm3 hq3
          walk_at "ev"
          refine .inl ⟨SqL.of hq3, ?_⟩
          w_cond _4
          have ha4 := (sm3.trans sm4) _ _ hq2
          have na4 : l4 ≠ a := (ne_of_none (sm3 _ _ hq2) hl4).symm
          walk_at "ev"
          refine ⟨(by show 1 < 1000; decide), ?_⟩
          exact qy n rfl n1 n31 _ ((k2.trans (keepS (sm3.trans sm4))).trans (keep_upd (Keep.refl _ _))) ⟨dx, l4, upd_same, by rw [upd_ne na4]; exact hq4⟩
    | _ =>
      walk_at "ev"
      refine bad _ (Same.refl _) ?_
      rintro ⟨n, h1, h2⟩
      cases h1
end
abbrev s_Roots_has_root : Stmt := inClass (top 24) 4
abbrev N_Roots_has_root : List Str := ["self", "length"]
abbrev P_Roots_has_root : List Str := ["self", "length"]
theorem sc_Roots_has_root : FnScope N_Roots_has_root P_Roots_has_root (defScope s_Roots_has_root) := ⟨rfl, rfl, rfl, by decide +kernel, rfl, by decide +kernel, by decide +kernel⟩
def spHasR (C : Addr) : Sp := fun vs H Q _ => ∃ (a : Addr) (n L : Nat), vs = [.ref a, .int (L : Int)] ∧ RootAt C H a n ∧ 1 ≤ L ∧ L ≤ 1000 ∧ Q (.bl (decide (n % L = 0))) H
section
variable {P : Program} {w : World} {K : PySem.W.Frag} {mg : Str → Option Value} {base : Heap}
theorem ok_hasR {f C : Addr} {fd : FuncData} {k : Nat} (F : Fun K "has_root" "Roots.has_root" s_Roots_has_root f fd) (RC : RootC K C) : FnOk P w K mg base CX0 (k + 1) f fd P_Roots_has_root (spHasR C) := by
  have nd := sc_Roots_has_root.nd
  refine F.ok sc_Roots_has_root (fun vs H Q E h => ?_) (fun cdv A outer s H vs Q E hr h => ?_)
  · obtain ⟨a, n, L, rfl, _⟩ := h
    rfl
  · obtain ⟨a, n, L, rfl, ⟨dx, r, ha, hrm⟩, L1, L2', q⟩ := h
    refine ⟨_, (pss_one (ps_ret (pe_and (pe_cmpR op_gt (pv 1) (pe_int) (nomark _)) (pe_one (pe_cmpR op_eq (pe_op op_mod (pe_fld (pv 0) (by rfl)) (pv 1)) (pe_int) (nomark _)))))), ?_⟩
    obtain ⟨cl, no, nr⟩ := RC
    have c1 : decide ((0 : Int) < (L : Int)) = true := decide_eq_true (by omega)
    walk_at "ev"
    refine iteTe c1 ?_
    walk_at "ev"
    have e : decide (V.int ((n : Int) % (L : Int)) = V.int 0) = decide (n % L = 0) := by
      exact decide_eq_decide.mpr ⟨fun h => by have := V.int.inj h; omega, fun h => congrArg V.int (by omega)⟩
    rw [e]
    exact q
end
theorem keep_mk {x dx C : Addr} {H H' : Hp} (hx : H x = none) (hd : H dx = none) (h : Keep x (upd (upd H dx (.own x)) x (.ins C dx [])) H') : Same H H' := fun b o e => by
  have n1 := ne_of_none e hx
  refine h b o n1 ?_
  rw [upd_ne n1, upd_ne (ne_of_none e hd)]
  exact e
theorem prL_in : ∀ x ∈ prL, x ∈ prs 10000 := by
  have h : ∀ x ∈ prL, ∃ j : Nat, x = (j : Int) ∧ 2 ≤ j ∧ j ≤ 10000 ∧ pk 10001 j = true := by
    intro x hx
    simp only [prL, List.mem_cons, List.not_mem_nil, or_false] at hx
    rcases hx with z | z | z | z | z | z | z | z | z | z | z | z | z | z | z | z | z | z <;> subst z
    · exact ⟨97, rfl, by decide, by decide, by decide +kernel⟩
    · exact ⟨13, rfl, by decide, by decide, by decide +kernel⟩
    · exact ⟨31, rfl, by decide, by decide, by decide +kernel⟩
    · exact ⟨37, rfl, by decide, by decide, by decide +kernel⟩
    · exact ⟨61, rfl, by decide, by decide, by decide +kernel⟩
    · exact ⟨73, rfl, by decide, by decide, by decide +kernel⟩
    · exact ⟨181, rfl, by decide, by decide, by decide +kernel⟩
    · exact ⟨241, rfl, by decide, by decide, by decide +kernel⟩
    · exact ⟨337, rfl, by decide, by decide, by decide +kernel⟩
    · exact ⟨421, rfl, by decide, by decide, by decide +kernel⟩
    · exact ⟨257, rfl, by decide, by decide, by decide +kernel⟩
    · exact ⟨2521, rfl, by decide, by decide, by decide +kernel⟩
    · exact ⟨41, rfl, by decide, by decide, by decide +kernel⟩
    · exact ⟨17, rfl, by decide, by decide, by decide +kernel⟩
    · exact ⟨7, rfl, by decide, by decide, by decide +kernel⟩
    · exact ⟨5, rfl, by decide, by decide, by decide +kernel⟩
    · exact ⟨3, rfl, by decide, by decide, by decide +kernel⟩
    · exact ⟨2, rfl, by decide, by decide, by decide +kernel⟩
  intro x hx
  exact mem_prs.mpr (h x hx)
/-- a ground of either kind -/
def GrAt (C1 C2 : Addr) (H : Hp) (a : Addr) : Gk → Prop
  | .rests p => RestAt C1 H a p
  | .roots n => RootAt C2 H a n
theorem GrAt.same {C1 C2 : Addr} {H H' : Hp} {a : Addr} {g : Gk} (h : GrAt C1 C2 H a g) (e : Same H H') : GrAt C1 C2 H' a g := by
  cases g with
  | rests p => exact RestAt.same h e
  | roots n => exact RootAt.same h e
theorem GrAt.keep {C1 C2 : Addr} {H H' : Hp} {a b : Addr} {c : Int} {g : Gk} (h : GrAt C1 C2 H a g) (hb : BoxAt H b c) (e : Keep b H H') : GrAt C1 C2 H' a g := by
  cases g with
  | rests p =>
    obtain ⟨x, y, z, b1, _⟩ := hb
    refine RestAt.keep h (fun w => ?_) e
    obtain ⟨dx, gg, h1, h2⟩ := h
    rw [w, b1] at h1
    cases h1
  | roots n => exact RootAt.keep h hb e
theorem GrAt.mut {C1 C2 : Addr} {H : Hp} {a D : Addr} {g : Gk} {xs : List V} {o : HO} (h : GrAt C1 C2 H a g) (e : H D = some (.lst xs)) : GrAt C1 C2 (upd H D o) a g := by
  cases g with
  | rests p =>
    obtain ⟨dx, gg, h1, h2⟩ := h
    exact ⟨dx, gg, by rw [upd_ne (fun z => by rw [z, e] at h1; cases h1)]; exact h1, h2⟩
  | roots n =>
    obtain ⟨dx, r, h1, h2⟩ := h
    exact ⟨dx, r, by rw [upd_ne (fun z => by rw [z, e] at h1; cases h1)]; exact h1, by rw [upd_ne (fun z => by rw [z, e] at h2; cases h2)]; exact h2⟩
/-- all that the grounds' classes have -/
structure G23 (K : PySem.W.Frag) (mg : Str → Option Value) (CT CB C1 C2 fI : Addr) (fdI : FuncData) : Prop where
  F : Fun K "__init__" "TurnError.__init__" s_init fI fdI
  b : Binds K fdI N_init []
  ty : PySem.W.typeIn K (.ref fI) = some (.type "function")
  RB : Ref K CT CB fI
  mb : mg "BadGround" = some (.ref CB)
  R1 : RestC K C1
  R2 : RootC K C2
  m1 : mg "Rests" = some (.ref C1)
  m2 : mg "Roots" = some (.ref C2)
  p1 : ∃ t, mg "MOST_PRIME" = some (.int 10000 t)
  p2 : ∃ t, mg "MOST_ORDER" = some (.int 30 t)
  k1 : ∃ f fd, Mk K C1 f ∧ Fun K "__init__" "Rests.__init__" s_Rests___init__ f fd ∧ Binds K fd P_Rests___init__ []
  k2 : ∃ f fd, Mk K C2 f ∧ Fun K "__init__" "Roots.__init__" s_Roots___init__ f fd ∧ Binds K fd P_Roots___init__ []
  h1 : ∃ f fd, Fun K "has_root" "Rests.has_root" s_Rests_has_root f fd ∧ Binds K fd P_Rests_has_root [] ∧ Meth K C1 "has_root" f
  h2 : ∃ f fd, Fun K "has_root" "Roots.has_root" s_Roots_has_root f fd ∧ Binds K fd P_Roots_has_root [] ∧ Meth K C2 "has_root" f
abbrev s__law_made : Stmt := top 37
abbrev N__law_made : List Str := ["_law_world_here"]
abbrev P__law_made : List Str := ["_law_world_here"]
theorem sc__law_made : FnScope N__law_made P__law_made (defScope s__law_made) := ⟨rfl, rfl, rfl, by decide +kernel, rfl, by decide +kernel, by decide +kernel⟩
def spMade (C1 C2 : Addr) : Sp := fun vs H Q _ => ∃ (b d : Addr) (g : Gk), vs = [.ref d] ∧ WdM H b d g ∧ ∀ a H', H a = none → Same H H' → GrAt C1 C2 H' a g → Q (.ref a) H'
section
variable {P : Program} {w : World} {K : PySem.W.Frag} {mg : Str → Option Value} {base : Heap}
theorem ok_made {f f1 f2 f3 f4 f5 f6 f7 f8 CT CB C1 C2 fI : Addr} {fd d1 d2 d3 d4 d5 d6 d7 d8 fdI : FuncData} (F : Fun K "_law_made" "_law_made" s__law_made f fd) (T : Blt mg) (S : G23 K mg CT CB C1 C2 fI fdI) (D_is_whole : Df K mg "is_whole" s_is_whole P_is_whole f1 d1) (D_factors : Df K mg "factors" s_factors P_factors f2 d2) (D_is_prime : Df K mg "is_prime" s_is_prime P_is_prime f3 d3)
    (D_power_rest : Df K mg "power_rest" s_power_rest P_power_rest f4 d4) (D_generator : Df K mg "generator" s_generator P_generator f5 d5) (D_wheel : Df K mg "wheel" s_wheel P_wheel f6 d6) (D_divisors : Df K mg "divisors" s_divisors P_divisors f7 d7) (D_divided : Df K mg "divided" s_divided P_divided f8 d8) : FnOk P w K mg base CX0 9 f fd P__law_made (spMade C1 C2) := by
  obtain ⟨t1, M_MOST_PRIME⟩ := S.p1
  obtain ⟨t2, M_MOST_ORDER⟩ := S.p2
  obtain ⟨fM, dM, MK_Rests, FM, B_Rests___init__⟩ := S.k1
  obtain ⟨fN, dN, MK_Roots, FN, B_Roots___init__⟩ := S.k2
  have M_Rests := S.m1
  have M_Roots := S.m2
  have G_Rests___init__ : FnOk P w K mg base (L2.CX P w) 3 fM dM P_Rests___init__ (spRI K C1 CB) := ok_ri FM T S.R1 D_is_whole D_factors D_is_prime D_power_rest D_generator M_MOST_PRIME S.F S.b S.ty S.RB S.mb
  have G_Roots___init__ : FnOk P w K mg base (L2.CX P w) 7 fN dN P_Roots___init__ (spRoI K C2 CB) := ok_roi FN T S.R2 D_is_whole D_wheel D_divisors D_divided M_MOST_ORDER S.F S.b S.ty S.RB S.mb
  have nd := sc__law_made.nd
  refine F.ok sc__law_made (fun vs H Q E h => ?_) (fun cdv A outer s H vs Q E hr h => ?_)
  · obtain ⟨b, d, g, rfl, _⟩ := h
    rfl
  · obtain ⟨b, d, g, rfl, hW, q⟩ := h
    refine ⟨_, (pss_one (ps_ret (pe_ifExp (pt_cmpR op_eq (pe_dget (du hr) (pv 0) (pe_str) (fun _ _ => rfl)) (pe_str) (nomark _)) (pe_make MK_Rests G_Rests___init__ (hr.mono (by omega)) (by rfl) M_Rests B_Rests___init__ .nil passL (pa_cons (pe_dget (du hr) (pv 0) (pe_str) (fun _ _ => rfl)) pa_nil)) (pe_make MK_Roots G_Roots___init__ (hr.mono (by omega)) (by rfl) M_Roots B_Roots___init__ .nil passL (pa_cons (pe_dget (du hr) (pv 0) (pe_str) (fun _ _ => rfl)) pa_nil))))), ?_⟩
    cases g with
    | rests p =>
      obtain ⟨h1, h2, gg, h3⟩ := hW
      obtain ⟨g1, g2⟩ := dget_r h3
      have hpm := prL_in p h2
      walk_at "ev"
      intro x dx hx hd ne
      refine ⟨x, dx, .int p, "int", rfl, upd_same, .int p, fun p' ep hp' H6 k6 hR6 => ⟨rfl, ?_⟩, fun no => absurd ⟨p, rfl, hpm⟩ no⟩
      cases ep
      exact q x _ hx (keep_mk hx hd k6) hR6
    | roots n =>
      obtain ⟨h1, h2, h3, ll, h4⟩ := hW
      obtain ⟨g1, g2, g3⟩ := dget_w h4
      walk_at "ev"
      intro x dx hx hd ne
      refine ⟨x, dx, .int n, "int", rfl, upd_same, .int n, fun n' en n1 n31 H6 k6 hR6 => ⟨rfl, ?_⟩, fun no => absurd ⟨n, rfl, h2, h3⟩ no⟩
      have en' : n' = n := by
        have := V.int.inj en
        omega
      subst en'
      exact q x _ hx (keep_mk hx hd k6) hR6
end
def fitD (g : Gk) (p : Pl) : Bool := (lens p).all fun x => decide (numM g % x = 0)
theorem lens_ok : ∀ {p : Pl}, Ok p → ∀ x ∈ lens p, 1 ≤ x ∧ x ≤ 1000
  | .leaf _ n, h, x, hx => by
    rw [List.mem_singleton.mp hx]
    exact h
  | .two _ a b, h, x, hx => by
    obtain ⟨h1, h2, h3, h4⟩ := h
    rcases List.mem_cons.mp hx with z | z
    · rw [z]
      exact ⟨h3, h4⟩
    · rcases List.mem_append.mp z with z | z
      · exact lens_ok h1 x z
      · exact lens_ok h2 x z
  | .led _ n a, h, x, hx => by
    obtain ⟨h1, h2, h3⟩ := h
    rcases List.mem_cons.mp hx with z | z
    · rw [z]
      exact ⟨h1, h2⟩
    · exact lens_ok h3 x z
theorem all_iff {a b : List Int} {f : Int → Bool} (h : ∀ k, k ∈ a ↔ k ∈ b) : a.all f = b.all f := by
  rw [Bool.eq_iff_iff, List.all_eq_true, List.all_eq_true]
  exact ⟨fun z x hx => z x ((h x).mpr hx), fun z x hx => z x ((h x).mp hx)⟩
abbrev s__law_fits : Stmt := top 44
abbrev N__law_fits : List Str := ["_law_world_here", "_law_thing", "_law_length"]
abbrev P__law_fits : List Str := ["_law_world_here", "_law_thing"]
theorem sc__law_fits : FnScope N__law_fits P__law_fits (defScope s__law_fits) := ⟨rfl, rfl, rfl, by decide +kernel, rfl, by decide +kernel, by decide +kernel⟩
abbrev s_plan_fits : Stmt := top 16
abbrev N_plan_fits : List Str := ["ground", "plan", "length"]
abbrev P_plan_fits : List Str := ["ground", "plan"]
theorem sc_plan_fits : FnScope N_plan_fits P_plan_fits (defScope s_plan_fits) := ⟨rfl, rfl, rfl, by decide +kernel, rfl, by decide +kernel, by decide +kernel⟩
def spFt (K : PySem.W.Frag) : Sp := fun vs H Q _ => ∃ (b wd : Addr) (g : Gk) (v : V) (p : Pl), vs = [.ref wd, v] ∧ WdM H b wd g ∧ PlAt K H v p ∧ pdep p ≤ 5 ∧ Ok p ∧ ∀ H', Same H H' → Q (.bl (fitD g p)) H'
def spPf (K : PySem.W.Frag) (C1 C2 : Addr) : Sp := fun vs H Q _ => ∃ (a : Addr) (g : Gk) (v : V) (p : Pl), vs = [.ref a, v] ∧ GrAt C1 C2 H a g ∧ PlAt K H v p ∧ pdep p ≤ 5 ∧ Ok p ∧ ∀ H', Same H H' → Q (.bl (fitD g p)) H'
def spPf1 (K : PySem.W.Frag) (C1 : Addr) : Sp := fun vs H Q _ => ∃ (a : Addr) (q : Int) (v : V) (p : Pl), vs = [.ref a, v] ∧ RestAt C1 H a q ∧ PlAt K H v p ∧ pdep p ≤ 5 ∧ Ok p ∧ ∀ H', Same H H' → Q (.bl (fitD (.rests q) p)) H'
def spPf2 (K : PySem.W.Frag) (C2 : Addr) : Sp := fun vs H Q _ => ∃ (a : Addr) (q : Nat) (v : V) (p : Pl), vs = [.ref a, v] ∧ RootAt C2 H a q ∧ PlAt K H v p ∧ pdep p ≤ 5 ∧ Ok p ∧ ∀ H', Same H H' → Q (.bl (fitD (.roots q) p)) H'
section
variable {P : Program} {w : World} {K : PySem.W.Frag} {mg : Str → Option Value} {base : Heap}
theorem ok_ft {f f1 f2 f3 : Addr} {fd d1 d2 d3 : FuncData} (F : Fun K "_law_fits" "_law_fits" s__law_fits f fd) (T : Blt mg) (D__law_has : Df K mg "_law_has" s__law_has P__law_has f1 d1) (D__law_lengths_in : Df K mg "_law_lengths_in" s__law_lengths_in P__law_lengths_in f2 d2) (D__law_length_of : Df K mg "_law_length_of" s__law_length_of P__law_length_of f3 d3) : FnOk P w K mg base CX0 8 f fd P__law_fits (spFt K) := by
  have G__law_has : FnOk P w K mg base CX0 1 f1 d1 P__law_has spHas := ok_has (k := 0) D__law_has.F T
  have G__law_lengths_in : FnOk P w K mg base CX0 7 f2 d2 P__law_lengths_in (spLens K 5) := ok_ownl D__law_lengths_in D__law_length_of T 5
  have nd := sc__law_fits.nd
  refine F.ok sc__law_fits (fun vs H Q E h => ?_) (fun cdv A outer s H vs Q E hr h => ?_)
  · obtain ⟨b, wd, g, v, p, rfl, _⟩ := h
    rfl
  · obtain ⟨b, wd, g, v, p, rfl, hW, hp, hd, ok, q⟩ := h
    refine ⟨_, (pss_one (ps_ret (pe_callB (r := rAll K) (cr_all rfl) (by rfl) T.b_all (by decide +kernel) (pa_cons (pe_lc (own := [("_law_length", 2)]) (g := gName 2) (by rfl) nd (pi_list (pe_call G__law_lengths_in (hr.mono (by omega)) (by rfl) D__law_lengths_in.g D__law_lengths_in.F.kp D__law_lengths_in.b .nil pass0 (pa_cons (pv 1) pa_nil))) (blkOk_by (own := [("_law_length", 2)]) (N := N__law_fits) (sc := defScope s__law_fits) (by decide +kernel)) (fun _ _ _ _ _ => (pg_name (i := 2) nd rfl (Or.inl rfl))) (fun _ _ _ _ _ => pts_nil) (fun _ _ _ _ _ => (pe_call G__law_has (hr.mono (by omega)) (by rfl) D__law_has.g D__law_has.F.kp D__law_has.b .nil pass0 (pa_cons (pv 0) (pa_cons (pv 2) pa_nil))))) pa_nil)))), ?_⟩
    have d5 : (5 : Nat) ≤ 5 := Nat.le_refl _
    walk_at "ev"
    intro l H1 hl sm1 hq1
    have hL := SqL.of (K := K) hq1
    have h63 := lens_63 hd
    refine ⟨l, rfl, ⟨_, hL⟩, fun D hD => ?_⟩
    refine lc_list (K := K) (a := l) (xs := (lens p).map V.int) (fun j H' => Hold (Same H1 H' ∧ H' D = some (.lst ((((lens p).take j).map fun x => decide (numM g % x = 0)).map V.bl)))) (.mk ⟨same_new hD, upd_same⟩) ?_ ?_ ?_
    · intro j H5 hj hP
      obtain ⟨sm5, hD5⟩ := hP.un
      exact sm5.seq hL
    · intro j v' H5 hv hP
      obtain ⟨sm5, hD5⟩ := hP.un
      rw [List.getElem?_map] at hv
      obtain ⟨x, hx, rfl⟩ := Option.map_eq_some_iff.mp hv
      obtain ⟨x1, x2⟩ := lens_ok ok x (List.mem_of_getElem? hx)
      have hW5 := hW.up (sm1.trans sm5)
      have hjl : j < (lens p).length := (List.getElem?_eq_some_iff.mp hx).1
      have hsz : ((((lens p).take j).map fun x => decide (numM g % x = 0)).map V.bl).length < sizeLine := szm (by rw [List.length_map, List.length_map, List.length_take]; omega)
      have x100 : x ≤ 100000 := by omega
      walk_at "ev"
      refine .mk ⟨same_mut sm5 hD, ?_⟩
      rw [upd_same, List.take_add_one, hx, List.map_append, List.map_append]
      rfl
    · intro H5 hP
      obtain ⟨sm5, hD5⟩ := hP.un
      rw [List.length_map, List.take_length] at hD5
      refine ⟨D, _, rfl, SqL.of hD5, ?_⟩
      have e : (((lens p).map fun x => decide (numM g % x = 0)).all id) = fitD g p := by
        rw [List.all_map]
        rfl
      rw [e]
      exact q _ (sm1.trans sm5)
theorem ok_pf1 {f f0 f1 f2 f3 f4 C1 : Addr} {fd d0 d1 d2 d3 d4 : FuncData} (F : Fun K "plan_fits" "plan_fits" s_plan_fits f fd) (T : Blt mg) (D_plan_lengths : Df K mg "plan_lengths" s_plan_lengths P_plan_lengths f0 d0) (D_lengths_in : Df K mg "lengths_in" s_lengths_in P_lengths_in f1 d1) (D_plan_length : Df K mg "plan_length" s_plan_length P_plan_length f2 d2) (D_inner_plans : Df K mg "inner_plans" s_inner_plans P_inner_plans f3 d3)
    (R1 : RestC K C1) (F4 : Fun K "has_root" "Rests.has_root" s_Rests_has_root f4 d4) (B_Rests_has_root : Binds K d4 P_Rests_has_root []) (ME_Rests_has_root : Meth K C1 "has_root" f4) : FnOk P w K mg base CX0 9 f fd P_plan_fits (spPf1 K C1) := by
  have G_plan_lengths : FnOk P w K mg base CX0 8 f0 d0 P_plan_lengths (spPlens K) := ok_plens D_plan_lengths.F D_lengths_in D_plan_length D_inner_plans T
  have G_Rests_has_root : FnOk P w K mg base CX0 1 f4 d4 P_Rests_has_root (sp_hasroot C1) := ok_hasroot F4 R1
  have CL_Rests := R1.cl
  have nd := sc_plan_fits.nd
  refine F.ok sc_plan_fits (fun vs H Q E h => ?_) (fun cdv A outer s H vs Q E hr h => ?_)
  · obtain ⟨a, g, v, p, rfl, _⟩ := h
    rfl
  · obtain ⟨a, g, v, p, rfl, hR, hp, hd, ok, q⟩ := h
    refine ⟨_, (pss_one (ps_ret (pe_callB (r := rAll K) (cr_all rfl) (by rfl) T.b_all (by decide +kernel) (pa_cons (pe_lc (own := [("length", 2)]) (g := gName 2) (by rfl) nd (pi_list (pe_call G_plan_lengths (hr.mono (by omega)) (by rfl) D_plan_lengths.g D_plan_lengths.F.kp D_plan_lengths.b .nil pass0 (pa_cons (pv 1) pa_nil))) (blkOk_by (own := [("length", 2)]) (N := N_plan_fits) (sc := defScope s_plan_fits) (by decide +kernel)) (fun _ _ _ _ _ => (pg_name (i := 2) nd rfl (Or.inl rfl))) (fun _ _ _ _ _ => pts_nil) (fun _ _ _ _ _ => (pe_meth (pv 0) CL_Rests ME_Rests_has_root G_Rests_has_root (hr.mono (by omega)) B_Rests_has_root .nil pass0 (pa_cons (pv 2) pa_nil)))) pa_nil)))), ?_⟩
    walk_at "ev"
    intro out l H1 hl sm1 hq1 hso hmo hlo
    have hL := SqL.of (K := K) hq1
    have ea : out.all (fun x => decide ((g - 1) % x = 0)) = fitD (.rests g) p := all_iff hmo
    refine ⟨l, rfl, ⟨_, hL⟩, fun D hD => ?_⟩
    refine lc_list (K := K) (a := l) (xs := out.map V.int) (fun j H' => Hold (Same H1 H' ∧ H' D = some (.lst (((out.take j).map fun x => decide ((g - 1) % x = 0)).map V.bl)))) (.mk ⟨same_new hD, upd_same⟩) ?_ ?_ ?_
    · intro j H5 hj hP
      obtain ⟨sm5, hD5⟩ := hP.un
      exact sm5.seq hL
    · intro j v' H5 hv hP
      obtain ⟨sm5, hD5⟩ := hP.un
      rw [List.getElem?_map] at hv
      obtain ⟨x, hx, rfl⟩ := Option.map_eq_some_iff.mp hv
      obtain ⟨x1, x2⟩ := lens_ok ok x ((hmo x).mp (List.mem_of_getElem? hx))
      have hR5 := hR.same (sm1.trans sm5)
      have hR6 := hR5
      obtain ⟨dx, gg, hins, _⟩ := hR6
      have hjl : j < out.length := (List.getElem?_eq_some_iff.mp hx).1
      have hsz : (((out.take j).map fun x => decide ((g - 1) % x = 0)).map V.bl).length < sizeLine := szm (by rw [List.length_map, List.length_map, List.length_take]; omega)
      have x100 : x ≤ 1000000 := by omega
      walk_at "ev"
      refine .mk ⟨same_mut sm5 hD, ?_⟩
      rw [upd_same, List.take_add_one, hx, List.map_append, List.map_append]
      rfl
    · intro H5 hP
      obtain ⟨sm5, hD5⟩ := hP.un
      rw [List.length_map, List.take_length] at hD5
      refine ⟨D, _, rfl, SqL.of hD5, ?_⟩
      rw [List.all_map]
      have e2 : (out.all (id ∘ fun x => decide ((g - 1) % x = 0))) = fitD (.rests g) p := ea
      rw [e2]
      exact q _ (sm1.trans sm5)
theorem ok_pf2 {f f0 f1 f2 f3 f4 C2 : Addr} {fd d0 d1 d2 d3 d4 : FuncData} (F : Fun K "plan_fits" "plan_fits" s_plan_fits f fd) (T : Blt mg) (D_plan_lengths : Df K mg "plan_lengths" s_plan_lengths P_plan_lengths f0 d0) (D_lengths_in : Df K mg "lengths_in" s_lengths_in P_lengths_in f1 d1) (D_plan_length : Df K mg "plan_length" s_plan_length P_plan_length f2 d2) (D_inner_plans : Df K mg "inner_plans" s_inner_plans P_inner_plans f3 d3)
    (R2 : RootC K C2) (F4 : Fun K "has_root" "Roots.has_root" s_Roots_has_root f4 d4) (B_Roots_has_root : Binds K d4 P_Roots_has_root []) (ME_Roots_has_root : Meth K C2 "has_root" f4) : FnOk P w K mg base CX0 9 f fd P_plan_fits (spPf2 K C2) := by
  have G_plan_lengths : FnOk P w K mg base CX0 8 f0 d0 P_plan_lengths (spPlens K) := ok_plens D_plan_lengths.F D_lengths_in D_plan_length D_inner_plans T
  have G_Roots_has_root : FnOk P w K mg base CX0 1 f4 d4 P_Roots_has_root (spHasR C2) := ok_hasR F4 R2
  have CL_Roots := R2.cl
  have nd := sc_plan_fits.nd
  refine F.ok sc_plan_fits (fun vs H Q E h => ?_) (fun cdv A outer s H vs Q E hr h => ?_)
  · obtain ⟨a, g, v, p, rfl, _⟩ := h
    rfl
  · obtain ⟨a, g, v, p, rfl, hR, hp, hd, ok, q⟩ := h
    refine ⟨_, (pss_one (ps_ret (pe_callB (r := rAll K) (cr_all rfl) (by rfl) T.b_all (by decide +kernel) (pa_cons (pe_lc (own := [("length", 2)]) (g := gName 2) (by rfl) nd (pi_list (pe_call G_plan_lengths (hr.mono (by omega)) (by rfl) D_plan_lengths.g D_plan_lengths.F.kp D_plan_lengths.b .nil pass0 (pa_cons (pv 1) pa_nil))) (blkOk_by (own := [("length", 2)]) (N := N_plan_fits) (sc := defScope s_plan_fits) (by decide +kernel)) (fun _ _ _ _ _ => (pg_name (i := 2) nd rfl (Or.inl rfl))) (fun _ _ _ _ _ => pts_nil) (fun _ _ _ _ _ => (pe_meth (pv 0) CL_Roots ME_Roots_has_root G_Roots_has_root (hr.mono (by omega)) B_Roots_has_root .nil pass0 (pa_cons (pv 2) pa_nil)))) pa_nil)))), ?_⟩
    walk_at "ev"
    intro out l H1 hl sm1 hq1 hso hmo hlo
    have hL := SqL.of (K := K) hq1
    have ea : out.all (fun x => decide ((g : Int) % x = 0)) = fitD (.roots g) p := all_iff hmo
    refine ⟨l, rfl, ⟨_, hL⟩, fun D hD => ?_⟩
    refine lc_list (K := K) (a := l) (xs := out.map V.int) (fun j H' => Hold (Same H1 H' ∧ H' D = some (.lst (((out.take j).map fun x => decide ((g : Int) % x = 0)).map V.bl)))) (.mk ⟨same_new hD, upd_same⟩) ?_ ?_ ?_
    · intro j H5 hj hP
      obtain ⟨sm5, hD5⟩ := hP.un
      exact sm5.seq hL
    · intro j v' H5 hv hP
      obtain ⟨sm5, hD5⟩ := hP.un
      rw [List.getElem?_map] at hv
      obtain ⟨x, hx, rfl⟩ := Option.map_eq_some_iff.mp hv
      obtain ⟨x1, x2⟩ := lens_ok ok x ((hmo x).mp (List.mem_of_getElem? hx))
      obtain ⟨y, rfl⟩ := Int.eq_ofNat_of_zero_le (show 0 ≤ x by omega)
      have hR5 := hR.same (sm1.trans sm5)
      have hR6 := hR5
      obtain ⟨dx, gg, hins, _⟩ := hR6
      have hjl : j < out.length := (List.getElem?_eq_some_iff.mp hx).1
      have hsz : (((out.take j).map fun x => decide ((g : Int) % x = 0)).map V.bl).length < sizeLine := szm (by rw [List.length_map, List.length_map, List.length_take]; omega)
      have y1 : 1 ≤ y := by omega
      have y2 : y ≤ 1000 := by omega
      walk_at "ev"
      refine .mk ⟨same_mut sm5 hD, ?_⟩
      have ey : decide (g % y = 0) = decide ((g : Int) % (y : Int) = 0) := decide_eq_decide.mpr ⟨fun h => by omega, fun h => by omega⟩
      rw [upd_same, List.take_add_one, hx, List.map_append, List.map_append, ey]
      rfl
    · intro H5 hP
      obtain ⟨sm5, hD5⟩ := hP.un
      rw [List.length_map, List.take_length] at hD5
      refine ⟨D, _, rfl, SqL.of hD5, ?_⟩
      rw [List.all_map]
      have e2 : (out.all (id ∘ fun x => decide ((g : Int) % x = 0))) = fitD (.roots g) p := ea
      rw [e2]
      exact q _ (sm1.trans sm5)
theorem ok_pf {f f0 f1 f2 f3 CT CB C1 C2 fI : Addr} {fd d0 d1 d2 d3 fdI : FuncData} (F : Fun K "plan_fits" "plan_fits" s_plan_fits f fd) (T : Blt mg) (S : G23 K mg CT CB C1 C2 fI fdI) (D_plan_lengths : Df K mg "plan_lengths" s_plan_lengths P_plan_lengths f0 d0) (D_lengths_in : Df K mg "lengths_in" s_lengths_in P_lengths_in f1 d1) (D_plan_length : Df K mg "plan_length" s_plan_length P_plan_length f2 d2) (D_inner_plans : Df K mg "inner_plans" s_inner_plans P_inner_plans f3 d3) : FnOk P w K mg base CX0 9 f fd P_plan_fits (spPf K C1 C2) := by
  obtain ⟨f4, d4, F4, B4, E4⟩ := S.h1
  obtain ⟨f5, d5, F5, B5, E5⟩ := S.h2
  refine fnor (ok_pf1 F T D_plan_lengths D_lengths_in D_plan_length D_inner_plans S.R1 F4 B4 E4) (ok_pf2 F T D_plan_lengths D_lengths_in D_plan_length D_inner_plans S.R2 F5 B5 E5) ?_
  rintro vs H Q E ⟨a, g, v, p, h1, h2, h3⟩
  cases g with
  | rests q => exact .inl ⟨a, q, v, p, h1, h2, h3⟩
  | roots q => exact .inr ⟨a, q, v, p, h1, h2, h3⟩
end
abbrev s__law_same : Stmt := top 29
abbrev N__law_same : List Str := ["_law_found", "_law_due", "_law_one", "_law_two"]
abbrev P__law_same : List Str := ["_law_found", "_law_due"]
theorem sc__law_same : FnScope N__law_same P__law_same (defScope s__law_same) := ⟨rfl, rfl, rfl, by decide +kernel, rfl, by decide +kernel, by decide +kernel⟩
section
variable {P : Program} {w : World} {K : PySem.W.Frag} {mg : Str → Option Value} {base : Heap}
theorem same_step {f : Addr} {fd : FuncData} {n : Nat} {spI : Sp} (D__law_same : Df K mg "_law_same" s__law_same P__law_same f fd) (T : Blt mg) (G__law_same : FnOk P w K mg base CX0 n f fd P__law_same spI) (hG : ∀ m, n = m + 1 → spI = spSame K m) : FnOk P w K mg base CX0 (n + 1) f fd P__law_same (spSame K n) := by
  have nd := sc__law_same.nd
  refine D__law_same.F.ok sc__law_same (fun vs H Q E h => ?_) (fun cdv A outer s H vs Q E hr h => ?_)
  · obtain ⟨x, y, d, rfl, _⟩ := h
    rfl
  · obtain ⟨x, y, d, rfl, hx, hy, hf, q⟩ := h
    refine ⟨_, (pss_cons (ps_if (pt_val (pe_callB (r := rIsiT K) call_isiT (by rfl) T.b_isinstance (by decide +kernel) (pa_cons (pv 1) (pa_cons (pe_tup (pa_cons (pe_bltn (v := .ty "list") (by rfl) T.b_list (by decide +kernel) rfl) (pa_cons (pe_bltn (v := .ty "tuple") (by rfl) T.b_tuple (by decide +kernel) rfl) pa_nil))) pa_nil)))) (pss_cons (ps_if (PW.pt (pw_or (pt_cmpR op_ne (pe_callB (r := rIsi K) call_isi (by rfl) T.b_isinstance (by decide +kernel) (pa_cons (pv 0) (pa_cons (pe_bltn (v := .ty "list") (by rfl) T.b_list (by decide +kernel) rfl) pa_nil))) (pe_callB (r := rIsi K) call_isi (by rfl) T.b_isinstance (by decide +kernel) (pa_cons (pv 1) (pa_cons (pe_bltn (v := .ty "list") (by rfl) T.b_list (by decide +kernel) rfl) pa_nil))) (nomark _)) (pw_or1 (pt_cmpR op_ne (pe_callB (r := rIsi K) call_isi (by rfl) T.b_isinstance (by decide +kernel) (pa_cons (pv 0) (pa_cons (pe_bltn (v := .ty "tuple") (by rfl) T.b_tuple (by decide +kernel) rfl) pa_nil))) (pe_callB (r := rIsi K) call_isi (by rfl) T.b_isinstance (by decide +kernel) (pa_cons (pv 1) (pa_cons (pe_bltn (v := .ty "tuple") (by rfl) T.b_tuple (by decide +kernel) rfl) pa_nil))) (nomark _))))) (pss_one (ps_ret (pe_bl))) pss_nil)
      (pss_cons (ps_if (pt_cmpR op_ne (pe_callB (r := rLenQ K) call_len_seq (by rfl) T.b_len (by decide +kernel) (pa_cons (pv 0) pa_nil)) (pe_callB (r := rLenQ K) call_len_seq (by rfl) T.b_len (by decide +kernel) (pa_cons (pv 1) pa_nil)) (nomark _)) (pss_one (ps_ret (pe_bl))) pss_nil)
      (pss_one (ps_ret (pe_callB (r := rAll K) (cr_all rfl) (by rfl) T.b_all (by decide +kernel) (pa_cons (pe_lc (own := [("_law_one", 2), ("_law_two", 3)]) (g := gTup K 2 (gCons (gName 2) (gCons (gName 3) gNil))) (by rfl) nd (RZ.pi_zipA (by rfl) T.b_zip (pa_cons (pv 0) (pa_cons (pv 1) pa_nil))) (blkOk_by (own := [("_law_one", 2), ("_law_two", 3)]) (N := N__law_same) (sc := defScope s__law_same) (by decide +kernel)) (fun _ _ _ _ _ => (pg_tup (by rfl) (pgs_cons (pg_name (i := 2) nd rfl (Or.inl rfl)) (pgs_cons (pg_name (i := 3) nd rfl (Or.inl rfl)) pgs_nil)))) (fun _ _ _ _ _ => pts_nil) (fun _ _ _ _ _ => (pe_call G__law_same (hr.mono (by omega)) (by rfl) D__law_same.g D__law_same.F.kp D__law_same.b .nil pass0 (pa_cons (pv 2) (pa_cons (pv 3) pa_nil))))) pa_nil)))))) pss_nil)
      (pss_cons (ps_if (PW.pt (pw_or (pt_cmpR op_isN (pv 1) (pe_non) (nomark _)) (pw_or1 (pt_val (pe_callB (r := rIsi K) call_isi (by rfl) T.b_isinstance (by decide +kernel) (pa_cons (pv 1) (pa_cons (pe_bltn (v := .ty "str") (by rfl) T.b_str (by decide +kernel) rfl) pa_nil))))))) (pss_one (ps_ret (pe_and (pe_cmpR op_eq (pv 0) (pv 1) (nomark _)) (pe_one (pe_cmpR op_eq (pe_callB (r := rIsi K) call_isi (by rfl) T.b_isinstance (by decide +kernel) (pa_cons (pv 0) (pa_cons (pe_bltn (v := .ty "str") (by rfl) T.b_str (by decide +kernel) rfl) pa_nil))) (pe_callB (r := rIsi K) call_isi (by rfl) T.b_isinstance (by decide +kernel) (pa_cons (pv 1) (pa_cons (pe_bltn (v := .ty "str") (by rfl) T.b_str (by decide +kernel) rfl) pa_nil))) (nomark _)))))) pss_nil)
      (pss_one (ps_ret (pe_and (pe_callB (r := rIsi K) call_isi (by rfl) T.b_isinstance (by decide +kernel) (pa_cons (pv 0) (pa_cons (pe_bltn (v := .ty "int") (by rfl) T.b_int (by decide +kernel) rfl) pa_nil))) (pe_and (pe_cmpR op_eq (pe_callB (r := rIsi K) call_isi (by rfl) T.b_isinstance (by decide +kernel) (pa_cons (pv 0) (pa_cons (pe_bltn (v := .ty "bool") (by rfl) T.b_bool (by decide +kernel) rfl) pa_nil))) (pe_callB (r := rIsi K) call_isi (by rfl) T.b_isinstance (by decide +kernel) (pa_cons (pv 1) (pa_cons (pe_bltn (v := .ty "bool") (by rfl) T.b_bool (by decide +kernel) rfl) pa_nil))) (nomark _)) (pe_one (pe_cmpR op_eq (pv 0) (pv 1) (nomark _))))))))), ?_⟩
    cases hx with
    | non =>
      cases hy
      walk_at "ev"
      intro p hp
      generalize hH : upd _ p _ = H1
      obtain ⟨sm, hp1⟩ := newO hH hp
      have kd : Kd K H1 .non "NoneType" := .non
      have ty := kd.ty
      obtain ⟨k1, k2, k3, k4, k5⟩ := kd.kit
      have ka := kit_lt k4 k5
      walk_at "ev"
      exact q_dec (q _ sm)
    | bl b =>
      cases hy
      walk_at "ev"
      intro p hp
      generalize hH : upd _ p _ = H1
      obtain ⟨sm, hp1⟩ := newO hH hp
      have kd : Kd K H1 (.bl b) "bool" := .bl b
      have ty := kd.ty
      obtain ⟨k1, k2, k3, k4, k5⟩ := kd.kit
      have ka := kit_lt k4 k5
      walk_at "ev"
      exact q_dec (q _ sm)
    | int i =>
      cases hy
      walk_at "ev"
      intro p hp
      generalize hH : upd _ p _ = H1
      obtain ⟨sm, hp1⟩ := newO hH hp
      have kd : Kd K H1 (.int i) "int" := .int i
      have ty := kd.ty
      obtain ⟨k1, k2, k3, k4, k5⟩ := kd.kit
      have ka := kit_lt k4 k5
      walk_at "ev"
      exact q_dec (q _ sm)
    | str z =>
      cases hy
      walk_at "ev"
      intro p hp
      generalize hH : upd _ p _ = H1
      obtain ⟨sm, hp1⟩ := newO hH hp
      have kd : Kd K H1 (.str z) "str" := .str z
      have ty := kd.ty
      obtain ⟨k1, k2, k3, k4, k5⟩ := kd.kit
      have ka := kit_lt k4 k5
      walk_at "ev"
      exact q_dec (q _ sm)
    | lst hs ha =>
      rename_i a xs ds
      cases hy with
      | lst ht hb =>
      rename_i b ys
      have el : ys.length = xs.length := (dpall_len hb).trans (dpall_len ha).symm
      have el' : V.int (xs.length : Int) = V.int (ys.length : Int) := by rw [el]
      cases n with
      | zero => exact hf.elim
      | succ n =>
      have hf' : ds.length ≤ 4000 ∧ ∀ e ∈ ds, Fit n e := hf
      have hS := hG n rfl
      subst hS
      walk_at "ev"
      intro p hp
      generalize hH : upd _ p _ = H1
      obtain ⟨sm, hp1⟩ := newO hH hp
      have hs1 := sm.seq hs
      have ht1 := sm.seq ht
      have kd : Kd K H1 (.ref a) "list" := .lst hs1
      have ty := kd.ty
      have kd' : Kd K H1 (.ref b) "list" := .lst ht1
      have ty' := kd'.ty
      obtain ⟨k1, k2, k3, k4, k5⟩ := kd.kit
      have ka := kit_lt k4 k5
      walk_at "ev"
      refine .inl ⟨hs1, ht1, fun D hD => ?_⟩
      refine lc_pairs (xs := xs) (ys := ys) (fun i H' => Hold (Same H1 H' ∧ H' D = some (.lst ((List.replicate i true).map V.bl)))) (.mk ⟨same_new hD, upd_same⟩) ?_ ?_ ?_ ?_ ?_
      · intro i H' hP hi
        obtain ⟨sm2, hD2⟩ := hP.un
        have hi2 : i < ys.length := by omega
        exact ⟨xs, ys, _, _, sm2.seq hs1, sm2.seq ht1, List.getElem?_eq_getElem hi, List.getElem?_eq_getElem hi2⟩
      · intro i H' v H'' hP hi yl
        obtain ⟨sm2, hD2⟩ := hP.un
        obtain ⟨T, x, y, e1, e2, e3, f1, f2⟩ := yl
        exact ⟨T, x, y, e1, e2, e3, f1 _ (sm2.seq hs1), f2 _ (sm2.seq ht1)⟩
      · intro H' hP
        obtain ⟨sm2, hD2⟩ := hP.un
        exact ⟨xs, ys, sm2.seq hs1, sm2.seq ht1, .inl (Nat.le_refl _)⟩
      · intro i x y T' H' H'' hx hy hP hT e
        obtain ⟨sm2, hD2⟩ := hP.un
        obtain ⟨sm3, hT3⟩ := newO e.symm hT
        have hT4 : SqT K H'' T' [x, y] := SqT.of hT3
        obtain ⟨d, hd, hdx⟩ := dpall_get ha hx
        obtain ⟨d', hd', hdy⟩ := dpall_get hb hy
        have ed : d' = d := Option.some.inj (hd'.symm.trans hd)
        subst ed
        have sm4 : Same H H'' := (sm.trans sm2).trans sm3
        have dx := dp_same sm4 hdx
        have dy := dp_same sm4 hdy
        have ft := hf'.2 _ (List.mem_of_getElem? hd)
        have hil : i < xs.length := (List.getElem?_eq_some_iff.mp hx).1
        have hdl := dpall_len ha
        have hlen : i ≤ 4000 := by omega
        walk_at "ev"
        intro H5 sm5
        have hD5 := sm5 _ _ (sm3 _ _ hD2)
        refine ⟨_, hD5, szm (by simp; omega), .mk ⟨same_mut ((sm2.trans sm3).trans sm5) hD, ?_⟩⟩
        rw [upd_same, List.replicate_succ', List.map_append]
        rfl
      · intro H' hP
        obtain ⟨sm2, hD2⟩ := hP.un
        refine ⟨D, List.replicate xs.length true, rfl, SqL.of hD2, ?_⟩
        rw [all_true]
        exact q _ (sm.trans sm2)
    | tup hs ha =>
      rename_i a xs ds
      cases hy with
      | tup ht hb =>
      rename_i b ys
      have el : ys.length = xs.length := (dpall_len hb).trans (dpall_len ha).symm
      have el' : V.int (xs.length : Int) = V.int (ys.length : Int) := by rw [el]
      cases n with
      | zero => exact hf.elim
      | succ n =>
      have hf' : ds.length ≤ 4000 ∧ ∀ e ∈ ds, Fit n e := hf
      have hS := hG n rfl
      subst hS
      walk_at "ev"
      intro p hp
      generalize hH : upd _ p _ = H1
      obtain ⟨sm, hp1⟩ := newO hH hp
      have hs1 := same_t sm hs
      have ht1 := same_t sm ht
      have kd : Kd K H1 (.ref a) "tuple" := .tup hs1
      have ty := kd.ty
      have kd' : Kd K H1 (.ref b) "tuple" := .tup ht1
      have ty' := kd'.ty
      obtain ⟨k1, k2, k3, k4, k5⟩ := kd.kit
      have ka := kit_lt k4 k5
      walk_at "ev"
      refine .inr ⟨hs1, ht1, fun D hD => ?_⟩
      refine lc_pairs (xs := xs) (ys := ys) (fun i H' => Hold (Same H1 H' ∧ H' D = some (.lst ((List.replicate i true).map V.bl)))) (.mk ⟨same_new hD, upd_same⟩) ?_ ?_ ?_ ?_ ?_
      · intro i H' hP hi
        obtain ⟨sm2, hD2⟩ := hP.un
        have hi2 : i < ys.length := by omega
        exact ⟨xs, ys, _, _, same_t sm2 hs1, same_t sm2 ht1, List.getElem?_eq_getElem hi, List.getElem?_eq_getElem hi2⟩
      · intro i H' v H'' hP hi yl
        obtain ⟨sm2, hD2⟩ := hP.un
        obtain ⟨T, x, y, e1, e2, e3, f1, f2⟩ := yl
        exact ⟨T, x, y, e1, e2, e3, f1 _ (same_t sm2 hs1), f2 _ (same_t sm2 ht1)⟩
      · intro H' hP
        obtain ⟨sm2, hD2⟩ := hP.un
        exact ⟨xs, ys, same_t sm2 hs1, same_t sm2 ht1, .inl (Nat.le_refl _)⟩
      · intro i x y T' H' H'' hx hy hP hT e
        obtain ⟨sm2, hD2⟩ := hP.un
        obtain ⟨sm3, hT3⟩ := newO e.symm hT
        have hT4 : SqT K H'' T' [x, y] := SqT.of hT3
        obtain ⟨d, hd, hdx⟩ := dpall_get ha hx
        obtain ⟨d', hd', hdy⟩ := dpall_get hb hy
        have ed : d' = d := Option.some.inj (hd'.symm.trans hd)
        subst ed
        have sm4 : Same H H'' := (sm.trans sm2).trans sm3
        have dx := dp_same sm4 hdx
        have dy := dp_same sm4 hdy
        have ft := hf'.2 _ (List.mem_of_getElem? hd)
        have hil : i < xs.length := (List.getElem?_eq_some_iff.mp hx).1
        have hdl := dpall_len ha
        have hlen : i ≤ 4000 := by omega
        walk_at "ev"
        intro H5 sm5
        have hD5 := sm5 _ _ (sm3 _ _ hD2)
        refine ⟨_, hD5, szm (by simp; omega), .mk ⟨same_mut ((sm2.trans sm3).trans sm5) hD, ?_⟩⟩
        rw [upd_same, List.replicate_succ', List.map_append]
        rfl
      · intro H' hP
        obtain ⟨sm2, hD2⟩ := hP.un
        refine ⟨D, List.replicate xs.length true, rfl, SqL.of hD2, ?_⟩
        rw [all_true]
        exact q _ (sm.trans sm2)
theorem ok_same {f : Addr} {fd : FuncData} (D__law_same : Df K mg "_law_same" s__law_same P__law_same f fd) (T : Blt mg) : ∀ n : Nat, FnOk P w K mg base CX0 (n + 1) f fd P__law_same (spSame K n)
  | 0 => same_step (spI := fun _ _ _ _ => False) D__law_same T ⟨fun _ _ _ _ h => h.elim, fun _ _ _ _ _ _ _ _ _ _ _ _ _ h => h.elim⟩ (fun m h => by omega)
  | n + 1 => same_step D__law_same T (ok_same D__law_same T n) (fun m h => by cases h; rfl)
end
def inF (l : List Stmt) (i : Nat) : List Stmt := match l.drop i with
  | .For _ _ b _ _ :: _ => b
  | _ => []
/-- two worlds, and their grounds -/
def Wrld (C1 C2 : Addr) (H : Hp) (b lw lb : Addr) (g0 g1 : Gk) : Prop := ∃ w0 w1 a0 a1, lw ≠ b ∧ lb ≠ b ∧ H lw = some (.lst [.ref w0, .ref w1]) ∧ H lb = some (.lst [.ref a0, .ref a1]) ∧ WdM H b w0 g0 ∧ WdM H b w1 g1 ∧ GrAt C1 C2 H a0 g0 ∧ GrAt C1 C2 H a1 g1
theorem Wrld.keep {C1 C2 : Addr} {H H' : Hp} {b lw lb : Addr} {g0 g1 : Gk} {c : Int} (h : Wrld C1 C2 H b lw lb g0 g1) (hb : BoxAt H b c) (k : Keep b H H') : Wrld C1 C2 H' b lw lb g0 g1 := by
  obtain ⟨w0, w1, a0, a1, n1, n2, h1, h2, h3, h4, h5, h6⟩ := h
  exact ⟨w0, w1, a0, a1, n1, n2, k _ _ n1 h1, k _ _ n2 h2, h3.keep k, h4.keep k, h5.keep hb k, h6.keep hb k⟩
theorem Wrld.same {C1 C2 : Addr} {H H' : Hp} {b lw lb : Addr} {g0 g1 : Gk} (h : Wrld C1 C2 H b lw lb g0 g1) (k : Same H H') : Wrld C1 C2 H' b lw lb g0 g1 := by
  obtain ⟨w0, w1, a0, a1, n1, n2, h1, h2, h3, h4, h5, h6⟩ := h
  exact ⟨w0, w1, a0, a1, n1, n2, k _ _ h1, k _ _ h2, h3.up k, h4.up k, h5.same k, h6.same k⟩
def gAt (g0 g1 : Gk) (i : Int) : Gk := if i = 0 then g0 else g1
theorem Wrld.get {C1 C2 : Addr} {H : Hp} {b lw lb : Addr} {g0 g1 : Gk} {i : Int} (h : Wrld C1 C2 H b lw lb g0 g1) (i0 : 0 ≤ i) (i2 : i < 2) : ∃ (xs ys : List V) (wd a : Addr), lw ≠ b ∧ lb ≠ b ∧ H lw = some (.lst xs) ∧ H lb = some (.lst ys) ∧ atI xs i = some (.ref wd) ∧ atI ys i = some (.ref a) ∧ WdM H b wd (gAt g0 g1 i) ∧ GrAt C1 C2 H a (gAt g0 g1 i) := by
  obtain ⟨w0, w1, a0, a1, n1, n2, h1, h2, h3, h4, h5, h6⟩ := h
  rcases (by omega : i = 0 ∨ i = 1) with z | z <;> subst z
  · exact ⟨_, _, w0, a0, n1, n2, h1, h2, rfl, rfl, h3, h5⟩
  · exact ⟨_, _, w1, a1, n1, n2, h1, h2, rfl, rfl, h4, h6⟩
theorem fit_all {g : Gk} {p : Pl} (h : ∀ x ∈ lens p, numM g % x = 0) : fitD g p = true := List.all_eq_true.mpr fun x hx => decide_eq_true (h x hx)
abbrev s_law : Stmt := top 45
abbrev N_law : List Str := ["_law_script", "_law_k", "_law_box_here", "_law_worlds", "_law_bases", "_law_turn", "_law_at", "_law_length", "_law_one", "_law_some", "_law_lacking", "_law_thing", "_law_spot", "_law_world_here", "_law_number"]
abbrev P_law : List Str := ["_law_script"]
theorem sc_law : FnScope N_law P_law (defScope s_law) := ⟨rfl, rfl, rfl, by decide +kernel, rfl, by decide +kernel, by decide +kernel⟩
def spLaw (K : PySem.W.Frag) : Sp := fun vs H Q _ => ∃ (a : Addr) (ns : List Int), vs = [.ref a] ∧ SqL K H a (ns.map V.int) ∧ ns.length ≤ 63 ∧ ∀ H', Q (.bl true) H'
structure Fns (P : Program) (w : World) (K : PySem.W.Frag) (mg : Str → Option Value) (base : Heap) : Prop where
  x0 : ∃ f fd, Df K mg "is_whole" s_is_whole P_is_whole f fd
  x1 : ∃ f fd, Df K mg "is_prime" s_is_prime P_is_prime f fd
  x2 : ∃ f fd, Df K mg "factors" s_factors P_factors f fd
  x3 : ∃ f fd, Df K mg "divisors" s_divisors P_divisors f fd
  x4 : ∃ f fd, Df K mg "power_rest" s_power_rest P_power_rest f fd
  x5 : ∃ f fd, Df K mg "generator" s_generator P_generator f fd
  x6 : ∃ f fd, Df K mg "plan_length" s_plan_length P_plan_length f fd
  x7 : ∃ f fd, Df K mg "inner_plans" s_inner_plans P_inner_plans f fd
  x8 : ∃ f fd, Df K mg "lengths_in" s_lengths_in P_lengths_in f fd
  x9 : ∃ f fd, Df K mg "plan_lengths" s_plan_lengths P_plan_lengths f fd
  x10 : ∃ f fd, Df K mg "plan_fits" s_plan_fits P_plan_fits f fd
  x11 : ∃ f fd, Df K mg "divided" s_divided P_divided f fd
  x12 : ∃ f fd, Df K mg "wheel" s_wheel P_wheel f fd
  x13 : ∃ f fd, Df K mg "_law_box" s__law_box P__law_box f fd
  x14 : ∃ f fd, Df K mg "_law_take" s__law_take P__law_take f fd
  x15 : ∃ f fd, Df K mg "_law_pick" s__law_pick P__law_pick f fd
  x16 : ∃ f fd, Df K mg "_law_same" s__law_same P__law_same f fd
  x17 : ∃ f fd, Df K mg "_law_shares" s__law_shares P__law_shares f fd
  x18 : ∃ f fd, Df K mg "_law_is_plain_prime" s__law_is_plain_prime P__law_is_plain_prime f fd
  x19 : ∃ f fd, Df K mg "_law_raised" s__law_raised P__law_raised f fd
  x20 : ∃ f fd, Df K mg "_law_least_generator" s__law_least_generator P__law_least_generator f fd
  x21 : ∃ f fd, Df K mg "_law_divided" s__law_divided P__law_divided f fd
  x22 : ∃ f fd, Df K mg "_law_own_wheel" s__law_own_wheel P__law_own_wheel f fd
  x23 : ∃ f fd, Df K mg "_law_world" s__law_world P__law_world f fd
  x24 : ∃ f fd, Df K mg "_law_made" s__law_made P__law_made f fd
  x25 : ∃ f fd, Df K mg "_law_has" s__law_has P__law_has f fd
  x26 : ∃ f fd, Df K mg "_law_lengths" s__law_lengths P__law_lengths f fd
  x27 : ∃ f fd, Df K mg "_law_plan_of" s__law_plan_of P__law_plan_of f fd
  x28 : ∃ f fd, Df K mg "_law_length_of" s__law_length_of P__law_length_of f fd
  x29 : ∃ f fd, Df K mg "_law_any_plan" s__law_any_plan P__law_any_plan f fd
  x30 : ∃ f fd, Df K mg "_law_lengths_in" s__law_lengths_in P__law_lengths_in f fd
  x31 : ∃ f fd, Df K mg "_law_fits" s__law_fits P__law_fits f fd
section
variable {P : Program} {w : World} {K : PySem.W.Frag} {mg : Str → Option Value} {base : Heap}
theorem ok_law {f fI CT CB C1 C2 : Addr} {fd fdI : FuncData} (F : Fun K "law" "law" s_law f fd) (T : Blt mg) (U : Fns P w K mg base) (S : G23 K mg CT CB C1 C2 fI fdI) : FnOk P w K mg base CX0 10 f fd P_law (spLaw K) := by
  obtain ⟨⟨f0, d0, D_is_whole⟩, ⟨f1, d1, D_is_prime⟩, ⟨f2, d2, D_factors⟩, ⟨f3, d3, D_divisors⟩, ⟨f4, d4, D_power_rest⟩, ⟨f5, d5, D_generator⟩, ⟨f6, d6, D_plan_length⟩, ⟨f7, d7, D_inner_plans⟩, ⟨f8, d8, D_lengths_in⟩, ⟨f9, d9, D_plan_lengths⟩, ⟨f10, d10, D_plan_fits⟩, ⟨f11, d11, D_divided⟩, ⟨f12, d12, D_wheel⟩, ⟨f13, d13, D__law_box⟩, ⟨f14, d14, D__law_take⟩, ⟨f15, d15, D__law_pick⟩, ⟨f16, d16, D__law_same⟩, ⟨f17, d17, D__law_shares⟩, ⟨f18, d18, D__law_is_plain_prime⟩, ⟨f19, d19, D__law_raised⟩, ⟨f20, d20, D__law_least_generator⟩, ⟨f21, d21, D__law_divided⟩, ⟨f22, d22, D__law_own_wheel⟩, ⟨f23, d23, D__law_world⟩, ⟨f24, d24, D__law_made⟩, ⟨f25, d25, D__law_has⟩, ⟨f26, d26, D__law_lengths⟩, ⟨f27, d27, D__law_plan_of⟩, ⟨f28, d28, D__law_length_of⟩, ⟨f29, d29, D__law_any_plan⟩, ⟨f30, d30, D__law_lengths_in⟩, ⟨f31, d31, D__law_fits⟩⟩ := U
  have G__law_box : FnOk P w K mg base CX0 1 f13 d13 P__law_box (spBox K) := ok_box D__law_box.F T
  have G__law_take : FnOk P w K mg base CX0 1 f14 d14 P__law_take spTake := ok_take D__law_take.F
  have G__law_pick : FnOk P w K mg base CX0 2 f15 d15 P__law_pick (spPick K) := ok_pick (k := 0) D__law_pick.F T D__law_take
  have G__law_same : FnOk P w K mg base CX0 1 f16 d16 P__law_same (spSame K 0) := ok_same D__law_same T 0
  have G__law_world : FnOk P w K mg base CX0 7 f23 d23 P__law_world spWorld := ok_world D__law_world.F T D__law_take D__law_own_wheel D__law_divided D__law_least_generator D__law_is_plain_prime D__law_raised
  have G__law_made : FnOk P w K mg base CX0 9 f24 d24 P__law_made (spMade C1 C2) := ok_made D__law_made.F T S D_is_whole D_factors D_is_prime D_power_rest D_generator D_wheel D_divisors D_divided
  have G__law_has : FnOk P w K mg base CX0 1 f25 d25 P__law_has spHas := ok_has (k := 0) D__law_has.F T
  have G__law_lengths : FnOk P w K mg base CX0 2 f26 d26 P__law_lengths spLns := ok_lns (k := 0) D__law_lengths.F T D__law_has
  have G__law_plan_of : FnOk P w K mg base CX0 6 f27 d27 P__law_plan_of (spPof K 3) := ok_pof D__law_plan_of T D__law_take D__law_pick D__law_shares D__law_is_plain_prime D__law_has 3
  have G__law_any_plan : FnOk P w K mg base CX0 6 f29 d29 P__law_any_plan (spAny K 3) := ok_any D__law_any_plan T D__law_take D__law_pick D__law_shares D__law_is_plain_prime 3
  have G_any2 : FnOk P w K mg base CX0 5 f29 d29 P__law_any_plan (spAny K 2) := ok_any D__law_any_plan T D__law_take D__law_pick D__law_shares D__law_is_plain_prime 2
  have G_plan_fits : FnOk P w K mg base CX0 9 f10 d10 P_plan_fits (spPf K C1 C2) := ok_pf D_plan_fits.F T S D_plan_lengths D_lengths_in D_plan_length D_inner_plans
  have G__law_fits : FnOk P w K mg base CX0 8 f31 d31 P__law_fits (spFt K) := ok_ft D__law_fits.F T D__law_has D__law_lengths_in D__law_length_of
  have nd := sc_law.nd
  refine F.ok sc_law (fun vs H Q E h => ?_) (fun cdv A outer s H vs Q E hr h => ?_)
  · obtain ⟨a, ns, rfl, _⟩ := h
    rfl
  · obtain ⟨a, ns, rfl, hS, hlen, q⟩ := h
    have tail : ∃ tt, PSs (cxOf CX0 P w K mg base N_law "law" (defScope s_law) f cdv A outer s H E).nox ((inF (inF (defBody s_law) 0) 3).drop 7) tt ∧ ∀ (Z : Ends) (H7 : Hp) (b lw lb ls : Addr) (g0 g1 : Gk) (i : Int) (v1 : V) (p1 : Pl) (es : List (V × Pl)) (x0 x1 x5 x7 x10 x11 x12 x13 x14 : Option V), Wrld C1 C2 H7 b lw lb g0 g1 → 0 ≤ i → i < 2 → PlAt K H7 v1 p1 → pdep p1 ≤ 5 → Ok p1 → fitD (gAt g0 g1 i) p1 = true → H7 ls = some (.lst (es.map (·.1))) → (∀ e ∈ es, PlAt K H7 e.1 e.2 ∧ pdep e.2 ≤ 5 ∧ Ok e.2) →
        (∀ (H' : Hp) (y11 y12 : Option V), Same H7 H' → Z.nx [x0, x1, some (.ref b), some (.ref lw), some (.ref lb), x5, some (.int i), x7, some v1, some (.ref ls), x10, y11, y12, x13, x14] H') →
        tt Z [x0, x1, some (.ref b), some (.ref lw), some (.ref lb), x5, some (.int i), x7, some v1, some (.ref ls), x10, x11, x12, x13, x14] H7 := by
      refine ⟨_, (pss_cons (ps_if (pt_cmpR op_notBl (pe_call G_plan_fits (hr.mono (by omega)) (by rfl) D_plan_fits.g D_plan_fits.F.kp D_plan_fits.b .nil pass0 (pa_cons (pe_ix (r := rIxL K) ix_list (pv 4) (pv 6) (fun _ _ => rfl)) (pa_cons (pv 8) pa_nil))) (pe_bl) (nomark _)) (pss_one (ps_ret (pe_bl))) pss_nil)
      (pss_one (ps_for PassesOwn.never rfl (pi_list (pv 9)) (pg_name (i := 11) nd rfl (Or.inl rfl))
      (pss_one (ps_for PassesOwn.never rfl (pi_range1 (by rfl) T.b_range (pa_cons (pe_int) pa_nil)) (pg_name (i := 12) nd rfl (Or.inl rfl))
      (pss_one (ps_if (pt_not (pt_val (pe_call G__law_same (hr.mono (by omega)) (by rfl) D__law_same.g D__law_same.F.kp D__law_same.b .nil pass0 (pa_cons (pe_call G_plan_fits (hr.mono (by omega)) (by rfl) D_plan_fits.g D_plan_fits.F.kp D_plan_fits.b .nil pass0 (pa_cons (pe_ix (r := rIxL K) ix_list (pv 4) (pv 12) (fun _ _ => rfl)) (pa_cons (pv 11) pa_nil))) (pa_cons (pe_call G__law_fits (hr.mono (by omega)) (by rfl) D__law_fits.g D__law_fits.F.kp D__law_fits.b .nil pass0 (pa_cons (pe_ix (r := rIxL K) ix_list (pv 3) (pv 12) (fun _ _ => rfl)) (pa_cons (pv 11) pa_nil))) pa_nil))))) (pss_one (ps_ret (pe_bl))) pss_nil))))))), ?_⟩
      intro Z H7 b lw lb ls g0 g1 i v1 p1 es x0 x1 x5 x7 x10 x11 x12 x13 x14 hWr i0 i2 hp1 hpd hok hfit hls hes nx
      obtain ⟨xs, ys, wd, ga, n1, n2, hlw, hlb, atx, aty, hW, hGr⟩ := hWr.get i0 i2
      have hLb := SqL.of (K := K) hlb
      walk_at "ev"
      intro H8 sm8
      rw [hfit]
      have hL8 := SqL.of (K := K) (sm8 _ _ hls)
      walk_at "ev"
      refine ⟨⟨_, hL8⟩, ?_⟩
      refine for_list (K := K) (a := ls) (xs := es.map (·.1)) (fun j σ H' => Hold (∃ y11 y12, σ = [x0, x1, some (.ref b), some (.ref lw), some (.ref lb), x5, some (.int i), x7, some v1, some (.ref ls), x10, y11, y12, x13, x14] ∧ Same H8 H')) (.mk ⟨_, _, rfl, Same.refl _⟩) ?_ ?_ ?_
      · intro j σ H9 hj hP
        obtain ⟨y11, y12, rfl, sm9⟩ := hP.un
        exact sm9.seq hL8
      · intro j v σ H9 hv hP
        obtain ⟨y11, y12, rfl, sm9⟩ := hP.un
        rw [List.getElem?_map] at hv
        obtain ⟨e, he, rfl⟩ := Option.map_eq_some_iff.mp hv
        obtain ⟨he1, he2, he3⟩ := hes e (List.mem_of_getElem? he)
        walk_at "ev"
        refine for_range (lo := 0) (n := _) (fun k σ H' => Hold (∃ y12, σ = [x0, x1, some (.ref b), some (.ref lw), some (.ref lb), x5, some (.int i), x7, some v1, some (.ref ls), x10, some e.1, y12, x13, x14] ∧ Same H9 H')) (.mk ⟨_, rfl, Same.refl _⟩) ?_ ?_
        · intro k σ H10 hk hP2
          obtain ⟨z12, rfl, sm10⟩ := hP2.un
          have hk2 : k < 2 := hk
          have s710 := sm8.trans (sm9.trans sm10)
          obtain ⟨xs', ys', wd', ga', n1', n2', hlw', hlb', atx', aty', hW', hGr'⟩ := (hWr.same s710).get (i := 0 + (k : Int)) (by omega) (by omega)
          have hLb' := SqL.of (K := K) hlb'
          have hpe := he1.same s710
          walk_at "ev"
          intro H11 sm11
          have hLw' := SqL.of (K := K) (sm11 _ _ hlw')
          have hW11 := hW'.up sm11
          have hpe11 := hpe.same sm11
          walk_at "ev"
          intro H12 sm12
          have dA : Dp K H12 (.bl (fitD (gAt g0 g1 (0 + (k : Int))) e.2)) (.bool (fitD (gAt g0 g1 (0 + (k : Int))) e.2)) := .bl _
          have fA : Fit 0 (.bool (fitD (gAt g0 g1 (0 + (k : Int))) e.2)) := True.intro
          walk_at "ev"
          intro H13 sm13
          walk_at "ev"
          exact .mk ⟨_, rfl, sm10.trans (sm11.trans (sm12.trans sm13))⟩
        · intro σ H10 hP2
          obtain ⟨z12, rfl, sm10⟩ := hP2.un
          exact .mk ⟨_, _, rfl, sm9.trans sm10⟩
      · intro σ H9 hP
        obtain ⟨y11, y12, rfl, sm9⟩ := hP.un
        exact nx H9 y11 y12 (sm8.trans sm9)
    obtain ⟨tt, hin, fin⟩ := tail
    refine ⟨_, (pss_cons (ps_for PassesOwn.never rfl (pi_range1 (by rfl) T.b_range (pa_cons (pe_op op_add (pe_int) (pe_callB (call_min2 rfl) (by rfl) T.b_min (by decide +kernel) (pa_cons (pe_int) (pa_cons (pe_callB (r := rLenQ K) call_len_seq (by rfl) T.b_len (by decide +kernel) (pa_cons (pv 0) pa_nil)) pa_nil)))) pa_nil)) (pg_name (i := 1) nd rfl (Or.inl rfl))
      (pss_cons (ps_set (i := 2) nd rfl (Or.inl rfl) (pe_call G__law_box (hr.mono (by omega)) (by rfl) D__law_box.g D__law_box.F.kp D__law_box.b .nil pass0 (pa_cons (pv 0) (pa_cons (pv 1) pa_nil))))
      (pss_cons (ps_set (i := 3) nd rfl (Or.inr rfl) (pe_lst (pa_cons (pe_call G__law_world (hr.mono (by omega)) (by rfl) D__law_world.g D__law_world.F.kp D__law_world.b .nil pass0 (pa_cons (pv 2) pa_nil)) (pa_cons (pe_call G__law_world (hr.mono (by omega)) (by rfl) D__law_world.g D__law_world.F.kp D__law_world.b .nil pass0 (pa_cons (pv 2) pa_nil)) pa_nil))))
      (pss_cons (ps_setLc (i := 4) (own := [("_law_world_here", 13)]) (g := gName 13) (by rfl) nd rfl rfl (sw_true rfl rfl rfl (by decide +kernel)) (pi_list (pv 3)) (blkOk_by (own := [("_law_world_here", 13)]) (N := N_law) (sc := defScope s_law) (by decide +kernel)) (fun _ _ _ _ _ => (pg_name (i := 13) nd rfl (Or.inl rfl))) (fun _ _ _ _ _ => pts_nil) (fun _ _ _ _ _ => (pe_call G__law_made (hr.mono (by omega)) (by rfl) D__law_made.g D__law_made.F.kp D__law_made.b .nil pass0 (pa_cons (pv 13) pa_nil))))
      (pss_one (ps_for PassesOwn.never rfl (pi_range1 (by rfl) T.b_range (pa_cons (pe_int) pa_nil)) (pg_name (i := 5) nd rfl (Or.inl rfl))
      (pss_cons (ps_set (i := 6) nd rfl (Or.inr rfl) (pe_call G__law_take (hr.mono (by omega)) (by rfl) D__law_take.g D__law_take.F.kp D__law_take.b .nil pass0 (pa_cons (pv 2) (pa_cons (pe_int) pa_nil))))
      (pss_cons (ps_set (i := 7) nd rfl (Or.inr rfl) (pe_call G__law_pick (hr.mono (by omega)) (by rfl) D__law_pick.g D__law_pick.F.kp D__law_pick.b .nil pass0 (pa_cons (pv 2) (pa_cons (pe_call G__law_lengths (hr.mono (by omega)) (by rfl) D__law_lengths.g D__law_lengths.F.kp D__law_lengths.b .nil pass0 (pa_cons (pe_ix (r := rIxL K) ix_list (pv 3) (pv 6) (fun _ _ => rfl)) (pa_cons (pe_int) pa_nil))) pa_nil))))
      (pss_cons (ps_set (i := 8) nd rfl (Or.inl rfl) (pe_call G__law_plan_of (hr.mono (by omega)) (by rfl) D__law_plan_of.g D__law_plan_of.F.kp D__law_plan_of.b .nil pass0 (pa_cons (pv 2) (pa_cons (pe_ix (r := rIxL K) ix_list (pv 3) (pv 6) (fun _ _ => rfl)) (pa_cons (pv 7) (pa_cons (pe_int) (pa_cons (pe_bl) pa_nil)))))))
      (pss_cons (ps_set (i := 9) nd rfl (Or.inl rfl) (pe_lst (pa_cons (pv 8) (pa_cons (pe_call G__law_any_plan (hr.mono (by omega)) (by rfl) D__law_any_plan.g D__law_any_plan.F.kp D__law_any_plan.b .nil pass0 (pa_cons (pv 2) (pa_cons (pv 7) (pa_cons (pe_int) pa_nil)))) (pa_cons (pe_call G_any2 (hr.mono (by omega)) (by rfl) D__law_any_plan.g D__law_any_plan.F.kp D__law_any_plan.b .nil pass0 (pa_cons (pv 2) (pa_cons (pe_op op_add (pe_int) (pe_call G__law_take (hr.mono (by omega)) (by rfl) D__law_take.g D__law_take.F.kp D__law_take.b .nil pass0 (pa_cons (pv 2) (pa_cons (pe_int) pa_nil)))) (pa_cons (pe_int) pa_nil)))) pa_nil)))))
      (pss_cons (ps_setLc (i := 10) (own := [("_law_number", 14)]) (g := gName 14) (by rfl) nd rfl rfl (sw_true rfl rfl rfl (by decide +kernel)) (pi_range2 (by rfl) T.b_range (pa_cons (pe_int) (pa_cons (pe_int) pa_nil))) (blkOk_by (own := [("_law_number", 14)]) (N := N_law) (sc := defScope s_law) (by decide +kernel)) (fun _ _ _ _ _ => (pg_name (i := 14) nd rfl (Or.inl rfl))) (fun _ _ _ _ _ => pts_one (pt_not (pt_val (pe_call G__law_has (hr.mono (by omega)) (by rfl) D__law_has.g D__law_has.F.kp D__law_has.b .nil pass0 (pa_cons (pe_ix (r := rIxL K) ix_list (pv 3) (pv 6) (fun _ _ => rfl)) (pa_cons (pv 14) pa_nil)))))) (fun _ _ _ _ _ => (pv 14)))
      (pss_cons (ps_setLc (i := 10) (own := [("_law_number", 14)]) (g := gName 14) (by rfl) nd rfl rfl (sw_true rfl rfl rfl (by decide +kernel)) (pi_list (pv 10)) (blkOk_by (own := [("_law_number", 14)]) (N := N_law) (sc := defScope s_law) (by decide +kernel)) (fun _ _ _ _ _ => (pg_name (i := 14) nd rfl (Or.inl rfl))) (fun _ _ _ _ _ => pts_one (pt_cmpR op_gt (pv 14) (pe_op op_sub (pe_op op_mul (pe_int) (pv 7)) (pe_int)) (nomark _))) (fun _ _ _ _ _ => (pv 14)))
      (pss_cons (ps_if (PW.pt (pw_and (pt_cmpR (r := rNeD K) (op_neD hr.units) (pv 10) (pe_lst pa_nil) (nomark _)) (pw_and1 (pt_cmpR op_gt (pv 7) (pe_int) (nomark _))))) (pss_one (ps_expr (pe_bm PySem.F.plainAttrs_list PySem.F.slot_list_append PySem.F.type_list_append mt_append (pv 9) (pa_cons (pe_tup (pa_cons (pe_str) (pa_cons (pv 7) (pa_cons (pe_tup (pa_cons (pe_str) (pa_cons (pe_ix (r := rIxL K) ix_list (pv 10) (pe_int) (fun _ _ => rfl)) pa_nil))) pa_nil)))) pa_nil)))) pss_nil)
      hin)))))))))))))
      (pss_one (ps_ret (pe_bl)))), ?_⟩
    walk_at "ev"
    refine for_range (lo := 0) (n := _) (fun i σ H' => Hold (∃ s1 s2 s3 s4 s5 s6 s7 s8 s9 s10 s11 s12, σ = [some (.ref a), s1, s2, s3, s4, s5, s6, s7, s8, s9, s10, s11, s12, none, none] ∧ Same H H')) (.mk ⟨none, none, none, none, none, none, none, none, none, none, none, none, rfl, Same.refl _⟩) ?_ ?_
    · intro i σ H2 hi hP
      obtain ⟨s1, s2, s3, s4, s5, s6, s7, s8, s9, s10, s11, s12, rfl, sm2⟩ := hP.un
      have hi5 : i < 5 := by
        refine Nat.lt_of_lt_of_le hi ?_
        rw [List.length_map]
        split <;> omega
      have hS2 := sm2.seq hS
      walk_at "ev"
      intro b H3 hb0 sm3 hbx
      have hbf : H b = none := sm2.free hb0
      walk_at "ev"
      intro w0 H4 hw0 k4 hb4 g0 hW0
      walk_at "ev"
      intro w1 H5 hw1 k5 hb5 g1 hW1
      walk_at "ev"
      w_cond _6
      have hb6 := hb5.same sm6
      have n6b : l6 ≠ b := hb5.ne hl6
      have hL6 := SqL.of (K := K) hq6
      have hL6' : ∃ xs, SqL K H6 l6 xs := ⟨_, hL6⟩
      have hW06 := (hW0.keep k5).up sm6
      have hW16 := hW1.up sm6
      walk_at "ev"
      intro D hD
      have nDb := hb6.ne hD
      refine lc_list (K := K) (a := l6) (xs := [.ref w0, .ref w1]) (fun j H' => Hold (∃ gs : List Addr, gs.length = j ∧ Same H6 H' ∧ H' D = some (.lst (gs.map V.ref)) ∧ ∀ (t : Nat) (x : Addr), gs[t]? = some x → GrAt C1 C2 H' x (gAt g0 g1 (t : Int)))) (.mk ⟨[], rfl, same_new hD, upd_same, fun t g h => by simp at h⟩) ?_ ?_ ?_
      · intro j H7 hj hP7
        obtain ⟨gs, hgl, sm7, hD7, hgs⟩ := hP7.un
        exact sm7.seq hL6
      · intro j v H7 hv hP7
        obtain ⟨gs, hgl, sm7, hD7, hgs⟩ := hP7.un
        have hj2 : j < 2 := (List.getElem?_eq_some_iff.mp hv).1
        obtain ⟨wx, rfl, hWx⟩ : ∃ wx, v = .ref wx ∧ WdM H7 b wx (gAt g0 g1 (j : Int)) := by
          rcases (by omega : j = 0 ∨ j = 1) with z | z <;> subst z
          · exact ⟨w0, by cases hv; rfl, hW06.up sm7⟩
          · exact ⟨w1, by cases hv; rfl, hW16.up sm7⟩
        walk_at "ev"
        intro x H8 hx sm8 hGx
        have hD8 := sm8 _ _ hD7
        refine ⟨_, hD8, szm (by rw [List.length_map]; omega), .mk ⟨gs ++ [x], by rw [List.length_append, hgl]; rfl, same_mut (sm7.trans sm8) hD, by rw [upd_same, List.map_append]; rfl, fun t y hy => ?_⟩⟩
        by_cases c : t < gs.length
        · rw [List.getElem?_append_left c] at hy
          exact ((hgs t y hy).same sm8).mut hD8
        · rw [List.getElem?_append_right (by omega)] at hy
          have ht := (List.getElem?_eq_some_iff.mp hy).1
          have ht' : t - gs.length < 1 := ht
          have et : t = j := by omega
          subst et
          rw [hgl, Nat.sub_self] at hy
          cases hy
          exact hGx.mut hD8
      · intro H7 hP7
        obtain ⟨gs, hgl, sm7, hD7, hgs⟩ := hP7.un
        obtain ⟨a0, a1, rfl⟩ : ∃ a0 a1, gs = [a0, a1] := by
          match gs, hgl with
          | [x, y], _ => exact ⟨x, y, rfl⟩
        have hWr : Wrld C1 C2 H7 b l6 D g0 g1 := ⟨w0, w1, a0, a1, n6b, nDb, sm7 _ _ hq6, hD7, hW06.up sm7, hW16.up sm7, hgs 0 a0 rfl, hgs 1 a1 rfl⟩
        have hb7 := hb6.same sm7
        have k37 : Keep b H3 H7 := k4.trans (k5.trans ((keepS sm6).trans (keepS sm7)))
        clear hgs hP7 hP
        walk_at "ev"
        refine for_range (lo := 0) (n := _) (fun j σ H' => Hold (∃ s5 s6 s7 s8 s9 s10 s11 s12, σ = [some (.ref a), some (.int (0 + (i : Int))), some (.ref b), some (.ref l6), some (.ref D), s5, s6, s7, s8, s9, s10, s11, s12, none, none] ∧ Keep b H7 H' ∧ BoxAt H' b (100 + 100 * (j : Int)))) (.mk ⟨_, _, _, _, _, _, _, _, rfl, Keep.refl _ _, hb7.mono (by omega)⟩) ?_ ?_
        · intro j σ H8 hj hP8
          obtain ⟨t5, t6, t7, t8, t9, t10, t11, t12, rfl, k8, hb8⟩ := hP8.un
          have hj8 : j < 8 := hj
          walk_at "ev"
          intro ix H9 i0 i2 k9 hb9
          have hWr9 := hWr.keep hb7 (k8.trans k9)
          obtain ⟨xs, ys, wd, ga, n1, n2, hlw, hlb, atx, aty, hW9, hGr⟩ := hWr9.get i0 i2
          obtain ⟨g, hg⟩ : ∃ g, gAt g0 g1 ix = g := ⟨_, rfl⟩
          rw [hg] at hW9 hGr
          have hLw := SqL.of (K := K) hlw
          walk_at "ev"
          intro pl ks H10 hpl sm10 hq10 hk0 hk1 hkk
          have hb10 := hb9.same sm10
          have nplb := hb9.ne hpl
          have hL10 := SqL.of (K := K) hq10
          have z1 : (0 : Int) < ((ks.map V.int).length : Int) := by rw [List.length_map]; omega
          have z2 : ((ks.map V.int).length : Int) < 1048576 := by rw [List.length_map]; omega
          walk_at "ev"
          intro v H11 hv k11 hb11
          obtain ⟨n, hn, rfl⟩ := List.mem_map.mp hv
          obtain ⟨nn1, nn2, nn3⟩ := hkk n hn
          have k911 : Keep b H9 H11 := (keepS sm10).trans k11
          have hLw11 := SqL.of (K := K) (k911 _ _ n1 hlw)
          have hW11 := hW9.keep k911
          have tk3 : tks 3 = 30 := by decide
          have tk2 : tks 2 = 14 := by decide
          have n240 : n ≤ 240 := by omega
          have hfr : true = true → n ≤ 60 := fun _ => nn2
          have d3 : (3 : Int) = ((3 : Nat) : Int) := rfl
          walk_at "ev"
          intro v1 p1 H12 hp1 hpl1 hpd1 hok1 hdv1 k12 hb12
          rw [tk3] at hb12
          have n242 : n ≤ 242 := by omega
          walk_at "ev"
          intro v2 p2 H13 hp2 hpl2 hpd2 hok2 k13 hb13
          rw [tk3] at hb13
          walk_at "ev"
          intro r14 H14 r0 r1 k14 hb14
          have d2' : (2 : Int) = ((2 : Nat) : Int) := rfl
          walk_at "ev"
          intro v3 p3 H15 hp3 hpl3 hpd3 hok3 k15 hb15
          rw [tk2] at hb15
          walk_at "ev"
          w_cond _16
          have k1116 : Keep b H11 H16 := k12.trans (k13.trans (k14.trans (k15.trans (keepS sm16))))
          have hb16 := hb15.same sm16
          have n16b : l16 ≠ b := hb15.ne hl16
          have hp1' := (((hp1.keep k13 hb12).keep k14 hb13).keep k15 hb14).same sm16
          have hp2' := ((hp2.keep k14 hb13).keep k15 hb14).same sm16
          have hp3' := hp3.same sm16
          have k916 : Keep b H9 H16 := k911.trans k1116
          have k816 : Keep b H8 H16 := k9.trans k916
          have hWr16 := hWr9.keep hb9 k916
          have hlw16 := k916 _ _ n1 hlw
          have hLw16 := SqL.of (K := K) hlw16
          have hW16' := hW9.keep k916
          walk_at "ev"
          intro D2 hD2
          have nD2b := hb16.ne hD2
          refine lc_range (lo := 2) (n := _) (fun t H' => Hold (∃ ms : List Int, Same H16 H' ∧ H' D2 = some (.lst (ms.map V.int)) ∧ ms.length ≤ t ∧ ∀ m ∈ ms, 2 ≤ m ∧ m < 90)) (.mk ⟨[], same_new hD2, upd_same, Nat.zero_le _, fun m hm => by cases hm⟩) ?_ ?_
          · intro t H17 ht hP17
            obtain ⟨ms, sm17, hD17, hm1, hm2⟩ := hP17.un
            have ht88 : t < 88 := ht
            have hLw17 := sm17.seq hLw16
            have hW17 := hW16'.up sm17
            have hfl : (ms.map V.int).length < sizeLine := szm (by rw [List.length_map]; omega)
            walk_at "ev"
            refine ite2 (fun e => ?_) (fun e => ?_)
            · walk_at "ev"
              refine .mk ⟨ms ++ [2 + (t : Int)], same_mut sm17 hD2, by rw [upd_same, List.map_append]; rfl, by rw [List.length_append]; show _ + 1 ≤ _; omega, fun m hm => ?_⟩
              rcases List.mem_append.mp hm with h | h
              · exact hm2 m h
              · rw [List.mem_singleton.mp h]
                omega
            · exact .mk ⟨ms, sm17, hD17, by omega, hm2⟩
          intro H17 hP17
          obtain ⟨ms, sm17, hD17, hm1, hm2⟩ := hP17.un
          have hm88 : ms.length ≤ 88 := hm1
          have hL17 := SqL.of (K := K) hD17
          have hL17' : ∃ xs, SqL K H17 D2 xs := ⟨_, hL17⟩
          have cm2 : CMul 2 n := .inl ⟨by decide, by decide⟩
          walk_at "ev"
          intro D3 hD3
          refine lc_list (K := K) (a := D2) (xs := ms.map V.int) (fun t H' => Hold (∃ us : List Int, Same H17 H' ∧ H' D3 = some (.lst (us.map V.int)) ∧ us.length ≤ t ∧ ∀ m ∈ us, 2 ≤ m ∧ m < 90)) (.mk ⟨[], same_new hD3, upd_same, Nat.zero_le _, fun m hm => by cases hm⟩) ?_ ?_ ?_
          · intro t H18 ht hP18
            obtain ⟨us, sm18, hD18, hu1, hu2⟩ := hP18.un
            exact sm18.seq hL17
          · intro t v H18 hv hP18
            obtain ⟨us, sm18, hD18, hu1, hu2⟩ := hP18.un
            obtain ⟨m, hm, rfl⟩ := int_mem (List.mem_of_getElem? hv)
            have htl : t < (ms.map V.int).length := (List.getElem?_eq_some_iff.mp hv).1
            rw [List.length_map] at htl
            have hfl : (us.map V.int).length < sizeLine := szm (by rw [List.length_map]; omega)
            walk_at "ev"
            refine ite2 (fun e => ?_) (fun e => ?_)
            · walk_at "ev"
              refine .mk ⟨us ++ [m], same_mut sm18 hD3, by rw [upd_same, List.map_append]; rfl, by rw [List.length_append]; show _ + 1 ≤ _; omega, fun x hx => ?_⟩
              rcases List.mem_append.mp hx with h | h
              · exact hu2 x h
              · rw [List.mem_singleton.mp h]
                exact hm2 m hm
            · exact .mk ⟨us, sm18, hD18, by omega, hu2⟩
          intro H18 hP18
          obtain ⟨us, sm18, hD18, hu1, hu2⟩ := hP18.un
          rw [List.length_map] at hu1
          have s1618 := sm17.trans sm18
          have hes : ∀ e ∈ [(v1, p1), (v2, p2), (v3, p3)], PlT H18 e.1 e.2 ∧ pdep e.2 ≤ 5 ∧ Ok e.2 := by
            intro e he
            simp only [List.mem_cons, List.not_mem_nil, or_false] at he
            rcases he with z | z | z <;> subst z
            · exact ⟨hp1'.same s1618, by show pdep p1 ≤ 5; omega, hok1⟩
            · exact ⟨hp2'.same s1618, by show pdep p2 ≤ 5; omega, hok2⟩
            · exact ⟨hp3'.same s1618, by show pdep p3 ≤ 5; omega, hok3⟩
          have hq18 := s1618 _ _ hq16
          have hfit1 : fitD (gAt g0 g1 ix) p1 = true := by
            rw [hg]
            exact fit_all hdv1
          have hWr18 := hWr16.same s1618
          have hb18 := hb16.same s1618
          have k718 : Keep b H7 H18 := k8.trans (k816.trans (keepS s1618))
          have done : ∀ (H20 : Hp) (es : List (V × Pl)) (x10 x11 x12 x13 x14 : Option V), Wrld C1 C2 H20 b l6 D g0 g1 → H20 l16 = some (.lst (es.map (·.1))) → (∀ e ∈ (v1, p1) :: es, PlAt K H20 e.1 e.2 ∧ pdep e.2 ≤ 5 ∧ Ok e.2) → Keep b H7 H20 → BoxAt H20 b (100 + 100 * (j : Int) + 1 + 1 + 30 + 30 + 1 + 14) → x13 = none → x14 = none → ∀ Z : Ends, Z.nx = (fun σ H' => Hold (∃ s5 s6 s7 s8 s9 s10 s11 s12, σ = [some (.ref a), some (.int (0 + (i : Int))), some (.ref b), some (.ref l6), some (.ref D), s5, s6, s7, s8, s9, s10, s11, s12, none, none] ∧ Keep b H7 H' ∧ BoxAt H' b (100 + 100 * ((j + 1 : Nat) : Int)))) →
              tt Z [some (.ref a), some (.int (0 + (i : Int))), some (.ref b), some (.ref l6), some (.ref D), some (.int (0 + (j : Int))), some (.int ix), some (.int n), some v1, some (.ref l16), x10, x11, x12, x13, x14] H20 := by
            rintro H20 es x10 x11 x12 x13 x14 hWr20 hl20 hes20 k20 hb20 rfl rfl Z hZ
            obtain ⟨e1, e2, e3⟩ := hes20 (v1, p1) List.mem_cons_self
            refine fin Z H20 b l6 D l16 g0 g1 ix v1 p1 es _ _ _ _ _ _ _ _ _ hWr20 i0 i2 e1 e2 e3 hfit1 hl20 (fun e he => hes20 e (List.mem_cons_of_mem _ he)) ?_
            intro H' y11 y12 sm
            rw [hZ]
            exact .mk ⟨_, _, _, _, _, _, _, _, rfl, k20.trans (keepS sm), (hb20.same sm).mono (by omega)⟩
          walk_at "ev"
          w_cond _19
          have s1819 := sm19
          have hD19 := sm19 _ _ hD18
          have fin0 : ∀ (x11 x12 : Option V) (Z : Ends), Z.nx = (fun σ H' => Hold (∃ s5 s6 s7 s8 s9 s10 s11 s12, σ = [some (.ref a), some (.int (0 + (i : Int))), some (.ref b), some (.ref l6), some (.ref D), s5, s6, s7, s8, s9, s10, s11, s12, none, none] ∧ Keep b H7 H' ∧ BoxAt H' b (100 + 100 * ((j + 1 : Nat) : Int)))) →
              tt Z [some (.ref a), some (.int (0 + (i : Int))), some (.ref b), some (.ref l6), some (.ref D), some (.int (0 + (j : Int))), some (.int ix), some (.int n), some v1, some (.ref l16), some (.ref D3), x11, x12, none, none] H19 := fun x11 x12 Z hZ => done H19 [(v1, p1), (v2, p2), (v3, p3)] _ _ _ _ _ (hWr18.same sm19) (sm19 _ _ hq18) (fun e he => by
                have hm : e ∈ [(v1, p1), (v2, p2), (v3, p3)] := by
                  rcases List.mem_cons.mp he with z | z
                  · rw [z]
                    exact List.mem_cons_self
                  · exact z
                exact ⟨((hes e hm).1.same sm19).at, (hes e hm).2⟩) (k718.trans (keepS sm19)) (hb18.same sm19) rfl rfl Z hZ
          refine ned_ints (ns := us) (ms := []) (SqL.of hD19) (SqL.of hq19) ⟨_, rfl, ?_⟩
          cases us with
          | nil =>
            refine iteFe rfl ?_
            walk_at "ev"
            exact fin0 _ _ _ rfl
          | cons u us =>
            refine iteTe rfl ?_
            obtain ⟨u1, u2⟩ := hu2 u List.mem_cons_self
            have hLD := SqL.of (K := K) hD19
            walk_at "ev"
            refine ite2 (fun e => ?_) (fun e => ?_)
            · have e1 : 1 < n := of_decide_eq_true e
              have hatu : atI (List.map V.int (u :: us)) 0 = some (.int u) := at_of (j := 0) rfl rfl
              have hty : tyV K "list" (.ref l16) H19 := .inl ⟨rfl, _, SqL.of (sm19 _ _ hq18)⟩
              walk_at "ev"
              w_cond _20
              walk_at "ev"
              w_cond _21
              have s1821 := sm19.trans (sm20.trans sm21)
              have hq21' := s1821 _ _ hq18
              have hsz : ([v1, v2, v3] : List V).length < sizeLine := szm (by show 3 ≤ 60000; decide)
              walk_at "ev"
              have pn : PlT H21 (.ref l21) (.led "stretch" n (.leaf "plain" u)) := .led (.inr rfl) hq21 (.leaf (.inl rfl) (sm21 _ _ hq20))
              have hlf : H7 l16 = none := keep_free (k8.trans (k9.trans (k911.trans (k12.trans (k13.trans (k14.trans k15)))))) n16b hl16
              have hWm : Wrld C1 C2 (upd H21 l16 (.lst ([v1, v2, v3] ++ [.ref l21]))) b l6 D g0 g1 := hWr.keep hb7 (keep_fresh (k718.trans (keepS s1821)) hlf)
              refine done _ [(v1, p1), (v2, p2), (v3, p3), (.ref l21, .led "stretch" n (.leaf "plain" u))] _ _ _ _ _ hWm upd_same (fun e he => ?_) (keep_fresh (k718.trans (keepS s1821)) hlf) ((hb18.same s1821).upd n16b) rfl rfl _ rfl
              have hm : e ∈ [(v1, p1), (v2, p2), (v3, p3)] ∨ e = (.ref l21, .led "stretch" n (.leaf "plain" u)) := by
                simp only [List.mem_cons, List.not_mem_nil, or_false] at he ⊢
                rcases he with z | z | z | z | z
                · exact .inl (.inl z)
                · exact .inl (.inl z)
                · exact .inl (.inr (.inl z))
                · exact .inl (.inr (.inr z))
                · exact .inr z
              rcases hm with z | z
              · exact ⟨(((hes e z).1.same s1821).mut hq21').at, (hes e z).2⟩
              · rw [z]
                exact ⟨(pn.mut hq21').at, (by show 1 + 0 ≤ 5; decide), by omega, by omega, by omega, by omega⟩
            · walk_at "ev"
              exact fin0 _ _ _ rfl
        · intro σ H8 hP8
          obtain ⟨t5, t6, t7, t8, t9, t10, t11, t12, rfl, k8, hb8⟩ := hP8.un
          walk_at "ev"
          exact .mk ⟨_, _, _, _, _, _, _, _, _, _, _, _, rfl, keep_same (sm2.trans sm3) hbf (k37.trans k8)⟩
    · intro σ H2 hP
      obtain ⟨s1, s2, s3, s4, s5, s6, s7, s8, s9, s10, s11, s12, rfl, sm2⟩ := hP.un
      walk_at "ev"
      exact q _
end
theorem all_mk {l : PySem.W.OpenLaw} {w : World} {K : PySem.W.Frag} {h : Heap} {mg : Str → Option Value} {fa : Addr} (X : K.In h) (G : h.Ns mainGlobals mg) (hfa : mg "law" = some (.ref fa))
    {od0 an0 : Option Addr} {sl0 : Array (Option Value)} {oc0 kV0 dc0 pm0 cd0 ct0 : Value} {f0 : Addr}
    {od1 an1 : Option Addr} {sl1 : Array (Option Value)} {oc1 kV1 dc1 pm1 cd1 ct1 : Value} {f1 : Addr}
    {od2 an2 : Option Addr} {sl2 : Array (Option Value)} {oc2 kV2 dc2 pm2 cd2 ct2 : Value} {f2 : Addr}
    {od3 an3 : Option Addr} {sl3 : Array (Option Value)} {oc3 kV3 dc3 pm3 cd3 ct3 : Value} {f3 : Addr}
    {od4 an4 : Option Addr} {sl4 : Array (Option Value)} {oc4 kV4 dc4 pm4 cd4 ct4 : Value} {f4 : Addr}
    {od5 an5 : Option Addr} {sl5 : Array (Option Value)} {oc5 kV5 dc5 pm5 cd5 ct5 : Value} {f5 : Addr}
    {od6 an6 : Option Addr} {sl6 : Array (Option Value)} {oc6 kV6 dc6 pm6 cd6 ct6 : Value} {f6 : Addr}
    {od7 an7 : Option Addr} {sl7 : Array (Option Value)} {oc7 kV7 dc7 pm7 cd7 ct7 : Value} {f7 : Addr}
    {od8 an8 : Option Addr} {sl8 : Array (Option Value)} {oc8 kV8 dc8 pm8 cd8 ct8 : Value} {f8 : Addr}
    {od9 an9 : Option Addr} {sl9 : Array (Option Value)} {oc9 kV9 dc9 pm9 cd9 ct9 : Value} {f9 : Addr}
    {od10 an10 : Option Addr} {sl10 : Array (Option Value)} {oc10 kV10 dc10 pm10 cd10 ct10 : Value} {f10 : Addr}
    {od11 an11 : Option Addr} {sl11 : Array (Option Value)} {oc11 kV11 dc11 pm11 cd11 ct11 : Value} {f11 : Addr}
    {od12 an12 : Option Addr} {sl12 : Array (Option Value)} {oc12 kV12 dc12 pm12 cd12 ct12 : Value} {f12 : Addr}
    {od13 an13 : Option Addr} {sl13 : Array (Option Value)} {oc13 kV13 dc13 pm13 cd13 ct13 : Value} {f13 : Addr}
    {od14 an14 : Option Addr} {sl14 : Array (Option Value)} {oc14 kV14 dc14 pm14 cd14 ct14 : Value} {f14 : Addr}
    {od15 an15 : Option Addr} {sl15 : Array (Option Value)} {oc15 kV15 dc15 pm15 cd15 ct15 : Value} {f15 : Addr}
    {od16 an16 : Option Addr} {sl16 : Array (Option Value)} {oc16 kV16 dc16 pm16 cd16 ct16 : Value} {f16 : Addr}
    {od17 an17 : Option Addr} {sl17 : Array (Option Value)} {oc17 kV17 dc17 pm17 cd17 ct17 : Value} {f17 : Addr}
    {od18 an18 : Option Addr} {sl18 : Array (Option Value)} {oc18 kV18 dc18 pm18 cd18 ct18 : Value} {f18 : Addr}
    {od19 an19 : Option Addr} {sl19 : Array (Option Value)} {oc19 kV19 dc19 pm19 cd19 ct19 : Value} {f19 : Addr}
    {od20 an20 : Option Addr} {sl20 : Array (Option Value)} {oc20 kV20 dc20 pm20 cd20 ct20 : Value} {f20 : Addr}
    {od21 an21 : Option Addr} {sl21 : Array (Option Value)} {oc21 kV21 dc21 pm21 cd21 ct21 : Value} {f21 : Addr}
    {od22 an22 : Option Addr} {sl22 : Array (Option Value)} {oc22 kV22 dc22 pm22 cd22 ct22 : Value} {f22 : Addr}
    {od23 an23 : Option Addr} {sl23 : Array (Option Value)} {oc23 kV23 dc23 pm23 cd23 ct23 : Value} {f23 : Addr}
    {od24 an24 : Option Addr} {sl24 : Array (Option Value)} {oc24 kV24 dc24 pm24 cd24 ct24 : Value} {f24 : Addr}
    {od25 an25 : Option Addr} {sl25 : Array (Option Value)} {oc25 kV25 dc25 pm25 cd25 ct25 : Value} {f25 : Addr}
    {od26 an26 : Option Addr} {sl26 : Array (Option Value)} {oc26 kV26 dc26 pm26 cd26 ct26 : Value} {f26 : Addr}
    {od27 an27 : Option Addr} {sl27 : Array (Option Value)} {oc27 kV27 dc27 pm27 cd27 ct27 : Value} {f27 : Addr}
    {od28 an28 : Option Addr} {sl28 : Array (Option Value)} {oc28 kV28 dc28 pm28 cd28 ct28 : Value} {f28 : Addr}
    {od29 an29 : Option Addr} {sl29 : Array (Option Value)} {oc29 kV29 dc29 pm29 cd29 ct29 : Value} {f29 : Addr}
    {od30 an30 : Option Addr} {sl30 : Array (Option Value)} {oc30 kV30 dc30 pm30 cd30 ct30 : Value} {f30 : Addr}
    {od31 an31 : Option Addr} {sl31 : Array (Option Value)} {oc31 kV31 dc31 pm31 cd31 ct31 : Value} {f31 : Addr}
    {od32 an32 : Option Addr} {sl32 : Array (Option Value)} {oc32 kV32 dc32 pm32 cd32 ct32 : Value} {f32 : Addr}
    {fI : Addr} {odI anI : Option Addr} {slI : Array (Option Value)} {ocI kVI dcI pmI cdI ctI : Value}
    {C_TurnError : Addr}
    {C_BadGround : Addr}
    {C_Rests : Addr}
    {C_Roots : Addr}
    {nm_BadGround q_BadGround : Str} {N_BadGround : Addr} {bs_BadGround : List Value} {sn_BadGround : List Str} {sb_BadGround : List Value} {ab_BadGround : Bool} {co_BadGround : Option Bool} {dd_BadGround : Option Addr} {m0_BadGround m1_BadGround m2_BadGround m3_BadGround m5_BadGround : Option Value}
    {t_MOST_PRIME : Tok}
    {t_MOST_ORDER : Tok}
    {od_Rests___init__ an_Rests___init__ : Option Addr} {sl_Rests___init__ : Array (Option Value)} {oc_Rests___init__ kV_Rests___init__ dc_Rests___init__ pm_Rests___init__ cd_Rests___init__ ct_Rests___init__ : Value} {f_Rests___init__ : Addr}
    {od_Rests_has_root an_Rests_has_root : Option Addr} {sl_Rests_has_root : Array (Option Value)} {oc_Rests_has_root kV_Rests_has_root dc_Rests_has_root pm_Rests_has_root cd_Rests_has_root ct_Rests_has_root : Value} {f_Rests_has_root : Addr}
    {od_Roots___init__ an_Roots___init__ : Option Addr} {sl_Roots___init__ : Array (Option Value)} {oc_Roots___init__ kV_Roots___init__ dc_Roots___init__ pm_Roots___init__ cd_Roots___init__ ct_Roots___init__ : Value} {f_Roots___init__ : Addr}
    {od_Roots_has_root an_Roots_has_root : Option Addr} {sl_Roots_has_root : Array (Option Value)} {oc_Roots_has_root kV_Roots_has_root dc_Roots_has_root pm_Roots_has_root cd_Roots_has_root ct_Roots_has_root : Value} {f_Roots_has_root : Addr}
    (g_TurnError : PySem.W.nsIn K mainGlobals "TurnError" = some (some (.ref C_TurnError)))
    (g_BadGround : PySem.W.nsIn K mainGlobals "BadGround" = some (some (.ref C_BadGround)))
    (g_Rests : PySem.W.nsIn K mainGlobals "Rests" = some (some (.ref C_Rests)))
    (g_Roots : PySem.W.nsIn K mainGlobals "Roots" = some (some (.ref C_Roots)))
    (on : PySem.W.specialIn K (.builtin "object.__class__") "__get__" = some (some (.builtin "getset_descriptor.__get__")))
    (ot : PySem.W.takesIn K (.builtin "object.__class__") = some true)
    (eT : PySem.W.subIn K (.ref C_TurnError) (.type "BaseException") = some true)
    (hT : PySem.W.hasDictIn K C_TurnError = true)
    (tT : PySem.W.typeIn K (.ref C_TurnError) = some (.type "type"))
    (xL_BadGround : K.lookup C_BadGround = some (excClassObj nm_BadGround q_BadGround C_BadGround N_BadGround bs_BadGround [.ref C_TurnError, .type "ValueError", .type "Exception", .type "BaseException", .type "object"] true sn_BadGround sb_BadGround ab_BadGround co_BadGround dd_BadGround m0_BadGround m1_BadGround m2_BadGround m3_BadGround m5_BadGround "ValueError.__new__"))
    (sa_BadGround : PySem.W.findIn K (.ref C_BadGround) "__setattr__" = some (some (.builtin "object.__setattr__")))
    (ga_BadGround : PySem.W.findIn K (.ref C_BadGround) "__getattribute__" = some (some (.builtin "BaseException.__getattribute__")))
    (gg_BadGround : PySem.W.findIn K (.ref C_BadGround) "__getattr__" = some none)
    (nw_BadGround : PySem.W.findIn K (.ref C_BadGround) "what" = some none)
    (ii_BadGround : PySem.W.findIn K (.ref C_BadGround) "__init__" = some (some (.ref fI)))
    (oc_BadGround : PySem.W.findIn K (.ref C_BadGround) "__class__" = some (some (.builtin "object.__class__")))
    (kC_BadGround : PySem.W.keepIn K (.ref C_BadGround) = true)
    (eC_BadGround : PySem.W.subIn K (.ref C_BadGround) (.type "BaseException") = some true)
    (tC_BadGround : PySem.W.typeIn K (.ref C_BadGround) = some (.type "type"))
    (hC_BadGround : PySem.W.hasDictIn K C_BadGround = true)
    (mo_BadGround : PySem.W.mroIn K C_BadGround (.type "object") = some true)
    (su_BadGround : PySem.W.subIn K (.ref C_BadGround) (.ref C_TurnError) = some true)
    (kv_BadGround : PySem.W.kitOne K (.ref C_BadGround) (.type "ValueError") = some true)
    (kt_BadGround : PySem.W.kitOne K (.ref C_BadGround) (.ref C_TurnError) = some true)
    (lI : K.lookup fI = some ⟨ocI, odI, .func (PySem.W.fnOf "__init__" "TurnError.__init__" (defArgs s_init) (defBody s_init) (defScope s_init) .none kVI dcI pmI anI cdI ctI), slI⟩)
    (cI : PySem.W.codeIn K cdI "TurnError.__init__" = true)
    (kI : PySem.W.keepIn K (.ref fI) = true)
    (tI : PySem.W.typeIn K (.ref fI) = some (.type "function"))
    (g_MOST_PRIME : PySem.W.nsIn K mainGlobals "MOST_PRIME" = some (some (.int 10000 t_MOST_PRIME)))
    (g_MOST_ORDER : PySem.W.nsIn K mainGlobals "MOST_ORDER" = some (some (.int 30 t_MOST_ORDER)))
    (pg_Rests : PySem.W.plainGet K C_Rests Str.empty = true)
    (hd_Rests : PySem.W.hasDictIn K C_Rests = true)
    (po_Rests : PySem.W.plainOver K C_Rests = true)
    (sa_Rests : PySem.W.findIn K (.ref C_Rests) "__setattr__" = some (some (.builtin "object.__setattr__")))
    (mk_Rests : PySem.W.makesIn K C_Rests = true)
    (kc_Rests : PySem.W.keepIn K (.ref C_Rests) = true)
    (nf_Rests_prime : PySem.W.findIn K (.ref C_Rests) "prime" = some none)
    (nf_Rests_base : PySem.W.findIn K (.ref C_Rests) "base" = some none)
    (at_Rests___init__ : PySem.W.findIn K (.ref C_Rests) "__init__" = some (some (.ref f_Rests___init__)))
    (lk_Rests___init__ : K.lookup f_Rests___init__ = some ⟨oc_Rests___init__, od_Rests___init__, .func (PySem.W.fnOf "__init__" "Rests.__init__" (defArgs s_Rests___init__) (defBody s_Rests___init__) (defScope s_Rests___init__) .none kV_Rests___init__ dc_Rests___init__ pm_Rests___init__ an_Rests___init__ cd_Rests___init__ ct_Rests___init__), sl_Rests___init__⟩)
    (cn_Rests___init__ : PySem.W.codeIn K cd_Rests___init__ "Rests.__init__" = true)
    (kp_Rests___init__ : PySem.W.keepIn K (.ref f_Rests___init__) = true)
    (fn_Rests___init__ : PySem.W.isFn K (.ref f_Rests___init__) = true)
    (at_Rests_has_root : PySem.W.findIn K (.ref C_Rests) "has_root" = some (some (.ref f_Rests_has_root)))
    (lk_Rests_has_root : K.lookup f_Rests_has_root = some ⟨oc_Rests_has_root, od_Rests_has_root, .func (PySem.W.fnOf "has_root" "Rests.has_root" (defArgs s_Rests_has_root) (defBody s_Rests_has_root) (defScope s_Rests_has_root) .none kV_Rests_has_root dc_Rests_has_root pm_Rests_has_root an_Rests_has_root cd_Rests_has_root ct_Rests_has_root), sl_Rests_has_root⟩)
    (cn_Rests_has_root : PySem.W.codeIn K cd_Rests_has_root "Rests.has_root" = true)
    (kp_Rests_has_root : PySem.W.keepIn K (.ref f_Rests_has_root) = true)
    (fn_Rests_has_root : PySem.W.isFn K (.ref f_Rests_has_root) = true)
    (pg_Roots : PySem.W.plainGet K C_Roots Str.empty = true)
    (hd_Roots : PySem.W.hasDictIn K C_Roots = true)
    (po_Roots : PySem.W.plainOver K C_Roots = true)
    (sa_Roots : PySem.W.findIn K (.ref C_Roots) "__setattr__" = some (some (.builtin "object.__setattr__")))
    (mk_Roots : PySem.W.makesIn K C_Roots = true)
    (kc_Roots : PySem.W.keepIn K (.ref C_Roots) = true)
    (nf_Roots_order : PySem.W.findIn K (.ref C_Roots) "order" = some none)
    (nf_Roots_rim : PySem.W.findIn K (.ref C_Roots) "rim" = some none)
    (at_Roots___init__ : PySem.W.findIn K (.ref C_Roots) "__init__" = some (some (.ref f_Roots___init__)))
    (lk_Roots___init__ : K.lookup f_Roots___init__ = some ⟨oc_Roots___init__, od_Roots___init__, .func (PySem.W.fnOf "__init__" "Roots.__init__" (defArgs s_Roots___init__) (defBody s_Roots___init__) (defScope s_Roots___init__) .none kV_Roots___init__ dc_Roots___init__ pm_Roots___init__ an_Roots___init__ cd_Roots___init__ ct_Roots___init__), sl_Roots___init__⟩)
    (cn_Roots___init__ : PySem.W.codeIn K cd_Roots___init__ "Roots.__init__" = true)
    (kp_Roots___init__ : PySem.W.keepIn K (.ref f_Roots___init__) = true)
    (fn_Roots___init__ : PySem.W.isFn K (.ref f_Roots___init__) = true)
    (at_Roots_has_root : PySem.W.findIn K (.ref C_Roots) "has_root" = some (some (.ref f_Roots_has_root)))
    (lk_Roots_has_root : K.lookup f_Roots_has_root = some ⟨oc_Roots_has_root, od_Roots_has_root, .func (PySem.W.fnOf "has_root" "Roots.has_root" (defArgs s_Roots_has_root) (defBody s_Roots_has_root) (defScope s_Roots_has_root) .none kV_Roots_has_root dc_Roots_has_root pm_Roots_has_root an_Roots_has_root cd_Roots_has_root ct_Roots_has_root), sl_Roots_has_root⟩)
    (cn_Roots_has_root : PySem.W.codeIn K cd_Roots_has_root "Roots.has_root" = true)
    (kp_Roots_has_root : PySem.W.keepIn K (.ref f_Roots_has_root) = true)
    (fn_Roots_has_root : PySem.W.isFn K (.ref f_Roots_has_root) = true)
    (a0 : PySem.W.nsIn K mainGlobals "is_whole" = some (some (.ref f0))) (l0 : K.lookup f0 = some ⟨oc0, od0, .func (PySem.W.fnOf "is_whole" "is_whole" (defArgs s_is_whole) (defBody s_is_whole) (defScope s_is_whole) .none kV0 dc0 pm0 an0 cd0 ct0), sl0⟩) (c0 : PySem.W.codeIn K cd0 "is_whole" = true) (k0 : PySem.W.keepIn K (.ref f0) = true)
    (a1 : PySem.W.nsIn K mainGlobals "is_prime" = some (some (.ref f1))) (l1 : K.lookup f1 = some ⟨oc1, od1, .func (PySem.W.fnOf "is_prime" "is_prime" (defArgs s_is_prime) (defBody s_is_prime) (defScope s_is_prime) .none kV1 dc1 pm1 an1 cd1 ct1), sl1⟩) (c1 : PySem.W.codeIn K cd1 "is_prime" = true) (k1 : PySem.W.keepIn K (.ref f1) = true)
    (a2 : PySem.W.nsIn K mainGlobals "factors" = some (some (.ref f2))) (l2 : K.lookup f2 = some ⟨oc2, od2, .func (PySem.W.fnOf "factors" "factors" (defArgs s_factors) (defBody s_factors) (defScope s_factors) .none kV2 dc2 pm2 an2 cd2 ct2), sl2⟩) (c2 : PySem.W.codeIn K cd2 "factors" = true) (k2 : PySem.W.keepIn K (.ref f2) = true)
    (a3 : PySem.W.nsIn K mainGlobals "divisors" = some (some (.ref f3))) (l3 : K.lookup f3 = some ⟨oc3, od3, .func (PySem.W.fnOf "divisors" "divisors" (defArgs s_divisors) (defBody s_divisors) (defScope s_divisors) .none kV3 dc3 pm3 an3 cd3 ct3), sl3⟩) (c3 : PySem.W.codeIn K cd3 "divisors" = true) (k3 : PySem.W.keepIn K (.ref f3) = true)
    (a4 : PySem.W.nsIn K mainGlobals "power_rest" = some (some (.ref f4))) (l4 : K.lookup f4 = some ⟨oc4, od4, .func (PySem.W.fnOf "power_rest" "power_rest" (defArgs s_power_rest) (defBody s_power_rest) (defScope s_power_rest) .none kV4 dc4 pm4 an4 cd4 ct4), sl4⟩) (c4 : PySem.W.codeIn K cd4 "power_rest" = true) (k4 : PySem.W.keepIn K (.ref f4) = true)
    (a5 : PySem.W.nsIn K mainGlobals "generator" = some (some (.ref f5))) (l5 : K.lookup f5 = some ⟨oc5, od5, .func (PySem.W.fnOf "generator" "generator" (defArgs s_generator) (defBody s_generator) (defScope s_generator) .none kV5 dc5 pm5 an5 cd5 ct5), sl5⟩) (c5 : PySem.W.codeIn K cd5 "generator" = true) (k5 : PySem.W.keepIn K (.ref f5) = true)
    (a6 : PySem.W.nsIn K mainGlobals "plan_length" = some (some (.ref f6))) (l6 : K.lookup f6 = some ⟨oc6, od6, .func (PySem.W.fnOf "plan_length" "plan_length" (defArgs s_plan_length) (defBody s_plan_length) (defScope s_plan_length) .none kV6 dc6 pm6 an6 cd6 ct6), sl6⟩) (c6 : PySem.W.codeIn K cd6 "plan_length" = true) (k6 : PySem.W.keepIn K (.ref f6) = true)
    (a7 : PySem.W.nsIn K mainGlobals "inner_plans" = some (some (.ref f7))) (l7 : K.lookup f7 = some ⟨oc7, od7, .func (PySem.W.fnOf "inner_plans" "inner_plans" (defArgs s_inner_plans) (defBody s_inner_plans) (defScope s_inner_plans) .none kV7 dc7 pm7 an7 cd7 ct7), sl7⟩) (c7 : PySem.W.codeIn K cd7 "inner_plans" = true) (k7 : PySem.W.keepIn K (.ref f7) = true)
    (a8 : PySem.W.nsIn K mainGlobals "lengths_in" = some (some (.ref f8))) (l8 : K.lookup f8 = some ⟨oc8, od8, .func (PySem.W.fnOf "lengths_in" "lengths_in" (defArgs s_lengths_in) (defBody s_lengths_in) (defScope s_lengths_in) .none kV8 dc8 pm8 an8 cd8 ct8), sl8⟩) (c8 : PySem.W.codeIn K cd8 "lengths_in" = true) (k8 : PySem.W.keepIn K (.ref f8) = true)
    (a9 : PySem.W.nsIn K mainGlobals "plan_lengths" = some (some (.ref f9))) (l9 : K.lookup f9 = some ⟨oc9, od9, .func (PySem.W.fnOf "plan_lengths" "plan_lengths" (defArgs s_plan_lengths) (defBody s_plan_lengths) (defScope s_plan_lengths) .none kV9 dc9 pm9 an9 cd9 ct9), sl9⟩) (c9 : PySem.W.codeIn K cd9 "plan_lengths" = true) (k9 : PySem.W.keepIn K (.ref f9) = true)
    (a10 : PySem.W.nsIn K mainGlobals "plan_fits" = some (some (.ref f10))) (l10 : K.lookup f10 = some ⟨oc10, od10, .func (PySem.W.fnOf "plan_fits" "plan_fits" (defArgs s_plan_fits) (defBody s_plan_fits) (defScope s_plan_fits) .none kV10 dc10 pm10 an10 cd10 ct10), sl10⟩) (c10 : PySem.W.codeIn K cd10 "plan_fits" = true) (k10 : PySem.W.keepIn K (.ref f10) = true)
    (a11 : PySem.W.nsIn K mainGlobals "divided" = some (some (.ref f11))) (l11 : K.lookup f11 = some ⟨oc11, od11, .func (PySem.W.fnOf "divided" "divided" (defArgs s_divided) (defBody s_divided) (defScope s_divided) .none kV11 dc11 pm11 an11 cd11 ct11), sl11⟩) (c11 : PySem.W.codeIn K cd11 "divided" = true) (k11 : PySem.W.keepIn K (.ref f11) = true)
    (a12 : PySem.W.nsIn K mainGlobals "wheel" = some (some (.ref f12))) (l12 : K.lookup f12 = some ⟨oc12, od12, .func (PySem.W.fnOf "wheel" "wheel" (defArgs s_wheel) (defBody s_wheel) (defScope s_wheel) .none kV12 dc12 pm12 an12 cd12 ct12), sl12⟩) (c12 : PySem.W.codeIn K cd12 "wheel" = true) (k12 : PySem.W.keepIn K (.ref f12) = true)
    (a13 : PySem.W.nsIn K mainGlobals "_law_box" = some (some (.ref f13))) (l13 : K.lookup f13 = some ⟨oc13, od13, .func (PySem.W.fnOf "_law_box" "_law_box" (defArgs s__law_box) (defBody s__law_box) (defScope s__law_box) .none kV13 dc13 pm13 an13 cd13 ct13), sl13⟩) (c13 : PySem.W.codeIn K cd13 "_law_box" = true) (k13 : PySem.W.keepIn K (.ref f13) = true)
    (a14 : PySem.W.nsIn K mainGlobals "_law_take" = some (some (.ref f14))) (l14 : K.lookup f14 = some ⟨oc14, od14, .func (PySem.W.fnOf "_law_take" "_law_take" (defArgs s__law_take) (defBody s__law_take) (defScope s__law_take) .none kV14 dc14 pm14 an14 cd14 ct14), sl14⟩) (c14 : PySem.W.codeIn K cd14 "_law_take" = true) (k14 : PySem.W.keepIn K (.ref f14) = true)
    (a15 : PySem.W.nsIn K mainGlobals "_law_pick" = some (some (.ref f15))) (l15 : K.lookup f15 = some ⟨oc15, od15, .func (PySem.W.fnOf "_law_pick" "_law_pick" (defArgs s__law_pick) (defBody s__law_pick) (defScope s__law_pick) .none kV15 dc15 pm15 an15 cd15 ct15), sl15⟩) (c15 : PySem.W.codeIn K cd15 "_law_pick" = true) (k15 : PySem.W.keepIn K (.ref f15) = true)
    (a16 : PySem.W.nsIn K mainGlobals "_law_same" = some (some (.ref f16))) (l16 : K.lookup f16 = some ⟨oc16, od16, .func (PySem.W.fnOf "_law_same" "_law_same" (defArgs s__law_same) (defBody s__law_same) (defScope s__law_same) .none kV16 dc16 pm16 an16 cd16 ct16), sl16⟩) (c16 : PySem.W.codeIn K cd16 "_law_same" = true) (k16 : PySem.W.keepIn K (.ref f16) = true)
    (a17 : PySem.W.nsIn K mainGlobals "_law_shares" = some (some (.ref f17))) (l17 : K.lookup f17 = some ⟨oc17, od17, .func (PySem.W.fnOf "_law_shares" "_law_shares" (defArgs s__law_shares) (defBody s__law_shares) (defScope s__law_shares) .none kV17 dc17 pm17 an17 cd17 ct17), sl17⟩) (c17 : PySem.W.codeIn K cd17 "_law_shares" = true) (k17 : PySem.W.keepIn K (.ref f17) = true)
    (a18 : PySem.W.nsIn K mainGlobals "_law_is_plain_prime" = some (some (.ref f18))) (l18 : K.lookup f18 = some ⟨oc18, od18, .func (PySem.W.fnOf "_law_is_plain_prime" "_law_is_plain_prime" (defArgs s__law_is_plain_prime) (defBody s__law_is_plain_prime) (defScope s__law_is_plain_prime) .none kV18 dc18 pm18 an18 cd18 ct18), sl18⟩) (c18 : PySem.W.codeIn K cd18 "_law_is_plain_prime" = true) (k18 : PySem.W.keepIn K (.ref f18) = true)
    (a19 : PySem.W.nsIn K mainGlobals "_law_raised" = some (some (.ref f19))) (l19 : K.lookup f19 = some ⟨oc19, od19, .func (PySem.W.fnOf "_law_raised" "_law_raised" (defArgs s__law_raised) (defBody s__law_raised) (defScope s__law_raised) .none kV19 dc19 pm19 an19 cd19 ct19), sl19⟩) (c19 : PySem.W.codeIn K cd19 "_law_raised" = true) (k19 : PySem.W.keepIn K (.ref f19) = true)
    (a20 : PySem.W.nsIn K mainGlobals "_law_least_generator" = some (some (.ref f20))) (l20 : K.lookup f20 = some ⟨oc20, od20, .func (PySem.W.fnOf "_law_least_generator" "_law_least_generator" (defArgs s__law_least_generator) (defBody s__law_least_generator) (defScope s__law_least_generator) .none kV20 dc20 pm20 an20 cd20 ct20), sl20⟩) (c20 : PySem.W.codeIn K cd20 "_law_least_generator" = true) (k20 : PySem.W.keepIn K (.ref f20) = true)
    (a21 : PySem.W.nsIn K mainGlobals "_law_divided" = some (some (.ref f21))) (l21 : K.lookup f21 = some ⟨oc21, od21, .func (PySem.W.fnOf "_law_divided" "_law_divided" (defArgs s__law_divided) (defBody s__law_divided) (defScope s__law_divided) .none kV21 dc21 pm21 an21 cd21 ct21), sl21⟩) (c21 : PySem.W.codeIn K cd21 "_law_divided" = true) (k21 : PySem.W.keepIn K (.ref f21) = true)
    (a22 : PySem.W.nsIn K mainGlobals "_law_own_wheel" = some (some (.ref f22))) (l22 : K.lookup f22 = some ⟨oc22, od22, .func (PySem.W.fnOf "_law_own_wheel" "_law_own_wheel" (defArgs s__law_own_wheel) (defBody s__law_own_wheel) (defScope s__law_own_wheel) .none kV22 dc22 pm22 an22 cd22 ct22), sl22⟩) (c22 : PySem.W.codeIn K cd22 "_law_own_wheel" = true) (k22 : PySem.W.keepIn K (.ref f22) = true)
    (a23 : PySem.W.nsIn K mainGlobals "_law_world" = some (some (.ref f23))) (l23 : K.lookup f23 = some ⟨oc23, od23, .func (PySem.W.fnOf "_law_world" "_law_world" (defArgs s__law_world) (defBody s__law_world) (defScope s__law_world) .none kV23 dc23 pm23 an23 cd23 ct23), sl23⟩) (c23 : PySem.W.codeIn K cd23 "_law_world" = true) (k23 : PySem.W.keepIn K (.ref f23) = true)
    (a24 : PySem.W.nsIn K mainGlobals "_law_made" = some (some (.ref f24))) (l24 : K.lookup f24 = some ⟨oc24, od24, .func (PySem.W.fnOf "_law_made" "_law_made" (defArgs s__law_made) (defBody s__law_made) (defScope s__law_made) .none kV24 dc24 pm24 an24 cd24 ct24), sl24⟩) (c24 : PySem.W.codeIn K cd24 "_law_made" = true) (k24 : PySem.W.keepIn K (.ref f24) = true)
    (a25 : PySem.W.nsIn K mainGlobals "_law_has" = some (some (.ref f25))) (l25 : K.lookup f25 = some ⟨oc25, od25, .func (PySem.W.fnOf "_law_has" "_law_has" (defArgs s__law_has) (defBody s__law_has) (defScope s__law_has) .none kV25 dc25 pm25 an25 cd25 ct25), sl25⟩) (c25 : PySem.W.codeIn K cd25 "_law_has" = true) (k25 : PySem.W.keepIn K (.ref f25) = true)
    (a26 : PySem.W.nsIn K mainGlobals "_law_lengths" = some (some (.ref f26))) (l26 : K.lookup f26 = some ⟨oc26, od26, .func (PySem.W.fnOf "_law_lengths" "_law_lengths" (defArgs s__law_lengths) (defBody s__law_lengths) (defScope s__law_lengths) .none kV26 dc26 pm26 an26 cd26 ct26), sl26⟩) (c26 : PySem.W.codeIn K cd26 "_law_lengths" = true) (k26 : PySem.W.keepIn K (.ref f26) = true)
    (a27 : PySem.W.nsIn K mainGlobals "_law_plan_of" = some (some (.ref f27))) (l27 : K.lookup f27 = some ⟨oc27, od27, .func (PySem.W.fnOf "_law_plan_of" "_law_plan_of" (defArgs s__law_plan_of) (defBody s__law_plan_of) (defScope s__law_plan_of) .none kV27 dc27 pm27 an27 cd27 ct27), sl27⟩) (c27 : PySem.W.codeIn K cd27 "_law_plan_of" = true) (k27 : PySem.W.keepIn K (.ref f27) = true)
    (a28 : PySem.W.nsIn K mainGlobals "_law_length_of" = some (some (.ref f28))) (l28 : K.lookup f28 = some ⟨oc28, od28, .func (PySem.W.fnOf "_law_length_of" "_law_length_of" (defArgs s__law_length_of) (defBody s__law_length_of) (defScope s__law_length_of) .none kV28 dc28 pm28 an28 cd28 ct28), sl28⟩) (c28 : PySem.W.codeIn K cd28 "_law_length_of" = true) (k28 : PySem.W.keepIn K (.ref f28) = true)
    (a29 : PySem.W.nsIn K mainGlobals "_law_any_plan" = some (some (.ref f29))) (l29 : K.lookup f29 = some ⟨oc29, od29, .func (PySem.W.fnOf "_law_any_plan" "_law_any_plan" (defArgs s__law_any_plan) (defBody s__law_any_plan) (defScope s__law_any_plan) .none kV29 dc29 pm29 an29 cd29 ct29), sl29⟩) (c29 : PySem.W.codeIn K cd29 "_law_any_plan" = true) (k29 : PySem.W.keepIn K (.ref f29) = true)
    (a30 : PySem.W.nsIn K mainGlobals "_law_lengths_in" = some (some (.ref f30))) (l30 : K.lookup f30 = some ⟨oc30, od30, .func (PySem.W.fnOf "_law_lengths_in" "_law_lengths_in" (defArgs s__law_lengths_in) (defBody s__law_lengths_in) (defScope s__law_lengths_in) .none kV30 dc30 pm30 an30 cd30 ct30), sl30⟩) (c30 : PySem.W.codeIn K cd30 "_law_lengths_in" = true) (k30 : PySem.W.keepIn K (.ref f30) = true)
    (a31 : PySem.W.nsIn K mainGlobals "_law_fits" = some (some (.ref f31))) (l31 : K.lookup f31 = some ⟨oc31, od31, .func (PySem.W.fnOf "_law_fits" "_law_fits" (defArgs s__law_fits) (defBody s__law_fits) (defScope s__law_fits) .none kV31 dc31 pm31 an31 cd31 ct31), sl31⟩) (c31 : PySem.W.codeIn K cd31 "_law_fits" = true) (k31 : PySem.W.keepIn K (.ref f31) = true)
    (a32 : PySem.W.nsIn K mainGlobals "law" = some (some (.ref f32))) (l32 : K.lookup f32 = some ⟨oc32, od32, .func (PySem.W.fnOf "law" "law" (defArgs s_law) (defBody s_law) (defScope s_law) .none kV32 dc32 pm32 an32 cd32 ct32), sl32⟩) (c32 : PySem.W.codeIn K cd32 "law" = true) (k32 : PySem.W.keepIn K (.ref f32) = true)
    (z0 : PySem.W.nsIn K mainGlobals "ValueError" = some none) (z1 : PySem.W.nsIn K mainGlobals "abs" = some none) (z2 : PySem.W.nsIn K mainGlobals "all" = some none) (z3 : PySem.W.nsIn K mainGlobals "any" = some none) (z4 : PySem.W.nsIn K mainGlobals "bool" = some none) (z5 : PySem.W.nsIn K mainGlobals "enumerate" = some none) (z6 : PySem.W.nsIn K mainGlobals "int" = some none) (z7 : PySem.W.nsIn K mainGlobals "isinstance" = some none) (z8 : PySem.W.nsIn K mainGlobals "len" = some none) (z9 : PySem.W.nsIn K mainGlobals "list" = some none) (z10 : PySem.W.nsIn K mainGlobals "min" = some none) (z11 : PySem.W.nsIn K mainGlobals "range" = some none) (z12 : PySem.W.nsIn K mainGlobals "set" = some none) (z13 : PySem.W.nsIn K mainGlobals "sorted" = some none) (z14 : PySem.W.nsIn K mainGlobals "str" = some none) (z15 : PySem.W.nsIn K mainGlobals "tuple" = some none) (z16 : PySem.W.nsIn K mainGlobals "zip" = some none) :
    ∃ fd : FuncData, (∀ (s : Shared) (v : Value), BindsTo s fd ⟨[v], []⟩ [("_law_script", v)]) ∧ ∀ base : Heap, K.In base → base.Ns mainGlobals mg → FnOk l.prog w K mg base CX0 10 fa fd ["_law_script"] (spLaw K) := by
  have e := hfa.symm.trans (PySem.W.mg_of X G a32)
  cases e
  have T : Blt mg := ⟨PySem.W.mg_none_of X G z0, PySem.W.mg_none_of X G z1, PySem.W.mg_none_of X G z2, PySem.W.mg_none_of X G z3, PySem.W.mg_none_of X G z4, PySem.W.mg_none_of X G z5, PySem.W.mg_none_of X G z6, PySem.W.mg_none_of X G z7, PySem.W.mg_none_of X G z8, PySem.W.mg_none_of X G z9, PySem.W.mg_none_of X G z10, PySem.W.mg_none_of X G z11, PySem.W.mg_none_of X G z12, PySem.W.mg_none_of X G z13, PySem.W.mg_none_of X G z14, PySem.W.mg_none_of X G z15, PySem.W.mg_none_of X G z16⟩
  have F0 := fun_mk (st := s_is_whole) l0 c0 k0
  have b0 := F0.binds (ps := P_is_whole) fun _ _ _ _ _ _ us hl => match us, hl with | [_], _ => rfl
  have F1 := fun_mk (st := s_is_prime) l1 c1 k1
  have b1 := F1.binds (ps := P_is_prime) fun _ _ _ _ _ _ us hl => match us, hl with | [_], _ => rfl
  have F2 := fun_mk (st := s_factors) l2 c2 k2
  have b2 := F2.binds (ps := P_factors) fun _ _ _ _ _ _ us hl => match us, hl with | [_], _ => rfl
  have F3 := fun_mk (st := s_divisors) l3 c3 k3
  have b3 := F3.binds (ps := P_divisors) fun _ _ _ _ _ _ us hl => match us, hl with | [_], _ => rfl
  have F4 := fun_mk (st := s_power_rest) l4 c4 k4
  have b4 := F4.binds (ps := P_power_rest) fun _ _ _ _ _ _ us hl => match us, hl with | [_, _, _], _ => rfl
  have F5 := fun_mk (st := s_generator) l5 c5 k5
  have b5 := F5.binds (ps := P_generator) fun _ _ _ _ _ _ us hl => match us, hl with | [_], _ => rfl
  have F6 := fun_mk (st := s_plan_length) l6 c6 k6
  have b6 := F6.binds (ps := P_plan_length) fun _ _ _ _ _ _ us hl => match us, hl with | [_], _ => rfl
  have F7 := fun_mk (st := s_inner_plans) l7 c7 k7
  have b7 := F7.binds (ps := P_inner_plans) fun _ _ _ _ _ _ us hl => match us, hl with | [_], _ => rfl
  have F8 := fun_mk (st := s_lengths_in) l8 c8 k8
  have b8 := F8.binds (ps := P_lengths_in) fun _ _ _ _ _ _ us hl => match us, hl with | [_], _ => rfl
  have F9 := fun_mk (st := s_plan_lengths) l9 c9 k9
  have b9 := F9.binds (ps := P_plan_lengths) fun _ _ _ _ _ _ us hl => match us, hl with | [_], _ => rfl
  have F10 := fun_mk (st := s_plan_fits) l10 c10 k10
  have b10 := F10.binds (ps := P_plan_fits) fun _ _ _ _ _ _ us hl => match us, hl with | [_, _], _ => rfl
  have F11 := fun_mk (st := s_divided) l11 c11 k11
  have b11 := F11.binds (ps := P_divided) fun _ _ _ _ _ _ us hl => match us, hl with | [_, _], _ => rfl
  have F12 := fun_mk (st := s_wheel) l12 c12 k12
  have b12 := F12.binds (ps := P_wheel) fun _ _ _ _ _ _ us hl => match us, hl with | [_], _ => rfl
  have F13 := fun_mk (st := s__law_box) l13 c13 k13
  have b13 := F13.binds (ps := P__law_box) fun _ _ _ _ _ _ us hl => match us, hl with | [_, _], _ => rfl
  have F14 := fun_mk (st := s__law_take) l14 c14 k14
  have b14 := F14.binds (ps := P__law_take) fun _ _ _ _ _ _ us hl => match us, hl with | [_, _], _ => rfl
  have F15 := fun_mk (st := s__law_pick) l15 c15 k15
  have b15 := F15.binds (ps := P__law_pick) fun _ _ _ _ _ _ us hl => match us, hl with | [_, _], _ => rfl
  have F16 := fun_mk (st := s__law_same) l16 c16 k16
  have b16 := F16.binds (ps := P__law_same) fun _ _ _ _ _ _ us hl => match us, hl with | [_, _], _ => rfl
  have F17 := fun_mk (st := s__law_shares) l17 c17 k17
  have b17 := F17.binds (ps := P__law_shares) fun _ _ _ _ _ _ us hl => match us, hl with | [_, _], _ => rfl
  have F18 := fun_mk (st := s__law_is_plain_prime) l18 c18 k18
  have b18 := F18.binds (ps := P__law_is_plain_prime) fun _ _ _ _ _ _ us hl => match us, hl with | [_], _ => rfl
  have F19 := fun_mk (st := s__law_raised) l19 c19 k19
  have b19 := F19.binds (ps := P__law_raised) fun _ _ _ _ _ _ us hl => match us, hl with | [_, _, _], _ => rfl
  have F20 := fun_mk (st := s__law_least_generator) l20 c20 k20
  have b20 := F20.binds (ps := P__law_least_generator) fun _ _ _ _ _ _ us hl => match us, hl with | [_], _ => rfl
  have F21 := fun_mk (st := s__law_divided) l21 c21 k21
  have b21 := F21.binds (ps := P__law_divided) fun _ _ _ _ _ _ us hl => match us, hl with | [_, _], _ => rfl
  have F22 := fun_mk (st := s__law_own_wheel) l22 c22 k22
  have b22 := F22.binds (ps := P__law_own_wheel) fun _ _ _ _ _ _ us hl => match us, hl with | [_], _ => rfl
  have F23 := fun_mk (st := s__law_world) l23 c23 k23
  have b23 := F23.binds (ps := P__law_world) fun _ _ _ _ _ _ us hl => match us, hl with | [_], _ => rfl
  have F24 := fun_mk (st := s__law_made) l24 c24 k24
  have b24 := F24.binds (ps := P__law_made) fun _ _ _ _ _ _ us hl => match us, hl with | [_], _ => rfl
  have F25 := fun_mk (st := s__law_has) l25 c25 k25
  have b25 := F25.binds (ps := P__law_has) fun _ _ _ _ _ _ us hl => match us, hl with | [_, _], _ => rfl
  have F26 := fun_mk (st := s__law_lengths) l26 c26 k26
  have b26 := F26.binds (ps := P__law_lengths) fun _ _ _ _ _ _ us hl => match us, hl with | [_, _], _ => rfl
  have F27 := fun_mk (st := s__law_plan_of) l27 c27 k27
  have b27 := F27.binds (ps := P__law_plan_of) fun _ _ _ _ _ _ us hl => match us, hl with | [_, _, _, _, _], _ => rfl
  have F28 := fun_mk (st := s__law_length_of) l28 c28 k28
  have b28 := F28.binds (ps := P__law_length_of) fun _ _ _ _ _ _ us hl => match us, hl with | [_], _ => rfl
  have F29 := fun_mk (st := s__law_any_plan) l29 c29 k29
  have b29 := F29.binds (ps := P__law_any_plan) fun _ _ _ _ _ _ us hl => match us, hl with | [_, _, _], _ => rfl
  have F30 := fun_mk (st := s__law_lengths_in) l30 c30 k30
  have b30 := F30.binds (ps := P__law_lengths_in) fun _ _ _ _ _ _ us hl => match us, hl with | [_], _ => rfl
  have F31 := fun_mk (st := s__law_fits) l31 c31 k31
  have b31 := F31.binds (ps := P__law_fits) fun _ _ _ _ _ _ us hl => match us, hl with | [_, _], _ => rfl
  have F32 := fun_mk (st := s_law) l32 c32 k32
  have F_I := fun_mk (st := s_init) lI cI kI
  have b_I := F_I.binds (ps := N_init) fun _ _ _ _ _ _ us hl => match us, hl with | [_, _], _ => rfl
  have EK_BadGround : ExK K C_BadGround := ⟨⟨⟨nm_BadGround, q_BadGround, N_BadGround, bs_BadGround, _, sn_BadGround, sb_BadGround, ab_BadGround, co_BadGround, dd_BadGround, m0_BadGround, m1_BadGround, m2_BadGround, m3_BadGround, m5_BadGround, xL_BadGround, rfl⟩, sa_BadGround, eC_BadGround, tC_BadGround, kC_BadGround⟩, ⟨ga_BadGround, gg_BadGround, eC_BadGround, hC_BadGround⟩, ⟨ga_BadGround, gg_BadGround, eC_BadGround, hC_BadGround, oc_BadGround, on, ot, mo_BadGround⟩, nw_BadGround⟩
  have R_BadGround : Ref K C_TurnError C_BadGround fI := ⟨EK_BadGround, ii_BadGround, PySem.W.exm_ref eT hT tT su_BadGround, kv_BadGround, kt_BadGround⟩
  have M_MOST_PRIME := PySem.W.mg_of X G g_MOST_PRIME
  have M_MOST_ORDER := PySem.W.mg_of X G g_MOST_ORDER
  have CL_Rests : L2.Cls K C_Rests := ⟨pg_Rests, hd_Rests, po_Rests, sa_Rests⟩
  have F_Rests___init__ := fun_mk (st := s_Rests___init__) lk_Rests___init__ cn_Rests___init__ kp_Rests___init__
  have B_Rests___init__ := F_Rests___init__.binds (ps := P_Rests___init__) fun _ _ _ _ _ _ us hl => match us, hl with | [_, _], _ => rfl
  have MK_Rests : Mk K C_Rests f_Rests___init__ := ⟨mk_Rests, at_Rests___init__, fn_Rests___init__, kc_Rests⟩
  have F_Rests_has_root := fun_mk (st := s_Rests_has_root) lk_Rests_has_root cn_Rests_has_root kp_Rests_has_root
  have B_Rests_has_root := F_Rests_has_root.binds (ps := P_Rests_has_root) fun _ _ _ _ _ _ us hl => match us, hl with | [_, _], _ => rfl
  have ME_Rests_has_root : Meth K C_Rests "has_root" f_Rests_has_root := ⟨at_Rests_has_root, fn_Rests_has_root, kp_Rests_has_root⟩
  have CL_Roots : L2.Cls K C_Roots := ⟨pg_Roots, hd_Roots, po_Roots, sa_Roots⟩
  have F_Roots___init__ := fun_mk (st := s_Roots___init__) lk_Roots___init__ cn_Roots___init__ kp_Roots___init__
  have B_Roots___init__ := F_Roots___init__.binds (ps := P_Roots___init__) fun _ _ _ _ _ _ us hl => match us, hl with | [_, _], _ => rfl
  have MK_Roots : Mk K C_Roots f_Roots___init__ := ⟨mk_Roots, at_Roots___init__, fn_Roots___init__, kc_Roots⟩
  have F_Roots_has_root := fun_mk (st := s_Roots_has_root) lk_Roots_has_root cn_Roots_has_root kp_Roots_has_root
  have B_Roots_has_root := F_Roots_has_root.binds (ps := P_Roots_has_root) fun _ _ _ _ _ _ us hl => match us, hl with | [_, _], _ => rfl
  have ME_Roots_has_root : Meth K C_Roots "has_root" f_Roots_has_root := ⟨at_Roots_has_root, fn_Roots_has_root, kp_Roots_has_root⟩
  have M_TurnError := PySem.W.mg_of X G g_TurnError
  have M_BadGround := PySem.W.mg_of X G g_BadGround
  have M_Rests := PySem.W.mg_of X G g_Rests
  have M_Roots := PySem.W.mg_of X G g_Roots
  refine ⟨_, fun s v => .of_eq rfl, fun base _ _ => ok_law (P := l.prog) (w := w) (base := base) F32 T ⟨⟨_, _, F0, b0, PySem.W.mg_of X G a0⟩, ⟨_, _, F1, b1, PySem.W.mg_of X G a1⟩, ⟨_, _, F2, b2, PySem.W.mg_of X G a2⟩, ⟨_, _, F3, b3, PySem.W.mg_of X G a3⟩, ⟨_, _, F4, b4, PySem.W.mg_of X G a4⟩, ⟨_, _, F5, b5, PySem.W.mg_of X G a5⟩, ⟨_, _, F6, b6, PySem.W.mg_of X G a6⟩, ⟨_, _, F7, b7, PySem.W.mg_of X G a7⟩, ⟨_, _, F8, b8, PySem.W.mg_of X G a8⟩, ⟨_, _, F9, b9, PySem.W.mg_of X G a9⟩, ⟨_, _, F10, b10, PySem.W.mg_of X G a10⟩, ⟨_, _, F11, b11, PySem.W.mg_of X G a11⟩, ⟨_, _, F12, b12, PySem.W.mg_of X G a12⟩, ⟨_, _, F13, b13, PySem.W.mg_of X G a13⟩, ⟨_, _, F14, b14, PySem.W.mg_of X G a14⟩, ⟨_, _, F15, b15, PySem.W.mg_of X G a15⟩, ⟨_, _, F16, b16, PySem.W.mg_of X G a16⟩, ⟨_, _, F17, b17, PySem.W.mg_of X G a17⟩, ⟨_, _, F18, b18, PySem.W.mg_of X G a18⟩, ⟨_, _, F19, b19, PySem.W.mg_of X G a19⟩, ⟨_, _, F20, b20, PySem.W.mg_of X G a20⟩, ⟨_, _, F21, b21, PySem.W.mg_of X G a21⟩, ⟨_, _, F22, b22, PySem.W.mg_of X G a22⟩, ⟨_, _, F23, b23, PySem.W.mg_of X G a23⟩, ⟨_, _, F24, b24, PySem.W.mg_of X G a24⟩, ⟨_, _, F25, b25, PySem.W.mg_of X G a25⟩, ⟨_, _, F26, b26, PySem.W.mg_of X G a26⟩, ⟨_, _, F27, b27, PySem.W.mg_of X G a27⟩, ⟨_, _, F28, b28, PySem.W.mg_of X G a28⟩, ⟨_, _, F29, b29, PySem.W.mg_of X G a29⟩, ⟨_, _, F30, b30, PySem.W.mg_of X G a30⟩, ⟨_, _, F31, b31, PySem.W.mg_of X G a31⟩⟩ ⟨F_I, b_I, tI, R_BadGround, M_BadGround, ⟨CL_Rests, nf_Rests_prime, nf_Rests_base⟩, ⟨CL_Roots, nf_Roots_order, nf_Roots_rim⟩, M_Rests, M_Roots, ⟨_, M_MOST_PRIME⟩, ⟨_, M_MOST_ORDER⟩, ⟨_, _, MK_Rests, F_Rests___init__, B_Rests___init__⟩, ⟨_, _, MK_Roots, F_Roots___init__, B_Roots___init__⟩, ⟨_, _, F_Rests_has_root, B_Rests_has_root, ME_Rests_has_root⟩, ⟨_, _, F_Roots_has_root, B_Roots_has_root, ME_Roots_has_root⟩⟩⟩
end My
open PySem PySem.W PyProof.Rows
set_option maxRecDepth 100000 in
set_option maxHeartbeats 0 in
theorem PySem.Challenge.cw_turnsums_k23_what_fits_a_ground_holds : PySem.Challenge.rw_turnsums_k23_what_fits_a_ground.Holds := by
  w_on; o_law; k_head; (case hw => w_witness2)
  k_fill
  refine L2.walk_of (l := PySem.Challenge.rw_turnsums_k23_what_fits_a_ground) (n := 63) (k := 10) (x := "_law_script") (CX := fun _ => L2.CX0) (sp := fun w => My.spLaw _) rfl (by decide) rfl ⟨rfl, by decide, by decide⟩ (fun w h Y => PySem.W.kIn_of Y) ?F (fun _ _ a ns hl _ hS => ⟨a, ns, rfl, hS, hl, fun _ => rfl⟩) (fun _ _ _ _ _ h => h)
  case F =>
    intro w mg fa h KX G hmg
    refine' My.all_mk KX G hmg ?g_TurnError ?g_BadGround ?g_Rests ?g_Roots ?on ?ot ?eT ?hT ?tT ?xL_BadGround ?sa_BadGround ?ga_BadGround ?gg_BadGround ?nw_BadGround ?ii_BadGround ?oc_BadGround ?kC_BadGround ?eC_BadGround ?tC_BadGround ?hC_BadGround ?mo_BadGround ?su_BadGround ?kv_BadGround ?kt_BadGround ?lI ?cI ?kI ?tI ?g_MOST_PRIME ?g_MOST_ORDER ?pg_Rests ?hd_Rests ?po_Rests ?sa_Rests ?mk_Rests ?kc_Rests ?nf_Rests_prime ?nf_Rests_base ?at_Rests___init__ ?lk_Rests___init__ ?cn_Rests___init__ ?kp_Rests___init__ ?fn_Rests___init__ ?at_Rests_has_root ?lk_Rests_has_root ?cn_Rests_has_root ?kp_Rests_has_root ?fn_Rests_has_root ?pg_Roots ?hd_Roots ?po_Roots ?sa_Roots ?mk_Roots ?kc_Roots ?nf_Roots_order ?nf_Roots_rim ?at_Roots___init__ ?lk_Roots___init__ ?cn_Roots___init__ ?kp_Roots___init__ ?fn_Roots___init__ ?at_Roots_has_root ?lk_Roots_has_root ?cn_Roots_has_root ?kp_Roots_has_root ?fn_Roots_has_root ?a0 ?l0 ?c0 ?k0 ?a1 ?l1 ?c1 ?k1 ?a2 ?l2 ?c2 ?k2 ?a3 ?l3 ?c3 ?k3 ?a4 ?l4 ?c4 ?k4 ?a5 ?l5 ?c5 ?k5 ?a6 ?l6 ?c6 ?k6 ?a7 ?l7 ?c7 ?k7 ?a8 ?l8 ?c8 ?k8 ?a9 ?l9 ?c9 ?k9 ?a10 ?l10 ?c10 ?k10 ?a11 ?l11 ?c11 ?k11 ?a12 ?l12 ?c12 ?k12 ?a13 ?l13 ?c13 ?k13 ?a14 ?l14 ?c14 ?k14 ?a15 ?l15 ?c15 ?k15 ?a16 ?l16 ?c16 ?k16 ?a17 ?l17 ?c17 ?k17 ?a18 ?l18 ?c18 ?k18 ?a19 ?l19 ?c19 ?k19 ?a20 ?l20 ?c20 ?k20 ?a21 ?l21 ?c21 ?k21 ?a22 ?l22 ?c22 ?k22 ?a23 ?l23 ?c23 ?k23 ?a24 ?l24 ?c24 ?k24 ?a25 ?l25 ?c25 ?k25 ?a26 ?l26 ?c26 ?k26 ?a27 ?l27 ?c27 ?k27 ?a28 ?l28 ?c28 ?k28 ?a29 ?l29 ?c29 ?k29 ?a30 ?l30 ?c30 ?k30 ?a31 ?l31 ?c31 ?k31 ?a32 ?l32 ?c32 ?k32 ?z0 ?z1 ?z2 ?z3 ?z4 ?z5 ?z6 ?z7 ?z8 ?z9 ?z10 ?z11 ?z12 ?z13 ?z14 ?z15 ?z16
    (case g_TurnError => first | k_is | rfl)
    (case g_BadGround => first | k_is | rfl)
    (case g_Rests => first | k_is | rfl)
    (case g_Roots => first | k_is | rfl)
    (case on => first | k_is | rfl)
    (case ot => first | k_is | rfl)
    (case eT => first | k_is | rfl)
    (case hT => first | k_is | rfl)
    (case tT => first | k_is | rfl)
    (case xL_BadGround => first | k_is | rfl)
    (case sa_BadGround => first | k_is | rfl)
    (case ga_BadGround => first | k_is | rfl)
    (case gg_BadGround => first | k_is | rfl)
    (case nw_BadGround => first | k_is | rfl)
    (case ii_BadGround => first | k_is | rfl)
    (case oc_BadGround => first | k_is | rfl)
    (case kC_BadGround => first | k_is | rfl)
    (case eC_BadGround => first | k_is | rfl)
    (case tC_BadGround => first | k_is | rfl)
    (case hC_BadGround => first | k_is | rfl)
    (case mo_BadGround => first | k_is | rfl)
    (case su_BadGround => first | k_is | rfl)
    (case kv_BadGround => first | k_is | rfl)
    (case kt_BadGround => first | k_is | rfl)
    (case lI => first | k_is | rfl)
    (case cI => first | k_is | rfl)
    (case kI => first | k_is | rfl)
    (case tI => first | k_is | rfl)
    (case g_MOST_PRIME => first | k_is | rfl)
    (case g_MOST_ORDER => first | k_is | rfl)
    (case pg_Rests => first | k_is | rfl)
    (case hd_Rests => first | k_is | rfl)
    (case po_Rests => first | k_is | rfl)
    (case sa_Rests => first | k_is | rfl)
    (case mk_Rests => first | k_is | rfl)
    (case kc_Rests => first | k_is | rfl)
    (case nf_Rests_prime => first | k_is | rfl)
    (case nf_Rests_base => first | k_is | rfl)
    (case at_Rests___init__ => first | k_is | rfl)
    (case lk_Rests___init__ => first | k_is | rfl)
    (case cn_Rests___init__ => first | k_is | rfl)
    (case kp_Rests___init__ => first | k_is | rfl)
    (case fn_Rests___init__ => first | k_is | rfl)
    (case at_Rests_has_root => first | k_is | rfl)
    (case lk_Rests_has_root => first | k_is | rfl)
    (case cn_Rests_has_root => first | k_is | rfl)
    (case kp_Rests_has_root => first | k_is | rfl)
    (case fn_Rests_has_root => first | k_is | rfl)
    (case pg_Roots => first | k_is | rfl)
    (case hd_Roots => first | k_is | rfl)
    (case po_Roots => first | k_is | rfl)
    (case sa_Roots => first | k_is | rfl)
    (case mk_Roots => first | k_is | rfl)
    (case kc_Roots => first | k_is | rfl)
    (case nf_Roots_order => first | k_is | rfl)
    (case nf_Roots_rim => first | k_is | rfl)
    (case at_Roots___init__ => first | k_is | rfl)
    (case lk_Roots___init__ => first | k_is | rfl)
    (case cn_Roots___init__ => first | k_is | rfl)
    (case kp_Roots___init__ => first | k_is | rfl)
    (case fn_Roots___init__ => first | k_is | rfl)
    (case at_Roots_has_root => first | k_is | rfl)
    (case lk_Roots_has_root => first | k_is | rfl)
    (case cn_Roots_has_root => first | k_is | rfl)
    (case kp_Roots_has_root => first | k_is | rfl)
    (case fn_Roots_has_root => first | k_is | rfl)
    (case a0 => k_is)
    (case l0 => k_is)
    (case c0 => k_is)
    (case k0 => k_is)
    (case a1 => k_is)
    (case l1 => k_is)
    (case c1 => k_is)
    (case k1 => k_is)
    (case a2 => k_is)
    (case l2 => k_is)
    (case c2 => k_is)
    (case k2 => k_is)
    (case a3 => k_is)
    (case l3 => k_is)
    (case c3 => k_is)
    (case k3 => k_is)
    (case a4 => k_is)
    (case l4 => k_is)
    (case c4 => k_is)
    (case k4 => k_is)
    (case a5 => k_is)
    (case l5 => k_is)
    (case c5 => k_is)
    (case k5 => k_is)
    (case a6 => k_is)
    (case l6 => k_is)
    (case c6 => k_is)
    (case k6 => k_is)
    (case a7 => k_is)
    (case l7 => k_is)
    (case c7 => k_is)
    (case k7 => k_is)
    (case a8 => k_is)
    (case l8 => k_is)
    (case c8 => k_is)
    (case k8 => k_is)
    (case a9 => k_is)
    (case l9 => k_is)
    (case c9 => k_is)
    (case k9 => k_is)
    (case a10 => k_is)
    (case l10 => k_is)
    (case c10 => k_is)
    (case k10 => k_is)
    (case a11 => k_is)
    (case l11 => k_is)
    (case c11 => k_is)
    (case k11 => k_is)
    (case a12 => k_is)
    (case l12 => k_is)
    (case c12 => k_is)
    (case k12 => k_is)
    (case a13 => k_is)
    (case l13 => k_is)
    (case c13 => k_is)
    (case k13 => k_is)
    (case a14 => k_is)
    (case l14 => k_is)
    (case c14 => k_is)
    (case k14 => k_is)
    (case a15 => k_is)
    (case l15 => k_is)
    (case c15 => k_is)
    (case k15 => k_is)
    (case a16 => k_is)
    (case l16 => k_is)
    (case c16 => k_is)
    (case k16 => k_is)
    (case a17 => k_is)
    (case l17 => k_is)
    (case c17 => k_is)
    (case k17 => k_is)
    (case a18 => k_is)
    (case l18 => k_is)
    (case c18 => k_is)
    (case k18 => k_is)
    (case a19 => k_is)
    (case l19 => k_is)
    (case c19 => k_is)
    (case k19 => k_is)
    (case a20 => k_is)
    (case l20 => k_is)
    (case c20 => k_is)
    (case k20 => k_is)
    (case a21 => k_is)
    (case l21 => k_is)
    (case c21 => k_is)
    (case k21 => k_is)
    (case a22 => k_is)
    (case l22 => k_is)
    (case c22 => k_is)
    (case k22 => k_is)
    (case a23 => k_is)
    (case l23 => k_is)
    (case c23 => k_is)
    (case k23 => k_is)
    (case a24 => k_is)
    (case l24 => k_is)
    (case c24 => k_is)
    (case k24 => k_is)
    (case a25 => k_is)
    (case l25 => k_is)
    (case c25 => k_is)
    (case k25 => k_is)
    (case a26 => k_is)
    (case l26 => k_is)
    (case c26 => k_is)
    (case k26 => k_is)
    (case a27 => k_is)
    (case l27 => k_is)
    (case c27 => k_is)
    (case k27 => k_is)
    (case a28 => k_is)
    (case l28 => k_is)
    (case c28 => k_is)
    (case k28 => k_is)
    (case a29 => k_is)
    (case l29 => k_is)
    (case c29 => k_is)
    (case k29 => k_is)
    (case a30 => k_is)
    (case l30 => k_is)
    (case c30 => k_is)
    (case k30 => k_is)
    (case a31 => k_is)
    (case l31 => k_is)
    (case c31 => k_is)
    (case k31 => k_is)
    (case a32 => k_is)
    (case l32 => k_is)
    (case c32 => k_is)
    (case k32 => k_is)
    (case z0 => k_is)
    (case z1 => k_is)
    (case z2 => k_is)
    (case z3 => k_is)
    (case z4 => k_is)
    (case z5 => k_is)
    (case z6 => k_is)
    (case z7 => k_is)
    (case z8 => k_is)
    (case z9 => k_is)
    (case z10 => k_is)
    (case z11 => k_is)
    (case z12 => k_is)
    (case z13 => k_is)
    (case z14 => k_is)
    (case z15 => k_is)
    (case z16 => k_is)

