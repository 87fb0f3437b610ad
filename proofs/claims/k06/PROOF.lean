import PyProof.Rows.All
import Wide.All
import OpenK.AllK
import Wide.FinOn
import PyProof.EqAt
import PyProof.EqKinds
import PyProof.TupleCall
import PyProof.TypeEq
import PyProof.Draws
import KE.GoesEnum
import HandS.ForMost
import HandS.ForExc
import HandS.More
import HandS.Strs
import HandS.IsInst
import HandS.Style
import HandS.Flow
import HandS.Sort
import HandS.SortOrd
import HandS.SortRule
import HandS.SortInts
import HandS.Walk
import HandS.Evl
import HandS.ExcIs
import HandS.TupAny
import HandS.FStr
import HandS.RaiseMore
import KE.KDictDisplayH
import KE.KMathGC
import PyProof.DictRoadsH
import PyProof.Rows.TupTab
import HandS.TupLen
import HandS.Conv
import HandS.Gcd
import HandS.CallSlots
import HandS.ExcCtx
import HandS.SuiteRaise
import HandS.RaiseFrom
import PySem.Challenge.RW_slidefloor_k06_fewest_by_all
set_option Elab.async false
set_option linter.all false
set_option maxRecDepth 100000
/-! rules that the layer lacks: ==, != of built-in types; t.index(n) of a tuple of ints; sorted of a tuple of ints; enumerate over a tuple -/
namespace Sf
open PySem PySem.Spec PyProof.Rows L2

theorem slot_type_ne : Slot "type" (cmpInfo .NotEq).2.1 "object.__ne__" :=
  .of (owner := "object") (n := "__ne__") (by rw [typeLookup_type, builtinLookup_eq_fast]; kernel_rfl) (by decide +kernel) (by decide +kernel) (by decide +kernel)
    (by first | exact .inl (by decide +kernel) | exact .inr (by decide +kernel)) (by rw [isSubtype_type]; kernel_rfl)
theorem slot_type_ne_refl : Slot "type" (cmpInfo .NotEq).2.2 "object.__ne__" :=
  .of (owner := "object") (n := "__ne__") (by rw [typeLookup_type, builtinLookup_eq_fast]; kernel_rfl) (by decide +kernel) (by decide +kernel) (by decide +kernel)
    (by first | exact .inl (by decide +kernel) | exact .inr (by decide +kernel)) (by rw [isSubtype_type]; kernel_rfl)
theorem slot_type_eq' : Slot "type" "__eq__" "object.__eq__" := PySem.TypeEq.slot_type_eq
section
variable {prog : Program} {w : World} {A : Around} {E : Value → Shared → Prop} {s : Shared}
/-- object.__ne__ of two types -/
theorem obj_ne_ty {X Y : String} (hX : ∀ s' : Shared, s'.TypeIs (.type X) "type") {Q : Fin → Shared → Prop}
    (h : Q (.done (.ret (if X = Y then .bool false else .notImplemented))) s) :
    wpAny (model prog w) A (Builtin.«object.__ne__» ⟨[.type X, .type Y], []⟩) Q E s := by
  unfold Builtin.«object.__ne__»
  refine wpAny_bind (m := slotArgs "__ne__" 1 _) (wpAny_pure ?_)
  refine wpAny_bind (wpAny_cRoomFor_or (.inl rfl) ?_)
  by_cases e : X = Y
  · subst e
    rw [if_pos rfl] at h
    refine wpAny_bind (m := callSpecialIfBound? (.type X) (Str.ofString "__eq__") [.type X])
      (wpAny_callSpecialIfBound?_slot (hX s) slot_type_eq' (call_gives slot_type_eq' (hX s) F.entry_object_eq (F.args_object_eq_2 _ _) (PySem.TypeEq.object_eq_same rfl (by simp)) ?_))
    show wpAny _ _ _ _ _ _
    refine wpAny_bind (m := truthy (.bool true)) (wpAny_truthy_bool ?_)
    exact wpAny_pure h
  · rw [if_neg e] at h
    have hne : (Value.type X == Value.type Y) = false := beq_eq_false_iff_ne.mpr fun z => e (Value.type.inj z)
    refine wpAny_bind (m := callSpecialIfBound? (.type X) (Str.ofString "__eq__") [.type Y])
      (wpAny_callSpecialIfBound?_slot (hX s) slot_type_eq' (call_gives slot_type_eq' (hX s) F.entry_object_eq (F.args_object_eq_2 _ _) (PySem.TypeEq.object_eq_other rfl hne) ?_))
    show wpAny _ _ _ _ _ _
    exact wpAny_pure h
end
end Sf
namespace Sf
open PySem PySem.Spec PyProof.Rows L2
theorem gives_ne_same {X : String} (hX : ∀ s' : Shared, s'.TypeIs (.type X) "type") : Gives (Builtin.«object.__ne__» ⟨[.type X, .type X], []⟩) (.val (.bool false)) := fun prog w A R s hq =>
  obj_ne_ty (X := X) (Y := X) hX (by rw [if_pos rfl]; exact hq)
theorem gives_ne_other {X Y : String} (hX : ∀ s' : Shared, s'.TypeIs (.type X) "type") (e : X ≠ Y) : Gives (Builtin.«object.__ne__» ⟨[.type X, .type Y], []⟩) (.val .notImplemented) := fun prog w A R s hq =>
  obj_ne_ty (X := X) (Y := Y) hX (by rw [if_neg e]; exact hq)
section
variable {M : Model} {A : Around} {E : Value → Shared → Prop} {s : Shared}
theorem richCompare_ne_same_decline {a b : Value} {T id : String} {k : Bool} {Q : Value → Shared → Prop} (ha : ∀ s' : Shared, s'.TypeIs a T) (hb : ∀ s' : Shared, s'.TypeIs b T)
    (h1 : Slot T (cmpInfo .NotEq).2.1 id) (h2 : Slot T (cmpInfo .NotEq).2.2 id) (hv : [a, b].any Value.onHeap = false) (hk : isSame a b = pure k)
    (hc : wpAny M A (call (.builtin id) [a, b]) (fun v s₁ => v = .notImplemented ∧ wpAny M A (call (.builtin id) [b, a]) (fun v s₂ => v = .notImplemented ∧ Q (.bool (!k)) s₂) E s₁) E s) :
    wpAny M A (richCompare .NotEq a b) Q E s := by
  rcases hi : cmpInfo CmpOp.NotEq with ⟨sym, f, r⟩
  rw [hi] at h1 h2
  simp only [richCompare, hi, (ha s).oneThing_none]
  try with_reducible refine wpAny_holding ?_
  refine wpAny_bind (wpAny_cRoomFor_or (.inl hv) ?_)
  refine wpAny_bind (wpAny_typeOf (ha s) (wpAny_bind (wpAny_typeOf (hb s) ?_)))
  simp only [bne_self_eq_false, Bool.false_eq_true, if_false, pure_bind, Bool.not_false, if_true]
  refine wpAny_bind (m := tryCompare a _ b) (wpAny_tryCompare_declines (ha s) h1 (wpAny_mono hc (fun v s₁ h₁ => ⟨h₁.1, ?_⟩) fun _ _ x => x))
  refine wpAny_bind (m := tryCompare b _ a) (wpAny_tryCompare_declines (hb s₁) h2 (wpAny_mono h₁.2 (fun v s₂ h₂ => ⟨h₂.1, ?_⟩) fun _ _ x => x))
  refine wpAny_bind (wpAny_rule (wpAny_bind (wpAny_of_eq hk (wpAny_pure h₂.2))))
end
section
variable {prog : Program} {w : World} {A : Around} {E : Value → Shared → Prop} {s : Shared} {Q : Value → Shared → Prop}
theorem ne_type_same {X : String} (hX : ∀ s' : Shared, s'.TypeIs (.type X) "type") (h : Q (.bool false) s) : wpAny (model prog w) A (compareOp .NotEq (.type X) (.type X)) Q E s := by
  show wpAny _ A (richCompare .NotEq _ _) Q E s
  exact wpAny_richCompare_same (T := "type") (hX s) (hX s) slot_type_ne
    (call_gives slot_type_ne (hX s) F.cmpEntry_ne (F.cmpArgs_ne _ _) (gives_ne_same hX) ⟨(by intro e; cases e), h⟩)
theorem ne_type_other {X Y : String} (hX : ∀ s' : Shared, s'.TypeIs (.type X) "type") (hY : ∀ s' : Shared, s'.TypeIs (.type Y) "type") (hne : X ≠ Y) (h : Q (.bool true) s) : wpAny (model prog w) A (compareOp .NotEq (.type X) (.type Y)) Q E s := by
  show wpAny _ A (richCompare .NotEq _ _) Q E s
  have hb : (Value.type X == Value.type Y) = false := beq_eq_false_iff_ne.mpr fun z => hne (Value.type.inj z)
  exact richCompare_ne_same_decline (T := "type") (k := false) hX hY slot_type_ne slot_type_ne_refl rfl (by rw [isSame_plain rfl, hb])
    (call_gives slot_type_ne (hX s) F.cmpEntry_ne (F.cmpArgs_ne _ _) (gives_ne_other hX hne)
      ⟨rfl, call_gives slot_type_ne_refl (hY s) F.cmpEntry_ne (F.cmpArgs_ne _ _) (gives_ne_other hY (Ne.symm hne)) ⟨rfl, h⟩⟩)
end
/-- the built-in types whose own type is type -/
def TyTy (X : String) : Prop := ∀ s' : Shared, s'.TypeIs (.type X) "type"
theorem ty_int : TyTy "int" := PySem.TypeEq.meta_int
theorem ty_str : TyTy "str" := PySem.TypeEq.meta_str
theorem ty_bool : TyTy "bool" := PySem.TypeEq.meta_bool
theorem ty_none : TyTy "NoneType" := PySem.TypeEq.meta_NoneType
theorem ty_list : TyTy "list" := PySem.TypeEq.meta_list
theorem ty_tuple : TyTy "tuple" := PySem.TypeEq.meta_tuple
theorem ty_dict : TyTy "dict" := PySem.TypeEq.meta_dict
theorem ty_bytes : TyTy "bytes" := PySem.TypeEq.meta_bytes
theorem TyB.tyty {K : PySem.W.Frag} {H : Hp} {x : V} {T : String} (t : TyB K H x T) : TyTy T := by
  cases t with
  | non => exact ty_none
  | bl => exact ty_bool
  | int => exact ty_int
  | str => exact ty_str
  | byt => exact ty_bytes
  | lst => exact ty_list
  | tup => exact ty_tuple
  | dK => exact ty_dict
def rEqTy : R2 := fun x y H Q => ∃ a b, x = .ty a ∧ y = .ty b ∧ TyTy a ∧ TyTy b ∧ Q (.bl (decide (a = b))) H
def rNeTy : R2 := fun x y H Q => ∃ a b, x = .ty a ∧ y = .ty b ∧ TyTy a ∧ TyTy b ∧ Q (.bl (!decide (a = b))) H
section
variable {X : Cx}
theorem op_eqTy : OpR X (compareOp .Eq) rEqTy := by
  intro pins s σ H x y v u Q I rx ry h
  obtain ⟨a, b, rfl, rfl, ha, hb, q⟩ := h
  cases (show v = Value.type a from rx)
  cases (show u = Value.type b from ry)
  by_cases e : a = b
  · subst e
    exact PySem.TypeEq.eq_type_same ha (fin_bl I q (by simp))
  · exact PySem.TypeEq.eq_type_other ha hb (beq_eq_false_iff_ne.mpr fun z => e (Value.type.inj z)) (fin_bl I q (by simp [e]))
theorem op_neTy : OpR X (compareOp .NotEq) rNeTy := by
  intro pins s σ H x y v u Q I rx ry h
  obtain ⟨a, b, rfl, rfl, ha, hb, q⟩ := h
  cases (show v = Value.type a from rx)
  cases (show u = Value.type b from ry)
  by_cases e : a = b
  · subst e
    exact ne_type_same ha (fin_bl I q (by simp))
  · exact ne_type_other ha hb e (fin_bl I q (by simp [e]))
end
end Sf
namespace Sf
open PySem PyProof.Rows Srt SrtO
section
variable {prog : Program} {w : World} {A : Around} {E : Value → Shared → Prop} {s : Shared}
theorem collect_tup {l : Addr} {vs : List Value} {Q : List Value → Shared → Prop} (hl : IsTup s.heap l vs.toArray)
    (h : Q vs { s with heap := (s.heap.push (seqObj "list" #[] 0)).update s.heap.objs.size (Obj.mapSeq (· ++ vs.toArray)) }) (hsz : vs.length ≤ sizeLine) :
    wpAny (model prog w) A (collect (.ref l)) Q E s := by
  obtain ⟨o, ho, hc, n, hd⟩ := id hl
  unfold collect
  refine wpAny_bind (wpAny_runValue (codeAny_builtin entry_proto_collect' ?_))
  show wpAny _ _ (do again (.builtin "list.__iadd__" ⟨[← newList [], .ref l], []⟩)) _ _ s
  refine wpAny_bind (wpAny_newList (wpAny_pure ⟨Code.quiet_builtin _ (by decide +kernel), codeAny_builtin entry_list_iadd' ?_⟩))
  show wpAny _ _ (Builtin.List.listExtendWith (.ref s.heap.objs.size) (.ref l) (.ref s.heap.objs.size)) _ _ { s with heap := s.heap.push (seqObj "list" #[] 0) }
  unfold Builtin.List.listExtendWith
  have ho' : (s.heap.push (seqObj "list" #[] 0)).get? l = some o := Heap.get?_push_of_some _ ho
  refine wpAny_bind (wpAny_typeOf (T := "tuple") ⟨o, ho', hc⟩ ?_)
  have ht : (Value.type "tuple" == Value.type "tuple") = true := by rfl
  rw [if_pos (by rw [ht]; simp)]
  refine wpAny_bind (listItems_at ho' hd ?_)
  refine wpAny_bind (listItems_at (xs := #[]) (n := 0) (Heap.get?_push_size _ rfl) rfl ?_)
  rw [if_neg (by simp)]
  refine wpAny_bind (listUpdate_at (xs := #[]) (n := 0) (Heap.get?_push_size _ rfl) rfl ?_ (Nat.zero_le _) (by show (#[] ++ vs.toArray).size ≤ sizeLine + 1; simp only [Array.size_append, List.size_toArray, List.length_nil]; omega))
  refine wpAny_pure ?_
  show wpAny (model prog w) A (do
      let o ← load s.heap.objs.size
      match o.data with
      | .seq xs _ => pure xs.toList
      | _ => unsupported "internal:collect") Q E { s with heap := (s.heap.push (seqObj "list" #[] 0)).update s.heap.objs.size (Obj.mapSeq (· ++ vs.toArray)) }
  refine wpAny_bind (wpAny_load (get?_update_seq (Heap.get?_push_size _ rfl) _) ?_)
  show wpAny _ _ (pure ((#[] : Array Value) ++ vs.toArray).toList) Q E _
  rw [show ((#[] : Array Value) ++ vs.toArray).toList = vs by simp]
  exact wpAny_pure h
theorem sorted_ordT {l : Addr} {vs : List Value} {ltv : Value → Value → Bool} {Q : Value → Shared → Prop} (O : Swo ltv) (hl : IsTup s.heap l vs.toArray) (hz : vs.length ≤ sizeLine)
    (hS : 2 ≤ vs.length → ∀ (h₁ : Heap) (a : Addr), h₁.get? a = some (seqObj "list" vs.toArray 0) → (∀ b o, s.heap.get? b = some o → b ≠ a ∧ h₁.get? b = some o) → SortableO prog w A.in1.in1 { s with heap := h₁ } a vs ltv)
    (h : ∀ out : List Value, Srtd ltv out → Stb ltv out vs → Q (.ref (s.heap.objs.size + 1)) { s with heap := sortedAll s.heap vs out.toArray }) :
    wpAny (model prog w) A (call (.builtin "sorted") [.ref l]) Q E s := by
  refine Calls.call_function_entry kind_sorted plain_sorted entry_sorted (args_sorted1 _) ?_
  unfold Builtin.«sorted»
  refine wpAny_bind (m := checkCount "sorted" 1 1 _) (wpAny_pure ?_)
  refine wpAny_bind (collect_tup hl ?_ hz)
  refine wpAny_bind (wpAny_newList ?_ hz)
  have hsz : ((s.heap.push (seqObj "list" #[] 0)).update s.heap.objs.size (Obj.mapSeq (· ++ vs.toArray))).objs.size = s.heap.objs.size + 1 := by
    rw [Heap.size_update, size_push']
  have hoL : (((s.heap.push (seqObj "list" #[] 0)).update s.heap.objs.size (Obj.mapSeq (· ++ vs.toArray))).push (seqObj "list" vs.toArray 0)).get? (s.heap.objs.size + 1) = some (seqObj "list" vs.toArray 0) := by
    rw [← hsz]; exact Heap.get?_push_size _ rfl
  have keep : ∀ b o, s.heap.get? b = some o → b ≠ s.heap.objs.size + 1 ∧ (((s.heap.push (seqObj "list" #[] 0)).update s.heap.objs.size (Obj.mapSeq (· ++ vs.toArray))).push (seqObj "list" vs.toArray 0)).get? b = some o := fun b o q => by
    have hlt : b < s.heap.objs.size := Heap.lt_size q
    refine ⟨Nat.ne_of_lt (Nat.lt_succ_of_lt hlt), Heap.get?_push_of_some _ ?_⟩
    rw [Heap.get?_update_ne _ _ _ _ (Nat.ne_of_lt hlt)]
    exact Heap.get?_push_of_some _ q
  show wpAny _ _ _ _ _ { s with heap := ((s.heap.push (seqObj "list" #[] 0)).update s.heap.objs.size (Obj.mapSeq (· ++ vs.toArray))).push (seqObj "list" vs.toArray 0) }
  rw [hsz]
  refine wpAny_bind (wpAny_holding (wpAny_call_entry slot_list_sort ⟨_, hoL, rfl⟩ entry_list_sort (list_sort_ord O hoL hz (fun h2 => hS h2 _ _ hoL keep) fun out hs hb => ⟨_, rfl, ?_⟩) (args_list_sort _)))
  exact wpAny_pure ⟨_, rfl, h out hs hb⟩
end
end Sf
namespace Sf
open PySem PySem.Spec PyProof.Rows L2
/-- sorted(t), t a tuple of ints -/
def rSortedTI (K : PySem.W.Frag) : List V → Hp → VK → Prop := fun vs H Q => ∃ (a : Addr) (ns : List Int), vs = [V.ref a] ∧ SqT K H a (ns.map V.int) ∧
  ∀ (ns' : List Int) (p : Addr), ns'.Perm ns → ns'.Pairwise (· ≤ ·) → H p = none → Q (.ref p) (upd H p (.lst (ns'.map V.int)))
section
variable {X : Cx}
theorem cr_sortedTI : CallR X (.builtin "sorted") (rSortedTI X.K) := by
  intro pins s σ H vs us Q I r h
  obtain ⟨a, ns, rfl, hs, q⟩ := h
  obtain ⟨its, rv, hl, hz⟩ := I.tuple hs
  rw [Vals.ref1 r]
  have hi := rv.ints
  refine sorted_ordT SrtO.swo_int hl (by rw [← rv.length]; exact hz) (fun h2 h₁ a' _ _ => SrtO.ints_sortable hi h2) fun out h1 h2 => ?_
  obtain ⟨k1, k2, k3⟩ := SrtO.ints_out hi h1 h2
  obtain ⟨ep, he'⟩ := PyProof.Rows.sortedAll_at s.heap its out.toArray
  have hlen : ((out.map SrtO.iv).map V.int).length ≤ sizeLine := by
    rw [List.length_map, k2.length_eq]
    rw [List.length_map] at hz
    exact hz
  exact ⟨.ref _, upd H (s.heap.objs.size + 1) (.lst ((out.map SrtO.iv).map V.int)), I.laid (t' := s.toks) (fun _ _ => PyProof.Rows.sortedAll_old) (Nat.le_succ _) ⟨hlen, out, ep, vals_of_ints k1, he'⟩, rfl, q _ _ k2 k3 (I.hok.fresh (Nat.le_succ _))⟩
end
/-- t.index(n), a tuple of ints, the first place -/
theorem flat_ints (ys : List Int) : (ys.map V.int).all flatV = true := by
  rw [List.all_map]
  exact List.all_eq_true.mpr fun _ _ => rfl
def rTupIx (K : PySem.W.Frag) : V → List V → Hp → VK → Prop := fun x xs H Q => ∃ (p : Addr) (ys : List Int) (z : Int) (j : Nat), x = .ref p ∧ xs = [.int z] ∧ SqT K H p (ys.map V.int) ∧ ys[j]? = some z ∧ (∀ m, m < j → ys[m]? ≠ some z) ∧ Q (.int (j : Nat)) H
section
variable {X : Cx}
theorem mt_tup_indexI : MtR X "tuple.index" (rTupIx X.K) := by
  intro pins s σ H x xs v us Q I rx rs h
  obtain ⟨p, ys, z, j, rfl, rfl, hq, hy, hno, q⟩ := h
  cases rx
  obtain ⟨u, rfl, t, rfl⟩ := vals1 rs
  obtain ⟨its, r, pl, hz⟩ := I.tuple hq
  obtain ⟨⟨cls, dd, dt, sl⟩, ho, hc, n, hd⟩ := pl
  simp only at hc hd
  subst hc
  subst hd
  have hl : its.toArray.size = ys.length := by rw [List.size_toArray, ← r.length, List.length_map]
  have hj : j < its.toArray.size := by rw [hl]; exact (List.getElem?_eq_some_iff.mp hy).1
  have at' : ∀ (m : Nat) (hm : m < its.toArray.size), ∃ y t', ys[m]? = some y ∧ its.toArray[m] = Value.int y t' := fun m hm => by
    have hm' : m < ys.length := by rw [← hl]; exact hm
    obtain ⟨w, hw, t', hw'⟩ := r.get (i := m) (x := .int ys[m]) (by simp [hm'])
    refine ⟨ys[m], t', List.getElem?_eq_getElem hm', ?_⟩
    have e := (List.getElem?_eq_some_iff.mp hw).2
    rw [← hw', ← e]
    simp
  refine call_meets PySem.F.slot_tuple_index ⟨_, ho, rfl⟩ PySem.F.entry_tuple_index (PySem.F.args_tuple_index_2 _ _) (TI.tuple_indexAt p its.toArray n dd sl (.int z t) (eqU (.int z)) j hj ?_ ?_)
    ⟨ho, fun w hw => mem_eqAt (x := .int z) ⟨t, rfl⟩ rfl r (flat_ints ys) w (by simpa using hw), ⟨.int (j : Nat), H, I.tok _, ⟨_, rfl⟩, q⟩⟩
  · obtain ⟨y, t', h1, h2⟩ := at' j hj
    rw [hy] at h1
    cases h1
    rw [h2]
    show (z == z) = true
    exact beq_self_eq_true z
  · intro m hm hmj
    obtain ⟨y, t', h1, h2⟩ := at' m hm
    have hne : y ≠ z := fun e => hno m hmj (by rw [h1, e])
    rw [h2]
    show (y == z) = false
    exact beq_eq_false_iff_ne.mpr hne
end
end Sf
set_option maxHeartbeats 1000000
namespace PySem
open Sem (wp)
theorem sf_meets_enumerate_newT (l : Addr) (items : Array Value) (n : Nat) (dct : Option Addr) (sl : Array (Option Value)) :
    Meets (Builtin.«enumerate.__new__» ⟨[.type "enumerate", .ref l], []⟩) (fun _ R s => s.heap.get? l = some { cls := .type "tuple", dict := dct, data := .seq items n, slots := sl } ∧
      R (.ok (.ret (.ref (s.heap.push { cls := .type "tuple_iterator", data := .fields #[.ref l, .int 0 0] }).objs.size)))
        { s with heap := (s.heap.push { cls := .type "tuple_iterator", data := .fields #[.ref l, .int 0 0] }).push { cls := .type "enumerate", data := .fields #[.none, .bool false, .ref s.heap.objs.size, rawInt 0, .none, .none] } }) :=
  .of_wp fun prog w A R s h => by
    obtain ⟨hp, g, d, tk, os⟩ := s; obtain ⟨hl, h⟩ := h
    have hsub := sub_enumerate
    have hL : Heap.IsTuple (Shared.heap ⟨hp, g, d, tk, os⟩) l items := ⟨_, hl, rfl, n, rfl⟩
    wp_walk using AutoSeq1.wpAny_loadPart' hl
    refine wpAny_stack_any fun st => wpAny_pure ?_
    split
    · rename_i c _ _ _ _ _
      cases (c == Value.type "enumerate")
      · wp_walk using AutoSeq1.wpAny_loadPart' hl, wpAny_pyIter_tuple hL
        exact ⟨_, rfl, h⟩
      · wp_walk using AutoSeq1.wpAny_loadPart' hl, wpAny_pyIter_tuple hL
        exact ⟨_, rfl, h⟩
    · wp_walk using AutoSeq1.wpAny_loadPart' hl, wpAny_pyIter_tuple hL
      exact ⟨_, rfl, h⟩
section
variable {prog : Program} {w : World} {A : Around} {E : Value → Shared → Prop} {s : Shared}
theorem sf_call_enumerate_tuple {l : Addr} {items : Array Value} {Q : Value → Shared → Prop} (hL : s.heap.IsTuple l items)
    (h : ∀ h', IsEnum h' (s.heap.objs.size + 1) s.heap.objs.size 0 .none → h'.IsTupleIter s.heap.objs.size l 0 → h'.objs.size = s.heap.objs.size + 2 →
      (∀ b o, s.heap.get? b = some o → h'.get? b = some o) → Q (.ref (s.heap.objs.size + 1)) { s with heap := h' }) :
    wpAny (model prog w) A (call (.type "enumerate") [.ref l]) Q E s := by
  obtain ⟨⟨c, dct, dt, sl⟩, hl, hc, n, hd⟩ := hL
  replace hc : c = .type "tuple" := hc
  replace hd : dt = .seq items n := hd
  subst hc hd
  refine callType_new F.called_enumerate (by decide) (F.typeCall_enumerate_1 _) (F.newCall_enumerate_1 _) (fun obj => F.args_object_init_2 obj _) F.entry_enumerate_new
    (sf_meets_enumerate_newT l items n dct sl) ⟨hl, ?_⟩
  have hz : (s.heap.push { cls := .type "tuple_iterator", data := .fields #[.ref l, .int 0 0] }).objs.size = s.heap.objs.size + 1 := Heap.size_push ..
  show _ ∧ _
  rw [hz]
  have he : IsEnum ((s.heap.push { cls := .type "tuple_iterator", data := .fields #[.ref l, .int 0 0] }).push
      { cls := .type "enumerate", data := .fields #[.none, .bool false, .ref s.heap.objs.size, rawInt 0, .none, .none] }) (s.heap.objs.size + 1) s.heap.objs.size 0 .none := by
    have := Heap.get?_push_size (s.heap.push { cls := .type "tuple_iterator", data := .fields #[.ref l, .int 0 0] })
      (o := { cls := .type "enumerate", data := .fields #[.none, .bool false, .ref s.heap.objs.size, rawInt 0, .none, .none] }) rfl
    rw [hz] at this; exact this
  refine ⟨⟨_, he, rfl⟩, h _ he ⟨_, Heap.get?_push_of_some _ (Heap.get?_push_size _ rfl), rfl, rfl⟩ (by rw [Heap.size_push, hz]) fun b o x => Heap.get?_push_of_some _ (Heap.get?_push_of_some _ x)⟩
end
end PySem
namespace Sf
open PySem PySem.Spec PyProof.Rows L2
/-- enumerate over a tuple -/
def IteT (K : PySem.W.Frag) (a : Addr) : It :=
  ⟨fun i H => ∃ (xs : List V) (x : V), SqT K H a xs ∧ xs[i]? = some x, fun i H v H' => ∃ T x, v = .ref T ∧ H T = none ∧ H' = upd H T (.tup [.int (i : Nat), x]) ∧ ∀ xs, SqT K H a xs → xs[i]? = some x, fun i H => ∃ xs : List V, SqT K H a xs ∧ xs.length = i⟩
theorem turn_enumT {P : Program} {w : World} {K : PySem.W.Frag} {elts : List Expr} {kk : Nat} {tpos : Pos} (a e it : Addr) (nei : e ≠ it) (nea : e ≠ a) (nai : a ≠ it) :
    Turn P w K (.Tuple elts kk tpos) (IteT K a) [e, it] e (fun i h => (∃ old, IsEnum h e it ((i : Nat) : Int) old) ∧ h.IsTupleIter it a i) where
  mem := by simp
  obj := fun i h st b hb => by
    obtain ⟨⟨old, he⟩, ⟨o, ho, hc, hd⟩⟩ := st
    have e' : b = e ∨ b = it := by simpa using hb
    rcases e' with z | z
    · rw [z]; exact ⟨_, he, fun v q => nomatch q⟩
    · rw [z]; exact ⟨o, ho, fun v q => by rw [hd] at q; cases q⟩
  keep := fun i h h' st k => let ⟨⟨old, he⟩, hi⟩ := st; ⟨⟨old, k e (by simp) _ he⟩, hi.at fun o q => k it (by simp) o q⟩
  item := by
    intro X hP hw hK hc i pins s σ H E I hf st hg
    subst hP hw hK
    obtain ⟨⟨old, he⟩, hit⟩ := st
    obtain ⟨xs, x, hq, hx⟩ := hg
    obtain ⟨its, rv, p, hz⟩ := I.tuple hq
    obtain ⟨u, hu, ru⟩ := rv.get hx
    have hel : e < s.heap.objs.size := Heap.lt_size he
    have hil : it < s.heap.objs.size := by obtain ⟨_, q, _⟩ := hit; exact Heap.lt_size q
    have hlt : i < its.toArray.size := by
      have := (List.getElem?_eq_some_iff.mp hu).1
      simpa using this
    have D := Draws.tuple (prog := X.prog) (w := X.w) (A := X.A.in1) (I.ok.hd hc) it a nai its.toArray
    refine wpAny_pyNext_enum_itemD (E := E) D he ⟨hit, (show s.heap.IsTuple a its.toArray from p)⟩ hlt nei (by simp; exact ⟨nei, nea⟩) fun u' h' tk hu' ho hst' hT hsz hk => ?_
    have eu : u' = u := by
      have hu2 : its.toArray[i]? = some u := by simpa using hu
      rw [hu2] at hu'
      exact (Option.some.inj hu').symm
    subst eu
    refine ⟨_, rfl, wpAny_letOwnedTupleGo_enum (s := { s with heap := h', toks := tk + 1 }) ho fun h'' he' sb => ?_⟩
    have hT2 : h''.get? s.heap.objs.size = some { cls := .type "tuple", data := .seq #[.int i tk, u'] } := (sb.2 _ (Nat.ne_of_gt hel)).trans hT
    have new : ObjOk X.prog X.w (upd H s.heap.objs.size (.tup [.int (i : Nat), x])) h'' s.heap.objs.size (.tup [.int (i : Nat), x]) :=
      ⟨by show 2 ≤ sizeLine; decide, [.int i tk, u'], .cons ⟨_, rfl⟩ (.cons ru .nil), ⟨_, hT2, rfl, _, rfl⟩⟩
    have I1 : Inv X pins σ (upd H s.heap.objs.size (.tup [.int (i : Nat), x])) { s with heap := h'', toks := tk + 1 } :=
      I.turnedNew (ch := [e, it]) (fun b ob hb q => (sb.2 b (fun z => hb (by simp [z]))).trans (hk b ob (fun z => hb (by simp [z])) (fun z => hb (by simp [z])) q)) hf (Nat.le_refl _) new
    refine ⟨.ref s.heap.objs.size, _, I1, rfl, ⟨_, x, rfl, I.hok.fresh (Nat.le_refl _), rfl, fun ys hy => by rw [I.tuple_inj hy hq]; exact hx⟩, ⟨⟨u', ?_⟩, hst'.1.at fun o q => (sb.2 it (Ne.symm nei)).trans q⟩, fun b hb => ?_⟩
    · have e1 : ((i + 1 : Nat) : Int) = (i : Int) + 1 := by omega
      rw [e1]; exact he'
    · have hb' : b < s.heap.objs.size := by
        have e' : b = e ∨ b = it := by simpa using hb
        rcases e' with z | z
        · rw [z]; exact hel
        · rw [z]; exact hil
      rw [upd_ne (Nat.ne_of_lt hb')]
      exact (hf b hb).1
  done := by
    intro X hP hw hK hc i pins s σ H E I hf st hg
    subst hP hw hK
    obtain ⟨⟨old, he⟩, hit⟩ := st
    obtain ⟨xs, hq, hx⟩ := hg
    obtain ⟨its, rv, p, hz⟩ := I.tuple hq
    obtain ⟨f0, f1, f2, f3, f4, f5⟩ := hf it (by simp)
    have hl := rv.length
    have D := Draws.tuple (prog := X.prog) (w := X.w) (A := X.A.in1) (I.ok.hd hc) it a nai its.toArray
    have hi : its.toArray.size = i := by simp; omega
    refine wpAny_pyNext_enum_endD (E := E) D he ⟨?_, (show s.heap.IsTuple a its.toArray from p)⟩ fun h' eb => ⟨rfl, I.turned (t' := s.toks) (fun b o hb q => eb b o hb q) f0 f1 f3 f4 f5⟩
    rw [hi]; exact hit
  self := fun A i s Q E st h => let ⟨⟨_, he⟩, _⟩ := st; wpAny_pyIter_enum he h
def iEnumT (K : PySem.W.Frag) (ta : TA) : TI := fun σ H R => ta σ H fun vs H1 => ∃ a xs, vs = [.ref a] ∧ SqT K H1 a xs ∧ R (IteT K a) H1
theorem pi_enumT {X : Cx} {e : Expr} {ta : TA} {p pos tpos : Pos} {elts : List Expr} {kk : Nat} (hg : Gl X "enumerate") (hm : X.mg "enumerate" = none) (ha : PA X [e] ta) (hs : starEach [e] X.env = [(false, eval e X.env)] := by rfl) :
    PI X (.Tuple elts kk tpos) (.Call (.Name "enumerate" p) [e] [] pos) (iEnumT X.K ta) := by
  refine ⟨fun pins s σ H R I h => ?_⟩
  refine Call_ (ld_blt I hg hm boot_enumerate (PyProof.Rows.callWith_type1 (thn (ha.run pos pins s σ H _ I h) fun us s1 ⟨vs, H1, I1, r1, q1⟩ => ?_) hs rfl))
  obtain ⟨a, xs, ex, hq, q⟩ := q1
  subst ex
  cases r1 with
  | cons r rr =>
    cases rr
    cases r
    obtain ⟨its, rv, p', hz⟩ := I1.tuple hq
    have hal : a < s1.heap.objs.size := p'.lt
    refine sf_call_enumerate_tuple (show s1.heap.IsTuple a its.toArray from p') fun h' he hit hsz hk => wpAny_pyIter_enum he ?_
    have I2 : Inv X pins σ H1 { s1 with heap := h' } := I1.kept (t' := s1.toks) hk
    refine ⟨s1.heap.objs.size + 1, [s1.heap.objs.size + 1, s1.heap.objs.size], _, _, H1, rfl, I2, turn_enumT a (s1.heap.objs.size + 1) s1.heap.objs.size (Nat.succ_ne_self _) (Nat.ne_of_gt (Nat.lt_succ_of_lt hal)) (Nat.ne_of_lt hal), ⟨⟨.none, he⟩, hit⟩, fun b hb => ?_, q⟩
    have e' : b = s1.heap.objs.size + 1 ∨ b = s1.heap.objs.size := by simpa using hb
    have hle : s1.heap.objs.size ≤ b := by
      rcases e' with z | z
      · rw [z]; exact Nat.le_add_right _ _
      · rw [z]; exact Nat.le_refl _
    exact I1.fpOk hle (I1.hok.fresh hle)
theorem walk_enumT {K : PySem.W.Frag} {a : Addr} {xs : List V} : Walk (IteT K a) xs.length (fun H => SqT K H a xs) (YPair (fun i => some (.int (i : Nat))) (fun i => xs[i]?)) := by
  refine ⟨fun i _ hi q => ⟨xs, xs[i], q, by simp [hi]⟩, fun _ q => ⟨xs, q, rfl⟩, fun i H v H' _ q y => ?_⟩
  obtain ⟨T, x, h1, h2, h3, h4⟩ := y
  exact ⟨T, .int (i : Nat), x, h1, h2, h3, rfl, h4 xs q⟩
end Sf
namespace Sf
open PySem PySem.Spec PyProof.Rows L2
/-- a tuple on which no dict hangs (so a method's name is looked up in its type alone) -/
def TD (H : Hp) (a : Addr) (xs : List V) : Prop := ∃ o : Obj, o.dict = none ∧ H a = some (.frz o (.tup xs))
theorem TD.sq {K : PySem.W.Frag} {H : Hp} {a : Addr} {xs : List V} (t : TD H a xs) : SqT K H a xs := let ⟨o, _, e⟩ := t; .inl (.inr ⟨o, e⟩)
theorem TD.same {H H' : Hp} {a : Addr} {xs : List V} (s : Same H H') (t : TD H a xs) : TD H' a xs := let ⟨o, d, e⟩ := t; ⟨o, d, s _ _ e⟩
/-- tuple(xs), xs a list: a new tuple of that kind -/
def rTupD (K : PySem.W.Frag) : List V → Hp → VK → Prop := fun xs H Q => ∃ (p : Addr) (ys : List V), xs = [.ref p] ∧ SqL K H p ys ∧ ∀ l H', H l = none → Same H H' → TD H' l ys → Q (.ref l) H'
def tMT (r : V → List V → Hp → VK → Prop) (to : TE) (t : TA) : TE := fun σ H Q => to σ H fun x H1 => (∃ a xs, x = .ref a ∧ TD H1 a xs) ∧ t σ H1 fun xs H2 => r x xs H2 Q
section
variable {X : Cx}
theorem cr_tupD : CallR X (.type "tuple") (rTupD X.K) := by
  intro pins s σ H xs us Q I r h
  obtain ⟨p, ys, rfl, hq, q⟩ := h
  obtain ⟨u, rfl, rx⟩ := vals1 r
  cases rx
  obtain ⟨its, r', pl, hz⟩ := I.list hq
  have hlen := r'.length
  refine call_tuple_list pl.isList (fun h' kp => ?_) (by simp only [List.size_toArray] <;> omega)
  have I1 : Inv X pins σ H { s with heap := h' } := I.kept (t' := s.toks) kp
  have hn : H h'.objs.size = none := I1.hok.fresh (Nat.le_refl _)
  have I2 : Inv X pins σ (upd H h'.objs.size (.frz { cls := .type "tuple", data := .seq its.toArray } (.tup ys))) { s with heap := h'.push { cls := .type "tuple", data := .seq its.toArray } } :=
    I1.laid (t' := s.toks) (fun b o e => Heap.get?_push_of_some _ e) (Nat.le_refl _)
      (show ObjOk X.prog X.w _ _ _ (.frz _ (.tup ys)) from ⟨Heap.get?_push_size _ rfl, hz, its, r', IsTup.new _ _⟩)
  exact ⟨.ref h'.objs.size, _, I2, rfl, q _ _ hn (fun b o e => by rw [upd_ne (ne_of_none e hn)]; exact e) ⟨_, rfl, upd_same⟩⟩
variable {o e : Expr} {es : List Expr} {to : TE} {t : TA} {name : Str} {apos cpos : Pos} {id : String} {r : V → List V → Hp → VK → Prop}
theorem pe_mT (slot : Slot "tuple" name id) (hty : typeOf (.builtin id) = pure (.type "method_descriptor")) (hm : MtR X id r) (ho : PE X o to) (ha : PA X (e :: es) t)
    (hbase : attributeBase o name X.env (eval o X.env) = eval o X.env := by rfl)
    (hfew : ((backTo cpos (starEach (e :: es) X.env)).all (fun x => !x.1) && (backToKw cpos (keywordEach [] X.env)).all (fun x => x.1.isSome)
      && decide ((e :: es).length + ([] : List Keyword).length + (if ([] : List Keyword).isEmpty then 0 else 1) < 30)) = true := by rfl)
    (hline : (apos.endLine == cpos.line) = true := by rfl) (hs : starEach (e :: es) X.env = (false, eval e X.env) :: starEach es X.env := by rfl) (hplain : (backTo cpos (starEach es X.env)).any (·.1) = false := by rfl) :
    PE X (.Call (.Attribute o name apos) (e :: es) [] cpos) (tMT r to t) := by
  refine ⟨fun pins s σ H Q I h => ?_⟩
  refine wpAny_Call_method_late hbase hfew hline rfl (thn (ho.run pins s σ H _ I h) fun v s1 ⟨x, H1, I1, r1, ty, q1⟩ => ?_)
  obtain ⟨a, xs, rfl, ob, hd, hH⟩ := ty
  cases r1
  obtain ⟨hg, _, its, _, o2, h2, h3, _⟩ := (show ObjOk X.prog X.w H1 s1.heap a (.frz ob (.tup xs)) from I1.hok a _ hH)
  refine ⟨"tuple", id, PySem.F.plainAttrs_tuple, slot, hty, ⟨o2, h2, h3⟩, fun b eb => ?_, ?_⟩
  · cases eb
    exact ⟨ob, hg, hd⟩
  · have hA := ha.run cpos pins s1 σ H1 _ I1 q1
    rw [hs] at hA ⊢
    refine Calls.callWith_builtin (by show (false || (backTo cpos (starEach es X.env)).any (·.1)) = false; rw [hplain] <;> rfl) (Calls.evalArgs_plain ?_)
    exact thn hA fun us s2 ⟨vs, H2, I2, r2, q2⟩ => hm pins s2 σ H2 (.ref a) vs (.ref a) us Q I2 rfl r2 q2
/-- t.index(n) -/
theorem pe_tix (ho : PE X o to) (ha : PA X [e] t)
    (hbase : attributeBase o "index" X.env (eval o X.env) = eval o X.env := by rfl)
    (hfew : ((backTo cpos (starEach (e :: []) X.env)).all (fun x => !x.1) && (backToKw cpos (keywordEach [] X.env)).all (fun x => x.1.isSome)
      && decide ((e :: ([] : List Expr)).length + ([] : List Keyword).length + (if ([] : List Keyword).isEmpty then 0 else 1) < 30)) = true := by rfl)
    (hline : (apos.endLine == cpos.line) = true := by rfl) (hs : starEach (e :: []) X.env = (false, eval e X.env) :: starEach [] X.env := by rfl) (hplain : (backTo cpos (starEach [] X.env)).any (·.1) = false := by rfl) :
    PE X (.Call (.Attribute o "index" apos) [e] [] cpos) (tMT (rTupIx X.K) to t) := pe_mT PySem.F.slot_tuple_index PySem.F.type_tuple_index mt_tup_indexI ho ha hbase hfew hline hs hplain
end
end Sf
set_option maxHeartbeats 2000000
namespace Sf
open PySem PySem.Spec PyProof.Rows L2
/-! ### an exception that a suite keeps under another name: behind the suite it is tracked, by its class -/
def ExK (D a : Addr) : HO := .ext fun h => ∃ oe : Obj, PySem.W.InstAt h a oe D none
theorem inst_keep {h h' : Heap} {a D : Addr} {oe : Obj} (q : PySem.W.InstAt h a oe D none) (k : ∀ o, h.get? a = some o → h'.get? a = some o) : PySem.W.InstAt h' a oe D none := by
  refine ⟨k _ q.at_, q.cls, q.no, ?_⟩
  have d := q.dict
  cases e : oe.dict with
  | none => trivial
  | some dx => rw [e] at d; exact d.elim
theorem exK_ok {P : Program} {w : World} {H : Hp} {h : Heap} {D a : Addr} {oe : Obj} (e : PySem.W.InstAt h a oe D none) : ObjOk P w H h a (ExK D a) :=
  ⟨⟨oe, e⟩, ⟨oe, e.at_⟩, fun _ _ ⟨o, q⟩ k => ⟨o, inst_keep q k⟩⟩
section
variable {X : Cx} {pins : List (Addr × Obj)} {σ : L2.St} {H : Hp} {s : Shared}
/-- an object that stands, that the entry did not know, is tracked from here on -/
theorem track {a : Addr} {oe : Obj} {o : HO} (I : Inv X pins σ H s) (ha : s.heap.get? a = some oe) (hd : ∀ v, oe.data ≠ .cell v) (n0 : X.s_0.heap.get? a = none) (na : H a = none) (nL : a ≠ X.env.locals) (nP : ∀ p ∈ X.pn ++ pins, p.1 ≠ a)
    (new : ObjOk X.prog X.w (upd H a o) s.heap a o) : Inv X pins σ (upd H a o) s := by
  have ne0 : ∀ b u, X.s_0.heap.get? b = some u → b ≠ a := fun b u e z => by
    rw [z, n0] at e
    cases e
  have ne1 : ∀ b u, H b = some u → b ≠ a := fun b u e => ne_of_none e na
  have nC : ∀ x c, X.env.cells.lookup x = some c → c ≠ a := fun x c e z => by
    obtain ⟨v, u, hu, hv⟩ := I.cell x c e
    rw [z, ha] at hu
    cases hu
    exact hd _ hv
  exact {
    ok := I.ok
    os := I.os
    bare := I.bare
    base := {
      keep := I.base.keep
      slot := I.base.slot
      free := fun b u e n hx => (upd_ne (ne0 b u e)).trans (I.base.free b u e n hx)
      there := I.base.there
      tups := fun b xs e => (upd_ne (ne1 b _ (I.base.tups b xs e))).trans (I.base.tups b xs e)
      frzs := fun b u v e => (upd_ne (ne1 b _ (I.base.frzs b u v e))).trans (I.base.frzs b u v e)
      tbls := fun b ps e => by
        obtain ⟨m, q⟩ := I.base.tbls b ps e
        exact ⟨m, (upd_ne (ne1 b _ q)).trans q⟩ }
    loc := I.loc
    cell := I.cell
    free := (upd_ne (Ne.symm nL)).trans I.free
    freeC := fun x c e => (upd_ne (nC x c e)).trans (I.freeC x c e)
    pin := fun p hp => by
      obtain ⟨e, n, r⟩ := I.pin p hp
      exact ⟨e, (upd_ne (nP p hp)).trans n, r⟩
    hok := fun b u e => by
      by_cases hb : b = a
      · subst hb
        rw [upd_same] at e
        cases e
        exact new
      · rw [upd_ne hb] at e
        exact (I.hok b u e).stay (fun _ _ _ q => q) (fun c q => (upd_ne (ne1 c _ q)).trans q) fun c xs q => (upd_ne (ne1 c _ q)).trans q
    len := I.len }
end
/-- what 'except x as n' wishes, where the exception is kept: behind the suite it is told by its class -/
def wKeep (K : PySem.W.Frag) (c : Value) (i : Nat) (ts : Addr → Value → Option Addr → TS) (Wout : WX) (D : Ends) : WX := fun cls d σ H =>
  ∃ b, PySem.W.exmOne K cls c = some b ∧ (b = true → ∃ C : Addr, cls = .ref C ∧ d = none ∧ ∀ a, H a = none →
      ts a cls d { nx := fun σ' H' => H' a = none → D.nx (σ'.set i none) (upd H' a (ExK C a)), rt := fun _ _ => False } (σ.set i (some (.ref a))) H) ∧
    (b = false → Wout cls d σ H)
section
variable {X : Cx} {x n : Str} {c : Value} {i : Nat} {body suite : List Stmt} {b₀ : Stmt} {np pos pos' : Pos} {tb : WX → TS} {ts : Addr → Value → Option Addr → TS} {Wout : WX}
theorem ps_try_keep (hs : X.stack = X.env :: X.outer) (hf : X.env.frame = some X.env.locals) (hex : X.ex = []) (hN : X.N.Nodup) (hi : X.N[i]? = some n) (hln : X.env.kindOf n = some .local) (hc : Names X x c) (tk : Takes X Wout)
    (hb : ∀ (W : WX) (pn : List (Addr × Obj)) (xe : Value → Shared → Prop), Takes (X.tr pn xe) W → PassesOwn (model X.prog X.w) X.A X.env xe → PSs (X.tr pn xe) body (tb W))
    (hsu : ∀ (a : Addr) (oe : Obj) (cls : Value) (d : Option Addr) (pn : List (Addr × Obj)), Zc cls d oe → (∃ vs, oe.data = .fields vs) → PSs (X.suite a ((a, oe) :: pn)) (b₀ :: suite) (ts a cls d)) :
    PS X (.Try body [.ExceptHandler (some (.Name x np)) (some n) (b₀ :: suite) pos'] [] [] pos) (fun D σ H => tb (wKeep X.K c i ts Wout D) D σ H) := by
  refine ⟨fun pins s σ H D I h => ?_⟩
  have ok := I.ok
  have frames : X.A.frames = some (X.env :: X.outer) := by rw [ok.frames, hs]
  refine wpAny_Try_except (wpAny_mono ((hb (wKeep X.K c i ts Wout D) (X.pn ++ pins) _ (fun u s' caught => ?_) PassesOwn.looking).run [] s σ H D (I.toTry _) h) (fun f s1 ended => ?_) fun _ _ z => z)
  case refine_2 =>
    cases f with
    | next => obtain ⟨σ', H', J, q⟩ := ended; exact wpAny_execs_nil ⟨σ', H', J.ofTry ok, q⟩
    | brk => obtain ⟨σ', H', J, q⟩ := ended; exact ⟨σ', H', J.ofTry ok, q⟩
    | cont => obtain ⟨σ', H', J, q⟩ := ended; exact ⟨σ', H', J.ofTry ok, q⟩
    | ret u => obtain ⟨v, σ', H', J, r, q⟩ := ended; exact ⟨v, σ', H', J.ofTry ok, r, q⟩
  case refine_1 =>
    obtain ⟨a, B, sI, pins', σ', H', cls, d, rfl, J', nb, up, sky, na, os, ag, b, hb1, hyes, hno⟩ := caught
    have J : Inv X pins σ' H' sI := J'.ofTry ok
    rw [show (X.tr (X.pn ++ pins) _).stack = X.env :: X.outer from hs] at sky
    show wpAny (model X.prog X.w) X.A (noteFrame (.ref a) X.env) _ _ _
    refine Sky.land Zc.steady frames hf sky fun h3 fl3 up3 => ?_
    have J3 : Inv X pins σ' H' { s' with heap := h3 } := J.landed nb fl3.1 (up.trans up3) os ag
    have Ba : B.get? a = none := fl3.2.1
    obtain ⟨oe3, vs3, he3, hz3, hd3⟩ := fl3.there
    have noFrame : a ∉ frs (X.env :: X.outer) := fun hm => by
      obtain ⟨_, o', e', nf⟩ := fl3.2.2.1.mem hm
      rw [he3] at e'
      cases e'
      exact nf _ hd3
    have nL : a ≠ X.env.locals := fun z => noFrame (List.mem_filterMap.mpr ⟨X.env, List.mem_cons_self, by rw [hf, z]⟩)
    have nF : a ∉ X.fs := fun hm => by
      obtain ⟨e, he, q⟩ := List.mem_filterMap.mp hm
      exact noFrame (List.mem_filterMap.mpr ⟨e, List.mem_cons_of_mem _ he, q⟩)
    have notIn : sI.heap.get? a = none := by
      cases e : sI.heap.get? a with
      | none => rfl
      | some o =>
        have := nb a o e (by show a ∉ frs X.stack; rw [hs]; exact noFrame)
        rw [Ba] at this
        cases this
    have n0 : X.s_0.heap.get? a = none := by
      cases e : X.s_0.heap.get? a with
      | none => rfl
      | some o =>
        obtain ⟨o', q⟩ := J.base.there a o e (by rw [hex]; exact fun z => nomatch z)
        rw [notIn] at q
        cases q
    have nP : ∀ p ∈ X.pn ++ pins, p.1 ≠ a := fun p hp z => by
      have q := (J.pin p hp).1
      rw [z, notIn] at q
      cases q
    have S3 := J3.suite he3 hd3 na nL nF
    refine wpAny_handleBy_cons (codeAny_handlers_test ?_) (by intro q; cases q)
    have typed : PySem.W.Looks (model X.prog X.w) h3 (typeOf (.ref a)) cls := fun _ _ _ _ k q => wpAny_typeOf_ref (k _ _ he3) (by rw [hz3.1]; exact q)
    have named : ∀ {Q : Value → Shared → Prop} {E : Value → Shared → Prop}, Q c { s' with heap := h3 } → wpAny (model X.prog X.w) (X.A.mark (some (.ref a))) (eval (.Name x np) X.env) Q E { s' with heap := h3 } := fun {Q E} q => by
      obtain ⟨hg, hdbg, hm | ⟨hm, hv, hnn⟩⟩ := hc
      · exact ld_glob (X := X.suite a ((a, oe3) :: (X.pn ++ pins))) S3 hg hm q hdbg
      · exact ld_blt (X := X.suite a ((a, oe3) :: (X.pn ++ pins))) S3 hg hm hv q hnn hdbg
    refine named ((PySem.W.exm_one (M := model X.prog X.w) J3.kIn typed hb1).here ?_)
    cases b with
    | true =>
      obtain ⟨C, hC, hD, hyes⟩ := hyes rfl
      refine codeAny_handlers_suite_as (HandSPX.lands_againZ fl3 fun h4 fl4 up4 => ?_)
      have J4 : Inv X pins σ' H' { s' with heap := h4 } := J.landed nb fl4.1 ((up.trans up3).trans up4) os ag
      obtain ⟨oe4, vs4, he4, hz4, hd4⟩ := fl4.there
      refine store_ok (X := X.suite a ((a, oe4) :: (X.pn ++ pins))) (v := .ref a) (J4.suite he4 hd4 na nL nF) hN hi (.inl hln) rfl (fun s5 S5 => ?_) (.inr hln)
      refine wpAny_mono ((hsu a oe4 cls d (X.pn ++ pins) hz4 ⟨_, hd4⟩).run [] s5 _ H' _ S5 (hyes a na)) (fun f s6 ended => ?_) (fun _ _ z => z.elim)
      cases f with
      | next =>
        obtain ⟨σ6, H6, S6, q6⟩ := ended
        obtain ⟨h6, n6, _⟩ := S6.pin (a, oe4) (List.mem_append_left _ List.mem_cons_self)
        have inst : PySem.W.InstAt s6.heap a oe4 C none := by
          obtain ⟨oc, od, oda, osl⟩ := oe4
          obtain ⟨z1, z2⟩ := hz4
          dsimp only at z1 z2 hd4
          subst z1 z2 hd4 hC hD
          exact ⟨h6, rfl, rfl, trivial⟩
        have J6 : Inv X pins σ6 (upd H6 a (ExK C a)) s6 := track (S6.unsuite ok) h6 (fun v z => by rw [hd4] at z; cases z) n0 n6 nL nP (exK_ok inst)
        exact gone_ok J6 hN hi hln fun s7 J7 => ⟨_, _, J7, q6 n6⟩
      | brk => obtain ⟨_, _, _, q6⟩ := ended; exact q6.elim
      | cont => obtain ⟨_, _, _, q6⟩ := ended; exact q6.elim
      | ret u => obtain ⟨_, _, _, _, _, q6⟩ := ended; exact q6.elim
    | false =>
      show wpAny _ X.A (handleBy (.ref a) X.env []) _ _ _
      refine wpAny_handleBy_nil ?_
      obtain ⟨k1, k2, k3, oe, vs, T, oT, ts', he, hz, hd, h1, hr⟩ := id fl3
      unfold PySem.passOn
      refine wpAny_bind (wpAny_field he hd h1 ?_)
      rw [if_neg (show ¬ ((Value.ref T == Value.none) = true) from by simp)]
      have fin : wpAny (model X.prog X.w) X.A (setFlight (.ref a) X.env.frame) (fun _ s4 => wpAny (model X.prog X.w) X.A (throw (.ref a) : Sem Flow) (SP X pins D) X.xe s4) X.xe { s' with heap := h3 } := by
        rw [hf]
        exact HandSPX.setFlight_upZ fl3 fun h4 hh4 up4 => wpAny_throw (tk _ _ ⟨a, B, sI, pins, σ', H', cls, d, rfl, J, nb, (up.trans up3).trans up4, .inr (.inr (by rw [hs]; exact hh4)), na, os, ag, hno rfl⟩)
      first
        | exact wpAny_bind (wpAny_pure (wpAny_bind fin))
        | exact wpAny_bind fin
end
end Sf
set_option maxHeartbeats 2000000
namespace Sf
open PySem PySem.Spec PyProof.Rows L2
/-! ### a dict of the top with text keys: its keys, turn by turn -/
structure KTab (K : PySem.W.Frag) (w : World) (d : Addr) (kvs : List (Str × Value)) : Prop where
  tab : ∃ es n, KDict K w d es n ∧ es.size = kvs.length ∧ ∀ prog : Program, Pairs (strKind prog w) es.toList kvs
  nd : (kvs.map (·.1)).Nodup
theorem KTab.at {K : PySem.W.Frag} {w : World} {d : Addr} {kvs : List (Str × Value)} (T : KTab K w d kvs) (prog : Program) {h : Heap} (X : K.In h) :
    (d == sysModules) = false ∧ ∃ es n, h.get? d = some ⟨.type "dict", none, .dict es n, #[]⟩ ∧ es.size = kvs.length ∧ h.DictAt (strKind prog w) d kvs n := by
  obtain ⟨es, n, D, hz, pr⟩ := T.tab
  refine ⟨D.low, es, n, X _ _ D.at_, hz, _, es, X _ _ D.at_, ⟨rfl, rfl, rfl⟩, rfl, fun e he => ?_, pr prog, T.nd⟩
  obtain ⟨x, t, e1, e2⟩ := D.lit.all e (Array.mem_toList_iff.mpr he)
  exact ⟨x, by rw [e1]; exact strKind_is prog w x t, e2⟩
def Itkk (kvs : List (Str × Value)) : It :=
  ⟨fun i _ => i < kvs.length, fun i H x H' => H' = H ∧ ∃ k v, kvs[i]? = some (k, v) ∧ x = .str k, fun i _ => kvs.length ≤ i⟩
theorem turn_ktab {P : Program} {w : World} {K : PySem.W.Frag} {tg : Expr} {d : Addr} {kvs : List (Str × Value)} {ep : Nat} (T : KTab K w d kvs) (it : Addr) (hep : ∃ es, K.lookup d = some ⟨.type "dict", none, .dict es ep, #[]⟩) :
    Turn P w K tg (Itkk kvs) [it] it (fun i h => h.IsKeyIter it d i kvs.length ep) where
  mem := by simp
  obj := fun i h st b hb => by
    have e : b = it := by simpa using hb
    subst e
    obtain ⟨oi, e, c, dd⟩ := st
    exact ⟨oi, e, fun v z => by rw [dd] at z; cases z⟩
  keep := fun i h h' st k => st.at fun oi e => k it (by simp) oi e
  item := by
    intro X hP hw hK hc i pins s σ H E I hf st hi
    subst hP hw hK
    obtain ⟨f0, f1, f2, f3, f4, f5⟩ := hf it (by simp)
    obtain ⟨hs, es, n, hgd, hsz, hm⟩ := T.at X.prog I.kIn
    obtain ⟨es', hl⟩ := hep
    have hgd' := I.kIn _ _ hl
    rw [hgd] at hgd'
    cases hgd'
    obtain ⟨⟨k, v⟩, hkv⟩ : ∃ p, kvs[i]? = some p := ⟨kvs[i], List.getElem?_eq_getElem hi⟩
    refine wpAny_pyNext_dict_item st hm hkv fun key h' hkey st' sb => ?_
    have I1 : Inv X pins σ H { s with heap := h' } := I.turned (t' := s.toks) (fun b ob hb e => (sb.2 b hb).trans e) f0 f1 f3 f4 f5
    obtain ⟨oi, e, c, dd⟩ := id st'
    exact ⟨key, rfl, go_of (s := { s with heap := h' }) e c dd (by decide) ⟨.str k, H, I1, relV_key (k := .inr k) (show keyIs (.inr k) key = true from hkey), ⟨rfl, k, v, hkv, rfl⟩, st', fun b hb => (hf b hb).1⟩⟩
  done := by
    intro X hP hw hK hc i pins s σ H E I hf st hi
    subst hP hw hK
    obtain ⟨f0, f1, f2, f3, f4, f5⟩ := hf it (by simp)
    obtain ⟨hs, es, n, hgd, hsz, hm⟩ := T.at X.prog I.kIn
    obtain ⟨es', hl⟩ := hep
    have hgd' := I.kIn _ _ hl
    rw [hgd] at hgd'
    cases hgd'
    exact next_key_end (I.ok.hd hc) st hgd rfl hsz hi fun h' eb => ⟨rfl, I.turned (t' := s.toks) (fun b ob hb e => eb b ob hb e) f0 f1 f3 f4 f5⟩
  self := fun A i s Q E st h => wpAny_pyIter_keyiter st h
def iKk (d : Addr) (kvs : List (Str × Value)) (td : TE) : TI := fun σ H R => td σ H fun x H1 => x = .ref d ∧ R (Itkk kvs) H1
theorem pi_ktab {X : Cx} {tg e : Expr} {td : TE} {d : Addr} {kvs : List (Str × Value)} (T : KTab X.K X.w d kvs) (he : PE X e td) : PI X tg e (iKk d kvs td) := by
  refine ⟨fun pins s σ H R I h => ?_⟩
  refine thn (he.run pins s σ H _ I h) fun u s1 ⟨x, H1, I1, rx, ex, q⟩ => ?_
  subst ex
  obtain rfl : u = Value.ref d := rx
  obtain ⟨es, n, D, hz, pr⟩ := T.tab
  refine iter_keys D.low (I1.kIn _ _ D.at_) ⟨rfl, rfl, rfl⟩ rfl (pi_one (tk := s1.toks) I1 _ (turn_ktab T _ ⟨es, D.at_⟩) ⟨_, Heap.get?_push_size _ rfl, rfl, ?_⟩ q)
  rw [hz] <;> rfl
theorem lc_ktab {kvs : List (Str × Value)} {g : TG} {tt : TT} {te : TE} {vs : List Nat} {σ : L2.St} {H1 : Hp} {D : Addr} {Qd : Hp → Prop} (Pv : Nat → Hp → Prop) (h0 : Pv 0 (upd H1 D (.lst [])))
    (hs : ∀ i k v H, kvs[i]? = some (k, v) → Pv i H → g (.str k) (wipe σ vs) H fun σ2 H2 => wipe σ2 vs = wipe σ vs ∧ tt σ2 H2 fun b H3 =>
      if b = true then te σ2 H3 fun y H4 => ∃ acc, H4 D = some (.lst acc) ∧ acc.length < sizeLine ∧ Pv (i + 1) (upd H4 D (.lst (acc ++ [y]))) else Pv (i + 1) H3) (hd : ∀ H, Pv kvs.length H → Qd H) :
    ∃ W : Nat → Nat → Hp → Prop, (∃ m, W 0 m (upd H1 D (.lst []))) ∧ ∀ i m H, W i m H →
      ((Itkk kvs).stop i H ∧ Qd H) ∨ ((Itkk kvs).go i H ∧ ∃ Nx : Hp → Prop, (∀ H', Nx H' → ∃ m', m' < m ∧ W (i + 1) m' H') ∧ ∀ x H', (Itkk kvs).yld i H x H' → g x (wipe σ vs) H' fun σ2 H2 => wipe σ2 vs = wipe σ vs ∧ tt σ2 H2 fun b H3 =>
        if b = true then te σ2 H3 fun y H4 => ∃ acc, H4 D = some (.lst acc) ∧ acc.length < sizeLine ∧ Nx (upd H4 D (.lst (acc ++ [y]))) else Nx H3) := by
  refine ⟨fun i m H => m = kvs.length - i ∧ i ≤ kvs.length ∧ Pv i H, ⟨kvs.length, by simp, Nat.zero_le _, h0⟩, ?_⟩
  rintro i m H ⟨rfl, hi, p⟩
  by_cases hlt : i < kvs.length
  · refine .inr ⟨hlt, Pv (i + 1), fun H' p' => ⟨kvs.length - (i + 1), by omega, rfl, hlt, p'⟩, fun x H' y => ?_⟩
    obtain ⟨e, k, v, e2, e3⟩ := y
    subst e e3
    exact hs i k v _ e2 p
  · have e : i = kvs.length := by omega
    subst e
    exact .inl ⟨Nat.le_refl _, hd H p⟩
end Sf

namespace Sf
/-! ### pairs with the greater one ahead, and how an exchange changes their number -/
def cnt (a : Int) (l : List Int) : Nat := l.countP fun b => decide (b < a)
def inv : List Int → Nat
  | [] => 0
  | a :: l => cnt a l + inv l
theorem cnt_cons (a b : Int) (l : List Int) : cnt a (b :: l) = cnt a l + (if b < a then 1 else 0) := by
  unfold cnt
  rw [List.countP_cons]
  by_cases h : b < a <;> simp [h]
theorem cnt_append (a : Int) (l m : List Int) : cnt a (l ++ m) = cnt a l + cnt a m := by
  unfold cnt
  exact List.countP_append
theorem cnt_perm {a : Int} {l m : List Int} (h : l.Perm m) : cnt a l = cnt a m := h.countP_eq _
theorem inv_prefix {l l' : List Int} (h : l.Perm l') : ∀ p : List Int, inv (p ++ l) + inv l' = inv (p ++ l') + inv l
  | [] => by simp only [List.nil_append]; omega
  | c :: p => by
    have ih := inv_prefix h p
    have e : cnt c (p ++ l) = cnt c (p ++ l') := cnt_perm (List.Perm.append_left p h)
    simp only [List.cons_append, inv, e]
    omega
theorem inv_move (a : Int) : ∀ (m q : List Int), a ∉ m → (inv (a :: (m ++ q)) + m.length) % 2 = inv (m ++ a :: q) % 2
  | [], q, _ => by simp
  | b :: m, q, h => by
    have hb : a ≠ b := fun e => h (by simp [e])
    have hm : a ∉ m := fun e => h (by simp [e])
    have ih := inv_move a m q hm
    have e1 : cnt b (m ++ a :: q) = cnt b (m ++ q) + (if a < b then 1 else 0) := by
      rw [cnt_append, cnt_append, cnt_cons]; omega
    have e2 := cnt_cons a b (m ++ q)
    simp only [List.cons_append, inv, List.length_cons, e1, e2] at ih ⊢
    by_cases h1 : a < b
    · have h2 : ¬ b < a := by omega
      simp only [h1, h2, if_true, if_false]; omega
    · have h2 : b < a := by omega
      simp only [h1, h2, if_true, if_false]; omega
theorem perm_exch (p : List Int) (a b : Int) (m q : List Int) : (p ++ a :: (m ++ b :: q)).Perm (p ++ b :: (m ++ a :: q)) := by
  refine List.Perm.append_left p ?_
  have h1 : (a :: (m ++ b :: q)).Perm (a :: b :: (m ++ q)) := List.Perm.cons a List.perm_middle
  have h2 : (b :: (m ++ a :: q)).Perm (b :: a :: (m ++ q)) := List.Perm.cons b List.perm_middle
  exact h1.trans ((List.Perm.swap b a _).trans h2.symm)
theorem inv_exch {a b : Int} {p m q : List Int} (hab : a ≠ b) (ha : a ∉ m) (hb : b ∉ m) : inv (p ++ a :: (m ++ b :: q)) % 2 = (inv (p ++ b :: (m ++ a :: q)) + 1) % 2 := by
  have h0 := inv_prefix (perm_exch [] a b m q) p
  simp only [List.nil_append] at h0
  have h1 := inv_move a m (b :: q) ha
  have h2 := inv_move b m (a :: q) hb
  have h3 := inv_prefix (List.Perm.swap b a q) m
  have e1 := cnt_cons a b q
  have e2 := cnt_cons b a q
  have e3 : inv (a :: b :: q) = cnt a (b :: q) + (cnt b q + inv q) := rfl
  have e4 : inv (b :: a :: q) = cnt b (a :: q) + (cnt a q + inv q) := rfl
  by_cases h : a < b
  · have h' : ¬ b < a := by omega
    simp only [h, h', if_true, if_false] at e1 e2
    omega
  · have h' : b < a := by omega
    simp only [h, h', if_true, if_false] at e1 e2
    omega
/-! ### an exchange by places -/
def swapAt (l : List Int) (i j : Nat) : List Int := (l.set i (l.getD j 0)).set j (l.getD i 0)
theorem split_at {α : Type} : ∀ {l : List α} {i : Nat} {x : α}, l[i]? = some x → ∃ p q, l = p ++ x :: q ∧ p.length = i
  | [], i, x, h => by simp at h
  | a :: l, 0, x, h => ⟨[], l, by simp at h; simp [h], rfl⟩
  | a :: l, i + 1, x, h => by
    obtain ⟨p, q, e, n⟩ := split_at (l := l) (i := i) (x := x) (by simpa using h)
    exact ⟨a :: p, q, by rw [e]; rfl, by simp [n]⟩
theorem split_two {l : List Int} {i j : Nat} {x y : Int} (hij : i < j) (hx : l[i]? = some x) (hy : l[j]? = some y) : ∃ p m q, l = p ++ x :: (m ++ y :: q) ∧ p.length = i ∧ p.length + 1 + m.length = j := by
  obtain ⟨p, r, e, n⟩ := split_at hx
  have hr : r[j - i - 1]? = some y := by
    rw [e, List.getElem?_append_right (by omega)] at hy
    have : j - p.length = (j - i - 1) + 1 := by omega
    rw [this] at hy
    simpa using hy
  obtain ⟨m, q, e2, n2⟩ := split_at hr
  exact ⟨p, m, q, by rw [e, e2], n, by omega⟩
theorem set_mid {α : Type} (p : List α) (x y : α) (q : List α) : (p ++ x :: q).set p.length y = p ++ y :: q := by
  rw [List.set_append_right _ _ (Nat.le_refl _)]
  simp
theorem swap_split (p : List Int) (x : Int) (m : List Int) (y : Int) (q : List Int) : swapAt (p ++ x :: (m ++ y :: q)) p.length (p.length + 1 + m.length) = p ++ y :: (m ++ x :: q) := by
  have e1 : (p ++ x :: (m ++ y :: q)).getD p.length 0 = x := by
    rw [List.getD_eq_getElem?_getD, List.getElem?_append_right (Nat.le_refl _)]; simp
  have e2 : (p ++ x :: (m ++ y :: q)).getD (p.length + 1 + m.length) 0 = y := by
    rw [List.getD_eq_getElem?_getD, List.getElem?_append_right (by omega)]
    have : p.length + 1 + m.length - p.length = m.length + 1 := by omega
    rw [this, List.getElem?_cons_succ, List.getElem?_append_right (Nat.le_refl _)]; simp
  unfold swapAt
  rw [e1, e2, set_mid]
  have e3 : p ++ y :: (m ++ y :: q) = (p ++ y :: m) ++ y :: q := by simp
  have e4 : p.length + 1 + m.length = (p ++ y :: m).length := by simp; omega
  rw [e3, e4, set_mid]
  simp
theorem swap_comm (l : List Int) {i j : Nat} (h : i ≠ j) : swapAt l i j = swapAt l j i := by
  unfold swapAt
  rw [List.set_comm _ _ h]
theorem getD_some {l : List Int} {i : Nat} (h : i < l.length) : l[i]? = some (l.getD i 0) := by
  rw [List.getD_eq_getElem?_getD, List.getElem?_eq_getElem h]; rfl
/-- everything of an exchange, the lesser place first -/
theorem swap_lt {l : List Int} {i j : Nat} (hij : i < j) (hj : j < l.length) : ∃ p m q, l = p ++ l.getD i 0 :: (m ++ l.getD j 0 :: q) ∧ swapAt l i j = p ++ l.getD j 0 :: (m ++ l.getD i 0 :: q) ∧ p.length = i ∧ p.length + 1 + m.length = j := by
  obtain ⟨p, m, q, e, n1, n2⟩ := split_two hij (getD_some (l := l) (Nat.lt_trans hij hj)) (getD_some hj)
  refine ⟨p, m, q, e, ?_, n1, n2⟩
  have h := swap_split p (l.getD i 0) m (l.getD j 0) q
  rw [← e, n2, n1] at h
  exact h
theorem swap_perm {l : List Int} {i j : Nat} (hi : i < l.length) (hj : j < l.length) (h : i ≠ j) : (swapAt l i j).Perm l := by
  have main : ∀ {i j : Nat}, i < j → j < l.length → (swapAt l i j).Perm l := fun {i j} hij hj => by
    obtain ⟨p, m, q, e, s, _, _⟩ := swap_lt hij hj
    rw [s]
    have r := perm_exch p (l.getD j 0) (l.getD i 0) m q
    rw [← e] at r
    exact r
  by_cases hij : i < j
  · exact main hij hj
  · rw [swap_comm l h]
    exact main (by omega) hi
theorem swap_inv {l : List Int} {i j : Nat} (nd : l.Nodup) (hi : i < l.length) (hj : j < l.length) (h : i ≠ j) : inv (swapAt l i j) % 2 = (inv l + 1) % 2 := by
  have main : ∀ {i j : Nat}, i < j → j < l.length → inv (swapAt l i j) % 2 = (inv l + 1) % 2 := fun {i j} hij hj => by
    obtain ⟨p, m, q, e, s, _, _⟩ := swap_lt hij hj
    have nd' := nd
    rw [e] at nd'
    have hd := (List.nodup_append.mp nd').2.1
    have hx := List.nodup_cons.mp hd
    have hd2 := (List.nodup_append.mp hx.2)
    have n1 : l.getD i 0 ∉ m := fun z => hx.1 (List.mem_append_left _ z)
    have n2 : l.getD j 0 ∉ m := fun z => hd2.2.2 _ z _ List.mem_cons_self rfl
    have n3 : l.getD j 0 ≠ l.getD i 0 := fun z => hx.1 (List.mem_append_right _ (by rw [← z]; exact List.mem_cons_self))
    have r := inv_exch (p := p) (q := q) n3 n2 n1
    rw [← e, ← s] at r
    exact r
  by_cases hij : i < j
  · exact main hij hj
  · rw [swap_comm l h]
    exact main (by omega) hi
theorem swap_len (l : List Int) (i j : Nat) : (swapAt l i j).length = l.length := by
  unfold swapAt
  rw [List.length_set, List.length_set]
theorem swap_get {l : List Int} {i j : Nat} (hi : i < l.length) (hj : j < l.length) (h : i ≠ j) (k : Nat) : (swapAt l i j).getD k 0 = if k = i then l.getD j 0 else if k = j then l.getD i 0 else l.getD k 0 := by
  unfold swapAt
  rw [List.getD_eq_getElem?_getD, List.getElem?_set]
  by_cases h1 : j = k
  · subst h1
    have : ¬ j = i := fun e => h e.symm
    rw [if_pos rfl, if_pos (by simpa using hj), if_neg this, if_pos rfl]; rfl
  · rw [if_neg h1, List.getElem?_set]
    by_cases h2 : i = k
    · subst h2
      rw [if_pos rfl, if_pos hi, if_pos rfl]; rfl
    · have h1' : ¬ k = j := fun e => h1 e.symm
      have h2' : ¬ k = i := fun e => h2 e.symm
      rw [if_neg h2, if_neg h2', if_neg h1', List.getD_eq_getElem?_getD]
end Sf
namespace Sf
/-! ### floors and standings -/
structure Fl (w h : Nat) : Prop where
  w1 : 1 ≤ w
  w4 : w ≤ 4
  h1 : 1 ≤ h
  h4 : h ≤ 4
  two : 2 ≤ w * h
theorem Fl.le {w h : Nat} (F : Fl w h) : w * h ≤ 16 := Nat.le_trans (Nat.mul_le_mul F.w4 F.h4) (by decide)
def iota (n : Nat) : List Int := (List.range n).map fun i : Nat => (i : Int)
theorem iota_len (n : Nat) : (iota n).length = n := by simp [iota]
theorem iota_nodup (n : Nat) : (iota n).Nodup := by
  unfold iota
  refine List.Pairwise.map _ (fun a b h => ?_) List.nodup_range
  omega
theorem iota_mem {n : Nat} {z : Int} : z ∈ iota n ↔ 0 ≤ z ∧ z < n := by
  unfold iota
  rw [List.mem_map]
  constructor
  · rintro ⟨a, h, rfl⟩
    have := List.mem_range.mp h
    omega
  · rintro ⟨h1, h2⟩
    exact ⟨z.toNat, List.mem_range.mpr (by omega), by omega⟩
theorem iota_sorted (n : Nat) : (iota n).Pairwise (· ≤ ·) := by
  unfold iota
  refine List.Pairwise.map (R := fun a b : Nat => a < b) _ (fun a b h => by omega) List.pairwise_lt_range
/-- a standing: all numbers from 0, each once -/
def Std (n : Nat) (st : List Int) : Prop := st.Perm (iota n)
theorem Std.len {n : Nat} {st : List Int} (S : Std n st) : st.length = n := S.length_eq.trans (iota_len n)
theorem Std.nodup {n : Nat} {st : List Int} (S : Std n st) : st.Nodup := S.nodup_iff.mpr (iota_nodup n)
theorem Std.mem {n : Nat} {st : List Int} (S : Std n st) {z : Int} : z ∈ st ↔ 0 ≤ z ∧ z < n := S.mem_iff.trans iota_mem
theorem Std.zero {n : Nat} {st : List Int} (S : Std n st) (h : 0 < n) : (0 : Int) ∈ st := S.mem.mpr ⟨by omega, by omega⟩
theorem Std.swap {n : Nat} {st : List Int} (S : Std n st) {i j : Nat} (hi : i < n) (hj : j < n) (h : i ≠ j) : Std n (swapAt st i j) := (swap_perm (by rw [S.len]; exact hi) (by rw [S.len]; exact hj) h).trans S
theorem sorted_same : ∀ {l m : List Int}, l.Perm m → l.Pairwise (· ≤ ·) → m.Pairwise (· ≤ ·) → l = m
  | [], m, h, _, _ => (List.nil_perm.mp h).symm
  | a :: l, [], h, _, _ => by simp at h
  | a :: l, b :: m, h, h1, h2 => by
    have ha := List.pairwise_cons.mp h1
    have hb := List.pairwise_cons.mp h2
    have e : a = b := by
      have m1 : b ∈ a :: l := h.mem_iff.mpr List.mem_cons_self
      have m2 : a ∈ b :: m := h.mem_iff.mp List.mem_cons_self
      rcases List.mem_cons.mp m1 with q | q
      · exact q.symm
      · rcases List.mem_cons.mp m2 with r | r
        · exact r
        · have := ha.1 b q
          have := hb.1 a r
          omega
    subst e
    rw [sorted_same ((List.perm_cons a).mp h) ha.2 hb.2]
theorem Std.sorted {n : Nat} {st out : List Int} (S : Std n st) (p : out.Perm st) (h : out.Pairwise (· ≤ ·)) : out = iota n := sorted_same (p.trans S) h (iota_sorted n)
/-- where the empty place is -/
def zat (st : List Int) : Nat := st.idxOf 0
theorem idx_first {st : List Int} {z : Int} (h : z ∈ st) : st.idxOf z < st.length ∧ st[st.idxOf z]? = some z ∧ ∀ m, m < st.idxOf z → st[m]? ≠ some z := by
  have hl := List.idxOf_lt_length_of_mem h
  refine ⟨hl, ?_, fun m hm e => ?_⟩
  · rw [List.getElem?_eq_getElem hl, List.getElem_idxOf hl]
  · have := List.not_of_lt_findIdx (p := (· == z)) (xs := st) (i := m) hm
    obtain ⟨h1, h2⟩ := List.getElem?_eq_some_iff.mp e
    rw [h2] at this
    simp at this
theorem nodup_get {st : List Int} (nd : st.Nodup) {i j : Nat} {x : Int} (a : st[i]? = some x) (b : st[j]? = some x) : i = j := by
  obtain ⟨h1, e1⟩ := List.getElem?_eq_some_iff.mp a
  obtain ⟨h2, e2⟩ := List.getElem?_eq_some_iff.mp b
  exact (List.getElem_inj nd).mp (e1.trans e2.symm)
theorem zat_of {st : List Int} (nd : st.Nodup) {i : Nat} (h : st[i]? = some 0) : zat st = i :=
  nodup_get nd (idx_first (List.mem_of_getElem? h)).2.1 h
section
variable {n : Nat} {st : List Int}
theorem Std.zat_lt (S : Std n st) (h : 0 < n) : zat st < n := by
  have := (idx_first (S.zero h)).1
  rw [S.len] at this
  exact this
theorem Std.zat_get (S : Std n st) (h : 0 < n) : st[zat st]? = some 0 := (idx_first (S.zero h)).2.1
theorem Std.zat_getD (S : Std n st) (h : 0 < n) : st.getD (zat st) 0 = 0 := by
  rw [List.getD_eq_getElem?_getD, S.zat_get h]; rfl
theorem Std.zat_swap (S : Std n st) (h : 0 < n) {t : Nat} (ht : t < n) (ne : zat st ≠ t) : zat (swapAt st (zat st) t) = t := by
  have hl := S.len
  have hz := S.zat_lt h
  refine zat_of (S.swap hz ht ne).nodup ?_
  have e := swap_get (l := st) (by omega : zat st < st.length) (by omega : t < st.length) ne t
  rw [if_neg (Ne.symm ne), if_pos rfl, S.zat_getD h] at e
  rw [getD_some (by rw [swap_len]; omega), e]
theorem Std.zat_exch (S : Std n st) (h : 0 < n) {i j : Nat} (hi : i < n) (hj : j < n) (ne : i ≠ j) (zi : zat st ≠ i) (zj : zat st ≠ j) : zat (swapAt st i j) = zat st := by
  have hl := S.len
  have hz := S.zat_lt h
  refine zat_of (S.swap hi hj ne).nodup ?_
  have e := swap_get (l := st) (by omega : i < st.length) (by omega : j < st.length) ne (zat st)
  rw [if_neg zi, if_neg zj, S.zat_getD h] at e
  rw [getD_some (by rw [swap_len]; omega), e]
end
/-! ### moves -/
inductive Dir where | up | down | left | right
  deriving DecidableEq
/-- the place of the tile that goes to the empty one at e -/
def tgt (w h e : Nat) : Dir → Option Nat
  | .up => if e / w + 1 < h then some (e % w + (e / w + 1) * w) else none
  | .down => if 1 ≤ e / w then some (e % w + (e / w - 1) * w) else none
  | .left => if e % w + 1 < w then some (e % w + 1 + e / w * w) else none
  | .right => if 1 ≤ e % w then some (e % w - 1 + e / w * w) else none
def step (w h : Nat) (st : List Int) (d : Dir) : Option (List Int) := (tgt w h (zat st) d).map fun t => swapAt st (zat st) t
theorem place_lt {w h x y : Nat} (hx : x < w) (hy : y < h) : x + y * w < w * h := by
  have h1 : (y + 1) * w ≤ h * w := Nat.mul_le_mul_right w hy
  have h2 : (y + 1) * w = y * w + w := Nat.succ_mul y w
  have h3 : h * w = w * h := Nat.mul_comm h w
  omega
theorem place_mod {w x y : Nat} (hx : x < w) : (x + y * w) % w = x := by
  rw [Nat.add_mul_mod_self_right, Nat.mod_eq_of_lt hx]
theorem place_div {w x y : Nat} (hx : x < w) : (x + y * w) / w = y := by
  rw [Nat.add_mul_div_right _ _ (by omega), Nat.div_eq_of_lt hx, Nat.zero_add]
theorem at_eq {w e : Nat} : e % w + e / w * w = e := Nat.mod_add_div' e w
/-- what a move's place is: on the floor, another one, and its x or its y off by one -/
theorem tgt_facts {w h e t : Nat} {d : Dir} (hw : 0 < w) (he : e < w * h) (ht : tgt w h e d = some t) : t < w * h ∧ e ≠ t ∧ (t % w + t / w) % 2 = (e % w + e / w + 1) % 2 ∧ (w = 1 ∨ h = 1 → t = e + 1 ∨ e = t + 1) := by
  have hx : e % w < w := Nat.mod_lt e hw
  have hy : e / w < h := Nat.div_lt_of_lt_mul he
  have hh : h = 1 → e / w = 0 := fun z => by subst z; rw [Nat.mul_one] at he; exact Nat.div_eq_of_lt he
  have hww : w = 1 → e % w = 0 := fun z => by subst z; exact Nat.mod_one e
  have ee := at_eq (w := w) (e := e)
  have main : ∀ {x y : Nat}, x < w → y < h → (x + y) % 2 = (e % w + e / w + 1) % 2 → t = x + y * w → (w = 1 ∨ h = 1 → t = e + 1 ∨ e = t + 1) → t < w * h ∧ e ≠ t ∧ (t % w + t / w) % 2 = (e % w + e / w + 1) % 2 ∧ (w = 1 ∨ h = 1 → t = e + 1 ∨ e = t + 1) := by
    intro x y h1 h2 h3 h4 h5
    have m := place_mod (y := y) h1
    have dd := place_div (y := y) h1
    rw [← h4] at m dd
    refine ⟨by rw [h4]; exact place_lt h1 h2, fun z => ?_, by rw [m, dd]; exact h3, h5⟩
    rw [← z] at m dd
    omega
  cases d with
  | up =>
    simp only [tgt] at ht
    by_cases hc : e / w + 1 < h
    · rw [if_pos hc] at ht
      have e1 := (Option.some.inj ht).symm
      refine main hx hc (by omega) e1 fun z => ?_
      rcases z with z | z
      · left
        have := hww z
        rw [z, Nat.mul_one] at e1 ee
        omega
      · omega
    · rw [if_neg hc] at ht
      cases ht
  | down =>
    simp only [tgt] at ht
    by_cases hc : 1 ≤ e / w
    · rw [if_pos hc] at ht
      have e1 := (Option.some.inj ht).symm
      refine main hx (by omega : e / w - 1 < h) (by omega) e1 fun z => ?_
      rcases z with z | z
      · right
        have := hww z
        rw [z, Nat.mul_one] at e1 ee
        rw [z] at hc
        omega
      · have := hh z
        omega
    · rw [if_neg hc] at ht
      cases ht
  | left =>
    simp only [tgt] at ht
    by_cases hc : e % w + 1 < w
    · rw [if_pos hc] at ht
      have e1 := (Option.some.inj ht).symm
      refine main hc hy (by omega) e1 fun z => ?_
      omega
    · rw [if_neg hc] at ht
      cases ht
  | right =>
    simp only [tgt] at ht
    by_cases hc : 1 ≤ e % w
    · rw [if_pos hc] at ht
      have e1 := (Option.some.inj ht).symm
      refine main (by omega : e % w - 1 < w) hy (by omega) e1 fun z => ?_
      omega
    · rw [if_neg hc] at ht
      cases ht
/-! ### the side -/
def sideM (w : Nat) (st : List Int) : Nat := (inv st + zat st % w + zat st / w) % 2
theorem Fl.pos {w h : Nat} (F : Fl w h) : 0 < w * h := by have := F.two; omega
theorem step_some {w h : Nat} {st st' : List Int} {d : Dir} (hs : step w h st d = some st') : ∃ t, tgt w h (zat st) d = some t ∧ st' = swapAt st (zat st) t := by
  unfold step at hs
  cases e : tgt w h (zat st) d with
  | none => rw [e] at hs; cases hs
  | some t => rw [e] at hs; exact ⟨t, rfl, (Option.some.inj hs).symm⟩
theorem step_std {w h : Nat} {st st' : List Int} {d : Dir} (F : Fl w h) (S : Std (w * h) st) (hs : step w h st d = some st') : Std (w * h) st' := by
  obtain ⟨t, ht, rfl⟩ := step_some hs
  have hz := S.zat_lt F.pos
  obtain ⟨a, b, _, _⟩ := tgt_facts F.w1 hz ht
  exact S.swap hz a b
theorem step_side {w h : Nat} {st st' : List Int} {d : Dir} (F : Fl w h) (S : Std (w * h) st) (hs : step w h st d = some st') : sideM w st' = sideM w st := by
  obtain ⟨t, ht, rfl⟩ := step_some hs
  have hz := S.zat_lt F.pos
  obtain ⟨a, b, c, _⟩ := tgt_facts F.w1 hz ht
  have hi := swap_inv S.nodup (by rw [S.len]; exact hz) (by rw [S.len]; exact a) b
  unfold sideM
  rw [S.zat_swap F.pos a b]
  omega
theorem exch_side {w h : Nat} {st : List Int} {i j : Nat} (F : Fl w h) (S : Std (w * h) st) (hi : i < w * h) (hj : j < w * h) (ne : i ≠ j) (zi : zat st ≠ i) (zj : zat st ≠ j) : sideM w (swapAt st i j) = 1 - sideM w st := by
  have hv := swap_inv S.nodup (by rw [S.len]; exact hi) (by rw [S.len]; exact hj) ne
  unfold sideM
  rw [S.zat_exch F.pos hi hj ne zi zj]
  omega
/-! ### the tiles in their order -/
def tiles (st : List Int) : List Int := st.filter fun z => decide (z ≠ 0)
theorem tiles_zero (p q : List Int) : tiles (p ++ 0 :: q) = tiles p ++ tiles q := by
  unfold tiles
  simp
theorem tiles_near (p q : List Int) (x : Int) : tiles (p ++ 0 :: x :: q) = tiles (p ++ x :: 0 :: q) := by
  unfold tiles
  simp [List.filter_append, List.filter_cons]
theorem step_tiles {w h : Nat} {st st' : List Int} {d : Dir} (F : Fl w h) (S : Std (w * h) st) (line : w = 1 ∨ h = 1) (hs : step w h st d = some st') : tiles st' = tiles st := by
  obtain ⟨t, ht, rfl⟩ := step_some hs
  have hz := S.zat_lt F.pos
  obtain ⟨a, b, _, c⟩ := tgt_facts F.w1 hz ht
  have z0 := S.zat_getD F.pos
  have hl := S.len
  rcases c line with c | c
  · obtain ⟨p, m, q, e, s, n1, n2⟩ := swap_lt (l := st) (i := zat st) (j := t) (by omega) (by omega)
    have : m = [] := List.length_eq_zero_iff.mp (by omega)
    subst this
    rw [s, z0]
    rw [z0] at e
    conv => rhs; rw [e]
    exact (tiles_near p q _).symm
  · obtain ⟨p, m, q, e, s, n1, n2⟩ := swap_lt (l := st) (i := t) (j := zat st) (by omega) (by omega)
    have : m = [] := List.length_eq_zero_iff.mp (by omega)
    subst this
    rw [swap_comm st b, s, z0]
    rw [z0] at e
    conv => rhs; rw [e]
    exact tiles_near p q _
theorem exch_tiles {st : List Int} {i j : Nat} (nd : st.Nodup) (hi : i < st.length) (hj : j < st.length) (ne : i ≠ j) (zi : st.getD i 0 ≠ 0) (zj : st.getD j 0 ≠ 0) : tiles (swapAt st i j) ≠ tiles st := by
  have main : ∀ {i j : Nat}, i < j → j < st.length → st.getD i 0 ≠ 0 → st.getD j 0 ≠ 0 → tiles (swapAt st i j) ≠ tiles st := fun {i j} hij hj zi zj h => by
    obtain ⟨p, m, q, e, s, n1, n2⟩ := swap_lt hij hj
    generalize st.getD i 0 = x at *
    generalize st.getD j 0 = y at *
    rw [s, e] at h
    unfold tiles at h
    rw [List.filter_append, List.filter_append] at h
    have h2 := List.append_cancel_left h
    rw [List.filter_cons_of_pos (by simpa using zj), List.filter_cons_of_pos (by simpa using zi)] at h2
    have exy : y = x := (List.cons.inj h2).1
    rw [e, exy] at nd
    exact (List.nodup_cons.mp (List.nodup_append.mp nd).2.1).1 (List.mem_append_right _ List.mem_cons_self)
  by_cases hij : i < j
  · exact main hij hj zi zj
  · rw [swap_comm st ne]
    exact main (by omega) hi zj zi
end Sf
namespace Sf
open PySem PySem.Spec PyProof.Rows L2
/-! ### lists of ints as values, as data -/
abbrev VI (ns : List Int) : List V := ns.map V.int
def dI (ns : List Int) : List PyData := ns.map PyData.int
theorem eqvAll_I : ∀ ns ms : List Int, PyData.eqvAll (dI ns) (dI ms) = decide (ns = ms)
  | [], [] => by simp [dI, PyData.eqvAll]
  | [], _ :: _ => by simp [dI, PyData.eqvAll]
  | _ :: _, [] => by simp [dI, PyData.eqvAll]
  | n :: ns, m :: ms => by
    have ih := eqvAll_I ns ms
    show PyData.eqvAll (.int n :: dI ns) (.int m :: dI ms) = _
    rw [PyData.eqvAll, ih]
    have e : PyData.eqv (.int n) (.int m) = decide (n = m) := by
      simp only [PyData.eqv]
      by_cases h : n = m <;> simp [h]
    rw [e]
    by_cases h : n = m <;> by_cases h' : ns = ms <;> simp [h, h']
theorem eqv_lst (ns ms : List Int) : PyData.eqv (.list (dI ns)) (.list (dI ms)) = decide (ns = ms) := by
  rw [PyData.eqv]; exact eqvAll_I ns ms
theorem eqv_tup (ns ms : List Int) : PyData.eqv (.tuple (dI ns)) (.tuple (dI ms)) = decide (ns = ms) := by
  rw [PyData.eqv]; exact eqvAll_I ns ms
theorem dI_lay : ∀ ns : List Int, PyData.canLayAll0 (dI ns) = true
  | [] => by simp [dI, PyData.canLayAll0]
  | n :: ns => by
    show PyData.canLayAll0 (.int n :: dI ns) = true
    rw [PyData.canLayAll0, dI_lay ns]; simp [PyData.canLay0]
theorem dI_depth : ∀ ns : List Int, PyData.depthAll (dI ns) ≤ 1
  | [] => by simp [dI, PyData.depthAll]
  | n :: ns => by
    show PyData.depthAll (.int n :: dI ns) ≤ 1
    have := dI_depth ns
    simp only [PyData.depthAll, PyData.depth]; omega
theorem shaped_lst (ns : List Int) : SeqAt.shaped (.list (dI ns)) = true := by
  have h := dI_depth ns
  show (PyData.canLay0 (.list (dI ns)) && decide (PyData.depth (.list (dI ns)) ≤ 64)) = true
  rw [Bool.and_eq_true]
  exact ⟨by simp only [PyData.canLay0]; exact dI_lay ns, decide_eq_true (by simp only [PyData.depth]; omega)⟩
theorem shaped_tup (ns : List Int) : SeqAt.shaped (.tuple (dI ns)) = true := by
  have h := dI_depth ns
  show (PyData.canLay0 (.tuple (dI ns)) && decide (PyData.depth (.tuple (dI ns)) ≤ 64)) = true
  rw [Bool.and_eq_true]
  exact ⟨by simp only [PyData.canLay0]; exact dI_lay ns, decide_eq_true (by simp only [PyData.depth]; omega)⟩
section
variable {K : PySem.W.Frag} {H H' : Hp} {a : Addr}
theorem dpAll_I : ∀ ns : List Int, DpAll K H (VI ns) (dI ns)
  | [] => .nil
  | n :: ns => .cons (.int n) (dpAll_I ns)
theorem dp_lst {ns : List Int} (h : SqL K H a (VI ns)) : Dp K H (.ref a) (.list (dI ns)) := .lst h (dpAll_I ns)
theorem dp_tup {ns : List Int} (h : SqT K H a (VI ns)) : Dp K H (.ref a) (.tuple (dI ns)) := .tup h (dpAll_I ns)
theorem sm_tup {xs : List V} (e : Same H H') (h : SqT K H a xs) : SqT K H' a xs := by
  rcases h with (h | ⟨o, h⟩) | h
  · exact .inl (.inl (e _ _ h))
  · exact .inl (.inr ⟨o, e _ _ h⟩)
  · exact .inr h
theorem same_upd {p : Addr} {o : HO} (n : H p = none) : Same H (upd H p o) := fun b u e => by rw [upd_ne (ne_of_none e n)]; exact e
theorem sm_upd {p : Addr} {o : HO} (s : Same H H') (n : H' p = none) : Same H (upd H' p o) := s.trans (same_upd n)
theorem sqt_upd {p : Addr} {xs : List V} : SqT K (upd H p (.tup xs)) p xs := SqT.of upd_same
theorem sql_upd {p : Addr} {xs : List V} : SqL K (upd H p (.lst xs)) p xs := SqL.of upd_same
end
theorem rgV_iota (n : Nat) : rgV 0 (n : Int) = VI (iota n) := by
  unfold rgV iota VI
  rw [List.map_map]
  have : ((n : Int) - 0).toNat = n := by omega
  rw [this]
  exact List.map_congr_left fun i _ => by simp
/-! ### what is handed in as a floor, as a standing -/
abbrev Kn (K : PySem.W.Frag) (H : Hp) (v : V) : Prop := ∃ T, TyB K H v T
theorem tyb_int {K : PySem.W.Frag} {H : Hp} {v : V} {T : String} (t : TyB K H v T) (e : T = "int") : ∃ i, v = .int i := by
  cases t with
  | int i => exact ⟨i, rfl⟩
  | _ => exact absurd e (by decide)
def okSide (v : V) : Prop := ∃ n : Nat, v = .int n ∧ 1 ≤ n ∧ n ≤ 4
inductive FlV (K : PySem.W.Frag) (H : Hp) : V → Option (Nat × Nat) → Prop
  | good {a : Addr} {w h : Nat} : SqT K H a [.int w, .int h] → Fl w h → FlV K H (.ref a) (some (w, h))
  | kind {v : V} {T : String} : TyB K H v T → T ≠ "tuple" → FlV K H v none
  | size {a : Addr} {xs : List V} : SqT K H a xs → xs.length ≠ 2 → FlV K H (.ref a) none
  | side {a : Addr} {x y : V} : SqT K H a [x, y] → Kn K H x → Kn K H y → (¬ ∃ w h : Nat, x = .int w ∧ y = .int h ∧ Fl w h) → FlV K H (.ref a) none
inductive StV (K : PySem.W.Frag) (H : Hp) (n : Nat) : V → Option (List Int) → Prop
  | good {a : Addr} {st : List Int} : TD H a (VI st) → Std n st → StV K H n (.ref a) (some st)
  | kind {v : V} {T : String} : TyB K H v T → T ≠ "tuple" → StV K H n v none
  | size {a : Addr} {xs : List V} : SqT K H a xs → xs.length ≠ n → StV K H n (.ref a) none
  | items {a : Addr} {xs : List V} : SqT K H a xs → xs.length = n → (∀ x ∈ xs, Kn K H x) → (¬ ∃ st : List Int, xs = VI st ∧ Std n st) → StV K H n (.ref a) none
def spNum (K : PySem.W.Frag) : Sp := fun vs H Q _ => ∃ v T, vs = [v] ∧ TyB K H v T ∧ Q (.bl (decide (T = "int"))) H
def spCount (K : PySem.W.Frag) : Sp := fun vs H Q _ => ∃ (a : Addr) (w h : Nat), vs = [.ref a] ∧ SqT K H a [.int w, .int h] ∧ w ≤ 4 ∧ h ≤ 4 ∧ Q (.int ((w * h : Nat) : Int)) H
def spNeedF (K : PySem.W.Frag) (CF : Addr) : Sp := fun vs H Q E => ∃ v o, vs = [v] ∧ FlV K H v o ∧ (o.isSome → Q .non H) ∧ (o = none → E (.ref CF) none H)
def spNeedS (K : PySem.W.Frag) (CF CS : Addr) : Sp := fun vs H Q E => ∃ f v o, vs = [f, v] ∧ FlV K H f o ∧ (o = none → E (.ref CF) none H) ∧
  ∀ w h, o = some (w, h) → ∃ o2, StV K H (w * h) v o2 ∧ (o2.isSome → ∀ H', Same H H' → Q .non H') ∧ (o2 = none → ∀ H', Same H H' → E (.ref CS) none H')
end Sf
namespace Sf
open PySem PySem.Spec PyProof.Rows L2
/-- a def as it stands behind the top -/
structure Df (K : PySem.W.Frag) (mg : Str → Option Value) (x : Str) (st : Stmt) (ps : List Str) where
  f : Addr
  fd : FuncData
  F : Fun K x x st f fd
  b : Binds K fd ps []
  g : mg x = some (.ref f)
abbrev Df.k {K : PySem.W.Frag} {mg : Str → Option Value} {x : Str} {st : Stmt} {ps : List Str} (D : Df K mg x st ps) : PySem.W.keepIn K (.ref D.f) = true := D.F.kp
abbrev FnD (P : Program) (w : World) {K : PySem.W.Frag} {mg : Str → Option Value} (base : Heap) (CX : CXT) (k : Nat) {x : Str} {st : Stmt} {ps : List Str} (D : Df K mg x st ps) (sp : Sp) : Prop := FnOk P w K mg base CX k D.f D.fd ps sp
/-- an exception class of the program's own, over ValueError, without methods -/
structure Ec (K : PySem.W.Frag) (mg : Str → Option Value) (x : Str) where
  C : Addr
  g : mg x = some (.ref C)
  xi : PySem.W.excIn K C [.type "ValueError", .type "Exception", .type "BaseException", .type "object"] "ValueError.__new__" = true
  k : PySem.W.keepIn K (.ref C) = true
  sb : PySem.W.subIn K (.ref C) (.type "BaseException") = some true
  ty : PySem.W.typeIn K (.ref C) = some (.type "type")
end Sf
namespace Sf
open PySem PySem.Spec PyProof.Rows L2
theorem iteDT {c A B : Prop} [Decidable c] (hc : c) (h : A) : if decide c = true then A else B := by
  rw [decide_eq_true hc]
  exact iteT h
theorem iteDF {c A B : Prop} [Decidable c] (hc : ¬ c) (h : B) : if decide c = true then A else B := by
  rw [decide_eq_false hc]
  exact iteF h
theorem iteNT {c A B : Prop} [Decidable c] (hc : ¬ c) (h : A) : if (!decide c) = true then A else B := by
  rw [decide_eq_false hc]
  exact iteT h
theorem iteNF {c A B : Prop} [Decidable c] (hc : c) (h : B) : if (!decide c) = true then A else B := iteNS hc h
theorem iteN2 {b : Bool} {A B : Prop} (h1 : b = false → A) (h2 : b = true → B) : if (!b) = true then A else B := by
  cases b
  · exact iteT (h1 rfl)
  · exact iteF (h2 rfl)
section
variable {X : Cx} {CX : CXT} {k : Nat} {x : Str} {st : Stmt} {ps : List Str} {sp : Sp} {E : XK} {p pos : Pos} {e : Expr} {es : List Expr} {t : TA}
/-- a def's call -/
theorem pe_d (D : Df X.K X.mg x st ps) (G : FnOk X.prog X.w X.K X.mg X.base CX k D.f D.fd ps sp) (hr : Room k X.A) (hx : Passes CX X E) (ha : PA X (e :: es) t) (hg : Gl X x := by rfl)
    (hdb : (x == ("__debug__" : Str)) = false := by decide) (he : starEach (e :: es) X.env = (false, eval e X.env) :: starEach es X.env := by rfl) (hpl : (backTo pos (starEach es X.env)).any (·.1) = false := by rfl) :
    PE X (.Call (.Name x p) (e :: es) [] pos) (tCall sp [] E t) := pe_call G hr hg D.g D.k D.b .nil hx ha hdb he hpl
end
/-- raise X('..') -/
theorem ps_rs {X : Cx} {x m : Str} {W : WX} {j : Nat} {p p2 pos pos2 : Pos} (D : Ec X.K X.mg x) (hc : X.calm = true) (tk : Takes X W) (hg : Gl X x := by rfl) (hdb : (x == ("__debug__" : Str)) = false := by decide) :
    PS X (.Raise (some (.Call (.Name x p) [.Constant (.str m) j p2] [] pos)) none pos2) (fun _ σ H => W (.ref D.C) none σ H) :=
  ps_raise hc tk (pmk_own PySem.F.excBase_ValueError D.xi D.g D.k (raises_own D.sb D.ty) hg hdb)
section
variable {X : Cx} {p pos : Pos} {e : Expr} {es : List Expr} {t : TA} {id T : String} {r : List V → Hp → VK → Prop} {x : Str}
/-- built-in functions and types by their names -/
theorem pe_b (hc : CallR X (.builtin id) r) (hm : X.mg x = none) (ha : PA X (e :: es) t) (hv : bootBuiltins x = some (.builtin id) := by decide +kernel) (hg : Gl X x := by rfl) (hn : x ≠ "__name__" := by decide) (hdb : (x == ("__debug__" : Str)) = false := by decide)
    (he : starEach (e :: es) X.env = (false, eval e X.env) :: starEach es X.env := by rfl) (hpl : (backTo pos (starEach es X.env)).any (·.1) = false := by rfl) : PE X (.Call (.Name x p) (e :: es) [] pos) (tCB r t) := pe_callB hc hg hm hv ha hn hdb he hpl
theorem pe_t (hc : CallR X (.type T) r) (hm : X.mg x = none) (ha : PA X (e :: es) t) (hv : bootBuiltins x = some (.type T) := by decide +kernel) (hg : Gl X x := by rfl) (hn : x ≠ "__name__" := by decide) (hdb : (x == ("__debug__" : Str)) = false := by decide)
    (he : starEach (e :: es) X.env = (false, eval e X.env) :: starEach es X.env := by rfl) (hpl : (backTo pos (starEach es X.env)).any (·.1) = false := by rfl) : PE X (.Call (.Name x p) (e :: es) [] pos) (tCB r t) := pe_callTy hc hg hm hv ha hn hdb he hpl
theorem pe_ty (hm : X.mg x = none) (hv : bootBuiltins x = some (.type T) := by decide +kernel) (hg : Gl X x := by rfl) (hn : x ≠ "__name__" := by decide) (hd : (x == ("__debug__" : Str)) = false := by decide) : PE X (.Name x pos) (tC (.ty T)) := pe_bltn hg hm hv rfl hn hd
theorem pa1 {a : Expr} {ta : TE} (ha : PE X a ta) (hs : starEach (a :: []) X.env = (false, eval a X.env) :: starEach [] X.env := by rfl) : PA X [a] (tCons ta tNil) := pa_cons ha pa_nil hs
/-- a module's int -/
theorem pe_k {n : Int} {tk : Tok} (hm : X.mg x = some (.int n tk)) (hg : Gl X x := by rfl) (hd : (x == ("__debug__" : Str)) = false := by decide) : PE X (.Name x pos) (tC (.int n)) := pe_glob hg hm ⟨tk, rfl⟩ hd
end
end Sf
namespace Sf
open PySem PySem.Spec PyProof.Rows L2
theorem ints_of : ∀ {xs : List V}, (∀ (j : Nat) (z : V), xs[j]? = some z → ∃ n : Int, z = .int n) → ∃ ns : List Int, xs = VI ns
  | [], _ => ⟨[], rfl⟩
  | x :: xs, h => by
    obtain ⟨n, rfl⟩ := h 0 x rfl
    obtain ⟨ns, e⟩ := ints_of (xs := xs) fun j z hz => h (j + 1) z (by simpa using hz)
    exact ⟨n :: ns, by rw [e]; rfl⟩
theorem VI_inj : ∀ {a b : List Int}, VI a = VI b → a = b
  | [], [], _ => rfl
  | [], _ :: _, h => by cases h
  | _ :: _, [], h => by cases h
  | x :: xs, y :: ys, h => by
    have h' : V.int x :: VI xs = V.int y :: VI ys := h
    injection h' with h1 h2
    injection h1 with h1
    rw [h1, VI_inj h2]
theorem VI_get {ns : List Int} {j : Nat} {z : V} (h : (VI ns)[j]? = some z) : ∃ n, ns[j]? = some n ∧ z = .int n := by
  rw [List.getElem?_map] at h
  cases e : ns[j]? with
  | none => rw [e] at h; cases h
  | some n => rw [e] at h; exact ⟨n, rfl, (Option.some.inj h).symm⟩
theorem cut_drop (xs : List V) (k : Nat) (hk : k ≤ xs.length) : cutV xs (some (k : Int)) none = xs.drop k := by
  unfold cutV
  rw [HT.sIx_nat, HT.sIx_none, Nat.min_eq_left hk, List.take_of_length_le (by rw [List.length_drop]; omega)]
theorem VI_drop (ns : List Int) (k : Nat) : (VI ns).drop k = VI (ns.drop k) := (List.map_drop).symm
theorem cnt_take {z : Int} {l : List Int} {k : Nat} {y : Int} (h : l[k]? = some y) : cnt z (l.take (k + 1)) = cnt z (l.take k) + if y < z then 1 else 0 := by
  rw [List.take_succ, h, cnt_append]
  show _ + cnt z [y] = _
  rw [cnt_cons]
  show _ + (0 + _) = _
  omega
theorem inv_drop {l : List Int} {i : Nat} {z : Int} (h : l[i]? = some z) : inv (l.drop i) = cnt z (l.drop (i + 1)) + inv (l.drop (i + 1)) := by
  obtain ⟨hi, e⟩ := List.getElem?_eq_some_iff.mp h
  rw [List.drop_eq_getElem_cons hi, e]
  rfl
theorem tiles_take {l : List Int} {i : Nat} {z : Int} (h : l[i]? = some z) : tiles (l.take (i + 1)) = if z = 0 then tiles (l.take i) else tiles (l.take i) ++ [z] := by
  unfold tiles
  rw [List.take_succ, h, List.filter_append]
  by_cases e : z = 0
  · rw [if_pos e]
    subst e
    show _ ++ [(0 : Int)].filter _ = _
    simp
  · rw [if_neg e]
    show _ ++ [z].filter _ = _
    rw [List.filter_cons_of_pos (by simpa using e)]
    rfl
theorem tiles_len (l : List Int) : (tiles l).length ≤ l.length := List.length_filter_le _ _
abbrev nV (n : Nat) : V := .int (n : Int)
def spCR (K : PySem.W.Frag) : Sp := fun vs H Q _ => ∃ (a : Addr) (p w h : Nat), vs = [.ref a, nV p] ∧ SqT K H a [nV w, nV h] ∧ Fl w h ∧ ∀ t, H t = none → Q (.ref t) (upd H t (.tup [nV (p % w), nV (p / w)]))
def spLine (K : PySem.W.Frag) : Sp := fun vs H Q _ => ∃ (a : Addr) (w h : Nat), vs = [.ref a] ∧ SqT K H a [nV w, nV h] ∧ Q (.bl (decide (w = 1 ∨ h = 1))) H
def spFalls (K : PySem.W.Frag) : Sp := fun vs H Q _ => ∃ (a : Addr) (st : List Int), vs = [.ref a] ∧ SqT K H a (VI st) ∧ ∀ H', Same H H' → Q (nV (inv st)) H'
def spTiles (K : PySem.W.Frag) : Sp := fun vs H Q _ => ∃ (a : Addr) (st : List Int), vs = [.ref a] ∧ SqT K H a (VI st) ∧ st.length ≤ 16 ∧ ∀ H' t, Same H H' → H' t = some (.lst (VI (tiles st))) → Q (.ref t) H'
/-- side, is_joined, how_many: of good ones, or the refusals in their order -/
def spSide (K : PySem.W.Frag) (CF CS : Addr) : Sp := fun vs H Q E => ∃ f v o, vs = [f, v] ∧ FlV K H f o ∧ (o = none → E (.ref CF) none H) ∧
  ∀ w h, o = some (w, h) → ∃ o2, StV K H (w * h) v o2 ∧ (∀ st, o2 = some st → ∀ H', Same H H' → Q (nV (sideM w st)) H') ∧ (o2 = none → ∀ H', Same H H' → E (.ref CS) none H')
/-- are two standings joined, by the program's own test -/
def joinM (w h : Nat) (st st' : List Int) : Bool := if w = 1 ∨ h = 1 then decide (tiles st = tiles st') else decide (sideM w st = sideM w st')
def spJoin (K : PySem.W.Frag) (CF CS : Addr) : Sp := fun vs H Q E => ∃ f v v' o, vs = [f, v, v'] ∧ FlV K H f o ∧ (o = none → E (.ref CF) none H) ∧
  ∀ w h, o = some (w, h) → ∃ o2, StV K H (w * h) v o2 ∧ (o2 = none → ∀ H', Same H H' → E (.ref CS) none H') ∧
    ∀ st, o2 = some st → ∃ o3, StV K H (w * h) v' o3 ∧ (o3 = none → ∀ H', Same H H' → E (.ref CS) none H') ∧ (∀ st', o3 = some st' → ∀ H', Same H H' → Q (.bl (joinM w h st st')) H')
section
variable {K : PySem.W.Frag} {H H' : Hp}
theorem sm_ty {v : V} {T : String} (s : Same H H') (t : TyB K H v T) : TyB K H' v T := by
  cases t with
  | non => exact .non
  | bl b => exact .bl b
  | int i => exact .int i
  | str x => exact .str x
  | byt b => exact .byt b
  | lst h => exact .lst (s.seq h)
  | tup h => exact .tup (sm_tup s h)
  | dK h => exact .dK (s _ _ h)
theorem sm_fl {v : V} {o : Option (Nat × Nat)} (s : Same H H') (t : FlV K H v o) : FlV K H' v o := by
  cases t with
  | good h F => exact .good (sm_tup s h) F
  | kind t n => exact .kind (sm_ty s t) n
  | size h n => exact .size (sm_tup s h) n
  | side h kx ky n =>
    obtain ⟨tx, kx⟩ := kx
    obtain ⟨ty, ky⟩ := ky
    exact .side (sm_tup s h) ⟨tx, sm_ty s kx⟩ ⟨ty, sm_ty s ky⟩ n
theorem sm_st {n : Nat} {v : V} {o : Option (List Int)} (s : Same H H') (t : StV K H n v o) : StV K H' n v o := by
  cases t with
  | good h S => exact .good (h.same s) S
  | kind t n => exact .kind (sm_ty s t) n
  | size h n => exact .size (sm_tup s h) n
  | items h e k n => exact .items (sm_tup s h) e (fun x hx => (k x hx).imp fun _ q => sm_ty s q) n
end
end Sf
namespace Sf
open PySem PySem.Spec PyProof.Rows L2
/-! ### the promises of a law's own helpers -/
def spDraw (K : PySem.W.Frag) : Sp := fun vs H Q _ => ∃ (a : Addr) (ns : List Int) (k : Int), vs = [.ref a, .int k] ∧ SqL K H a (VI ns) ∧ 0 ≤ k ∧ k ≤ 100000 ∧ ∀ (n : Nat) (H' : Hp), n < 2 ^ 30 → Same H H' → Q (nV n) H'
def spWhole : Sp := fun vs H Q _ => ∃ i : Int, vs = [.int i] ∧ Q (.bl true) H
def spFloor : Sp := fun vs H Q _ => ∃ n : Nat, vs = [nV n] ∧ ∀ (t : Addr) (w h : Nat) (H' : Hp), H t = none → Fl w h → Same H H' → H' t = some (.tup [nV w, nV h]) → Q (.ref t) H'
def spStanding (K : PySem.W.Frag) : Sp := fun vs H Q _ => ∃ (a f : Addr) (ns : List Int) (k : Int) (w h : Nat), vs = [.ref a, .int k, .ref f] ∧ SqL K H a (VI ns) ∧ 0 ≤ k ∧ k ≤ 10000 ∧ SqT K H f [nV w, nV h] ∧ Fl w h ∧
  ∀ (p : Addr) (st : List Int) (H' : Hp), H p = none → Std (w * h) st → Same H H' → TD H' p (VI st) → Q (.ref p) H'
def dS : Dir → Str
  | .up => "up"
  | .down => "down"
  | .left => "left"
  | .right => "right"
def spMoved (K : PySem.W.Frag) : Sp := fun vs H Q _ => ∃ (f s : Addr) (d : Dir) (w h : Nat) (st : List Int), vs = [.ref f, .ref s, .str (dS d)] ∧ SqT K H f [nV w, nV h] ∧ Fl w h ∧ TD H s (VI st) ∧ Std (w * h) st ∧
  (step w h st d = none → ∀ H', Same H H' → Q .non H') ∧ ∀ st', step w h st d = some st' → ∀ (p : Addr) (H' : Hp), H p = none → Same H H' → TD H' p (VI st') → Q (.ref p) H'
def dirs : List Dir := [.up, .down, .left, .right]
def wordsM (w h : Nat) (st : List Int) : List Dir := dirs.filter fun d => (step w h st d).isSome
def wV (ds : List Dir) : List V := ds.map fun d => .str (dS d)
def spWords (K : PySem.W.Frag) : Sp := fun vs H Q _ => ∃ (f s : Addr) (w h : Nat) (st : List Int), vs = [.ref f, .ref s] ∧ SqT K H f [nV w, nV h] ∧ Fl w h ∧ TD H s (VI st) ∧ Std (w * h) st ∧
  ∀ (p : Addr) (H' : Hp), H p = none → Same H H' → H' p = some (.lst (wV (wordsM w h st))) → Q (.ref p) H'
/-- draws -/
theorem draw_nat {c k : Int} (h0 : 0 ≤ k) (h1 : k ≤ 100000) : let n := c % 1000000007 + 7919 * k + 13
    (-(2 ^ 64) < n ∧ n < 2 ^ 64) ∧ (-(2 ^ 64) < n * n % 1000000007 ∧ n * n % 1000000007 < 2 ^ 64) ∧ ∃ m : Nat, n * n % 1000000007 * n % 998244353 / 11 = (m : Int) ∧ m < 2 ^ 30 := by
  intro n
  have hc1 : 0 ≤ c % 1000000007 := Int.emod_nonneg _ (by decide)
  have hc2 : c % 1000000007 < 1000000007 := Int.emod_lt_of_pos _ (by decide)
  have hn : n = c % 1000000007 + 7919 * k + 13 := rfl
  have hr1 : 0 ≤ n * n % 1000000007 := Int.emod_nonneg _ (by decide)
  have hr2 : n * n % 1000000007 < 1000000007 := Int.emod_lt_of_pos _ (by decide)
  generalize n * n % 1000000007 = r at hr1 hr2 ⊢
  have hs1 : 0 ≤ r * n % 998244353 := Int.emod_nonneg _ (by decide)
  have hs2 : r * n % 998244353 < 998244353 := Int.emod_lt_of_pos _ (by decide)
  generalize r * n % 998244353 = q at hs1 hs2 ⊢
  refine ⟨⟨by omega, by omega⟩, ⟨by omega, by omega⟩, (q / 11).toNat, by omega, by omega⟩
end Sf
namespace Sf
open PySem PySem.Spec PyProof.Rows L2
/-! ### rows of pairs -/
/-- the rows so far: at each place j a tuple of some int and j -/
def RowsAt (H : Hp) (ts : List Addr) : Prop := ∀ (j : Nat) (t : Addr), ts[j]? = some t → ∃ d : Int, H t = some (.tup [.int d, nV j])
theorem RowsAt.same {H H' : Hp} {ts : List Addr} (s : Same H H') (r : RowsAt H ts) : RowsAt H' ts := fun j t e => let ⟨d, h⟩ := r j t e; ⟨d, s _ _ h⟩
theorem RowsAt.more {H : Hp} {ts : List Addr} {t : Addr} {d : Int} (r : RowsAt H ts) (h : H t = some (.tup [.int d, nV ts.length])) : RowsAt H (ts ++ [t]) := fun j u e => by
  by_cases hj : j < ts.length
  · rw [List.getElem?_append_left hj] at e
    exact r j u e
  · rw [List.getElem?_append_right (by omega)] at e
    have : j = ts.length := by
      have := (List.getElem?_eq_some_iff.mp e).1
      simp at this
      omega
    subst this
    simp at e
    subst e
    exact ⟨d, h⟩
/-- the second of a row -/
def sndOf (H : Hp) (v : V) : Int := match v with
  | .ref t => (match H t with | some (.tup [_, .int z]) => z | _ => 0)
  | _ => 0
theorem sndOf_at {H : Hp} {t : Addr} {d z : Int} (h : H t = some (.tup [.int d, .int z])) : sndOf H (.ref t) = z := by
  show (match H t with | some (.tup [_, .int z]) => z | _ => 0) = z
  rw [h]
theorem rows_iota {H : Hp} {ts : List Addr} (r : RowsAt H ts) : (ts.map V.ref).map (sndOf H) = iota ts.length := by
  refine List.ext_getElem? fun j => ?_
  unfold iota
  rw [List.map_map, List.getElem?_map, List.getElem?_map]
  by_cases hj : j < ts.length
  · obtain ⟨d, h⟩ := r j _ (List.getElem?_eq_getElem hj)
    rw [List.getElem?_eq_getElem hj, List.getElem?_range hj]
    show some (sndOf H (.ref ts[j])) = some (j : Int)
    rw [sndOf_at h]
  · rw [List.getElem?_eq_none (by omega), List.getElem?_eq_none (by simp; omega)]
    rfl
theorem take_map_more {α β : Type} {f : α → β} {l : List α} {i : Nat} {x : α} (h : l[i]? = some x) : (l.take (i + 1)).map f = (l.take i).map f ++ [f x] := by
  rw [List.take_succ, h, List.map_append]
  rfl
end Sf
namespace Sf
open PySem PySem.Spec PyProof.Rows L2
theorem ixT {X : Cx} {K : PySem.W.Frag} (h : X.K = K) : IxR X (rIxT K) := h ▸ ix_tup
theorem ixL {X : Cx} {K : PySem.W.Frag} (h : X.K = K) : IxR X (rIxL K) := h ▸ ix_list
end Sf
namespace Sf
open PySem PySem.Spec PyProof.Rows L2
/-- column and row of the place that a move means -/
def crd (w e : Nat) : Dir → Int × Int
  | .up => ((e % w : Nat), (e / w : Nat) + 1)
  | .down => ((e % w : Nat), (e / w : Nat) - 1)
  | .left => ((e % w : Nat) + 1, (e / w : Nat))
  | .right => ((e % w : Nat) - 1, (e / w : Nat))
theorem tgt_out {w h e : Nat} {d : Dir} (hw : 0 < w) (he : e < w * h) (o : (crd w e d).1 < 0 ∨ (crd w e d).2 < 0 ∨ (w : Int) ≤ (crd w e d).1 ∨ (h : Int) ≤ (crd w e d).2) : tgt w h e d = none := by
  have hx : e % w < w := Nat.mod_lt e hw
  have hy : e / w < h := Nat.div_lt_of_lt_mul he
  cases d <;> simp only [crd] at o <;> simp only [tgt] <;> generalize e % w = X at * <;> generalize e / w = Y at * <;> exact if_neg (by omega)
theorem tgt_in {w h e : Nat} {d : Dir} (hw : 0 < w) (he : e < w * h) (o : ¬ ((crd w e d).1 < 0 ∨ (crd w e d).2 < 0 ∨ (w : Int) ≤ (crd w e d).1 ∨ (h : Int) ≤ (crd w e d).2)) : ∃ t : Nat, tgt w h e d = some t ∧ (crd w e d).1 + (crd w e d).2 * w = (t : Int) := by
  have hx : e % w < w := Nat.mod_lt e hw
  have hy : e / w < h := Nat.div_lt_of_lt_mul he
  have key : ∀ {x y : Nat} {a b : Int}, a = (x : Int) → b = (y : Int) → a + b * w = ((x + y * w : Nat) : Int) := fun {x y a b} h1 h2 => by
    rw [h1, h2, Int.natCast_add, Int.natCast_mul]
  cases d <;> simp only [crd] at o ⊢ <;> simp only [tgt] <;> generalize e % w = X at * <;> generalize e / w = Y at *
  · exact ⟨_, if_pos (by omega), key rfl (by omega)⟩
  · exact ⟨_, if_pos (by omega), key rfl (by omega)⟩
  · exact ⟨_, if_pos (by omega), key (by omega) rfl⟩
  · exact ⟨_, if_pos (by omega), key (by omega) rfl⟩
theorem crd_by {w e : Nat} {d : Dir} (he : e < 100) : -(2 ^ 64) < (crd w e d).2 ∧ (crd w e d).2 < 2 ^ 64 := by
  have : e / w ≤ e := Nat.div_le_self _ _
  cases d <;> simp only [crd] <;> generalize e / w = Y at * <;> omega
theorem ixN_at {n t : Nat} {k : Int} (e : k = (t : Int)) (h : t < n) : ixN n k = some t := by
  subst e
  unfold ixN
  rw [if_pos (by omega), if_pos (by omega)]
  rfl
theorem VI_set (l : List Int) (t : Nat) (v : Int) : (VI l).set t (.int v) = VI (l.set t v) := (List.map_set).symm
theorem map_zero {n : Nat} {st : List Int} (S : Std n st) (h : 0 < n) (v : Int) : (st.map fun z => if z = 0 then v else z) = st.set (zat st) v := by
  refine List.ext_getElem? fun j => ?_
  rw [List.getElem?_map, List.getElem?_set]
  have hz := S.zat_get h
  by_cases hj : zat st = j
  · subst hj
    rw [if_pos rfl, if_pos (List.getElem?_eq_some_iff.mp hz).1, hz]
    rfl
  · rw [if_neg hj]
    cases e : st[j]? with
    | none => rfl
    | some z =>
      have : z ≠ 0 := fun q => hj (nodup_get S.nodup hz (by rw [e, q]))
      show some (if z = 0 then v else z) = some z
      rw [if_neg this]
theorem swap_zero {n : Nat} {st : List Int} (S : Std n st) (h : 0 < n) (t : Nat) : ((st.map fun z => if z = 0 then st.getD t 0 else z).set t 0) = swapAt st (zat st) t := by
  rw [map_zero S h]
  unfold swapAt
  rw [S.zat_getD h]
theorem dS_eq (d d' : Dir) : decide (V.str (dS d) = V.str (dS d')) = decide (d = d') := by
  cases d <;> cases d' <;> decide +kernel
end Sf
namespace Sf
open PySem PySem.Spec PyProof.Rows L2
theorem inv_snoc (a : Int) : ∀ l : List Int, inv (l ++ [a]) = inv l + l.countP fun b => decide (a < b)
  | [] => by simp [inv, cnt]
  | c :: l => by
    have ih := inv_snoc a l
    have e : cnt c (l ++ [a]) = cnt c l + (if a < c then 1 else 0) := by
      rw [cnt_append, cnt_cons]
      show _ + (0 + _) = _
      omega
    show cnt c (l ++ [a]) + inv (l ++ [a]) = cnt c l + inv l + _
    rw [e, ih, List.countP_cons]
    by_cases h : a < c <;> simp [h] <;> omega
/-- so many ahead of the place p are greater -/
def ahead (l : List Int) (z : Int) : Nat := l.countP fun b => decide (z < b)
theorem ahead_take {z : Int} {l : List Int} {k : Nat} {y : Int} (h : l[k]? = some y) : ahead (l.take (k + 1)) z = ahead (l.take k) z + if z < y then 1 else 0 := by
  unfold ahead
  rw [List.take_succ, h, List.countP_append]
  show _ + List.countP _ [y] = _
  rw [List.countP_cons]
  by_cases e : z < y <;> simp [e]
theorem inv_take {l : List Int} {p : Nat} {z : Int} (h : l[p]? = some z) : inv (l.take (p + 1)) = inv (l.take p) + ahead (l.take p) z := by
  rw [List.take_succ, h]
  exact inv_snoc z _
/-- the places of tiles among the first i -/
def plN (st : List Int) (i : Nat) : List Nat := (List.range i).filter fun j => decide (0 < st.getD j 0)
def plV (st : List Int) (i : Nat) : List V := (plN st i).map nV
theorem plV_more (st : List Int) (i : Nat) : plV st (i + 1) = if 0 < st.getD i 0 then plV st i ++ [nV i] else plV st i := by
  unfold plV plN
  rw [List.range_succ, List.filter_append]
  by_cases h : 0 < st.getD i 0
  · rw [if_pos h, List.filter_cons_of_pos (by simpa using h), List.map_append]
    rfl
  · rw [if_neg h, List.filter_cons_of_neg (by simpa using h)]
    simp
theorem plN_nodup (st : List Int) (i : Nat) : (plN st i).Nodup := List.Pairwise.filter _ List.nodup_range
theorem plN_mem {st : List Int} {i j : Nat} (h : j ∈ plN st i) : j < i ∧ 0 < st.getD j 0 := by
  unfold plN at h
  obtain ⟨a, b⟩ := List.mem_filter.mp h
  exact ⟨List.mem_range.mp a, of_decide_eq_true b⟩
theorem plN_len (st : List Int) (i : Nat) : (plN st i).length ≤ i := by
  unfold plN
  exact Nat.le_trans (List.length_filter_le _ _) (by simp)
theorem other_ne {s r L : Nat} (hs : s < L) (hr : r < L - 1) : (s + 1 + r) % L ≠ s := by
  by_cases h : s + 1 + r < L
  · rw [Nat.mod_eq_of_lt h]
    omega
  · have e : (s + 1 + r) % L = s + 1 + r - L := by
      rw [Nat.mod_eq_sub_mod (by omega), Nat.mod_eq_of_lt (by omega)]
    omega
theorem plV_len (st : List Int) (m : Nat) : (plV st m).length = (plN st m).length := by unfold plV; rw [List.length_map]
theorem pick_two {st : List Int} {m N : Nat} (n : Nat) (hN : (plN st m).length = N) (h : 1 < N) : ∃ a c : Nat, a < m ∧ c < m ∧ a ≠ c ∧ 0 < st.getD a 0 ∧ 0 < st.getD c 0 ∧
    (plV st m)[n % N]? = some (nV a) ∧ (plV st m)[(n % N + 1 + n / 16 % (N - 1)) % N]? = some (nV c) := by
  subst hN
  have hmem : ∀ {q : Nat} (hq : q < (plN st m).length), (plV st m)[q]? = some (nV (plN st m)[q]) ∧ (plN st m)[q] < m ∧ 0 < st.getD (plN st m)[q] 0 := fun {q} hq => by
    refine ⟨?_, plN_mem (List.getElem_mem hq)⟩
    unfold plV
    rw [List.getElem?_map, List.getElem?_eq_getElem hq]
    rfl
  have hsp : n % (plN st m).length < (plN st m).length := Nat.mod_lt _ (by omega)
  have hr1 : n / 16 % ((plN st m).length - 1) < (plN st m).length - 1 := Nat.mod_lt _ (by omega)
  have hix : (n % (plN st m).length + 1 + n / 16 % ((plN st m).length - 1)) % (plN st m).length < (plN st m).length := Nat.mod_lt _ (by omega)
  have hne := other_ne hsp hr1
  obtain ⟨ga, la, pa⟩ := hmem hsp
  obtain ⟨gc, lc, pc⟩ := hmem hix
  exact ⟨_, _, la, lc, fun q => hne ((List.getElem_inj (plN_nodup st m)).mp q).symm, pa, pc, ga, gc⟩
theorem pick_idx (n N : Nat) (h : 1 < N) : (((n % N : Nat) : Int) + 1 + ((n : Int) / 16 % ((N : Int) - 1))) % (N : Int) = (((n % N + 1 + n / 16 % (N - 1)) % N : Nat) : Int) := by
  have e3 : (N : Int) - 1 = ((N - 1 : Nat) : Int) := by omega
  have e4 : (n : Int) / 16 % ((N - 1 : Nat) : Int) = ((n / 16 % (N - 1) : Nat) : Int) := rfl
  have e2 : ((n % N : Nat) : Int) + 1 + ((n : Int) / 16 % ((N : Int) - 1)) = ((n % N + 1 + n / 16 % (N - 1) : Nat) : Int) := by
    rw [e3, e4]
    omega
  rw [e2]
  rfl
def spLSide (K : PySem.W.Frag) : Sp := fun vs H Q _ => ∃ (f s : Addr) (w h : Nat) (st : List Int), vs = [.ref f, .ref s] ∧ SqT K H f [nV w, nV h] ∧ Fl w h ∧ TD H s (VI st) ∧ Std (w * h) st ∧ Q (nV (sideM w st)) H
def spExch (K : PySem.W.Frag) : Sp := fun vs H Q _ => ∃ (s : Addr) (n m : Nat) (st : List Int), vs = [.ref s, nV n] ∧ TD H s (VI st) ∧ Std m st ∧ 0 < m ∧ m ≤ 16 ∧
  ∀ (p : Addr) (st' : List Int) (H' : Hp), H p = none → Same H H' → TD H' p (VI st') → (st' = st ∨ ∃ i j, i < m ∧ j < m ∧ i ≠ j ∧ 0 < st.getD i 0 ∧ 0 < st.getD j 0 ∧ st' = swapAt st i j) → Q (.ref p) H'
def spRight (K : PySem.W.Frag) : Sp := fun vs H Q _ => ∃ (f a b : Addr) (w h due : Nat) (st st' : List Int), vs = [.ref f, .ref a, .ref b, nV due] ∧ SqT K H f [nV w, nV h] ∧ Fl w h ∧ TD H a (VI st) ∧ Std (w * h) st ∧ TD H b (VI st') ∧ Std (w * h) st' ∧
  sideM w st' = due ∧ joinM w h st st' = true ∧ joinM w h st' st = true ∧ ∀ H', Same H H' → Q (.bl true) H'
end Sf
namespace Sf
open PySem PySem.Spec PyProof.Rows L2
theorem words_some {w h : Nat} {st : List Int} (F : Fl w h) (S : Std (w * h) st) : 0 < (wordsM w h st).length := by
  have he := S.zat_lt F.pos
  have hx : zat st % w < w := Nat.mod_lt _ F.w1
  have hy : zat st / w < h := Nat.div_lt_of_lt_mul he
  have key : ∀ d : Dir, (tgt w h (zat st) d).isSome = true → 0 < (wordsM w h st).length := fun d hd => by
    refine List.length_pos_of_mem (a := d) ?_
    unfold wordsM
    refine List.mem_filter.mpr ⟨by cases d <;> simp [dirs], ?_⟩
    unfold step
    rw [Option.isSome_map]
    exact hd
  by_cases h1 : 1 < w
  · by_cases h2 : zat st % w + 1 < w
    · exact key .left (by simp only [tgt]; rw [if_pos h2]; rfl)
    · exact key .right (by simp only [tgt]; rw [if_pos (by omega)]; rfl)
  · have : w = 1 := by have := F.w1; omega
    have := F.two
    have h3 : 1 < h := by subst w; omega
    by_cases h2 : zat st / w + 1 < h
    · exact key .up (by simp only [tgt]; rw [if_pos h2]; rfl)
    · exact key .down (by simp only [tgt]; rw [if_pos (by omega)]; rfl)
theorem words_step {w h : Nat} {st : List Int} {j : Nat} {d : Dir} (e : (wordsM w h st)[j]? = some d) : ∃ st', step w h st d = some st' := by
  have hm := List.mem_of_getElem? e
  unfold wordsM at hm
  exact Option.isSome_iff_exists.mp (List.mem_filter.mp hm).2
theorem wV_get {ds : List Dir} {j : Nat} (h : j < ds.length) : ∃ d, ds[j]? = some d ∧ (wV ds)[j]? = some (.str (dS d)) := by
  refine ⟨ds[j], List.getElem?_eq_getElem h, ?_⟩
  unfold wV
  rw [List.getElem?_map, List.getElem?_eq_getElem h]
  rfl
theorem wV_len (ds : List Dir) : (wV ds).length = ds.length := by unfold wV; rw [List.length_map]
/-- what holds of a standing that came by moves -/
structure Came (w h : Nat) (st st' : List Int) : Prop where
  S : Std (w * h) st'
  side : sideM w st' = sideM w st
  line : w = 1 ∨ h = 1 → tiles st' = tiles st
theorem Came.step {w h : Nat} {st st' st'' : List Int} {d : Dir} (F : Fl w h) (c : Came w h st st') (e : step w h st' d = some st'') : Came w h st st'' :=
  ⟨step_std F c.S e, (step_side F c.S e).trans c.side, fun l => (step_tiles F c.S l e).trans (c.line l)⟩
theorem Came.join {w h : Nat} {st st' : List Int} (c : Came w h st st') : joinM w h st st' = true ∧ joinM w h st' st = true := by
  unfold joinM
  by_cases l : w = 1 ∨ h = 1
  · rw [if_pos l, if_pos l, c.line l]
    exact ⟨decide_eq_true rfl, decide_eq_true rfl⟩
  · rw [if_neg l, if_neg l, c.side]
    exact ⟨decide_eq_true rfl, decide_eq_true rfl⟩
theorem side_le (w : Nat) (st : List Int) : sideM w st ≤ 1 := by unfold sideM; omega
theorem Came.exch {w h : Nat} {st st' : List Int} {i j : Nat} (F : Fl w h) (c : Came w h st st') (hi : i < w * h) (hj : j < w * h) (ne : i ≠ j) (pi : 0 < st'.getD i 0) (pj : 0 < st'.getD j 0) :
    Std (w * h) (swapAt st' i j) ∧ sideM w (swapAt st' i j) = 1 - sideM w st ∧ joinM w h st (swapAt st' i j) = false ∧ joinM w h (swapAt st' i j) st = false := by
  have z0 := c.S.zat_getD F.pos
  have zi : zat st' ≠ i := fun q => by rw [← q, z0] at pi; omega
  have zj : zat st' ≠ j := fun q => by rw [← q, z0] at pj; omega
  have hs := exch_side F c.S hi hj ne zi zj
  rw [c.side] at hs
  have hl := side_le w st
  have hn : sideM w st ≠ sideM w (swapAt st' i j) := by omega
  refine ⟨c.S.swap hi hj ne, hs, ?_, ?_⟩
  all_goals
    unfold joinM
    by_cases l : w = 1 ∨ h = 1
    · have ht := exch_tiles c.S.nodup (by rw [c.S.len]; exact hi) (by rw [c.S.len]; exact hj) ne (by omega) (by omega)
      rw [c.line l] at ht
      rw [if_pos l]
      first
        | exact decide_eq_false ht
        | exact decide_eq_false (Ne.symm ht)
    · rw [if_neg l]
      first
        | exact decide_eq_false hn
        | exact decide_eq_false (Ne.symm hn)
theorem neg_cut (xs : List V) : (cutV xs none (some 63)).length ≤ xs.length := cutV_length _ _ _
end Sf
namespace Sf
open PySem PySem.Spec PyProof.Rows L2
/-! ### which class a kept exception is of -/
structure Kf (K : PySem.W.Frag) (cs : List Addr) (S D : Addr) (i : Nat) : Prop where
  ec : ExcC K D
  at_ : ∀ j c, cs[j]? = some c → PySem.W.kitOne K (.ref D) (.ref c) = some (decide (j = i))
  sl : PySem.W.kitOne K (.ref D) (.ref S) = some true
  ve : PySem.W.kitOne K (.ref D) (.type "ValueError") = some true
  ex : PySem.W.exmOne K (.ref D) (.ref S) = some true
theorem at7 {K : PySem.W.Frag} {D : Addr} {i : Nat} {c0 c1 c2 c3 c4 c5 c6 : Addr} (h0 : PySem.W.kitOne K (.ref D) (.ref c0) = some (decide (0 = i))) (h1 : PySem.W.kitOne K (.ref D) (.ref c1) = some (decide (1 = i))) (h2 : PySem.W.kitOne K (.ref D) (.ref c2) = some (decide (2 = i)))
    (h3 : PySem.W.kitOne K (.ref D) (.ref c3) = some (decide (3 = i))) (h4 : PySem.W.kitOne K (.ref D) (.ref c4) = some (decide (4 = i))) (h5 : PySem.W.kitOne K (.ref D) (.ref c5) = some (decide (5 = i))) (h6 : PySem.W.kitOne K (.ref D) (.ref c6) = some (decide (6 = i))) :
    ∀ j c, [c0, c1, c2, c3, c4, c5, c6][j]? = some c → PySem.W.kitOne K (.ref D) (.ref c) = some (decide (j = i)) := fun j c e => by
  match j, e with
  | 0, e => cases e; exact h0
  | 1, e => cases e; exact h1
  | 2, e => cases e; exact h2
  | 3, e => cases e; exact h3
  | 4, e => cases e; exact h4
  | 5, e => cases e; exact h5
  | 6, e => cases e; exact h6
  | n + 7, e => simp at e
/-- isinstance of a kept exception -/
def rIsX (K : PySem.W.Frag) : List V → Hp → VK → Prop := fun xs H Q => ∃ (a D : Addr) (c : V) (cv : Value) (b : Bool), xs = [.ref a, c] ∧ H a = some (ExK D a) ∧ ExcC K D ∧ ClsV c cv ∧ PySem.W.kitOne K (.ref D) cv = some b ∧ Q (.bl b) H
section
variable {X : Cx}
theorem call_isX : CallR X (.builtin "isinstance") (rIsX X.K) := by
  intro pins s σ H xs us Q I r h
  obtain ⟨a, D, c, cv, b, rfl, hH, C, hc, e, q⟩ := h
  obtain ⟨u1, u2, rfl, r1, r2⟩ := vals2 r
  cases (show u1 = Value.ref a from r1)
  have e2 := hc.eq r2
  subst e2
  obtain ⟨⟨oe, J⟩, _, _⟩ := (show ObjOk X.prog X.w H s.heap a (ExK D a) from I.hok a _ hH)
  exact PySem.W.kia_one (PySem.W.handS_kitx_exc C.hg C.hk C.hs C.hd C.ha C.hn C.ht C.hm) I.kIn J e (fun z => nomatch z) fun tk => ⟨.bl b, H, I.kept (t' := tk) fun _ _ z => z, rfl, q⟩
/-- a class of the program's own, by its name, as a value -/
theorem pe_ec {x : Str} {pos : Pos} (D : Ec X.K X.mg x) (hg : Gl X x := by rfl) (hd : (x == ("__debug__" : Str)) = false := by decide) : PE X (.Name x pos) (tC (.ref D.C)) := pe_glob hg D.g rfl hd
end
def wl : List Str := ["floor", "standing", "move", "number", "text", "many", "nothing"]
/-- the seven tests of an exception of the i-th class: what is found -/
def spWord (K : PySem.W.Frag) (cs : List Addr) (S : Addr) : Sp := fun vs H Q _ => ∃ (a D : Addr) (i : Nat) (z : Str), vs = [.ref a] ∧ Kf K cs S D i ∧ wl[i]? = some z ∧ H a = some (ExK D a) ∧
  ∀ (p : Addr) (H' : Hp), H p = none → Same H H' → H' p = some (.lst [.str z]) → Q (.ref p) H'
end Sf
namespace Sf
theorem mem_dirs (d : Dir) : d ∈ dirs := by cases d <;> simp [dirs]
/-! ### all orders of some numbers -/
def permsOf : Nat → List Int → List (List Int)
  | 0, _ => [[]]
  | k + 1, l => l.flatMap fun a => (permsOf k (l.erase a)).map (a :: ·)
theorem permsOf_mem : ∀ {k : Nat} {l x : List Int}, x.Perm l → l.length = k → x ∈ permsOf k l
  | 0, l, x, h, e => by
    have : l = [] := List.length_eq_zero_iff.mp e
    subst this
    have : x = [] := List.perm_nil.mp h
    subst this
    exact List.mem_singleton.mpr rfl
  | k + 1, l, [], h, e => by
    have := h.length_eq
    rw [e] at this
    cases this
  | k + 1, l, a :: x, h, e => by
    have ha : a ∈ l := h.mem_iff.mp List.mem_cons_self
    have h2 : x.Perm (l.erase a) := by
      have := h.erase a
      rw [List.erase_cons_head] at this
      exact this
    have h3 : (l.erase a).length = k := by rw [List.length_erase_of_mem ha, e]; rfl
    exact List.mem_flatMap.mpr ⟨a, ha, List.mem_map.mpr ⟨x, permsOf_mem h2 h3, rfl⟩⟩
theorem permsOf_nodup : ∀ {k : Nat} {l : List Int}, l.Nodup → (permsOf k l).Nodup
  | 0, l, _ => by unfold permsOf; exact List.nodup_cons.mpr ⟨by simp, List.nodup_nil⟩
  | k + 1, l, h => by
    unfold permsOf List.Nodup
    rw [List.pairwise_flatMap]
    refine ⟨fun a _ => ?_, ?_⟩
    · rw [List.pairwise_map]
      exact List.Pairwise.imp (fun {x y} n e => n (List.cons.inj e).2) (permsOf_nodup (h.erase a))
    · refine List.Pairwise.imp (fun {a b} n x hx y hy e => ?_) h
      obtain ⟨x', _, rfl⟩ := List.mem_map.mp hx
      obtain ⟨y', _, rfl⟩ := List.mem_map.mp hy
      exact n (List.cons.inj e).1
def allS (n : Nat) : List (List Int) := permsOf n (iota n)
theorem allS_mem {n : Nat} {st : List Int} (S : Std n st) : st ∈ allS n := permsOf_mem S (iota_len n)
theorem allS_nodup (n : Nat) : (allS n).Nodup := permsOf_nodup (iota_nodup n)
theorem nodup_le {α : Type} [DecidableEq α] : ∀ {l m : List α}, l.Nodup → (∀ x ∈ l, x ∈ m) → l.length ≤ m.length
  | [], _, _, _ => Nat.zero_le _
  | x :: l, m, hn, hs => by
    obtain ⟨h1, h2⟩ := List.nodup_cons.mp hn
    have hx : x ∈ m := hs x List.mem_cons_self
    have ih := nodup_le (m := m.erase x) h2 fun y hy => by
      have hne : y ≠ x := fun e => h1 (e ▸ hy)
      exact (List.mem_erase_of_ne hne).2 (hs y (List.mem_cons_of_mem _ hy))
    have e := List.length_erase_of_mem hx
    have hp := List.length_pos_of_mem hx
    rw [List.length_cons]
    omega
/-! ### ways of so many moves -/
inductive Path (w h : Nat) : Nat → List Int → List Int → Prop
  | nil {st : List Int} : Path w h 0 st st
  | snoc {n : Nat} {st st' st'' : List Int} {d : Dir} : Path w h n st st' → step w h st' d = some st'' → Path w h (n + 1) st st''
def Reach (w h : Nat) (st st' : List Int) : Prop := ∃ n, Path w h n st st'
section
variable {w h : Nat}
theorem Path.std {n : Nat} {st st' : List Int} (F : Fl w h) (S : Std (w * h) st) (p : Path w h n st st') : Std (w * h) st' := by
  induction p with
  | nil => exact S
  | snoc _ e ih => exact step_std F (ih S) e
theorem Path.app {n m : Nat} {a b c : List Int} (p : Path w h n a b) (q : Path w h m b c) : Path w h (n + m) a c := by
  induction q with
  | nil => exact p
  | snoc _ e ih => exact .snoc (ih p) e
def opp : Dir → Dir
  | .up => .down
  | .down => .up
  | .left => .right
  | .right => .left
theorem tgt_back {e t : Nat} {d : Dir} (hw : 0 < w) (he : e < w * h) (ht : tgt w h e d = some t) : tgt w h t (opp d) = some e := by
  have hx : e % w < w := Nat.mod_lt e hw
  have hy : e / w < h := Nat.div_lt_of_lt_mul he
  have ee := at_eq (w := w) (e := e)
  cases d with
  | up =>
    simp only [tgt] at ht
    by_cases hc : e / w + 1 < h
    · rw [if_pos hc] at ht
      have e1 := (Option.some.inj ht).symm
      have m := place_mod (y := e / w + 1) hx
      have dd := place_div (y := e / w + 1) hx
      rw [← e1] at m dd
      simp only [opp, tgt, m, dd]
      rw [if_pos (Nat.le_add_left 1 _), Nat.add_sub_cancel, ee]
    · rw [if_neg hc] at ht; cases ht
  | down =>
    simp only [tgt] at ht
    by_cases hc : 1 ≤ e / w
    · rw [if_pos hc] at ht
      have e1 := (Option.some.inj ht).symm
      have m := place_mod (y := e / w - 1) hx
      have dd := place_div (y := e / w - 1) hx
      rw [← e1] at m dd
      simp only [opp, tgt, m, dd]
      rw [if_pos (by omega), show e / w - 1 + 1 = e / w by omega, ee]
    · rw [if_neg hc] at ht; cases ht
  | left =>
    simp only [tgt] at ht
    by_cases hc : e % w + 1 < w
    · rw [if_pos hc] at ht
      have e1 := (Option.some.inj ht).symm
      have m := place_mod (y := e / w) hc
      have dd := place_div (y := e / w) hc
      rw [← e1] at m dd
      simp only [opp, tgt, m, dd]
      rw [if_pos (by omega), Nat.add_sub_cancel, ee]
    · rw [if_neg hc] at ht; cases ht
  | right =>
    simp only [tgt] at ht
    by_cases hc : 1 ≤ e % w
    · rw [if_pos hc] at ht
      have e1 := (Option.some.inj ht).symm
      have m := place_mod (y := e / w) (show e % w - 1 < w by omega)
      have dd := place_div (y := e / w) (show e % w - 1 < w by omega)
      rw [← e1] at m dd
      simp only [opp, tgt, m, dd]
      rw [if_pos (by omega), show e % w - 1 + 1 = e % w by omega, ee]
    · rw [if_neg hc] at ht; cases ht
theorem swap_swap {l : List Int} {i j : Nat} (hi : i < l.length) (hj : j < l.length) (n : i ≠ j) : swapAt (swapAt l i j) j i = l := by
  refine List.ext_getElem? fun k => ?_
  by_cases hk : k < l.length
  · have h1 := swap_get (l := swapAt l i j) (i := j) (j := i) (by rw [swap_len]; exact hj) (by rw [swap_len]; exact hi) (Ne.symm n) k
    have h2 := swap_get hi hj n
    rw [getD_some (by rw [swap_len, swap_len]; exact hk), getD_some hk, h1, h2, h2, h2]
    by_cases a : k = j
    · subst a; rw [if_pos rfl, if_pos rfl]
    · rw [if_neg a]
      by_cases b : k = i
      · subst b; rw [if_pos rfl, if_neg (Ne.symm n), if_pos rfl]
      · rw [if_neg b, if_neg b, if_neg a]
  · rw [List.getElem?_eq_none (by rw [swap_len, swap_len]; omega), List.getElem?_eq_none (by omega)]
theorem step_back {st st' : List Int} {d : Dir} (F : Fl w h) (S : Std (w * h) st) (e : step w h st d = some st') : step w h st' (opp d) = some st := by
  obtain ⟨t, ht, rfl⟩ := step_some e
  have hz := S.zat_lt F.pos
  obtain ⟨a, b, _, _⟩ := tgt_facts F.w1 hz ht
  have z := S.zat_swap F.pos a b
  unfold step
  rw [z, tgt_back F.w1 hz ht]
  show some (swapAt (swapAt st (zat st) t) t (zat st)) = some st
  rw [swap_swap (by rw [S.len]; exact hz) (by rw [S.len]; exact a) b]
theorem Path.back {n : Nat} {st st' : List Int} (F : Fl w h) (S : Std (w * h) st) (p : Path w h n st st') : Path w h n st' st := by
  induction p with
  | nil => exact .nil
  | @snoc n a b c d p e ih =>
    have q : Path w h 1 c b := .snoc .nil (step_back F (p.std F S) e)
    have r := q.app (ih S)
    rw [Nat.add_comm] at r
    exact r
theorem Path.side {n : Nat} {st st' : List Int} (F : Fl w h) (S : Std (w * h) st) (p : Path w h n st st') : sideM w st' = sideM w st ∧ (w = 1 ∨ h = 1 → tiles st' = tiles st) := by
  induction p with
  | nil => exact ⟨rfl, fun _ => rfl⟩
  | snoc p e ih => exact ⟨(step_side F (p.std F S) e).trans (ih S).1, fun l => (step_tiles F (p.std F S) l e).trans ((ih S).2 l)⟩
theorem join_iff {st st' : List Int} : joinM w h st st' = true ↔ if w = 1 ∨ h = 1 then tiles st = tiles st' else sideM w st = sideM w st' := by
  unfold joinM
  by_cases l : w = 1 ∨ h = 1
  · rw [if_pos l, if_pos l, decide_eq_true_iff]
  · rw [if_neg l, if_neg l, decide_eq_true_iff]
theorem join_comm {st st' : List Int} : joinM w h st st' = joinM w h st' st := by
  have : joinM w h st st' = true ↔ joinM w h st' st = true := by
    rw [join_iff, join_iff]
    by_cases l : w = 1 ∨ h = 1
    · rw [if_pos l, if_pos l]; exact eq_comm
    · rw [if_neg l, if_neg l]; exact eq_comm
  exact Bool.eq_iff_iff.mpr this
theorem join_trans {a b c : List Int} (x : joinM w h a b = true) : joinM w h a c = joinM w h b c := by
  have : joinM w h a c = true ↔ joinM w h b c = true := by
    rw [join_iff] at x
    rw [join_iff, join_iff]
    by_cases l : w = 1 ∨ h = 1
    · rw [if_pos l] at x; rw [if_pos l, if_pos l, x]
    · rw [if_neg l] at x; rw [if_neg l, if_neg l, x]
  exact Bool.eq_iff_iff.mpr this
theorem Reach.join {st st' : List Int} (F : Fl w h) (S : Std (w * h) st) (p : Reach w h st st') : joinM w h st st' = true := by
  obtain ⟨n, p⟩ := p
  obtain ⟨a, b⟩ := p.side F S
  rw [join_iff]
  by_cases l : w = 1 ∨ h = 1
  · rw [if_pos l, b l]
  · rw [if_neg l, a]
end
/-! ### a run over a small floor, by numbers -/
def enc (st : List Int) : Nat := st.foldr (fun z c => z.toNat + 8 * c) 0
def dec : Nat → Nat → List Int
  | 0, _ => []
  | n + 1, c => ((c % 8 : Nat) : Int) :: dec n (c / 8)
theorem dec_enc : ∀ {n : Nat} {st : List Int}, st.length = n → (∀ z ∈ st, 0 ≤ z ∧ z < 8) → dec n (enc st) = st
  | 0, [], _, _ => rfl
  | n + 1, a :: st, e, h => by
    have ha := h a List.mem_cons_self
    have e1 : enc (a :: st) = a.toNat + 8 * enc st := rfl
    have h1 : (a.toNat + 8 * enc st) % 8 = a.toNat := by omega
    have h2 : (a.toNat + 8 * enc st) / 8 = enc st := by omega
    have h3 : ((a.toNat : Nat) : Int) = a := by omega
    rw [e1]
    show ((((a.toNat + 8 * enc st) % 8 : Nat)) : Int) :: dec n ((a.toNat + 8 * enc st) / 8) = _
    rw [h1, h2, h3, dec_enc (by simpa using e) fun z hz => h z (List.mem_cons_of_mem _ hz)]
theorem Std.dec {n : Nat} {st : List Int} (S : Std n st) (h8 : n ≤ 8) : dec n (enc st) = st := dec_enc S.len fun z hz => by
  have := S.mem.mp hz
  omega
@[inline] def forceN {α : Type} (n : Nat) (k : Nat → α) : α := match n with
  | 0 => k 0
  | m + 1 => k (m + 1)
theorem forceN_eq {α : Type} (n : Nat) (k : Nat → α) : forceN n k = k n := by cases n <;> rfl
/-- the codes that one comes to by a move -/
def nbc (w h c : Nat) : List Nat := dirs.filterMap fun d => (step w h (dec (w * h) c) d).map enc
def runC (w h : Nat) : Nat → List Nat → Nat → Nat
  | 0, _, seen => seen
  | _ + 1, [], seen => seen
  | n + 1, c :: todo, seen => go (fun t s => runC w h n t s) (nbc w h c) todo seen
where
  go (k : List Nat → Nat → Nat) : List Nat → List Nat → Nat → Nat
    | [], todo, seen => k todo seen
    | x :: xs, todo, seen => forceN x fun x => if seen.testBit x then go k xs todo seen else forceN (seen ||| (1 <<< x)) fun seen => go k xs (x :: todo) seen
def OkC (w h : Nat) (st : List Int) (c : Nat) : Prop := ∃ st', Std (w * h) st' ∧ Reach w h st st' ∧ enc st' = c
theorem nbc_ok {w h : Nat} {st : List Int} {c x : Nat} (F : Fl w h) (h8 : w * h ≤ 8) (o : OkC w h st c) (hx : x ∈ nbc w h c) : OkC w h st x := by
  obtain ⟨st', S', ⟨n, p⟩, rfl⟩ := o
  unfold nbc at hx
  rw [S'.dec h8] at hx
  obtain ⟨d, _, e⟩ := List.mem_filterMap.mp hx
  obtain ⟨s2, e2, rfl⟩ := Option.map_eq_some_iff.mp e
  exact ⟨s2, step_std F S' e2, ⟨n + 1, .snoc p e2⟩, rfl⟩
theorem go_ok {w h : Nat} {st : List Int} {k : List Nat → Nat → Nat} (hk : ∀ t s, (∀ c ∈ t, OkC w h st c) → (∀ i, s.testBit i = true → OkC w h st i) → ∀ i, (k t s).testBit i = true → OkC w h st i) :
    ∀ (xs todo : List Nat) (seen : Nat), (∀ c ∈ xs, OkC w h st c) → (∀ c ∈ todo, OkC w h st c) → (∀ i, seen.testBit i = true → OkC w h st i) → ∀ i, (runC.go k xs todo seen).testBit i = true → OkC w h st i
  | [], todo, seen, _, ht, hs, i, hi => hk todo seen ht hs i hi
  | x :: xs, todo, seen, hx, ht, hs, i, hi => by
    unfold runC.go at hi
    rw [forceN_eq] at hi
    have hx2 : ∀ c ∈ xs, OkC w h st c := fun c hc => hx c (List.mem_cons_of_mem _ hc)
    by_cases q : seen.testBit x = true
    · rw [if_pos q] at hi
      exact go_ok hk xs todo seen hx2 ht hs i hi
    · rw [if_neg q, forceN_eq] at hi
      refine go_ok hk xs (x :: todo) _ hx2 (fun c hc => ?_) (fun j hj => ?_) i hi
      · rcases List.mem_cons.mp hc with e | e
        · exact e ▸ hx x List.mem_cons_self
        · exact ht c e
      · rw [Nat.testBit_or, Bool.or_eq_true] at hj
        rcases hj with hj | hj
        · exact hs j hj
        · have : x = j := by
            rw [Nat.one_shiftLeft, Nat.testBit_two_pow] at hj
            exact of_decide_eq_true hj
          exact this ▸ hx x List.mem_cons_self
theorem run_ok {w h : Nat} {st : List Int} (F : Fl w h) (h8 : w * h ≤ 8) : ∀ (n : Nat) (todo : List Nat) (seen : Nat), (∀ c ∈ todo, OkC w h st c) → (∀ i, seen.testBit i = true → OkC w h st i) → ∀ i, (runC w h n todo seen).testBit i = true → OkC w h st i
  | 0, _, seen, _, hs, i, hi => hs i hi
  | n + 1, [], seen, _, hs, i, hi => hs i hi
  | n + 1, c :: todo, seen, ht, hs, i, hi => by
    unfold runC at hi
    exact go_ok (fun t s a b => run_ok F h8 n t s a b) _ _ _ (fun x hx => nbc_ok F h8 (ht c List.mem_cons_self) hx) (fun x hx => ht x (List.mem_cons_of_mem _ hx)) hs i hi
def howM (w h : Nat) : Nat := if w = 1 ∨ h = 1 then w * h else (((List.range (w * h)).foldl (fun p i => p * (i + 1)) 1)) / 2
def checkF (w h : Nat) (reps : List (List Int)) : Bool :=
  go (allS (w * h)) (fun q => ((allS (w * h)).all q) && reps.all fun r => ((allS (w * h)).filter fun st => joinM w h r st).length == howM w h) reps fun st => reps.any fun r => joinM w h r st
where
  go (al : List (List Int)) (k : (List Int → Bool) → Bool) : List (List Int) → (List Int → Bool) → Bool
    | [], p => k p
    | r :: rs, p => forceN (runC w h 2000 [enc r] (1 <<< enc r)) fun m => go al k rs fun st => (!joinM w h r st || m.testBit (enc st)) && p st
end Sf
namespace Sf
/-! ### small floors: joined ones are reached, and how many they are -/
theorem check_go {w h : Nat} {al : List (List Int)} {k : (List Int → Bool) → Bool} : ∀ (reps : List (List Int)) (p : List Int → Bool), checkF.go w h al k reps p = true →
    ∃ q, k q = true ∧ ∀ st, q st = true → p st = true ∧ ∀ r ∈ reps, joinM w h r st = true → (runC w h 2000 [enc r] (1 <<< enc r)).testBit (enc st) = true
  | [], p, e => ⟨p, e, fun st z => ⟨z, fun r m => nomatch m⟩⟩
  | r :: rs, p, e => by
    unfold checkF.go at e
    rw [forceN_eq] at e
    obtain ⟨q, hq, hs⟩ := check_go rs _ e
    refine ⟨q, hq, fun st z => ?_⟩
    obtain ⟨y, y2⟩ := hs st z
    obtain ⟨y1, y3⟩ := Bool.and_eq_true_iff.mp y
    refine ⟨y3, fun r' m j => ?_⟩
    rcases List.mem_cons.mp m with m | m
    · subst m
      rcases Bool.or_eq_true_iff.mp y1 with y1 | y1
      · rw [j] at y1; cases y1
      · exact y1
    · exact y2 r' m j
theorem enc_inj {n : Nat} {a b : List Int} (A : Std n a) (B : Std n b) (h8 : n ≤ 8) (e : enc a = enc b) : a = b := by
  rw [← A.dec h8, e, B.dec h8]
theorem check_ok {w h : Nat} {reps : List (List Int)} (F : Fl w h) (h8 : w * h ≤ 8) (hr : ∀ r ∈ reps, Std (w * h) r) (e : checkF w h reps = true) :
    (∀ st, Std (w * h) st → (∃ r ∈ reps, joinM w h r st = true) ∧ ∀ r ∈ reps, joinM w h r st = true → Reach w h r st) ∧ ∀ r ∈ reps, ((allS (w * h)).filter fun st => joinM w h r st).length = howM w h := by
  unfold checkF at e
  obtain ⟨q, hq, hs⟩ := check_go reps _ e
  obtain ⟨h1, h2⟩ := Bool.and_eq_true_iff.mp hq
  refine ⟨fun st S => ?_, fun r m => ?_⟩
  · obtain ⟨z1, z2⟩ := hs st (List.all_eq_true.mp h1 st (allS_mem S))
    refine ⟨List.any_eq_true.mp z1, fun r m j => ?_⟩
    have o0 : OkC w h r (enc r) := ⟨r, hr r m, ⟨0, .nil⟩, rfl⟩
    have ok := run_ok F h8 2000 [enc r] (1 <<< enc r) (fun c hc => by rw [List.mem_singleton.mp hc]; exact o0) (fun i hi => by
      rw [Nat.one_shiftLeft, Nat.testBit_two_pow] at hi
      rw [← of_decide_eq_true hi]
      exact o0) _ (z2 r m j)
    obtain ⟨st', S', R, ee⟩ := ok
    rw [enc_inj S' S h8 ee] at R
    exact R
  · have := List.all_eq_true.mp h2 r m
    exact beq_iff_eq.mp this
theorem Reach.back {w h : Nat} {a b : List Int} (F : Fl w h) (S : Std (w * h) a) (r : Reach w h a b) : Reach w h b a := let ⟨n, p⟩ := r; ⟨n, p.back F S⟩
theorem Reach.app {w h : Nat} {a b c : List Int} (r : Reach w h a b) (q : Reach w h b c) : Reach w h a c := let ⟨n, p⟩ := r; let ⟨m, p'⟩ := q; ⟨n + m, p.app p'⟩
/-- what is known of a small floor -/
structure Small (w h : Nat) : Prop where
  F : Fl w h
  le : w * h ≤ 6
  all : ∀ st st', Std (w * h) st → Std (w * h) st' → joinM w h st st' = true → Reach w h st st'
  many : ∀ st, Std (w * h) st → ((allS (w * h)).filter fun st' => joinM w h st st').length = howM w h
theorem small_of {w h : Nat} {reps : List (List Int)} (F : Fl w h) (h6 : w * h ≤ 6) (hr' : (reps.all fun r => r.isPerm (iota (w * h))) = true) (e : checkF w h reps = true) : Small w h := by
  have hr : ∀ r ∈ reps, Std (w * h) r := fun r m => List.isPerm_iff.mp (List.all_eq_true.mp hr' r m)
  obtain ⟨a, b⟩ := check_ok F (by omega) hr e
  refine ⟨F, h6, fun st st' S S' j => ?_, fun st S => ?_⟩
  · obtain ⟨⟨r, m, j1⟩, k⟩ := a st S
    have j3 : joinM w h r st' = true := by rw [join_trans j1]; exact j
    exact ((k r m j1).back F (hr r m)).app ((a st' S').2 r m j3)
  · obtain ⟨⟨r, m, j1⟩, _⟩ := a st S
    rw [← b r m]
    congr 1
    refine List.filter_congr fun x _ => ?_
    exact (join_trans j1).symm
theorem small_12 : Small 1 2 := small_of (reps := [[1, 0]]) ⟨by decide, by decide, by decide, by decide, by decide⟩ (by decide) (by decide +kernel) (by decide +kernel)
theorem small_21 : Small 2 1 := small_of (reps := [[1, 0]]) ⟨by decide, by decide, by decide, by decide, by decide⟩ (by decide) (by decide +kernel) (by decide +kernel)
theorem small_31 : Small 3 1 := small_of (reps := [[1, 2, 0], [2, 1, 0]]) ⟨by decide, by decide, by decide, by decide, by decide⟩ (by decide) (by decide +kernel) (by decide +kernel)
theorem small_14 : Small 1 4 := small_of (reps := [[1, 2, 3, 0], [1, 3, 2, 0], [2, 1, 3, 0], [2, 3, 1, 0], [3, 1, 2, 0], [3, 2, 1, 0]]) ⟨by decide, by decide, by decide, by decide, by decide⟩ (by decide) (by decide +kernel) (by decide +kernel)
theorem small_22 : Small 2 2 := small_of (reps := [[1, 2, 3, 0], [2, 1, 3, 0]]) ⟨by decide, by decide, by decide, by decide, by decide⟩ (by decide) (by decide +kernel) (by decide +kernel)
theorem small_23 : Small 2 3 := small_of (reps := [[1, 2, 3, 4, 5, 0], [2, 1, 3, 4, 5, 0]]) ⟨by decide, by decide, by decide, by decide, by decide⟩ (by decide) (by decide +kernel) (by decide +kernel)
theorem small_32 : Small 3 2 := small_of (reps := [[1, 2, 3, 4, 5, 0], [2, 1, 3, 4, 5, 0]]) ⟨by decide, by decide, by decide, by decide, by decide⟩ (by decide) (by decide +kernel) (by decide +kernel)
/-- the floors of the small laws -/
def smallFs : List (Nat × Nat) := [(1, 2), (2, 1), (3, 1), (1, 4), (2, 2), (2, 3), (3, 2), (2, 3), (3, 2), (2, 2)]
theorem small_at {i w h : Nat} (e : smallFs[i]? = some (w, h)) : Small w h := by
  have m := List.mem_of_getElem? e
  unfold smallFs at m
  simp only [List.mem_cons, List.not_mem_nil, or_false, Prod.mk.injEq] at m
  rcases m with ⟨rfl, rfl⟩ | ⟨rfl, rfl⟩ | ⟨rfl, rfl⟩ | ⟨rfl, rfl⟩ | ⟨rfl, rfl⟩ | ⟨rfl, rfl⟩ | ⟨rfl, rfl⟩ | ⟨rfl, rfl⟩ | ⟨rfl, rfl⟩ | ⟨rfl, rfl⟩
  · exact small_12
  · exact small_21
  · exact small_31
  · exact small_14
  · exact small_22
  · exact small_23
  · exact small_32
  · exact small_23
  · exact small_32
  · exact small_22
theorem allS6 : ∀ n, n ≤ 6 → (allS n).length ≤ 720 := by decide +kernel
end Sf
namespace Sf
/-! ### going layer by layer, as lists -/
abbrev LL : Type := List (List Int)
def nb (w h : Nat) (st : List Int) (ds : List Dir) : LL := ds.filterMap fun d => step w h st d
def visit (S : LL × LL) (x : List Int) : LL × LL := if x ∈ S.1 then S else (S.1 ++ [x], S.2 ++ [x])
def visits (seen : LL) (xs : LL) : LL × LL := xs.foldl visit (seen, [])
/-- all the neighbours of a layer -/
def nbs (w h : Nat) (layer : LL) : LL := layer.flatMap fun x => nb w h x (wordsM w h x)
def layr (w h : Nat) (s : List Int) : Nat → LL × LL
  | 0 => ([s], [s])
  | t + 1 => visits (layr w h s t).1 (nbs w h (layr w h s t).2)
theorem fold_inv {P : LL × LL → Prop} {xs : LL} {S : LL × LL} (h : P S) (k : ∀ S x, x ∈ xs → P S → P (visit S x)) : P (xs.foldl visit S) := by
  induction xs generalizing S with
  | nil => exact h
  | cons x xs ih => exact ih (k S x List.mem_cons_self h) fun S y m => k S y (List.mem_cons_of_mem _ m)
theorem visits_snoc (seen xs : LL) (x : List Int) : visits seen (xs ++ [x]) = visit (visits seen xs) x := by
  unfold visits
  rw [List.foldl_append]
  rfl
theorem visits_app (seen xs : LL) : (visits seen xs).1 = seen ++ (visits seen xs).2 := by
  refine fold_inv (P := fun S => S.1 = seen ++ S.2) (by simp) fun S x _ ih => ?_
  unfold visit
  by_cases m : x ∈ S.1
  · rw [if_pos m]; exact ih
  · rw [if_neg m]
    show S.1 ++ [x] = seen ++ (S.2 ++ [x])
    rw [ih, List.append_assoc]
theorem visits_nodup {seen xs : LL} (n : seen.Nodup) : (visits seen xs).1.Nodup := by
  refine fold_inv (P := fun S => S.1.Nodup) n fun S x _ ih => ?_
  unfold visit
  by_cases m : x ∈ S.1
  · rw [if_pos m]; exact ih
  · rw [if_neg m]
    exact List.nodup_append.mpr ⟨ih, List.nodup_cons.mpr ⟨by simp, List.nodup_nil⟩, fun a ha b hb e => m (by rw [List.mem_singleton.mp hb] at e; exact e ▸ ha)⟩
theorem foldv_mem {x : List Int} : ∀ {xs : LL} {S : LL × LL}, x ∈ (xs.foldl visit S).1 ↔ x ∈ S.1 ∨ x ∈ xs
  | [], S => by simp
  | y :: xs, S => by
    show x ∈ (xs.foldl visit (visit S y)).1 ↔ _
    rw [foldv_mem]
    unfold visit
    by_cases m : y ∈ S.1
    · rw [if_pos m, List.mem_cons]
      constructor
      · rintro (a | a)
        · exact .inl a
        · exact .inr (.inr a)
      · rintro (a | a | a)
        · exact .inl a
        · exact .inl (a ▸ m)
        · exact .inr a
    · rw [if_neg m, List.mem_cons]
      show x ∈ S.1 ++ [y] ∨ _ ↔ _
      rw [List.mem_append, List.mem_singleton, or_assoc]
theorem visits_mem {x : List Int} {seen xs : LL} : x ∈ (visits seen xs).1 ↔ x ∈ seen ∨ x ∈ xs := foldv_mem
theorem visits_len (seen xs : LL) : (visits seen xs).1.length = seen.length + (visits seen xs).2.length := by rw [visits_app, List.length_append]
theorem visits_sub {seen xs ys : LL} {x : List Int} (h : x ∈ (visits seen xs).2) : x ∈ (visits seen (xs ++ ys)).2 := by
  unfold visits
  rw [List.foldl_append]
  refine fold_inv (P := fun S => x ∈ S.2) h fun S y _ ih => ?_
  unfold visit
  by_cases m : y ∈ S.1
  · rw [if_pos m]; exact ih
  · rw [if_neg m]; exact List.mem_append_left _ ih
theorem step_words {w h : Nat} {st st' : List Int} {d : Dir} (e : step w h st d = some st') : d ∈ wordsM w h st := by
  unfold wordsM
  exact List.mem_filter.mpr ⟨mem_dirs d, by rw [e]; rfl⟩
theorem nb_mem {w h : Nat} {st x : List Int} : x ∈ nb w h st (wordsM w h st) ↔ ∃ d, step w h st d = some x := by
  unfold nb
  rw [List.mem_filterMap]
  exact ⟨fun ⟨d, _, e⟩ => ⟨d, e⟩, fun ⟨d, e⟩ => ⟨d, step_words e, e⟩⟩
theorem nbs_mem {w h : Nat} {l : LL} {x : List Int} : x ∈ nbs w h l ↔ ∃ y ∈ l, ∃ d, step w h y d = some x := by
  unfold nbs
  rw [List.mem_flatMap]
  exact ⟨fun ⟨y, m, e⟩ => ⟨y, m, nb_mem.mp e⟩, fun ⟨y, m, e⟩ => ⟨y, m, nb_mem.mpr e⟩⟩
/-- by so many moves, and by no fewer -/
def IsDist (w h : Nat) (a b : List Int) (n : Nat) : Prop := Path w h n a b ∧ ∀ m, m < n → ¬ Path w h m a b
theorem IsDist.uniq {w h : Nat} {a b : List Int} {n m : Nat} (x : IsDist w h a b n) (y : IsDist w h a b m) : n = m := by
  rcases Nat.lt_trichotomy n m with z | z | z
  · exact absurd x.1 (y.2 n z)
  · exact z
  · exact absurd y.1 (x.2 m z)
theorem path_dist {w h : Nat} {a b : List Int} : ∀ {n : Nat}, Path w h n a b → ∃ m, m ≤ n ∧ IsDist w h a b m := by
  intro n
  induction n using Nat.strongRecOn with
  | ind n ih =>
    intro p
    by_cases q : ∃ m, m < n ∧ Path w h m a b
    · obtain ⟨m, hm, pm⟩ := q
      obtain ⟨k, hk, d⟩ := ih m hm pm
      exact ⟨k, by omega, d⟩
    · exact ⟨n, Nat.le_refl _, p, fun m hm pm => q ⟨m, hm, pm⟩⟩
section
variable {w h : Nat} {s : List Int}
theorem layr_facts (t : Nat) : (layr w h s t).1.Nodup ∧ (∀ x, x ∈ (layr w h s t).1 ↔ ∃ d, d ≤ t ∧ Path w h d s x) ∧ ∀ x, x ∈ (layr w h s t).2 ↔ IsDist w h s x t := by
  induction t with
  | zero =>
    have e0 : ∀ x, Path w h 0 s x ↔ x = s := fun x => ⟨fun p => by cases p; rfl, fun e => e ▸ .nil⟩
    refine ⟨List.nodup_cons.mpr ⟨by simp, List.nodup_nil⟩, fun x => ?_, fun x => ?_⟩
    · show x ∈ [s] ↔ _
      rw [List.mem_singleton, ← e0 x]
      exact ⟨fun p => ⟨0, Nat.le_refl _, p⟩, fun ⟨d, hd, p⟩ => by
        have : d = 0 := by omega
        exact this ▸ p⟩
    · show x ∈ [s] ↔ _
      rw [List.mem_singleton, ← e0 x]
      exact ⟨fun p => ⟨p, fun m hm => by omega⟩, fun p => p.1⟩
  | succ t ih =>
    obtain ⟨n, i1, i2⟩ := ih
    have seen : ∀ x, x ∈ (layr w h s (t + 1)).1 ↔ ∃ d, d ≤ t + 1 ∧ Path w h d s x := fun x => by
      show x ∈ (visits _ _).1 ↔ _
      rw [visits_mem, i1, nbs_mem]
      constructor
      · rintro (⟨d, hd, p⟩ | ⟨y, m, d, e⟩)
        · exact ⟨d, by omega, p⟩
        · exact ⟨t + 1, Nat.le_refl _, .snoc ((i2 y).mp m).1 e⟩
      · rintro ⟨d, hd, p⟩
        by_cases q : d ≤ t
        · exact .inl ⟨d, q, p⟩
        · have : d = t + 1 := by omega
          subst this
          cases p with
          | @snoc _ _ y _ d p e =>
            obtain ⟨m, hm, dm⟩ := path_dist p
            by_cases q : m = t
            · exact .inr ⟨y, (i2 y).mpr (q ▸ dm), d, e⟩
            · exact .inl ⟨m + 1, by omega, .snoc dm.1 e⟩
    have nd : (layr w h s (t + 1)).1.Nodup := visits_nodup n
    refine ⟨nd, seen, fun x => ?_⟩
    have app : (layr w h s (t + 1)).1 = (layr w h s t).1 ++ (layr w h s (t + 1)).2 := visits_app _ _
    rw [app] at nd
    have dis := (List.nodup_append.mp nd).2.2
    constructor
    · intro m
      have m1 : x ∈ (layr w h s (t + 1)).1 := by rw [app]; exact List.mem_append_right _ m
      have m0 : x ∉ (layr w h s t).1 := fun q => dis x q x m rfl
      obtain ⟨d, hd, p⟩ := (seen x).mp m1
      have no : ∀ m, m < t + 1 → ¬ Path w h m s x := fun m hm p => m0 ((i1 x).mpr ⟨m, by omega, p⟩)
      by_cases q : d < t + 1
      · exact absurd p (no d q)
      · have : d = t + 1 := by omega
        exact ⟨this ▸ p, no⟩
    · intro dd
      have m1 : x ∈ (layr w h s (t + 1)).1 := (seen x).mpr ⟨t + 1, Nat.le_refl _, dd.1⟩
      rw [app] at m1
      rcases List.mem_append.mp m1 with q | q
      · obtain ⟨d, hd, p⟩ := (i1 x).mp q
        exact absurd p (dd.2 d (by omega))
      · exact q
theorem layr_app (t : Nat) : (layr w h s (t + 1)).1 = (layr w h s t).1 ++ (layr w h s (t + 1)).2 := visits_app _ _
theorem layr_sub (t : Nat) : ∀ x ∈ (layr w h s t).2, x ∈ (layr w h s t).1 := fun x m => by
  obtain ⟨_, b, c⟩ := layr_facts (w := w) (h := h) (s := s) t
  exact (b x).mpr ⟨t, Nat.le_refl _, ((c x).mp m).1⟩
theorem layr_std (F : Fl w h) (S : Std (w * h) s) (t : Nat) : ∀ x ∈ (layr w h s t).1, Std (w * h) x := fun x m => by
  obtain ⟨d, _, p⟩ := ((layr_facts (w := w) (h := h) (s := s) t).2.1 x).mp m
  exact p.std F S
theorem layr_le (F : Fl w h) (h6 : w * h ≤ 6) (S : Std (w * h) s) (t : Nat) : (layr w h s t).1.length ≤ 720 := by
  refine Nat.le_trans (nodup_le (m := allS (w * h)) (layr_facts t).1 fun x m => allS_mem (layr_std F S t x m)) (allS6 _ h6)
/-- where a layer is empty nothing more comes -/
theorem layr_end {t : Nat} (e : (layr w h s t).2 = []) : ∀ x, x ∈ (layr w h s t).1 ↔ Reach w h s x := fun x => by
  obtain ⟨_, b, c⟩ := layr_facts (w := w) (h := h) (s := s) t
  refine ⟨fun m => let ⟨d, _, p⟩ := (b x).mp m; ⟨d, p⟩, fun ⟨n, p⟩ => ?_⟩
  have key : ∀ n x, Path w h n s x → x ∈ (layr w h s t).1 := by
    intro n
    induction n with
    | zero => intro x p; exact (b x).mpr ⟨0, Nat.zero_le _, p⟩
    | succ n ih =>
      intro x p
      cases p with
      | @snoc _ _ y _ d p q =>
        obtain ⟨m, hm, pm⟩ := (b y).mp (ih y p)
        obtain ⟨k, hk, dk⟩ := path_dist pm
        by_cases z : k < t
        · exact (b x).mpr ⟨k + 1, by omega, .snoc dk.1 q⟩
        · have : k = t := by omega
          have mm := (c y).mpr (this ▸ dk)
          rw [e] at mm
          cases mm
  exact key n x p
end
theorem Small.iff {w h : Nat} (M : Small w h) {s x : List Int} (S : Std (w * h) s) (X : Std (w * h) x) : Reach w h s x ↔ joinM w h s x = true := ⟨fun r => r.join M.F S, M.all s x S X⟩
/-- how many come -/
theorem Small.count {w h : Nat} (M : Small w h) {s : List Int} (S : Std (w * h) s) {ks : LL} (nd : ks.Nodup) (hk : ∀ x, x ∈ ks ↔ Reach w h s x) : ks.length = howM w h := by
  have st : ∀ x ∈ ks, Std (w * h) x := fun x m => let ⟨n, p⟩ := (hk x).mp m; p.std M.F S
  rw [← M.many s S]
  refine Nat.le_antisymm (nodup_le nd fun x m => List.mem_filter.mpr ⟨allS_mem (st x m), (M.iff S (st x m)).mp ((hk x).mp m)⟩) (nodup_le ((allS_nodup _).filter _) fun x m => ?_)
  obtain ⟨m1, m2⟩ := List.mem_filter.mp m
  have X : Std (w * h) x := allS_std m1
  exact (hk x).mpr ((M.iff S X).mpr m2)
where
  allS_std {n : Nat} {x : List Int} (m : x ∈ allS n) : Std n x := permsOf_perm (iota_len n) m
  permsOf_perm : ∀ {k : Nat} {l x : List Int}, l.length = k → x ∈ permsOf k l → x.Perm l
    | 0, l, x, e, m => by
      rw [List.mem_singleton.mp m, List.length_eq_zero_iff.mp e]
    | k + 1, l, x, e, m => by
      unfold permsOf at m
      obtain ⟨a, ha, m⟩ := List.mem_flatMap.mp m
      obtain ⟨x', m', rfl⟩ := List.mem_map.mp m
      have h3 : (l.erase a).length = k := by rw [List.length_erase_of_mem ha, e]; rfl
      exact ((permsOf_perm h3 m').cons a).trans (List.perm_cons_erase ha).symm
end Sf
namespace Sf
open PySem PySem.Spec PyProof.Rows L2
/-! ### dicts whose keys are tuples of ints, told by their entries: key, the key's tuple, value -/
abbrev DXE : Type := List Int × Addr × V
abbrev RelX : List DXE → List (List Int × Addr × Value) → Prop := Paired fun p q => p.1 = q.1 ∧ p.2.1 = q.2.1 ∧ RelV p.2.2 q.2.2
def DX (P : Program) (w : World) (a : Addr) (L : List DXE) : HO := .ext fun h => L.length ≤ sizeLine ∧ (a == sysModules) = false ∧ ∃ us : List (List Int × Addr × Value), RelX L us ∧
  ∃ o es ep, h.get? a = some o ∧ o.ExactDict ∧ o.data = .dict es ep ∧ es.toList = us.map (entryOfKey (tupleKind (intKind P w))) ∧ (us.map (·.1)).Nodup
def KeysAt (K : PySem.W.Frag) (H : Hp) (L : List DXE) : Prop := ∀ e ∈ L, SqT K H e.2.1 (VI e.1)
def valX (L : List DXE) (k : List Int) : Option V := (L.find? fun e => decide (e.1 = k)).map (·.2.2)
def putX (L : List DXE) (k : List Int) (b : Addr) (v : V) : List DXE := if (valX L k).isSome then L.map (fun e => if e.1 = k then (e.1, e.2.1, v) else e) else L ++ [(k, b, v)]
theorem valX_pos {e : DXE} {L : List DXE} {k : List Int} (h : e.1 = k) : valX (e :: L) k = some e.2.2 := by simp [valX, List.find?_cons, h]
theorem valX_neg {e : DXE} {L : List DXE} {k : List Int} (h : ¬ e.1 = k) : valX (e :: L) k = valX L k := by simp [valX, List.find?_cons, h]
theorem valX_isSome (L : List DXE) (k : List Int) : (valX L k).isSome = decide (k ∈ L.map (·.1)) := by
  induction L with
  | nil => rfl
  | cons e L ih =>
    by_cases h : e.1 = k
    · rw [valX_pos h]
      simp [h]
    · rw [valX_neg h, ih]
      have h' : ¬ k = e.1 := fun z => h z.symm
      simp [h']
theorem valX_mem {L : List DXE} (nd : (L.map (·.1)).Nodup) {e : DXE} (m : e ∈ L) : valX L e.1 = some e.2.2 := by
  induction L with
  | nil => cases m
  | cons x L ih =>
    rw [List.map_cons] at nd
    obtain ⟨n1, n2⟩ := List.nodup_cons.mp nd
    rcases List.mem_cons.mp m with q | q
    · subst q
      exact valX_pos rfl
    · rw [valX_neg (fun z => n1 (z ▸ List.mem_map.mpr ⟨e, q, rfl⟩))]
      exact ih n2 q
theorem putX_new {L : List DXE} {k : List Int} {b : Addr} {v : V} (h : (valX L k).isSome = false) : putX L k b v = L ++ [(k, b, v)] := by
  unfold putX
  rw [h]
  rfl
theorem RelX.val {L : List DXE} {us : List (List Int × Addr × Value)} (r : RelX L us) (k : List Int) : RelO (valX L k) ((atKey us k).map (·.2)) := by
  induction r with
  | nil => exact True.intro
  | @cons p q ps qs h t ih =>
    obtain ⟨h1, _, h2⟩ := h
    by_cases e : p.1 = k
    · have e' : q.1 = k := h1.symm.trans e
      have b : atKey (q :: qs) k = some q.2 := by simp [atKey, List.find?_cons, e']
      rw [valX_pos e, b]; exact h2
    · have e' : ¬ q.1 = k := fun z => e (h1.trans z)
      have b : atKey (q :: qs) k = atKey qs k := by simp [atKey, List.find?_cons, e']
      rw [valX_neg e, b]; exact ih
theorem RelX.repl {L : List DXE} {us : List (List Int × Addr × Value)} (r : RelX L us) (k : List Int) {y : V} {u : Value} (ry : RelV y u) :
    RelX (L.map fun e => if e.1 = k then (e.1, e.2.1, y) else e) (us.map (putAt k u)) := by
  induction r with
  | nil => exact .nil
  | @cons p q ps qs h t ih =>
    rw [List.map_cons, List.map_cons]
    refine .cons ?_ ih
    obtain ⟨h1, h2, h3⟩ := h
    unfold putAt
    by_cases e : p.1 = k
    · rw [if_pos e, if_pos (h1.symm.trans e)]; exact ⟨h1, h2, ry⟩
    · rw [if_neg e, if_neg (fun z => e (h1.trans z))]; exact ⟨h1, h2, h3⟩
theorem RelX.put {L : List DXE} {us : List (List Int × Addr × Value)} (r : RelX L us) (k : List Int) {b : Addr} {y : V} {u : Value} (ry : RelV y u) : RelX (putX L k b y) (storedH us k b u) := by
  have e : (valX L k).isSome = (atKey us k).isSome := by
    rw [(r.val k).isSome_eq, Option.isSome_map]
  unfold putX storedH
  rw [e]
  by_cases q : (atKey us k).isSome = true
  · rw [if_pos q, if_pos q]; exact r.repl k ry
  · rw [if_neg q, if_neg q]; exact Paired.snoc r ⟨rfl, rfl, ry⟩
theorem putX_len (L : List DXE) (k : List Int) (b : Addr) (v : V) : (putX L k b v).length ≤ L.length + 1 := by
  unfold putX
  by_cases h : (valX L k).isSome = true
  · rw [if_pos h, List.length_map]; omega
  · rw [if_neg h, List.length_append]; exact Nat.le_refl _
theorem items_ints {P : Program} {w : World} : ∀ {ns : List Int} {us : List Value}, Vals (VI ns) us → PySem.ItemsAre (intKind P w) ns us
  | [], _, r => by cases r; exact .nil
  | k :: ns, _, r => by
    cases r with
    | cons h t =>
      obtain ⟨tk, rfl⟩ := (show ∃ t, _ = Value.int k t from h)
      exact .cons (by show Value.isInt k (.int k tk) = true; simp [Value.isInt]) (items_ints t)
section
variable {X : Cx} {pins : List (Addr × Obj)} {σ : L2.St} {H : Hp} {s : Shared} {a b : Addr} {L : List DXE}
theorem keyX (I : Inv X pins σ H s) {ns : List Int} (h : SqT X.K H b (VI ns)) : (tupleKind (intKind X.prog X.w)).is s.heap ns b := by
  obtain ⟨its, rv, ⟨o, h1, h2, n, h3⟩, hz⟩ := I.tuple h
  exact ⟨o, its.toArray, n, h1, h2, h3, by simpa using items_ints rv⟩
theorem keysX (I : Inv X pins σ H s) : ∀ {L : List DXE} {us : List (List Int × Addr × Value)}, RelX L us → KeysAt X.K H L → ∀ x ∈ us, (tupleKind (intKind X.prog X.w)).is s.heap x.1 x.2.1 := by
  intro L us r
  induction r with
  | nil => intro _ x m; cases m
  | @cons p q ps qs h t ih =>
    intro k x m
    rcases List.mem_cons.mp m with e | e
    · subst e
      have := keyX I (k p List.mem_cons_self)
      rw [h.1, h.2.1] at this
      exact this
    · exact ih (fun y hy => k y (List.mem_cons_of_mem _ hy)) x e
theorem dx_of (I : Inv X pins σ H s) (hH : H a = some (DX X.prog X.w a L)) (hk : KeysAt X.K H L) : L.length ≤ sizeLine ∧ (a == sysModules) = false ∧ ∃ us, RelX L us ∧ s.heap.DictOfH (tupleKind (intKind X.prog X.w)) a us := by
  obtain ⟨⟨z, y, us, r, o, es, ep, h1, h2, h3, h4, h5⟩, _⟩ := (show ObjOk X.prog X.w H s.heap a (DX X.prog X.w a L) from I.hok a _ hH)
  exact ⟨z, y, us, r, o, es, ep, h1, h2, h3, h4, keysX I r hk, h5⟩
theorem dx_ok {P : Program} {w : World} {H' : Hp} {h' : Heap} {us : List (List Int × Addr × Value)} (z : L.length ≤ sizeLine) (hd : (a == sysModules) = false) (r : RelX L us) (dd : h'.DictOfH (tupleKind (intKind P w)) a us) : ObjOk P w H' h' a (DX P w a L) := by
  obtain ⟨o, es, ep, h1, h2, h3, h4, _, h5⟩ := dd
  exact ⟨⟨z, hd, us, r, o, es, ep, h1, h2, h3, h4, h5⟩, ⟨o, h1⟩, fun g1 g2 ⟨z, y, us, r, o, es, ep, k1, k2⟩ st => ⟨z, y, us, r, o, es, ep, st o k1, k2⟩⟩
end
/-- which dict, which key -/
def AtX (P : Program) (w : World) (K : PySem.W.Frag) (H : Hp) (x y : V) (L : List DXE) (ns : List Int) : Prop := ∃ a b, x = .ref a ∧ y = .ref b ∧ H a = some (DX P w a L) ∧ KeysAt K H L ∧ SqT K H b (VI ns)
def rInX (P : Program) (w : World) (K : PySem.W.Frag) : R2 := fun y x H Q => ∃ L ns, AtX P w K H x y L ns ∧ Q (.bl (valX L ns).isSome) H
def rNotInX (P : Program) (w : World) (K : PySem.W.Frag) : R2 := fun y x H Q => ∃ L ns, AtX P w K H x y L ns ∧ Q (.bl (!(valX L ns).isSome)) H
def rIxX (P : Program) (w : World) (K : PySem.W.Frag) : R2 := fun x y H Q => ∃ L ns v, AtX P w K H x y L ns ∧ valX L ns = some v ∧ Q v H
def tGetX (P : Program) (w : World) (K : PySem.W.Frag) (td ty : TE) : TE := fun σ H Q => td σ H fun x H1 => ty σ H1 fun y H2 => rIxX P w K x y H2 Q
def rSetX (P : Program) (w : World) (K : PySem.W.Frag) : TSet := fun o i v H Q => ∃ (a b : Addr) (L : List DXE) (ns : List Int), o = .ref a ∧ i = .ref b ∧ H a = some (DX P w a L) ∧ KeysAt K H L ∧ SqT K H b (VI ns) ∧ L.length < sizeLine ∧ Q (upd H a (DX P w a (putX L ns b v)))
def rLenX (P : Program) (w : World) (K : PySem.W.Frag) : List V → Hp → VK → Prop := fun xs H Q => ∃ (a : Addr) (L : List DXE), xs = [.ref a] ∧ H a = some (DX P w a L) ∧ KeysAt K H L ∧ Q (nV L.length) H
def rListX (P : Program) (w : World) (K : PySem.W.Frag) : List V → Hp → VK → Prop := fun xs H Q => ∃ (a : Addr) (L : List DXE), xs = [.ref a] ∧ H a = some (DX P w a L) ∧ ∀ p, H p = none → Q (.ref p) (upd H p (.lst ((L.map fun e => e.2.1).map V.ref)))
def tDisp1 (P : Program) (w : World) (K : PySem.W.Frag) (tk tv : TE) : TE := fun σ H Q => ∀ p, H p = none → tk σ (upd H p (.dK [])) fun x H1 => tv σ H1 fun y H2 => H2 p = some (.dK []) ∧ ∃ b ns, x = .ref b ∧ SqT K H2 b (VI ns) ∧ Q (.ref p) (upd H2 p (DX P w p [(ns, b, y)]))
section
variable {X : Cx}
theorem op_inX (hu : X.A.units + 1 < cLine) : OpR X (compareOp .In) (rInX X.prog X.w X.K) := by
  intro pins s σ H x y v u Q I rx ry h
  obtain ⟨L, ns, ⟨a, b, rfl, rfl, hH, hk, hb⟩, q⟩ := h
  cases rx
  cases ry
  obtain ⟨z, hd, us, rel, dd⟩ := dx_of I hH hk
  refine wpAny_in_heap (tupleKind_room_in1 hu) (keyX I hb) hd dd ?_
  have e := (rel.val ns).isSome_eq
  rw [Option.isSome_map] at e
  rw [← e]
  exact ⟨.bl _, H, I.tok _, rfl, q⟩
theorem op_notInX (hu : X.A.units + 1 < cLine) : OpR X (compareOp .NotIn) (rNotInX X.prog X.w X.K) := by
  intro pins s σ H x y v u Q I rx ry h
  obtain ⟨L, ns, ⟨a, b, rfl, rfl, hH, hk, hb⟩, q⟩ := h
  cases rx
  cases ry
  obtain ⟨z, hd, us, rel, dd⟩ := dx_of I hH hk
  refine wpAny_notIn_heap (tupleKind_room_in1 hu) (keyX I hb) hd dd ?_
  have e := (rel.val ns).isSome_eq
  rw [Option.isSome_map] at e
  rw [← e]
  exact ⟨.bl _, H, I.tok _, rfl, q⟩
theorem pe_getX {o i : Expr} {pos : Pos} {td ty : TE} (hu : X.A.units + 1 < cLine) (ho : PE X o td) (hi : PE X i ty) (hs : NoSl i) : PE X (.Subscript o i pos) (tGetX X.prog X.w X.K td ty) := by
  refine ⟨fun pins s σ H Q I h => ?_⟩
  refine subD_of PySem.F.slot_dict_getitem.lookup hs (thn (ho.run pins s σ H _ I h) fun u s1 ⟨x, H1, I1, rx, q1⟩ => thn (hi.run pins s1 σ H1 _ I1 q1) fun iv s2 ⟨y, H2, I2, ry, q2⟩ => ?_)
  obtain ⟨L, ns, val, ⟨a, b, rfl, rfl, hH, hk, hb⟩, hv, q⟩ := q2
  cases rx
  cases ry
  obtain ⟨z, hd, us, rel, dd⟩ := dx_of I2 hH hk
  obtain ⟨w', hw, rw'⟩ := RelO.some_of (v := val) (o := (atKey us ns).map (·.2)) (by rw [← hv]; exact rel.val ns)
  obtain ⟨p, hp, hp2⟩ := Option.map_eq_some_iff.mp hw
  refine ⟨dd.typeIs, wpAny_getItem_heap (tupleKind_room_in1 hu) (keyX I2 hb) dd hp ?_⟩
  rw [hp2]
  exact ⟨val, H2, I2.tok _, rw', q⟩
theorem set_dictX (hu : X.A.units + 1 < cLine) : PSet X (rSetX X.prog X.w X.K) := by
  intro pins s σ H o i v ov iv u Q I ro ri rv h
  obtain ⟨a, b, L, ns, rfl, rfl, hH, hk, hb, hl, q⟩ := h
  cases ro
  cases ri
  obtain ⟨z, hd, us, rel, dd⟩ := dx_of I hH hk
  have hz : us.length ≤ sizeLine := by rw [← Paired.length rel]; exact z
  have hl2 : (putX L ns b v).length ≤ sizeLine := by have := putX_len L ns b v; omega
  refine wpAny_setItem_heap (hsz := hz) (tupleKind_room_in1 hu) (keyX I hb) dd fun h' dd' hs => ?_
  have he : ∃ q, h'.get? a = some q := let ⟨o, _, _, ho, _⟩ := dd'; ⟨o, ho⟩
  exact ⟨_, d_write I (by rw [hH]; exact True.intro) hs he (dx_ok hl2 hd (rel.put ns rv) dd'), q⟩
theorem call_lenX : CallR X (.builtin "len") (rLenX X.prog X.w X.K) := by
  intro pins s σ H xs us Q I r h
  obtain ⟨p, L, rfl, hp, hk, q⟩ := h
  obtain ⟨u, rfl, rx⟩ := vals1 r
  obtain rfl : u = .ref p := rx
  obtain ⟨z, hd, ys, rel, dd⟩ := dx_of I hp hk
  have hl : L.length = ys.length := Paired.length rel
  refine call_len_dictH hd dd (by rw [← hl]; rw [sizeLine_eq] at z; omega) ?_
  rw [← hl]
  exact ⟨nV L.length, H, I.tok _, ⟨_, rfl⟩, q⟩
theorem relX_addrs {L : List DXE} {us : List (List Int × Addr × Value)} (r : RelX L us) : us.map (fun x => x.2.1) = L.map fun e => e.2.1 := by
  induction r with
  | nil => rfl
  | cons h t ih => rw [List.map_cons, List.map_cons, ih, h.2.1]
theorem call_listX (hc : X.calm = true) : CallR X (.type "list") (rListX X.prog X.w X.K) := by
  intro pins s σ H xs us Q I r h
  obtain ⟨d, L, rfl, hd, q⟩ := h
  obtain ⟨u, rfl, rx⟩ := r.one
  cases rx
  obtain ⟨⟨z, hs, ks, pr, o, es, ep, ho, hx, hdt, he, hn⟩, _⟩ := (show ObjOk X.prog X.w H s.heap d (DX X.prog X.w d L) from I.hok d _ hd)
  have l1 : es.size = ks.length := size_of_entries he
  have l2 : L.length = ks.length := Paired.length pr
  refine PySem.W.kdl_call (kdl_raw hs hx hdt) (I.ok.hd hc) ho (by omega) fun h' tk acc' c' kp e it => ?_
  have ea : acc'.toList = ks.map fun x => Value.ref x.2.1 := by
    have hl : acc'.toList.length = ks.length := by rw [Array.length_toList, it.1]; exact l1
    apply List.ext_getElem?
    intro j
    rw [List.getElem?_map]
    cases hj : acc'.toList[j]? with
    | none =>
      have h1 := List.getElem?_eq_none_iff.mp hj
      rw [List.getElem?_eq_none (by omega)]
      all_goals rfl
    | some v =>
      obtain ⟨en, hen, hv⟩ := it.2 j v (by rw [← Array.getElem?_toList]; exact hj)
      have qe := entry_at he j
      rw [hen] at qe
      cases hb : ks[j]? with
      | none =>
        rw [hb] at qe
        exact nomatch (show some en = none from qe)
      | some b =>
        rw [hb] at qe
        have e2 : en = entryOfKey (tupleKind (intKind X.prog X.w)) b := Option.some.inj qe
        rw [hv, e2]
        all_goals rfl
  have eb : acc'.toList = (L.map fun x => x.2.1).map Value.ref := by rw [ea, ← relX_addrs pr, List.map_map]; all_goals rfl
  have rv : Vals ((L.map fun x => x.2.1).map V.ref) acc'.toList := by rw [eb]; exact vals_refs _
  have hz : ((L.map fun x => x.2.1).map V.ref).length ≤ sizeLine := by rw [List.length_map, List.length_map]; omega
  refine ⟨.ref s.heap.objs.size, _, I.laid (t' := tk) (o := .lst ((L.map fun x => x.2.1).map V.ref)) kp (Nat.le_refl _) ?_, rfl, q _ (I.hok.fresh (Nat.le_refl _))⟩
  exact ⟨hz, acc'.toList, c', rv, by rw [Array.toArray_toList]; exact e⟩
theorem pe_disp1 {k v : Expr} {pos : Pos} {tk tv : TE} (hu : X.A.units < cLine) (hk : PE X k tk) (hv : PE X v tv) : PE X (.Dict [some k] [v] pos) (tDisp1 X.prog X.w X.K tk tv) := by
  refine ⟨fun pins s σ H Q I h => ?_⟩
  have hn := I.hok.fresh (Nat.le_refl s.heap.objs.size)
  have I1 := I.laid (a := s.heap.objs.size) (o := .dK []) (h' := s.heap.push { cls := .type "dict", data := .dict #[] }) (t' := s.toks) (fun _ _ q => Heap.get?_push_of_some _ q) (Nat.le_refl _) (dk_empty s.heap I.big)
  have pl : (pairTrees [some k] [v] X.env pos).length = 1 := pairTrees_length [some k] [v] X.env pos rfl rfl
  rw [arm_eval_Dict, zip_pairTrees [some k] [v] X.env pos rfl rfl, dictDisplay_pairs (pairTrees [some k] [v] X.env pos) (fun z => nomatch z) (by rw [pl]; decide)]
  refine wpAny_bind (wpAny_standAt (wpAny_bind (wpAny_subDictH (knd := tupleKind (intKind X.prog X.w)) (Q := fun d s' => wpAny (model X.prog X.w) X.A (pure (Value.ref d)) (EP X pins σ Q) X.xe s') hu (by rw [pl]; decide) ?_)))
  refine pairTrees_cons_walk (thn (hk.run pins _ σ _ _ I1 (h _ hn)) fun u s1 ⟨x, H1, I2, rx, q1⟩ => thn (hv.run pins s1 σ H1 _ I2 q1) fun w2 s2 ⟨y, H2, I3, ry, e, b, ns, ex, hb, q2⟩ => pairTrees_nil_walk ?_)
  subst ex
  cases rx
  obtain ⟨z, hd, vs0, r0, dd⟩ := dk_of I3.hok e
  cases r0
  obtain ⟨o, es, ep, h1, h2, h3, h4, h5, h6⟩ := dd
  have hes : es.toList = [] := by
    generalize es.toList = l at h5
    cases h5
    rfl
  have dd0 : s2.heap.DictOfH (tupleKind (intKind X.prog X.w)) s.heap.objs.size [] := ⟨o, es, ep, h1, h2, h3, hes, (fun x m => absurd m (by simp)), List.nodup_nil⟩
  refine ⟨[(ns, b, w2)], ⟨rfl, rfl, keyX I3 hb, True.intro⟩, dd0, fun h' tk dd' hs => wpAny_pure ?_⟩
  have he : ∃ q, h'.get? s.heap.objs.size = some q := let ⟨q, _, _, hq, _⟩ := dd'; ⟨q, hq⟩
  exact ⟨.ref s.heap.objs.size, _, d_write I3 (by rw [e]; exact True.intro) hs he (dx_ok (by show 1 ≤ sizeLine; decide) hd (.cons ⟨rfl, rfl, ry⟩ .nil) dd'), rfl, q2⟩
end
end Sf
namespace Sf
open PySem PySem.Spec PyProof.Rows L2
/-! ### sorted of a list of tuples of ints, any number of them -/
abbrev cdI (B : Int) (ns : List Int) : Int := _root_.TS.code B ns
abbrev ltC (B : Int) (k : V → List Int) (x y : V) : Bool := decide (cdI B (k x) < cdI B (k y))
theorem ltC_swo (B : Int) (k : V → List Int) : SrtO.Swo (ltC B k) := by
  refine ⟨fun x y h => ?_, fun x y z h1 h2 => ?_⟩
  · have a := of_decide_eq_true h
    exact decide_eq_false (by omega)
  · have a := of_decide_eq_false h1
    have b := of_decide_eq_false h2
    exact decide_eq_false (by omega)
def rSortedTs (K : PySem.W.Frag) : List V → Hp → VK → Prop := fun vs H Q => ∃ (a : Addr) (ys : List V) (k : V → List Int) (d : Nat) (B : Int), vs = [V.ref a] ∧ SqL K H a ys ∧ 1 ≤ d ∧
  (∀ y ∈ ys, ∃ t, y = .ref t ∧ SqT K H t (VI (k y)) ∧ (k y).length = d ∧ _root_.TS.Bd B (k y)) ∧ ∀ zs p, SrtO.Srtd (ltC B k) zs → SrtO.Stb (ltC B k) zs ys → H p = none → Q (.ref p) (upd H p (.lst zs))
section
variable {prog : Program} {w : World} {A : Around} {s : Shared}
theorem tups_sortable {a : Addr} {vs : List Value} {d : Nat} {B : Int} {k : Value → List Int} (hd : 1 ≤ d) (h2 : 2 ≤ vs.length)
    (hx : ∀ v ∈ vs, _root_.TS.TupInts s.heap v (k v) ∧ (k v).length = d ∧ _root_.TS.Bd B (k v)) (ha : ∀ v ∈ vs, v ≠ .ref a) :
    SrtO.SortableO prog w A s a vs fun u v => decide (cdI B (k u) < cdI B (k v)) := by
  intro h' keep
  have hx' : ∀ v ∈ vs, _root_.TS.TupInts h' v (k v) ∧ (k v).length = d ∧ _root_.TS.Bd B (k v) := fun v m => by
    obtain ⟨⟨b, xs, e, ⟨o, ho, r⟩, i⟩, l, bd⟩ := hx v m
    exact ⟨⟨b, xs, e, ⟨o, keep b o (fun z => ha v m (z ▸ e)) ho, r⟩, i⟩, l, bd⟩
  have ok : _root_.TS.TupsOk h' d B vs := fun v m => ⟨k v, hx' v m⟩
  obtain ⟨fs, kt, hl, hi⟩ := _root_.TS.firsts_of hd vs ok
  refine ⟨PyProof.Rows.tuples' (Value.type "int" != Value.type "tuple"), fun Q E hq => ?_, fun p q hp hq => ?_⟩
  · refine PySem.W.kat_kind (s := { s with heap := h' }) (T := Value.type "int") kt (by omega) (fun f hf => ?_) rfl hq
    obtain ⟨n, t, rfl⟩ := hi f hf
    exact PySem.W.Looks.of_pure rfl
  · obtain ⟨⟨b, xs, e1, ⟨o, ho, hc, n, hdt⟩, i⟩, l, bd⟩ := hx' _ hp
    obtain ⟨⟨b', ys, e2, ⟨o', ho', hc', n', hdt'⟩, i'⟩, l', bd'⟩ := hx' _ hq
    show wpAny (model prog w) A (keyLt' _ p.1 q.1) (fun r s' => s' = { s with heap := h' } ∧ r = decide (cdI B (k p.1) < cdI B (k q.1))) (fun _ _ => False) { s with heap := h' }
    rw [e1, e2] at *
    refine PySem.W.kat_lt ho hdt ho' hdt' ?_
    have sz : decide (xs.size < ys.size) = false := by
      have l1 := i.length
      have l2 := i'.length
      rw [Array.length_toList] at l1 l2
      exact decide_eq_false (by omega)
    rw [sz]
    exact _root_.TS.lex_ints 0 i i' (by omega) bd bd' ⟨rfl, rfl⟩
end
section
variable {X : Cx}
theorem cr_sortedTs : CallR X (.builtin "sorted") (rSortedTs X.K) := by
  intro pins s σ H vs us Q I r h
  obtain ⟨a, xs, k, d, B, rfl, hs, hd, hx, q⟩ := h
  obtain ⟨its, rv, hl, hz⟩ := I.list hs
  obtain ⟨u, rfl, ru⟩ := vals1 r
  obtain rfl : u = Value.ref a := ru
  obtain ⟨e1, e2⟩ := refs_back rv fun x m => by
    obtain ⟨t, e, _⟩ := hx x m
    exact ⟨t, e⟩
  have hin : ∀ v ∈ its, _root_.TS.TupInts s.heap v (k (backV v)) ∧ (k (backV v)).length = d ∧ _root_.TS.Bd B (k (backV v)) := fun v hv => by
    obtain ⟨t, rfl⟩ := e2 v hv
    have hm : V.ref t ∈ xs := by rw [e1]; exact List.mem_map.mpr ⟨_, hv, rfl⟩
    obtain ⟨t', e, ht, l, bd⟩ := hx _ hm
    cases e
    obtain ⟨its2, r2, ⟨o, ho, hc, n, hdt⟩, _⟩ := I.tuple ht
    exact ⟨⟨t, its2.toArray, rfl, ⟨o, ho, hc, n, hdt⟩, show PyProof.Rows.IntsAre its2.toArray.toList (k (V.ref t)) by simpa using r2.ints⟩, l, bd⟩
  refine SrtO.sorted_ord (ltv := fun u v => ltC B k (backV u) (backV v)) ⟨fun x y => (ltC_swo B k).asym _ _, fun x y z => (ltC_swo B k).tr _ _ _⟩ hl.isList (by rw [← rv.length]; exact hz) (fun h2 h₁ a' ha' kp => ?_) fun out h1 h2 => ?_
  · refine tups_sortable (s := { s with heap := h₁ }) hd h2 (fun v hv => ?_) fun v hv e => ?_
    · obtain ⟨⟨b, ys, e, ⟨o, ho, r⟩, i⟩, l, bd⟩ := hin v hv
      exact ⟨⟨b, ys, e, ⟨o, (kp b o ho).2, r⟩, i⟩, l, bd⟩
    · obtain ⟨⟨b, ys, e', ⟨o, ho, r⟩, i⟩, _⟩ := hin v hv
      rw [e] at e'
      cases e'
      exact (kp _ o ho).1 rfl
  · have h3 : ∀ u ∈ out, ∃ a, u = Value.ref a := fun u hu => e2 u (h2.perm.mem_iff.mp hu)
    have hb : SrtO.Stb (ltC B k) (out.map backV) xs := by
      rw [e1]
      exact SrtO.Stb.map (ltC_swo B k) backV h2
    obtain ⟨n, hn⟩ := PyProof.Rows.sortedAll_at s.heap its out.toArray
    refine ⟨.ref (s.heap.objs.size + 1), upd H (s.heap.objs.size + 1) (.lst (out.map backV)), I.laid (t' := s.toks) (fun _ _ => PyProof.Rows.sortedAll_old) (Nat.le_succ _) ⟨?_, out, n, vals_back h3, hn⟩, rfl, q _ _ (SrtO.srtd_map h1) hb (I.hok.fresh (Nat.le_succ _))⟩
    rw [hb.len]
    exact hz
end
end Sf
namespace Sf
open PySem PySem.Spec PyProof.Rows L2
def rFac : List V → Hp → VK → Prop := fun vs H Q => ∃ n : Int, vs = [.int n] ∧ 0 ≤ n ∧ n ≤ 20000 ∧ Q (nV (Builtin.Math.factorialNat n.toNat)) H
theorem cr_factorial {X : Cx} : CallR X (.builtin "math.factorial") rFac := by
  intro pins s σ H vs us Q I r h
  obtain ⟨n, rfl, h0, h1, q⟩ := h
  obtain ⟨u, rfl, t, rfl⟩ := vals1 r
  exact PySem.W.mc_factorial h0 h1 fun _ => ⟨.int _, H, I.tok _, ⟨_, rfl⟩, q⟩
/-! ### a list of tuples of ints, a list of bools, as data -/
def dT2 (ks : LL) : List PyData := ks.map fun k => .tuple (dI k)
theorem dT2_lay : ∀ ks : LL, PyData.canLayAll0 (dT2 ks) = true
  | [] => by simp [dT2, PyData.canLayAll0]
  | k :: ks => by
    show PyData.canLayAll0 (.tuple (dI k) :: dT2 ks) = true
    rw [PyData.canLayAll0, dT2_lay ks]; simp [PyData.canLay0, dI_lay]
theorem dT2_depth : ∀ ks : LL, PyData.depthAll (dT2 ks) ≤ 2
  | [] => by simp [dT2, PyData.depthAll]
  | k :: ks => by
    show PyData.depthAll (.tuple (dI k) :: dT2 ks) ≤ 2
    have := dT2_depth ks
    have := dI_depth k
    simp only [PyData.depthAll, PyData.depth]; omega
theorem shaped_lst2 (ks : LL) : SeqAt.shaped (.list (dT2 ks)) = true := by
  have h := dT2_depth ks
  show (PyData.canLay0 (.list (dT2 ks)) && decide (PyData.depth (.list (dT2 ks)) ≤ 64)) = true
  rw [Bool.and_eq_true]
  exact ⟨by simp only [PyData.canLay0]; exact dT2_lay ks, decide_eq_true (by simp only [PyData.depth]; omega)⟩
/-- at these places stand these standings -/
abbrev AtL (H : Hp) : List Addr → LL → Prop := Paired fun r k => TD H r (VI k)
theorem AtL.same {H H' : Hp} {rs : List Addr} {ks : LL} (s : Same H H') (h : AtL H rs ks) : AtL H' rs ks := Paired.mapP h fun _ _ t => TD.same s t
theorem AtL.len {H : Hp} {rs : List Addr} {ks : LL} (h : AtL H rs ks) : rs.length = ks.length := Paired.length h
theorem AtL.get {H : Hp} : ∀ {rs : List Addr} {ks : LL}, AtL H rs ks → ∀ {i : Nat} {r : Addr}, rs[i]? = some r → ∃ k, ks[i]? = some k ∧ TD H r (VI k)
  | _, _, .nil, i, r, e => by simp at e
  | _, _, .cons h t, 0, r, e => by
    cases e
    exact ⟨_, rfl, h⟩
  | _, _, .cons h t, i + 1, r, e => AtL.get t (by simpa using e)
theorem AtL.snoc {H : Hp} {rs : List Addr} {ks : LL} {r : Addr} {k : List Int} (h : AtL H rs ks) (t : TD H r (VI k)) : AtL H (rs ++ [r]) (ks ++ [k]) := Paired.snoc h t
theorem dpAll_T2 {K : PySem.W.Frag} {H : Hp} {rs : List Addr} {ks : LL} (h : AtL H rs ks) : DpAll K H (rs.map V.ref) (dT2 ks) := by
  induction h with
  | nil => exact .nil
  | cons h t ih => exact .cons (dp_tup h.sq) ih
theorem dp_T2 {K : PySem.W.Frag} {H : Hp} {p : Addr} {rs : List Addr} {ks : LL} (h : SqL K H p (rs.map V.ref)) (a : AtL H rs ks) : Dp K H (.ref p) (.list (dT2 ks)) := .lst h (dpAll_T2 a)
theorem eqv_nil2 (ks : LL) : PyData.eqv (.list (dT2 ks)) (.list (dI [])) = decide (ks = []) := by
  rw [PyData.eqv]
  cases ks with
  | nil => simp [dT2, dI, PyData.eqvAll]
  | cons k ks => simp [dT2, dI, PyData.eqvAll]
def dB (bs : List Bool) : List PyData := bs.map PyData.bool
theorem dpAll_B {K : PySem.W.Frag} {H : Hp} : ∀ bs : List Bool, DpAll K H (bs.map V.bl) (dB bs)
  | [] => .nil
  | b :: bs => .cons (.bl b) (dpAll_B bs)
theorem shaped_b2 (a b : Bool) : SeqAt.shaped (.list (dB [a, b])) = true := by cases a <;> cases b <;> decide +kernel
theorem eqv_b2 (a b c d : Bool) : PyData.eqv (.list (dB [a, b])) (.list (dB [c, d])) = decide (a = c ∧ b = d) := by
  cases a <;> cases b <;> cases c <;> cases d <;> decide +kernel
end Sf
namespace Sf
theorem take_more {α : Type} {l : List α} {i : Nat} {x : α} (h : l[i]? = some x) : l.take (i + 1) = l.take i ++ [x] := by
  rw [List.take_succ, h]
  rfl
theorem nbs_take {w h : Nat} {l : LL} {i : Nat} {x : List Int} (e : l[i]? = some x) : nbs w h (l.take (i + 1)) = nbs w h (l.take i) ++ nb w h x (wordsM w h x) := by
  rw [take_more e]
  unfold nbs
  rw [List.flatMap_append]
  simp
theorem nb_take {w h : Nat} {x x' : List Int} {ds : List Dir} {j : Nat} {d : Dir} (e : ds[j]? = some d) (s : step w h x d = some x') : nb w h x (ds.take (j + 1)) = nb w h x (ds.take j) ++ [x'] := by
  rw [take_more e]
  unfold nb
  rw [List.filterMap_append]
  show _ ++ List.filterMap _ [d] = _
  rw [List.filterMap_cons, s]
  rfl
theorem std_le {n : Nat} {ks : LL} (h6 : n ≤ 6) (nd : ks.Nodup) (h : ∀ x ∈ ks, Std n x) : ks.length ≤ 720 := Nat.le_trans (nodup_le (m := allS n) nd fun x m => allS_mem (h x m)) (allS6 _ h6)
/-- the neighbours so far: all are standings, and steps of the layer -/
theorem some_std {w h : Nat} {l : LL} (F : Fl w h) (S : ∀ x ∈ l, Std (w * h) x) : ∀ x ∈ nbs w h l, Std (w * h) x := fun x m => by
  obtain ⟨y, hy, d, e⟩ := nbs_mem.mp m
  exact step_std F (S y hy) e
theorem nb_std {w h : Nat} {x : List Int} {ds : List Dir} (F : Fl w h) (S : Std (w * h) x) : ∀ y ∈ nb w h x ds, Std (w * h) y := fun y m => by
  unfold nb at m
  obtain ⟨d, _, e⟩ := List.mem_filterMap.mp m
  exact step_std F S e
section
variable {w h : Nat} {s : List Int} {t : Nat}
theorem vis_facts (F : Fl w h) (h6 : w * h ≤ 6) (S : Std (w * h) s) {i : Nat} {xs : LL} (hx : ∀ y ∈ xs, Std (w * h) y) :
    let V := visits (layr w h s t).1 (nbs w h ((layr w h s t).2.take i) ++ xs)
    V.1.Nodup ∧ (∀ x ∈ V.1, Std (w * h) x) ∧ V.1.length ≤ 720 ∧ V.2.length ≤ 720 ∧ ∀ x ∈ (layr w h s t).1, x ∈ V.1 := by
  intro V
  have hl : ∀ x ∈ (layr w h s t).2.take i, Std (w * h) x := fun x m => layr_std F S t x (layr_sub t x (List.mem_of_mem_take m))
  have st : ∀ x ∈ V.1, Std (w * h) x := fun x m => by
    rcases visits_mem.mp m with q | q
    · exact layr_std F S t x q
    · rcases List.mem_append.mp q with q | q
      · exact some_std F hl x q
      · exact hx x q
  have nd : V.1.Nodup := visits_nodup (layr_facts t).1
  have le := std_le h6 nd st
  refine ⟨nd, st, le, ?_, fun x m => visits_mem.mpr (.inl m)⟩
  have := visits_len (layr w h s t).1 (nbs w h ((layr w h s t).2.take i) ++ xs)
  show V.2.length ≤ 720
  have e : V.1.length = (layr w h s t).1.length + V.2.length := this
  omega
/-- a newly met one is one move further -/
theorem new_dist {x y : List Int} {d : Dir} (m : x ∈ (layr w h s t).2) (e : step w h x d = some y) (n : y ∉ (layr w h s t).1) : IsDist w h s y (t + 1) := by
  obtain ⟨_, b, c⟩ := layr_facts (w := w) (h := h) (s := s) t
  exact ⟨.snoc ((c x).mp m).1 e, fun k hk p => n ((b y).mpr ⟨k, by omega, p⟩)⟩
end
end Sf
namespace Sf
open PySem PySem.Spec PyProof.Rows L2
def NotT (u : HO) : Prop := ∀ ob xs, u ≠ HO.frz ob (.tup xs)
theorem notT_lst {xs : List V} : NotT (.lst xs) := fun _ _ q => nomatch q
theorem notT_dx {P : Program} {w : World} {a : Addr} {L : List DXE} : NotT (DX P w a L) := fun ob xs q => by unfold DX at q; cases q
theorem TD.updN {H : Hp} {r W : Addr} {xs : List V} {o u : HO} (n : NotT u) (hW : H W = some u) (t : TD H r xs) : TD (upd H W o) r xs := by
  obtain ⟨ob, d, e⟩ := t
  refine ⟨ob, d, ?_⟩
  rw [upd_ne (ne_of e hW (fun q => n ob xs q.symm))]
  exact e
theorem AtL.updN {H : Hp} {W : Addr} {rs : List Addr} {ks : LL} {o u : HO} (n : NotT u) (hW : H W = some u) (t : AtL H rs ks) : AtL (upd H W o) rs ks := Paired.mapP t fun _ _ t => TD.updN n hW t
def KeysT (H : Hp) (L : List DXE) : Prop := ∀ e ∈ L, TD H e.2.1 (VI e.1)
theorem KeysT.at {K : PySem.W.Frag} {H : Hp} {L : List DXE} (h : KeysT H L) : KeysAt K H L := fun e m => (h e m).sq
theorem KeysT.same {H H' : Hp} {L : List DXE} (s : Same H H') (h : KeysT H L) : KeysT H' L := fun e m => (h e m).same s
theorem KeysT.updN {H : Hp} {W : Addr} {L : List DXE} {o u : HO} (n : NotT u) (hW : H W = some u) (h : KeysT H L) : KeysT (upd H W o) L := fun e m => TD.updN n hW (h e m)
theorem same_ch {H H2 : Hp} {W : Addr} {o : HO} (n : H W = none) (s : Same H H2) : Same H (upd H2 W o) := fun b u e => by
  rw [upd_ne (ne_of_none e n)]
  exact s b u e
/-- going by the law: the dict of all that come, by how many moves -/
def spFar (P : Program) (W : World) (K : PySem.W.Frag) : Sp := fun vs H Q _ => ∃ (f s : Addr) (w h : Nat) (st : List Int), vs = [.ref f, .ref s] ∧ SqT K H f [nV w, nV h] ∧ Fl w h ∧ w * h ≤ 6 ∧ TD H s (VI st) ∧ Std (w * h) st ∧
  ∀ (d : Addr) (H' : Hp) (L : List DXE) (t : Nat), H d = none → Same H H' → H' d = some (DX P W d L) → KeysT H' L → L.map (·.1) = (layr w h st t).1 → (layr w h st t).2 = [] → (∀ e ∈ L, ∃ n : Nat, e.2.2 = nV n ∧ IsDist w h st e.1 n) → Q (.ref d) H'
end Sf
namespace Sf
open PySem PySem.Spec PyProof.Rows L2
/-- a method as it stands behind the top -/
structure Me (K : PySem.W.Frag) (C : Addr) (m : Str) (qual : Str) (st : Stmt) (ps : List Str) where
  f : Addr
  fd : FuncData
  F : Fun K m qual st f fd
  b : Binds K fd ps []
  me : Meth K C m f
abbrev FnM (P : Program) (w : World) {K : PySem.W.Frag} (mg : Str → Option Value) (base : Heap) (CX : CXT) (k : Nat) {C : Addr} {m qual : Str} {st : Stmt} {ps : List Str} (D : Me K C m qual st ps) (sp : Sp) : Prop := FnOk P w K mg base CX k D.f D.fd ps sp
section
variable {X : Cx} {CX : CXT} {k : Nat} {m qual : Str} {st : Stmt} {ps : List Str} {sp : Sp} {E : XK} {C : Addr} {ta : TE} {o : Expr} {p pos apos : Pos} {e : Expr} {es : List Expr} {t : TA} {W : WX}
/-- o.m(e, ..) -/
theorem pe_m {pl : Sem Bool} (D : Me X.K C m qual st ps) (c : Cls X.K C) (G : FnOk X.prog X.w X.K X.mg X.base CX k D.f D.fd ps sp) (hr : Room k X.A) (hx : Passes CX X E) (he : PE X o ta) (ha : PA X (e :: es) t)
    (hst : starEach (e :: es) X.env = (false, eval e X.env) :: starEach es X.env := by rfl) (hpl : (backTo pos (starEach es X.env)).any (·.1) = false := by rfl)
    (ht : eval (.Call (.Attribute o m apos) (e :: es) [] pos) X.env = (do
      let ov ← eval o X.env
      standAt apos.atName
      let (f, first) ← holding [ov] (getMethod ov m pl)
      callWith pos f first (backTo pos (starEach (e :: es) X.env)) (backToKw pos (keywordEach [] X.env))) := by rfl) :
    PE X (.Call (.Attribute o m apos) (e :: es) [] pos) (tMeth C m sp [] E ta t) := pe_meth he c D.me G hr D.b .nil hx ha hst hpl ht
theorem pe_m0 {pl : Sem Bool} (D : Me X.K C m qual st ps) (c : Cls X.K C) (G : FnOk X.prog X.w X.K X.mg X.base CX k D.f D.fd ps sp) (hr : Room k X.A) (hx : Passes CX X E) (he : PE X o ta)
    (ht : eval (.Call (.Attribute o m apos) [] [] pos) X.env = (do
      let ov ← eval o X.env
      standAt apos.atName
      let (f, first) ← holding [ov] (getMethod ov m pl)
      callWith pos f first (backTo pos (starEach [] X.env)) (backToKw pos (keywordEach [] X.env))) := by rfl) :
    PE X (.Call (.Attribute o m apos) [] [] pos) (tMeth C m sp [] E ta tNil) := pe_meth0 he c D.me G hr D.b .nil hx ht
def tMethD (C : Addr) (m : Str) (sp : Sp) (E : L2.St → XK) (ta : TE) (t : TA) : TE := fun σ H Q => ta σ H fun x H1 => ∃ a dx fs, x = .ref a ∧ H1 a = some (.ins C dx fs) ∧ fs.lookup m = none ∧ t σ H1 fun vs H2 => sp (x :: vs) H2 Q (E σ)
/-- o.m(e, ..) within a try -/
theorem pe_mS {pl : Sem Bool} (D : Me X.K C m qual st ps) (c : Cls X.K C) (G : FnOk X.prog X.w X.K X.mg X.base (L2.CX X.prog X.w) k D.f D.fd ps sp) (hr : Room k X.A) (tk : Takes X W) (he : PE X o ta) (ha : PA X (e :: es) t)
    (hst : starEach (e :: es) X.env = (false, eval e X.env) :: starEach es X.env := by rfl) (hpl : (backTo pos (starEach es X.env)).any (·.1) = false := by rfl)
    (ht : eval (.Call (.Attribute o m apos) (e :: es) [] pos) X.env = (do
      let ov ← eval o X.env
      standAt apos.atName
      let (f, first) ← holding [ov] (getMethod ov m pl)
      callWith pos f first (backTo pos (starEach (e :: es) X.env)) (backToKw pos (keywordEach [] X.env))) := by rfl) :
    PE X (.Call (.Attribute o m apos) (e :: es) [] pos) (tMethD C m sp (WE W) ta t) := by
  refine ⟨fun pins s σ H Q I h => ?_⟩
  refine PySem.W.methodCall_KW (pl := pl) (thn (he.run pins s σ H _ I h) fun u s1 ⟨x, H1, I1, rx, a, dx, fs, ex, ea, l, q⟩ => ?_) ht
  subst ex
  obtain rfl : u = Value.ref a := rx
  refine getmeth_ok I1 ea c D.me l ?_
  refine PySem.W.callWith_K (first := [.ref a]) (h₀ := X.base) I.ok.mod.kin D.me.kp (thn (ha.run pos pins s1 σ H1 _ I1 q) fun us s2 ⟨vs, H2, I2, r, q2⟩ => ⟨I2.kIn, ?_⟩) hst hpl
  exact run_fnSD (us := .ref a :: us) (vs := .ref a :: vs) (dvs := []) (E := WE W) G hr D.b .nil (passAt tk σ) I2 (.cons rfl r) (by rw [List.append_nil]; exact q2)
theorem pe_mS0 {pl : Sem Bool} (D : Me X.K C m qual st ps) (c : Cls X.K C) (G : FnOk X.prog X.w X.K X.mg X.base (L2.CX X.prog X.w) k D.f D.fd ps sp) (hr : Room k X.A) (tk : Takes X W) (he : PE X o ta)
    (ht : eval (.Call (.Attribute o m apos) [] [] pos) X.env = (do
      let ov ← eval o X.env
      standAt apos.atName
      let (f, first) ← holding [ov] (getMethod ov m pl)
      callWith pos f first (backTo pos (starEach [] X.env)) (backToKw pos (keywordEach [] X.env))) := by rfl) :
    PE X (.Call (.Attribute o m apos) [] [] pos) (tMethD C m sp (WE W) ta tNil) := by
  refine ⟨fun pins s σ H Q I h => ?_⟩
  refine PySem.W.methodCall_KW (pl := pl) (thn (he.run pins s σ H _ I h) fun u s1 ⟨x, H1, I1, rx, a, dx, fs, ex, ea, l, q⟩ => ?_) ht
  subst ex
  obtain rfl : u = Value.ref a := rx
  refine getmeth_ok I1 ea c D.me l ?_
  exact PySem.W.callWith_K0 (first := [.ref a]) I1.kIn D.me.kp (run_fnSD (us := [.ref a]) (vs := [.ref a]) (dvs := []) (E := WE W) G hr D.b .nil (passAt tk σ) I1 (.cons rfl .nil) (by rw [List.append_nil]; exact q))
end
/-- a loop over the keys of a written dict -/
theorem for_ktab {kvs : List (Str × Value)} {g : TG} {tb : TS} {D : Ends} {σ : L2.St} {H : Hp} (Pv : Nat → L2.St → Hp → Prop) (h0 : Pv 0 σ H)
    (hs : ∀ i k v σ H, kvs[i]? = some (k, v) → Pv i σ H → g (.str k) σ H fun σ2 H2 => tb { D with nx := Pv (i + 1), ct := Pv (i + 1), bk := D.nx } σ2 H2) (hd : ∀ σ H, Pv kvs.length σ H → D.nx σ H) :
    ∃ W : Nat → Nat → L2.St → Hp → Prop, (∃ m, W 0 m σ H) ∧ ∀ i m σ H, W i m σ H →
      ((Itkk kvs).stop i H ∧ D.nx σ H) ∨ ((Itkk kvs).go i H ∧ ∃ N : L2.St → Hp → Prop, (∀ σ' H', N σ' H' → ∃ m', m' < m ∧ W (i + 1) m' σ' H') ∧ ∀ x H', (Itkk kvs).yld i H x H' → g x σ H' fun σ2 H2 => tb { D with nx := N, ct := N, bk := D.nx } σ2 H2) := by
  refine ⟨fun i m σ H => m = kvs.length - i ∧ i ≤ kvs.length ∧ Pv i σ H, ⟨kvs.length, by simp, Nat.zero_le _, h0⟩, ?_⟩
  rintro i m σ H ⟨rfl, hi, p⟩
  by_cases hlt : i < kvs.length
  · refine .inr ⟨hlt, Pv (i + 1), fun σ' H' p' => ⟨kvs.length - (i + 1), by omega, rfl, hlt, p'⟩, fun x H' y => ?_⟩
    obtain ⟨e, k, v, e2, e3⟩ := y
    subst e e3
    exact hs i k v σ _ e2 p
  · have e : i = kvs.length := by omega
    subst e
    exact .inl ⟨Nat.le_refl _, hd σ H p⟩
end Sf
namespace Sf
open PySem PySem.Spec PyProof.Rows L2

/-! ### the text by places -/
def top (i : Nat) : Stmt := PySem.Challenge.pw_slidefloor_k06_fewest_by_all.main.body.getD i (.Pass ⟨0, 0, 0, 0⟩)
abbrev s_need_floor : Stmt := top 8
abbrev s_need_standing : Stmt := top 9
abbrev s_is_number : Stmt := top 10
abbrev s_count_places : Stmt := top 11
abbrev s_column_and_row : Stmt := top 12
abbrev s_side : Stmt := top 14
abbrev s_is_joined : Stmt := top 15
abbrev s_is_line : Stmt := top 16
abbrev s_count_falls : Stmt := top 17
abbrev s_tiles_in_order : Stmt := top 18
abbrev s_tile_place : Stmt := top 21
abbrev s_empty_goes : Stmt := top 23
abbrev s_fewest : Stmt := top 26
abbrev s_farthest : Stmt := top 27
abbrev s_need_few_places : Stmt := top 28
abbrev s_count_moves : Stmt := top 29
abbrev s_first_layer : Stmt := top 30
abbrev s_next_layer : Stmt := top 31
abbrev s_law_draw : Stmt := top 33
abbrev s_law_whole : Stmt := top 34
abbrev s_law_floor : Stmt := top 35
abbrev s_law_standing : Stmt := top 36
abbrev s_law_moved : Stmt := top 37
abbrev s_law_words : Stmt := top 38
abbrev s_law_far : Stmt := top 39
abbrev s_law_right : Stmt := top 40
abbrev s_law : Stmt := top 41
/-- what the top has written -/
structure Tx (K : PySem.W.Frag) (mg : Str → Option Value) where
  d_need_floor : Df K mg "need_floor" s_need_floor ["floor"]
  d_need_standing : Df K mg "need_standing" s_need_standing ["floor", "standing"]
  d_is_number : Df K mg "is_number" s_is_number ["value"]
  d_count_places : Df K mg "count_places" s_count_places ["floor"]
  d_column_and_row : Df K mg "column_and_row" s_column_and_row ["floor", "place"]
  d_side : Df K mg "side" s_side ["floor", "standing"]
  d_is_joined : Df K mg "is_joined" s_is_joined ["floor", "one", "other"]
  d_is_line : Df K mg "is_line" s_is_line ["floor"]
  d_count_falls : Df K mg "count_falls" s_count_falls ["standing"]
  d_tiles_in_order : Df K mg "tiles_in_order" s_tiles_in_order ["standing"]
  d_tile_place : Df K mg "tile_place" s_tile_place ["floor", "empty", "word"]
  d_empty_goes : Df K mg "empty_goes" s_empty_goes ["floor", "filled"]
  d_fewest : Df K mg "fewest" s_fewest ["floor", "one", "other"]
  d_farthest : Df K mg "farthest" s_farthest ["floor", "standing"]
  d_need_few_places : Df K mg "need_few_places" s_need_few_places ["floor"]
  d_count_moves : Df K mg "count_moves" s_count_moves ["goes", "one", "other"]
  d_first_layer : Df K mg "first_layer" s_first_layer ["standing"]
  d_next_layer : Df K mg "next_layer" s_next_layer ["goes", "layer", "before"]
  d_law_draw : Df K mg "_law_draw" s_law_draw ["_law_script", "_law_k"]
  d_law_whole : Df K mg "_law_whole" s_law_whole ["_law_found"]
  d_law_floor : Df K mg "_law_floor" s_law_floor ["_law_number"]
  d_law_standing : Df K mg "_law_standing" s_law_standing ["_law_script", "_law_k", "_law_floor_here"]
  d_law_moved : Df K mg "_law_moved" s_law_moved ["_law_floor_here", "_law_standing_here", "_law_word"]
  d_law_words : Df K mg "_law_words" s_law_words ["_law_floor_here", "_law_standing_here"]
  d_law_far : Df K mg "_law_far" s_law_far ["_law_floor_here", "_law_standing_here"]
  d_law_right : Df K mg "_law_right" s_law_right ["_law_found", "_law_due"]
  d_law : Df K mg "law" s_law ["_law_script"]
  c_SlideError : Ec K mg "SlideError"
  c_BadFloor : Ec K mg "BadFloor"
  c_BadStanding : Ec K mg "BadStanding"
  c_TooMany : Ec K mg "TooMany"
  k_LONGEST_SIDE : ∃ t, mg "LONGEST_SIDE" = some (.int 4 t)
  k_FEWEST_PLACES : ∃ t, mg "FEWEST_PLACES" = some (.int 2 t)
  k_MOST_PLACES : ∃ t, mg "MOST_PLACES" = some (.int 6 t)
  b_len : mg "len" = none
  b_sorted : mg "sorted" = none
  b_list : mg "list" = none
  b_range : mg "range" = none
  b_tuple : mg "tuple" = none
  b_type : mg "type" = none
  b_int : mg "int" = none
  b_isinstance : mg "isinstance" = none
  b_enumerate : mg "enumerate" = none
  b_all : mg "all" = none
  b_any : mg "any" = none
  b_sum : mg "sum" = none
  b_bool : mg "bool" = none
  b_ValueError : mg "ValueError" = none
  b_max : mg "max" = none
end Sf
namespace Sf
open PySem PySem.Spec PyProof.Rows L2
/-! ### the written dict of the moves -/
def TPair (K : PySem.W.Frag) (a : Addr) (x y : Int) : Prop := ∃ (dd : Option Addr) (t u : Tok) (n : Nat) (sl : Array (Option Value)), K.lookup a = some ⟨.type "tuple", dd, .seq #[.int x t, .int y u] n, sl⟩
structure TS (K : PySem.W.Frag) (P : Params) (mg : Str → Option Value) where
  d : Addr
  g : mg "TILE_STANDS" = some (.ref d)
  n : Nat
  t0 : Tok
  t1 : Tok
  t2 : Tok
  t3 : Tok
  a0 : Addr
  a1 : Addr
  a2 : Addr
  a3 : Addr
  low : (d == sysModules) = false
  l : K.lookup d = some ⟨.type "dict", none, .dict #[⟨PyData.keyHash P "up", .str "up" t0, .ref a0⟩, ⟨PyData.keyHash P "down", .str "down" t1, .ref a1⟩, ⟨PyData.keyHash P "left", .str "left" t2, .ref a2⟩, ⟨PyData.keyHash P "right", .str "right" t3, .ref a3⟩] n, #[]⟩
  v0 : TPair K a0 0 1
  v1 : TPair K a1 0 (-1)
  v2 : TPair K a2 1 0
  v3 : TPair K a3 (-1) 0
end Sf
namespace Sf
open PySem PySem.Spec PyProof.Rows L2
/- need_floor: 0:floor 1:length -/
theorem sc_need_floor : FnScope ["floor", "length"] ["floor"] (defScope s_need_floor) := ⟨rfl, rfl, rfl, by decide +kernel, rfl, by decide +kernel, by decide +kernel⟩
/- need_standing: 0:floor 1:standing 2:places 3:number -/
theorem sc_need_standing : FnScope ["floor", "standing", "places", "number"] ["floor", "standing"] (defScope s_need_standing) := ⟨rfl, rfl, rfl, by decide +kernel, rfl, by decide +kernel, by decide +kernel⟩
/- is_number: 0:value -/
theorem sc_is_number : FnScope ["value"] ["value"] (defScope s_is_number) := ⟨rfl, rfl, rfl, by decide +kernel, rfl, by decide +kernel, by decide +kernel⟩
/- count_places: 0:floor 1:wide 2:high -/
theorem sc_count_places : FnScope ["floor", "wide", "high"] ["floor"] (defScope s_count_places) := ⟨rfl, rfl, rfl, by decide +kernel, rfl, by decide +kernel, by decide +kernel⟩
/- column_and_row: 0:floor 1:place 2:wide -/
theorem sc_column_and_row : FnScope ["floor", "place", "wide"] ["floor", "place"] (defScope s_column_and_row) := ⟨rfl, rfl, rfl, by decide +kernel, rfl, by decide +kernel, by decide +kernel⟩
/- side: 0:floor 1:standing 2:x 3:y -/
theorem sc_side : FnScope ["floor", "standing", "x", "y"] ["floor", "standing"] (defScope s_side) := ⟨rfl, rfl, rfl, by decide +kernel, rfl, by decide +kernel, by decide +kernel⟩
/- is_joined: 0:floor 1:one 2:other -/
theorem sc_is_joined : FnScope ["floor", "one", "other"] ["floor", "one", "other"] (defScope s_is_joined) := ⟨rfl, rfl, rfl, by decide +kernel, rfl, by decide +kernel, by decide +kernel⟩
/- is_line: 0:floor -/
theorem sc_is_line : FnScope ["floor"] ["floor"] (defScope s_is_line) := ⟨rfl, rfl, rfl, by decide +kernel, rfl, by decide +kernel, by decide +kernel⟩
/- count_falls: 0:standing 1:falls 2:place 3:number 4:later -/
theorem sc_count_falls : FnScope ["standing", "falls", "place", "number", "later"] ["standing"] (defScope s_count_falls) := ⟨rfl, rfl, rfl, by decide +kernel, rfl, by decide +kernel, by decide +kernel⟩
/- tiles_in_order: 0:standing 1:number -/
theorem sc_tiles_in_order : FnScope ["standing", "number"] ["standing"] (defScope s_tiles_in_order) := ⟨rfl, rfl, rfl, by decide +kernel, rfl, by decide +kernel, by decide +kernel⟩
/- tile_place: 0:floor 1:empty 2:word 3:wide 4:high 5:x 6:y 7:right 8:down -/
theorem sc_tile_place : FnScope ["floor", "empty", "word", "wide", "high", "x", "y", "right", "down"] ["floor", "empty", "word"] (defScope s_tile_place) := ⟨rfl, rfl, rfl, by decide +kernel, rfl, by decide +kernel, by decide +kernel⟩
/- empty_goes: 0:floor 1:filled 2:goes 3:place 4:word 5:there -/
theorem sc_empty_goes : FnScope ["floor", "filled", "goes", "place", "word", "there"] ["floor", "filled"] (defScope s_empty_goes) := ⟨rfl, rfl, rfl, by decide +kernel, rfl, by decide +kernel, by decide +kernel⟩
/- fewest: 0:floor 1:one 2:other -/
theorem sc_fewest : FnScope ["floor", "one", "other"] ["floor", "one", "other"] (defScope s_fewest) := ⟨rfl, rfl, rfl, by decide +kernel, rfl, by decide +kernel, by decide +kernel⟩
/- farthest: 0:floor 1:standing 2:goes 3:before 4:layer 5:number 6:following -/
theorem sc_farthest : FnScope ["floor", "standing", "goes", "before", "layer", "number", "following"] ["floor", "standing"] (defScope s_farthest) := ⟨rfl, rfl, rfl, by decide +kernel, rfl, by decide +kernel, by decide +kernel⟩
/- need_few_places: 0:floor -/
theorem sc_need_few_places : FnScope ["floor"] ["floor"] (defScope s_need_few_places) := ⟨rfl, rfl, rfl, by decide +kernel, rfl, by decide +kernel, by decide +kernel⟩
/- count_moves: 0:goes 1:one 2:other 3:before 4:layer 5:before_there 6:layer_there 7:number 8:standing -/
theorem sc_count_moves : FnScope ["goes", "one", "other", "before", "layer", "before_there", "layer_there", "number", "standing"] ["goes", "one", "other"] (defScope s_count_moves) := ⟨rfl, rfl, rfl, by decide +kernel, rfl, by decide +kernel, by decide +kernel⟩
/- first_layer: 0:standing -/
theorem sc_first_layer : FnScope ["standing"] ["standing"] (defScope s_first_layer) := ⟨rfl, rfl, rfl, by decide +kernel, rfl, by decide +kernel, by decide +kernel⟩
/- next_layer: 0:goes 1:layer 2:before 3:found 4:standing 5:empty 6:_ 7:there 8:numbers 9:then -/
theorem sc_next_layer : FnScope ["goes", "layer", "before", "found", "standing", "empty", "_", "there", "numbers", "then"] ["goes", "layer", "before"] (defScope s_next_layer) := ⟨rfl, rfl, rfl, by decide +kernel, rfl, by decide +kernel, by decide +kernel⟩
/- law_draw: 0:_law_script 1:_law_k 2:_law_cell 3:_law_number -/
theorem sc_law_draw : FnScope ["_law_script", "_law_k", "_law_cell", "_law_number"] ["_law_script", "_law_k"] (defScope s_law_draw) := ⟨rfl, rfl, rfl, by decide +kernel, rfl, by decide +kernel, by decide +kernel⟩
/- law_whole: 0:_law_found -/
theorem sc_law_whole : FnScope ["_law_found"] ["_law_found"] (defScope s_law_whole) := ⟨rfl, rfl, rfl, by decide +kernel, rfl, by decide +kernel, by decide +kernel⟩
/- law_floor: 0:_law_number -/
theorem sc_law_floor : FnScope ["_law_number"] ["_law_number"] (defScope s_law_floor) := ⟨rfl, rfl, rfl, by decide +kernel, rfl, by decide +kernel, by decide +kernel⟩
/- law_standing: 0:_law_script 1:_law_k 2:_law_floor_here 3:_law_rows 4:_law_j 5:_law_row -/
theorem sc_law_standing : FnScope ["_law_script", "_law_k", "_law_floor_here", "_law_rows", "_law_j", "_law_row"] ["_law_script", "_law_k", "_law_floor_here"] (defScope s_law_standing) := ⟨rfl, rfl, rfl, by decide +kernel, rfl, by decide +kernel, by decide +kernel⟩
/- law_moved: 0:_law_floor_here 1:_law_standing_here 2:_law_word 3:_law_wide 4:_law_high 5:_law_empty 6:_law_x 7:_law_y 8:_law_tile 9:_law_found 10:_law_one -/
theorem sc_law_moved : FnScope ["_law_floor_here", "_law_standing_here", "_law_word", "_law_wide", "_law_high", "_law_empty", "_law_x", "_law_y", "_law_tile", "_law_found", "_law_one"] ["_law_floor_here", "_law_standing_here", "_law_word"] (defScope s_law_moved) := ⟨rfl, rfl, rfl, by decide +kernel, rfl, by decide +kernel, by decide +kernel⟩
/- law_words: 0:_law_floor_here 1:_law_standing_here 2:_law_word -/
theorem sc_law_words : FnScope ["_law_floor_here", "_law_standing_here", "_law_word"] ["_law_floor_here", "_law_standing_here"] (defScope s_law_words) := ⟨rfl, rfl, rfl, by decide +kernel, rfl, by decide +kernel, by decide +kernel⟩
/- law_far: 0:_law_floor_here 1:_law_standing_here 2:_law_found 3:_law_layer 4:_law_later 5:_law_one 6:_law_word 7:_law_other -/
theorem sc_law_far : FnScope ["_law_floor_here", "_law_standing_here", "_law_found", "_law_layer", "_law_later", "_law_one", "_law_word", "_law_other"] ["_law_floor_here", "_law_standing_here"] (defScope s_law_far) := ⟨rfl, rfl, rfl, by decide +kernel, rfl, by decide +kernel, by decide +kernel⟩
/- law_right: 0:_law_found 1:_law_due 2:_law_one -/
theorem sc_law_right : FnScope ["_law_found", "_law_due", "_law_one"] ["_law_found", "_law_due"] (defScope s_law_right) := ⟨rfl, rfl, rfl, by decide +kernel, rfl, by decide +kernel, by decide +kernel⟩
/- law: 0:_law_script 1:_law_number 2:_law_floor_here 3:_law_first 4:_law_far_here 5:_law_some 6:_law_k 7:_law_other 8:_law_found 9:_law_most 10:_law_due 11:_law_one -/
theorem sc_law : FnScope ["_law_script", "_law_number", "_law_floor_here", "_law_first", "_law_far_here", "_law_some", "_law_k", "_law_other", "_law_found", "_law_most", "_law_due", "_law_one"] ["_law_script"] (defScope s_law) := ⟨rfl, rfl, rfl, by decide +kernel, rfl, by decide +kernel, by decide +kernel⟩
end Sf
namespace Sf
open PySem PySem.Spec PyProof.Rows L2
section
variable {P : Program} {w : World} {K : PySem.W.Frag} {mg : Str → Option Value} {base : Heap}
theorem ok_is_number (T : Tx K mg) : FnD P w base CX0 1 T.d_is_number (spNum K) := by
  refine T.d_is_number.F.ok sc_is_number (fun vs H Q E h => ?_) (fun cdv A outer s H vs Q E hr h => ?_)
  · obtain ⟨v, t, rfl, _⟩ := h
    rfl
  · obtain ⟨v, t, rfl, hv, k⟩ := h
    refine ⟨_, pss_one (ps_ret (pe_cmpR op_eqTy (pe_t call_type1 T.b_type (pa1 (pv 0))) (pe_ty (T := "int") T.b_int) (nomark _))), ?_⟩
    exact ⟨_, rfl, v, t, rfl, hv, _, _, rfl, rfl, TyB.tyty hv, ty_int, k⟩
theorem ok_count_places (T : Tx K mg) : FnD P w base CX0 1 T.d_count_places (spCount K) := by
  refine T.d_count_places.F.ok sc_count_places (fun vs H Q E h => ?_) (fun cdv A outer s H vs Q E hr h => ?_)
  · obtain ⟨a, x, y, rfl, _⟩ := h
    rfl
  · obtain ⟨a, x, y, rfl, hs, hx, hy, k⟩ := h
    refine ⟨_, pss_cons (ps_asg (pv 0) (pg_tup (by rfl) (pgs_cons (pg_name (i := 1) sc_count_places.nd rfl (.inl rfl)) (pgs_cons (pg_name (i := 2) sc_count_places.nd rfl (.inl rfl)) pgs_nil))))
      (pss_one (ps_ret (pe_op op_mul (pv 1) (pv 2)))), ?_⟩
    refine ⟨_, rfl, a, _, rfl, hs, rfl, _, _, rfl, _, _, rfl, rfl, _, rfl, _, rfl, _, _, rfl, rfl, .inl ⟨by omega, by omega⟩, ?_⟩
    have e : ((x * y : Nat) : Int) = (x : Int) * (y : Int) := Int.natCast_mul x y
    rw [e] at k
    exact k
theorem nat_of_side {i : Int} (h1 : ¬ i < 1) (h2 : ¬ (4 : Int) < i) : ∃ n : Nat, i = (n : Int) ∧ 1 ≤ n ∧ n ≤ 4 := ⟨i.toNat, by omega, by omega, by omega⟩
theorem ok_need_floor (T : Tx K mg) : FnD P w base (L2.CX P w) 2 T.d_need_floor (spNeedF K T.c_BadFloor.C) := by
  have G1 : FnD P w base CX0 1 T.d_is_number (spNum K) := ok_is_number T
  have G2 : FnD P w base CX0 1 T.d_count_places (spCount K) := ok_count_places T
  refine T.d_need_floor.F.okX sc_need_floor (fun vs H Q E h => ?_) (fun cdv A outer s H vs Q E hr h => ?_)
  · obtain ⟨v, o, rfl, _⟩ := h
    rfl
  · obtain ⟨v, o, rfl, hf, kg, kb⟩ := h
    obtain ⟨t1, k1⟩ := T.k_LONGEST_SIDE
    obtain ⟨t2, k2⟩ := T.k_FEWEST_PLACES
    refine ⟨_, pss_cons (ps_if (PW.pt (pw_or (pt_cmpR op_neTy (pe_t call_type1 T.b_type (pa1 (pv 0))) (pe_ty (T := "tuple") T.b_tuple) (nomark _))
          (pw_or1 (pt_cmpR op_ne (pe_b call_len_seq T.b_len (pa1 (pv 0))) pe_int (nomark _)))))
        (pss_one (ps_rs T.c_BadFloor rfl (takes_of rfl rfl rfl rfl))) pss_nil)
      (pss_cons (ps_for (passes_of rfl) rfl (pi_tup (pv 0)) (pg_name (i := 1) sc_need_floor.nd rfl (.inl rfl))
        (pss_one (ps_if (PW.pt (pw_or (pt_not (pt_val (pe_d T.d_is_number G1 hr pass0 (pa1 (pv 1)))))
            (pw_or (pt_cmpR op_lt (pv 1) pe_int (nomark _)) (pw_or1 (pt_cmpR op_gt (pv 1) (pe_k k1) (nomark _))))))
          (pss_one (ps_rs T.c_BadFloor rfl (takes_of rfl rfl rfl rfl))) pss_nil)))
      (pss_one (ps_if (pt_cmpR op_lt (pe_d T.d_count_places G2 hr pass0 (pa1 (pv 0))) (pe_k k2) (nomark _))
          (pss_one (ps_rs T.c_BadFloor rfl (takes_of rfl rfl rfl rfl))) pss_nil))), ?_⟩
    -- the kind
    have hk : ∃ t, TyB K H v t ∧ (t ≠ "tuple" → o = none) ∧ (t = "tuple" → ∃ a xs, v = .ref a ∧ SqT K H a xs ∧ (xs.length ≠ 2 → o = none) ∧ ∀ x y, xs = [x, y] → Kn K H x ∧ Kn K H y ∧
        (∀ w h : Nat, x = .int w → y = .int h → Fl w h → o ≠ none) ∧ ((¬ ∃ w h : Nat, x = .int w ∧ y = .int h ∧ Fl w h) → o = none)) := by
      cases hf with
      | good h F =>
        refine ⟨_, .tup h, fun z => absurd rfl z, fun _ => ⟨_, _, rfl, h, fun z => absurd rfl z, fun x y e => ?_⟩⟩
        cases e
        exact ⟨⟨_, .int _⟩, ⟨_, .int _⟩, fun _ _ _ _ _ z => (by cases z), fun z => absurd ⟨_, _, rfl, rfl, F⟩ z⟩
      | kind t n => exact ⟨_, t, fun _ => rfl, fun z => absurd z n⟩
      | size h n => exact ⟨_, .tup h, fun _ => rfl, fun _ => ⟨_, _, rfl, h, fun _ => rfl, fun x y e => absurd (by rw [e]; rfl) n⟩⟩
      | side h kx ky n =>
        refine ⟨_, .tup h, fun _ => rfl, fun _ => ⟨_, _, rfl, h, fun _ => rfl, fun x y e => ?_⟩⟩
        cases e
        exact ⟨kx, ky, fun a b e1 e2 F => absurd ⟨a, b, e1, e2, F⟩ n, fun _ => rfl⟩
    obtain ⟨t, hty, hnt, htup⟩ := hk
    refine ⟨_, rfl, v, t, rfl, hty, _, _, rfl, rfl, TyB.tyty hty, ty_tuple, _, rfl, ?_⟩
    by_cases et : t = "tuple"
    · refine iteNF et ?_
      obtain ⟨a, xs, rfl, hs, hl, hxy⟩ := htup et
      refine ⟨_, rfl, a, xs, rfl, .inr hs, rfl, _, rfl, ?_⟩
      by_cases el : xs.length = 2
      · refine iteNF (by rw [el]; rfl) ?_
        obtain ⟨x, y, rfl⟩ : ∃ x y, xs = [x, y] := by
          match xs, el with
          | [x, y], _ => exact ⟨x, y, rfl⟩
        obtain ⟨⟨tx, kx⟩, ⟨ty, ky⟩, hgood, hbad⟩ := hxy x y rfl
        -- the loop over both sides
        refine ⟨_, rfl, a, rfl, ⟨_, hs⟩, for_tup (K := K) (a := a) (xs := [x, y]) (fun i σ H2 => H2 = H ∧ (∃ u : Option V, σ = [some (.ref a), u]) ∧ ∀ j, j < i → ∀ z, [x, y][j]? = some z → okSide z) ⟨rfl, ⟨none, rfl⟩, fun j hj => absurd hj (Nat.not_lt_zero j)⟩
          (fun i σ H2 _ p => by rw [p.1]; exact hs) ?_ ?_⟩
        · rintro i z σ H2 hz ⟨rfl, ⟨u, rfl⟩, hp⟩
          have hzk : ∃ tz, TyB K H2 z tz := by
            match i, hz with
            | 0, hz => cases hz; exact ⟨tx, kx⟩
            | 1, hz => cases hz; exact ⟨ty, ky⟩
          obtain ⟨tz, hzt⟩ := hzk
          have bad : ¬ okSide z → E (.ref T.c_BadFloor.C) none H2 := fun nz => by
            refine kb (hbad ?_)
            rintro ⟨w', h', e1, e2, F⟩
            refine nz ?_
            match i, hz with
            | 0, hz => cases hz; exact ⟨w', e1, F.w1, F.w4⟩
            | 1, hz => cases hz; exact ⟨h', e2, F.h1, F.h4⟩
          refine ⟨_, rfl, z, tz, rfl, hzt, _, rfl, ?_⟩
          refine iteN2 (fun e => bad ?_) fun e => ?_
          · rintro ⟨n, rfl, _⟩
            cases hzt
            exact absurd (of_decide_eq_false e) (fun q => q rfl)
          · obtain ⟨i', rfl⟩ := tyb_int hzt (of_decide_eq_true e)
            refine ⟨_, rfl, _, _, rfl, rfl, _, rfl, ?_⟩
            refine ite2 (fun e1 => bad ?_) fun e1 => ⟨_, rfl, _, _, rfl, rfl, _, rfl, ?_⟩
            · rintro ⟨n, e2, n1, n4⟩
              have := V.int.inj e2
              have := of_decide_eq_true e1
              omega
            · refine ite2 (fun e2 => bad ?_) fun e2 => ?_
              · rintro ⟨n, e3, n1, n4⟩
                have := V.int.inj e3
                have := of_decide_eq_true e2
                omega
              · obtain ⟨n, rfl, n1, n4⟩ := nat_of_side (fun q => e1 (decide_eq_true q)) (fun q => e2 (decide_eq_true q))
                refine ⟨rfl, ⟨_, rfl⟩, fun j hj z' hz' => ?_⟩
                by_cases ej : j < i
                · exact hp j ej z' hz'
                · have : j = i := by omega
                  subst this
                  rw [hz] at hz'
                  cases hz'
                  exact ⟨n, rfl, n1, n4⟩
        · rintro σ H2 ⟨rfl, ⟨u, rfl⟩, hp⟩
          obtain ⟨wx, rfl, a1, a4⟩ := hp 0 (by show 0 < 2; omega) x rfl
          obtain ⟨wy, rfl, b1, b4⟩ := hp 1 (by show 1 < 2; omega) y rfl
          refine ⟨_, rfl, a, wx, wy, rfl, hs, a4, b4, _, _, rfl, rfl, _, rfl, ?_⟩
          refine ite2 (fun e => kb (hbad ?_)) fun e => kg ?_
          · rintro ⟨w', h', e1, e2, F⟩
            have q1 := V.int.inj e1
            have q2 := V.int.inj e2
            have q3 := of_decide_eq_true e
            have q4 : wx = w' := by omega
            have q5 : wy = h' := by omega
            subst q4 q5
            have := F.two
            omega
          · have q : ¬ ((wx * wy : Nat) : Int) < 2 := fun q => e (decide_eq_true q)
            have n := hgood wx wy rfl rfl ⟨a1, a4, b1, b4, by omega⟩
            cases o with
            | none => exact absurd rfl n
            | some p => rfl
      · refine iteNT (fun q => el (by have := V.int.inj q; omega)) (kb (hl el))
    · exact iteNT et (kb (hnt et))
end
end Sf
namespace Sf
open PySem PySem.Spec PyProof.Rows L2
section
variable {P : Program} {w : World} {K : PySem.W.Frag} {mg : Str → Option Value} {base : Heap}
theorem ok_need_standing (T : Tx K mg) : FnD P w base (L2.CX P w) 3 T.d_need_standing (spNeedS K T.c_BadFloor.C T.c_BadStanding.C) := by
  have G1 : FnD P w base CX0 1 T.d_is_number (spNum K) := ok_is_number T
  have G2 : FnD P w base CX0 1 T.d_count_places (spCount K) := ok_count_places T
  have G3 : FnD P w base (L2.CX P w) 2 T.d_need_floor (spNeedF K T.c_BadFloor.C) := ok_need_floor T
  refine T.d_need_standing.F.okX sc_need_standing (fun vs H Q E h => ?_) (fun cdv A outer s H vs Q E hr h => ?_)
  · obtain ⟨f, v, o, rfl, _⟩ := h
    rfl
  · obtain ⟨f, v, o, rfl, hf, kf, ks⟩ := h
    have hr1 : Room 1 _ := hr.mono (by decide)
    refine ⟨_, pss_cons (ps_expr (pe_d T.d_need_floor G3 hr (passes_call (takes_of rfl rfl rfl rfl) (fun _ _ _ _ z => z)) (pa1 (pv 0))))
      (pss_cons (ps_set (i := 2) sc_need_standing.nd rfl (.inl rfl) (pe_d T.d_count_places G2 hr1 pass0 (pa1 (pv 0))))
      (pss_cons (ps_if (PW.pt (pw_or (pt_cmpR op_neTy (pe_t call_type1 T.b_type (pa1 (pv 1))) (pe_ty (T := "tuple") T.b_tuple) (nomark _))
          (pw_or1 (pt_cmpR op_ne (pe_b call_len_seq T.b_len (pa1 (pv 1))) (pv 2) (nomark _)))))
        (pss_one (ps_rs T.c_BadStanding rfl (takes_of rfl rfl rfl rfl))) pss_nil)
      (pss_cons (ps_for (passes_of rfl) rfl (pi_tup (pv 1)) (pg_name (i := 3) sc_need_standing.nd rfl (.inl rfl))
        (pss_one (ps_if (pt_not (pt_val (pe_d T.d_is_number G1 hr1 pass0 (pa1 (pv 3)))))
          (pss_one (ps_rs T.c_BadStanding rfl (takes_of rfl rfl rfl rfl))) pss_nil)))
      (pss_one (ps_if (pt_cmpR (op_neD hr.units) (pe_b cr_sortedTI T.b_sorted (pa1 (pv 1))) (pe_listRg rfl (by rfl) T.b_list (prg_1 (by rfl) T.b_range (pv 2))) (nomark _))
          (pss_one (ps_rs T.c_BadStanding rfl (takes_of rfl rfl rfl rfl))) pss_nil))))), ?_⟩
    refine ⟨_, rfl, f, o, rfl, hf, fun ho => ?_, kf⟩
    cases hf with
    | kind => cases ho
    | size => cases ho
    | side => cases ho
    | @good a wd hg hfs F =>
      obtain ⟨o2, hv, kg, kb⟩ := ks wd hg rfl
      refine ⟨_, rfl, a, wd, hg, rfl, hfs, F.w4, F.h4, ?_⟩
      have hk : ∃ t, TyB K H v t ∧ (t ≠ "tuple" → o2 = none) ∧ (t = "tuple" → ∃ b xs, v = .ref b ∧ SqT K H b xs ∧ (xs.length ≠ wd * hg → o2 = none) ∧ (xs.length = wd * hg → (∀ x ∈ xs, Kn K H x) ∧
          (∀ st : List Int, xs = VI st → Std (wd * hg) st → o2 ≠ none) ∧ ((¬ ∃ st : List Int, xs = VI st ∧ Std (wd * hg) st) → o2 = none))) := by
        cases hv with
        | @good b st h S =>
          refine ⟨_, .tup h.sq, fun z => absurd rfl z, fun _ => ⟨_, _, rfl, h.sq, fun z => absurd (by rw [List.length_map]; exact S.len) z, fun _ => ⟨fun x hx => ?_, fun _ _ _ z => (by cases z), fun z => absurd ⟨_, rfl, S⟩ z⟩⟩⟩
          obtain ⟨n, _, rfl⟩ := List.mem_map.mp hx
          exact ⟨_, .int n⟩
        | kind t n => exact ⟨_, t, fun _ => rfl, fun z => absurd z n⟩
        | size h n => exact ⟨_, .tup h, fun _ => rfl, fun _ => ⟨_, _, rfl, h, fun _ => rfl, fun e => absurd e n⟩⟩
        | items h hl hk n => exact ⟨_, .tup h, fun _ => rfl, fun _ => ⟨_, _, rfl, h, fun _ => rfl, fun _ => ⟨hk, fun st e S => absurd ⟨st, e, S⟩ n, fun _ => rfl⟩⟩⟩
      obtain ⟨t, hty, hnt, htup⟩ := hk
      refine ⟨_, rfl, v, t, rfl, hty, _, _, rfl, rfl, TyB.tyty hty, ty_tuple, _, rfl, ?_⟩
      by_cases et : t = "tuple"
      · refine iteNF et ?_
        obtain ⟨b, xs, rfl, hs, hl, hxs⟩ := htup et
        refine ⟨_, rfl, b, xs, rfl, .inr hs, _, rfl, rfl, _, rfl, ?_⟩
        by_cases el : xs.length = wd * hg
        · refine iteNF (by rw [el]) ?_
          obtain ⟨hkn, hgood, hbad⟩ := hxs el
          refine ⟨_, rfl, b, rfl, ⟨_, hs⟩, for_tup (K := K) (a := b) (xs := xs) (fun i σ H2 => H2 = H ∧ (∃ u : Option V, σ = [some (.ref a), some (.ref b), some (.int ((wd * hg : Nat) : Int)), u]) ∧ ∀ j, j < i → ∀ z, xs[j]? = some z → ∃ n : Int, z = .int n) ⟨rfl, ⟨none, rfl⟩, fun j hj => absurd hj (Nat.not_lt_zero j)⟩
            (fun i σ H2 _ p => by rw [p.1]; exact hs) ?_ ?_⟩
          · rintro i z σ H2 hz ⟨rfl, ⟨u, rfl⟩, hp⟩
            obtain ⟨tz, hzt⟩ := hkn z (List.mem_of_getElem? hz)
            refine ⟨_, rfl, z, tz, rfl, hzt, _, rfl, ?_⟩
            refine iteN2 (fun e => kb (hbad ?_) _ (Same.refl _)) fun e => ⟨rfl, ⟨_, rfl⟩, fun j hj z' hz' => ?_⟩
            · rintro ⟨st, rfl, S⟩
              obtain ⟨n, _, rfl⟩ := VI_get hz
              cases hzt
              exact absurd (of_decide_eq_false e) (fun q => q rfl)
            · by_cases ej : j < i
              · exact hp j ej z' hz'
              · have : j = i := by omega
                subst this
                rw [hz] at hz'
                cases hz'
                exact tyb_int hzt (of_decide_eq_true e)
          · rintro σ H2 ⟨rfl, ⟨u, rfl⟩, hp⟩
            obtain ⟨ns, rfl⟩ := ints_of fun j z hz => hp j (List.getElem?_eq_some_iff.mp hz).1 z hz
            have F16 := F.le
            refine ⟨_, rfl, b, ns, rfl, hs, fun ns' p hperm hsort np => ⟨_, rfl, _, rfl, RgOk.of_le (by decide) (by omega) (by decide) (by omega), fun q nq => ?_⟩⟩
            refine ⟨_, _, dp_lst (ns := ns') ?_, dp_lst (ns := iota (wd * hg)) ?_, shaped_lst _, shaped_lst _, _, rfl, ?_⟩
            · exact Same.seq (same_upd nq) sql_upd
            · rw [rgV_iota]; exact sql_upd
            · rw [eqv_lst]
              have sm : Same H2 (upd (upd H2 p (.lst (VI ns'))) q (.lst (rgV 0 ((wd * hg : Nat) : Int)))) := sm_upd (same_upd np) nq
              by_cases e : ns' = iota (wd * hg)
              · refine iteNF e (kg ?_ _ sm)
                have := hgood ns rfl (by rw [e] at hperm; exact hperm.symm)
                cases o2 with
                | none => exact absurd rfl this
                | some _ => rfl
              · refine iteNT e (kb (hbad ?_) _ sm)
                rintro ⟨st, e2, S⟩
                have := VI_inj e2
                subst this
                exact e (S.sorted hperm hsort)
        · refine iteNT (fun q => el (by have q' : ((xs.length : Nat) : Int) = ((wd * hg : Nat) : Int) := V.int.inj q; omega)) (kb (hl el) _ (Same.refl _))
      · exact iteNT et (kb (hnt et) _ (Same.refl _))
end
end Sf
namespace Sf
open PySem PySem.Spec PyProof.Rows L2
section
variable {P : Program} {w : World} {K : PySem.W.Frag} {mg : Str → Option Value} {base : Heap}
theorem ok_column_and_row (T : Tx K mg) : FnD P w base CX0 1 T.d_column_and_row (spCR K) := by
  refine T.d_column_and_row.F.ok sc_column_and_row (fun vs H Q E h => ?_) (fun cdv A outer s H vs Q E hr h => ?_)
  · obtain ⟨a, p, x, y, rfl, _⟩ := h
    rfl
  · obtain ⟨a, p, x, y, rfl, hs, F, k⟩ := h
    refine ⟨_, pss_cons (ps_set (i := 2) sc_column_and_row.nd rfl (.inl rfl) (pe_ix ix_tup (pv 0) pe_int (fun _ _ => rfl)))
      (pss_one (ps_ret (pe_tup (pa_cons (pe_op op_mod (pv 1) (pv 2)) (pa_cons (pe_op op_fdiv (pv 1) (pv 2)) pa_nil))))), ?_⟩
    have w1 := F.w1
    have w4 := F.w4
    refine ⟨_, rfl, a, _, 0, nV x, rfl, rfl, hs, rfl, ?_⟩
    refine ⟨_, rfl, _, rfl, _, _, rfl, rfl, (by show (0 : Int) < (x : Int); omega), _, rfl, _, rfl, _, _, rfl, rfl, ⟨by omega, by omega⟩, (by show 2 ≤ sizeLine; decide), fun t ht => ?_⟩
    exact k t ht
end
end Sf
namespace Sf
open PySem PySem.Spec PyProof.Rows L2
section
variable {P : Program} {w : World} {K : PySem.W.Frag} {mg : Str → Option Value} {base : Heap}
theorem ok_is_line (T : Tx K mg) : FnD P w base CX0 1 T.d_is_line (spLine K) := by
  refine T.d_is_line.F.ok sc_is_line (fun vs H Q E h => ?_) (fun cdv A outer s H vs Q E hr h => ?_)
  · obtain ⟨a, x, y, rfl, _⟩ := h
    rfl
  · obtain ⟨a, x, y, rfl, hs, k⟩ := h
    refine ⟨_, pss_one (ps_ret (pe_cmpR op_in_seq pe_int (pv 0) (by rfl))), ?_⟩
    refine ⟨_, rfl, a, _, rfl, .inr hs, rfl, rfl, ?_⟩
    have e : inV (.int 1) [nV x, nV y] = decide (x = 1 ∨ y = 1) := by
      show (((x : Int) == 1) || (((y : Int) == 1) || false)) = _
      by_cases h1 : x = 1 <;> by_cases h2 : y = 1 <;> simp [h1, h2] <;> omega
    show Q (.bl (if false = true then _ else inV (.int 1) [nV x, nV y])) H
    rw [if_neg Bool.false_ne_true, e]
    exact k
theorem ok_count_falls (T : Tx K mg) : FnD P w base CX0 1 T.d_count_falls (spFalls K) := by
  refine T.d_count_falls.F.ok sc_count_falls (fun vs H Q E h => ?_) (fun cdv A outer s H vs Q E hr h => ?_)
  · obtain ⟨a, st, rfl, _⟩ := h
    rfl
  · obtain ⟨a, st, rfl, hs, k⟩ := h
    have nd := sc_count_falls.nd
    refine ⟨_, pss_cons (ps_set (i := 1) nd rfl (.inl rfl) pe_int)
      (pss_cons (ps_for PassesOwn.never rfl (pi_enumT (by rfl) T.b_enumerate (pa1 (pv 0)))
          (pg_tup rfl (pgs_cons (pg_name (i := 2) nd rfl (.inl rfl)) (pgs_cons (pg_name (i := 3) nd rfl (.inl rfl)) pgs_nil)))
        (pss_one (ps_for PassesOwn.never rfl (pi_tup (pe_slice sl_tup (pv 0) (po_some (pe_op op_add (pv 2) pe_int)) po_none)) (pg_name (i := 4) nd rfl (.inl rfl))
          (pss_one (ps_if (pt_cmpR op_gt (pv 3) (pv 4) (nomark _)) (pss_one (ps_aug (i := 1) nd rfl (.inl rfl) pe_int ip_add)) pss_nil)))))
      (pss_one (ps_ret (pv 1)))), ?_⟩
    refine ⟨_, rfl, a, VI st, rfl, hs, for_it (walk_enumT (K := K) (a := a) (xs := VI st)) (fun i σ H2 => Same H H2 ∧ ∃ (f : Nat) (u v t : Option V), σ = [some (.ref a), some (nV f), u, v, t] ∧ f + inv (st.drop i) = inv st)
      ⟨Same.refl _, 0, none, none, none, rfl, by rw [List.drop_zero]; omega⟩ (fun i σ H2 _ p => sm_tup p.1 hs) ?_ ?_⟩
    · rintro i x σ H2 H3 hi ⟨s2, f, u, v, t, rfl, hf⟩ ⟨U, x1, x2, rfl, nU, rfl, e1, e2⟩
      cases e1
      obtain ⟨z, hz, rfl⟩ := VI_get e2
      rw [List.length_map] at hi
      refine ⟨U, _, rfl, sqt_upd, rfl, _, _, rfl, _, _, rfl, rfl, ?_⟩
      have s3 : Same H (upd H2 U (.tup [.int (i : Nat), .int z])) := sm_upd s2 nU
      refine ⟨_, rfl, _, rfl, _, _, rfl, rfl, _, rfl, a, VI st, rfl, sm_tup s3 hs, ?_, fun p np => ?_⟩
      · rintro ⟨q, _⟩
        have e : (i : Int) + 1 = ((i + 1 : Nat) : Int) := by omega
        rw [e, HT.sIx_nat, List.length_map] at q
        omega
      · have ec : cutV (VI st) (some ((i : Int) + 1)) none = VI (st.drop (i + 1)) := by
          have e : (i : Int) + 1 = ((i + 1 : Nat) : Int) := by omega
          rw [e, cut_drop _ _ (by rw [List.length_map]; omega), VI_drop]
        rw [ec]
        have s4 := sm_upd s3 (o := .tup (VI (st.drop (i + 1)))) np
        refine ⟨p, rfl, ⟨_, sqt_upd⟩, for_tup (K := K) (a := p) (xs := VI (st.drop (i + 1))) (fun j σ H4 => Same (upd (upd H2 U (.tup [.int (i : Nat), .int z])) p (.tup (VI (st.drop (i + 1))))) H4 ∧
            ∃ t : Option V, σ = [some (.ref a), some (nV (f + cnt z ((st.drop (i + 1)).take j))), some (.int (i : Nat)), some (.int z), t])
          ⟨Same.refl _, t, by rw [List.take_zero]; rfl⟩ (fun j σ H4 _ q => sm_tup q.1 sqt_upd) ?_ ?_⟩
        · rintro j y σ H4 hy ⟨s5, t', rfl⟩
          obtain ⟨y1, hy1, rfl⟩ := VI_get hy
          have ct := cnt_take (z := z) hy1
          refine ⟨_, rfl, _, rfl, _, _, rfl, rfl, _, rfl, ?_⟩
          refine ite2 (fun e => ⟨_, rfl, _, _, rfl, rfl, s5, some (.int y1), ?_⟩) fun e => ⟨s5, some (.int y1), ?_⟩
          · rw [if_pos (of_decide_eq_true e)] at ct
            rw [ct]
            rfl
          · rw [if_neg (fun q => e (decide_eq_true q))] at ct
            rw [ct]
            rfl
        · rintro σ H4 ⟨s5, t', rfl⟩
          refine ⟨fun b o e => s5 b o (s4 b o e), _, _, _, _, rfl, ?_⟩
          rw [List.length_map, List.take_length]
          have := inv_drop hz
          omega
    · rintro σ H2 ⟨s2, f, u, v, t, rfl, hf⟩
      refine ⟨_, rfl, ?_⟩
      rw [List.length_map, List.drop_length] at hf
      have e : f = inv st := by
        have : inv ([] : List Int) = 0 := rfl
        omega
      subst e
      exact k H2 s2
theorem ok_tiles_in_order (T : Tx K mg) : FnD P w base CX0 1 T.d_tiles_in_order (spTiles K) := by
  refine T.d_tiles_in_order.F.ok sc_tiles_in_order (fun vs H Q E h => ?_) (fun cdv A outer s H vs Q E hr h => ?_)
  · obtain ⟨a, st, rfl, _⟩ := h
    rfl
  · obtain ⟨a, st, rfl, hs, h16, k⟩ := h
    have nd := sc_tiles_in_order.nd
    refine ⟨_, pss_one (ps_ret (pe_lc (own := [("number", 1)]) (g := gName 1) (by rfl) nd (pi_tup (pv 0)) (blkOk_by (N := ["standing", "number"]) (sc := defScope s_tiles_in_order) (by decide +kernel))
      (fun _ _ _ _ _ => pg_name (i := 1) nd rfl (Or.inl rfl)) (fun _ _ _ _ _ => pts_one (pt_cmpR op_ne (pv 1) pe_int (nomark _))) (fun _ _ _ _ _ => pv 1))), ?_⟩
    refine ⟨_, rfl, a, rfl, ⟨_, hs⟩, fun D nD => lc_tup (K := K) (a := a) (xs := VI st) (fun i H2 => Same H H2 ∧ H2 D = some (.lst (VI (tiles (st.take i)))))
      ⟨same_upd nD, upd_same⟩ (fun i H2 _ p => sm_tup p.1 hs) ?_ ?_⟩
    · rintro i x H2 hx ⟨s2, hD⟩
      obtain ⟨z, hz, rfl⟩ := VI_get hx
      have ct := tiles_take hz
      refine ⟨rfl, _, rfl, rfl, _, rfl, ?_⟩
      have hl : (VI (tiles (st.take i))).length < sizeLine := by
        rw [List.length_map]
        have h1 := tiles_len (st.take i)
        have h2 : (st.take i).length ≤ st.length := List.length_take_le' i st
        exact small1000 (by omega)
      refine iteN2 (fun e => ⟨_, rfl, _, hD, hl, ?_, ?_⟩) fun e => ⟨s2, ?_⟩
      · exact fun b o q => by rw [upd_ne (ne_of_none q nD)]; exact s2 b o q
      · rw [if_neg (fun q => by subst q; exact absurd (of_decide_eq_false e) (fun z => z rfl))] at ct
        rw [ct, upd_same]
        show _ = some (HO.lst (VI _))
        unfold VI
        rw [List.map_append]
        rfl
      · rw [if_pos (V.int.inj (of_decide_eq_true e))] at ct
        rw [ct]
        exact hD
    · rintro H2 ⟨s2, hD⟩
      rw [List.length_map, List.take_length] at hD
      exact k H2 D s2 hD
end
end Sf
namespace Sf
open PySem PySem.Spec PyProof.Rows L2
section
variable {P : Program} {w : World} {K : PySem.W.Frag} {mg : Str → Option Value} {base : Heap}
theorem ok_side (T : Tx K mg) : FnD P w base (L2.CX P w) 4 T.d_side (spSide K T.c_BadFloor.C T.c_BadStanding.C) := by
  have G1 : FnD P w base (L2.CX P w) 3 T.d_need_standing (spNeedS K T.c_BadFloor.C T.c_BadStanding.C) := ok_need_standing T
  have G2 : FnD P w base CX0 1 T.d_column_and_row (spCR K) := ok_column_and_row T
  have G3 : FnD P w base CX0 1 T.d_count_falls (spFalls K) := ok_count_falls T
  refine T.d_side.F.okX sc_side (fun vs H Q E h => ?_) (fun cdv A outer s H vs Q E hr h => ?_)
  · obtain ⟨f, v, o, rfl, _⟩ := h
    rfl
  · obtain ⟨f, v, o, rfl, hf, kf, ks⟩ := h
    have nd := sc_side.nd
    have hr1 : Room 1 _ := hr.mono (by decide)
    refine ⟨_, pss_cons (ps_expr (pe_d T.d_need_standing G1 hr (passes_call (takes_of rfl rfl rfl rfl) (fun _ _ _ _ z => z)) (pa_cons (pv 0) (pa1 (pv 1)))))
      (pss_cons (ps_asg (pe_d T.d_column_and_row G2 hr1 pass0 (pa_cons (pv 0) (pa1 (pe_tix (pv 1) (pa1 pe_int)))))
        (pg_tup rfl (pgs_cons (pg_name (i := 2) nd rfl (.inl rfl)) (pgs_cons (pg_name (i := 3) nd rfl (.inl rfl)) pgs_nil))))
      (pss_one (ps_ret (pe_op op_mod (pe_op op_add (pe_op op_add (pe_d T.d_count_falls G3 hr1 pass0 (pa1 (pv 1))) (pv 2)) (pv 3)) pe_int)))), ?_⟩
    refine ⟨_, rfl, _, rfl, f, v, o, rfl, hf, kf, fun wd hg e => ?_⟩
    obtain ⟨o2, hv, kg, kb⟩ := ks wd hg e
    refine ⟨o2, hv, fun ho H1 s1 => ?_, kb⟩
    cases hv with
    | kind => cases ho
    | size => cases ho
    | items => cases ho
    | @good b st hs S =>
      subst e
      cases hf with
      | @good a _ _ hfs F =>
        have z1 := idx_first (S.zero F.pos)
        refine ⟨_, rfl, _, rfl, ⟨b, _, rfl, hs.same s1⟩, b, st, 0, zat st, rfl, rfl, (hs.same s1).sq, z1.2.1, z1.2.2, ?_⟩
        refine ⟨a, zat st, wd, hg, rfl, sm_tup s1 hfs, F, fun t nt => ?_⟩
        have s2 := sm_upd s1 (o := .tup [nV (zat st % wd), nV (zat st / wd)]) nt
        refine ⟨t, _, rfl, sqt_upd, rfl, _, _, rfl, _, _, rfl, rfl, ?_⟩
        refine ⟨_, rfl, b, st, rfl, (hs.same s2).sq, fun H3 s3 => ⟨_, rfl, _, _, rfl, rfl, _, rfl, _, _, rfl, rfl, _, _, rfl, rfl, (by show (0 : Int) < 2; decide), ?_⟩⟩
        exact kg st rfl H3 (s2.trans s3)
theorem ok_is_joined (T : Tx K mg) : FnD P w base (L2.CX P w) 5 T.d_is_joined (spJoin K T.c_BadFloor.C T.c_BadStanding.C) := by
  have G1 : FnD P w base (L2.CX P w) 3 T.d_need_standing (spNeedS K T.c_BadFloor.C T.c_BadStanding.C) := ok_need_standing T
  have G2 : FnD P w base CX0 1 T.d_is_line (spLine K) := ok_is_line T
  have G3 : FnD P w base CX0 1 T.d_tiles_in_order (spTiles K) := ok_tiles_in_order T
  have G4 : FnD P w base (L2.CX P w) 4 T.d_side (spSide K T.c_BadFloor.C T.c_BadStanding.C) := ok_side T
  refine T.d_is_joined.F.okX sc_is_joined (fun vs H Q E h => ?_) (fun cdv A outer s H vs Q E hr h => ?_)
  · obtain ⟨f, v, v', o, rfl, _⟩ := h
    rfl
  · obtain ⟨f, v, v', o, rfl, hf, kf, ks⟩ := h
    have hr1 : Room 1 _ := hr.mono (by decide)
    have hr3 : Room 3 _ := hr.mono (by decide)
    refine ⟨_, pss_cons (ps_expr (pe_d T.d_need_standing G1 hr3 (passes_call (takes_of rfl rfl rfl rfl) (fun _ _ _ _ z => z)) (pa_cons (pv 0) (pa1 (pv 1)))))
      (pss_cons (ps_expr (pe_d T.d_need_standing G1 hr3 (passes_call (takes_of rfl rfl rfl rfl) (fun _ _ _ _ z => z)) (pa_cons (pv 0) (pa1 (pv 2)))))
      (pss_cons (ps_if (pt_val (pe_d T.d_is_line G2 hr1 pass0 (pa1 (pv 0))))
        (pss_one (ps_ret (pe_cmpR (op_eqD hr.units) (pe_d T.d_tiles_in_order G3 hr1 pass0 (pa1 (pv 1))) (pe_d T.d_tiles_in_order G3 hr1 pass0 (pa1 (pv 2))) (nomark _)))) pss_nil)
      (pss_one (ps_ret (pe_cmpR op_eq (pe_d T.d_side G4 hr (passes_call (takes_of rfl rfl rfl rfl) (fun _ _ _ _ z => z)) (pa_cons (pv 0) (pa1 (pv 1))))
        (pe_d T.d_side G4 hr (passes_call (takes_of rfl rfl rfl rfl) (fun _ _ _ _ z => z)) (pa_cons (pv 0) (pa1 (pv 2)))) (nomark _)))))), ?_⟩
    refine ⟨_, rfl, _, rfl, f, v, o, rfl, hf, kf, fun wd hg e => ?_⟩
    obtain ⟨o2, hv, kb, k2⟩ := ks wd hg e
    refine ⟨o2, hv, fun ho H1 s1 => ?_, kb⟩
    obtain ⟨st, rfl⟩ := Option.isSome_iff_exists.mp ho
    obtain ⟨o3, hv', kb', k3⟩ := k2 st rfl
    subst e
    refine ⟨_, rfl, _, rfl, f, v', some (wd, hg), rfl, sm_fl s1 hf, fun z => (by cases z), fun _ _ e => ?_⟩
    cases e
    refine ⟨o3, sm_st s1 hv', fun ho' H2 s2 => ?_, fun q H2 s2 => kb' q H2 (s1.trans s2)⟩
    obtain ⟨st', rfl⟩ := Option.isSome_iff_exists.mp ho'
    have s12 := s1.trans s2
    have k4 := k3 st' rfl
    cases hv with
    | @good b _ hs S =>
    cases hv' with
    | @good b' _ hs' S' =>
    cases hf with
    | @good a _ _ hfs F =>
    have F16 := F.le
    refine ⟨_, rfl, a, wd, hg, rfl, sm_tup s12 hfs, _, rfl, ?_⟩
    refine ite2 (fun e => ?_) fun e => ?_
    · have el := of_decide_eq_true e
      refine ⟨_, rfl, b, st, rfl, (hs.same s12).sq, (by rw [S.len]; omega), fun H3 t s3 ht => ?_⟩
      refine ⟨_, rfl, b', st', rfl, (hs'.same (s12.trans s3)).sq, (by rw [S'.len]; omega), fun H4 t' s4 ht' => ?_⟩
      refine ⟨_, _, dp_lst (SqL.of (s4 _ _ ht)), dp_lst (SqL.of ht'), shaped_lst _, shaped_lst _, ?_⟩
      rw [eqv_lst]
      have := k4 H4 ((s12.trans s3).trans s4)
      unfold joinM at this
      rw [if_pos el] at this
      exact this
    · have el : ¬ (wd = 1 ∨ hg = 1) := fun q => e (decide_eq_true q)
      refine ⟨_, rfl, _, rfl, V.ref a, V.ref b, some (wd, hg), rfl, .good (sm_tup s12 hfs) F, fun z => (by cases z), fun _ _ e => ?_⟩
      cases e
      refine ⟨some st, .good (hs.same s12) S, fun st1 e1 H3 s3 => ?_, fun z => (by cases z)⟩
      cases e1
      have s13 := s12.trans s3
      refine ⟨_, rfl, _, rfl, V.ref a, V.ref b', some (wd, hg), rfl, .good (sm_tup s13 hfs) F, fun z => (by cases z), fun _ _ e => ?_⟩
      cases e
      refine ⟨some st', .good (hs'.same s13) S', fun st1 e1 H4 s4 => ⟨rfl, ?_⟩, fun z => (by cases z)⟩
      cases e1
      have := k4 H4 (s13.trans s4)
      unfold joinM at this
      rw [if_neg el] at this
      have e2 : decide (nV (sideM wd st) = nV (sideM wd st')) = decide (sideM wd st = sideM wd st') := by
        by_cases h : sideM wd st = sideM wd st'
        · simp [h]
        · rw [decide_eq_false h]
          exact decide_eq_false fun q => h (by have := V.int.inj q; omega)
      rw [e2]
      exact this
end
end Sf
namespace Sf
open PySem PySem.Spec PyProof.Rows L2
section
variable {P : Program} {w : World} {K : PySem.W.Frag} {mg : Str → Option Value} {base : Heap}
theorem ok_draw (T : Tx K mg) : FnD P w base CX0 1 T.d_law_draw (spDraw K) := by
  refine T.d_law_draw.F.ok sc_law_draw (fun vs H Q E h => ?_) (fun cdv A outer s H vs Q E hr h => ?_)
  · obtain ⟨a, ns, k, rfl, _⟩ := h
    rfl
  · obtain ⟨a, ns, k, rfl, hs, h0, h1, kq⟩ := h
    have nd := sc_law_draw.nd
    refine ⟨_, pss_cons (ps_set (i := 2) nd rfl (.inl rfl) pe_int)
      (Evl.pss_cut (ps_if (pt_cmpR (op_neD hr.units) (pv 0) (pe_lst pa_nil) (nomark _))
        (pss_one (ps_set (i := 2) nd rfl (.inl rfl) (pe_op op_add (pe_op op_mul pe_int (pe_b (cr_sum rfl) T.b_sum (pa1 (pv 0)))) (pe_ix ix_list (pv 0) (pe_op op_mod (pv 1) (pe_b call_len_seq T.b_len (pa1 (pv 0)))) (fun _ _ => rfl))))) pss_nil)
      (pss_cons (ps_set (i := 3) nd rfl (.inl rfl) (pe_op op_add (pe_op op_add (pe_op op_mod (pv 2) pe_int) (pe_op op_mul pe_int (pv 1))) pe_int))
      (pss_one (ps_ret (pe_op op_fdiv (pe_op op_mod (pe_op op_mul (pe_op op_mod (pe_op op_mul (pv 3) (pv 3)) pe_int) (pv 3)) pe_int) pe_int))))), ?_⟩
    refine ⟨fun σ H1 => ∃ c : Int, σ = [some (.ref a), some (.int k), some (.int c), none] ∧ Same H H1, ?_, ?_⟩
    · refine ⟨_, rfl, (by show 0 ≤ sizeLine; decide), fun p np => ⟨_, _, dp_lst (ns := ns) (Same.seq (same_upd np) hs), dp_lst (ns := []) sql_upd, shaped_lst _, shaped_lst _, _, rfl, ?_⟩⟩
      have s1 : Same H (upd H p (.lst [])) := same_upd np
      rw [eqv_lst]
      refine iteN2 (fun e => ?_) fun e => ⟨0, rfl, s1⟩
      have hne : ns ≠ [] := of_decide_eq_false e
      have hl : 0 < ns.length := List.length_pos_iff.mpr hne
      have hm1 : 0 ≤ k % (ns.length : Int) := Int.emod_nonneg _ (by omega)
      have hm2 : k % (ns.length : Int) < ns.length := Int.emod_lt_of_pos _ (by omega)
      have hlt : (k % (ns.length : Int)).toNat < ns.length := by omega
      have hsq := Same.seq s1 hs
      refine ⟨_, rfl, a, ns, rfl, hsq, _, _, rfl, rfl, .inl ⟨by decide, by decide⟩, ?_⟩
      refine ⟨_, rfl, _, rfl, _, rfl, a, VI ns, rfl, .inl hsq, _, _, rfl, rfl, (by rw [List.length_map]; omega), ?_⟩
      rw [List.length_map]
      refine ⟨a, VI ns, _, .int (ns[(k % (ns.length : Int)).toNat]), rfl, rfl, hsq, at_of (j := (k % (ns.length : Int)).toNat) (by omega) (by rw [List.getElem?_map, List.getElem?_eq_getElem hlt]; rfl), ?_⟩
      exact ⟨_, _, rfl, rfl, _, rfl, s1⟩
    · rintro σ H1 ⟨c, rfl, s1⟩
      obtain ⟨b1, b2, m, hm, hlt⟩ := draw_nat (c := c) h0 h1
      refine ⟨_, rfl, _, _, rfl, rfl, (by show (0 : Int) < 1000000007; decide), _, rfl, _, _, rfl, rfl, .inl ⟨by decide, by decide⟩, _, _, rfl, rfl, _, _, rfl, rfl, ?_⟩
      refine ⟨_, rfl, _, rfl, _, _, rfl, rfl, .inl b1, _, _, rfl, rfl, (by show (0 : Int) < 1000000007; decide), _, rfl, _, _, rfl, rfl, .inl b2, _, _, rfl, rfl, (by show (0 : Int) < 998244353; decide), _, _, rfl, rfl, ⟨by decide, by decide⟩, ?_⟩
      have := kq m H1 hlt s1
      unfold nV at this
      rw [← hm] at this
      exact this
theorem ok_whole (T : Tx K mg) : FnD P w base CX0 1 T.d_law_whole spWhole := by
  refine T.d_law_whole.F.ok sc_law_whole (fun vs H Q E h => ?_) (fun cdv A outer s H vs Q E hr h => ?_)
  · obtain ⟨i, rfl, _⟩ := h
    rfl
  · obtain ⟨i, rfl, k⟩ := h
    refine ⟨_, pss_one (ps_ret (pe_and (pe_b call_isi T.b_isinstance (pa_cons (pv 0) (pa1 (pe_ty (T := "int") T.b_int)))) (pe_one (pe_not (pe_b call_isi T.b_isinstance (pa_cons (pv 0) (pa1 (pe_ty (T := "bool") T.b_bool)))))))), ?_⟩
    refine ⟨_, rfl, _, _, _, _, true, rfl, .ty "int", .base (.int i), kit_ty (by decide +kernel), true, rfl, iteT ?_⟩
    exact ⟨_, rfl, _, _, _, _, false, rfl, .ty "bool", .base (.int i), kit_ty (by decide +kernel), false, rfl, k⟩
end
end Sf
namespace Sf
open PySem PySem.Spec PyProof.Rows L2
section
variable {P : Program} {w : World} {K : PySem.W.Frag} {mg : Str → Option Value} {base : Heap}
theorem ok_standing (T : Tx K mg) : FnD P w base CX0 2 T.d_law_standing (spStanding K) := by
  have G1 : FnD P w base CX0 1 T.d_law_draw (spDraw K) := ok_draw T
  refine T.d_law_standing.F.ok sc_law_standing (fun vs H Q E h => ?_) (fun cdv A outer s H vs Q E hr h => ?_)
  · obtain ⟨a, f, ns, k, x, y, rfl, _⟩ := h
    rfl
  · obtain ⟨a, f, ns, k, x, y, rfl, hs, h0, h1, hf, F, kq⟩ := h
    have nd := sc_law_standing.nd
    have F16 := F.le
    have f4 := F.w4
    refine ⟨_, pss_cons (ps_setLc (i := 3) (own := [("_law_j", 4)]) (g := gName 4) (by rfl) nd rfl rfl (sw_true rfl rfl rfl (by decide +kernel))
        (pi_range1 (by rfl) T.b_range (pa1 (pe_op op_mul (pe_ix ix_tup (pv 2) pe_int (fun _ _ => rfl)) (pe_ix ix_tup (pv 2) pe_int (fun _ _ => rfl)))))
        (blkOk_by (N := ["_law_script", "_law_k", "_law_floor_here", "_law_rows", "_law_j", "_law_row"]) (sc := defScope s_law_standing) (by decide +kernel))
        (fun _ _ _ _ _ => pg_name (i := 4) nd rfl (Or.inl rfl)) (fun _ _ _ _ _ => pts_nil)
        (fun _ _ _ _ _ => pe_tup (pa_cons (pe_d T.d_law_draw G1 hr pass0 (pa_cons (pv 0) (pa1 (pe_op op_add (pv 1) (pv 4))))) (pa1 (pv 4)))))
      (pss_one (ps_ret (pe_t cr_tupD T.b_tuple (pa1 (pe_lc (own := [("_law_row", 5)]) (g := gName 5) (by rfl) nd
        (pi_list (pe_b cr_sortedP T.b_sorted (pa1 (pv 3))))
        (blkOk_by (N := ["_law_script", "_law_k", "_law_floor_here", "_law_rows", "_law_j", "_law_row"]) (sc := defScope s_law_standing) (by decide +kernel))
        (fun _ _ _ _ _ => pg_name (i := 5) nd rfl (Or.inl rfl)) (fun _ _ _ _ _ => pts_nil)
        (fun _ _ _ _ _ => pe_ix (ixT (K := K) rfl) (pv 5) pe_int (fun _ _ => rfl))))))), ?_⟩
    -- the rows
    refine ⟨_, rfl, f, _, 0, nV x, rfl, rfl, hf, rfl, _, rfl, f, _, 1, nV y, rfl, rfl, hf, rfl, _, _, rfl, rfl, .inl ⟨by omega, by omega⟩, ?_⟩
    have exy : (x : Int) * (y : Int) = ((x * y : Nat) : Int) := (Int.natCast_mul x y).symm
    refine ⟨((x * y : Nat) : Int), (by show [V.int ((x : Int) * (y : Int))] = _; rw [exy]), by omega, by omega, fun D nD => ?_⟩
    refine lc_range (lo := 0) (n := x * y) (fun i H2 => Same H H2 ∧ ∃ ts : List Addr, H2 D = some (.lst (ts.map V.ref)) ∧ ts.length = i ∧ RowsAt H2 ts)
      ⟨same_upd nD, [], upd_same, rfl, fun j t e => by cases e⟩ ?_ ?_
    · rintro i H2 hi ⟨s2, ts, hD, hl, hr2⟩
      refine ⟨rfl, ?_⟩
      refine ⟨_, rfl, _, rfl, _, rfl, _, _, rfl, rfl, a, ns, k + (0 + (i : Int)), rfl, Same.seq s2 hs, by omega, by omega, fun n H3 _ s3 => ?_⟩
      refine ⟨_, rfl, (by show 2 ≤ sizeLine; decide), fun t nt => ?_⟩
      have s4 : Same H3 (upd H3 t (.tup [nV n, .int (0 + (i : Int))])) := same_upd nt
      have s24 := s3.trans s4
      have hD4 := s24 _ _ hD
      refine ⟨_, hD4, (by rw [List.length_map]; exact small1000 (by omega)), ?_, ts ++ [t], ?_, by simp [hl], ?_⟩
      · exact fun b o q => by rw [upd_ne (ne_of_none q nD)]; exact s24 b o (s2 b o q)
      · rw [upd_same, List.map_append]
        rfl
      · have ntD : t ≠ D := fun q => by rw [q] at nt; rw [s3 _ _ hD] at nt; cases nt
        have r4 : RowsAt (upd H3 t (.tup [nV n, .int (0 + (i : Int))])) (ts ++ [t]) := (hr2.same s24).more (d := n) (by rw [upd_same, hl, Int.zero_add])
        intro j u e
        obtain ⟨d, h⟩ := r4 j u e
        refine ⟨d, ?_⟩
        rw [upd_ne (ne_of h hD4 (fun q => by cases q))]
        exact h
    · rintro H2 ⟨s2, ts, hD, hl, hr2⟩
      refine ⟨_, rfl, D, ts.map V.ref, rfl, SqL.of hD, fun z hz => ?_, fun ys p hperm np => ?_⟩
      · obtain ⟨t, ht, rfl⟩ := List.mem_map.mp hz
        obtain ⟨j, hj⟩ := List.getElem?_of_mem ht
        obtain ⟨d, h⟩ := hr2 j t hj
        exact ⟨t, d, (j : Int), rfl, h⟩
      · have s3 : Same H2 (upd H2 p (.lst ys)) := same_upd np
        have hin : ∀ z ∈ ys, ∃ (j : Nat) (t : Addr) (d : Int), z = .ref t ∧ H2 t = some (.tup [.int d, nV j]) := fun z hz => by
          obtain ⟨t, ht, rfl⟩ := List.mem_map.mp (hperm.mem_iff.mp hz)
          obtain ⟨j, hj⟩ := List.getElem?_of_mem ht
          obtain ⟨d, h⟩ := hr2 j t hj
          exact ⟨j, t, d, rfl, h⟩
        have hstd : Std (x * y) (ys.map (sndOf H2)) := by
          have q := hperm.map (sndOf H2)
          rw [rows_iota hr2, hl] at q
          exact q
        have hyl : ys.length ≤ 16 := by
          have := hperm.length_eq
          rw [List.length_map, hl] at this
          omega
        refine ⟨p, rfl, ⟨_, sql_upd⟩, fun L nL => lc_list (K := K) (a := p) (xs := ys) (fun i H4 => Same (upd H2 p (.lst ys)) H4 ∧ H4 L = some (.lst (VI ((ys.take i).map (sndOf H2)))))
          ⟨same_upd nL, upd_same⟩ (fun i H4 _ q => Same.seq q.1 sql_upd) ?_ ?_⟩
        · rintro i z H4 hz ⟨s4, hL⟩
          obtain ⟨j, t, d, rfl, ht⟩ := hin z (List.mem_of_getElem? hz)
          refine ⟨rfl, ?_⟩
          refine ⟨_, rfl, t, _, 1, nV j, rfl, rfl, SqT.of (s4 _ _ (s3 _ _ ht)), rfl, ?_⟩
          refine ⟨_, hL, ?_, fun b o q => ?_, ?_⟩
          · rw [List.length_map, List.length_map]
            have := List.length_take_le i ys
            exact small1000 (by have := List.length_take_le' i ys; omega)
          · rw [upd_ne (ne_of_none q nL)]
            exact s4 b o q
          · rw [upd_same, take_map_more hz, sndOf_at ht]
            show _ = some (HO.lst (VI _))
            unfold VI
            rw [List.map_append]
            rfl
        · rintro H4 ⟨s4, hL⟩
          rw [List.take_length] at hL
          have s24 := s2.trans (s3.trans s4)
          refine ⟨L, VI (ys.map (sndOf H2)), rfl, SqL.of hL, fun l H5 nl s5 ht => ?_⟩
          exact kq l _ H5 (s24.free nl) hstd (s24.trans s5) ht
end
end Sf
namespace Sf
open PySem PySem.Spec PyProof.Rows L2
section
variable {P : Program} {w : World} {K : PySem.W.Frag} {mg : Str → Option Value} {base : Heap}
theorem ok_moved (T : Tx K mg) : FnD P w base CX0 1 T.d_law_moved (spMoved K) := by
  refine T.d_law_moved.F.ok sc_law_moved (fun vs H Q E h => ?_) (fun cdv A outer s H vs Q E hr h => ?_)
  · obtain ⟨f, s, d, x, y, st, rfl, _⟩ := h
    rfl
  · obtain ⟨f, b, d, wd, hg, st, rfl, hf, F, hs, S, kN, kS⟩ := h
    have nd := sc_law_moved.nd
    have F16 := F.le
    have f4 := F.w4
    have g4 := F.h4
    have w1 := F.w1
    have ze := S.zat_lt F.pos
    have z1 := idx_first (S.zero F.pos)
    refine ⟨_, pss_cons (ps_asg (pv 0) (pg_tup rfl (pgs_cons (pg_name (i := 3) nd rfl (.inl rfl)) (pgs_cons (pg_name (i := 4) nd rfl (.inl rfl)) pgs_nil))))
      (pss_cons (ps_set (i := 5) nd rfl (.inl rfl) (pe_tix (pv 1) (pa1 pe_int)))
      (pss_cons (ps_par (i := 6) (j := 7) rfl nd rfl rfl (by decide) rfl rfl (pa_cons (pe_op op_mod (pv 5) (pv 3)) (pa1 (pe_op op_fdiv (pv 5) (pv 3)))) rfl)
      (Evl.pss_cut (ps_if (pt_cmpR op_eq (pv 2) pe_str (nomark _)) (pss_one (ps_set (i := 7) nd rfl (.inl rfl) (pe_op op_add (pv 7) pe_int)))
        (pss_one (ps_if (pt_cmpR op_eq (pv 2) pe_str (nomark _)) (pss_one (ps_set (i := 7) nd rfl (.inl rfl) (pe_op op_sub (pv 7) pe_int)))
        (pss_one (ps_if (pt_cmpR op_eq (pv 2) pe_str (nomark _)) (pss_one (ps_set (i := 6) nd rfl (.inl rfl) (pe_op op_add (pv 6) pe_int)))
          (pss_one (ps_set (i := 6) nd rfl (.inl rfl) (pe_op op_sub (pv 6) pe_int))))))))
      (pss_cons (ps_if (PW.pt (pw_or (pt_cmpR op_lt (pv 6) pe_int (nomark _)) (pw_or (pt_cmpR op_lt (pv 7) pe_int (nomark _)) (pw_or (pt_cmpR op_ge (pv 6) (pv 3) (nomark _)) (pw_or1 (pt_cmpR op_ge (pv 7) (pv 4) (nomark _)))))))
        (pss_one (ps_ret pe_non)) pss_nil)
      (pss_cons (ps_set (i := 8) nd rfl (.inr rfl) (pe_ix ix_tup (pv 1) (pe_op op_add (pv 6) (pe_op op_mul (pv 7) (pv 3))) (fun _ _ => rfl)))
      (pss_cons (ps_setLc (i := 9) (own := [("_law_one", 10)]) (g := gName 10) (by rfl) nd rfl rfl (sw_true rfl rfl rfl (by decide +kernel)) (pi_tup (pv 1))
        (blkOk_by (N := ["_law_floor_here", "_law_standing_here", "_law_word", "_law_wide", "_law_high", "_law_empty", "_law_x", "_law_y", "_law_tile", "_law_found", "_law_one"]) (sc := defScope s_law_moved) (by decide +kernel))
        (fun _ _ _ _ _ => pg_name (i := 10) nd rfl (Or.inl rfl)) (fun _ _ _ _ _ => pts_nil) (fun _ _ _ _ _ => pe_ifExp (pt_cmpR op_eq (pv 10) pe_int (nomark _)) (pv 8) (pv 10)))
      (pss_cons (ps_asg pe_int (pg_sub (pv 9) (pe_op op_add (pv 6) (pe_op op_mul (pv 7) (pv 3))) set_list))
      (pss_one (ps_ret (pe_t cr_tupD T.b_tuple (pa1 (pv 9)))))))))))), ?_⟩
    refine ⟨_, rfl, f, _, rfl, hf, rfl, _, _, rfl, _, _, rfl, rfl, ?_⟩
    refine ⟨_, rfl, ⟨b, _, rfl, hs⟩, b, st, 0, zat st, rfl, rfl, hs.sq, z1.2.1, z1.2.2, ?_⟩
    refine ⟨_, rfl, _, rfl, _, _, rfl, rfl, (by show (0 : Int) < (wd : Int); omega), _, rfl, _, rfl, _, _, rfl, rfl, ⟨by omega, by omega⟩, _, _, rfl, ?_⟩
    refine ⟨fun σ H1 => σ = [some (.ref f), some (.ref b), some (.str (dS d)), some (nV wd), some (nV hg), some (nV (zat st)), some (.int (crd wd (zat st) d).1), some (.int (crd wd (zat st) d).2), none, none, none] ∧ H1 = H, ?_, ?_⟩
    · refine ⟨_, rfl, rfl, _, rfl, ?_⟩
      refine ite2 (fun e => ?_) fun e => ?_
      · have ed : d = .up := of_decide_eq_true ((dS_eq d .up).symm.trans e)
        subst ed
        exact ⟨_, rfl, _, _, rfl, rfl, rfl, rfl⟩
      · have n1 : d ≠ .up := fun q => e ((dS_eq d .up).trans (decide_eq_true q))
        refine ⟨_, rfl, rfl, _, rfl, ?_⟩
        refine ite2 (fun e => ?_) fun e => ?_
        · have ed : d = .down := of_decide_eq_true ((dS_eq d .down).symm.trans e)
          subst ed
          exact ⟨_, rfl, _, _, rfl, rfl, rfl, rfl⟩
        · have n2 : d ≠ .down := fun q => e ((dS_eq d .down).trans (decide_eq_true q))
          refine ⟨_, rfl, rfl, _, rfl, ?_⟩
          refine ite2 (fun e => ?_) fun e => ?_
          · have ed : d = .left := of_decide_eq_true ((dS_eq d .left).symm.trans e)
            subst ed
            exact ⟨_, rfl, _, _, rfl, rfl, rfl, rfl⟩
          · have n3 : d ≠ .left := fun q => e ((dS_eq d .left).trans (decide_eq_true q))
            have ed : d = .right := by
              cases d with
              | up => exact absurd rfl n1
              | down => exact absurd rfl n2
              | left => exact absurd rfl n3
              | right => rfl
            subst ed
            exact ⟨_, rfl, _, _, rfl, rfl, rfl, rfl⟩
    · rintro σ H1 ⟨rfl, rfl⟩
      have out : ((crd wd (zat st) d).1 < 0 ∨ (crd wd (zat st) d).2 < 0 ∨ (wd : Int) ≤ (crd wd (zat st) d).1 ∨ (hg : Int) ≤ (crd wd (zat st) d).2) → Q .non H1 := fun o => by
        refine kN ?_ H1 (Same.refl _)
        unfold step
        rw [tgt_out (by omega) ze o]
        rfl
      have inn : ¬ ((crd wd (zat st) d).1 < 0 ∨ (crd wd (zat st) d).2 < 0 ∨ (wd : Int) ≤ (crd wd (zat st) d).1 ∨ (hg : Int) ≤ (crd wd (zat st) d).2) → ∃ t : Nat, step wd hg st d = some (swapAt st (zat st) t) ∧ t < st.length ∧
          (crd wd (zat st) d).1 + (crd wd (zat st) d).2 * wd = (t : Int) := fun o => by
        obtain ⟨t, h1, h2⟩ := tgt_in (by omega) ze o
        refine ⟨t, by unfold step; rw [h1]; rfl, ?_, h2⟩
        rw [S.len]
        exact (tgt_facts w1 ze h1).1
      have hby := crd_by (w := wd) (d := d) (show zat st < 100 by omega)
      generalize (crd wd (zat st) d).1 = cx at *
      generalize (crd wd (zat st) d).2 = cy at *
      refine ⟨_, rfl, _, _, rfl, rfl, _, rfl, ?_⟩
      refine ite2 (fun e => out (.inl (of_decide_eq_true e))) fun e1 => ?_
      refine ⟨_, rfl, _, _, rfl, rfl, _, rfl, ?_⟩
      refine ite2 (fun e => out (.inr (.inl (of_decide_eq_true e)))) fun e2 => ?_
      refine ⟨_, rfl, _, rfl, _, _, rfl, rfl, _, rfl, ?_⟩
      refine ite2 (fun e => out (.inr (.inr (.inl (of_decide_eq_true e))))) fun e3 => ?_
      refine ⟨_, rfl, _, rfl, _, _, rfl, rfl, _, rfl, ?_⟩
      refine ite2 (fun e => out (.inr (.inr (.inr (of_decide_eq_true e))))) fun e4 => ?_
      have no : ¬ (cx < 0 ∨ cy < 0 ∨ (wd : Int) ≤ cx ∨ (hg : Int) ≤ cy) := by
        rintro (q | q | q | q)
        · exact e1 (decide_eq_true q)
        · exact e2 (decide_eq_true q)
        · exact e3 (decide_eq_true q)
        · exact e4 (decide_eq_true q)
      obtain ⟨t, ht, htl, hti⟩ := inn no
      have get_t : (VI st)[t]? = some (.int (st.getD t 0)) := by rw [List.getElem?_map, getD_some htl]; rfl
      refine ⟨_, rfl, _, rfl, _, rfl, _, rfl, _, _, rfl, rfl, .inl hby, _, _, rfl, rfl, b, VI st, _, .int (st.getD t 0), rfl, rfl, hs.sq, at_of hti get_t, ?_⟩
      refine ⟨_, rfl, b, rfl, ⟨_, hs.sq⟩, fun D nD => lc_tup (K := K) (a := b) (xs := VI st) (fun i H2 => Same H1 H2 ∧ H2 D = some (.lst (VI ((st.take i).map fun z => if z = 0 then st.getD t 0 else z))))
        ⟨same_upd nD, upd_same⟩ (fun i H2 _ p => (hs.same p.1).sq) ?_ ?_⟩
      · rintro i z H2 hz ⟨s2, hD⟩
        obtain ⟨zz, hzz, rfl⟩ := VI_get hz
        have hl : (VI ((st.take i).map fun z => if z = 0 then st.getD t 0 else z)).length < sizeLine := by
          rw [List.length_map, List.length_map]
          have := List.length_take_le' i st
          have := S.len
          exact small1000 (by omega)
        refine ⟨rfl, _, rfl, rfl, _, rfl, ?_⟩
        refine ite2 (fun e => ⟨_, rfl, _, hD, hl, ?_, ?_⟩) fun e => ⟨_, rfl, _, hD, hl, ?_, ?_⟩
        · exact fun b o q => by rw [upd_ne (ne_of_none q nD)]; exact s2 b o q
        · rw [upd_same, take_map_more hzz, if_pos (V.int.inj (of_decide_eq_true e))]
          show _ = some (HO.lst (VI _))
          unfold VI
          rw [List.map_append]
          rfl
        · exact fun b o q => by rw [upd_ne (ne_of_none q nD)]; exact s2 b o q
        · rw [upd_same, take_map_more hzz, if_neg (fun q => e (decide_eq_true (congrArg V.int q)))]
          show _ = some (HO.lst (VI _))
          unfold VI
          rw [List.map_append]
          rfl
      · rintro H2 ⟨s2, hD⟩
        rw [List.length_map, List.take_length] at hD
        refine ⟨_, rfl, _, rfl, _, rfl, _, rfl, _, _, rfl, rfl, .inl hby, _, _, rfl, rfl, D, _, _, t, rfl, rfl, hD, ?_, ?_⟩
        · rw [List.length_map, List.length_map]
          exact ixN_at hti htl
        · have s3 : ∀ o, Same H1 (upd H2 D o) := fun o b u q => by rw [upd_ne (ne_of_none q nD)]; exact s2 b u q
          refine ⟨_, rfl, D, _, rfl, SqL.of upd_same, fun l H5 nl s5 hl => ?_⟩
          rw [VI_set, swap_zero S F.pos] at hl
          exact kS _ ht l H5 ((s3 _).free nl) ((s3 _).trans s5) hl
end
end Sf
namespace Sf
open PySem PySem.Spec PyProof.Rows L2
section
variable {P : Program} {w : World} {K : PySem.W.Frag} {mg : Str → Option Value} {base : Heap}
theorem filter_more {α : Type} {p : α → Bool} {l : List α} {i : Nat} {x : α} (h : l[i]? = some x) : (l.take (i + 1)).filter p = if p x = true then (l.take i).filter p ++ [x] else (l.take i).filter p := by
  rw [List.take_succ, h, List.filter_append]
  by_cases e : p x = true
  · rw [if_pos e]
    show _ ++ [x].filter p = _
    rw [List.filter_cons_of_pos e]
    rfl
  · rw [if_neg e]
    show _ ++ [x].filter p = _
    rw [List.filter_cons_of_neg e]
    simp
theorem ok_words (T : Tx K mg) : FnD P w base CX0 2 T.d_law_words (spWords K) := by
  have G1 : FnD P w base CX0 1 T.d_law_moved (spMoved K) := ok_moved T
  refine T.d_law_words.F.ok sc_law_words (fun vs H Q E h => ?_) (fun cdv A outer s H vs Q E hr h => ?_)
  · obtain ⟨f, s, x, y, st, rfl, _⟩ := h
    rfl
  · obtain ⟨f, b, wd, hg, st, rfl, hf, F, hs, S, k⟩ := h
    have nd := sc_law_words.nd
    refine ⟨_, pss_one (ps_ret (pe_lc (own := [("_law_word", 2)]) (g := gName 2) (by rfl) nd (pi_tup (pe_tup (pa_cons pe_str (pa_cons pe_str (pa_cons pe_str (pa1 pe_str))))))
      (blkOk_by (N := ["_law_floor_here", "_law_standing_here", "_law_word"]) (sc := defScope s_law_words) (by decide +kernel))
      (fun _ _ _ _ _ => pg_name (i := 2) nd rfl (Or.inl rfl)) (fun _ _ _ _ _ => pts_one (pt_cmpR op_notN (pe_d T.d_law_moved G1 hr pass0 (pa_cons (pv 0) (pa_cons (pv 1) (pa1 (pv 2))))) pe_non (nomark _))) (fun _ _ _ _ _ => pv 2))), ?_⟩
    refine ⟨(by show 4 ≤ sizeLine; decide), fun p np => ⟨p, rfl, ⟨_, sqt_upd⟩, fun D nD => ?_⟩⟩
    have s1 : Same H (upd H p (.tup (wV dirs))) := same_upd np
    refine lc_tup (K := K) (a := p) (xs := wV dirs) (fun i H2 => Same (upd H p (.tup (wV dirs))) H2 ∧ H2 D = some (.lst (wV ((dirs.take i).filter fun d => (step wd hg st d).isSome))))
      ⟨same_upd nD, upd_same⟩ (fun i H2 _ q => sm_tup q.1 sqt_upd) ?_ ?_
    · rintro i z H2 hz ⟨s2, hD⟩
      obtain ⟨d, hd, rfl⟩ : ∃ d, dirs[i]? = some d ∧ z = .str (dS d) := by
        unfold wV at hz
        rw [List.getElem?_map] at hz
        cases e : dirs[i]? with
        | none => rw [e] at hz; cases hz
        | some d => rw [e] at hz; exact ⟨d, rfl, (Option.some.inj hz).symm⟩
      have s12 := s1.trans s2
      have hfm := filter_more (p := fun d => (step wd hg st d).isSome) hd
      have hl : (wV ((dirs.take i).filter fun d => (step wd hg st d).isSome)).length < sizeLine := by
        unfold wV
        rw [List.length_map]
        have h1 := List.length_filter_le (fun d => (step wd hg st d).isSome) (dirs.take i)
        have h2 := List.length_take_le' i dirs
        have h3 : dirs.length = 4 := rfl
        exact small1000 (by omega)
      refine ⟨rfl, _, rfl, _, rfl, _, rfl, f, b, d, wd, hg, st, rfl, sm_tup s12 hf, F, hs.same s12, S, fun hn H3 s3 => ?_, fun st' hst q H3 nq s3 ht => ?_⟩
      · refine ⟨rfl, _, rfl, ?_⟩
        refine iteNF rfl ⟨s2.trans s3, ?_⟩
        rw [hn] at hfm
        rw [hfm]
        exact s3 _ _ hD
      · refine ⟨rfl, _, rfl, ?_⟩
        refine iteNT (fun z => by cases z) ⟨_, rfl, _, s3 _ _ hD, hl, fun c o e => ?_, ?_⟩
        · rw [upd_ne (ne_of_none e nD)]
          exact s3 _ _ (s2 _ _ e)
        · rw [hst] at hfm
          rw [upd_same, hfm]
          unfold wV
          rw [if_pos (show (some st').isSome = true from rfl), List.map_append]
          rfl
    · rintro H2 ⟨s2, hD⟩
      exact k D H2 (s1.free nD) (s1.trans s2) hD
end
end Sf
namespace Sf
open PySem PySem.Spec PyProof.Rows L2
def dxy : Dir → Int × Int
  | .up => (0, 1)
  | .down => (0, -1)
  | .left => (1, 0)
  | .right => (-1, 0)
section
variable {K : PySem.W.Frag} {w : World} {mg : Str → Option Value}
def TS.at {P : Params} (S : TS K P mg) : Dir → Addr
  | .up => S.a0
  | .down => S.a1
  | .left => S.a2
  | .right => S.a3
theorem TS.kd (S : TS K w.params mg) : KDict K w S.d #[⟨PyData.keyHash w.params "up", .str "up" S.t0, .ref S.a0⟩, ⟨PyData.keyHash w.params "down", .str "down" S.t1, .ref S.a1⟩, ⟨PyData.keyHash w.params "left", .str "left" S.t2, .ref S.a2⟩, ⟨PyData.keyHash w.params "right", .str "right" S.t3, .ref S.a3⟩] S.n :=
  ⟨S.l, ⟨⟨_, _, rfl, rfl⟩, ⟨_, _, rfl, rfl⟩, ⟨_, _, rfl, rfl⟩, ⟨_, _, rfl, rfl⟩, trivial⟩, S.low⟩
theorem TS.tab (S : TS K w.params mg) : KTab K w S.d [("up", .ref S.a0), ("down", .ref S.a1), ("left", .ref S.a2), ("right", .ref S.a3)] :=
  ⟨⟨_, _, S.kd, rfl, fun prog => .cons (show ((("up" : Str) == ("up" : Str)) = true) by decide +kernel) rfl (.cons (show ((("down" : Str) == ("down" : Str)) = true) by decide +kernel) rfl (.cons (show ((("left" : Str) == ("left" : Str)) = true) by decide +kernel) rfl (.cons (show ((("right" : Str) == ("right" : Str)) = true) by decide +kernel) rfl .nil)))⟩, show (["up", "down", "left", "right"] : List Str).Nodup by decide +kernel⟩
theorem TS.get {P : Params} (S : TS K P mg) (d : Dir) : PySem.W.nsIn K S.d (dS d) = some (some (.ref (S.at d))) := by
  unfold PySem.W.nsIn
  rw [S.l]
  cases d <;> rfl
theorem TS.no {P : Params} (S : TS K P mg) {z : Str} (h : ∀ d, z ≠ dS d) : PySem.W.nsIn K S.d z = some none := by
  have e : ∀ d, (dS d == z) = false := fun d => beq_eq_false_iff_ne.mpr (Ne.symm (h d))
  unfold PySem.W.nsIn
  rw [S.l]
  have e0 : (("up" : Str) == z) = false := e .up
  have e1 : (("down" : Str) == z) = false := e .down
  have e2 : (("left" : Str) == z) = false := e .left
  have e3 : (("right" : Str) == z) = false := e .right
  simp only [List.find?, Value.isStr, e0, e1, e2, e3]
  rfl
theorem TPair.sq {H : Hp} {a : Addr} {x y : Int} (t : TPair K a x y) : SqT K H a [.int x, .int y] :=
  let ⟨_, _, _, _, _, l⟩ := t
  .inr ⟨_, _, _, l, rfl, rfl, (show 2 ≤ sizeLine by decide), .cons ⟨_, rfl⟩ (.cons ⟨_, rfl⟩ .nil)⟩
theorem TS.pair {P : Params} (S : TS K P mg) (H : Hp) (d : Dir) : SqT K H (S.at d) [.int (dxy d).1, .int (dxy d).2] := by
  cases d
  · exact S.v0.sq
  · exact S.v1.sq
  · exact S.v2.sq
  · exact S.v3.sq
theorem pe_ts {X : Cx} {P : Params} {pos : Pos} (S : TS X.K P X.mg) (hg : Gl X "TILE_STANDS" := by rfl) : PE X (.Name "TILE_STANDS" pos) (tC (.ref S.d)) := pe_glob hg S.g rfl (by decide)
theorem crd_dxy (w e : Nat) (d : Dir) : crd w e d = (((e % w : Nat) : Int) + (dxy d).1, ((e / w : Nat) : Int) + (dxy d).2) := by
  cases d <;> simp [crd, dxy] <;> omega
end
def spTP (K : PySem.W.Frag) : Sp := fun vs H Q _ => ∃ (f : Addr) (e : Nat) (d : Dir) (w h : Nat), vs = [.ref f, nV e, .str (dS d)] ∧ SqT K H f [nV w, nV h] ∧ Fl w h ∧ e < w * h ∧
  (tgt w h e d = none → ∀ H', Same H H' → Q .non H') ∧ ∀ t, tgt w h e d = some t → ∀ H', Same H H' → Q (nV t) H'
section
variable {P : Program} {w : World} {K : PySem.W.Frag} {mg : Str → Option Value} {base : Heap}
theorem ok_tile_place (T : Tx K mg) (S : TS K w.params mg) : FnD P w base CX0 2 T.d_tile_place (spTP K) := by
  have G1 : FnD P w base CX0 1 T.d_column_and_row (spCR K) := ok_column_and_row T
  refine T.d_tile_place.F.ok sc_tile_place (fun vs H Q E h => ?_) (fun cdv A outer s H vs Q E hr h => ?_)
  · obtain ⟨f, e, d, x, y, rfl, _⟩ := h
    rfl
  · obtain ⟨f, e, d, wd, hg, rfl, hf, F, he, kN, kS⟩ := h
    have nd := sc_tile_place.nd
    refine ⟨_, pss_cons (ps_asg (pv 0) (pg_tup rfl (pgs_cons (pg_name (i := 3) nd rfl (.inl rfl)) (pgs_cons (pg_name (i := 4) nd rfl (.inl rfl)) pgs_nil))))
      (pss_cons (ps_asg (pe_d T.d_column_and_row G1 hr pass0 (pa_cons (pv 0) (pa1 (pv 1)))) (pg_tup rfl (pgs_cons (pg_name (i := 5) nd rfl (.inl rfl)) (pgs_cons (pg_name (i := 6) nd rfl (.inl rfl)) pgs_nil))))
      (pss_cons (ps_asg (pe_ix ix_kdict (pe_ts S) (pv 2) (fun _ _ => rfl)) (pg_tup rfl (pgs_cons (pg_name (i := 7) nd rfl (.inl rfl)) (pgs_cons (pg_name (i := 8) nd rfl (.inl rfl)) pgs_nil))))
      (pss_cons (ps_aug (i := 5) nd rfl (.inl rfl) (pv 7) ip_add)
      (pss_cons (ps_aug (i := 6) nd rfl (.inl rfl) (pv 8) ip_add)
      (pss_cons (ps_if (PW.pt (pw_or (pt_cmpR op_lt (pv 5) pe_int (nomark _)) (pw_or (pt_cmpR op_ge (pv 5) (pv 3) (nomark _)) (pw_or (pt_cmpR op_lt (pv 6) pe_int (nomark _)) (pw_or1 (pt_cmpR op_ge (pv 6) (pv 4) (nomark _)))))))
        (pss_one (ps_ret pe_non)) pss_nil)
      (pss_one (ps_ret (pe_op op_add (pe_op op_mul (pv 6) (pv 3)) (pv 5))))))))), ?_⟩
    have ze := he
    have F16 := F.le
    have w1 := F.w1
    refine ⟨_, rfl, f, _, rfl, hf, rfl, _, _, rfl, _, _, rfl, rfl, ?_⟩
    refine ⟨_, rfl, _, rfl, f, e, wd, hg, rfl, hf, F, fun t nt => ?_⟩
    have s1 : Same H (upd H t (.tup [nV (e % wd), nV (e / wd)])) := same_upd nt
    refine ⟨t, _, rfl, sqt_upd, rfl, _, _, rfl, _, _, rfl, rfl, ?_⟩
    refine ⟨_, rfl, S.d, dS d, .ref (S.at d), rfl, rfl, ⟨_, _, _, S.l, S.kd.lit, S.get d, rfl⟩, ?_⟩
    refine ⟨S.at d, _, rfl, S.pair _ d, rfl, _, _, rfl, _, _, rfl, rfl, ?_⟩
    have ecr := crd_dxy wd e d
    have e1 : ((e % wd : Nat) : Int) + (dxy d).1 = (crd wd e d).1 := by rw [ecr]
    have e2 : ((e / wd : Nat) : Int) + (dxy d).2 = (crd wd e d).2 := by rw [ecr]
    have hby := crd_by (w := wd) (d := d) (show e < 100 by omega)
    have out := fun o => kN (tgt_out (d := d) (by omega) ze o) _ s1
    have inn := fun o => tgt_in (d := d) (by omega) ze o
    rw [← e1, ← e2] at out inn
    rw [← e2] at hby
    refine ⟨_, rfl, _, rfl, _, _, rfl, rfl, ?_⟩
    refine ⟨_, rfl, _, rfl, _, _, rfl, rfl, ?_⟩
    refine ⟨_, rfl, _, _, rfl, rfl, _, rfl, ?_⟩
    refine ite2 (fun q => out (.inl (of_decide_eq_true q))) fun q1 => ?_
    refine ⟨_, rfl, _, rfl, _, _, rfl, rfl, _, rfl, ?_⟩
    refine ite2 (fun q => out (.inr (.inr (.inl (of_decide_eq_true q))))) fun q2 => ?_
    refine ⟨_, rfl, _, _, rfl, rfl, _, rfl, ?_⟩
    refine ite2 (fun q => out (.inr (.inl (of_decide_eq_true q)))) fun q3 => ?_
    refine ⟨_, rfl, _, rfl, _, _, rfl, rfl, _, rfl, ?_⟩
    refine ite2 (fun q => out (.inr (.inr (.inr (of_decide_eq_true q))))) fun q4 => ?_
    obtain ⟨p, hp, hpi⟩ := inn (by
      rintro (q | q | q | q)
      · exact q1 (decide_eq_true q)
      · exact q3 (decide_eq_true q)
      · exact q2 (decide_eq_true q)
      · exact q4 (decide_eq_true q))
    refine ⟨_, rfl, _, rfl, _, _, rfl, rfl, .inl hby, _, rfl, _, _, rfl, rfl, ?_⟩
    have g := kS p hp _ s1
    unfold nV at g
    rw [← hpi, Int.add_comm] at g
    exact g
end
end Sf
namespace Sf
open PySem PySem.Spec PyProof.Rows L2
theorem ts_key {a0 a1 a2 a3 : Addr} {i : Nat} {k : Str} {v : Value} (e : [(("up" : Str), Value.ref a0), ("down", .ref a1), ("left", .ref a2), ("right", .ref a3)][i]? = some (k, v)) : ∃ d, dirs[i]? = some d ∧ k = dS d := by
  match i, e with
  | 0, e => cases e; exact ⟨.up, rfl, rfl⟩
  | 1, e => cases e; exact ⟨.down, rfl, rfl⟩
  | 2, e => cases e; exact ⟨.left, rfl, rfl⟩
  | 3, e => cases e; exact ⟨.right, rfl, rfl⟩
  | n + 4, e => simp at e
theorem step_none {w h : Nat} {st : List Int} {d : Dir} : step w h st d = none ↔ tgt w h (zat st) d = none := by
  unfold step
  cases tgt w h (zat st) d <;> simp
end Sf
namespace Sf
open PySem PySem.Spec PyProof.Rows L2
/-- the floor of a small law -/
def spSmall (K : PySem.W.Frag) : Sp := fun vs H Q _ => ∃ n : Nat, vs = [nV n] ∧ ∀ t w h H', H t = none → Small w h → Same H H' → SqT K H' t [nV w, nV h] → Q (.ref t) H'
theorem ten_cases (n : Nat) : n % 10 = 0 ∨ n % 10 = 1 ∨ n % 10 = 2 ∨ n % 10 = 3 ∨ n % 10 = 4 ∨ n % 10 = 5 ∨ n % 10 = 6 ∨ n % 10 = 7 ∨ n % 10 = 8 ∨ n % 10 = 9 := by omega
section
variable {P : Program} {w : World} {K : PySem.W.Frag} {mg : Str → Option Value} {base : Heap}
theorem ok_small (T : Tx K mg) : FnD P w base CX0 1 T.d_law_floor (spSmall K) := by
  refine T.d_law_floor.F.ok sc_law_floor (fun vs H Q E h => ?_) (fun cdv A outer s H vs Q E hr h => ?_)
  · obtain ⟨n, rfl, _⟩ := h
    rfl
  · obtain ⟨n, rfl, k⟩ := h
    refine ⟨_, pss_one (ps_ret (pe_ix ix_list (pe_lst (pa_cons (pe_tup (pa_cons pe_int (pa1 pe_int))) (pa_cons (pe_tup (pa_cons pe_int (pa1 pe_int))) (pa_cons (pe_tup (pa_cons pe_int (pa1 pe_int))) (pa_cons (pe_tup (pa_cons pe_int (pa1 pe_int))) (pa_cons (pe_tup (pa_cons pe_int (pa1 pe_int))) (pa_cons (pe_tup (pa_cons pe_int (pa1 pe_int))) (pa_cons (pe_tup (pa_cons pe_int (pa1 pe_int))) (pa_cons (pe_tup (pa_cons pe_int (pa1 pe_int))) (pa_cons (pe_tup (pa_cons pe_int (pa1 pe_int))) (pa1 (pe_tup (pa_cons pe_int (pa1 pe_int)))))))))))))) (pe_op op_mod (pv 0) pe_int) (fun _ _ => rfl))), ?_⟩
    have two : (2 : Nat) ≤ sizeLine := by decide
    refine ⟨two, fun p0 n0 => ?_⟩
    refine ⟨two, fun p1 n1 => ?_⟩
    refine ⟨two, fun p2 n2 => ?_⟩
    refine ⟨two, fun p3 n3 => ?_⟩
    refine ⟨two, fun p4 n4 => ?_⟩
    refine ⟨two, fun p5 n5 => ?_⟩
    refine ⟨two, fun p6 n6 => ?_⟩
    refine ⟨two, fun p7 n7 => ?_⟩
    refine ⟨two, fun p8 n8 => ?_⟩
    refine ⟨two, fun p9 n9 => ?_⟩
    refine ⟨(by show 10 ≤ sizeLine; decide), fun l nl => ?_⟩
    have z10 := same_upd (o := .lst [V.ref p0, V.ref p1, V.ref p2, V.ref p3, V.ref p4, V.ref p5, V.ref p6, V.ref p7, V.ref p8, V.ref p9]) nl
    have z9 := (same_upd (o := .tup [.int 2, .int 2]) n9).trans z10
    have z8 := (same_upd (o := .tup [.int 3, .int 2]) n8).trans z9
    have z7 := (same_upd (o := .tup [.int 2, .int 3]) n7).trans z8
    have z6 := (same_upd (o := .tup [.int 3, .int 2]) n6).trans z7
    have z5 := (same_upd (o := .tup [.int 2, .int 3]) n5).trans z6
    have z4 := (same_upd (o := .tup [.int 2, .int 2]) n4).trans z5
    have z3 := (same_upd (o := .tup [.int 1, .int 4]) n3).trans z4
    have z2 := (same_upd (o := .tup [.int 3, .int 1]) n2).trans z3
    have z1 := (same_upd (o := .tup [.int 2, .int 1]) n1).trans z2
    have z0 := (same_upd (o := .tup [.int 1, .int 2]) n0).trans z1
    have y0 : Same H H := Same.refl _
    have y1 := y0.trans (same_upd (o := .tup [.int 1, .int 2]) n0)
    have y2 := y1.trans (same_upd (o := .tup [.int 2, .int 1]) n1)
    have y3 := y2.trans (same_upd (o := .tup [.int 3, .int 1]) n2)
    have y4 := y3.trans (same_upd (o := .tup [.int 1, .int 4]) n3)
    have y5 := y4.trans (same_upd (o := .tup [.int 2, .int 2]) n4)
    have y6 := y5.trans (same_upd (o := .tup [.int 2, .int 3]) n5)
    have y7 := y6.trans (same_upd (o := .tup [.int 3, .int 2]) n6)
    have y8 := y7.trans (same_upd (o := .tup [.int 2, .int 3]) n7)
    have y9 := y8.trans (same_upd (o := .tup [.int 3, .int 2]) n8)
    rcases ten_cases n with e | e | e | e | e | e | e | e | e | e
    · refine ⟨_, rfl, _, _, rfl, rfl, (by show (0 : Int) < 10; decide), l, _, _, .ref p0, rfl, rfl, sql_upd, at_of (j := 0) (by omega) rfl, ?_⟩
      exact k p0 1 2 _ (y0.free n0) small_12 z0 (sm_tup z1 (sqt_upd (xs := [.int 1, .int 2])))
    · refine ⟨_, rfl, _, _, rfl, rfl, (by show (0 : Int) < 10; decide), l, _, _, .ref p1, rfl, rfl, sql_upd, at_of (j := 1) (by omega) rfl, ?_⟩
      exact k p1 2 1 _ (y1.free n1) small_21 z0 (sm_tup z2 (sqt_upd (xs := [.int 2, .int 1])))
    · refine ⟨_, rfl, _, _, rfl, rfl, (by show (0 : Int) < 10; decide), l, _, _, .ref p2, rfl, rfl, sql_upd, at_of (j := 2) (by omega) rfl, ?_⟩
      exact k p2 3 1 _ (y2.free n2) small_31 z0 (sm_tup z3 (sqt_upd (xs := [.int 3, .int 1])))
    · refine ⟨_, rfl, _, _, rfl, rfl, (by show (0 : Int) < 10; decide), l, _, _, .ref p3, rfl, rfl, sql_upd, at_of (j := 3) (by omega) rfl, ?_⟩
      exact k p3 1 4 _ (y3.free n3) small_14 z0 (sm_tup z4 (sqt_upd (xs := [.int 1, .int 4])))
    · refine ⟨_, rfl, _, _, rfl, rfl, (by show (0 : Int) < 10; decide), l, _, _, .ref p4, rfl, rfl, sql_upd, at_of (j := 4) (by omega) rfl, ?_⟩
      exact k p4 2 2 _ (y4.free n4) small_22 z0 (sm_tup z5 (sqt_upd (xs := [.int 2, .int 2])))
    · refine ⟨_, rfl, _, _, rfl, rfl, (by show (0 : Int) < 10; decide), l, _, _, .ref p5, rfl, rfl, sql_upd, at_of (j := 5) (by omega) rfl, ?_⟩
      exact k p5 2 3 _ (y5.free n5) small_23 z0 (sm_tup z6 (sqt_upd (xs := [.int 2, .int 3])))
    · refine ⟨_, rfl, _, _, rfl, rfl, (by show (0 : Int) < 10; decide), l, _, _, .ref p6, rfl, rfl, sql_upd, at_of (j := 6) (by omega) rfl, ?_⟩
      exact k p6 3 2 _ (y6.free n6) small_32 z0 (sm_tup z7 (sqt_upd (xs := [.int 3, .int 2])))
    · refine ⟨_, rfl, _, _, rfl, rfl, (by show (0 : Int) < 10; decide), l, _, _, .ref p7, rfl, rfl, sql_upd, at_of (j := 7) (by omega) rfl, ?_⟩
      exact k p7 2 3 _ (y7.free n7) small_23 z0 (sm_tup z8 (sqt_upd (xs := [.int 2, .int 3])))
    · refine ⟨_, rfl, _, _, rfl, rfl, (by show (0 : Int) < 10; decide), l, _, _, .ref p8, rfl, rfl, sql_upd, at_of (j := 8) (by omega) rfl, ?_⟩
      exact k p8 3 2 _ (y8.free n8) small_32 z0 (sm_tup z9 (sqt_upd (xs := [.int 3, .int 2])))
    · refine ⟨_, rfl, _, _, rfl, rfl, (by show (0 : Int) < 10; decide), l, _, _, .ref p9, rfl, rfl, sql_upd, at_of (j := 9) (by omega) rfl, ?_⟩
      exact k p9 2 2 _ (y9.free n9) small_22 z0 (sm_tup z10 (sqt_upd (xs := [.int 2, .int 2])))
end
end Sf
namespace Sf
open PySem PySem.Spec PyProof.Rows L2
section
variable {P : Program} {w : World} {K : PySem.W.Frag} {mg : Str → Option Value} {base : Heap}
theorem sql_ne {K : PySem.W.Frag} {H : Hp} {p b : Addr} {xs : List V} {o u : HO} (h : H p = some (.lst xs)) (hb : H b = some u) (n : p ≠ b) : (upd H b o) p = some (.lst xs) := by rw [upd_ne n]; exact h
set_option maxHeartbeats 1000000 in
theorem ok_far (T : Tx K mg) : FnD P w base CX0 3 T.d_law_far (spFar P w K) := by
  have G1 : FnD P w base CX0 2 T.d_law_words (spWords K) := ok_words T
  have G2 : FnD P w base CX0 1 T.d_law_moved (spMoved K) := ok_moved T
  refine T.d_law_far.F.ok sc_law_far (fun vs H Q E h => ?_) (fun cdv A outer s H vs Q E hr h => ?_)
  · obtain ⟨f, b, wd, hg, st, rfl, _⟩ := h
    rfl
  · obtain ⟨f, b, wd, hg, st, rfl, hf, F, h6, hb, S, k⟩ := h
    have nd := sc_law_far.nd
    have hu := hu_of hr
    have hr1 : Room 1 _ := hr.mono (by decide)
    refine ⟨_, pss_cons (ps_set (i := 2) nd rfl (.inl rfl) (pe_disp1 hr.units0 (pv 1) pe_int))
      (pss_cons (ps_set (i := 3) nd rfl (.inl rfl) (pe_lst (pa1 (pv 1))))
      (pss_cons (ps_while PassesOwn.never (pt_cmpR (op_neD hr.units) (pv 3) (pe_lst pa_nil) (nomark _))
        (pss_cons (ps_set (i := 4) nd rfl (.inl rfl) (pe_lst pa_nil))
        (pss_cons (ps_for PassesOwn.never rfl (pi_list (pv 3)) (pg_name (i := 5) nd rfl (.inl rfl))
          (pss_one (ps_for PassesOwn.never rfl (pi_list (pe_d T.d_law_words G1 hr pass0 (pa_cons (pv 0) (pa1 (pv 5))))) (pg_name (i := 6) nd rfl (.inl rfl))
            (pss_cons (ps_set (i := 7) nd rfl (.inl rfl) (pe_d T.d_law_moved G2 hr1 pass0 (pa_cons (pv 0) (pa_cons (pv 5) (pa1 (pv 6))))))
            (pss_one (ps_if (pt_cmpR (op_notInX hu) (pv 7) (pv 2) (by rfl))
              (pss_cons (ps_asg (pe_op op_add (pe_getX hu (pv 2) (pv 5) (fun _ _ => rfl)) pe_int) (pg_sub (pv 2) (pv 7) (set_dictX hu)))
              (pss_one (ps_expr (pe_bm PySem.F.plainAttrs_list PySem.F.slot_list_append PySem.F.type_list_append mt_append (pv 4) (pa1 (pv 7)))))) pss_nil))))))
        (pss_one (ps_set (i := 3) nd rfl (.inl rfl) (pv 4))))))
      (pss_one (ps_ret (pv 2))))), ?_⟩
    refine fun d nd0 => ⟨_, rfl, upd_same, b, st, rfl, (sm_tup (same_upd nd0) hb.sq), ?_⟩
    rw [upd_upd]
    have y1 : Same H (upd H d (DX P w d [(st, b, V.int 0)])) := same_upd nd0
    refine ⟨_, rfl, (by show 1 ≤ sizeLine; decide), fun la nla => ?_⟩
    have y2 := y1.trans (same_upd (o := .lst [V.ref b]) nla)
    have nda : d ≠ la := fun q => by rw [← q, upd_same] at nla; cases nla
    -- the invariant of the going
    let PW : Nat → L2.St → Hp → Prop := fun t σ H2 => Same H H2 ∧ ∃ (la : Addr) (L : List DXE) (rs : List Addr) (u4 u5 u6 u7 : Option V), σ = [some (.ref f), some (.ref b), some (.ref d), some (.ref la), u4, u5, u6, u7] ∧ H2 d = some (DX P w d L) ∧
      H2 la = some (.lst (rs.map V.ref)) ∧ AtL H2 rs (layr wd hg st t).2 ∧ KeysT H2 L ∧ L.map (·.1) = (layr wd hg st t).1 ∧ ∀ e ∈ L, ∃ n : Nat, e.2.2 = nV n ∧ IsDist wd hg st e.1 n
    have hp0 : PW 0 [some (.ref f), some (.ref b), some (.ref d), some (.ref la), none, none, none, none] (upd (upd H d (DX P w d [(st, b, V.int 0)])) la (.lst [V.ref b])) := by
      refine ⟨y2, la, [(st, b, V.int 0)], [b], none, none, none, none, rfl, ?_, upd_same, .cons (hb.same y2) .nil, fun e m => ?_, rfl, fun e m => ?_⟩
      · rw [upd_ne nda, upd_same]
      · rw [List.mem_singleton.mp m]
        exact hb.same y2
      · rw [List.mem_singleton.mp m]
        exact ⟨0, rfl, .nil, fun m hm => by omega⟩
    refine ⟨fun m σ H2 => ∃ t, PW t σ H2 ∧ m = 720 - (layr wd hg st t).1.length + (if (layr wd hg st t).2 = [] then 0 else 1), ⟨_, 0, hp0, rfl⟩, ?_⟩
    rintro m σ H2 ⟨t, ⟨s2, la, L, rs, u4, u5, u6, u7, rfl, hd, hla, hat, hk, hkeys, hval⟩, rfl⟩
    refine ⟨_, rfl, (by show 0 ≤ sizeLine; decide), fun pe npe => ?_⟩
    have se : Same H2 (upd H2 pe (.lst [])) := same_upd npe
    refine ⟨_, _, dp_T2 (SqL.of (se _ _ hla)) (hat.same se), dp_lst (ns := []) sql_upd, shaped_lst2 _, shaped_lst _, _, rfl, ?_⟩
    rw [eqv_nil2]
    refine iteN2 (fun e => ?_) fun e => ?_
    · have el : (layr wd hg st t).2 ≠ [] := of_decide_eq_false e
      have s2e := s2.trans se
      refine ⟨PW (t + 1), fun σ' H' q => ⟨_, ?_, t + 1, q, rfl⟩, ?_⟩
      · have ap := layr_app (w := wd) (h := hg) (s := st) t
        have l1 := layr_le F h6 S (t + 1)
        rw [ap, List.length_append] at l1 ⊢
        rw [if_neg el]
        by_cases z : (layr wd hg st (t + 1)).2 = []
        · rw [if_pos z, z]; simp
        · rw [if_neg z]
          have := List.length_pos_iff.mpr z
          omega
      · refine ⟨(by show 0 ≤ sizeLine; decide), fun lt nlt => ?_⟩
        have nlt0 : H lt = none := s2e.free nlt
        have hla2 := se _ _ hla
        have lal : lt ≠ la := fun q => by rw [q, hla2] at nlt; cases nlt
        have sl : Same H2 (upd (upd H2 pe (.lst [])) lt (.lst [])) := se.trans (same_upd nlt)
        let PI : Nat → L2.St → Hp → Prop := fun i σ H3 => Same H H3 ∧ H3 la = some (.lst (rs.map V.ref)) ∧ AtL H3 rs (layr wd hg st t).2 ∧ ∃ (L : List DXE) (ls : List Addr) (u5 u6 u7 : Option V),
          σ = [some (.ref f), some (.ref b), some (.ref d), some (.ref la), some (.ref lt), u5, u6, u7] ∧ H3 d = some (DX P w d L) ∧ H3 lt = some (.lst (ls.map V.ref)) ∧ KeysT H3 L ∧
          AtL H3 ls (visits (layr wd hg st t).1 (nbs wd hg ((layr wd hg st t).2.take i) ++ [])).2 ∧ L.map (·.1) = (visits (layr wd hg st t).1 (nbs wd hg ((layr wd hg st t).2.take i) ++ [])).1 ∧ ∀ e ∈ L, ∃ n : Nat, e.2.2 = nV n ∧ IsDist wd hg st e.1 n
        refine ⟨_, rfl, la, rfl, ⟨_, SqL.of (sl _ _ hla)⟩, for_list (K := K) (a := la) (xs := rs.map V.ref) PI
          ⟨s2.trans sl, sl _ _ hla, hat.same sl, L, [], u5, u6, u7, rfl, sl _ _ hd, upd_same, hk.same sl, .nil, hkeys, hval⟩ (fun i σ H3 _ p => SqL.of p.2.1) ?_ ?_⟩
        · rintro i x σ H3 hx ⟨s3, hla3, hat3, L3, ls3, v5, v6, v7, rfl, hd3, hlt3, hk3, hls3, hkeys3, hval3⟩
          obtain ⟨r, hr3, rfl⟩ : ∃ r, rs[i]? = some r ∧ x = .ref r := by
            rw [List.getElem?_map] at hx
            cases q : rs[i]? with
            | none => rw [q] at hx; cases hx
            | some r => rw [q] at hx; exact ⟨r, rfl, (Option.some.inj hx).symm⟩
          obtain ⟨y, hy, hty⟩ := hat3.get hr3
          have ym := List.mem_of_getElem? hy
          have yS := layr_std F S t y (layr_sub t y ym)
          refine ⟨_, rfl, _, rfl, f, r, wd, hg, y, rfl, sm_tup s3 hf, F, hty, yS, fun wl H4 nwl s4 hwl => ?_⟩
          have nwd : wl ≠ d := fun q => by rw [q, hd3] at nwl; cases nwl
          have nwt : wl ≠ lt := fun q => by rw [q, hlt3] at nwl; cases nwl
          let PJ : Nat → L2.St → Hp → Prop := fun j σ H5 => Same H H5 ∧ H5 la = some (.lst (rs.map V.ref)) ∧ AtL H5 rs (layr wd hg st t).2 ∧ H5 wl = some (.lst (wV (wordsM wd hg y))) ∧ ∃ (L : List DXE) (ls : List Addr) (u6 u7 : Option V),
            σ = [some (.ref f), some (.ref b), some (.ref d), some (.ref la), some (.ref lt), some (.ref r), u6, u7] ∧ H5 d = some (DX P w d L) ∧ H5 lt = some (.lst (ls.map V.ref)) ∧ KeysT H5 L ∧
            AtL H5 ls (visits (layr wd hg st t).1 (nbs wd hg ((layr wd hg st t).2.take i) ++ nb wd hg y ((wordsM wd hg y).take j))).2 ∧ L.map (·.1) = (visits (layr wd hg st t).1 (nbs wd hg ((layr wd hg st t).2.take i) ++ nb wd hg y ((wordsM wd hg y).take j))).1 ∧ ∀ e ∈ L, ∃ n : Nat, e.2.2 = nV n ∧ IsDist wd hg st e.1 n
          refine ⟨wl, rfl, ⟨_, SqL.of hwl⟩, for_list (K := K) (a := wl) (xs := wV (wordsM wd hg y)) PJ
            ⟨s3.trans s4, s4 _ _ hla3, hat3.same s4, hwl, L3, ls3, v6, v7, rfl, s4 _ _ hd3, s4 _ _ hlt3, hk3.same s4, hls3.same s4, hkeys3, hval3⟩ (fun j σ H5 _ p => SqL.of p.2.2.2.1) ?_ ?_⟩
          · rintro j x σ H5 hx ⟨s5, hla5, hat5, hwl5, L5, ls5, v6, v7, rfl, hd5, hlt5, hk5, hls5, hkeys5, hval5⟩
            obtain ⟨dd, hdd, rfl⟩ : ∃ dd, (wordsM wd hg y)[j]? = some dd ∧ x = .str (dS dd) := by
              unfold wV at hx
              rw [List.getElem?_map] at hx
              cases q : (wordsM wd hg y)[j]? with
              | none => rw [q] at hx; cases hx
              | some dd => rw [q] at hx; exact ⟨dd, rfl, (Option.some.inj hx).symm⟩
            obtain ⟨y', hst'⟩ := words_step hdd
            have V5 := vis_facts (s := st) (t := t) (i := i) F h6 S (nb_std (ds := (wordsM wd hg y).take j) F yS)
            have vs : visits (layr wd hg st t).1 (nbs wd hg ((layr wd hg st t).2.take i) ++ nb wd hg y ((wordsM wd hg y).take (j + 1))) = visit (visits (layr wd hg st t).1 (nbs wd hg ((layr wd hg st t).2.take i) ++ nb wd hg y ((wordsM wd hg y).take j))) y' := by
              rw [nb_take hdd hst', ← List.append_assoc, visits_snoc]
            have hty5 : TD H5 r (VI y) := by
              obtain ⟨y2, hy2, ht⟩ := hat5.get hr3
              rw [hy] at hy2
              cases hy2
              exact ht
            refine ⟨_, rfl, _, rfl, _, rfl, f, r, dd, wd, hg, y, rfl, sm_tup s5 hf, F, hty5, yS, fun hn => (by rw [hst'] at hn; cases hn), fun y2 hst2 p H6 np s6 hp => ?_⟩
            rw [hst'] at hst2
            cases hst2
            have s56 := s5.trans s6
            have hd6 := s6 _ _ hd5
            have hlt6 := s6 _ _ hlt5
            have hk6 := hk5.same s6
            have hls6 := hls5.same s6
            have hat6 := hat5.same s6
            refine ⟨_, rfl, _, rfl, L5, y', ⟨d, p, rfl, rfl, hd6, hk6.at, hp.sq⟩, _, rfl, ?_⟩
            refine iteN2 (fun e => ?_) fun e => ?_
            · -- a new one
              have ny : y' ∉ (visits (layr wd hg st t).1 (nbs wd hg ((layr wd hg st t).2.take i) ++ nb wd hg y ((wordsM wd hg y).take j))).1 := by
                rw [valX_isSome, hkeys5] at e
                exact of_decide_eq_false e
              have ny0 : y' ∉ (layr wd hg st t).1 := fun q => ny (V5.2.2.2.2 y' q)
              have hl5 : L5.length ≤ 720 := by
                have := V5.2.2.1
                rw [← hkeys5, List.length_map] at this
                exact this
              have hls5l : ls5.length ≤ 720 := by
                have := V5.2.2.2.1
                rw [← hls5.len] at this
                exact this
              obtain ⟨ee, hee, hey⟩ : ∃ e ∈ L5, e.1 = y := by
                have : y ∈ L5.map (·.1) := by rw [hkeys5]; exact V5.2.2.2.2 y (layr_sub t y ym)
                obtain ⟨e, m, q⟩ := List.mem_map.mp this
                exact ⟨e, m, q⟩
              obtain ⟨n, hn, hdist⟩ := hval5 ee hee
              have hnt : n = t := hdist.uniq (hey ▸ ((layr_facts t).2.2 y).mp ym)
              have hvx : valX L5 y = some (nV t) := by
                have := valX_mem (L := L5) (by rw [hkeys5]; exact V5.1) hee
                rw [hey, hn, hnt] at this
                exact this
              have hty6 := hty5.same s6
              have hv1 : visit (visits (layr wd hg st t).1 (nbs wd hg ((layr wd hg st t).2.take i) ++ nb wd hg y ((wordsM wd hg y).take j))) y' = ((visits (layr wd hg st t).1 (nbs wd hg ((layr wd hg st t).2.take i) ++ nb wd hg y ((wordsM wd hg y).take j))).1 ++ [y'], (visits (layr wd hg st t).1 (nbs wd hg ((layr wd hg st t).2.take i) ++ nb wd hg y ((wordsM wd hg y).take j))).2 ++ [y']) := by
                unfold visit
                rw [if_neg ny]
              have dlt : d ≠ lt := ne_of hd6 hlt6 (fun q => by unfold DX at q; cases q)
              have dla : d ≠ la := ne_of hd6 (s6 _ _ hla5) (fun q => by unfold DX at q; cases q)
              refine ⟨_, rfl, _, rfl, L5, y, nV t, ⟨d, r, rfl, rfl, hd6, hk6.at, hty6.sq⟩, hvx, _, _, rfl, rfl, ?_⟩
              refine ⟨_, rfl, _, rfl, d, p, L5, y', rfl, rfl, hd6, hk6.at, hp.sq, small1000 (by omega), ?_⟩
              rw [putX_new e]
              have hlt7 : (upd H6 d (DX P w d (L5 ++ [(y', p, V.int ((t : Int) + 1))]))) lt = some (.lst (ls5.map V.ref)) := by rw [upd_ne (Ne.symm dlt)]; exact hlt6
              refine ⟨_, rfl, .inl ⟨rfl, _, SqL.of hlt7⟩, _, rfl, lt, _, _, rfl, rfl, hlt7, (by rw [List.length_map]; exact small1000 (by omega)), ?_⟩
              refine ⟨same_ch nlt0 (same_ch nd0 s56), ?_, AtL.updN notT_lst hlt7 (AtL.updN notT_dx hd6 hat6), ?_, L5 ++ [(y', p, V.int ((t : Int) + 1))], ls5 ++ [p], some (.str (dS dd)), some (.ref p), rfl, ?_, ?_, fun e m => ?_, ?_, ?_, fun e m => ?_⟩
              · rw [upd_ne (Ne.symm lal), upd_ne (Ne.symm dla)]
                exact s6 _ _ hla5
              · rw [upd_ne nwt, upd_ne nwd]
                exact s6 _ _ hwl5
              · rw [upd_ne dlt, upd_same]
                rfl
              · rw [upd_same, List.map_append]
                rfl
              · refine TD.updN notT_lst hlt7 (TD.updN notT_dx hd6 ?_)
                rcases List.mem_append.mp m with m | m
                · exact hk6 e m
                · rw [List.mem_singleton.mp m]
                  exact hp
              · rw [vs, hv1]
                exact AtL.updN notT_lst hlt7 (AtL.updN notT_dx hd6 (hls6.snoc hp))
              · rw [vs, hv1, List.map_append, hkeys5]
                rfl
              · rcases List.mem_append.mp m with m | m
                · exact hval5 e m
                · rw [List.mem_singleton.mp m]
                  exact ⟨t + 1, rfl, new_dist ym hst' ny0⟩
            · -- met before
              have yy : y' ∈ (visits (layr wd hg st t).1 (nbs wd hg ((layr wd hg st t).2.take i) ++ nb wd hg y ((wordsM wd hg y).take j))).1 := by
                rw [valX_isSome, hkeys5] at e
                exact of_decide_eq_true e
              have hv1 : visit (visits (layr wd hg st t).1 (nbs wd hg ((layr wd hg st t).2.take i) ++ nb wd hg y ((wordsM wd hg y).take j))) y' = visits (layr wd hg st t).1 (nbs wd hg ((layr wd hg st t).2.take i) ++ nb wd hg y ((wordsM wd hg y).take j)) := by
                unfold visit
                rw [if_pos yy]
              refine ⟨s56, s6 _ _ hla5, hat6, s6 _ _ hwl5, L5, ls5, some (.str (dS dd)), some (.ref p), rfl, hd6, hlt6, hk6, ?_, ?_, hval5⟩
              · rw [vs, hv1]; exact hls6
              · rw [vs, hv1]; exact hkeys5
          · rintro σ H5 ⟨s5, hla5, hat5, hwl5, L5, ls5, v6, v7, rfl, hd5, hlt5, hk5, hls5, hkeys5, hval5⟩
            have ev : nbs wd hg ((layr wd hg st t).2.take i) ++ nb wd hg y ((wordsM wd hg y).take (wV (wordsM wd hg y)).length) = nbs wd hg ((layr wd hg st t).2.take (i + 1)) ++ [] := by
              rw [wV_len, List.take_length, List.append_nil, nbs_take hy]
            rw [ev] at hls5 hkeys5
            exact ⟨s5, hla5, hat5, L5, ls5, _, _, _, rfl, hd5, hlt5, hk5, hls5, hkeys5, hval5⟩
        · rintro σ H3 ⟨s3, hla3, hat3, L3, ls3, v5, v6, v7, rfl, hd3, hlt3, hk3, hls3, hkeys3, hval3⟩
          have ev : nbs wd hg ((layr wd hg st t).2.take (rs.map V.ref).length) ++ [] = nbs wd hg (layr wd hg st t).2 := by
            rw [List.length_map, hat.len, List.take_length, List.append_nil]
          rw [ev] at hls3 hkeys3
          exact ⟨_, rfl, s3, lt, L3, ls3, _, _, _, _, rfl, hd3, hlt3, hls3, hk3, hkeys3, hval3⟩
    · have el := of_decide_eq_true e
      exact ⟨_, rfl, k d _ L t nd0 (s2.trans se) (se _ _ hd) (hk.same se) hkeys el hval⟩
end
end Sf
namespace Sf
open PySem PySem.Spec PyProof.Rows L2
/-- d.get(k): the dict with tuples of whole numbers as keys -/
def tDGetX (P : Program) (w : World) (K : PySem.W.Frag) (td ty : TE) : TE := fun σ H Q => td σ H fun x H1 => (∃ a L, x = .ref a ∧ H1 a = some (DX P w a L) ∧ KeysAt K H1 L) ∧ ty σ H1 fun y H2 => ∃ L ns, AtX P w K H2 x y L ns ∧ Q ((valX L ns).getD .non) H2
section
variable {X : Cx} {o e : Expr} {apos cpos : Pos} {td ty : TE}
theorem pe_dgetX (hu : X.A.units + 1 < cLine) (ho : PE X o td) (he : PE X e ty) (m : M1 X o "get" apos e cpos) : PE X (.Call (.Attribute o "get" apos) [e] [] cpos) (tDGetX X.prog X.w X.K td ty) := by
  refine ⟨fun pins s σ H Q I h => ?_⟩
  refine wpAny_Call_method m.base m.few m.line PySem.F.plainAttrs_dict PySem.F.slot_dict_get PySem.F.type_dict_get (thn (ho.run pins s σ H _ I h) fun u s1 ⟨x, H1, I1, rx, ⟨a, L0, ex, hH0, hk0⟩, q1⟩ => ?_)
  subst ex
  obtain rfl : u = Value.ref a := rx
  obtain ⟨_, hd0, _, _, dd0⟩ := dx_of I1 hH0 hk0
  obtain ⟨ob, es, ep, ho1, hc1, hx1⟩ := id dd0
  refine ⟨dd0.typeIs, fun b q => (by cases q; exact ⟨ob, ho1, hc1.2.1⟩), ?_⟩
  rw [m.trees]
  refine Calls.callWith_builtin rfl (Calls.evalArgs_plain (Calls.spliced_cons (thn (he.run pins s1 σ H1 _ I1 q1) fun iv s2 ⟨y, H2, I2, ry, L, ns, ⟨a2, b, ea, eb, hH, hk, hb⟩, q2⟩ => Calls.spliced_nil ?_)))
  cases ea
  subst eb
  cases ry
  obtain ⟨z, hd, us, rel, dd⟩ := dx_of I2 hH hk
  refine call_meetsIn PySem.F.slot_dict_get dd.typeIs PySem.F.entry_dict_get (PySem.F.args_dict_get_2 _ _) (meetsH_dict_get (tupleKind (intKind X.prog X.w)) a b hd) ⟨tupleKind_room_in1 hu, ns, us, keyX I2 hb, dd, ?_⟩
  exact ⟨_, H2, I2.tok _, (rel.val ns).getD (show L2.RelV V.non Value.none from rfl), q2⟩
theorem pe_getXb {P : Program} {w : World} {K : PySem.W.Frag} {i : Expr} {pos : Pos} (eP : X.prog = P) (ew : X.w = w) (eK : X.K = K) (hu : X.A.units + 1 < cLine) (ho : PE X o td) (hi : PE X i ty) (hs : NoSl i) : PE X (.Subscript o i pos) (tGetX P w K td ty) := by
  subst eP ew eK
  exact pe_getX hu ho hi hs
end
end Sf
namespace Sf
open PySem PySem.Spec PyProof.Rows L2
theorem code_inj' {B : Int} : ∀ {r q : List Int}, r.length = q.length → _root_.TS.Bd B r → _root_.TS.Bd B q → cdI B r = cdI B q → r = q
  | [], [], _, _, _, _ => rfl
  | d :: r, e :: q, hl, hr, hq, h => by
    have hl' : r.length = q.length := by simpa using hl
    rcases Int.lt_trichotomy d e with z | z | z
    · have := _root_.TS.code_lt hl' hr.tail hq.tail z
      exact absurd h (Int.ne_of_lt this)
    · subst z
      have n1 : ¬ cdI B r < cdI B q := fun c => absurd h (Int.ne_of_lt ((_root_.TS.code_same (d := d) hl').mpr c))
      have n2 : ¬ cdI B q < cdI B r := fun c => absurd h.symm (Int.ne_of_lt ((_root_.TS.code_same (d := d) hl'.symm).mpr c))
      rw [code_inj' hl' hr.tail hq.tail (by omega)]
    · have := _root_.TS.code_lt hl'.symm hq.tail hr.tail z
      exact absurd h.symm (Int.ne_of_lt this)
/-- rising -/
abbrev Rise (ks : LL) : Prop := ks.Pairwise fun x y => cdI 16 x ≤ cdI 16 y
theorem rise_uniq {n : Nat} {ks ks' : LL} (h16 : n ≤ 16) (h : ∀ x ∈ ks, Std n x) (nd : ks.Nodup) (nd' : ks'.Nodup) (m : ∀ x, x ∈ ks ↔ x ∈ ks') (r : Rise ks) (r' : Rise ks') : ks = ks' := by
  have p : ks.Perm ks' := (List.perm_ext_iff_of_nodup nd nd').mpr m
  refine p.eq_of_pairwise (le := fun x y => cdI 16 x ≤ cdI 16 y) (fun a b ha hb h1 h2 => ?_) r r'
  have Sa := h a ha
  have Sb := h b ((m b).mpr hb)
  exact code_inj' (B := 16) (Sa.len.trans Sb.len.symm) (fun z hz => (by have := Sa.mem.mp hz; omega)) (fun z hz => (by have := Sb.mem.mp hz; omega)) (by omega)
/-- a pair of a whole number and a list of tuples, as data -/
def dPr (m : Nat) (ks : LL) : PyData := .tuple [.int (m : Int), .list (dT2 ks)]
theorem shaped_pr (m : Nat) (ks : LL) : SeqAt.shaped (dPr m ks) = true := by
  have h := dT2_depth ks
  show (PyData.canLay0 (.tuple [.int (m : Int), .list (dT2 ks)]) && decide (PyData.depth (.tuple [.int (m : Int), .list (dT2 ks)]) ≤ 64)) = true
  rw [Bool.and_eq_true]
  refine ⟨?_, decide_eq_true (by simp only [PyData.depth, PyData.depthAll]; omega)⟩
  have := dT2_lay ks
  simp [PyData.canLay0, PyData.canLayAll0, this]
theorem eqvAll_T2 : ∀ ks : LL, PyData.eqvAll (dT2 ks) (dT2 ks) = true
  | [] => by simp [dT2, PyData.eqvAll]
  | k :: ks => by
    show PyData.eqvAll (.tuple (dI k) :: dT2 ks) (.tuple (dI k) :: dT2 ks) = true
    rw [PyData.eqvAll, eqvAll_T2 ks, eqv_tup, decide_eq_true rfl]
    rfl
theorem eqv_pr (m : Nat) (ks : LL) : PyData.eqv (dPr m ks) (dPr m ks) = true := by
  have := eqvAll_T2 ks
  show PyData.eqv (.tuple [.int (m : Int), .list (dT2 ks)]) (.tuple [.int (m : Int), .list (dT2 ks)]) = true
  simp [PyData.eqv, PyData.eqvAll, this]
theorem dp_pr {K : PySem.W.Frag} {H : Hp} {p l : Addr} {m : Nat} {rs : List Addr} {ks : LL} (h : SqT K H p [nV m, .ref l]) (hl : SqL K H l (rs.map V.ref)) (a : AtL H rs ks) : Dp K H (.ref p) (dPr m ks) := .tup h (.cons (.int _) (.cons (dp_T2 hl a) .nil))
end Sf
namespace Sf
open PySem PySem.Spec PyProof.Rows L2
/-! ### a dict with tuples of ints as keys: made empty, its truth, its keys and its pairs walked, sorted of it -/
theorem truthy_dictH {prog : Program} {w : World} {K : Type} [DecidableEq K] {knd : HeapKind prog w K} {A : Around} {E : Value → Shared → Prop} {s : Shared} {d : Addr} {xs : List (K × Addr × Value)} {Q : Bool → Shared → Prop} (hd : (d == sysModules) = false) (hm : s.heap.DictOfH knd d xs) (hfit : (xs.length : Int) < 2 ^ 63)
    (h : Q (!xs.isEmpty) { s with toks := s.toks + 1 + 1 }) : wpAny (model prog w) A (truthy (.ref d)) Q E s := by
  have hne : ((xs.length : Int) != 0) = !xs.isEmpty := by cases xs <;> simp <;> omega
  have key : wpAny (model prog w) A (runValue (.builtin "len" ⟨[.ref d], []⟩)) (fun r s' => r = .int xs.length (s.toks + 1) ∧ Q (!xs.isEmpty) s') E s := by
    refine wpAny_runValue (codeAny_builtin entry_len ?_)
    rw [Around.under_plainId plain_len _]
    exact wpAny_mono (wpAny_len_body_dictH (Q := fun r s' => r = .int xs.length (s.toks + 1) ∧ Q (!xs.isEmpty) s') hd hm hfit ⟨rfl, h⟩)
      (fun fin s' h' => by obtain ⟨r, rfl, hq⟩ := h'; exact hq) fun _ _ e => e
  unfold truthy
  first
    | refine wpAny_bind (wpAny_callSpecial?_none (name := Str.ofString "__bool__") hm.typeIs noBool_dict ?_)
    | refine wpAny_bind (wpAny_pure (wpAny_bind (wpAny_callSpecial?_none (name := Str.ofString "__bool__") hm.typeIs noBool_dict ?_)))
  first
    | refine wpAny_bind (wpAny_specialOf (name := Str.ofString "__len__") hm.typeIs F.slot_dict_len.lookup ?_)
    | refine wpAny_bind (wpAny_pure (wpAny_bind (wpAny_specialOf (name := Str.ofString "__len__") hm.typeIs F.slot_dict_len.lookup ?_)))
  first
    | exact wpAny_bind (wpAny_mono key (fun r s' h' => by obtain ⟨rfl, hq⟩ := h'; exact wpAny_pure (hne ▸ hq)) fun _ _ e => e)
    | exact wpAny_bind (wpAny_pure (wpAny_bind (wpAny_mono key (fun r s' h' => by obtain ⟨rfl, hq⟩ := h'; exact wpAny_pure (hne ▸ hq)) fun _ _ e => e)))
/-- {} whose keys will be tuples of ints -/
def tDNewX (P : Program) (w : World) : TE := fun _ H Q => ∀ p, H p = none → Q (.ref p) (upd H p (DX P w p []))
section
variable {X : Cx} {pos : Pos}
theorem pe_dnewX : PE X (.Dict [] [] pos) (tDNewX X.prog X.w) := ⟨fun pins s σ H Q I h =>
  wpAny_Dict_empty ⟨.ref s.heap.objs.size, _, I.laid (a := s.heap.objs.size) (o := DX X.prog X.w s.heap.objs.size []) (t' := s.toks) (fun _ _ q => Heap.get?_push_of_some _ q) (Nat.le_refl _)
    (dx_ok (Nat.zero_le _) (beq_eq_false_iff_ne.mpr (Ne.symm (Nat.ne_of_lt I.big))) .nil (Heap.DictOfH.new _)), rfl, h _ (I.hok.fresh (Nat.le_refl _))⟩⟩
theorem isEmpty_relX {L : List DXE} {us : List (List Int × Addr × Value)} (r : RelX L us) : (!us.isEmpty) = !L.isEmpty := by cases r <;> rfl
theorem tru_X : TruR X (fun x H Q => ∃ (a : Addr) (L : List DXE), x = .ref a ∧ H a = some (DX X.prog X.w a L) ∧ KeysAt X.K H L ∧ Q (!L.isEmpty) H) := by
  intro pins s σ H x v Q I rx h
  obtain ⟨a, L, rfl, e, hk, q⟩ := h
  cases rx
  obtain ⟨z, hd, us, rel, dd⟩ := dx_of I e hk
  have hl : L.length = us.length := Paired.length rel
  rw [sizeLine_eq] at z
  exact truthy_dictH hd dd (by omega) ⟨H, I.tok _, by rw [isEmpty_relX rel]; exact q⟩
/-- a test that stores a name, by its value's truth by any rule -/
theorem ptw_truthR {e : Expr} {t : TEw} {r : V → Hp → (Bool → Hp → Prop) → Prop} (he : PEw X e t) (hr : TruR X r) (hp : ∀ whole, isTrue e X.env whole = (do let v ← whole; standAt e.pos; holding [v] (truthy v)) := by intro _; rfl) :
    PTw X e (fun σ H Q => t σ H fun x σ1 H1 => r x H1 fun k H2 => Q k σ1 H2) := by
  refine ⟨fun pins s σ H Q I hw => ?_⟩
  refine isTrue_plain (thn (he.run pins s σ H _ I hw) fun v s1 ⟨x, σ1, H1, I1, r1, q1⟩ => ?_) (hp _)
  exact thn (hr pins s1 σ1 H1 x v _ I1 r1 q1) fun c s2 ⟨H2, I2, q2⟩ => ⟨σ1, H2, I2, q2⟩
end
section
variable {X : Cx} {pins : List (Addr × Obj)} {σ : L2.St} {H : Hp} {s : Shared} {d : Addr} {o : Obj} {L : List DXE}
theorem frzX (I : Inv X pins σ H s) (h : H d = some (.frz o (DX X.prog X.w d L))) :
    (d == sysModules) = false ∧ s.heap.get? d = some o ∧ o.ExactDict ∧ ∃ (es : Array DictEntry) (ep : Nat), o.data = .dict es ep ∧ es.size = L.length ∧
      ∀ (i : Nat) (e : DXE), L[i]? = some e → ∃ en : DictEntry, es[i]? = some en ∧ en.key = .ref e.2.1 ∧ RelV e.2.2 en.val := by
  obtain ⟨hd, ⟨z, hs, us, r, o', es, ep, ho, hx, hdt, he, hn⟩, _⟩ := I.hok d _ h
  rw [hd] at ho
  cases ho
  refine ⟨hs, hd, hx, es, ep, hdt, ?_, fun i e hi => ?_⟩
  · have l1 : es.size = us.length := size_of_entries he
    have l2 : L.length = us.length := Paired.length r
    omega
  · obtain ⟨b, hb, e1, e2, e3⟩ := paired_get r hi
    have q := entry_at he i
    rw [hb] at q
    exact ⟨_, q, by rw [e2]; rfl, e3⟩
end
/-- the keys of the locked dict at d, in their order -/
def ItXk (P : Program) (w : World) (d : Addr) (o : Obj) (L : List DXE) : It :=
  ⟨fun i H => H d = some (.frz o (DX P w d L)) ∧ i < L.length, fun i H x H' => H' = H ∧ ∃ e : DXE, L[i]? = some e ∧ x = .ref e.2.1, fun i H => H d = some (.frz o (DX P w d L)) ∧ L.length ≤ i⟩
/-- its pairs, each a new tuple -/
def ItXi (P : Program) (w : World) (d : Addr) (o : Obj) (L : List DXE) : It :=
  ⟨fun i H => H d = some (.frz o (DX P w d L)) ∧ i < L.length, fun i H x H' => ∃ (T : Addr) (e : DXE), L[i]? = some e ∧ x = .ref T ∧ H T = none ∧ H' = upd H T (.tup [.ref e.2.1, e.2.2]), fun i H => H d = some (.frz o (DX P w d L)) ∧ L.length ≤ i⟩
section
variable {P : Program} {w : World} {K : PySem.W.Frag} {tg : Expr} {d : Addr} {o : Obj} {es : Array DictEntry} {ep : Nat} {L : List DXE}
theorem turn_Xk (it : Addr) (hod : o.data = .dict es ep) : Turn P w K tg (ItXk P w d o L) [it] it (fun i h => h.IsKeyIter it d i L.length ep) where
  mem := by simp
  obj := fun i h st b hb => by
    have e : b = it := by simpa using hb
    subst e
    obtain ⟨oi, e, c, dd⟩ := st
    exact ⟨oi, e, fun v z => by rw [dd] at z; cases z⟩
  keep := fun i h h' st k => st.at fun oi e => k it (by simp) oi e
  item := by
    intro X hP hw hK hc i pins s σ H E I hf st hg
    subst hP hw hK
    obtain ⟨hd, hi⟩ := hg
    obtain ⟨f0, f1, f2, f3, f4, f5⟩ := hf it (by simp)
    obtain ⟨hs, hgd, hx, es', ep', hdt, hsz, ent⟩ := frzX I hd
    obtain ⟨rfl, rfl⟩ := dict_ep hod hdt
    obtain ⟨en, hen, hkey, _⟩ := ent i L[i] (List.getElem?_eq_getElem hi)
    refine next_key_item st hgd hdt hsz hen fun h' st' sb => ?_
    have I1 : Inv X pins σ H { s with heap := h' } := I.turned (t' := s.toks) (fun b ob hb e => (sb.2 b hb).trans e) f0 f1 f3 f4 f5
    obtain ⟨oi, e, c, dd⟩ := id st'
    exact ⟨en.key, rfl, go_of (s := { s with heap := h' }) e c dd (by decide) ⟨.ref L[i].2.1, H, I1, hkey, ⟨rfl, _, List.getElem?_eq_getElem hi, rfl⟩, st', fun b hb => (hf b hb).1⟩⟩
  done := by
    intro X hP hw hK hc i pins s σ H E I hf st hg
    subst hP hw hK
    obtain ⟨hd, hi⟩ := hg
    obtain ⟨f0, f1, f2, f3, f4, f5⟩ := hf it (by simp)
    obtain ⟨hs, hgd, hx, es', ep', hdt, hsz, ent⟩ := frzX I hd
    obtain ⟨rfl, rfl⟩ := dict_ep hod hdt
    exact next_key_end (I.ok.hd hc) st hgd hdt hsz hi fun h' eb => ⟨rfl, I.turned (t' := s.toks) (fun b ob hb e => eb b ob hb e) f0 f1 f3 f4 f5⟩
  self := fun A i s Q E st h => by
    refine wpAny_pyIter_slot st.typeIs F.slot_dict_keyiterator_iter (wpAny_call_entry F.slot_dict_keyiterator_iter st.typeIs F.entry_dict_keyiterator_iter ?_ (F.args_dict_keyiterator_iter_1 _))
    show wpAny _ _ (ret (.ref it)) _ _ s
    exact wpAny_pure ⟨_, rfl, "dict_keyiterator", _, st.typeIs, F.slot_dict_keyiterator_next.lookup, h⟩
theorem turn_Xi {elts : List Expr} {kk : Nat} {tpos : Pos} (it : Addr) (hod : o.data = .dict es ep) :
    Turn P w K (.Tuple elts kk tpos) (ItXi P w d o L) [it] it (fun i h => ∃ ok ov, IsItemIter h it d i L.length ep ok ov) where
  mem := by simp
  obj := fun i h st b hb => by
    have e : b = it := by simpa using hb
    subst e
    obtain ⟨ok, ov, e⟩ := st
    exact ⟨_, e, fun v z => nomatch z⟩
  keep := fun i h h' st k => let ⟨ok, ov, e⟩ := st; ⟨ok, ov, k it (by simp) _ e⟩
  item := by
    intro X hP hw hK hc i pins s σ H E I hf st hg
    subst hP hw hK
    obtain ⟨hd, hi⟩ := hg
    obtain ⟨hs, hgd, hx, es', ep', hdt, hsz, ent⟩ := frzX I hd
    obtain ⟨rfl, rfl⟩ := dict_ep hod hdt
    obtain ⟨en, hen, hkey, hval⟩ := ent i L[i] (List.getElem?_eq_getElem hi)
    obtain ⟨hie, hen2⟩ := Array.getElem?_eq_some_iff.mp hen
    obtain ⟨ok, ov, he⟩ := st
    rw [← hsz] at he
    have hlt : it < s.heap.objs.size := Heap.lt_size he
    refine wpAny_pyNext_items_item_raw he ⟨o, hgd, hx, hdt⟩ hie fun h' ho hT hz hk => ?_
    rw [hen2] at ho hT
    refine ⟨_, rfl, wpAny_letOwnedTupleGo_items (s := { s with heap := h' }) ho fun h'' he' sb => ?_⟩
    have hT2 : h''.get? s.heap.objs.size = some { cls := .type "tuple", data := .seq #[en.key, en.val] } := (sb.2 _ (Nat.ne_of_gt hlt)).trans hT
    have new : ObjOk X.prog X.w (upd H s.heap.objs.size (.tup [.ref L[i].2.1, L[i].2.2])) h'' s.heap.objs.size (.tup [.ref L[i].2.1, L[i].2.2]) :=
      ⟨by show 2 ≤ sizeLine; decide, [en.key, en.val], .cons hkey (.cons hval .nil), ⟨_, hT2, rfl, _, rfl⟩⟩
    have I1 : Inv X pins σ (upd H s.heap.objs.size (.tup [.ref L[i].2.1, L[i].2.2])) { s with heap := h'' } :=
      I.turnedNew (t' := s.toks) (ch := [it]) (fun b ob hb e => (sb.2 b (by simpa using hb)).trans (hk b ob (by simpa using hb) e)) hf (Nat.le_refl _) new
    refine ⟨.ref s.heap.objs.size, _, I1, rfl, ⟨_, _, List.getElem?_eq_getElem hi, rfl, I.hok.fresh (Nat.le_refl _), rfl⟩, ⟨en.key, en.val, ?_⟩, fun b hb => ?_⟩
    · rw [← hsz]; exact he'
    · have e : b = it := by simpa using hb
      rw [e, upd_ne (Nat.ne_of_lt hlt)]
      exact (hf it (by simp)).1
  done := by
    intro X hP hw hK hc i pins s σ H E I hf st hg
    subst hP hw hK
    obtain ⟨hd, hi⟩ := hg
    obtain ⟨f0, f1, f2, f3, f4, f5⟩ := hf it (by simp)
    obtain ⟨hs, hgd, hx, es', ep', hdt, hsz, ent⟩ := frzX I hd
    obtain ⟨rfl, rfl⟩ := dict_ep hod hdt
    obtain ⟨ok, ov, he⟩ := st
    rw [← hsz] at he
    exact wpAny_pyNext_items_end_raw (I.ok.hd hc) he ⟨o, hgd, hx, hdt⟩ (by omega) fun h' eb => ⟨rfl, I.turned (t' := s.toks) (fun b ob hb e => eb b ob hb e) f0 f1 f3 f4 f5⟩
  self := fun A i s Q E st h => let ⟨_, _, e⟩ := st; PySem.W.kcp_self e h
end
def iXk (P : Program) (w : World) (td : TE) : TI := fun σ H R => td σ H fun x H1 => ∃ d o L, x = .ref d ∧ H1 d = some (.frz o (DX P w d L)) ∧ R (ItXk P w d o L) H1
def iXi (P : Program) (w : World) (td : TE) : TI := fun σ H R => td σ H fun x H1 => ∃ d o L, x = .ref d ∧ H1 d = some (.frz o (DX P w d L)) ∧ R (ItXi P w d o L) H1
section
variable {X : Cx} {tg e : Expr} {td : TE} {apos cpos : Pos}
theorem pi_Xk (he : PE X e td) : PI X tg e (iXk X.prog X.w td) := by
  refine ⟨fun pins s σ H R I h => ?_⟩
  refine thn (he.run pins s σ H _ I h) fun u s1 ⟨x, H1, I1, rx, d, o, L, ex, hd, q⟩ => ?_
  subst ex
  obtain rfl : u = Value.ref d := rx
  obtain ⟨hs, hgd, hx, es, ep, hdt, hsz, ent⟩ := frzX I1 hd
  refine iter_keys hs hgd hx hdt (pi_one (tk := s1.toks) I1 _ (turn_Xk _ hdt) ⟨_, Heap.get?_push_size _ rfl, rfl, ?_⟩ q)
  rw [hsz] <;> rfl
theorem pi_Xi {elts : List Expr} {kk : Nat} {tpos : Pos} (he : PE X e td) (hbase : attributeBase e "items" X.env (eval e X.env) = eval e X.env := by rfl) (hline : (apos.endLine == cpos.line) = true := by rfl) :
    PI X (.Tuple elts kk tpos) (.Call (.Attribute e "items" apos) [] [] cpos) (iXi X.prog X.w td) := by
  refine ⟨fun pins s σ H R I h => ?_⟩
  refine wpAny_Call_method (T := "dict") (id := "dict.items") hbase rfl hline F.plainAttrs_dict F.slot_dict_items F.type_dict_items (thn (he.run pins s σ H _ I h) fun u s1 ⟨x, H1, I1, rx, d, o, L, ex, hd, q⟩ => ?_)
  subst ex
  obtain rfl : u = Value.ref d := rx
  obtain ⟨hs, hgd, hx, es, ep, hdt, hsz, ent⟩ := frzX I1 hd
  have hr : s1.heap.DictRaw d es ep := ⟨o, hgd, hx, hdt⟩
  refine ⟨hr.typeIs, fun b q => (by cases q; exact ⟨o, hgd, hx.2.1⟩), ?_⟩
  have I2 : Inv X pins σ H1 { s1 with heap := s1.heap.push { cls := .type "dict_items", data := .fields #[.ref d] } } := I1.kept (t' := s1.toks) fun b ob q => Heap.get?_push_of_some _ q
  have fin : wpAny (model X.prog X.w) X.A (pyIter (.ref s1.heap.objs.size)) (PIE X pins σ (.Tuple elts kk tpos) R) X.xe { s1 with heap := s1.heap.push { cls := .type "dict_items", data := .fields #[.ref d] } } := by
    refine wpAny_pyIter_items_raw (d := d) ⟨_, Heap.get?_push_size _ rfl, rfl, rfl⟩ (hr.push _) (pi_one (tk := s1.toks) I2 _ (turn_Xi _ hdt) ⟨.none, .none, ?_⟩ q)
    rw [← hsz]
    exact Heap.get?_push_size _ rfl
  show wpAny _ _ (callWith cpos (.builtin "dict.items") [.ref d] [] []) _ X.xe s1
  exact method_meetsIn F.slot_dict_items F.entry_dict_items rfl (PySem.evalArgs_none ⟨rfl, hr.typeIs, F.args_dict_items_1 _, _, meets_dict_items_raw d hs, ⟨⟨es, ep, hr⟩, fin⟩⟩)
end
section
variable {P : Program} {w : World} {d : Addr} {o : Obj} {L : List DXE}
theorem walk_Xk : Walk (ItXk P w d o L) L.length (fun H => H d = some (.frz o (DX P w d L))) (fun i H x H' => H' = H ∧ ∃ e : DXE, L[i]? = some e ∧ x = .ref e.2.1) :=
  ⟨fun _ _ hi q => ⟨q, hi⟩, fun _ q => ⟨q, Nat.le_refl _⟩, fun _ _ _ _ _ _ y => y⟩
theorem walk_Xi : Walk (ItXi P w d o L) L.length (fun H => H d = some (.frz o (DX P w d L))) (fun i H x H' => ∃ (T : Addr) (e : DXE), L[i]? = some e ∧ x = .ref T ∧ H T = none ∧ H' = upd H T (.tup [.ref e.2.1, e.2.2])) :=
  ⟨fun _ _ hi q => ⟨q, hi⟩, fun _ q => ⟨q, Nat.le_refl _⟩, fun _ _ _ _ _ _ y => y⟩
end
/-- sorted(d): of the keys -/
def rSortedX (P : Program) (w : World) (K : PySem.W.Frag) : List V → Hp → VK → Prop := fun vs H Q => ∃ (a : Addr) (L : List DXE) (k : V → List Int) (d : Nat) (B : Int), vs = [V.ref a] ∧ H a = some (DX P w a L) ∧ 1 ≤ d ∧
  (∀ y ∈ (L.map fun e => e.2.1).map V.ref, ∃ t, y = .ref t ∧ SqT K H t (VI (k y)) ∧ (k y).length = d ∧ _root_.TS.Bd B (k y)) ∧ ∀ zs p, SrtO.Srtd (ltC B k) zs → SrtO.Stb (ltC B k) zs ((L.map fun e => e.2.1).map V.ref) → H p = none → Q (.ref p) (upd H p (.lst zs))
section
variable {X : Cx}
theorem cr_sortedX (hcalm : X.calm = true) : CallR X (.builtin "sorted") (rSortedX X.prog X.w X.K) := by
  intro pins s σ H vs us Q I r h
  obtain ⟨a, L, k, d, B, rfl, hH, hd, hx, q⟩ := h
  obtain ⟨u, rfl, ru⟩ := vals1 r
  obtain rfl : u = Value.ref a := ru
  obtain ⟨⟨z, hs, ks, pr, o, es, ep, ho, hx', hdt, he, hn⟩, _⟩ := (show ObjOk X.prog X.w H s.heap a (DX X.prog X.w a L) from I.hok a _ hH)
  have l1 : es.size = ks.length := size_of_entries he
  have l2 : L.length = ks.length := Paired.length pr
  refine Calls.call_function_entry PyProof.Rows.kind_sorted PyProof.Rows.plain_sorted PyProof.Rows.entry_sorted (PyProof.Rows.args_sorted1 _) ?_
  unfold Builtin.«sorted»
  refine wpAny_bind (m := checkCount "sorted" 1 1 _) (wpAny_pure ?_)
  refine wpAny_bind (PySem.W.kdu_collect (A := X.A.in1) (kdl_raw hs hx' hdt) (I.ok.hd hcalm) ho (by omega) fun h' tk acc hk hacc => ?_)
  have ea : acc.toList = ks.map fun x => Value.ref x.2.1 := by
    have hl : acc.toList.length = ks.length := by rw [Array.length_toList, hacc.1]; exact l1
    apply List.ext_getElem?
    intro j
    rw [List.getElem?_map]
    cases hj : acc.toList[j]? with
    | none =>
      have h1 := List.getElem?_eq_none_iff.mp hj
      rw [List.getElem?_eq_none (by omega)]
      all_goals rfl
    | some v =>
      obtain ⟨en, hen, hv⟩ := hacc.2 j v (by rw [← Array.getElem?_toList]; exact hj)
      have qe := entry_at he j
      rw [hen] at qe
      cases hb : ks[j]? with
      | none =>
        rw [hb] at qe
        exact nomatch (show some en = none from qe)
      | some b =>
        rw [hb] at qe
        have e2 : en = entryOfKey (tupleKind (intKind X.prog X.w)) b := Option.some.inj qe
        rw [hv, e2]
        all_goals rfl
  have eb : acc.toList = (L.map fun x => x.2.1).map Value.ref := by rw [ea, ← relX_addrs pr, List.map_map]; all_goals rfl
  have rv : Vals ((L.map fun x => x.2.1).map V.ref) acc.toList := by rw [eb]; exact vals_refs _
  have hal : acc.toList.length = L.length := by rw [eb, List.length_map, List.length_map]
  have hz : acc.toList.length ≤ sizeLine := by rw [hal]; exact z
  have I1 : Inv X pins σ H { s with heap := h', toks := tk } := I.kept hk
  obtain ⟨e1, e2⟩ := refs_back rv fun x m => by
    obtain ⟨t, e, _⟩ := hx x m
    exact ⟨t, e⟩
  have hin : ∀ v ∈ acc.toList, _root_.TS.TupInts h' v (k (backV v)) ∧ (k (backV v)).length = d ∧ _root_.TS.Bd B (k (backV v)) := fun v hv => by
    obtain ⟨t, rfl⟩ := e2 v hv
    have hm : V.ref t ∈ (L.map fun x => x.2.1).map V.ref := by rw [e1]; exact List.mem_map.mpr ⟨_, hv, rfl⟩
    obtain ⟨t', e, ht, l, bd⟩ := hx _ hm
    cases e
    obtain ⟨its2, r2, ⟨o, ho, hc, n, hdt⟩, _⟩ := I1.tuple ht
    exact ⟨⟨t, its2.toArray, rfl, ⟨o, ho, hc, n, hdt⟩, show PyProof.Rows.IntsAre its2.toArray.toList (k (V.ref t)) by simpa using r2.ints⟩, l, bd⟩
  refine wpAny_bind (wpAny_newList ?_ hz)
  have hoL : (h'.push (seqObj "list" acc.toList.toArray 0)).get? h'.objs.size = some (seqObj "list" acc.toList.toArray 0) := Heap.get?_push_size _ rfl
  show wpAny _ _ _ _ _ { s with heap := h'.push (seqObj "list" acc.toList.toArray 0), toks := tk }
  refine wpAny_bind (wpAny_holding (wpAny_call_entry PyProof.Rows.slot_list_sort ⟨_, hoL, rfl⟩ PyProof.Rows.entry_list_sort
    (SrtO.list_sort_ord (ltv := fun u v => ltC B k (backV u) (backV v)) ⟨fun x y => (ltC_swo B k).asym _ _, fun x y z => (ltC_swo B k).tr _ _ _⟩ hoL hz (fun h2 => tups_sortable hd h2 (fun v hv => ?_) fun v hv e => ?_) fun out h1 h2 => ⟨_, rfl, ?_⟩) (PyProof.Rows.args_list_sort _)))
  · obtain ⟨⟨b, ys, e, ⟨o, ho, r⟩, i⟩, l, bd⟩ := hin v hv
    exact ⟨⟨b, ys, e, ⟨o, Heap.get?_push_of_some _ ho, r⟩, i⟩, l, bd⟩
  · obtain ⟨⟨b, ys, e', ⟨o, ho, r⟩, i⟩, _⟩ := hin v hv
    rw [e] at e'
    cases e'
    exact absurd (Heap.lt_size ho) (Nat.lt_irrefl _)
  · have h3 : ∀ u ∈ out, ∃ a, u = Value.ref a := fun u hu => e2 u (h2.perm.mem_iff.mp hu)
    have hb : SrtO.Stb (ltC B k) (out.map backV) ((L.map fun x => x.2.1).map V.ref) := by
      rw [e1]
      exact SrtO.Stb.map (ltC_swo B k) backV h2
    obtain ⟨e', he'⟩ := PyProof.Rows.sortedHeap_at (vs := acc.toList) (out := out.toArray) hoL
    refine wpAny_pure ⟨_, rfl, .ref h'.objs.size, upd H h'.objs.size (.lst (out.map backV)), I1.laid (t' := tk) (fun b u e => ?_) (Nat.le_refl _) ⟨?_, out, e', vals_back h3, he'⟩, rfl, q _ _ (SrtO.srtd_map h1) hb (I1.hok.fresh (Nat.le_refl _))⟩
    · have hb : b < h'.objs.size := Heap.lt_size e
      rw [PyProof.Rows.sortedHeap_old (Nat.ne_of_lt hb) (by rw [size_push']; exact Nat.lt_succ_of_lt hb)]
      exact Heap.get?_push_of_some _ e
    · rw [hb.len, List.length_map, List.length_map]
      exact z
end
end Sf
namespace Sf
open PySem PySem.Spec PyProof.Rows L2
/-- by how few moves -/
def spFew (K : PySem.W.Frag) (CF CS CT : Addr) : Sp := fun vs H Q E => ∃ f v v' o, vs = [f, v, v'] ∧ FlV K H f o ∧ (o = none → E (.ref CF) none H) ∧
  ∀ w h, o = some (w, h) → ∃ o2, StV K H (w * h) v o2 ∧ (o2 = none → ∀ H', Same H H' → E (.ref CS) none H') ∧
    ∀ st, o2 = some st → ∃ o3, StV K H (w * h) v' o3 ∧ (o3 = none → ∀ H', Same H H' → E (.ref CS) none H') ∧
      ∀ st', o3 = some st' → (6 < w * h → ∀ H', Same H H' → E (.ref CT) none H') ∧ (w * h ≤ 6 → ∀ H', Same H H' → (∀ n, IsDist w h st st' n → Q (nV n) H') ∧ ((∀ n, ¬ Path w h n st st') → Q .non H'))
/-- the farthest ones -/
def spFst (K : PySem.W.Frag) (CF CS CT : Addr) : Sp := fun vs H Q E => ∃ f v o, vs = [f, v] ∧ FlV K H f o ∧ (o = none → E (.ref CF) none H) ∧
  ∀ w h, o = some (w, h) → ∃ o2, StV K H (w * h) v o2 ∧ (o2 = none → ∀ H', Same H H' → E (.ref CS) none H') ∧
    ∀ st, o2 = some st → (6 < w * h → ∀ H', Same H H' → E (.ref CT) none H') ∧ (w * h ≤ 6 → ∀ (p l : Addr) (H' : Hp) (m : Nat) (rs : List Addr) (ks : LL), H p = none → H l = none → p ≠ l → Same H H' →
      H' p = some (.tup [nV m, .ref l]) → H' l = some (.lst (rs.map V.ref)) → AtL H' rs ks → Rise ks → ks.Nodup → (∀ x, x ∈ ks ↔ IsDist w h st x m) → ks ≠ [] → (∀ x n, IsDist w h st x n → n ≤ m) → Q (.ref p) H')
/-- the law's own looking at a told pair -/
def spRightP (K : PySem.W.Frag) : Sp := fun vs H Q _ => ∃ (p q l l' : Addr) (m : Nat) (rs rs' : List Addr) (ks : LL), vs = [.ref p, .ref q] ∧ H p = some (.tup [nV m, .ref l]) ∧ H l = some (.lst (rs.map V.ref)) ∧ AtL H rs ks ∧
  H q = some (.tup [nV m, .ref l']) ∧ H l' = some (.lst (rs'.map V.ref)) ∧ AtL H rs' ks ∧ ks.length ≤ 720 ∧ ∀ H', Same H H' → Q (.bl true) H'
section
variable {K : PySem.W.Frag}
theorem few_good {CF CS CT : Addr} {f v v' : Addr} {H : Hp} {wd hg : Nat} {st st' : List Int} {Q : VK} {E : XK} (hf : SqT K H f [nV wd, nV hg]) (F : Fl wd hg) (h6 : wd * hg ≤ 6) (hs : TD H v (VI st)) (S : Std (wd * hg) st) (hs' : TD H v' (VI st')) (S' : Std (wd * hg) st')
    (k : ∀ H', Same H H' → (∀ n, IsDist wd hg st st' n → Q (nV n) H') ∧ ((∀ n, ¬ Path wd hg n st st') → Q .non H')) : spFew K CF CS CT [.ref f, .ref v, .ref v'] H Q E := by
  refine ⟨.ref f, .ref v, .ref v', some (wd, hg), rfl, .good hf F, fun z => (by cases z), fun a b e => ?_⟩
  cases e
  refine ⟨some st, .good hs S, fun z => (by cases z), fun x e => ?_⟩
  cases e
  refine ⟨some st', .good hs' S', fun z => (by cases z), fun x e => ?_⟩
  cases e
  exact ⟨fun z => absurd h6 (by omega), fun _ => k⟩
theorem fst_good {CF CS CT : Addr} {f v : Addr} {H : Hp} {wd hg : Nat} {st : List Int} {Q : VK} {E : XK} (hf : SqT K H f [nV wd, nV hg]) (F : Fl wd hg) (h6 : wd * hg ≤ 6) (hs : TD H v (VI st)) (S : Std (wd * hg) st)
    (k : ∀ (p l : Addr) (H' : Hp) (m : Nat) (rs : List Addr) (ks : LL), H p = none → H l = none → p ≠ l → Same H H' →
      H' p = some (.tup [nV m, .ref l]) → H' l = some (.lst (rs.map V.ref)) → AtL H' rs ks → Rise ks → ks.Nodup → (∀ x, x ∈ ks ↔ IsDist wd hg st x m) → ks ≠ [] → (∀ x n, IsDist wd hg st x n → n ≤ m) → Q (.ref p) H') : spFst K CF CS CT [.ref f, .ref v] H Q E := by
  refine ⟨.ref f, .ref v, some (wd, hg), rfl, .good hf F, fun z => (by cases z), fun a b e => ?_⟩
  cases e
  refine ⟨some st, .good hs S, fun z => (by cases z), fun x e => ?_⟩
  cases e
  exact ⟨fun z => absurd h6 (by omega), fun _ => k⟩
end
end Sf
namespace Sf
open PySem PySem.Spec PyProof.Rows L2
section
variable {P : Program} {w : World} {K : PySem.W.Frag} {mg : Str → Option Value} {base : Heap}
theorem call_isiK {X : Cx} {K : PySem.W.Frag} (h : X.K = K) : CallR X (.builtin "isinstance") (rIsi K) := h ▸ call_isi
theorem ok_right (T : Tx K mg) : FnD P w base CX0 2 T.d_law_right (spRightP K) := by
  have G1 : FnD P w base CX0 1 T.d_law_whole spWhole := ok_whole T
  refine T.d_law_right.F.ok sc_law_right (fun vs H Q E h => ?_) (fun cdv A outer s H vs Q E hr h => ?_)
  · obtain ⟨p, q, l, l', m, rs, rs', ks, rfl, _⟩ := h
    rfl
  · obtain ⟨p, q, l, l', m, rs, rs', ks, rfl, hp, hl, hat, hq, hl', hat', h7, k⟩ := h
    have nd := sc_law_right.nd
    have hr1 : Room 1 _ := hr.mono (by decide)
    refine ⟨_, (pss_cons (ps_if (PW.pt (pw_or (pt_not (pt_val (pe_b call_isi T.b_isinstance (pa_cons (pv 0) (pa1 (pe_ty (T := "tuple") T.b_tuple)))))) (pw_or (pt_cmpR op_ne (pe_b call_len_seq T.b_len (pa1 (pv 0))) pe_int (nomark _)) (pw_or1 (pt_not (pt_val (pe_b call_isi T.b_isinstance (pa_cons (pe_ix ix_tup (pv 0) pe_int (fun _ _ => rfl)) (pa1 (pe_ty (T := "list") T.b_list)))))))))) (pss_one (ps_ret pe_bl)) pss_nil)
      (pss_one (ps_ret (pe_and (pe_cmpR (op_eqD hr.units) (pv 0) (pv 1) (nomark _)) (pe_and (pe_d T.d_law_whole G1 hr1 pass0 (pa1 (pe_ix ix_tup (pv 0) pe_int (fun _ _ => rfl)))) (pe_one (pe_b (cr_all rfl) T.b_all (pa1 (pe_lc (own := [("_law_one", 2)]) (g := gName 2) (by rfl) nd (pi_list (pe_ix ix_tup (pv 0) pe_int (fun _ _ => rfl))) (blkOk_by (N := ["_law_found", "_law_due", "_law_one"]) (sc := defScope s_law_right) (by decide +kernel)) (fun _ _ _ _ _ => pg_name (i := 2) nd rfl (Or.inl rfl)) (fun _ _ _ _ _ => pts_nil) (fun _ _ _ _ _ => (pe_b (id := "isinstance") (call_isiK (K := K) rfl) T.b_isinstance (pa_cons (pv 2) (pa1 (pe_ty (T := "tuple") T.b_tuple)))))))))))))), ?_⟩
    refine ⟨_, rfl, _, _, _, _, true, rfl, .ty "tuple", .base (.tup hp), kit_ty (by decide +kernel), true, rfl, iteF ?_⟩
    refine ⟨_, rfl, p, _, rfl, .inr (SqT.of hp), rfl, _, rfl, iteNF rfl ?_⟩
    refine ⟨_, rfl, p, _, 1, .ref l, rfl, rfl, SqT.of hp, rfl, _, _, _, _, true, rfl, .ty "list", .base (.lst hl), kit_ty (by decide +kernel), true, rfl, iteF ?_⟩
    refine ⟨_, rfl, _, rfl, _, _, dp_pr (SqT.of hp) (SqL.of hl) hat, dp_pr (SqT.of hq) (SqL.of hl') hat', shaped_pr _ _, shaped_pr _ _, ?_⟩
    rw [eqv_pr]
    refine ⟨true, rfl, iteT ?_⟩
    refine ⟨_, rfl, p, _, 0, nV m, rfl, rfl, SqT.of hp, rfl, (m : Int), rfl, true, rfl, iteT ?_⟩
    refine ⟨_, rfl, p, _, 1, .ref l, rfl, rfl, SqT.of hp, rfl, l, rfl, ⟨_, SqL.of hl⟩, fun D nD => ?_⟩
    have lD : l ≠ D := ne_of_none hl nD
    have hlen : rs.length ≤ 720 := by rw [hat.len]; exact h7
    refine lc_list (K := K) (a := l) (xs := rs.map V.ref) (fun i H1 => Same H H1 ∧ H1 D = some (.lst ((List.replicate i true).map V.bl)))
      ⟨same_upd nD, upd_same⟩ (fun i H1 _ z => SqL.of (z.1 _ _ hl)) ?_ ?_
    · rintro i z H1 hz ⟨s1, hD1⟩
      rw [List.getElem?_map] at hz
      obtain ⟨r, hr3, rfl⟩ := Option.map_eq_some_iff.mp hz
      obtain ⟨x, hx, ht⟩ := (hat.same s1).get hr3
      obtain ⟨ob, hob, ho⟩ := ht
      have il := (List.getElem?_eq_some_iff.mp hr3).1
      refine ⟨rfl, _, rfl, _, _, _, _, true, rfl, .ty "tuple", .fTuple ho, kit_ty (by decide +kernel), ?_⟩
      refine ⟨_, hD1, ?_, same_ch nD s1, ?_⟩
      · rw [List.length_map, List.length_replicate]
        exact small1000 (by omega)
      · rw [upd_same, List.replicate_succ', List.map_append]
        rfl
    · rintro H1 ⟨s1, hD1⟩
      refine ⟨D, _, rfl, SqL.of hD1, ?_⟩
      have e : (List.replicate (List.map V.ref rs).length true).all id = true := by simp
      rw [e]
      exact k _ s1
end
end Sf
namespace Sf
open PySem PySem.Spec PyProof.Rows L2
def keyOf (H : Hp) (v : V) : List Int := match v with
  | .ref t => (match H t with | some (.frz _ (.tup xs)) => xs.map (fun x => match x with | .int i => i | _ => 0) | _ => [])
  | _ => []
theorem keyOf_at {H : Hp} {t : Addr} {ns : List Int} (h : TD H t (VI ns)) : keyOf H (.ref t) = ns := by
  obtain ⟨o, _, e⟩ := h
  show (match H t with | some (.frz _ (.tup xs)) => xs.map (fun x => match x with | .int i => i | _ => 0) | _ => []) = ns
  rw [e]
  show (ns.map V.int).map _ = ns
  rw [List.map_map]
  exact List.map_id ns
theorem bd_std {n : Nat} {ns : List Int} (S : Std n ns) (h : n ≤ 16) : _root_.TS.Bd 16 ns := fun m hm => by
  have := S.mem.mp hm
  omega
/-- places with their standings -/
abbrev LP := List (Addr × List Int)
abbrev AtP (H : Hp) (ps : LP) : Prop := ∀ e ∈ ps, TD H e.1 (VI e.2)
theorem AtP.same {H H' : Hp} {ps : LP} (s : Same H H') (a : AtP H ps) : AtP H' ps := fun e m => (a e m).same s
theorem AtP.atL {H : Hp} : ∀ {ps : LP}, AtP H ps → AtL H (ps.map (·.1)) (ps.map (·.2))
  | [], _ => .nil
  | e :: ps, h => .cons (h e List.mem_cons_self) (AtP.atL fun x m => h x (List.mem_cons_of_mem _ m))
def adr : V → Addr
  | .ref a => a
  | _ => 0
/-- the sorted list of a dict's keys -/
theorem sorted_at {H : Hp} {L : List DXE} {zs : List V} (hk : KeysT H L) (hsr : SrtO.Srtd (ltC 16 (keyOf H)) zs) (hst : SrtO.Stb (ltC 16 (keyOf H)) zs ((L.map fun e => e.2.1).map V.ref)) :
    ∃ ps : LP, zs = (ps.map (·.1)).map V.ref ∧ AtP H ps ∧ Rise (ps.map (·.2)) ∧ (ps.map (·.2)).Perm (L.map (·.1)) := by
  have hm : ∀ z ∈ zs, ∃ e ∈ L, z = .ref e.2.1 := fun z m => by
    obtain ⟨t, ht, rfl⟩ := List.mem_map.mp (hst.perm.mem_iff.mp m)
    obtain ⟨e, he, rfl⟩ := List.mem_map.mp ht
    exact ⟨e, he, rfl⟩
  refine ⟨zs.map fun z => (adr z, keyOf H z), ?_, ?_, ?_, ?_⟩
  · rw [List.map_map, List.map_map]
    have : ∀ z ∈ zs, ((V.ref ∘ (fun x => x.1)) ∘ fun z => (adr z, keyOf H z)) z = id z := fun z m => by
      obtain ⟨e, _, rfl⟩ := hm z m
      rfl
    have h2 := List.map_congr_left this
    rw [List.map_id] at h2
    exact h2.symm
  · intro e m
    obtain ⟨z, hz, rfl⟩ := List.mem_map.mp m
    obtain ⟨e, he, rfl⟩ := hm z hz
    have := hk e he
    show TD H e.2.1 (VI (keyOf H (.ref e.2.1)))
    rw [keyOf_at this]
    exact this
  · rw [List.map_map]
    show (zs.map (keyOf H)).Pairwise _
    rw [List.pairwise_map]
    exact hsr.imp fun {x y} h => by
      have := of_decide_eq_false h
      omega
  · rw [List.map_map]
    show (zs.map (keyOf H)).Perm _
    have h1 := hst.perm.map (keyOf H)
    rw [List.map_map, List.map_map] at h1
    have : ∀ e ∈ L, ((keyOf H ∘ V.ref) ∘ fun e => e.2.1) e = (fun e : DXE => e.1) e := fun e m => keyOf_at (hk e m)
    rw [List.map_congr_left this] at h1
    exact h1
/-- the dict's number of a standing -/
def dOf (L : List DXE) (x : List Int) : Nat := match valX L x with
  | some (.int i) => i.toNat
  | _ => 0
/-- what the law knows of the dict that it went by -/
structure FarL (w h : Nat) (st : List Int) (L : List DXE) : Prop where
  nd : (L.map (·.1)).Nodup
  mem : ∀ x, x ∈ L.map (·.1) ↔ Reach w h st x
  val : ∀ e ∈ L, ∃ n : Nat, e.2.2 = nV n ∧ IsDist w h st e.1 n
section
variable {w h : Nat} {st : List Int} {L : List DXE}
theorem FarL.some (A : FarL w h st L) {x : List Int} {n : Nat} (d : IsDist w h st x n) : valX L x = some (nV n) := by
  obtain ⟨e, he, hx⟩ := List.mem_map.mp ((A.mem x).mpr ⟨n, d.1⟩)
  obtain ⟨m, hm, hd⟩ := A.val e he
  have := valX_mem A.nd he
  rw [hm, hx] at this
  rw [hx] at hd
  rw [this, hd.uniq d]
theorem FarL.none (A : FarL w h st L) {x : List Int} (d : ∀ n, ¬ Path w h n st x) : valX L x = none := by
  have := valX_isSome L x
  rw [decide_eq_false (fun m => let ⟨n, p⟩ := (A.mem x).mp m; d n p)] at this
  cases q : valX L x with
  | none => rfl
  | some v => rw [q] at this; cases this
theorem FarL.dOf (A : FarL w h st L) {x : List Int} {n : Nat} (d : IsDist w h st x n) : dOf L x = n := by
  unfold Sf.dOf
  rw [A.some d]
  show ((n : Int)).toNat = n
  omega
theorem FarL.at (A : FarL w h st L) {x : List Int} (m : x ∈ L.map (·.1)) : valX L x = Option.some (nV (Sf.dOf L x)) ∧ IsDist w h st x (Sf.dOf L x) := by
  obtain ⟨n, p⟩ := (A.mem x).mp m
  obtain ⟨k, _, d⟩ := path_dist p
  rw [A.dOf d]
  exact ⟨A.some d, d⟩
end
theorem IsDist.back {w h : Nat} {a b : List Int} {n : Nat} (F : Fl w h) (S : Std (w * h) a) (d : IsDist w h a b n) : IsDist w h b a n :=
  ⟨d.1.back F S, fun m hm p => d.2 m hm (p.back F (d.1.std F S))⟩
theorem isDist_self {w h : Nat} {a : List Int} : IsDist w h a a 0 := ⟨.nil, fun m hm => by omega⟩
theorem filter_snoc {α : Type} {f : α → Bool} {ps : List α} {i : Nat} {e : α} (h : ps[i]? = some e) : (ps.take (i + 1)).filter f = (ps.take i).filter f ++ (if f e then [e] else []) := by
  rw [take_more h, List.filter_append]
  congr 1
  cases q : f e <;> simp [List.filter_cons, q]
/-- the told farthest ones are the law's -/
theorem fst_same {w h : Nat} {st : List Int} {L : List DXE} {ks' : LL} {m : Nat} {ps : LP} {e0 : Addr × List Int} (A : FarL w h st L) (F : Fl w h) (S : Std (w * h) st) (perm : (ps.map (·.2)).Perm (L.map (·.1))) (rise : Rise (ps.map (·.2))) (he0 : e0 ∈ ps)
    (hle : ∀ e ∈ ps, dOf L e.2 ≤ dOf L e0.2) (r' : Rise ks') (n' : ks'.Nodup) (mem' : ∀ x, x ∈ ks' ↔ IsDist w h st x m) (ne : ks' ≠ []) (max' : ∀ x n, IsDist w h st x n → n ≤ m) :
    m = dOf L e0.2 ∧ ks' = (ps.filter fun e => decide (dOf L e.2 = dOf L e0.2)).map (·.2) := by
  have kin : ∀ e ∈ ps, e.2 ∈ L.map (·.1) := fun e me => perm.mem_iff.mp (List.mem_map.mpr ⟨e, me, rfl⟩)
  have kout : ∀ x n, IsDist w h st x n → ∃ e ∈ ps, e.2 = x := fun x n d => by
    obtain ⟨e, me, q⟩ := List.mem_map.mp (perm.mem_iff.mpr ((A.mem x).mpr ⟨n, d.1⟩))
    exact ⟨e, me, q⟩
  have em : m = dOf L e0.2 := by
    have h1 := max' _ _ (A.at (kin e0 he0)).2
    obtain ⟨x, hx⟩ := List.exists_mem_of_ne_nil _ ne
    have dx := (mem' x).mp hx
    obtain ⟨e, me, rfl⟩ := kout x m dx
    have h2 := hle e me
    rw [A.dOf dx] at h2
    omega
  refine ⟨em, ?_⟩
  have sub : List.Sublist ((ps.filter fun e => decide (dOf L e.2 = dOf L e0.2)).map (·.2)) (ps.map (·.2)) := List.Sublist.map _ List.filter_sublist
  have fl := F.le
  refine rise_uniq (n := w * h) fl (fun x hx => ((mem' x).mp hx).1.std F S) n' (sub.nodup (perm.nodup_iff.mpr A.nd)) (fun x => ?_) r' (rise.sublist sub)
  rw [mem' x]
  constructor
  · intro d
    obtain ⟨e, me, rfl⟩ := kout x m d
    exact List.mem_map.mpr ⟨e, List.mem_filter.mpr ⟨me, decide_eq_true (by rw [A.dOf d, em])⟩, rfl⟩
  · intro hx
    obtain ⟨e, me, rfl⟩ := List.mem_map.mp hx
    obtain ⟨me, q⟩ := List.mem_filter.mp me
    have q := of_decide_eq_true q
    have := (A.at (kin e me)).2
    rw [q, ← em] at this
    exact this
end Sf
namespace Sf
open PySem PySem.Spec PyProof.Rows L2
def spLaw (K : PySem.W.Frag) : Sp := fun vs H Q _ => ∃ (a : Addr) (ns : List Int), vs = [.ref a] ∧ SqL K H a (ns.map V.int) ∧ ns.length ≤ 63 ∧ ∀ H', Q (.bl true) H'
section
variable {P : Program} {w : World} {K : PySem.W.Frag} {mg : Str → Option Value} {base : Heap}
set_option maxHeartbeats 2000000 in
theorem ok_law0 (T : Tx K mg) (G5 : FnD P w base (L2.CX P w) 6 T.d_fewest (spFew K T.c_BadFloor.C T.c_BadStanding.C T.c_TooMany.C)) (G6 : FnD P w base (L2.CX P w) 6 T.d_farthest (spFst K T.c_BadFloor.C T.c_BadStanding.C T.c_TooMany.C)) : FnD P w base CX0 9 T.d_law (spLaw K) := by
  have G1 : FnD P w base CX0 1 T.d_law_draw (spDraw K) := ok_draw T
  have G2 : FnD P w base CX0 1 T.d_law_floor (spSmall K) := ok_small T
  have G3 : FnD P w base CX0 2 T.d_law_standing (spStanding K) := ok_standing T
  have G4 : FnD P w base CX0 3 T.d_law_far (spFar P w K) := ok_far T
  have G7 : FnD P w base CX0 1 T.d_law_whole spWhole := ok_whole T
  have G8 : FnD P w base CX0 2 T.d_law_right (spRightP K) := ok_right T
  refine T.d_law.F.ok sc_law (fun vs H Q E h => ?_) (fun cdv A outer s H vs Q E hr h => ?_)
  · obtain ⟨a, ns, rfl, _⟩ := h
    rfl
  · obtain ⟨a, ns, rfl, hns, h63, k⟩ := h
    have nd := sc_law.nd
    have hu := hu_of hr
    have hr1 : Room 1 _ := hr.mono (by decide)
    have hr2 : Room 2 _ := hr.mono (by decide)
    have hr3 : Room 3 _ := hr.mono (by decide)
    have hr6 : Room 6 _ := hr.mono (by decide)
    refine ⟨_, (pss_cons (ps_set (i := 1) nd rfl (.inl rfl) (pe_d T.d_law_draw G1 hr1 pass0 (pa_cons (pv 0) (pa1 pe_int))))
      (pss_cons (ps_set (i := 2) nd rfl (.inl rfl) (pe_d T.d_law_floor G2 hr1 pass0 (pa1 (pv 1))))
      (pss_cons (ps_set (i := 3) nd rfl (.inl rfl) (pe_d T.d_law_standing G3 hr2 pass0 (pa_cons (pv 0) (pa_cons pe_int (pa1 (pv 2))))))
      (pss_cons (ps_set (i := 4) nd rfl (.inr rfl) (pe_d T.d_law_far G4 hr3 pass0 (pa_cons (pv 2) (pa1 (pv 3)))))
      (pss_cons (ps_set (i := 5) nd rfl (.inl rfl) (pe_b cr_sortedTs T.b_sorted (pa1 (pe_t (call_listX rfl) T.b_list (pa1 (pv 4))))))
      (pss_cons (ps_for PassesOwn.never rfl (pi_range1 (by rfl) T.b_range (pa1 pe_int)) (pg_name (i := 6) nd rfl (.inl rfl)) (pss_cons (ps_set (i := 7) nd rfl (.inl rfl) (pe_ix ix_list (pv 5) (pe_op op_mod (pe_d T.d_law_draw G1 hr1 pass0 (pa_cons (pv 0) (pa1 (pe_op op_add pe_int (pv 6))))) (pe_b call_len_seq T.b_len (pa1 (pv 5)))) (fun _ _ => rfl)))
      (Evl.pss_cut (ps_if (pt_cmpR op_gt (pv 6) pe_int (nomark _)) (pss_one (ps_set (i := 7) nd rfl (.inl rfl) (pe_d T.d_law_standing G3 hr2 pass0 (pa_cons (pv 0) (pa_cons (pe_op op_mul pe_int (pv 6)) (pa1 (pv 2))))))) pss_nil)
      (Evl.pss_cut (ps_set (i := 8) nd rfl (.inl rfl) (pe_d T.d_fewest G5 hr6 passL (pa_cons (pv 2) (pa_cons (pv 3) (pa1 (pv 7))))))
      (pss_cons (ps_if (PW.pt (pw_or (pt_cmpR op_ne (pv 8) (pe_dgetX hu (pv 4) (pv 7) ⟨rfl, rfl, rfl, rfl⟩) (nomark _)) (pw_or1 (PW.pt (pw_and (pt_cmpR op_notN (pv 8) pe_non (nomark _)) (pw_and1 (pt_not (pt_val (pe_d T.d_law_whole G7 hr1 pass0 (pa1 (pv 8))))))))))) (pss_one (ps_ret pe_bl)) pss_nil)
      (pss_one (ps_if (pt_cmpR op_ne (pe_d T.d_fewest G5 hr6 passL (pa_cons (pv 2) (pa_cons (pv 7) (pa1 (pv 3))))) (pv 8) (nomark _)) (pss_one (ps_ret pe_bl)) pss_nil)))))))
      (pss_cons (ps_set (i := 9) nd rfl (.inr rfl) (pe_b (cr_max rfl) T.b_max (pa1 (pe_lc (own := [("_law_one", 11)]) (g := gName 11) (by rfl) nd (pi_list (pv 5)) (blkOk_by (N := ["_law_script", "_law_number", "_law_floor_here", "_law_first", "_law_far_here", "_law_some", "_law_k", "_law_other", "_law_found", "_law_most", "_law_due", "_law_one"]) (sc := defScope s_law) (by decide +kernel)) (fun _ _ _ _ _ => pg_name (i := 11) nd rfl (Or.inl rfl)) (fun _ _ _ _ _ => pts_nil) (fun _ _ _ _ _ => (pe_getXb (P := P) (w := w) (K := K) rfl rfl rfl hu (pv 4) (pv 11) (fun _ _ => rfl)))))))
      (pss_cons (ps_set (i := 10) nd rfl (.inl rfl) (pe_tup (pa_cons (pv 9) (pa1 (pe_lc (own := [("_law_one", 11)]) (g := gName 11) (by rfl) nd (pi_list (pv 5)) (blkOk_by (N := ["_law_script", "_law_number", "_law_floor_here", "_law_first", "_law_far_here", "_law_some", "_law_k", "_law_other", "_law_found", "_law_most", "_law_due", "_law_one"]) (sc := defScope s_law) (by decide +kernel)) (fun _ _ _ _ _ => pg_name (i := 11) nd rfl (Or.inl rfl)) (fun _ _ _ _ _ => pts_one (pt_cmpR op_eq (pe_getXb (P := P) (w := w) (K := K) rfl rfl rfl hu (pv 4) (pv 11) (fun _ _ => rfl)) (pv 9) (nomark _))) (fun _ _ _ _ _ => (pv 11)))))))
      (pss_cons (ps_set (i := 8) nd rfl (.inl rfl) (pe_d T.d_farthest G6 hr6 passL (pa_cons (pv 2) (pa1 (pv 3)))))
      (pss_cons (ps_if (pt_not (pt_val (pe_d T.d_law_right G8 hr2 pass0 (pa_cons (pv 8) (pa1 (pv 10)))))) (pss_one (ps_ret pe_bl)) pss_nil)
      (pss_cons (ps_expr (pe_bm PySem.F.plainAttrs_list PySem.F.slot_list_append PySem.F.type_list_append mt_append (pe_ix ix_tup (pv 8) pe_int (fun _ _ => rfl)) (pa1 pe_str)))
      (pss_one (ps_ret (pe_and (pe_d T.d_law_right G8 hr2 pass0 (pa_cons (pe_d T.d_farthest G6 hr6 passL (pa_cons (pv 2) (pa1 (pv 3)))) (pa1 (pv 10)))) (pe_one (pe_cmpR op_eq (pe_d T.d_fewest G5 hr6 passL (pa_cons (pv 2) (pa_cons (pv 3) (pa1 (pv 3))))) pe_int (nomark _))))))))))))))))), ?_⟩
    refine ⟨_, rfl, a, ns, 0, rfl, hns, by decide, by decide, fun n0 H1 _ s1 => ?_⟩
    refine ⟨_, rfl, n0, rfl, fun f wd hg H2 nf M s2 hf => ?_⟩
    have F := M.F
    have h6 := M.le
    have s12 := s1.trans s2
    refine ⟨_, rfl, _, rfl, a, f, ns, 1, wd, hg, rfl, Same.seq s12 hns, by decide, by decide, hf, F, fun b st H3 nb S s3 hb => ?_⟩
    have s13 := s12.trans s3
    have hf3 := sm_tup s3 hf
    refine ⟨_, rfl, _, rfl, f, b, wd, hg, st, rfl, hf3, F, h6, hb, S, fun d H4 L t nd4 s4 hd hk hkeys hend hval => ?_⟩
    have s14 := s13.trans s4
    have hf4 := sm_tup s4 hf3
    have hb4 := hb.same s4
    have A : FarL wd hg st L := ⟨by rw [hkeys]; exact (layr_facts t).1, fun x => by rw [hkeys]; exact layr_end hend x, hval⟩
    have kstd : ∀ x ∈ L.map (·.1), Std (wd * hg) x := fun x m => let ⟨n, p⟩ := (A.mem x).mp m; p.std F S
    have hpos : 0 < L.length := by
      have := List.length_pos_of_mem ((A.mem st).mpr ⟨0, .nil⟩)
      rw [List.length_map] at this
      exact this
    have hL7 : L.length ≤ 720 := by
      have := std_le h6 A.nd kstd
      rw [List.length_map] at this
      exact this
    refine ⟨_, rfl, d, L, rfl, hd, fun p np => ?_⟩
    have sp : Same H4 (upd H4 p (.lst ((L.map fun e => e.2.1).map V.ref))) := same_upd np
    have hkp := hk.same sp
    refine ⟨p, _, keyOf (upd H4 p (.lst ((L.map fun e => e.2.1).map V.ref))), wd * hg, 16, rfl, sql_upd, F.pos, fun y hy => ?_, fun zs q hsr hst nq => ?_⟩
    · obtain ⟨t', ht', rfl⟩ := List.mem_map.mp hy
      obtain ⟨e, he, rfl⟩ := List.mem_map.mp ht'
      have hX := kstd e.1 (List.mem_map.mpr ⟨e, he, rfl⟩)
      have hT := hkp e he
      refine ⟨e.2.1, rfl, ?_, ?_, ?_⟩
      · rw [keyOf_at hT]; exact hT.sq
      · rw [keyOf_at hT]; exact hX.len
      · rw [keyOf_at hT]; exact bd_std hX (by omega)
    obtain ⟨ps, ezs, hps, hrise, hperm⟩ := sorted_at hkp hsr hst
    subst ezs
    have sq := same_upd (o := .lst ((ps.map (·.1)).map V.ref)) nq
    have s46 := sp.trans sq
    have hq6 : (upd (upd H4 p (.lst ((L.map fun e => e.2.1).map V.ref))) q (.lst ((ps.map (·.1)).map V.ref))) q = some (.lst ((ps.map (·.1)).map V.ref)) := upd_same
    have hps6 := hps.same sq
    have hd6 := s46 _ _ hd
    have hk6 := hk.same s46
    have s16 := s14.trans s46
    have hf6 := sm_tup s46 hf4
    have hb6 := hb4.same s46
    generalize (upd (upd H4 p (.lst ((L.map fun e => e.2.1).map V.ref))) q (.lst ((ps.map (·.1)).map V.ref))) = H6 at hq6 hps6 hd6 hk6 s16 hf6 hb6 ⊢
    have knd : (ps.map (·.2)).Nodup := hperm.nodup_iff.mpr A.nd
    have kmem : ∀ x, x ∈ ps.map (·.2) ↔ x ∈ L.map (·.1) := fun x => hperm.mem_iff
    have psl : ps.length = L.length := by
      have := hperm.length_eq
      rw [List.length_map, List.length_map] at this
      exact this
    refine ⟨6, rfl, by decide, by decide, ?_⟩
    refine for_range (lo := 0) (n := 6) (fun i σ H7 => Same H6 H7 ∧ ∃ (u1 u2 u3 : Option V), σ = [some (.ref a), some (nV n0), some (.ref f), some (.ref b), some (.ref d), some (.ref q), u1, u2, u3, none, none, none])
      ⟨Same.refl _, none, none, none, rfl⟩ ?_ ?_
    · rintro i σ H7 hi ⟨s7, u1, u2, u3, rfl⟩
      have s17 := s16.trans s7
      refine ⟨_, rfl, _, rfl, _, rfl, _, _, rfl, rfl, a, ns, 70 + (0 + (i : Int)), rfl, Same.seq s17 hns, by omega, by omega, fun n1 H8 _ s8 => ?_⟩
      have s78 := s7.trans s8
      have hq8 := s78 _ _ hq6
      have hps8 := hps6.same s78
      refine ⟨_, rfl, q, _, rfl, .inl (SqL.of hq8), ?_⟩
      have hl8 : ((ps.map (·.1)).map V.ref).length = L.length := by rw [List.length_map, List.length_map, psl]
      refine ⟨_, _, rfl, rfl, (by rw [hl8]; omega), ?_⟩
      have hlt : n1 % L.length < ps.length := by rw [psl]; exact Nat.mod_lt _ hpos
      refine ⟨q, _, _, .ref (ps[n1 % L.length]).1, rfl, rfl, SqL.of hq8, at_of (j := n1 % L.length) (by rw [hl8]; rfl) (by rw [List.getElem?_map, List.getElem?_map, List.getElem?_eq_getElem hlt]; rfl), ?_⟩
      have hin := List.getElem_mem hlt
      refine ⟨fun σ H9 => Same H6 H9 ∧ ∃ (o : Addr) (x : List Int), σ = [some (.ref a), some (nV n0), some (.ref f), some (.ref b), some (.ref d), some (.ref q), some (.int (0 + (i : Int))), some (.ref o), u3, none, none, none] ∧ TD H9 o (VI x) ∧ Std (wd * hg) x, ?_, ?_⟩
      · refine ⟨_, rfl, _, _, rfl, rfl, _, rfl, ?_⟩
        refine ite2 (fun _ => ?_) fun _ => ⟨s78, _, _, rfl, hps8 _ hin, kstd _ ((kmem _).mp (List.mem_map.mpr ⟨_, hin, rfl⟩))⟩
        refine ⟨_, rfl, _, rfl, _, _, rfl, rfl, .inl ⟨by decide, by decide⟩, _, rfl, a, f, ns, 10 * (0 + (i : Int)), wd, hg, rfl, Same.seq (s16.trans s78) hns, by omega, by omega, sm_tup s78 hf6, F, fun o x H9 no X s9 ho => ?_⟩
        exact ⟨s78.trans s9, o, x, rfl, ho, X⟩
      · rintro σ H9 ⟨s9, o, x, rfl, ho, X⟩
        have hf9 := sm_tup s9 hf6
        have hb9 := hb6.same s9
        refine ⟨fun σ H10 => Same H9 H10 ∧ ∃ fv : V, σ = [some (.ref a), some (nV n0), some (.ref f), some (.ref b), some (.ref d), some (.ref q), some (.int (0 + (i : Int))), some (.ref o), some fv, none, none, none] ∧ ((∃ n, fv = nV n ∧ IsDist wd hg st x n) ∨ (fv = .non ∧ ∀ n, ¬ Path wd hg n st x)), ?_, ?_⟩
        · refine ⟨_, rfl, _, rfl, _, rfl, ?_⟩
          dsimp only [tNil]
          refine few_good hf9 F h6 hb9 S ho X fun H10 s10 => ⟨fun n dn => ?_, fun no => ?_⟩
          · exact ⟨s10, nV n, rfl, .inl ⟨n, rfl, dn⟩⟩
          · exact ⟨s10, .non, rfl, .inr ⟨rfl, no⟩⟩
        · rintro σ H10 ⟨s10, fv, rfl, hfv⟩
          have s610 := s9.trans s10
          have hd10 := s610 _ _ hd6
          have hk10 := hk6.same s610
          have ho10 := ho.same s10
          have hf10 := sm_tup s10 hf9
          have hb10 := hb9.same s10
          rcases hfv with ⟨n, rfl, dn⟩ | ⟨rfl, no⟩
          · refine ⟨_, rfl, _, rfl, ⟨d, L, rfl, hd10, hk10.at⟩, _, rfl, L, x, ⟨d, o, rfl, rfl, hd10, hk10.at, ho10.sq⟩, ?_⟩
            rw [A.some dn]
            refine ⟨rfl, _, rfl, iteNF rfl ?_⟩
            refine ⟨_, rfl, rfl, _, rfl, iteNT (fun z => nomatch z) ?_⟩
            refine ⟨_, rfl, (n : Int), rfl, true, rfl, ?_⟩
            refine iteF ?_
            refine ⟨_, rfl, _, rfl, _, rfl, ?_⟩
            dsimp only [tNil]
            refine few_good hf10 F h6 ho10 X hb10 S fun H11 s11 => ⟨fun m dm => ?_, fun no => absurd (dn.1.back F S) (no n)⟩
            have e : m = n := dm.uniq (dn.back F S)
            subst e
            refine ⟨_, rfl, rfl, _, rfl, iteNF rfl ?_⟩
            exact ⟨s610.trans s11, _, _, _, rfl⟩
          · refine ⟨_, rfl, _, rfl, ⟨d, L, rfl, hd10, hk10.at⟩, _, rfl, L, x, ⟨d, o, rfl, rfl, hd10, hk10.at, ho10.sq⟩, ?_⟩
            rw [A.none no]
            refine ⟨rfl, _, rfl, iteNF rfl ?_⟩
            refine ⟨_, rfl, rfl, _, rfl, iteNF rfl ?_⟩
            refine iteF ?_
            refine ⟨_, rfl, _, rfl, _, rfl, ?_⟩
            dsimp only [tNil]
            refine few_good hf10 F h6 ho10 X hb10 S fun H11 s11 => ⟨fun m dm => absurd (dm.1.back F X) (no m), fun _ => ?_⟩
            refine ⟨_, rfl, rfl, _, rfl, iteNF rfl ?_⟩
            exact ⟨s610.trans s11, _, _, _, rfl⟩
    · rintro σ H7 ⟨s7, u1, u2, u3, rfl⟩
      have hq7 := s7 _ _ hq6
      have kv : ∀ e ∈ ps, valX L e.2 = some (nV (dOf L e.2)) := fun e m => (A.at ((kmem _).mp (List.mem_map.mpr ⟨e, m, rfl⟩))).1
      refine ⟨_, rfl, q, rfl, ⟨_, SqL.of hq7⟩, fun D nD => ?_⟩
      have getp : ∀ {i : Nat} {z : V}, ((ps.map (·.1)).map V.ref)[i]? = some z → ∃ e, ps[i]? = some e ∧ e ∈ ps ∧ z = .ref e.1 := fun {i z} hz => by
        rw [List.map_map, List.getElem?_map] at hz
        obtain ⟨e, he, rfl⟩ := Option.map_eq_some_iff.mp hz
        exact ⟨e, he, List.mem_of_getElem? he, rfl⟩
      refine lc_list (K := K) (a := q) (xs := (ps.map (·.1)).map V.ref) (fun i H8 => Same H7 H8 ∧ H8 D = some (.lst ((ps.take i).map fun e => nV (dOf L e.2))))
        ⟨same_upd nD, upd_same⟩ (fun i H8 _ z => SqL.of (z.1 _ _ hq7)) ?_ ?_
      · rintro i z H8 hz ⟨s8, hD8⟩
        obtain ⟨e, he, hm, rfl⟩ := getp hz
        have s78 := s7.trans s8
        refine ⟨rfl, _, rfl, _, rfl, L, e.2, _, ⟨d, e.1, rfl, rfl, s78 _ _ hd6, (hk6.same s78).at, (hps6.same s78 e hm).sq⟩, kv e hm, ?_⟩
        have il := (List.getElem?_eq_some_iff.mp he).1
        refine ⟨_, hD8, ?_, same_ch nD s8, ?_⟩
        · rw [List.length_map, List.length_take]
          exact small1000 (by omega)
        · rw [upd_same, take_more he, List.map_append]
          rfl
      · rintro H8 ⟨s8, hD8⟩
        have e1 : ((ps.take ((ps.map (·.1)).map V.ref).length).map fun e => nV (dOf L e.2)) = (ps.map fun e => ((dOf L e.2 : Nat) : Int)).map V.int := by
          rw [List.length_map, List.length_map, List.take_length, List.map_map]
          rfl
        rw [e1] at hD8
        refine ⟨D, _, rfl, SqL.of hD8, (by rw [List.length_map]; omega), fun mm hm hle => ?_⟩
        obtain ⟨e0, he0, rfl⟩ := List.mem_map.mp hm
        have hle' : ∀ e ∈ ps, dOf L e.2 ≤ dOf L e0.2 := fun e me => by
          have := hle _ (List.mem_map.mpr ⟨e, me, rfl⟩)
          omega
        have s78 := s7.trans s8
        refine ⟨_, rfl, _, rfl, q, rfl, ⟨_, SqL.of (s78 _ _ hq6)⟩, fun D2 nD2 => ?_⟩
        refine lc_list (K := K) (a := q) (xs := (ps.map (·.1)).map V.ref) (fun i H9 => Same H8 H9 ∧ H9 D2 = some (.lst ((((ps.take i).filter fun e => decide (dOf L e.2 = dOf L e0.2)).map (·.1)).map V.ref)))
          ⟨same_upd nD2, upd_same⟩ (fun i H9 _ z => SqL.of ((s78.trans z.1) _ _ hq6)) ?_ ?_
        · rintro i z H9 hz ⟨s9, hD9⟩
          obtain ⟨e, he, hm, rfl⟩ := getp hz
          have s79 := s78.trans s9
          have fs := filter_snoc (f := fun e : Addr × List Int => decide (dOf L e.2 = dOf L e0.2)) he
          have il := (List.getElem?_eq_some_iff.mp he).1
          refine ⟨rfl, _, rfl, _, rfl, L, e.2, _, ⟨d, e.1, rfl, rfl, s79 _ _ hd6, (hk6.same s79).at, (hps6.same s79 e hm).sq⟩, kv e hm, _, rfl, rfl, _, rfl, ?_⟩
          by_cases hh : dOf L e.2 = dOf L e0.2
          · refine iteDT (by rw [hh]) ?_
            refine ⟨_, rfl, _, hD9, ?_, same_ch nD2 s9, ?_⟩
            · have := List.length_filter_le (fun e : Addr × List Int => decide (dOf L e.2 = dOf L e0.2)) (ps.take i)
              rw [List.length_take] at this
              rw [List.length_map, List.length_map]
              exact small1000 (by omega)
            · rw [upd_same, fs, decide_eq_true hh, List.map_append, List.map_append]
              rfl
          · refine iteDF (fun z => hh (by have z : V.int ((dOf L e.2 : Nat) : Int) = V.int ((dOf L e0.2 : Nat) : Int) := z; injection z with z; omega)) ⟨s9, ?_⟩
            rw [fs, decide_eq_false hh]
            simp only [Bool.false_eq_true, if_false, List.append_nil]
            exact hD9
        · rintro H9 ⟨s9, hD9⟩
          rw [List.length_map, List.length_map, List.take_length] at hD9
          refine ⟨(by show 2 ≤ sizeLine; decide), fun tp ntp => ?_⟩
          have sT := same_upd (o := .tup [V.int ((dOf L e0.2 : Nat) : Int), .ref D2]) ntp
          have hD10 := sT _ _ hD9
          have htp : (upd H9 tp (.tup [V.int ((dOf L e0.2 : Nat) : Int), .ref D2])) tp = some (.tup [nV (dOf L e0.2), .ref D2]) := upd_same
          have s610 := (s78.trans s9).trans sT
          have hps10 := hps6.same s610
          have hf10 := sm_tup s610 hf6
          have hb10 := hb6.same s610
          generalize (upd H9 tp (.tup [V.int ((dOf L e0.2 : Nat) : Int), .ref D2])) = H10 at hD10 htp s610 hps10 hf10 hb10 ⊢
          have flen : ((ps.filter fun e => decide (dOf L e.2 = dOf L e0.2)).map (·.2)).length ≤ 720 := by
            have := List.length_filter_le (fun e : Addr × List Int => decide (dOf L e.2 = dOf L e0.2)) ps
            rw [List.length_map]
            omega
          refine ⟨_, rfl, _, rfl, ?_⟩
          dsimp only [tNil]
          refine fst_good hf10 F h6 hb10 S fun pp l H11 m rs' ks' npp nl npl s11 hpp hl hat hri hnd hmem hne hmax => ?_
          obtain ⟨em, ek⟩ := fst_same A F S hperm hrise he0 hle' hri hnd hmem hne hmax
          subst em
          subst ek
          have hfil : ∀ {H' : Hp}, Same H10 H' → AtL H' ((ps.filter fun e => decide (dOf L e.2 = dOf L e0.2)).map (·.1)) ((ps.filter fun e => decide (dOf L e.2 = dOf L e0.2)).map (·.2)) := fun s => AtP.atL fun e me => hps10.same s e ((List.mem_filter.mp me).1)
          refine ⟨_, rfl, _, rfl, pp, tp, l, D2, _, rs', _, _, rfl, hpp, hl, hat, s11 _ _ htp, s11 _ _ hD10, hfil s11, flen, fun H12 s12 => ?_⟩
          refine ⟨true, rfl, ?_⟩
          refine iteF ?_
          have hl12 := s12 _ _ hl
          have rl : rs'.length ≤ 720 := by rw [hat.len]; exact flen
          refine ⟨_, rfl, pp, _, 1, .ref l, rfl, rfl, SqT.of (s12 _ _ hpp), rfl, .inl ⟨rfl, _, SqL.of hl12⟩, l, _, _, rfl, rfl, hl12, (by rw [List.length_map]; exact small1000 (by omega)), ?_⟩
          have s10c := same_ch (o := .lst (rs'.map V.ref ++ [.str "more"])) nl (s11.trans s12)
          refine ⟨_, rfl, _, rfl, ?_⟩
          dsimp only [tNil]
          refine fst_good (sm_tup s10c hf10) F h6 (hb10.same s10c) S fun p2 l2 H13 m2 rs2 ks2 np2 nl2 npl2 s13 hp2 hl2 hat2 hri2 hnd2 hmem2 hne2 hmax2 => ?_
          obtain ⟨em, ek⟩ := fst_same A F S hperm hrise he0 hle' hri2 hnd2 hmem2 hne2 hmax2
          subst em
          subst ek
          have s1013 := s10c.trans s13
          refine ⟨_, rfl, p2, tp, l2, D2, _, rs2, _, _, rfl, hp2, hl2, hat2, s1013 _ _ htp, s1013 _ _ hD10, hfil s1013, flen, fun H14 s14 => ?_⟩
          refine ⟨true, rfl, iteT ?_⟩
          have s1014 := s1013.trans s14
          refine ⟨_, rfl, _, rfl, _, rfl, ?_⟩
          dsimp only [tNil]
          refine few_good (sm_tup s1014 hf10) F h6 (hb10.same s1014) S (hb10.same s1014) S fun H15 s15 => ⟨fun n dn => ?_, fun no => absurd .nil (no 0)⟩
          have e : n = 0 := dn.uniq isDist_self
          subst e
          refine ⟨rfl, ?_⟩
          exact k _
end
end Sf
namespace Sf
/-! ### where the empty place goes on, and the parity of ways -/
def goM (w h : Nat) (fl : List Int) (e : Nat) (ds : List Dir) : List (Dir × Nat) := ds.filterMap fun d => match tgt w h e d with
  | some t => if (t : Int) ∈ fl then none else some (d, t)
  | none => none
theorem goM_mem {w h e t : Nat} {fl : List Int} {d : Dir} {ds : List Dir} : (d, t) ∈ goM w h fl e ds ↔ d ∈ ds ∧ tgt w h e d = some t ∧ (t : Int) ∉ fl := by
  unfold goM
  rw [List.mem_filterMap]
  constructor
  · rintro ⟨d', m, q⟩
    cases ht : tgt w h e d' with
    | none => rw [ht] at q; cases q
    | some t' =>
      rw [ht] at q
      dsimp only at q
      by_cases f : (t' : Int) ∈ fl
      · rw [if_pos f] at q; cases q
      · rw [if_neg f] at q
        cases q
        exact ⟨m, ht, f⟩
  · rintro ⟨m, ht, f⟩
    exact ⟨d, m, by rw [ht]; exact if_neg f⟩
theorem goM_take {w h e j : Nat} {fl : List Int} {d : Dir} {ds : List Dir} (hd : ds[j]? = some d) : goM w h fl e (ds.take (j + 1)) = goM w h fl e (ds.take j) ++ (match tgt w h e d with
  | some t => if (t : Int) ∈ fl then [] else [(d, t)]
  | none => []) := by
  unfold goM
  rw [List.take_succ, hd, List.filterMap_append]
  congr 1
  show List.filterMap _ [d] = _
  rw [List.filterMap_cons]
  cases ht : tgt w h e d with
  | none => rfl
  | some t =>
    by_cases f : (t : Int) ∈ fl
    · simp [f]
    · simp [f]
theorem goM_len {w h e : Nat} {fl : List Int} {ds : List Dir} : (goM w h fl e ds).length ≤ ds.length := List.length_filterMap_le _ _
def par (w : Nat) (st : List Int) : Nat := (zat st % w + zat st / w) % 2
section
variable {w h : Nat}
theorem step_par {st st' : List Int} {d : Dir} (F : Fl w h) (S : Std (w * h) st) (hs : step w h st d = some st') : par w st' = (par w st + 1) % 2 := by
  obtain ⟨t, ht, rfl⟩ := step_some hs
  have hz := S.zat_lt F.pos
  obtain ⟨a, b, c, _⟩ := tgt_facts F.w1 hz ht
  unfold par
  rw [S.zat_swap F.pos a b]
  omega
theorem Path.par {n : Nat} {a b : List Int} (F : Fl w h) (S : Std (w * h) a) (p : Path w h n a b) : par w b = (par w a + n) % 2 := by
  induction p with
  | nil => unfold Sf.par; omega
  | snoc p e ih =>
    rw [step_par F (p.std F S) e, ih S]
    omega
theorem Path.one {a b : List Int} {d : Dir} (e : step w h a d = some b) : Path w h 1 a b := .snoc .nil e
/-- a neighbour of what is n away -/
theorem dist_step {s x y : List Int} {n : Nat} {d : Dir} (F : Fl w h) (S : Std (w * h) s) (hd : IsDist w h s x n) (e : step w h x d = some y) : IsDist w h s y (n + 1) ∨ ∃ m, m + 1 = n ∧ IsDist w h s y m := by
  have X := hd.1.std F S
  obtain ⟨m, hm, dm⟩ := path_dist (hd.1.snoc e)
  have back := dm.1.snoc (step_back F X e)
  have hn : n ≤ m + 1 := by
    by_cases q : n ≤ m + 1
    · exact q
    · exact absurd back (hd.2 (m + 1) (by omega))
  have p1 := dm.1.par F S
  have p2 := (hd.1.snoc e).par F S
  by_cases q : m = n + 1
  · exact .inl (q ▸ dm)
  · refine .inr ⟨m, by omega, dm⟩
theorem dist_prev {s y : List Int} {n : Nat} (hd : IsDist w h s y (n + 1)) : ∃ x d, IsDist w h s x n ∧ step w h x d = some y := by
  obtain ⟨p, k⟩ := hd
  cases p with
  | @snoc _ _ x _ d p e =>
    refine ⟨x, d, ⟨p, fun m hm q => ?_⟩, e⟩
    exact k (m + 1) (by omega) (q.snoc e)
theorem path_split {n m : Nat} {a c : List Int} (p : Path w h (n + m) a c) : ∃ b, Path w h n a b ∧ Path w h m b c := by
  induction m generalizing c with
  | zero => exact ⟨c, p, .nil⟩
  | succ m ih =>
    cases p with
    | snoc p e =>
      obtain ⟨b, p1, p2⟩ := ih p
      exact ⟨b, p1, p2.snoc e⟩
/-- what lies on a shortest way -/
theorem dist_mid {n m : Nat} {a c : List Int} (F : Fl w h) (A : Std (w * h) a) (hd : IsDist w h a c (n + m)) : ∃ b, IsDist w h a b n ∧ IsDist w h c b m := by
  obtain ⟨b, p1, p2⟩ := path_split hd.1
  have B := p1.std F A
  refine ⟨b, ⟨p1, fun k hk q => ?_⟩, ⟨p2.back F B, fun k hk q => ?_⟩⟩
  · exact hd.2 (k + m) (by omega) (q.app p2)
  · exact hd.2 (n + k) (by omega) (p1.app (q.back F (hd.1.std F A)))
theorem dist_meet {n m k : Nat} {a b c : List Int} (F : Fl w h) (A : Std (w * h) a) (C : Std (w * h) c) (h1 : IsDist w h a b n) (h2 : IsDist w h c b m) (hd : IsDist w h a c k) : k ≤ n + m := by
  by_cases q : k ≤ n + m
  · exact q
  · exact absurd (h1.1.app (h2.1.back F C)) (hd.2 (n + m) (by omega))
end
end Sf
namespace Sf
open PySem PySem.Spec PyProof.Rows L2
/-! ### layers -/
section
variable {w h : Nat}
structure Lay (w h : Nat) (s : List Int) (n : Nat) (L : List DXE) : Prop where
  nd : (L.map (·.1)).Nodup
  mem : ∀ x, x ∈ L.map (·.1) ↔ IsDist w h s x n
  val : ∀ e ∈ L, e.2.2 = nV (zat e.1)
/-- the layer before, if there is one -/
def Bef (w h : Nat) (s : List Int) (n : Nat) (B : List DXE) : Prop := ∀ x, x ∈ B.map (·.1) ↔ ∃ m, m + 1 = n ∧ IsDist w h s x m
theorem Lay.bef {s : List Int} {n : Nat} {L : List DXE} (l : Lay w h s n L) : Bef w h s (n + 1) L := fun x => by
  rw [l.mem x]
  exact ⟨fun d => ⟨n, rfl, d⟩, fun ⟨m, e, d⟩ => (show m = n by omega) ▸ d⟩
theorem bef_nil {s : List Int} : Bef w h s 0 [] := fun x => ⟨fun m => (nomatch m), fun ⟨m, e, _⟩ => by omega⟩
theorem lay_first {s : List Int} {b : Addr} : Lay w h s 0 [(s, b, nV (zat s))] := by
  refine ⟨List.nodup_cons.mpr ⟨by simp, List.nodup_nil⟩, fun x => ?_, fun e m => by rw [List.mem_singleton.mp m]⟩
  show x ∈ [s] ↔ _
  rw [List.mem_singleton]
  exact ⟨fun e => e ▸ ⟨.nil, fun m hm => by omega⟩, fun d => by cases d.1; rfl⟩
theorem Lay.std {s : List Int} {n : Nat} {L : List DXE} (l : Lay w h s n L) (F : Fl w h) (S : Std (w * h) s) : ∀ x ∈ L.map (·.1), Std (w * h) x := fun x m => ((l.mem x).mp m).1.std F S
theorem Lay.len {s : List Int} {n : Nat} {L : List DXE} (l : Lay w h s n L) (F : Fl w h) (h6 : w * h ≤ 6) (S : Std (w * h) s) : L.length ≤ 720 := by
  have := std_le h6 l.nd (l.std F S)
  rw [List.length_map] at this
  exact this
/-- the next layer while it grows -/
structure Grow (w h : Nat) (s : List Int) (n : Nat) (R : List DXE) : Prop where
  nd : (R.map (·.1)).Nodup
  far : ∀ e ∈ R, IsDist w h s e.1 (n + 1) ∧ e.2.2 = nV (zat e.1)
theorem putX_keys {L : List DXE} {k : List Int} {b : Addr} {v : V} : (putX L k b v).map (·.1) = if k ∈ L.map (·.1) then L.map (·.1) else L.map (·.1) ++ [k] := by
  unfold putX
  rw [valX_isSome]
  by_cases m : k ∈ L.map (·.1)
  · rw [if_pos m, if_pos (decide_eq_true m), List.map_map]
    refine List.map_congr_left fun e _ => ?_
    show (if e.1 = k then (e.1, e.2.1, v) else e).1 = e.1
    by_cases q : e.1 = k
    · rw [if_pos q]
    · rw [if_neg q]
  · rw [if_neg m, if_neg (by rw [decide_eq_false m]; exact Bool.false_ne_true), List.map_append]
    rfl
theorem putX_mem {L : List DXE} {k : List Int} {b : Addr} {v : V} {e : DXE} (m : e ∈ putX L k b v) : (e.1 = k ∧ e.2.2 = v ∧ (e.2.1 = b ∨ ∃ e' ∈ L, e'.1 = e.1 ∧ e'.2.1 = e.2.1)) ∨ e ∈ L := by
  unfold putX at m
  by_cases q : (valX L k).isSome = true
  · rw [if_pos q] at m
    obtain ⟨e', m', rfl⟩ := List.mem_map.mp m
    by_cases z : e'.1 = k
    · rw [if_pos z]
      exact .inl ⟨z, rfl, .inr ⟨e', m', rfl, rfl⟩⟩
    · rw [if_neg z]
      exact .inr m'
  · rw [if_neg q] at m
    rcases List.mem_append.mp m with m | m
    · exact .inr m
    · rw [List.mem_singleton.mp m]
      exact .inl ⟨rfl, rfl, .inl rfl⟩
theorem Grow.put {s y : List Int} {n : Nat} {R : List DXE} {b : Addr} (g : Grow w h s n R) (d : IsDist w h s y (n + 1)) : Grow w h s n (putX R y b (nV (zat y))) := by
  refine ⟨?_, fun e m => ?_⟩
  · rw [putX_keys]
    by_cases m : y ∈ R.map (·.1)
    · rw [if_pos m]; exact g.nd
    · rw [if_neg m]
      exact List.nodup_append.mpr ⟨g.nd, List.nodup_cons.mpr ⟨by simp, List.nodup_nil⟩, fun a ha c hc e => m (by rw [List.mem_singleton.mp hc] at e; exact e ▸ ha)⟩
  · rcases putX_mem m with ⟨e1, e2, _⟩ | m
    · exact ⟨e1 ▸ d, by rw [e2, e1]⟩
    · exact g.far e m
theorem putX_in {L : List DXE} {k x : List Int} {b : Addr} {v : V} : x ∈ (putX L k b v).map (·.1) ↔ x ∈ L.map (·.1) ∨ x = k := by
  rw [putX_keys]
  by_cases m : k ∈ L.map (·.1)
  · rw [if_pos m]
    exact ⟨.inl, fun q => q.elim id fun e => e ▸ m⟩
  · rw [if_neg m, List.mem_append, List.mem_singleton]
theorem Grow.len {s : List Int} {n : Nat} {R : List DXE} (g : Grow w h s n R) (F : Fl w h) (h6 : w * h ≤ 6) (S : Std (w * h) s) : R.length ≤ 720 := by
  have := std_le h6 g.nd fun x m => by
    obtain ⟨e, me, rfl⟩ := List.mem_map.mp m
    exact (g.far e me).1.1.std F S
  rw [List.length_map] at this
  exact this
/-- all that the layer's neighbours are is in -/
theorem Grow.lay {s : List Int} {n : Nat} {L R : List DXE} (l : Lay w h s n L) (g : Grow w h s n R) (all : ∀ x ∈ L.map (·.1), ∀ d y, step w h x d = some y → IsDist w h s y (n + 1) → y ∈ R.map (·.1)) : Lay w h s (n + 1) R := by
  refine ⟨g.nd, fun y => ⟨fun m => ?_, fun d => ?_⟩, fun e m => (g.far e m).2⟩
  · obtain ⟨e, me, rfl⟩ := List.mem_map.mp m
    exact (g.far e me).1
  · obtain ⟨x, dd, dx, e⟩ := dist_prev d
    exact all x ((l.mem x).mpr dx) dd y e d
/-- all layers up to one that isn't empty are not empty -/
theorem lay_pos {s x : List Int} {n : Nat} (d : IsDist w h s x n) : ∀ m, m ≤ n → ∃ y, IsDist w h s y m := by
  induction n generalizing x with
  | zero => intro m hm; exact ⟨x, (show m = 0 by omega) ▸ d⟩
  | succ n ih =>
    intro m hm
    by_cases q : m = n + 1
    · exact ⟨x, q ▸ d⟩
    · obtain ⟨x', _, dx, _⟩ := dist_prev d
      exact ih dx m (by omega)
theorem dist_720 {s x : List Int} {n : Nat} (F : Fl w h) (h6 : w * h ≤ 6) (S : Std (w * h) s) (d : IsDist w h s x n) : n < 720 := by
  have key : ∀ n x, IsDist w h s x n → ∃ l : LL, l.Nodup ∧ l.length = n + 1 ∧ ∀ y ∈ l, ∃ m, m ≤ n ∧ IsDist w h s y m := by
    intro n
    induction n with
    | zero => intro x d; exact ⟨[x], List.nodup_cons.mpr ⟨by simp, List.nodup_nil⟩, rfl, fun y m => ⟨0, Nat.le_refl _, by rw [List.mem_singleton.mp m]; exact d⟩⟩
    | succ n ih =>
      intro x d
      obtain ⟨x', _, dx, _⟩ := dist_prev d
      obtain ⟨l, nd, e, k⟩ := ih x' dx
      refine ⟨x :: l, List.nodup_cons.mpr ⟨fun m => ?_, nd⟩, by rw [List.length_cons, e], fun y m => ?_⟩
      · obtain ⟨m', hm, dm⟩ := k x m
        have := dm.uniq d
        omega
      · rcases List.mem_cons.mp m with q | q
        · exact ⟨n + 1, Nat.le_refl _, q ▸ d⟩
        · obtain ⟨m', hm, dm⟩ := k y q
          exact ⟨m', by omega, dm⟩
  obtain ⟨l, nd, e, k⟩ := key n x d
  have := std_le h6 nd fun y m => let ⟨_, _, dm⟩ := k y m; dm.1.std F S
  omega
end
end Sf
namespace Sf
open PySem PySem.Spec PyProof.Rows L2
/-! ### where the empty place goes on, as it stands in memory -/
abbrev GoL (H : Hp) : List Addr → List (Dir × Nat) → Prop := Paired fun t p => H t = some (.tup [.str (dS p.1), nV p.2])
def GoE (H : Hp) (kvs : List (Key × V)) (w h : Nat) (fl : List Int) (e : Nat) (l : Addr) : Prop := valV kvs (Sum.inl (e : Int)) = some (.ref l) ∧ ∃ ts : List Addr, H l = some (.lst (ts.map V.ref)) ∧ GoL H ts (goM w h fl e dirs)
def GoAt (H : Hp) (g : Addr) (w h : Nat) (fl : List Int) : Prop := ∃ kvs : List (Key × V), H g = some (.dK kvs) ∧ ∀ e, e < w * h → ∃ l, GoE H kvs w h fl e l
theorem GoL.same {H H' : Hp} {ts : List Addr} {gs : List (Dir × Nat)} (s : Same H H') (g : GoL H ts gs) : GoL H' ts gs := Paired.mapP g fun _ _ e => s _ _ e
theorem GoE.same {H H' : Hp} {kvs : List (Key × V)} {w h e : Nat} {fl : List Int} {l : Addr} (s : Same H H') (g : GoE H kvs w h fl e l) : GoE H' kvs w h fl e l := let ⟨a, ts, b, c⟩ := g; ⟨a, ts, s _ _ b, c.same s⟩
theorem GoAt.same {H H' : Hp} {g : Addr} {w h : Nat} {fl : List Int} (s : Same H H') (a : GoAt H g w h fl) : GoAt H' g w h fl := let ⟨kvs, b, c⟩ := a; ⟨kvs, s _ _ b, fun e he => let ⟨l, d⟩ := c e he; ⟨l, d.same s⟩⟩
theorem GoL.upd {H : Hp} {ts : List Addr} {gs : List (Dir × Nat)} {b : Addr} {o u : HO} (hb : H b = some u) (nt : ∀ xs, u ≠ .tup xs) (g : GoL H ts gs) : GoL (L2.upd H b o) ts gs := Paired.mapP g fun t _ e => by
  rw [upd_ne (ne_of e hb (fun q => nt _ q.symm))]
  exact e
theorem GoE.upd {H : Hp} {kvs : List (Key × V)} {w h e : Nat} {fl : List Int} {l b : Addr} {o u : HO} (hb : H b = some u) (nt : ∀ xs, u ≠ .tup xs) (nl : l ≠ b) (g : GoE H kvs w h fl e l) : GoE (L2.upd H b o) kvs w h fl e l := let ⟨a, ts, b', c⟩ := g; ⟨a, ts, by rw [upd_ne nl]; exact b', c.upd hb nt⟩
theorem GoE.put {H : Hp} {kvs : List (Key × V)} {w h e i : Nat} {fl : List Int} {l : Addr} {v : V} (n : e ≠ i) (g : GoE H kvs w h fl e l) : GoE H (putK kvs (Sum.inl (i : Int)) v) w h fl e l := by
  obtain ⟨a, b⟩ := g
  refine ⟨?_, b⟩
  rw [valV_put, if_neg (fun q => n (by have := Sum.inl.inj q; omega))]
  exact a
theorem GoE.ne {H : Hp} {kvs : List (Key × V)} {w h e : Nat} {fl : List Int} {l p : Addr} (g : GoE H kvs w h fl e l) (n : H p = none) : l ≠ p := let ⟨_, _, b, _⟩ := g; ne_of_none b n
theorem inV_VI (i : Int) (ns : List Int) : inV (.int i) (VI ns) = decide (i ∈ ns) := by
  unfold inV
  induction ns with
  | nil => rfl
  | cons n ns ih =>
    show ((eqV (.int n) (.int i)) || (VI ns).any fun y => eqV y (.int i)) = _
    rw [ih]
    show ((n == i) || decide (i ∈ ns)) = _
    by_cases q : n = i
    · subst q; simp
    · have q' : ¬ i = n := fun z => q z.symm
      simp [q, q']
theorem flat_VI (ns : List Int) : (VI ns).all flatV = true := List.all_eq_true.mpr fun x hx => by
  obtain ⟨n, _, rfl⟩ := List.mem_map.mp hx
  rfl
theorem notTup_lst {ys : List V} : ∀ xs, HO.lst ys ≠ .tup xs := fun _ q => nomatch q
theorem notTup_dK {ys : List (Key × V)} : ∀ xs, HO.dK ys ≠ .tup xs := fun _ q => nomatch q
def spGoes (K : PySem.W.Frag) : Sp := fun vs H Q _ => ∃ (f l : Addr) (w h : Nat) (fl : List Int), vs = [.ref f, .ref l] ∧ SqT K H f [nV w, nV h] ∧ Fl w h ∧ SqL K H l (VI fl) ∧
  ∀ (g : Addr) (H' : Hp), H g = none → Same H H' → GoAt H' g w h fl → Q (.ref g) H'
section
variable {P : Program} {w : World} {K : PySem.W.Frag} {mg : Str → Option Value} {base : Heap}
set_option maxHeartbeats 1000000 in
theorem ok_empty_goes (T : Tx K mg) (S : TS K w.params mg) : FnD P w base CX0 3 T.d_empty_goes (spGoes K) := by
  have G1 : FnD P w base CX0 1 T.d_count_places (spCount K) := ok_count_places T
  have G2 : FnD P w base CX0 2 T.d_tile_place (spTP K) := ok_tile_place T S
  refine T.d_empty_goes.F.ok sc_empty_goes (fun vs H Q E h => ?_) (fun cdv A outer s H vs Q E hr h => ?_)
  · obtain ⟨f, l, x, y, fl, rfl, _⟩ := h
    rfl
  · obtain ⟨f, l, wd, hg, fl, rfl, hf, F, hl, k⟩ := h
    have nd := sc_empty_goes.nd
    have hu := hu_of hr
    have hr1 : Room 1 _ := hr.mono (by decide)
    have F16 := F.le
    refine ⟨_, (pss_cons (ps_set (i := 2) nd rfl (.inl rfl) (pe_dnewK))
      (pss_cons (ps_for PassesOwn.never rfl (pi_range1 (by rfl) T.b_range (pa1 (pe_d T.d_count_places G1 hr1 pass0 (pa1 (pv 0))))) (pg_name (i := 3) nd rfl (.inl rfl)) (pss_cons (ps_dput hu (pv 2) (pv 3) (pe_lst pa_nil) rfl)
      (pss_one (ps_for PassesOwn.never rfl (pi_ktab S.tab (pe_ts S)) (pg_name (i := 4) nd rfl (.inl rfl)) (pss_cons (ps_set (i := 5) nd rfl (.inl rfl) (pe_d T.d_tile_place G2 hr pass0 (pa_cons (pv 0) (pa_cons (pv 3) (pa1 (pv 4))))))
      (pss_one (ps_if (PW.pt (pw_and (pt_cmpR op_notN (pv 5) pe_non (nomark _)) (pw_and1 (pt_cmpR op_notIn_seq (pv 5) (pv 1) (by rfl))))) (pss_one (ps_expr (pe_bm PySem.F.plainAttrs_list PySem.F.slot_list_append PySem.F.type_list_append mt_append (pe_dget hu (pv 2) (pv 3) (fun _ _ => rfl)) (pa1 (pe_tup (pa_cons (pv 4) (pa1 (pv 5)))))))) pss_nil)))))))
      (pss_one (ps_ret (pv 2))))), ?_⟩
    refine fun g ng => ⟨_, rfl, f, wd, hg, rfl, sm_tup (same_upd ng) hf, F.w4, F.h4, ?_⟩
    have y0 : Same H (upd H g (.dK [])) := same_upd ng
    refine ⟨((wd * hg : Nat) : Int), rfl, by omega, by omega, ?_⟩
    refine for_range (lo := 0) (n := wd * hg) (fun i σ H1 => Same H H1 ∧ ∃ (kvs : List (Key × V)) (u3 u4 u5 : Option V), σ = [some (.ref f), some (.ref l), some (.ref g), u3, u4, u5] ∧ H1 g = some (.dK kvs) ∧ kvs.length ≤ i ∧ ∀ e, e < i → ∃ l, GoE H1 kvs wd hg fl e l)
      ⟨y0, [], none, none, none, rfl, upd_same, Nat.le_refl _, fun e he => (by omega)⟩ ?_ ?_
    · rintro i σ H1 hi ⟨s1, kvs, u3, u4, u5, rfl, hg1, hlen, hgo⟩
      rw [Int.zero_add]
      refine ⟨(by show 0 ≤ sizeLine; decide), fun li nli => ?_⟩
      have s2 : Same H (upd H1 li (.lst [])) := sm_upd s1 nli
      have ngl : g ≠ li := ne_of_none hg1 nli
      have hg2 : (upd H1 li (.lst [])) g = some (.dK kvs) := by rw [upd_ne ngl]; exact hg1
      refine ⟨_, rfl, _, rfl, g, _, rfl, DPut.k (k := Sum.inl (i : Int)) hg2 (small1000 (by omega)), ?_⟩
      have nlig : li ≠ g := Ne.symm ngl
      let PJ : Nat → L2.St → Hp → Prop := fun j σ H3 => Same H H3 ∧ ∃ (kvs' : List (Key × V)) (ts : List Addr) (u4 u5 : Option V), σ = [some (.ref f), some (.ref l), some (.ref g), some (nV i), u4, u5] ∧ H3 g = some (.dK kvs') ∧ kvs'.length ≤ i + 1 ∧
        valV kvs' (Sum.inl (i : Int)) = some (.ref li) ∧ H3 li = some (.lst (ts.map V.ref)) ∧ GoL H3 ts (goM wd hg fl i (dirs.take j)) ∧ ∀ e, e < i → ∃ l, l ≠ li ∧ GoE H3 kvs' wd hg fl e l
      refine ⟨rfl, for_ktab PJ ⟨same_ch ng s2, putK kvs (Sum.inl (i : Int)) (.ref li), [], u4, u5, rfl, upd_same, ?_, ?_, ?_, .nil, fun e he => ?_⟩ ?_ ?_⟩
      · have := length_putK kvs (Sum.inl (i : Int)) (.ref li)
        omega
      · rw [valV_put, if_pos rfl]
      · rw [upd_ne nlig, upd_same]
        rfl
      · obtain ⟨l', hl'⟩ := hgo e he
        have n1 := hl'.ne nli
        have n2 : l' ≠ g := fun q => by
          obtain ⟨_, _, b, _⟩ := hl'
          rw [q, hg1] at b
          cases b
        exact ⟨l', n1, ((hl'.same (same_upd nli)).upd hg2 notTup_dK n2).put (by omega)⟩
      · rintro j kk vv σ H3 hk ⟨s3, kvs', ts, u4, u5, rfl, hg3, hlen3, hv3, hli3, hgl3, hgo3⟩
        obtain ⟨d, hd, rfl⟩ := ts_key hk
        have gt := goM_take (w := wd) (h := hg) (e := i) (fl := fl) hd
        refine ⟨_, rfl, _, rfl, _, rfl, f, i, d, wd, hg, rfl, sm_tup s3 hf, F, hi, fun hn H4 s4 => ?_, fun t ht H4 s4 => ?_⟩
        · refine ⟨_, rfl, rfl, _, rfl, ?_⟩
          refine iteNF rfl ⟨s3.trans s4, kvs', ts, _, _, rfl, s4 _ _ hg3, hlen3, hv3, s4 _ _ hli3, ?_, fun e he => let ⟨l', a, b⟩ := hgo3 e he; ⟨l', a, b.same s4⟩⟩
          rw [gt, hn]
          show GoL H4 ts (_ ++ [])
          rw [List.append_nil]
          exact hgl3.same s4
        · refine ⟨_, rfl, rfl, _, rfl, ?_⟩
          have s34 := s3.trans s4
          have hg4 := s4 _ _ hg3
          have hli4 := s4 _ _ hli3
          rw [ht] at gt
          refine iteNT (fun q => by cases q) ⟨_, rfl, _, rfl, l, VI fl, rfl, .inl (Same.seq s34 hl), rfl, flat_VI fl, ?_⟩
          show ∃ k, V.bl (if true = true then !inV (.int (t : Int)) (VI fl) else inV (.int (t : Int)) (VI fl)) = .bl k ∧ _
          rw [if_pos rfl, inV_VI]
          refine ⟨_, rfl, iteN2 (fun q => ?_) fun q => ?_⟩
          · have q := of_decide_eq_false q
            dsimp only at gt
            rw [if_neg q] at gt
            refine ⟨_, rfl, _, rfl, g, .ref li, rfl, hv3 ▸ DGet.k (k := Sum.inl (i : Int)) hg4, .inl ⟨rfl, _, SqL.of hli4⟩, _, rfl, _, rfl, (by show 2 ≤ sizeLine; decide), fun tt ntt => ?_⟩
            have s5 : Same H4 (upd H4 tt (.tup [.str (dS d), nV t])) := same_upd ntt
            have hli5 := s5 _ _ hli4
            have hg5 := s5 _ _ hg4
            have tl : ts.length ≤ 4 := by
              have e1 : ts.length = _ := Paired.length hgl3
              have e2 := goM_len (w := wd) (h := hg) (e := i) (fl := fl) (ds := dirs.take j)
              have e3 : (dirs.take j).length ≤ 4 := by rw [List.length_take]; exact Nat.min_le_right _ _
              omega
            refine ⟨li, _, _, rfl, rfl, hli5, (by rw [List.length_map]; exact small1000 (by omega)), ?_⟩
            have nli0 : H li = none := by
              cases q : H li with
              | none => rfl
              | some u => rw [s1 _ _ q] at nli; cases nli
            refine ⟨same_ch nli0 (s34.trans s5), kvs', ts ++ [tt], _, _, rfl, ?_, hlen3, hv3, ?_, ?_, fun e he => ?_⟩
            · rw [upd_ne ngl]; exact hg5
            · rw [upd_same, List.map_append]
              rfl
            · rw [gt]
              refine Paired.snoc ((hgl3.same (s4.trans s5)).upd hli5 notTup_lst) ?_
              rw [upd_ne (fun q => by rw [q, hli4] at ntt; cases ntt), upd_same]
            · obtain ⟨l', a, b⟩ := hgo3 e he
              exact ⟨l', a, (b.same (s4.trans s5)).upd hli5 notTup_lst a⟩
          · have q := of_decide_eq_true q
            dsimp only at gt
            rw [if_pos q, List.append_nil] at gt
            refine ⟨s34, kvs', ts, _, _, rfl, hg4, hlen3, hv3, hli4, ?_, fun e he => let ⟨l', a, b⟩ := hgo3 e he; ⟨l', a, b.same s4⟩⟩
            rw [gt]
            exact hgl3.same s4
      · rintro σ H3 ⟨s3, kvs', ts, u4, u5, rfl, hg3, hlen3, hv3, hli3, hgl3, hgo3⟩
        refine ⟨s3, kvs', _, _, _, rfl, hg3, hlen3, fun e he => ?_⟩
        by_cases q : e = i
        · subst q
          exact ⟨li, hv3, ts, hli3, hgl3⟩
        · obtain ⟨l', _, b⟩ := hgo3 e (by omega)
          exact ⟨l', b⟩
    · rintro σ H1 ⟨s1, kvs, u3, u4, u5, rfl, hg1, hlen, hgo⟩
      exact ⟨_, rfl, k g H1 ng s1 ⟨kvs, hg1, hgo⟩⟩
end
end Sf
namespace Sf
open PySem PySem.Spec PyProof.Rows L2
/-! ### layers, as the program makes them -/
theorem GoAt.updX {P : Program} {W : World} {H : Hp} {g b : Addr} {w h : Nat} {fl : List Int} {L : List DXE} {o : HO} (hb : H b = some (DX P W b L)) (a : GoAt H g w h fl) : GoAt (L2.upd H b o) g w h fl := by
  have n1 : ∀ {c : Addr} {u : HO}, H c = some u → (∀ f, u ≠ .ext f) → c ≠ b := fun {c u} hc hn q => by
    rw [q, hb] at hc
    unfold DX at hc
    exact hn _ (Option.some.inj hc).symm
  obtain ⟨kvs, hg, k⟩ := a
  refine ⟨kvs, by rw [upd_ne (n1 hg fun f q => nomatch q)]; exact hg, fun e he => ?_⟩
  obtain ⟨l, v, ts, hl, gl⟩ := k e he
  exact ⟨l, v, ts, by rw [upd_ne (n1 hl fun f q => nomatch q)]; exact hl, gl.upd hb fun xs q => by unfold DX at q; cases q⟩
theorem set_setV {st : List Int} {z t : Nat} (hz : st.getD z 0 = 0) : ((VI st).set z (.int (st.getD t 0))).set t (.int 0) = VI (swapAt st z t) := by
  rw [VI_set, VI_set]
  unfold swapAt
  rw [hz]
def spFirst (P : Program) (W : World) (K : PySem.W.Frag) : Sp := fun vs H Q _ => ∃ (b : Addr) (n : Nat) (st : List Int), vs = [.ref b] ∧ TD H b (VI st) ∧ Std n st ∧ 0 < n ∧
  ∀ (d : Addr) (H' : Hp), H d = none → Same H H' → H' d = some (DX P W d [(st, b, nV (zat st))]) → Q (.ref d) H'
def spNext (P : Program) (W : World) (K : PySem.W.Frag) : Sp := fun vs H Q _ => ∃ (g l b : Addr) (w h n : Nat) (s : List Int) (L B : List DXE), vs = [.ref g, .ref l, .ref b] ∧ GoAt H g w h [] ∧ Fl w h ∧ w * h ≤ 6 ∧ Std (w * h) s ∧
  H l = some (DX P W l L) ∧ KeysT H L ∧ Lay w h s n L ∧ H b = some (DX P W b B) ∧ KeysT H B ∧ Bef w h s n B ∧ l ≠ b ∧
  ∀ (d : Addr) (H' : Hp) (R : List DXE), H d = none → Same H H' → H' d = some (DX P W d R) → KeysT H' R → Lay w h s (n + 1) R → Q (.ref d) H'
def spFewPl (K : PySem.W.Frag) (CT : Addr) : Sp := fun vs H Q E => ∃ (f : Addr) (w h : Nat), vs = [.ref f] ∧ SqT K H f [nV w, nV h] ∧ Fl w h ∧ (6 < w * h → E (.ref CT) none H) ∧ (w * h ≤ 6 → Q .non H)
section
variable {P : Program} {w : World} {K : PySem.W.Frag} {mg : Str → Option Value} {base : Heap}
theorem ok_need_few (T : Tx K mg) : FnD P w base (L2.CX P w) 2 T.d_need_few_places (spFewPl K T.c_TooMany.C) := by
  have G1 : FnD P w base CX0 1 T.d_count_places (spCount K) := ok_count_places T
  refine T.d_need_few_places.F.okX sc_need_few_places (fun vs H Q E h => ?_) (fun cdv A outer s H vs Q E hr h => ?_)
  · obtain ⟨f, x, y, rfl, _⟩ := h
    rfl
  · obtain ⟨f, wd, hg, rfl, hf, F, kb, kg⟩ := h
    have nd := sc_need_few_places.nd
    obtain ⟨t3, k3⟩ := T.k_MOST_PLACES
    refine ⟨_, pss_one (ps_if (pt_cmpR op_gt (pe_d T.d_count_places G1 hr pass0 (pa1 (pv 0))) (pe_k k3) (nomark _))
        (pss_one (ps_raise rfl (takes_of rfl rfl rfl rfl) (SkE.pmk_own1 PySem.F.excBase_ValueError T.c_TooMany.xi T.c_TooMany.g T.c_TooMany.k (raises_own T.c_TooMany.sb T.c_TooMany.ty) rfl (pe_joined (.cons pe_str (.cons (pe_fmt (pe_k k3)) (.cons pe_str .nil))))))) pss_nil), ?_⟩
    refine ⟨_, rfl, f, wd, hg, rfl, hf, F.w4, F.h4, _, _, rfl, rfl, _, rfl, ?_⟩
    by_cases q : 6 < wd * hg
    · refine iteDT (by omega) ?_
      refine ⟨_, rfl, ?_, .inr ⟨6, rfl, by decide, _, rfl, ?_, _, rfl, ?_, ?_⟩⟩
      · decide
      · decide
      · decide
      · exact kb q
    · refine iteDF (by omega) ?_
      exact kg (by omega)
theorem ok_first_layer (T : Tx K mg) : FnD P w base CX0 1 T.d_first_layer (spFirst P w K) := by
  refine T.d_first_layer.F.ok sc_first_layer (fun vs H Q E h => ?_) (fun cdv A outer s H vs Q E hr h => ?_)
  · obtain ⟨b, n, st, rfl, _⟩ := h
    rfl
  · obtain ⟨b, n, st, rfl, hb, S, hn, k⟩ := h
    refine ⟨_, pss_one (ps_ret (pe_disp1 hr.units0 (pv 0) (pe_tix (pv 0) (pa1 pe_int)))), ?_⟩
    have z1 := idx_first (S.zero hn)
    refine fun d ndd => ⟨_, rfl, _, rfl, ?_⟩
    have s1 : Same H (upd H d (.dK [])) := same_upd ndd
    refine ⟨⟨b, _, rfl, hb.same s1⟩, b, st, 0, zat st, rfl, rfl, (hb.same s1).sq, z1.2.1, z1.2.2, upd_same, b, st, rfl, (hb.same s1).sq, ?_⟩
    rw [upd_upd]
    exact k d _ ndd (same_upd ndd) upd_same
set_option maxHeartbeats 2000000 in
theorem ok_next_layer (T : Tx K mg) : FnD P w base CX0 1 T.d_next_layer (spNext P w K) := by
  refine T.d_next_layer.F.ok sc_next_layer (fun vs H Q E h => ?_) (fun cdv A outer s H vs Q E hr h => ?_)
  · obtain ⟨g, l, b, x, y, n, st, L, B, rfl, _⟩ := h
    rfl
  · obtain ⟨g, l, b, wd, hg, n, st, L, B, rfl, hgo, F, h6, S, hl, hkL, lay, hb, hkB, bef, nlb, k⟩ := h
    have nd := sc_next_layer.nd
    have hu := hu_of hr
    refine ⟨_, (pss_cons (ps_set (i := 3) nd rfl (.inl rfl) (pe_dnewX))
      (pss_cons (ps_lock (ps_for PassesOwn.never rfl (pi_Xi (pv 1)) (pg_tup rfl (pgs_cons (pg_name (i := 4) nd rfl (.inl rfl)) (pgs_cons (pg_name (i := 5) nd rfl (.inl rfl)) pgs_nil))) (pss_one (ps_for PassesOwn.never rfl (pi_list (pe_dget hu (pv 0) (pv 5) (fun _ _ => rfl))) (pg_tup rfl (pgs_cons (pg_name (i := 6) nd rfl (.inl rfl)) (pgs_cons (pg_name (i := 7) nd rfl (.inl rfl)) pgs_nil))) (pss_cons (ps_set (i := 8) nd rfl (.inl rfl) (pe_t call_list_of T.b_list (pa1 (pv 4))))
      (pss_cons (ps_asg (pe_ix ix_list (pv 8) (pv 7) (fun _ _ => rfl)) (pg_sub (pv 8) (pv 5) set_list))
      (pss_cons (ps_asg pe_int (pg_sub (pv 8) (pv 7) set_list))
      (pss_cons (ps_set (i := 9) nd rfl (.inl rfl) (pe_t cr_tupD T.b_tuple (pa1 (pv 8))))
      (pss_one (ps_if (pt_cmpR (op_notInX hu) (pv 9) (pv 2) (by rfl)) (pss_one (ps_asg (pv 7) (pg_sub (pv 3) (pv 9) (set_dictX hu)))) pss_nil))))))))))
      (pss_one (ps_ret (pv 3))))), ?_⟩
    refine fun d ndd => ?_
    have dl : d ≠ l := fun q => by rw [← q, ndd] at hl; cases hl
    have hl1 : (upd H d (DX P w d [])) l = some (DX P w l L) := by rw [upd_ne (Ne.symm dl)]; exact hl
    refine ⟨l, _, hl1, True.intro, fun od => ?_⟩
    -- the heap as it stands while the layer is walked
    have hbl : ∀ c u, c ≠ l → H c = some u → (upd H l (.frz od (DX P w l L))) c = some u := fun c u n e => by rw [upd_ne n]; exact e
    have ndb : (upd H l (.frz od (DX P w l L))) d = none := by rw [upd_ne dl]; exact ndd
    have hgob : GoAt (upd H l (.frz od (DX P w l L))) g wd hg [] := hgo.updX hl
    have hkLb : KeysT (upd H l (.frz od (DX P w l L))) L := hkL.updN notT_dx hl
    have hkBb : KeysT (upd H l (.frz od (DX P w l L))) B := hkB.updN notT_dx hl
    have hbb : (upd H l (.frz od (DX P w l L))) b = some (DX P w b B) := hbl _ _ (Ne.symm nlb) hb
    have hlb : (upd H l (.frz od (DX P w l L))) l = some (.frz od (DX P w l L)) := upd_same
    have hst0 : Same (upd H l (.frz od (DX P w l L))) (upd (upd H d (DX P w d [])) l (.frz od (DX P w l L))) := fun c u e => by
      by_cases q : c = l
      · rw [q, upd_same] at e ⊢
        exact e
      · rw [upd_ne q] at e ⊢
        rw [upd_ne (ne_of_none e ndd)]
        exact e
    have back : ∀ {H3 : Hp}, Same (upd H l (.frz od (DX P w l L))) H3 → Same H (upd H3 l (DX P w l L)) := fun {H3} s c u e => by
      by_cases q : c = l
      · rw [q, upd_same, ← hl, ← q]
        exact e
      · rw [upd_ne q]
        exact s c u (hbl c u q e)
    generalize hHb : (upd H l (.frz od (DX P w l L))) = Hb at *
    clear hHb hbl
    have lstd := lay.std F S
    let Done : Nat → List DXE → Prop := fun i R => ∀ e ∈ L.take i, ∀ dd y, step wd hg e.1 dd = some y → IsDist wd hg st y (n + 1) → y ∈ R.map (·.1)
    let PI : Nat → L2.St → Hp → Prop := fun i σ H3 => Same Hb H3 ∧ ∃ (R : List DXE) (u4 u5 u6 u7 u8 u9 : Option V), σ = [some (.ref g), some (.ref l), some (.ref b), some (.ref d), u4, u5, u6, u7, u8, u9] ∧ H3 d = some (DX P w d R) ∧ KeysT H3 R ∧ Grow wd hg st n R ∧ Done i R
    refine ⟨_, rfl, l, od, L, rfl, upd_same, for_it walk_Xi PI ⟨hst0, [], none, none, none, none, none, none, rfl, ?_, (fun e m => nomatch m), ⟨List.nodup_nil, fun e m => nomatch m⟩, fun e m => (by simp at m)⟩ (fun i σ H3 _ p => p.1 _ _ hlb) ?_ ?_⟩
    · rw [upd_ne dl, upd_same]
      rfl
    · rintro i x σ H3 H4 hi ⟨s3, R, u4, u5, u6, u7, u8, u9, rfl, hd3, hkR3, gr, dn⟩ ⟨tp, e, he, rfl, ntp, rfl⟩
      have em := List.mem_of_getElem? he
      have ek : e.1 ∈ L.map (·.1) := List.mem_map.mpr ⟨e, em, rfl⟩
      have eS := lstd _ ek
      have ed := (lay.mem e.1).mp ek
      have ev := lay.val e em
      have s4 : Same H3 (upd H3 tp (.tup [.ref e.2.1, e.2.2])) := same_upd ntp
      refine ⟨tp, _, rfl, sqt_upd, rfl, _, _, rfl, _, _, rfl, rfl, ?_⟩
      have s34 := s3.trans s4
      have hd4 := s4 _ _ hd3
      have hkR4 := hkR3.same s4
      generalize (upd H3 tp (.tup [.ref e.2.1, e.2.2])) = H4 at s34 hd4 hkR4 ⊢
      clear s4 s3 hd3 hkR3 ntp
      obtain ⟨kvs, hgk, hge⟩ := hgob
      have zl := eS.zat_lt F.pos
      obtain ⟨li, hv, ts, hli, hgl⟩ := hge (zat e.1) zl
      refine ⟨_, rfl, _, rfl, g, .ref li, rfl, ?_, li, rfl, ⟨_, SqL.of (s34 _ _ hli)⟩, ?_⟩
      · rw [ev]
        exact hv ▸ DGet.k (k := Sum.inl ((zat e.1 : Nat) : Int)) (s34 _ _ hgk)
      let PJ : Nat → L2.St → Hp → Prop := fun j σ H5 => Same Hb H5 ∧ ∃ (R : List DXE) (u6 u7 u8 u9 : Option V), σ = [some (.ref g), some (.ref l), some (.ref b), some (.ref d), some (.ref e.2.1), some (nV (zat e.1)), u6, u7, u8, u9] ∧ H5 d = some (DX P w d R) ∧ KeysT H5 R ∧ Grow wd hg st n R ∧ Done i R ∧
        ∀ p ∈ (goM wd hg [] (zat e.1) dirs).take j, IsDist wd hg st (swapAt e.1 (zat e.1) p.2) (n + 1) → swapAt e.1 (zat e.1) p.2 ∈ R.map (·.1)
      refine for_list (K := K) (a := li) (xs := ts.map V.ref) PJ ⟨s34, R, u6, u7, u8, u9, by rw [ev]; rfl, hd4, hkR4, gr, dn, fun p m => (by simp at m)⟩ (fun j σ H5 _ p => SqL.of (p.1 _ _ hli)) ?_ ?_
      · rintro j x σ H5 hx ⟨s5, R, u6, u7, u8, u9, rfl, hd5, hkR5, gr, dn, dj⟩
        obtain ⟨tt, htt, rfl⟩ : ∃ tt, ts[j]? = some tt ∧ x = .ref tt := by
          rw [List.getElem?_map] at hx
          cases q : ts[j]? with
          | none => rw [q] at hx; cases hx
          | some r => rw [q] at hx; exact ⟨r, rfl, (Option.some.inj hx).symm⟩
        obtain ⟨⟨dd, t⟩, hp, hq⟩ := paired_get hgl htt
        have hq5 := s5 _ _ hq
        refine ⟨tt, _, rfl, SqT.of hq5, rfl, _, _, rfl, _, _, rfl, rfl, ?_⟩
        have mg := goM_mem.mp (List.mem_of_getElem? hp)
        have ht := mg.2.1
        have tf := tgt_facts F.w1 zl ht
        have hstep : step wd hg e.1 dd = some (swapAt e.1 (zat e.1) t) := by
          unfold step
          rw [ht]
          rfl
        have zy := eS.zat_swap F.pos tf.1 tf.2.1
        have hle := eS.len
        have htd : TD H5 e.2.1 (VI e.1) := (hkLb e em).same s5
        refine ⟨_, rfl, e.2.1, _, rfl, .inr htd.sq, fun nl nnl => ?_⟩
        refine ⟨_, rfl, _, rfl, nl, VI e.1, _, .int (e.1.getD t 0), rfl, rfl, sql_upd, at_of (j := t) rfl (by rw [List.getElem?_map, getD_some (by omega)]; rfl), _, rfl, _, rfl, nl, VI e.1, _, zat e.1, rfl, rfl, upd_same, ixN_at rfl (by rw [List.length_map]; omega), ?_⟩
        refine ⟨_, rfl, _, rfl, nl, _, _, t, rfl, rfl, upd_same, ixN_at rfl (by rw [List.length_set, List.length_map]; omega), ?_⟩
        rw [upd_upd, upd_upd, set_setV (eS.zat_getD F.pos)]
        refine ⟨_, rfl, nl, _, rfl, sql_upd, fun yp H6 nyp s6' hyp => ?_⟩
        have s56 : Same H5 H6 := (same_upd nnl).trans s6'
        have s6 := s5.trans s56
        have hd6 := s56 _ _ hd5
        have hkR6 := hkR5.same s56
        have dst := dist_step F S ed hstep
        refine ⟨_, rfl, _, rfl, B, swapAt e.1 (zat e.1) t, ⟨b, yp, rfl, rfl, s6 _ _ hbb, (hkBb.same s6).at, hyp.sq⟩, _, rfl, ?_⟩
        have tk : (goM wd hg [] (zat e.1) dirs).take (j + 1) = (goM wd hg [] (zat e.1) dirs).take j ++ [(dd, t)] := take_more hp
        refine iteN2 (fun q => ?_) fun q => ?_
        · have nb : swapAt e.1 (zat e.1) t ∉ B.map (·.1) := by
            rw [valX_isSome] at q
            exact of_decide_eq_false q
          have dy : IsDist wd hg st (swapAt e.1 (zat e.1) t) (n + 1) := dst.elim id fun z => absurd ((bef _).mpr z) nb
          have rl := gr.len F h6 S
          refine ⟨_, rfl, _, rfl, _, rfl, d, yp, R, swapAt e.1 (zat e.1) t, rfl, rfl, hd6, hkR6.at, hyp.sq, small1000 (by omega), ?_⟩
          have ez : nV t = nV (zat (swapAt e.1 (zat e.1) t)) := by rw [zy]
          rw [ez]
          refine ⟨same_ch ndb s6, putX R (swapAt e.1 (zat e.1) t) yp (nV (zat (swapAt e.1 (zat e.1) t))), _, _, _, _, rfl, upd_same, fun e' m => ?_, gr.put dy, fun e' m d' y' h1 h2 => putX_in.mpr (.inl (dn e' m d' y' h1 h2)), fun p m dp => ?_⟩
          · refine TD.updN notT_dx hd6 ?_
            rcases putX_mem m with ⟨a1, a2, a3⟩ | m
            · rcases a3 with a3 | ⟨e2, m2, b1, b2⟩
              · rw [a1, a3]; exact hyp
              · rw [← b1, ← b2]; exact hkR6 e2 m2
            · exact hkR6 e' m
          · rw [tk] at m
            rcases List.mem_append.mp m with m | m
            · exact putX_in.mpr (.inl (dj p m dp))
            · rw [List.mem_singleton.mp m]
              exact putX_in.mpr (.inr rfl)
        · have yb : swapAt e.1 (zat e.1) t ∈ B.map (·.1) := by
            rw [valX_isSome] at q
            exact of_decide_eq_true q
          refine ⟨s6, R, _, _, _, _, rfl, hd6, hkR6, gr, dn, fun p m dp => ?_⟩
          rw [tk] at m
          rcases List.mem_append.mp m with m | m
          · exact dj p m dp
          · rw [List.mem_singleton.mp m] at dp ⊢
            obtain ⟨m', e1, d1⟩ := (bef _).mp yb
            have := dp.uniq d1
            omega
      · rintro σ H5 ⟨s5, R, u6, u7, u8, u9, rfl, hd5, hkR5, gr, dn, dj⟩
        refine ⟨s5, R, _, _, _, _, _, _, rfl, hd5, hkR5, gr, fun e' m d' y' h1 h2 => ?_⟩
        rw [take_more he] at m
        rcases List.mem_append.mp m with m | m
        · exact dn e' m d' y' h1 h2
        · rw [List.mem_singleton.mp m] at h1
          obtain ⟨t', ht', rfl⟩ := step_some h1
          refine dj (d', t') ?_ h2
          rw [List.length_map, (Paired.length hgl : ts.length = _), List.take_length]
          exact goM_mem.mpr ⟨mem_dirs d', ht', fun m => nomatch m⟩
    · rintro σ H3 ⟨s3, R, u4, u5, u6, u7, u8, u9, rfl, hd3, hkR3, gr, dn⟩
      refine ⟨s3 _ _ hlb, _, rfl, ?_⟩
      refine k d _ R ndd (back s3) ?_ (hkR3.updN (fun ob xs q => by unfold DX at q; cases q) (s3 _ _ hlb)) (gr.lay lay fun x hx dd y h1 h2 => ?_)
      · rw [upd_ne dl]; exact hd3
      · obtain ⟨e, me, rfl⟩ := List.mem_map.mp hx
        refine dn e ?_ dd y h1 h2
        rw [List.take_length]
        exact me
end
end Sf
namespace Sf
open PySem PySem.Spec PyProof.Rows L2
theorem small_13 : Small 1 3 := small_of (reps := [[1, 2, 0], [2, 1, 0]]) ⟨by decide, by decide, by decide, by decide, by decide⟩ (by decide) (by decide +kernel) (by decide +kernel)
theorem small_41 : Small 4 1 := small_of (reps := [[1, 2, 3, 0], [1, 3, 2, 0], [2, 1, 3, 0], [2, 3, 1, 0], [3, 1, 2, 0], [3, 2, 1, 0]]) ⟨by decide, by decide, by decide, by decide, by decide⟩ (by decide) (by decide +kernel) (by decide +kernel)
theorem smallAll {w h : Nat} (F : Fl w h) (h6 : w * h ≤ 6) : Small w h := by
  have a := F.w1
  have b := F.w4
  have c := F.h1
  have d := F.h4
  have e := F.two
  have hw : w = 1 ∨ w = 2 ∨ w = 3 ∨ w = 4 := by omega
  have hh : h = 1 ∨ h = 2 ∨ h = 3 ∨ h = 4 := by omega
  rcases hw with rfl | rfl | rfl | rfl <;> rcases hh with rfl | rfl | rfl | rfl
  all_goals first
    | exact small_12
    | exact small_21
    | exact small_13
    | exact small_31
    | exact small_14
    | exact small_41
    | exact small_22
    | exact small_23
    | exact small_32
    | (exfalso; omega)
theorem op_inXb {X : Cx} {P : Program} {w : World} {K : PySem.W.Frag} (eP : X.prog = P) (ew : X.w = w) (eK : X.K = K) (hu : X.A.units + 1 < cLine) : OpR X (compareOp .In) (rInX P w K) := by
  subst eP ew eK
  exact op_inX hu
/-- a layer and the one before, as they stand in memory -/
def LB (P : Program) (W : World) (H : Hp) (w h : Nat) (s : List Int) (n : Nat) (l b : Addr) (L B : List DXE) : Prop := H l = some (DX P W l L) ∧ KeysT H L ∧ Lay w h s n L ∧ H b = some (DX P W b B) ∧ KeysT H B ∧ Bef w h s n B ∧ l ≠ b
theorem LB.same {P : Program} {W : World} {H H' : Hp} {w h : Nat} {s : List Int} {n : Nat} {l b : Addr} {L B : List DXE} (e : Same H H') (x : LB P W H w h s n l b L B) : LB P W H' w h s n l b L B :=
  ⟨e _ _ x.1, x.2.1.same e, x.2.2.1, e _ _ x.2.2.2.1, x.2.2.2.2.1.same e, x.2.2.2.2.2.1, x.2.2.2.2.2.2⟩
def spCountM (K : PySem.W.Frag) : Sp := fun vs H Q _ => ∃ (g a b : Addr) (w h n : Nat) (s s' : List Int), vs = [.ref g, .ref a, .ref b] ∧ GoAt H g w h [] ∧ Fl w h ∧ w * h ≤ 6 ∧ TD H a (VI s) ∧ Std (w * h) s ∧ TD H b (VI s') ∧ Std (w * h) s' ∧ IsDist w h s s' n ∧ ∀ H', Same H H' → Q (nV n) H'
section
variable {P : Program} {w : World} {K : PySem.W.Frag} {mg : Str → Option Value} {base : Heap}
set_option maxHeartbeats 1000000 in
theorem ok_count_moves (T : Tx K mg) : FnD P w base CX0 2 T.d_count_moves (spCountM K) := by
  have G1 : FnD P w base CX0 1 T.d_first_layer (spFirst P w K) := ok_first_layer T
  have G2 : FnD P w base CX0 1 T.d_next_layer (spNext P w K) := ok_next_layer T
  refine T.d_count_moves.F.ok sc_count_moves (fun vs H Q E h => ?_) (fun cdv A outer s H vs Q E hr h => ?_)
  · obtain ⟨g, a, b, x, y, n, st, st', rfl, _⟩ := h
    rfl
  · obtain ⟨g, a, b, wd, hg, n, st, st', rfl, hgo, F, h6, ha, S, hb, S', dn, k⟩ := h
    have nd := sc_count_moves.nd
    have hu := hu_of hr
    refine ⟨_, (pss_cons (ps_set (i := 3) nd rfl (.inl rfl) (pe_dnewX))
      (pss_cons (ps_set (i := 4) nd rfl (.inl rfl) (pe_d T.d_first_layer G1 hr pass0 (pa1 (pv 1))))
      (pss_cons (ps_set (i := 5) nd rfl (.inl rfl) (pe_dnewX))
      (pss_cons (ps_set (i := 6) nd rfl (.inr rfl) (pe_d T.d_first_layer G1 hr pass0 (pa1 (pv 2))))
      (pss_cons (ps_set (i := 7) nd rfl (.inl rfl) pe_int)
      (pss_cons (ps_while PassesOwn.never (pt_not (pt_val (pe_b (cr_any rfl) T.b_any (pa1 (pe_lock (pe_lc (own := [("standing", 8)]) (g := gName 8) (by rfl) nd (pi_Xk (pv 4)) (blkOk_by (N := ["goes", "one", "other", "before", "layer", "before_there", "layer_there", "number", "standing"]) (sc := defScope s_count_moves) (by decide +kernel)) (fun _ _ _ _ _ => pg_name (i := 8) nd rfl (Or.inl rfl)) (fun _ _ _ _ _ => pts_nil) (fun _ _ _ _ _ => pe_cmpR (op_inXb (P := P) (w := w) (K := K) rfl rfl rfl hu) (pv 8) (pv 6) (by rfl)))))))) (Evl.pss_cut (ps_if (pt_cmpR op_gt (pe_b call_lenX T.b_len (pa1 (pv 4))) (pe_b call_lenX T.b_len (pa1 (pv 6))) (nomark _)) (pss_cons (ps_asg (pe_tup (pa_cons (pv 6) (pa1 (pv 4)))) (pg_tup rfl (pgs_cons (pg_name (i := 4) nd rfl (.inl rfl)) (pgs_cons (pg_name (i := 6) nd rfl (.inr rfl)) pgs_nil))))
      (pss_one (ps_par (i := 3) (j := 5) rfl nd rfl rfl (by decide) rfl rfl (pa_cons (pv 5) (pa1 (pv 3))) rfl))) pss_nil)
      (pss_cons (ps_par (i := 4) (j := 3) rfl nd rfl rfl (by decide) rfl rfl (pa_cons (pe_d T.d_next_layer G2 hr pass0 (pa_cons (pv 0) (pa_cons (pv 4) (pa1 (pv 3))))) (pa1 (pv 4))) rfl)
      (pss_one (ps_aug (i := 7) nd rfl (.inl rfl) pe_int ip_add)))))
      (pss_one (ps_ret (pv 7))))))))), ?_⟩
    refine fun b1 nb1 => ⟨_, rfl, a, wd * hg, st, rfl, ha.same (same_upd nb1), S, F.pos, fun l1 H1 nl1 s1 hl1 => ?_⟩
    have hb1 : H1 b1 = some (DX P w b1 []) := s1 _ _ upd_same
    have s01 : Same H H1 := (same_upd nb1).trans s1
    have nlb1 : l1 ≠ b1 := fun q => by rw [q, upd_same] at nl1; cases nl1
    refine fun b2 nb2 => ⟨_, rfl, b, wd * hg, st', rfl, (hb.same s01).same (same_upd nb2), S', F.pos, fun l2 H3 nl2 s3 hl2 => ?_⟩
    have hb2 : H3 b2 = some (DX P w b2 []) := s3 _ _ upd_same
    have s13 : Same H1 H3 := (same_upd nb2).trans s3
    have s03 := s01.trans s13
    have nlb2 : l2 ≠ b2 := fun q => by rw [q, upd_same] at nl2; cases nl2
    have nll : l1 ≠ l2 := fun q => by
      have := same_upd (o := DX P w b2 []) nb2 _ _ hl1
      subst q
      exact nomatch (nl2.symm.trans this)
    let PW : Nat → Nat → L2.St → Hp → Prop := fun n1 n2 σ H2 => Same H H2 ∧ n1 + n2 ≤ n ∧ ∃ (s1 s2 : List Int) (l1 b1 l2 b2 : Addr) (L1 B1 L2 B2 : List DXE) (u8 : Option V), σ = [some (.ref g), some (.ref a), some (.ref b), some (.ref b1), some (.ref l1), some (.ref b2), some (.ref l2), some (nV (n1 + n2)), u8] ∧
      LB P w H2 wd hg s1 n1 l1 b1 L1 B1 ∧ LB P w H2 wd hg s2 n2 l2 b2 L2 B2 ∧ l1 ≠ l2 ∧ Std (wd * hg) s1 ∧ Std (wd * hg) s2 ∧ IsDist wd hg s1 s2 n
    have kone : ∀ {H' : Hp} {c : Addr} {x : List Int}, TD H' c (VI x) → KeysT H' [(x, c, nV (zat x))] := fun {H' c x} t e m => by
      rw [List.mem_singleton.mp m]
      exact t
    have hp0 : PW 0 0 [some (.ref g), some (.ref a), some (.ref b), some (.ref b1), some (.ref l1), some (.ref b2), some (.ref l2), some (.int 0), none] H3 :=
      ⟨s03, Nat.zero_le _, st, st', l1, b1, l2, b2, _, [], _, [], none, rfl, ⟨s13 _ _ hl1, kone (ha.same s03), lay_first, s13 _ _ hb1, (fun e m => nomatch m), bef_nil, nlb1⟩, ⟨hl2, kone (hb.same s03), lay_first, hb2, (fun e m => nomatch m), bef_nil, nlb2⟩, nll, S, S', dn⟩
    refine ⟨fun m σ H2 => ∃ n1 n2, PW n1 n2 σ H2 ∧ m = n - (n1 + n2), ⟨_, 0, 0, hp0, rfl⟩, ?_⟩
    rintro m σ H2 ⟨n1, n2, ⟨s2, hle, p, q, l1, b1, l2, b2, L1, B1, L2, B2, u8, rfl, X1, X2, nll, S1, S2, dd⟩, rfl⟩
    obtain ⟨hl1, hk1, lay1, hb1, hkb1, bef1, ne1⟩ := id X1
    obtain ⟨hl2, hk2, lay2, hb2, hkb2, bef2, ne2⟩ := id X2
    refine ⟨l1, _, hl1, True.intro, fun od => ?_⟩
    have back : ∀ {H4 : Hp}, Same (upd H2 l1 (.frz od (DX P w l1 L1))) H4 → Same H2 (upd H4 l1 (DX P w l1 L1)) := fun {H4} s c u e => by
      by_cases z : c = l1
      · rw [z, upd_same, ← hl1, ← z]
        exact e
      · rw [upd_ne z]
        exact s c u (by rw [upd_ne z]; exact e)
    have hl2b : (upd H2 l1 (.frz od (DX P w l1 L1))) l2 = some (DX P w l2 L2) := by rw [upd_ne (Ne.symm nll)]; exact hl2
    have hk1b : KeysT (upd H2 l1 (.frz od (DX P w l1 L1))) L1 := hk1.updN notT_dx hl1
    have hk2b : KeysT (upd H2 l1 (.frz od (DX P w l1 L1))) L2 := hk2.updN notT_dx hl1
    refine ⟨_, rfl, l1, od, L1, rfl, upd_same, fun D nD => ?_⟩
    refine lc_it walk_Xk (fun i H4 => Same (upd H2 l1 (.frz od (DX P w l1 L1))) H4 ∧ H4 D = some (.lst (((L1.take i).map fun e => decide (e.1 ∈ L2.map (·.1))).map V.bl)))
      ⟨same_upd nD, upd_same⟩ (fun i H4 _ z => z.1 _ _ upd_same) ?_ ?_
    · rintro i x H4 H5 hi ⟨s4, hD4⟩ ⟨rfl, e, he, rfl⟩
      have em := List.mem_of_getElem? he
      have ll := lay1.len F h6 S1
      refine ⟨rfl, _, rfl, _, rfl, L2, e.1, ⟨l2, e.2.1, rfl, rfl, s4 _ _ hl2b, (hk2b.same s4).at, ((hk1b e em).same s4).sq⟩, ?_⟩
      refine ⟨_, hD4, ?_, same_ch nD s4, ?_⟩
      · rw [List.length_map, List.length_map, List.length_take]
        exact small1000 (by omega)
      · rw [upd_same, take_more he, List.map_append, List.map_append, valX_isSome]
        rfl
    rintro H4 ⟨s4, hD4⟩
    have Dl : D ≠ l1 := fun z => by rw [z, upd_same] at nD; cases nD
    rw [List.take_length] at hD4
    refine ⟨s4 _ _ upd_same, D, _, rfl, SqL.of (by rw [upd_ne Dl]; exact hD4), _, rfl, ?_⟩
    have s24 := back s4
    have s04 := s2.trans s24
    refine iteN2 (fun e => ?_) fun e => ?_
    · -- they don't meet
      have hlt : n1 + n2 < n := by
        by_cases z : n1 + n2 = n
        · rw [← z] at dd
          obtain ⟨x, d1, d2⟩ := dist_mid F S1 dd
          obtain ⟨e1, m1, rfl⟩ := List.mem_map.mp ((lay1.mem x).mpr d1)
          have m2 := (lay2.mem _).mpr d2
          have : (List.map (fun e => decide (e.1 ∈ L2.map (·.1))) L1).any id = true := List.any_eq_true.mpr ⟨true, List.mem_map.mpr ⟨e1, m1, decide_eq_true m2⟩, rfl⟩
          rw [this] at e
          cases e
        · omega
      refine ⟨fun σ' H' => ∃ a1 a2, PW a1 a2 σ' H' ∧ a1 + a2 = n1 + n2 + 1, fun σ' H' ⟨a1, a2, q, e⟩ => ⟨_, by omega, a1, a2, q, rfl⟩, ?_⟩
      have Y1 := X1.same s24
      have Y2 := X2.same s24
      refine ⟨fun σ' H' => ∃ a1 a2, PW a1 a2 σ' H' ∧ a1 + a2 = n1 + n2, ?_, ?_⟩
      · refine ⟨_, rfl, l1, L1, rfl, Y1.1, Y1.2.1.at, _, rfl, l2, L2, rfl, Y2.1, Y2.2.1.at, _, _, rfl, rfl, _, rfl, ?_⟩
        refine ite2 (fun _ => ?_) fun _ => ⟨n1, n2, ⟨s04, hle, p, q, l1, b1, l2, b2, L1, B1, L2, B2, u8, rfl, Y1, Y2, nll, S1, S2, dd⟩, rfl⟩
        refine ⟨_, rfl, _, rfl, (by show 2 ≤ sizeLine; decide), fun t nt => ⟨t, _, rfl, sqt_upd, rfl, _, _, rfl, _, _, rfl, rfl, ?_⟩⟩
        refine ⟨_, rfl, _, rfl, _, _, rfl, ?_⟩
        have s5 := same_upd (o := .tup [V.ref l2, V.ref l1]) nt
        refine ⟨n2, n1, ⟨s04.trans s5, by omega, q, p, l2, b2, l1, b1, L2, B2, L1, B1, u8, ?_, Y2.same s5, Y1.same s5, Ne.symm nll, S2, S1, dd.back F S1⟩, by omega⟩
        rw [Nat.add_comm n2 n1]
        rfl
      · rintro σ H5 ⟨m1, m2, ⟨s5, hle5, p, q, l1, b1, l2, b2, L1, B1, L2, B2, u8, rfl, X1, X2, nll, S1, S2, dd⟩, em⟩
        obtain ⟨hl1, hk1, lay1, hb1, hkb1, bef1, ne1⟩ := id X1
        refine ⟨_, rfl, _, rfl, _, rfl, g, l1, b1, wd, hg, m1, p, L1, B1, rfl, hgo.same s5, F, h6, S1, hl1, hk1, lay1, hb1, hkb1, bef1, ne1, fun d H6 R ndd s6 hd hkR layR => ?_⟩
        refine ⟨_, rfl, _, _, rfl, _, rfl, _, _, rfl, rfl, ?_⟩
        have en : ((m1 + m2 : Nat) : Int) + 1 = ((m1 + 1 + m2 : Nat) : Int) := by omega
        refine ⟨m1 + 1, m2, ⟨s5.trans s6, by omega, p, q, d, l1, l2, b2, R, L1, L2, B2, u8, ?_, ⟨hd, hkR, layR, s6 _ _ hl1, hk1.same s6, lay1.bef, (fun z => by rw [z, hl1] at ndd; cases ndd)⟩, X2.same s6, (fun z => by rw [z, X2.1] at ndd; cases ndd), S1, S2, dd⟩, by omega⟩
        show _ = [_, _, _, _, _, _, _, some (V.int ((m1 + 1 + m2 : Nat) : Int)), _]
        rw [← en]
        rfl
    · -- they meet
      obtain ⟨c, mc, hc⟩ := List.any_eq_true.mp e
      obtain ⟨e1, m1, rfl⟩ := List.mem_map.mp mc
      have m2 := of_decide_eq_true hc
      have d1 := (lay1.mem e1.1).mp (List.mem_map.mpr ⟨e1, m1, rfl⟩)
      have d2 := (lay2.mem e1.1).mp m2
      have hge := dist_meet F S1 S2 d1 d2 dd
      have en : n1 + n2 = n := by omega
      rw [en]
      exact ⟨_, rfl, k _ s04⟩
set_option maxHeartbeats 1000000 in
theorem ok_fewest (T : Tx K mg) (S : TS K w.params mg) : FnD P w base (L2.CX P w) 6 T.d_fewest (spFew K T.c_BadFloor.C T.c_BadStanding.C T.c_TooMany.C) := by
  have G1 : FnD P w base (L2.CX P w) 3 T.d_need_standing (spNeedS K T.c_BadFloor.C T.c_BadStanding.C) := ok_need_standing T
  have G2 : FnD P w base (L2.CX P w) 2 T.d_need_few_places (spFewPl K T.c_TooMany.C) := ok_need_few T
  have G3 : FnD P w base (L2.CX P w) 5 T.d_is_joined (spJoin K T.c_BadFloor.C T.c_BadStanding.C) := ok_is_joined T
  have G4 : FnD P w base CX0 3 T.d_empty_goes (spGoes K) := ok_empty_goes T S
  have G5 : FnD P w base CX0 2 T.d_count_moves (spCountM K) := ok_count_moves T
  refine T.d_fewest.F.okX sc_fewest (fun vs H Q E h => ?_) (fun cdv A outer s H vs Q E hr h => ?_)
  · obtain ⟨f, v, v', o, rfl, _⟩ := h
    rfl
  · obtain ⟨f, v, v', o, rfl, hf, kf, ks⟩ := h
    have hr2 : Room 2 _ := hr.mono (by decide)
    have hr3 : Room 3 _ := hr.mono (by decide)
    refine ⟨_, (pss_cons (ps_expr (pe_d T.d_need_standing G1 hr3 (passes_call (takes_of rfl rfl rfl rfl) (fun _ _ _ _ z => z)) (pa_cons (pv 0) (pa1 (pv 1)))))
      (pss_cons (ps_expr (pe_d T.d_need_standing G1 hr3 (passes_call (takes_of rfl rfl rfl rfl) (fun _ _ _ _ z => z)) (pa_cons (pv 0) (pa1 (pv 2)))))
      (pss_cons (ps_expr (pe_d T.d_need_few_places G2 hr2 (passes_call (takes_of rfl rfl rfl rfl) (fun _ _ _ _ z => z)) (pa1 (pv 0))))
      (pss_cons (ps_if (pt_not (pt_val (pe_d T.d_is_joined G3 hr (passes_call (takes_of rfl rfl rfl rfl) (fun _ _ _ _ z => z)) (pa_cons (pv 0) (pa_cons (pv 1) (pa1 (pv 2))))))) (pss_one (ps_ret pe_non)) pss_nil)
      (pss_one (ps_ret (pe_d T.d_count_moves G5 hr2 pass0 (pa_cons (pe_d T.d_empty_goes G4 hr3 pass0 (pa_cons (pv 0) (pa1 (pe_lst pa_nil)))) (pa_cons (pv 1) (pa1 (pv 2))))))))))), ?_⟩
    refine ⟨_, rfl, _, rfl, f, v, o, rfl, hf, kf, fun wd hg e => ?_⟩
    obtain ⟨o2, hv, kb, k2⟩ := ks wd hg e
    refine ⟨o2, hv, fun ho H1 s1 => ?_, kb⟩
    obtain ⟨st, rfl⟩ := Option.isSome_iff_exists.mp ho
    obtain ⟨o3, hv', kb', k3⟩ := k2 st rfl
    subst e
    refine ⟨_, rfl, _, rfl, f, v', some (wd, hg), rfl, sm_fl s1 hf, fun z => (by cases z), fun _ _ e => ?_⟩
    cases e
    refine ⟨o3, sm_st s1 hv', fun ho' H2 s2 => ?_, fun q H2 s2 => kb' q H2 (s1.trans s2)⟩
    obtain ⟨st', rfl⟩ := Option.isSome_iff_exists.mp ho'
    have s12 := s1.trans s2
    obtain ⟨k4, k5⟩ := k3 st' rfl
    cases hv with
    | @good b _ hs S =>
    cases hv' with
    | @good b' _ hs' S' =>
    cases hf with
    | @good a _ _ hfs F =>
    refine ⟨_, rfl, a, wd, hg, rfl, sm_tup s12 hfs, F, fun q => k4 q H2 s12, fun h6 => ?_⟩
    refine ⟨_, rfl, _, rfl, _, rfl, V.ref a, V.ref b, V.ref b', some (wd, hg), rfl, .good (sm_tup s12 hfs) F, fun z => (by cases z), fun _ _ e => ?_⟩
    cases e
    refine ⟨some st, .good (hs.same s12) S, fun z => (by cases z), fun st1 e => ?_⟩
    cases e
    refine ⟨some st', .good (hs'.same s12) S', fun z => (by cases z), fun st1 e H3 s3 => ?_⟩
    cases e
    have s13 := s12.trans s3
    refine ⟨_, rfl, iteN2 (fun e => ?_) fun e => ?_⟩
    · refine (k5 h6 H3 s13).2 fun n p => ?_
      rw [Reach.join F S ⟨n, p⟩] at e
      cases e
    · obtain ⟨n0, p0⟩ := (smallAll F h6).all st st' S S' e
      obtain ⟨n, _, dn⟩ := path_dist p0
      refine ⟨_, rfl, (by show 0 ≤ sizeLine; decide), fun el nel => ?_⟩
      have s4 : Same H3 (upd H3 el (.lst [])) := same_upd nel
      refine ⟨a, el, wd, hg, [], rfl, sm_tup (s13.trans s4) hfs, F, sql_upd, fun g H5 ng s5 hgo => ?_⟩
      have s15 := (s13.trans s4).trans s5
      refine ⟨_, rfl, _, rfl, g, b, b', wd, hg, n, st, st', rfl, hgo, F, h6, hs.same s15, S, hs'.same s15, S', dn, fun H6 s6 => ?_⟩
      exact (k5 h6 H6 (s15.trans s6)).1 n dn
set_option maxHeartbeats 1000000 in
theorem ok_farthest (T : Tx K mg) (S : TS K w.params mg) : FnD P w base (L2.CX P w) 6 T.d_farthest (spFst K T.c_BadFloor.C T.c_BadStanding.C T.c_TooMany.C) := by
  have G1 : FnD P w base (L2.CX P w) 3 T.d_need_standing (spNeedS K T.c_BadFloor.C T.c_BadStanding.C) := ok_need_standing T
  have G2 : FnD P w base (L2.CX P w) 2 T.d_need_few_places (spFewPl K T.c_TooMany.C) := ok_need_few T
  have G3 : FnD P w base CX0 1 T.d_first_layer (spFirst P w K) := ok_first_layer T
  have G4 : FnD P w base CX0 3 T.d_empty_goes (spGoes K) := ok_empty_goes T S
  have G5 : FnD P w base CX0 1 T.d_next_layer (spNext P w K) := ok_next_layer T
  refine T.d_farthest.F.okX sc_farthest (fun vs H Q E h => ?_) (fun cdv A outer s H vs Q E hr h => ?_)
  · obtain ⟨f, v, o, rfl, _⟩ := h
    rfl
  · obtain ⟨f, v, o, rfl, hf, kf, ks⟩ := h
    have nd := sc_farthest.nd
    have hr1 : Room 1 _ := hr.mono (by decide)
    have hr2 : Room 2 _ := hr.mono (by decide)
    have hr3 : Room 3 _ := hr.mono (by decide)
    refine ⟨_, (pss_cons (ps_expr (pe_d T.d_need_standing G1 hr3 (passes_call (takes_of rfl rfl rfl rfl) (fun _ _ _ _ z => z)) (pa_cons (pv 0) (pa1 (pv 1)))))
      (pss_cons (ps_expr (pe_d T.d_need_few_places G2 hr2 (passes_call (takes_of rfl rfl rfl rfl) (fun _ _ _ _ z => z)) (pa1 (pv 0))))
      (pss_cons (ps_set (i := 2) nd rfl (.inl rfl) (pe_d T.d_empty_goes G4 hr3 pass0 (pa_cons (pv 0) (pa1 (pe_lst pa_nil)))))
      (pss_cons (ps_set (i := 3) nd rfl (.inl rfl) (pe_dnewX))
      (pss_cons (ps_set (i := 4) nd rfl (.inl rfl) (pe_d T.d_first_layer G3 hr1 pass0 (pa1 (pv 1))))
      (pss_cons (ps_set (i := 5) nd rfl (.inl rfl) pe_int)
      (pss_cons (ps_whileW (passes_of rfl) (ptw_truthR (pew_named (i := 6) nd rfl (.inl rfl) (pew_of (pe_d T.d_next_layer G5 hr1 pass0 (pa_cons (pv 2) (pa_cons (pv 4) (pa1 (pv 3))))))) tru_X) (pss_cons (ps_set (i := 3) nd rfl (.inl rfl) (pv 4))
      (pss_cons (ps_set (i := 4) nd rfl (.inl rfl) (pv 6))
      (pss_one (ps_aug (i := 5) nd rfl (.inl rfl) pe_int ip_add)))) pss_nil)
      (pss_one (ps_ret (pe_tup (pa_cons (pv 5) (pa1 (pe_b (cr_sortedX rfl) T.b_sorted (pa1 (pv 4))))))))))))))), ?_⟩
    refine ⟨_, rfl, _, rfl, f, v, o, rfl, hf, kf, fun wd hg e => ?_⟩
    obtain ⟨o2, hv, kb, k2⟩ := ks wd hg e
    refine ⟨o2, hv, fun ho H1 s1 => ?_, kb⟩
    obtain ⟨st, rfl⟩ := Option.isSome_iff_exists.mp ho
    obtain ⟨k4, k5⟩ := k2 st rfl
    subst e
    cases hv with
    | @good b _ hs S =>
    cases hf with
    | @good a _ _ hfs F =>
    refine ⟨_, rfl, a, wd, hg, rfl, sm_tup s1 hfs, F, fun q => k4 q H1 s1, fun h6 => ?_⟩
    have k := k5 h6
    refine ⟨_, rfl, (by show 0 ≤ sizeLine; decide), fun el nel => ?_⟩
    have s2 : Same H1 (upd H1 el (.lst [])) := same_upd nel
    refine ⟨a, el, wd, hg, [], rfl, sm_tup (s1.trans s2) hfs, F, sql_upd, fun g H3 ng s3 hgo => ?_⟩
    have s03 := (s1.trans s2).trans s3
    refine fun b1 nb1 => ⟨_, rfl, b, wd * hg, st, rfl, (hs.same s03).same (same_upd nb1), S, F.pos, fun l1 H4 nl1 s4 hl1 => ?_⟩
    have s34 : Same H3 H4 := (same_upd nb1).trans s4
    have s04 := s03.trans s34
    have hb1 : H4 b1 = some (DX P w b1 []) := s4 _ _ upd_same
    have nlb1 : l1 ≠ b1 := fun q => by rw [q, upd_same] at nl1; cases nl1
    let PW : Nat → L2.St → Hp → Prop := fun n σ H5 => Same H4 H5 ∧ ∃ (l1 b1 : Addr) (L B : List DXE) (u6 : Option V), σ = [some (.ref a), some (.ref b), some (.ref g), some (.ref b1), some (.ref l1), some (nV n), u6] ∧ LB P w H5 wd hg st n l1 b1 L B ∧ ∃ x, IsDist wd hg st x n
    have hp0 : PW 0 [some (.ref a), some (.ref b), some (.ref g), some (.ref b1), some (.ref l1), some (.int 0), none] H4 :=
      ⟨Same.refl _, l1, b1, _, [], none, rfl, ⟨hl1, fun e m => (by rw [List.mem_singleton.mp m]; exact hs.same s04), lay_first, hb1, (fun e m => nomatch m), bef_nil, nlb1⟩, st, isDist_self⟩
    refine ⟨fun m σ H5 => ∃ n, PW n σ H5 ∧ m = 720 - n, ⟨_, 0, hp0, rfl⟩, ?_⟩
    rintro m σ H5 ⟨n, ⟨s5, l1, b1, L, B, u6, rfl, ⟨hl, hkL, lay, hb, hkB, bef, nlb⟩, x0, dx0⟩, rfl⟩
    have h720 := dist_720 F h6 S dx0
    refine ⟨_, rfl, _, rfl, _, rfl, g, l1, b1, wd, hg, n, st, L, B, rfl, (hgo.same s34).same s5, F, h6, S, hl, hkL, lay, hb, hkB, bef, nlb, fun d H6 R ndd s6 hd hkR layR => ?_⟩
    refine ⟨d, R, rfl, hd, hkR.at, ?_⟩
    have s06 := (s04.trans s5).trans s6
    refine iteN2 (fun e => ?_) fun e => ?_
    · obtain ⟨r, R', rfl⟩ : ∃ r R', R = r :: R' := by
        cases R with
        | nil => cases e
        | cons r R' => exact ⟨r, R', rfl⟩
      have dr : IsDist wd hg st r.1 (n + 1) := (layR.mem r.1).mp List.mem_cons_self
      refine ⟨PW (n + 1), fun σ' H' q => ⟨_, by have := dist_720 F h6 S dr; omega, n + 1, q, rfl⟩, ?_⟩
      refine ⟨_, rfl, _, rfl, _, rfl, _, _, rfl, rfl, ?_⟩
      exact ⟨s5.trans s6, d, l1, r :: R', L, some (.ref d), rfl, ⟨hd, hkR, layR, s6 _ _ hl, hkL.same s6, lay.bef, (fun z => by rw [z, hl] at ndd; cases ndd)⟩, r.1, dr⟩
    · have e0 : R = [] := List.isEmpty_iff.mp e
      subst e0
      have hl6 := s6 _ _ hl
      have hk6 := hkL.same s6
      have lstd := lay.std F S
      have h16 := F.le
      refine ⟨_, rfl, _, rfl, l1, L, keyOf H6, wd * hg, 16, rfl, hl6, F.pos, fun y hy => ?_, fun zs p hsr hst np => ?_⟩
      · obtain ⟨t', ht', rfl⟩ := List.mem_map.mp hy
        obtain ⟨e, he, rfl⟩ := List.mem_map.mp ht'
        have hX := lstd e.1 (List.mem_map.mpr ⟨e, he, rfl⟩)
        have hT := hk6 e he
        refine ⟨e.2.1, rfl, ?_, ?_, ?_⟩
        · rw [keyOf_at hT]; exact hT.sq
        · rw [keyOf_at hT]; exact hX.len
        · rw [keyOf_at hT]; exact bd_std hX (by omega)
      obtain ⟨ps, ezs, hps, hrise, hperm⟩ := sorted_at hk6 hsr hst
      subst ezs
      have s7 := same_upd (o := .lst ((ps.map (·.1)).map V.ref)) np
      refine ⟨(by show 2 ≤ sizeLine; decide), fun t nt => ?_⟩
      have s8 := same_upd (o := .tup [nV n, .ref p]) nt
      have s08 := (s06.trans s7).trans s8
      have ntp : t ≠ p := fun z => by rw [z, upd_same] at nt; cases nt
      refine k t p _ n (ps.map (·.1)) (ps.map (·.2)) ((s06.trans s7).free nt) (s06.free np) ntp s08 upd_same (s8 _ _ upd_same) (AtP.atL (hps.same (s7.trans s8))) hrise (hperm.nodup_iff.mpr lay.nd) (fun x => ?_) (fun z => ?_) fun x m dm => ?_
      · rw [hperm.mem_iff]
        exact lay.mem x
      · have := (hperm.mem_iff).mpr ((lay.mem x0).mpr dx0)
        rw [z] at this
        cases this
      · by_cases q : m ≤ n
        · exact q
        · obtain ⟨y, dy⟩ := lay_pos dm (n + 1) (by omega)
          have := (layR.mem y).mpr dy
          cases this
theorem ok_law (T : Tx K mg) (S : TS K w.params mg) : FnD P w base CX0 9 T.d_law (spLaw K) := ok_law0 T (ok_fewest T S) (ok_farthest T S)
end
end Sf
namespace Sf
open PySem PySem.Spec PyProof.Rows L2

theorem all_mk {l : PySem.W.OpenLaw} {w : World} {K : PySem.W.Frag} {h : Heap} {mg : Str → Option Value} {fa : Addr} (X : K.In h) (G : h.Ns mainGlobals mg) (hfa : mg "law" = some (.ref fa))
    {f0 : Addr} {od0 an0 : Option Addr} {sl0 : Array (Option Value)} {oc0 kV0 dc0 pm0 cd0 ct0 : Value}
    {f1 : Addr} {od1 an1 : Option Addr} {sl1 : Array (Option Value)} {oc1 kV1 dc1 pm1 cd1 ct1 : Value}
    {f2 : Addr} {od2 an2 : Option Addr} {sl2 : Array (Option Value)} {oc2 kV2 dc2 pm2 cd2 ct2 : Value}
    {f3 : Addr} {od3 an3 : Option Addr} {sl3 : Array (Option Value)} {oc3 kV3 dc3 pm3 cd3 ct3 : Value}
    {f4 : Addr} {od4 an4 : Option Addr} {sl4 : Array (Option Value)} {oc4 kV4 dc4 pm4 cd4 ct4 : Value}
    {f5 : Addr} {od5 an5 : Option Addr} {sl5 : Array (Option Value)} {oc5 kV5 dc5 pm5 cd5 ct5 : Value}
    {f6 : Addr} {od6 an6 : Option Addr} {sl6 : Array (Option Value)} {oc6 kV6 dc6 pm6 cd6 ct6 : Value}
    {f7 : Addr} {od7 an7 : Option Addr} {sl7 : Array (Option Value)} {oc7 kV7 dc7 pm7 cd7 ct7 : Value}
    {f8 : Addr} {od8 an8 : Option Addr} {sl8 : Array (Option Value)} {oc8 kV8 dc8 pm8 cd8 ct8 : Value}
    {f9 : Addr} {od9 an9 : Option Addr} {sl9 : Array (Option Value)} {oc9 kV9 dc9 pm9 cd9 ct9 : Value}
    {f10 : Addr} {od10 an10 : Option Addr} {sl10 : Array (Option Value)} {oc10 kV10 dc10 pm10 cd10 ct10 : Value}
    {f11 : Addr} {od11 an11 : Option Addr} {sl11 : Array (Option Value)} {oc11 kV11 dc11 pm11 cd11 ct11 : Value}
    {f12 : Addr} {od12 an12 : Option Addr} {sl12 : Array (Option Value)} {oc12 kV12 dc12 pm12 cd12 ct12 : Value}
    {f13 : Addr} {od13 an13 : Option Addr} {sl13 : Array (Option Value)} {oc13 kV13 dc13 pm13 cd13 ct13 : Value}
    {f14 : Addr} {od14 an14 : Option Addr} {sl14 : Array (Option Value)} {oc14 kV14 dc14 pm14 cd14 ct14 : Value}
    {f15 : Addr} {od15 an15 : Option Addr} {sl15 : Array (Option Value)} {oc15 kV15 dc15 pm15 cd15 ct15 : Value}
    {f16 : Addr} {od16 an16 : Option Addr} {sl16 : Array (Option Value)} {oc16 kV16 dc16 pm16 cd16 ct16 : Value}
    {f17 : Addr} {od17 an17 : Option Addr} {sl17 : Array (Option Value)} {oc17 kV17 dc17 pm17 cd17 ct17 : Value}
    {f18 : Addr} {od18 an18 : Option Addr} {sl18 : Array (Option Value)} {oc18 kV18 dc18 pm18 cd18 ct18 : Value}
    {f19 : Addr} {od19 an19 : Option Addr} {sl19 : Array (Option Value)} {oc19 kV19 dc19 pm19 cd19 ct19 : Value}
    {f20 : Addr} {od20 an20 : Option Addr} {sl20 : Array (Option Value)} {oc20 kV20 dc20 pm20 cd20 ct20 : Value}
    {f21 : Addr} {od21 an21 : Option Addr} {sl21 : Array (Option Value)} {oc21 kV21 dc21 pm21 cd21 ct21 : Value}
    {f22 : Addr} {od22 an22 : Option Addr} {sl22 : Array (Option Value)} {oc22 kV22 dc22 pm22 cd22 ct22 : Value}
    {f23 : Addr} {od23 an23 : Option Addr} {sl23 : Array (Option Value)} {oc23 kV23 dc23 pm23 cd23 ct23 : Value}
    {f24 : Addr} {od24 an24 : Option Addr} {sl24 : Array (Option Value)} {oc24 kV24 dc24 pm24 cd24 ct24 : Value}
    {f25 : Addr} {od25 an25 : Option Addr} {sl25 : Array (Option Value)} {oc25 kV25 dc25 pm25 cd25 ct25 : Value}
    {f26 : Addr} {od26 an26 : Option Addr} {sl26 : Array (Option Value)} {oc26 kV26 dc26 pm26 cd26 ct26 : Value}
    {C0 : Addr}
    {C1 : Addr}
    {C2 : Addr}
    {C3 : Addr}
    {t0 : Tok}
    {t1 : Tok}
    {t3 : Tok}
    {dT p0 p1 p2 p3 : Addr} {e0 e1 e2 e3 y0 y1 y2 y3 z0 z1 z2 z3 : Tok} {nT g0 g1 g2 g3 : Nat} {x0 x1 x2 x3 : Option Addr} {s0 s1 s2 s3 : Array (Option Value)}
    (a0 : PySem.W.nsIn K mainGlobals "need_floor" = some (some (.ref f0))) (l0 : K.lookup f0 = some ⟨oc0, od0, .func (PySem.W.fnOf "need_floor" "need_floor" (defArgs s_need_floor) (defBody s_need_floor) (defScope s_need_floor) .none kV0 dc0 pm0 an0 cd0 ct0), sl0⟩) (c0 : PySem.W.codeIn K cd0 "need_floor" = true) (k0 : PySem.W.keepIn K (.ref f0) = true)
    (a1 : PySem.W.nsIn K mainGlobals "need_standing" = some (some (.ref f1))) (l1 : K.lookup f1 = some ⟨oc1, od1, .func (PySem.W.fnOf "need_standing" "need_standing" (defArgs s_need_standing) (defBody s_need_standing) (defScope s_need_standing) .none kV1 dc1 pm1 an1 cd1 ct1), sl1⟩) (c1 : PySem.W.codeIn K cd1 "need_standing" = true) (k1 : PySem.W.keepIn K (.ref f1) = true)
    (a2 : PySem.W.nsIn K mainGlobals "is_number" = some (some (.ref f2))) (l2 : K.lookup f2 = some ⟨oc2, od2, .func (PySem.W.fnOf "is_number" "is_number" (defArgs s_is_number) (defBody s_is_number) (defScope s_is_number) .none kV2 dc2 pm2 an2 cd2 ct2), sl2⟩) (c2 : PySem.W.codeIn K cd2 "is_number" = true) (k2 : PySem.W.keepIn K (.ref f2) = true)
    (a3 : PySem.W.nsIn K mainGlobals "count_places" = some (some (.ref f3))) (l3 : K.lookup f3 = some ⟨oc3, od3, .func (PySem.W.fnOf "count_places" "count_places" (defArgs s_count_places) (defBody s_count_places) (defScope s_count_places) .none kV3 dc3 pm3 an3 cd3 ct3), sl3⟩) (c3 : PySem.W.codeIn K cd3 "count_places" = true) (k3 : PySem.W.keepIn K (.ref f3) = true)
    (a4 : PySem.W.nsIn K mainGlobals "column_and_row" = some (some (.ref f4))) (l4 : K.lookup f4 = some ⟨oc4, od4, .func (PySem.W.fnOf "column_and_row" "column_and_row" (defArgs s_column_and_row) (defBody s_column_and_row) (defScope s_column_and_row) .none kV4 dc4 pm4 an4 cd4 ct4), sl4⟩) (c4 : PySem.W.codeIn K cd4 "column_and_row" = true) (k4 : PySem.W.keepIn K (.ref f4) = true)
    (a5 : PySem.W.nsIn K mainGlobals "side" = some (some (.ref f5))) (l5 : K.lookup f5 = some ⟨oc5, od5, .func (PySem.W.fnOf "side" "side" (defArgs s_side) (defBody s_side) (defScope s_side) .none kV5 dc5 pm5 an5 cd5 ct5), sl5⟩) (c5 : PySem.W.codeIn K cd5 "side" = true) (k5 : PySem.W.keepIn K (.ref f5) = true)
    (a6 : PySem.W.nsIn K mainGlobals "is_joined" = some (some (.ref f6))) (l6 : K.lookup f6 = some ⟨oc6, od6, .func (PySem.W.fnOf "is_joined" "is_joined" (defArgs s_is_joined) (defBody s_is_joined) (defScope s_is_joined) .none kV6 dc6 pm6 an6 cd6 ct6), sl6⟩) (c6 : PySem.W.codeIn K cd6 "is_joined" = true) (k6 : PySem.W.keepIn K (.ref f6) = true)
    (a7 : PySem.W.nsIn K mainGlobals "is_line" = some (some (.ref f7))) (l7 : K.lookup f7 = some ⟨oc7, od7, .func (PySem.W.fnOf "is_line" "is_line" (defArgs s_is_line) (defBody s_is_line) (defScope s_is_line) .none kV7 dc7 pm7 an7 cd7 ct7), sl7⟩) (c7 : PySem.W.codeIn K cd7 "is_line" = true) (k7 : PySem.W.keepIn K (.ref f7) = true)
    (a8 : PySem.W.nsIn K mainGlobals "count_falls" = some (some (.ref f8))) (l8 : K.lookup f8 = some ⟨oc8, od8, .func (PySem.W.fnOf "count_falls" "count_falls" (defArgs s_count_falls) (defBody s_count_falls) (defScope s_count_falls) .none kV8 dc8 pm8 an8 cd8 ct8), sl8⟩) (c8 : PySem.W.codeIn K cd8 "count_falls" = true) (k8 : PySem.W.keepIn K (.ref f8) = true)
    (a9 : PySem.W.nsIn K mainGlobals "tiles_in_order" = some (some (.ref f9))) (l9 : K.lookup f9 = some ⟨oc9, od9, .func (PySem.W.fnOf "tiles_in_order" "tiles_in_order" (defArgs s_tiles_in_order) (defBody s_tiles_in_order) (defScope s_tiles_in_order) .none kV9 dc9 pm9 an9 cd9 ct9), sl9⟩) (c9 : PySem.W.codeIn K cd9 "tiles_in_order" = true) (k9 : PySem.W.keepIn K (.ref f9) = true)
    (a10 : PySem.W.nsIn K mainGlobals "tile_place" = some (some (.ref f10))) (l10 : K.lookup f10 = some ⟨oc10, od10, .func (PySem.W.fnOf "tile_place" "tile_place" (defArgs s_tile_place) (defBody s_tile_place) (defScope s_tile_place) .none kV10 dc10 pm10 an10 cd10 ct10), sl10⟩) (c10 : PySem.W.codeIn K cd10 "tile_place" = true) (k10 : PySem.W.keepIn K (.ref f10) = true)
    (a11 : PySem.W.nsIn K mainGlobals "empty_goes" = some (some (.ref f11))) (l11 : K.lookup f11 = some ⟨oc11, od11, .func (PySem.W.fnOf "empty_goes" "empty_goes" (defArgs s_empty_goes) (defBody s_empty_goes) (defScope s_empty_goes) .none kV11 dc11 pm11 an11 cd11 ct11), sl11⟩) (c11 : PySem.W.codeIn K cd11 "empty_goes" = true) (k11 : PySem.W.keepIn K (.ref f11) = true)
    (a12 : PySem.W.nsIn K mainGlobals "fewest" = some (some (.ref f12))) (l12 : K.lookup f12 = some ⟨oc12, od12, .func (PySem.W.fnOf "fewest" "fewest" (defArgs s_fewest) (defBody s_fewest) (defScope s_fewest) .none kV12 dc12 pm12 an12 cd12 ct12), sl12⟩) (c12 : PySem.W.codeIn K cd12 "fewest" = true) (k12 : PySem.W.keepIn K (.ref f12) = true)
    (a13 : PySem.W.nsIn K mainGlobals "farthest" = some (some (.ref f13))) (l13 : K.lookup f13 = some ⟨oc13, od13, .func (PySem.W.fnOf "farthest" "farthest" (defArgs s_farthest) (defBody s_farthest) (defScope s_farthest) .none kV13 dc13 pm13 an13 cd13 ct13), sl13⟩) (c13 : PySem.W.codeIn K cd13 "farthest" = true) (k13 : PySem.W.keepIn K (.ref f13) = true)
    (a14 : PySem.W.nsIn K mainGlobals "need_few_places" = some (some (.ref f14))) (l14 : K.lookup f14 = some ⟨oc14, od14, .func (PySem.W.fnOf "need_few_places" "need_few_places" (defArgs s_need_few_places) (defBody s_need_few_places) (defScope s_need_few_places) .none kV14 dc14 pm14 an14 cd14 ct14), sl14⟩) (c14 : PySem.W.codeIn K cd14 "need_few_places" = true) (k14 : PySem.W.keepIn K (.ref f14) = true)
    (a15 : PySem.W.nsIn K mainGlobals "count_moves" = some (some (.ref f15))) (l15 : K.lookup f15 = some ⟨oc15, od15, .func (PySem.W.fnOf "count_moves" "count_moves" (defArgs s_count_moves) (defBody s_count_moves) (defScope s_count_moves) .none kV15 dc15 pm15 an15 cd15 ct15), sl15⟩) (c15 : PySem.W.codeIn K cd15 "count_moves" = true) (k15 : PySem.W.keepIn K (.ref f15) = true)
    (a16 : PySem.W.nsIn K mainGlobals "first_layer" = some (some (.ref f16))) (l16 : K.lookup f16 = some ⟨oc16, od16, .func (PySem.W.fnOf "first_layer" "first_layer" (defArgs s_first_layer) (defBody s_first_layer) (defScope s_first_layer) .none kV16 dc16 pm16 an16 cd16 ct16), sl16⟩) (c16 : PySem.W.codeIn K cd16 "first_layer" = true) (k16 : PySem.W.keepIn K (.ref f16) = true)
    (a17 : PySem.W.nsIn K mainGlobals "next_layer" = some (some (.ref f17))) (l17 : K.lookup f17 = some ⟨oc17, od17, .func (PySem.W.fnOf "next_layer" "next_layer" (defArgs s_next_layer) (defBody s_next_layer) (defScope s_next_layer) .none kV17 dc17 pm17 an17 cd17 ct17), sl17⟩) (c17 : PySem.W.codeIn K cd17 "next_layer" = true) (k17 : PySem.W.keepIn K (.ref f17) = true)
    (a18 : PySem.W.nsIn K mainGlobals "_law_draw" = some (some (.ref f18))) (l18 : K.lookup f18 = some ⟨oc18, od18, .func (PySem.W.fnOf "_law_draw" "_law_draw" (defArgs s_law_draw) (defBody s_law_draw) (defScope s_law_draw) .none kV18 dc18 pm18 an18 cd18 ct18), sl18⟩) (c18 : PySem.W.codeIn K cd18 "_law_draw" = true) (k18 : PySem.W.keepIn K (.ref f18) = true)
    (a19 : PySem.W.nsIn K mainGlobals "_law_whole" = some (some (.ref f19))) (l19 : K.lookup f19 = some ⟨oc19, od19, .func (PySem.W.fnOf "_law_whole" "_law_whole" (defArgs s_law_whole) (defBody s_law_whole) (defScope s_law_whole) .none kV19 dc19 pm19 an19 cd19 ct19), sl19⟩) (c19 : PySem.W.codeIn K cd19 "_law_whole" = true) (k19 : PySem.W.keepIn K (.ref f19) = true)
    (a20 : PySem.W.nsIn K mainGlobals "_law_floor" = some (some (.ref f20))) (l20 : K.lookup f20 = some ⟨oc20, od20, .func (PySem.W.fnOf "_law_floor" "_law_floor" (defArgs s_law_floor) (defBody s_law_floor) (defScope s_law_floor) .none kV20 dc20 pm20 an20 cd20 ct20), sl20⟩) (c20 : PySem.W.codeIn K cd20 "_law_floor" = true) (k20 : PySem.W.keepIn K (.ref f20) = true)
    (a21 : PySem.W.nsIn K mainGlobals "_law_standing" = some (some (.ref f21))) (l21 : K.lookup f21 = some ⟨oc21, od21, .func (PySem.W.fnOf "_law_standing" "_law_standing" (defArgs s_law_standing) (defBody s_law_standing) (defScope s_law_standing) .none kV21 dc21 pm21 an21 cd21 ct21), sl21⟩) (c21 : PySem.W.codeIn K cd21 "_law_standing" = true) (k21 : PySem.W.keepIn K (.ref f21) = true)
    (a22 : PySem.W.nsIn K mainGlobals "_law_moved" = some (some (.ref f22))) (l22 : K.lookup f22 = some ⟨oc22, od22, .func (PySem.W.fnOf "_law_moved" "_law_moved" (defArgs s_law_moved) (defBody s_law_moved) (defScope s_law_moved) .none kV22 dc22 pm22 an22 cd22 ct22), sl22⟩) (c22 : PySem.W.codeIn K cd22 "_law_moved" = true) (k22 : PySem.W.keepIn K (.ref f22) = true)
    (a23 : PySem.W.nsIn K mainGlobals "_law_words" = some (some (.ref f23))) (l23 : K.lookup f23 = some ⟨oc23, od23, .func (PySem.W.fnOf "_law_words" "_law_words" (defArgs s_law_words) (defBody s_law_words) (defScope s_law_words) .none kV23 dc23 pm23 an23 cd23 ct23), sl23⟩) (c23 : PySem.W.codeIn K cd23 "_law_words" = true) (k23 : PySem.W.keepIn K (.ref f23) = true)
    (a24 : PySem.W.nsIn K mainGlobals "_law_far" = some (some (.ref f24))) (l24 : K.lookup f24 = some ⟨oc24, od24, .func (PySem.W.fnOf "_law_far" "_law_far" (defArgs s_law_far) (defBody s_law_far) (defScope s_law_far) .none kV24 dc24 pm24 an24 cd24 ct24), sl24⟩) (c24 : PySem.W.codeIn K cd24 "_law_far" = true) (k24 : PySem.W.keepIn K (.ref f24) = true)
    (a25 : PySem.W.nsIn K mainGlobals "_law_right" = some (some (.ref f25))) (l25 : K.lookup f25 = some ⟨oc25, od25, .func (PySem.W.fnOf "_law_right" "_law_right" (defArgs s_law_right) (defBody s_law_right) (defScope s_law_right) .none kV25 dc25 pm25 an25 cd25 ct25), sl25⟩) (c25 : PySem.W.codeIn K cd25 "_law_right" = true) (k25 : PySem.W.keepIn K (.ref f25) = true)
    (a26 : PySem.W.nsIn K mainGlobals "law" = some (some (.ref f26))) (l26 : K.lookup f26 = some ⟨oc26, od26, .func (PySem.W.fnOf "law" "law" (defArgs s_law) (defBody s_law) (defScope s_law) .none kV26 dc26 pm26 an26 cd26 ct26), sl26⟩) (c26 : PySem.W.codeIn K cd26 "law" = true) (k26 : PySem.W.keepIn K (.ref f26) = true)
    (q0 : PySem.W.nsIn K mainGlobals "SlideError" = some (some (.ref C0))) (q0x : PySem.W.excIn K C0 [.type "ValueError", .type "Exception", .type "BaseException", .type "object"] "ValueError.__new__" = true) (q0k : PySem.W.keepIn K (.ref C0) = true) (q0b : PySem.W.subIn K (.ref C0) (.type "BaseException") = some true) (q0t : PySem.W.typeIn K (.ref C0) = some (.type "type"))
    (q1 : PySem.W.nsIn K mainGlobals "BadFloor" = some (some (.ref C1))) (q1x : PySem.W.excIn K C1 [.type "ValueError", .type "Exception", .type "BaseException", .type "object"] "ValueError.__new__" = true) (q1k : PySem.W.keepIn K (.ref C1) = true) (q1b : PySem.W.subIn K (.ref C1) (.type "BaseException") = some true) (q1t : PySem.W.typeIn K (.ref C1) = some (.type "type"))
    (q2 : PySem.W.nsIn K mainGlobals "BadStanding" = some (some (.ref C2))) (q2x : PySem.W.excIn K C2 [.type "ValueError", .type "Exception", .type "BaseException", .type "object"] "ValueError.__new__" = true) (q2k : PySem.W.keepIn K (.ref C2) = true) (q2b : PySem.W.subIn K (.ref C2) (.type "BaseException") = some true) (q2t : PySem.W.typeIn K (.ref C2) = some (.type "type"))
    (q3 : PySem.W.nsIn K mainGlobals "TooMany" = some (some (.ref C3))) (q3x : PySem.W.excIn K C3 [.type "ValueError", .type "Exception", .type "BaseException", .type "object"] "ValueError.__new__" = true) (q3k : PySem.W.keepIn K (.ref C3) = true) (q3b : PySem.W.subIn K (.ref C3) (.type "BaseException") = some true) (q3t : PySem.W.typeIn K (.ref C3) = some (.type "type"))
    (t0' : PySem.W.nsIn K mainGlobals "LONGEST_SIDE" = some (some (.int 4 t0)))
    (t1' : PySem.W.nsIn K mainGlobals "FEWEST_PLACES" = some (some (.int 2 t1)))
    (t3' : PySem.W.nsIn K mainGlobals "MOST_PLACES" = some (some (.int 6 t3)))
    (m_d : PySem.W.nsIn K mainGlobals "TILE_STANDS" = some (some (.ref dT))) (m_w : (dT == sysModules) = false) (m_l : K.lookup dT = some ⟨.type "dict", none, .dict #[⟨PyData.keyHash w.params "up", .str "up" e0, .ref p0⟩, ⟨PyData.keyHash w.params "down", .str "down" e1, .ref p1⟩, ⟨PyData.keyHash w.params "left", .str "left" e2, .ref p2⟩, ⟨PyData.keyHash w.params "right", .str "right" e3, .ref p3⟩] nT, #[]⟩) (m_0 : K.lookup p0 = some ⟨.type "tuple", x0, .seq #[.int (0) y0, .int (1) z0] g0, s0⟩) (m_1 : K.lookup p1 = some ⟨.type "tuple", x1, .seq #[.int (0) y1, .int (-1) z1] g1, s1⟩) (m_2 : K.lookup p2 = some ⟨.type "tuple", x2, .seq #[.int (1) y2, .int (0) z2] g2, s2⟩) (m_3 : K.lookup p3 = some ⟨.type "tuple", x3, .seq #[.int (-1) y3, .int (0) z3] g3, s3⟩)
    (z_len : PySem.W.nsIn K mainGlobals "len" = some none)
    (z_sorted : PySem.W.nsIn K mainGlobals "sorted" = some none)
    (z_list : PySem.W.nsIn K mainGlobals "list" = some none)
    (z_range : PySem.W.nsIn K mainGlobals "range" = some none)
    (z_tuple : PySem.W.nsIn K mainGlobals "tuple" = some none)
    (z_type : PySem.W.nsIn K mainGlobals "type" = some none)
    (z_int : PySem.W.nsIn K mainGlobals "int" = some none)
    (z_isinstance : PySem.W.nsIn K mainGlobals "isinstance" = some none)
    (z_enumerate : PySem.W.nsIn K mainGlobals "enumerate" = some none)
    (z_all : PySem.W.nsIn K mainGlobals "all" = some none)
    (z_any : PySem.W.nsIn K mainGlobals "any" = some none)
    (z_sum : PySem.W.nsIn K mainGlobals "sum" = some none)
    (z_bool : PySem.W.nsIn K mainGlobals "bool" = some none)
    (z_ValueError : PySem.W.nsIn K mainGlobals "ValueError" = some none)
    (z_max : PySem.W.nsIn K mainGlobals "max" = some none) :
    ∃ fd : FuncData, (∀ (s : Shared) (v : Value), BindsTo s fd ⟨[v], []⟩ [("_law_script", v)]) ∧ ∀ base : Heap, K.In base → base.Ns mainGlobals mg → FnOk l.prog w K mg base CX0 9 fa fd ["_law_script"] (spLaw K) := by
  have e := hfa.symm.trans (PySem.W.mg_of X G a26)
  cases e
  let T : Tx K mg := {
    d_need_floor := ⟨f0, _, fun_mk (st := s_need_floor) l0 c0 k0, (fun_mk (st := s_need_floor) l0 c0 k0).binds (ps := ["floor"]) fun _ _ _ _ _ _ us hl => match us, hl with | [_], _ => rfl, PySem.W.mg_of X G a0⟩,
    d_need_standing := ⟨f1, _, fun_mk (st := s_need_standing) l1 c1 k1, (fun_mk (st := s_need_standing) l1 c1 k1).binds (ps := ["floor", "standing"]) fun _ _ _ _ _ _ us hl => match us, hl with | [_, _], _ => rfl, PySem.W.mg_of X G a1⟩,
    d_is_number := ⟨f2, _, fun_mk (st := s_is_number) l2 c2 k2, (fun_mk (st := s_is_number) l2 c2 k2).binds (ps := ["value"]) fun _ _ _ _ _ _ us hl => match us, hl with | [_], _ => rfl, PySem.W.mg_of X G a2⟩,
    d_count_places := ⟨f3, _, fun_mk (st := s_count_places) l3 c3 k3, (fun_mk (st := s_count_places) l3 c3 k3).binds (ps := ["floor"]) fun _ _ _ _ _ _ us hl => match us, hl with | [_], _ => rfl, PySem.W.mg_of X G a3⟩,
    d_column_and_row := ⟨f4, _, fun_mk (st := s_column_and_row) l4 c4 k4, (fun_mk (st := s_column_and_row) l4 c4 k4).binds (ps := ["floor", "place"]) fun _ _ _ _ _ _ us hl => match us, hl with | [_, _], _ => rfl, PySem.W.mg_of X G a4⟩,
    d_side := ⟨f5, _, fun_mk (st := s_side) l5 c5 k5, (fun_mk (st := s_side) l5 c5 k5).binds (ps := ["floor", "standing"]) fun _ _ _ _ _ _ us hl => match us, hl with | [_, _], _ => rfl, PySem.W.mg_of X G a5⟩,
    d_is_joined := ⟨f6, _, fun_mk (st := s_is_joined) l6 c6 k6, (fun_mk (st := s_is_joined) l6 c6 k6).binds (ps := ["floor", "one", "other"]) fun _ _ _ _ _ _ us hl => match us, hl with | [_, _, _], _ => rfl, PySem.W.mg_of X G a6⟩,
    d_is_line := ⟨f7, _, fun_mk (st := s_is_line) l7 c7 k7, (fun_mk (st := s_is_line) l7 c7 k7).binds (ps := ["floor"]) fun _ _ _ _ _ _ us hl => match us, hl with | [_], _ => rfl, PySem.W.mg_of X G a7⟩,
    d_count_falls := ⟨f8, _, fun_mk (st := s_count_falls) l8 c8 k8, (fun_mk (st := s_count_falls) l8 c8 k8).binds (ps := ["standing"]) fun _ _ _ _ _ _ us hl => match us, hl with | [_], _ => rfl, PySem.W.mg_of X G a8⟩,
    d_tiles_in_order := ⟨f9, _, fun_mk (st := s_tiles_in_order) l9 c9 k9, (fun_mk (st := s_tiles_in_order) l9 c9 k9).binds (ps := ["standing"]) fun _ _ _ _ _ _ us hl => match us, hl with | [_], _ => rfl, PySem.W.mg_of X G a9⟩,
    d_tile_place := ⟨f10, _, fun_mk (st := s_tile_place) l10 c10 k10, (fun_mk (st := s_tile_place) l10 c10 k10).binds (ps := ["floor", "empty", "word"]) fun _ _ _ _ _ _ us hl => match us, hl with | [_, _, _], _ => rfl, PySem.W.mg_of X G a10⟩,
    d_empty_goes := ⟨f11, _, fun_mk (st := s_empty_goes) l11 c11 k11, (fun_mk (st := s_empty_goes) l11 c11 k11).binds (ps := ["floor", "filled"]) fun _ _ _ _ _ _ us hl => match us, hl with | [_, _], _ => rfl, PySem.W.mg_of X G a11⟩,
    d_fewest := ⟨f12, _, fun_mk (st := s_fewest) l12 c12 k12, (fun_mk (st := s_fewest) l12 c12 k12).binds (ps := ["floor", "one", "other"]) fun _ _ _ _ _ _ us hl => match us, hl with | [_, _, _], _ => rfl, PySem.W.mg_of X G a12⟩,
    d_farthest := ⟨f13, _, fun_mk (st := s_farthest) l13 c13 k13, (fun_mk (st := s_farthest) l13 c13 k13).binds (ps := ["floor", "standing"]) fun _ _ _ _ _ _ us hl => match us, hl with | [_, _], _ => rfl, PySem.W.mg_of X G a13⟩,
    d_need_few_places := ⟨f14, _, fun_mk (st := s_need_few_places) l14 c14 k14, (fun_mk (st := s_need_few_places) l14 c14 k14).binds (ps := ["floor"]) fun _ _ _ _ _ _ us hl => match us, hl with | [_], _ => rfl, PySem.W.mg_of X G a14⟩,
    d_count_moves := ⟨f15, _, fun_mk (st := s_count_moves) l15 c15 k15, (fun_mk (st := s_count_moves) l15 c15 k15).binds (ps := ["goes", "one", "other"]) fun _ _ _ _ _ _ us hl => match us, hl with | [_, _, _], _ => rfl, PySem.W.mg_of X G a15⟩,
    d_first_layer := ⟨f16, _, fun_mk (st := s_first_layer) l16 c16 k16, (fun_mk (st := s_first_layer) l16 c16 k16).binds (ps := ["standing"]) fun _ _ _ _ _ _ us hl => match us, hl with | [_], _ => rfl, PySem.W.mg_of X G a16⟩,
    d_next_layer := ⟨f17, _, fun_mk (st := s_next_layer) l17 c17 k17, (fun_mk (st := s_next_layer) l17 c17 k17).binds (ps := ["goes", "layer", "before"]) fun _ _ _ _ _ _ us hl => match us, hl with | [_, _, _], _ => rfl, PySem.W.mg_of X G a17⟩,
    d_law_draw := ⟨f18, _, fun_mk (st := s_law_draw) l18 c18 k18, (fun_mk (st := s_law_draw) l18 c18 k18).binds (ps := ["_law_script", "_law_k"]) fun _ _ _ _ _ _ us hl => match us, hl with | [_, _], _ => rfl, PySem.W.mg_of X G a18⟩,
    d_law_whole := ⟨f19, _, fun_mk (st := s_law_whole) l19 c19 k19, (fun_mk (st := s_law_whole) l19 c19 k19).binds (ps := ["_law_found"]) fun _ _ _ _ _ _ us hl => match us, hl with | [_], _ => rfl, PySem.W.mg_of X G a19⟩,
    d_law_floor := ⟨f20, _, fun_mk (st := s_law_floor) l20 c20 k20, (fun_mk (st := s_law_floor) l20 c20 k20).binds (ps := ["_law_number"]) fun _ _ _ _ _ _ us hl => match us, hl with | [_], _ => rfl, PySem.W.mg_of X G a20⟩,
    d_law_standing := ⟨f21, _, fun_mk (st := s_law_standing) l21 c21 k21, (fun_mk (st := s_law_standing) l21 c21 k21).binds (ps := ["_law_script", "_law_k", "_law_floor_here"]) fun _ _ _ _ _ _ us hl => match us, hl with | [_, _, _], _ => rfl, PySem.W.mg_of X G a21⟩,
    d_law_moved := ⟨f22, _, fun_mk (st := s_law_moved) l22 c22 k22, (fun_mk (st := s_law_moved) l22 c22 k22).binds (ps := ["_law_floor_here", "_law_standing_here", "_law_word"]) fun _ _ _ _ _ _ us hl => match us, hl with | [_, _, _], _ => rfl, PySem.W.mg_of X G a22⟩,
    d_law_words := ⟨f23, _, fun_mk (st := s_law_words) l23 c23 k23, (fun_mk (st := s_law_words) l23 c23 k23).binds (ps := ["_law_floor_here", "_law_standing_here"]) fun _ _ _ _ _ _ us hl => match us, hl with | [_, _], _ => rfl, PySem.W.mg_of X G a23⟩,
    d_law_far := ⟨f24, _, fun_mk (st := s_law_far) l24 c24 k24, (fun_mk (st := s_law_far) l24 c24 k24).binds (ps := ["_law_floor_here", "_law_standing_here"]) fun _ _ _ _ _ _ us hl => match us, hl with | [_, _], _ => rfl, PySem.W.mg_of X G a24⟩,
    d_law_right := ⟨f25, _, fun_mk (st := s_law_right) l25 c25 k25, (fun_mk (st := s_law_right) l25 c25 k25).binds (ps := ["_law_found", "_law_due"]) fun _ _ _ _ _ _ us hl => match us, hl with | [_, _], _ => rfl, PySem.W.mg_of X G a25⟩,
    d_law := ⟨fa, _, fun_mk (st := s_law) l26 c26 k26, (fun_mk (st := s_law) l26 c26 k26).binds (ps := ["_law_script"]) fun _ _ _ _ _ _ us hl => match us, hl with | [_], _ => rfl, PySem.W.mg_of X G a26⟩,
    c_SlideError := ⟨C0, PySem.W.mg_of X G q0, q0x, q0k, q0b, q0t⟩,
    c_BadFloor := ⟨C1, PySem.W.mg_of X G q1, q1x, q1k, q1b, q1t⟩,
    c_BadStanding := ⟨C2, PySem.W.mg_of X G q2, q2x, q2k, q2b, q2t⟩,
    c_TooMany := ⟨C3, PySem.W.mg_of X G q3, q3x, q3k, q3b, q3t⟩,
    k_LONGEST_SIDE := ⟨t0, PySem.W.mg_of X G t0'⟩,
    k_FEWEST_PLACES := ⟨t1, PySem.W.mg_of X G t1'⟩,
    k_MOST_PLACES := ⟨t3, PySem.W.mg_of X G t3'⟩,
    b_len := PySem.W.mg_none_of X G z_len,
    b_sorted := PySem.W.mg_none_of X G z_sorted,
    b_list := PySem.W.mg_none_of X G z_list,
    b_range := PySem.W.mg_none_of X G z_range,
    b_tuple := PySem.W.mg_none_of X G z_tuple,
    b_type := PySem.W.mg_none_of X G z_type,
    b_int := PySem.W.mg_none_of X G z_int,
    b_isinstance := PySem.W.mg_none_of X G z_isinstance,
    b_enumerate := PySem.W.mg_none_of X G z_enumerate,
    b_all := PySem.W.mg_none_of X G z_all,
    b_any := PySem.W.mg_none_of X G z_any,
    b_sum := PySem.W.mg_none_of X G z_sum,
    b_bool := PySem.W.mg_none_of X G z_bool,
    b_ValueError := PySem.W.mg_none_of X G z_ValueError,
    b_max := PySem.W.mg_none_of X G z_max }
  let S : TS K w.params mg := ⟨dT, PySem.W.mg_of X G m_d, nT, e0, e1, e2, e3, p0, p1, p2, p3, m_w, m_l, ⟨_, _, _, _, _, m_0⟩, ⟨_, _, _, _, _, m_1⟩, ⟨_, _, _, _, _, m_2⟩, ⟨_, _, _, _, _, m_3⟩⟩
  exact ⟨T.d_law.fd, fun s v => .of_eq rfl, fun base _ _ => ok_law T S⟩
theorem walk {l : PySem.W.OpenLaw} {q : Program} {loose : List Str} {XP : (Str → Option Value) → Heap → Prop} {YP : World → Heap → Prop} {d : DefRec} {K : Params → PySem.W.Frag} (hn : l.most = some 63) (hdf : d.params.defaults = [])
    (hY : ∀ (w : World) (h : Heap), YP w h → (K w.params).In h)
    (F : ∀ (w : World) (mg : Str → Option Value) (fa : Addr) (h : Heap), (K w.params).In h → h.Ns mainGlobals mg → mg d.name = some (.ref fa) →
      ∃ fd : FuncData, (∀ (s : Shared) (u : Value), BindsTo s fd ⟨[u], []⟩ [("_law_script", u)]) ∧ ∀ base : Heap, (K w.params).In base → base.Ns mainGlobals mg → FnOk l.prog w (K w.params) mg base CX0 9 fa fd ["_law_script"] (spLaw (K w.params))) :
    PySem.W.WalkO q loose XP YP l.row.toRowW d [] (fun f vs => PySem.call f vs) :=
  L2.walk_of (n := 63) (k := 9) (x := "_law_script") (CX := fun _ => CX0) (sp := fun w => spLaw (K w.params)) hn (by decide) hdf ⟨rfl, by decide, by decide⟩ hY F (fun _ _ a ns hl _ hS => ⟨a, ns, rfl, hS, hl, fun _ => rfl⟩) fun _ _ _ _ _ z => z
end Sf
open PySem PySem.W PyProof.Rows
set_option maxRecDepth 100000 in
set_option maxHeartbeats 0 in
theorem PySem.Challenge.cw_slidefloor_k06_fewest_by_all_holds : PySem.Challenge.rw_slidefloor_k06_fewest_by_all.Holds := by
  w_on; o_law; k_head; (case hw => w_witness2)
  k_fill
  refine Sf.walk (l := PySem.Challenge.rw_slidefloor_k06_fewest_by_all) rfl rfl (fun w h Y => PySem.W.kIn_of Y) ?F
  case F =>
    intro w mg fa h KX G hmg
    refine' Sf.all_mk KX G hmg ?a0 ?l0 ?c0 ?k0 ?a1 ?l1 ?c1 ?k1 ?a2 ?l2 ?c2 ?k2 ?a3 ?l3 ?c3 ?k3 ?a4 ?l4 ?c4 ?k4 ?a5 ?l5 ?c5 ?k5 ?a6 ?l6 ?c6 ?k6 ?a7 ?l7 ?c7 ?k7 ?a8 ?l8 ?c8 ?k8 ?a9 ?l9 ?c9 ?k9 ?a10 ?l10 ?c10 ?k10 ?a11 ?l11 ?c11 ?k11 ?a12 ?l12 ?c12 ?k12 ?a13 ?l13 ?c13 ?k13 ?a14 ?l14 ?c14 ?k14 ?a15 ?l15 ?c15 ?k15 ?a16 ?l16 ?c16 ?k16 ?a17 ?l17 ?c17 ?k17 ?a18 ?l18 ?c18 ?k18 ?a19 ?l19 ?c19 ?k19 ?a20 ?l20 ?c20 ?k20 ?a21 ?l21 ?c21 ?k21 ?a22 ?l22 ?c22 ?k22 ?a23 ?l23 ?c23 ?k23 ?a24 ?l24 ?c24 ?k24 ?a25 ?l25 ?c25 ?k25 ?a26 ?l26 ?c26 ?k26 ?q0 ?q0x ?q0k ?q0b ?q0t ?q1 ?q1x ?q1k ?q1b ?q1t ?q2 ?q2x ?q2k ?q2b ?q2t ?q3 ?q3x ?q3k ?q3b ?q3t ?t0' ?t1' ?t3' ?m_d ?m_w ?m_l ?m_0 ?m_1 ?m_2 ?m_3 ?z_len ?z_sorted ?z_list ?z_range ?z_tuple ?z_type ?z_int ?z_isinstance ?z_enumerate ?z_all ?z_any ?z_sum ?z_bool ?z_ValueError ?z_max
    (case a0 => k_is)
    (case l0 => k_is)
    (case c0 => k_is)
    (case k0 => k_is)
    (case a1 => k_is)
    (case l1 => k_is)
    (case c1 => k_is)
    (case k1 => k_is)
    (case a2 => k_is)
    (case l2 => k_is)
    (case c2 => k_is)
    (case k2 => k_is)
    (case a3 => k_is)
    (case l3 => k_is)
    (case c3 => k_is)
    (case k3 => k_is)
    (case a4 => k_is)
    (case l4 => k_is)
    (case c4 => k_is)
    (case k4 => k_is)
    (case a5 => k_is)
    (case l5 => k_is)
    (case c5 => k_is)
    (case k5 => k_is)
    (case a6 => k_is)
    (case l6 => k_is)
    (case c6 => k_is)
    (case k6 => k_is)
    (case a7 => k_is)
    (case l7 => k_is)
    (case c7 => k_is)
    (case k7 => k_is)
    (case a8 => k_is)
    (case l8 => k_is)
    (case c8 => k_is)
    (case k8 => k_is)
    (case a9 => k_is)
    (case l9 => k_is)
    (case c9 => k_is)
    (case k9 => k_is)
    (case a10 => k_is)
    (case l10 => k_is)
    (case c10 => k_is)
    (case k10 => k_is)
    (case a11 => k_is)
    (case l11 => k_is)
    (case c11 => k_is)
    (case k11 => k_is)
    (case a12 => k_is)
    (case l12 => k_is)
    (case c12 => k_is)
    (case k12 => k_is)
    (case a13 => k_is)
    (case l13 => k_is)
    (case c13 => k_is)
    (case k13 => k_is)
    (case a14 => k_is)
    (case l14 => k_is)
    (case c14 => k_is)
    (case k14 => k_is)
    (case a15 => k_is)
    (case l15 => k_is)
    (case c15 => k_is)
    (case k15 => k_is)
    (case a16 => k_is)
    (case l16 => k_is)
    (case c16 => k_is)
    (case k16 => k_is)
    (case a17 => k_is)
    (case l17 => k_is)
    (case c17 => k_is)
    (case k17 => k_is)
    (case a18 => k_is)
    (case l18 => k_is)
    (case c18 => k_is)
    (case k18 => k_is)
    (case a19 => k_is)
    (case l19 => k_is)
    (case c19 => k_is)
    (case k19 => k_is)
    (case a20 => k_is)
    (case l20 => k_is)
    (case c20 => k_is)
    (case k20 => k_is)
    (case a21 => k_is)
    (case l21 => k_is)
    (case c21 => k_is)
    (case k21 => k_is)
    (case a22 => k_is)
    (case l22 => k_is)
    (case c22 => k_is)
    (case k22 => k_is)
    (case a23 => k_is)
    (case l23 => k_is)
    (case c23 => k_is)
    (case k23 => k_is)
    (case a24 => k_is)
    (case l24 => k_is)
    (case c24 => k_is)
    (case k24 => k_is)
    (case a25 => k_is)
    (case l25 => k_is)
    (case c25 => k_is)
    (case k25 => k_is)
    (case a26 => k_is)
    (case l26 => k_is)
    (case c26 => k_is)
    (case k26 => k_is)
    (case q0 => first | k_is | k_exc)
    (case q0x => k_exc)
    (case q0k => first | k_is | k_exc)
    (case q0b => first | k_is | k_exc)
    (case q0t => first | k_is | k_exc)
    (case q1 => first | k_is | k_exc)
    (case q1x => k_exc)
    (case q1k => first | k_is | k_exc)
    (case q1b => first | k_is | k_exc)
    (case q1t => first | k_is | k_exc)
    (case q2 => first | k_is | k_exc)
    (case q2x => k_exc)
    (case q2k => first | k_is | k_exc)
    (case q2b => first | k_is | k_exc)
    (case q2t => first | k_is | k_exc)
    (case q3 => first | k_is | k_exc)
    (case q3x => k_exc)
    (case q3k => first | k_is | k_exc)
    (case q3b => first | k_is | k_exc)
    (case q3t => first | k_is | k_exc)
    (case t0' => k_is)
    (case t1' => k_is)
    (case t3' => k_is)
    (case m_d => first | k_is | k_exc | decide | rfl)
    (case m_w => first | k_is | k_exc | decide | rfl)
    (case m_l => first | k_is | k_exc | decide | rfl)
    (case m_0 => first | k_is | k_exc | decide | rfl)
    (case m_1 => first | k_is | k_exc | decide | rfl)
    (case m_2 => first | k_is | k_exc | decide | rfl)
    (case m_3 => first | k_is | k_exc | decide | rfl)
    (case z_len => k_is)
    (case z_sorted => k_is)
    (case z_list => k_is)
    (case z_range => k_is)
    (case z_tuple => k_is)
    (case z_type => k_is)
    (case z_int => k_is)
    (case z_isinstance => k_is)
    (case z_enumerate => k_is)
    (case z_all => k_is)
    (case z_any => k_is)
    (case z_sum => k_is)
    (case z_bool => k_is)
    (case z_ValueError => k_is)
    (case z_max => k_is)
