import PyProof.Rows.All
import Wide.All
import OpenK.AllK
import Wide.FinOn
import HandS.ForMost
import HandS.Wide
import HandS.IsInst
import HandS.TupAny
import HandS.TupMul
import HandS.EndBits
import HandS.Flow
import HandS.Zip
import HandS.Style
import PyProof.ReprRoads
import HandS.Walk
import KE.GoesNew
import KE.GoesEnum
import HandS.SetFor
import KE.KTupSum
import KE.GoesMore
import HandS.NoneIn
import PySem.Challenge.RW_marblefall_k07_whole_counts_tell_the_mom
set_option Elab.async false
set_option linter.all false
set_option maxRecDepth 100000
set_option maxHeartbeats 4000000
namespace HX
open PySem PySem.Spec PyProof.Rows L2

/-! ### a def of the text by its name: where it stands; what it promises -/
def Def (K : PySem.W.Frag) (mg : Str → Option Value) (x : Str) (st : Stmt) (ps : List Str) : Prop :=
  ∃ (f : Addr) (fd : FuncData), Fun K x x st f fd ∧ mg x = some (.ref f) ∧ Binds K fd ps []
def Cal (P : Program) (w : World) (K : PySem.W.Frag) (mg : Str → Option Value) (base : Heap) (k : Nat) (x : Str) (ps : List Str) (sp : Sp) : Prop :=
  ∃ (f : Addr) (fd : FuncData), FnOk P w K mg base CX0 k f fd ps sp ∧ mg x = some (.ref f) ∧ PySem.W.keepIn K (.ref f) = true ∧ Binds K fd ps []
section
variable {P : Program} {w : World} {K : PySem.W.Frag} {mg : Str → Option Value} {base : Heap} {j k : Nat} {x : Str} {ps : List Str} {sp sp' : Sp}
theorem Cal.mono (c : Cal P w K mg base j x ps sp) (h : j ≤ k) : Cal P w K mg base k x ps sp := by
  obtain ⟨f, fd, F, a, b, d⟩ := c
  exact ⟨f, fd, F.mono h, a, b, d⟩
theorem Cal.imp (c : Cal P w K mg base k x ps sp) (h : ∀ vs H Q E, sp' vs H Q E → sp vs H Q E) : Cal P w K mg base k x ps sp' := by
  obtain ⟨f, fd, F, a, b, d⟩ := c
  exact ⟨f, fd, F.imp h, a, b, d⟩
theorem Def.ok {st : Stmt} {N : List Str} (D : Def K mg x st ps) (S : FnScope N ps (defScope st)) (len : ∀ vs H Q E, sp vs H Q E → vs.length = ps.length)
    (hbody : ∀ (f : Addr) (cdv : Value) (A : Around) (outer : List Env) (s : Shared) (H : Hp) (vs : List V) (Q : VK) (E : XK), Room k (A.deeper (envOfC x (defScope st) s.heap.objs.size f cdv)) → sp vs H Q E →
      ∃ t, PSs (cxOf CX0 P w K mg base N x (defScope st) f cdv A outer s H E).nox (defBody st) t ∧ t { nx := fun _ H' => Q .non H', rt := Q } (start N vs) H) : Cal P w K mg base (k + 1) x ps sp := by
  obtain ⟨f, fd, F, hm, hb⟩ := D
  exact ⟨f, fd, F.ok S len (hbody f), hm, F.kp, hb⟩
end
section
variable {X : Cx} {k : Nat} {x : Str} {ps : List Str} {sp : Sp} {p pos : Pos} {e : Expr} {es : List Expr} {t : TA}
theorem pe_cal (c : Cal X.prog X.w X.K X.mg X.base k x ps sp) (hr : Room k X.A) (hg : Gl X x) (ha : PA X (e :: es) t) (hdb : (x == ("__debug__" : Str)) = false := by decide) (he : starEach (e :: es) X.env = (false, eval e X.env) :: starEach es X.env := by rfl)
    (hpl : (backTo pos (starEach es X.env)).any (·.1) = false := by rfl) : PE X (.Call (.Name x p) (e :: es) [] pos) (tCall sp [] E0 t) := by
  obtain ⟨f, fd, F, hm, hk, hb⟩ := c
  exact pe_call F hr hg hm hk hb .nil pass0 ha hdb he hpl
theorem pe_cal0 (c : Cal X.prog X.w X.K X.mg X.base k x ps sp) (hr : Room k X.A) (hg : Gl X x) (hdb : (x == ("__debug__" : Str)) = false := by decide) : PE X (.Call (.Name x p) [] [] pos) (tCall sp [] E0 tNil) := by
  obtain ⟨f, fd, F, hm, hk, hb⟩ := c
  exact pe_call0 F hr hg hm hk hb .nil pass0 hdb
end

theorem pe_gint {X : Cx} {x : Str} {i : Int} {tk : Tok} {pos : Pos} (hg : Gl X x) (hm : X.mg x = some (.int i tk)) (hd : (x == ("__debug__" : Str)) = false := by decide) : PE X (.Name x pos) (tC (.int i)) := pe_glob hg hm ⟨tk, rfl⟩ hd

/-! ### data of any depth in the tracked heap; N: what may be changed meanwhile -/
mutual
inductive Da (N : Addr → Prop) (H : Hp) : V → PyData → Prop
  | non : Da N H .non .none
  | bl (b : Bool) : Da N H (.bl b) (.bool b)
  | int (i : Int) : Da N H (.int i) (.int i)
  | str (x : Str) : Da N H (.str x) (.str x)
  | lst {a : Addr} {xs : List V} {ds : List PyData} : H a = some (.lst xs) → ¬ N a → DaAll N H xs ds → Da N H (.ref a) (.list ds)
  | tup {a : Addr} {xs : List V} {ds : List PyData} : H a = some (.tup xs) → ¬ N a → DaAll N H xs ds → Da N H (.ref a) (.tuple ds)
  | dct {a : Addr} {kvs : List (Key × V)} {ds : List (PyData × PyData)} : H a = some (.dK kvs) → ¬ N a → DaAll N H (kvs.map fun p => kV p.1) (ds.map (·.1)) → DaAll N H (kvs.map (·.2)) (ds.map (·.2)) → Da N H (.ref a) (.dict ds)
inductive DaAll (N : Addr → Prop) (H : Hp) : List V → List PyData → Prop
  | nil : DaAll N H [] []
  | cons {v : V} {vs : List V} {d : PyData} {ds : List PyData} : Da N H v d → DaAll N H vs ds → DaAll N H (v :: vs) (d :: ds)
end
/-- all that was tracked, but what N may change, is as it was -/
def Kp (N : Addr → Prop) (H H' : Hp) : Prop := ∀ b o, H b = some o → ¬ N b → H' b = some o
theorem Kp.refl {N : Addr → Prop} (H : Hp) : Kp N H H := fun _ _ h _ => h
theorem Kp.trans {N : Addr → Prop} {H H1 H2 : Hp} (a : Kp N H H1) (b : Kp N H1 H2) : Kp N H H2 := fun c o h n => b c o (a c o h n) n
theorem Kp.of {N : Addr → Prop} {H H1 : Hp} (a : Same H H1) : Kp N H H1 := fun c o h _ => a c o h
theorem Same.new {H : Hp} {p : Addr} {o : HO} (h : H p = none) : Same H (upd H p o) := fun b x e => by
  rw [upd_ne (ne_of_none e h)]
  exact e
theorem Kp.new {N : Addr → Prop} {H : Hp} {p : Addr} {o : HO} (h : H p = none) : Kp N H (upd H p o) := Kp.of (Same.new h)
theorem Kp.put {N : Addr → Prop} {H : Hp} {p : Addr} {o : HO} (h : N p) : Kp N H (upd H p o) := fun b x e nb => by
  rw [upd_ne (fun z => nb (by rw [z]; exact h))]
  exact e
mutual
theorem Da.mono {N : Addr → Prop} {H H' : Hp} (k : Kp N H H') : ∀ (d : PyData) (v : V), Da N H v d → Da N H' v d
  | .none, _, h => by cases h; exact .non
  | .bool b, _, h => by cases h; exact .bl b
  | .int i, _, h => by cases h; exact .int i
  | .str x, _, h => by cases h; exact .str x
  | .list ds, _, h => by
    cases h with
    | lst e n ha => exact .lst (k _ _ e n) n (DaAll.mono k ds _ ha)
  | .tuple ds, _, h => by
    cases h with
    | tup e n ha => exact .tup (k _ _ e n) n (DaAll.mono k ds _ ha)
  | .dict ds, _, h => by
    cases h with
    | dct e n h1 h2 => exact .dct (k _ _ e n) n (DaAll.monoK k ds _ h1) (DaAll.monoV k ds _ h2)
theorem DaAll.mono {N : Addr → Prop} {H H' : Hp} (k : Kp N H H') : ∀ (ds : List PyData) (vs : List V), DaAll N H vs ds → DaAll N H' vs ds
  | [], _, h => by cases h; exact .nil
  | d :: ds, _, h => by
    cases h with
    | cons h1 h2 => exact .cons (Da.mono k d _ h1) (DaAll.mono k ds _ h2)
theorem DaAll.monoK {N : Addr → Prop} {H H' : Hp} (k : Kp N H H') : ∀ (ds : List (PyData × PyData)) (vs : List V), DaAll N H vs (ds.map (·.1)) → DaAll N H' vs (ds.map (·.1))
  | [], _, h => by cases h; exact .nil
  | (a, b) :: ds, _, h => by
    cases h with
    | cons h1 h2 => exact .cons (Da.mono k a _ h1) (DaAll.monoK k ds _ h2)
theorem DaAll.monoV {N : Addr → Prop} {H H' : Hp} (k : Kp N H H') : ∀ (ds : List (PyData × PyData)) (vs : List V), DaAll N H vs (ds.map (·.2)) → DaAll N H' vs (ds.map (·.2))
  | [], _, h => by cases h; exact .nil
  | (a, b) :: ds, _, h => by
    cases h with
    | cons h1 h2 => exact .cons (Da.mono k b _ h1) (DaAll.monoV k ds _ h2)
end
theorem DaAll.len {N : Addr → Prop} {H : Hp} : ∀ {vs : List V} {ds : List PyData}, DaAll N H vs ds → vs.length = ds.length
  | _, _, .nil => rfl
  | _, _, .cons _ t => by rw [List.length_cons, List.length_cons, DaAll.len t]
theorem DaAll.get {N : Addr → Prop} {H : Hp} : ∀ {vs : List V} {ds : List PyData} {i : Nat} {v : V}, DaAll N H vs ds → vs[i]? = some v → ∃ d, ds[i]? = some d ∧ Da N H v d
  | _, _, _, _, .nil, e => by simp at e
  | _, _, 0, _, .cons h _, e => by
    have e' := Option.some.inj e
    exact ⟨_, rfl, e' ▸ h⟩
  | _, _, i + 1, _, .cons _ t, e => by
    obtain ⟨d, h1, h2⟩ := DaAll.get (i := i) t (by simpa using e)
    exact ⟨d, by simpa using h1, h2⟩
theorem DaAll.append {N : Addr → Prop} {H : Hp} : ∀ {vs us : List V} {ds es : List PyData}, DaAll N H vs ds → DaAll N H us es → DaAll N H (vs ++ us) (ds ++ es)
  | _, _, _, _, .nil, s => s
  | _, _, _, _, .cons r t, s => .cons r (DaAll.append t s)
theorem DaAll.take {N : Addr → Prop} {H : Hp} : ∀ {vs : List V} {ds : List PyData} (n : Nat), DaAll N H vs ds → DaAll N H (vs.take n) (ds.take n)
  | _, _, 0, _ => .nil
  | _, _, _ + 1, .nil => .nil
  | _, _, n + 1, .cons r t => .cons r (DaAll.take n t)
theorem DaAll.drop {N : Addr → Prop} {H : Hp} : ∀ {vs : List V} {ds : List PyData} (n : Nat), DaAll N H vs ds → DaAll N H (vs.drop n) (ds.drop n)
  | _, _, 0, r => r
  | _, _, _ + 1, .nil => .nil
  | _, _, n + 1, .cons _ t => DaAll.drop n t
theorem DaAll.reverse {N : Addr → Prop} {H : Hp} : ∀ {vs : List V} {ds : List PyData}, DaAll N H vs ds → DaAll N H vs.reverse ds.reverse
  | _, _, .nil => .nil
  | _, _, .cons r t => by
    rw [List.reverse_cons, List.reverse_cons]
    exact DaAll.append (DaAll.reverse t) (.cons r .nil)
/-- its built-in type -/
def tyN : PyData → String
  | .none => "NoneType"
  | .bool _ => "bool"
  | .int _ => "int"
  | .str _ => "str"
  | .list _ => "list"
  | .tuple _ => "tuple"
  | .dict _ => "dict"
theorem Da.ty {K : PySem.W.Frag} {N : Addr → Prop} {H : Hp} {v : V} {d : PyData} (h : Da N H v d) : TyX K H v (.type (tyN d)) := by
  cases h with
  | non => exact .base .non
  | bl b => exact .base (.bl b)
  | int i => exact .base (.int i)
  | str x => exact .base (.str x)
  | lst e _ _ => exact .base (.lst e)
  | tup e _ _ => exact .base (.tup e)
  | dct e _ _ _ => exact .base (.dK e)
theorem Da.tupOf {N : Addr → Prop} {H : Hp} {v : V} {ds : List PyData} (h : Da N H v (.tuple ds)) : ∃ a xs, v = .ref a ∧ H a = some (.tup xs) ∧ ¬ N a ∧ DaAll N H xs ds := by
  cases h with
  | tup e n ha => exact ⟨_, _, rfl, e, n, ha⟩
theorem Da.intOf {N : Addr → Prop} {H : Hp} {v : V} {i : Int} (h : Da N H v (.int i)) : v = .int i := by
  cases h
  rfl

/-! ### the names of built-ins that no law and no module binds -/
structure Bi (mg : Str → Option Value) : Prop where
  len_ : mg "len" = none
  isinstance_ : mg "isinstance" = none
  int_ : mg "int" = none
  bool_ : mg "bool" = none
  tuple_ : mg "tuple" = none
  list_ : mg "list" = none
  all_ : mg "all" = none
  range_ : mg "range" = none
  max_ : mg "max" = none
  min_ : mg "min" = none
  repr_ : mg "repr" = none

/-! ### all([e for x in t]), e a truth that leaves the heap as it was -/
theorem tYes_eq {σ : L2.St} {H : Hp} {Q : Bool → Hp → Prop} (h : Q true H) : tYes σ H Q := h
theorem wipe1 {σ : L2.St} {j : Nat} (x : V) : wipe ((wipe σ [j]).set j (some x)) [j] = wipe σ [j] := by
  show ((σ.set j none).set j (some x)).set j none = σ.set j none
  rw [List.set_set, List.set_set]
theorem read_all {K : PySem.W.Frag} {N : Addr → Prop} {σ : L2.St} {H : Hp} {Q : VK} {i j : Nat} {te : TE} {a : Addr} {xs : List V} {ds : List PyData} (p : PyData → Bool)
    (hs : σ[i]? = some (some (.ref a))) (hx : H a = some (.tup xs)) (hd : DaAll N H xs ds) (hz : ds.length ≤ 1000)
    (ht : ∀ (x : V) (d : PyData) (H' : Hp), Same H H' → Da N H' x d → ∀ Q' : VK, (∀ H2, Same H' H2 → Q' (.bl (p d)) H2) → te ((wipe σ [j]).set j (some x)) H' Q')
    (q : ∀ H', Same H H' → Q (.bl (ds.all p)) H') : tCB (rAll K) (tCons (tLc (iTup K (tVar i)) (gName j) tYes te [j]) tNil) σ H Q := by
  refine ⟨.ref a, hs, a, rfl, ⟨xs, .inl (.inl hx)⟩, fun D hD => ?_⟩
  have hlen : xs.length = ds.length := hd.len
  refine lc_tup (xs := xs) (fun i H' => Same H H' ∧ H' D = some (.lst ((ds.take i).map fun d => V.bl (p d)))) ⟨Same.new hD, ?_⟩ (fun i H' _ h => .inl (.inl (h.1 _ _ hx))) (fun i x H' hi h => ?_) (fun H' h => ?_)
  · rw [upd_same]
    rfl
  · obtain ⟨d, e1, e2⟩ := (DaAll.mono (Kp.of h.1) _ _ hd).get hi
    refine ⟨wipe1 x, ?_⟩
    refine tYes_eq (iteT (ht x d H' h.1 e2 _ fun H2 s2 => ?_))
    refine ⟨_, s2 _ _ h.2, ?_, fun b o e => ?_, ?_⟩
    · rw [List.length_map, List.length_take]
      exact small1000 (by omega)
    · rw [upd_ne (ne_of_none e hD)]
      exact s2 _ _ (h.1 _ _ e)
    · rw [upd_same, List.take_add_one, e1, List.map_append]
      rfl
  · refine ⟨D, ds.map p, rfl, .inl (.inl ?_), ?_⟩
    · rw [h.2, hlen, List.take_length, List.map_map]
      rfl
    · rw [List.all_map]
      exact q H' h.1
end HX

set_option maxRecDepth 100000
set_option maxHeartbeats 4000000
namespace HX
open PySem PySem.Spec PyProof.Rows L2
/-! ### t[::-1] of a tuple -/
theorem adjust_rev (n : Nat) : Builtin.Slice.sliceAdjust none none (-1) (n : Int) = ((n : Int) - 1, -1) := rfl
theorem places_rev (n : Nat) : Builtin.Slice.slicePlaces ((n : Int) - 1) (-1) (-1) = n := by
  unfold Builtin.Slice.slicePlaces
  rw [if_neg (by decide)]
  show (if (n : Int) - 1 > -1 then ((n : Int) - 1 - -1 - 1) / 1 + 1 else 0).toNat = n
  rw [Int.ediv_one]
  split <;> omega
theorem pick_rev (xs : List Value) : ((List.range xs.length).filterMap fun (k : Nat) => xs.toArray[(((xs.length : Int) - 1) + (k : Int) * -1).toNat]?) = xs.reverse := by
  have e : (fun (k : Nat) => xs.toArray[(((xs.length : Int) - 1) + (k : Int) * -1).toNat]?) = fun k => xs[xs.length - 1 - k]? := by
    funext k
    rw [List.getElem?_toArray]
    congr 1
    omega
  rw [e]
  refine List.ext_getElem? fun i => ?_
  have h1 : ∀ (m : Nat), m ≤ xs.length → ((List.range m).filterMap fun k => xs[xs.length - 1 - k]?) = (List.range m).map fun k => (xs[xs.length - 1 - k]?).getD .none := by
    intro m
    induction m with
    | zero => intro _; rfl
    | succ m ih =>
      intro hm
      rw [List.range_succ, List.filterMap_append, List.map_append, ih (by omega)]
      congr 1
      have hb : xs.length - 1 - m < xs.length := by omega
      simp [List.getElem?_eq_getElem hb]
  rw [h1 _ (Nat.le_refl _)]
  by_cases hi : i < xs.length
  · rw [List.getElem?_map, List.getElem?_range hi, List.getElem?_reverse hi]
    have hb : xs.length - 1 - i < xs.length := by omega
    simp [List.getElem?_eq_getElem hb]
  · rw [List.getElem?_eq_none (by simp; omega), List.getElem?_eq_none (by simp; omega)]
section
variable {prog : Program} {w : World} {A : Around} {E : Value → Shared → Prop} {s : Shared}
theorem sliceApplied_rev {sl : Addr} {vl vu vs : Value} {n : Nat} {Q : Int × Int × Nat → Shared → Prop} (hs : s.heap.IsSliceOf sl vl vu vs) (pl : IsPart vl none) (pu : IsPart vu none) (ps : IsPart vs (some (-1)))
    (h : Q ((n : Int) - 1, -1, n) s) : wpAny (model prog w) A (Builtin.Slice.sliceApplied (.ref sl) (pure (n : Int))) Q E s := by
  obtain ⟨os, hos, hcs, hds⟩ := id hs
  unfold Builtin.Slice.sliceApplied Builtin.Slice.sliceFields
  refine wpAny_bind (wpAny_bind (wpAny_field hos hds (x := vl) rfl (wpAny_bind (wpAny_field hos hds (x := vu) rfl (wpAny_bind (wpAny_field hos hds (x := vs) rfl (wpAny_pure ?_)))))))
  refine wpAny_bind (HT.slicePart_ ps ?_)
  show wpAny _ _ (if ((-1 : Int) == 0) = true then _ else _) _ _ s
  rw [if_neg (by decide)]
  refine wpAny_bind (HT.slicePart_ pl (wpAny_bind (HT.slicePart_ pu (wpAny_bind (wpAny_pure ?_)))))
  show wpAny _ _ (pure ((n : Int) - 1, (-1 : Int), Builtin.Slice.slicePlaces ((n : Int) - 1) (-1) (-1))) _ _ s
  rw [places_rev]
  exact wpAny_pure h
theorem getItem_tuple_rev {t sl : Addr} {its : List Value} {vl vu vs : Value} {Q : Value → Shared → Prop} (ht : IsTup s.heap t its.toArray) (hs : s.heap.IsSliceOf sl vl vu vs) (pl : IsPart vl none) (pu : IsPart vu none) (ps : IsPart vs (some (-1)))
    (h : Q (.ref s.heap.objs.size) { s with heap := s.heap.push { cls := .type "tuple", data := .seq its.reverse.toArray } }) (hsz : its.length ≤ sizeLine) : wpAny (model prog w) A (getItem (.ref t) (.ref sl)) Q E s := by
  have htake : sizeOk (.seq its.reverse.toArray) := by
    show its.reverse.toArray.size ≤ sizeLine
    rw [List.size_toArray, List.length_reverse]
    exact hsz
  obtain ⟨os, hos, hcs, hds⟩ := id hs
  have hTs : s.TypeIs (.ref sl) "slice" := ⟨os, hos, hcs⟩
  unfold getItem
  try with_reducible refine wpAny_holding ?_
  first | refine wpAny_bind (wpAny_pure ?_) | skip
  refine wpAny_bind (wpAny_sequenceKey ht.typeIs (by decide) ?_)
  refine wpAny_bind (wpAny_callSpecial?_slot (name := Str.ofString "__getitem__") ht.typeIs PyProof.Rows.slot_tuple_getitem
    (wpAny_call_entry PyProof.Rows.slot_tuple_getitem ht.typeIs entry_tuple_getitem ?_ (args_tuple_getitem _ _)))
  show wpAny _ _ (Builtin.Tuple.tupleItemsOf (.ref t) >>= _) _ _ s
  refine wpAny_bind (tupleItemsOf_ ht ?_)
  refine wpAny_bind (wpAny_typeOf hTs ?_)
  rw [if_pos (by decide)]
  refine wpAny_bind (sliceApplied_rev (n := its.toArray.size) hs pl pu ps ?_)
  have hno : ¬ ((((its.toArray.size : Nat) : Int) - 1 == 0 && (-1 : Int) == 1 && its.toArray.size == its.toArray.size) = true) := by
    intro q
    rw [Bool.and_eq_true, Bool.and_eq_true] at q
    exact absurd (eq_of_beq q.1.2) (by decide)
  show wpAny _ _ (if (((its.toArray.size : Nat) : Int) - 1 == 0 && (-1 : Int) == 1 && its.toArray.size == its.toArray.size) = true then _ else _) _ _ s
  rw [if_neg hno, List.size_toArray, pick_rev]
  first
    | exact wpAny_bind (m := Builtin.Tuple.tupleExact _) (wpAny_newObj_type (wpAny_pure ⟨_, rfl, wpAny_pure h⟩) htake)
    | exact wpAny_bind (m := Builtin.Tuple.tupleExact _) (wpAny_newObj_type (wpAny_bind (wpAny_pure (wpAny_pure ⟨_, rfl, wpAny_pure h⟩))) htake)
    | exact wpAny_bind (wpAny_bind (m := Builtin.Tuple.tupleExact _) (wpAny_newObj_type (wpAny_pure (wpAny_pure ⟨_, rfl, wpAny_pure h⟩)) htake))
    | exact wpAny_bind (wpAny_bind (m := Builtin.Tuple.tupleExact _) (wpAny_newObj_type (wpAny_pure ⟨_, rfl, wpAny_pure h⟩) htake))
end
section
variable {X : Cx}
def tRevT (K : PySem.W.Frag) (te : TE) : TE := fun σ H Q => te σ H fun x H1 => ∃ a xs, x = .ref a ∧ SqT K H1 a xs ∧ ∀ p, H1 p = none → Q (.ref p) (upd H1 p (.tup xs.reverse))
theorem pe_revT {e : Expr} {te : TE} {k : Nat} {p1 p2 p3 pos : Pos} (he : PE X e te) : PE X (.Subscript e (.Slice none none (some (.UnaryOp .USub (.Constant (.int 1) k p1) p2)) p3) pos) (tRevT X.K te) := by
  refine ⟨fun pins s σ H Q I h => ?_⟩
  refine Subscript_ (thn (he.run pins s σ H _ I h) fun v s1 ⟨x, H1, I1, r1, q1⟩ => ?_)
  obtain ⟨a, xs, ex, hx, q⟩ := q1
  subst ex
  cases r1
  have hst : PO X (some (.UnaryOp .USub (.Constant (.int 1) k p1) p2)) (tPart (tUn (rU fun i => .int (-i)) (tC (.int 1)))) := po_some (pe_un un_neg pe_int)
  refine wpAny_Slice (thn (po_none.run pins s1 σ H1 (fun o H2 => o = none ∧ H2 = H1) I1 ⟨rfl, rfl⟩) fun vl s2 ⟨l, H2, I2, pl, el, e2⟩ => ?_)
  subst el e2
  refine thn (po_none.run pins s2 σ H2 (fun o H3 => o = none ∧ H3 = H2) I2 ⟨rfl, rfl⟩) fun vu s3 ⟨u, H3, I3, pu, eu, e3⟩ => ?_
  subst eu e3
  refine thn (hst.run pins s3 σ H3 (fun o H4 => o = some (-1) ∧ H4 = H3) I3 ⟨1, rfl, -1, rfl, rfl, rfl⟩) fun vs s4 ⟨o, H4, I4, ps, eo, e4⟩ => ?_
  subst eo e4
  have I5 : Inv X pins σ H4 { s4 with heap := s4.heap.push { cls := .type "slice", data := .fields #[vl, vu, vs] } } := I4.kept (t' := s4.toks) fun b ob q => Heap.get?_push_of_some _ q
  obtain ⟨its, r, ht, hz⟩ := I5.tuple hx
  have hlen := r.length
  show wpAny (model X.prog X.w) X.A (subscriptTail e (.Slice none none (some (.UnaryOp .USub (.Constant (.int 1) k p1) p2)) p3) (.ref a) (.ref s4.heap.objs.size)) (EP X pins σ Q) X.xe { s4 with heap := s4.heap.push { cls := .type "slice", data := .fields #[vl, vu, vs] } }
  refine tail_any (ops := [.ref a, .ref s4.heap.objs.size]) ht.typeIs (PyProof.Rows.slot_tuple_getitem.lookup) ?_ (by with_unfolding_all rfl)
  refine getItem_tuple_rev ht (Heap.IsSliceOf.new _ vl vu vs) pl pu ps ?_ (by omega)
  refine ⟨.ref _, _, I5.laid (t' := s4.toks) (o := .tup xs.reverse) (fun b ob q => Heap.get?_push_of_some _ q) (Nat.le_refl _) ?_, rfl, q _ (I5.hok.fresh (Nat.le_refl _))⟩
  exact ⟨by rw [List.length_reverse]; exact hz, _, r.reverse, ⟨_, Heap.get?_push_size _ rfl, rfl, _, rfl⟩⟩
/-! ### t == () -/
def rEqE (K : PySem.W.Frag) : R2 := fun x y H Q => ∃ a b xs, x = .ref a ∧ y = .ref b ∧ SqT K H a xs ∧ SqT K H b [] ∧ Q (.bl xs.isEmpty) H
theorem op_eqE (hu : X.A.units < cLine) : OpR X (compareOp .Eq) (rEqE X.K) := by
  intro pins s σ H x y v u Q I rx ry h
  obtain ⟨a, b, xs, rfl, rfl, ha, hb, q⟩ := h
  cases rx
  cases ry
  obtain ⟨its, r1, t1, _⟩ := I.tuple ha
  obtain ⟨its2, r2, t2, _⟩ := I.tuple hb
  cases r2
  refine SeqAt.eq_tupleAt (e := fun _ => true) t1 t2 hu (fun j h1 h2 => absurd h2 (by simp)) ?_
  refine ⟨.bl _, H, I, ?_, q⟩
  show _ = Value.bool xs.isEmpty
  congr 1
  cases r1 <;> rfl
end
end HX

set_option maxRecDepth 100000
set_option maxHeartbeats 4000000
namespace HX
open PySem PySem.Spec PyProof.Rows L2
/-! ### calls below which no text of a value is being made (guards), and sys.modules stands untracked -/
structure Ent (A : Around) (s : Shared) (H : Hp) : Prop where
  gu : A.guards = some []
  sm : ∃ o, s.heap.get? sysModules = some o
  hm : H sysModules = none
structure FnG (P : Program) (w : World) (K : PySem.W.Frag) (mg : Str → Option Value) (base : Heap) (k : Nat) (f : Addr) (fd : FuncData) (ps : List Str) (sp : Sp) : Prop where
  len : ∀ vs H Q E, sp vs H Q E → vs.length = ps.length
  run : ∀ (A : Around) (outer : List Env) (s : Shared) (H : Hp) (args : Args) (us : List Value) (vs : List V) (Q : VK) (E : XK), Ent A s H → Room k A → Env0 P w K mg base A outer s H → BindsTo s fd args (ps.zip us) → Vals vs us → sp vs H Q E →
    codeAny (model P w) A (.call (.ref f) args) (CR CX0 outer P w H s Q E) s
section
variable {P : Program} {w : World} {K : PySem.W.Frag} {mg : Str → Option Value} {base : Heap}
theorem Fun.okG {x qual : Str} {st : Stmt} {f : Addr} {fd : FuncData} {N ps : List Str} {k : Nat} {sp : Sp} (F : Fun K x qual st f fd) (S : FnScope N ps (defScope st)) (len : ∀ vs H Q E, sp vs H Q E → vs.length = ps.length)
    (hbody : ∀ (cdv : Value) (A : Around) (outer : List Env) (s : Shared) (H : Hp) (vs : List V) (Q : VK) (E : XK), Ent A s H → Room k (A.deeper (envOfC qual (defScope st) s.heap.objs.size f cdv)) → sp vs H Q E →
      ∃ t, PSs (cxOf CX0 P w K mg base N qual (defScope st) f cdv A outer s H E).nox (defBody st) t ∧ t { nx := fun _ H' => Q .non H', rt := Q } (start N vs) H) : FnG P w K mg base (k + 1) f fd ps sp := by
  obtain ⟨oc, od, kV, doc, pm, an, cdv, ct, osl, rfl, lk, hcd⟩ := F.ex
  refine ⟨len, fun A outer s H args us vs Q E en hr e0 hb r hsp => ?_⟩
  have hl := len _ _ _ _ hsp
  have KX : K.In s.heap := e0.mod.kin.keeps fun b o e => (e0.bs b o e).1
  have lim : s.heap.NoLimit := e0.mod.nolimit.keeps fun b o e => (e0.bs b o e).1
  have hkind : ∀ y ∈ ps.zip us, (defScope st).names.lookup y.1 = some .local ∨ ((defScope st).names.lookup y.1 = some .cell ∧ ((cellsFrom (s.heap.objs.size + 1) (defScope st).names []).lookup y.1).isSome = true) := by
    rintro ⟨n, v⟩ hy
    rcases S.par n (List.of_mem_zip hy).1 with q | q
    · exact .inl q
    · exact .inr ⟨q, PySem.W.cellsFrom_some _ _ _ (.inl q)⟩
  refine codeAny_call_function hr.depth (KX _ _ lk) rfl S.co S.gen rfl (PySem.W.codeRec_of KX hcd) (hb _ _ _ _ ?_)
  refine wpAny_newFunctionEnv_cells S.kind hkind fun env he s1 xx => ?_
  subst he
  refine ⟨lim.keeps xx.toInCall.keep, codeAny_func ?_⟩
  obtain ⟨t, ht, hq⟩ := hbody cdv A outer s H vs Q E en (hr.deeper _) hsp
  have I := inv_start (CX := CX0) (E := E) S hr.hd e0 hl r xx
  refine wpAny_mono (ht.nox.run [] s1 (start N vs) H _ I hq) (fun fl s' hs => ?_) fun e s' hs => hs
  cases fl with
  | ret u =>
    obtain ⟨v, σ', H', J, rv, q⟩ := hs
    exact ⟨v, H', J.os, J.bare, J.base, J.hok, rv, q⟩
  | next =>
    obtain ⟨σ', H', J, q⟩ := hs
    exact ⟨V.non, H', J.os, J.bare, J.base, J.hok, rfl, q⟩
  | brk =>
    obtain ⟨_, _, _, q⟩ := hs
    exact False.elim q
  | cont =>
    obtain ⟨_, _, _, q⟩ := hs
    exact False.elim q
def CalG (P : Program) (w : World) (K : PySem.W.Frag) (mg : Str → Option Value) (base : Heap) (k : Nat) (x : Str) (ps : List Str) (sp : Sp) : Prop :=
  ∃ (f : Addr) (fd : FuncData), FnG P w K mg base k f fd ps sp ∧ mg x = some (.ref f) ∧ PySem.W.keepIn K (.ref f) = true ∧ Binds K fd ps []
theorem CalG.mono {j k : Nat} {x : Str} {ps : List Str} {sp : Sp} (c : CalG P w K mg base j x ps sp) (h : j ≤ k) : CalG P w K mg base k x ps sp := by
  obtain ⟨f, fd, F, a, b, d⟩ := c
  exact ⟨f, fd, ⟨F.len, fun A outer s H args us vs Q E en hr => F.run A outer s H args us vs Q E en (hr.mono h)⟩, a, b, d⟩
theorem Def.okG {k : Nat} {x : Str} {ps : List Str} {sp : Sp} {st : Stmt} {N : List Str} (D : Def K mg x st ps) (S : FnScope N ps (defScope st)) (len : ∀ vs H Q E, sp vs H Q E → vs.length = ps.length)
    (hbody : ∀ (f : Addr) (cdv : Value) (A : Around) (outer : List Env) (s : Shared) (H : Hp) (vs : List V) (Q : VK) (E : XK), Ent A s H → Room k (A.deeper (envOfC x (defScope st) s.heap.objs.size f cdv)) → sp vs H Q E →
      ∃ t, PSs (cxOf CX0 P w K mg base N x (defScope st) f cdv A outer s H E).nox (defBody st) t ∧ t { nx := fun _ H' => Q .non H', rt := Q } (start N vs) H) : CalG P w K mg base (k + 1) x ps sp := by
  obtain ⟨f, fd, F, hm, hb⟩ := D
  exact ⟨f, fd, Fun.okG F S len (hbody f), hm, F.kp, hb⟩
end
/-- a body's context below which nothing is shown -/
structure EntX (X : Cx) : Prop where
  gu : X.A.guards = some []
  sm : ∃ o, X.s_0.heap.get? sysModules = some o
  hm : X.H_0 sysModules = none
  ex : sysModules ∉ X.ex
section
variable {X : Cx} {pins : List (Addr × Obj)} {σ : L2.St} {H : Hp} {s : Shared}
theorem inv_sys (I : Inv X pins σ H s) (e : EntX X) : H sysModules = none ∧ ∃ o, s.heap.get? sysModules = some o := by
  obtain ⟨o, ho⟩ := e.sm
  exact ⟨I.base.free _ o ho e.hm e.ex, I.base.there _ o ho e.ex⟩
theorem pe_calG {k : Nat} {x : Str} {ps : List Str} {sp : Sp} {p pos : Pos} {e : Expr} {es : List Expr} {t : TA} (en : EntX X) (c : CalG X.prog X.w X.K X.mg X.base k x ps sp) (hr : Room k X.A) (hg : Gl X x) (ha : PA X (e :: es) t) (hdb : (x == ("__debug__" : Str)) = false := by decide)
    (he : starEach (e :: es) X.env = (false, eval e X.env) :: starEach es X.env := by rfl) (hpl : (backTo pos (starEach es X.env)).any (·.1) = false := by rfl) : PE X (.Call (.Name x p) (e :: es) [] pos) (tCall sp [] E0 t) := by
  obtain ⟨f, fd, F, hm, hk, hb⟩ := c
  refine ⟨fun pins s σ H Q I h => ?_⟩
  refine wpAny_Call_Name_kw (ld_glob I hg hm ?_ hdb)
  refine PySem.W.callWith_K (h₀ := X.base) I.ok.mod.kin hk (thn (ha.run pos pins s σ H _ I h) fun us s1 ⟨vs, H1, I1, r, q⟩ => ⟨I1.kIn, ?_⟩) he hpl
  have q' : sp vs H1 Q E0 := by
    have q2 : sp (vs ++ []) H1 Q E0 := q
    rw [List.append_nil] at q2
    exact q2
  have hl : us.length = ps.length := by
    rw [← r.length]
    exact F.len _ _ _ _ q'
  obtain ⟨z1, z2⟩ := inv_sys I1 en
  have hb' := hb s1 us I1.kIn (by rw [List.append_nil]; exact hl)
  rw [List.append_nil] at hb'
  refine wpAny_call (codeAny_mono (F.run X.A X.stack s1 H1 ⟨us, []⟩ us vs Q E0 ⟨en.gu, z2, z1⟩ hr I1.env0 hb' r q') fun rr s' hq => ?_)
  cases rr with
  | error e => exact False.elim hq
  | ok fl =>
    cases fl with
    | ret u => exact I1.after hq
    | next => exact False.elim hq
    | brk => exact False.elim hq
    | cont => exact False.elim hq
end
/-! ### data as the model reads it -/
theorem kV_rel {k : Key} {u : Value} (h : keyIs k u = true) : RelV (kV k) u := by
  rcases keyIs_shape h with ⟨i, t, rfl, rfl⟩ | ⟨x, t, rfl, rfl⟩
  · exact ⟨t, rfl⟩
  · exact ⟨t, rfl⟩
theorem pairs_vals {prog : Program} {w : World} {l : List DictEntry} {vs : List (Key × Value)} (hp : Pairs (mixKind prog w) l vs) : ∀ {kvs : List (Key × V)}, KV kvs vs → Vals (kvs.map fun p => kV p.1) (l.map (·.key)) ∧ Vals (kvs.map (·.2)) (l.map (·.val)) := by
  induction hp with
  | nil =>
    intro kvs rv
    cases rv
    exact ⟨.nil, .nil⟩
  | cons hk hv _ ih =>
    intro kvs rv
    cases rv with
    | cons q qs =>
      obtain ⟨i1, i2⟩ := ih qs
      obtain ⟨q1, q2⟩ := q
      refine ⟨.cons ?_ i1, .cons ?_ i2⟩
      · dsimp only
        rw [q1]
        exact kV_rel hk
      · dsimp only
        rw [hv]
        exact q2
section
variable {X : Cx} {pins : List (Addr × Obj)} {σ : L2.St} {H : Hp} {s : Shared} {N : Addr → Prop}
mutual
theorem Da.reads (I : Inv X pins σ H s) : ∀ (d : PyData) (v : V) (u : Value), Da N H v d → RelV v u → ∃ as, Reads s.heap u d as ∧ ∀ a ∈ as, H a ≠ none
  | .none, _, _, h, r => by
    cases h
    cases r
    exact ⟨_, Reads.none, fun _ z => nomatch z⟩
  | .bool b, _, _, h, r => by
    cases h
    cases r
    exact ⟨_, Reads.bool b, fun _ z => nomatch z⟩
  | .int i, _, _, h, r => by
    cases h
    obtain ⟨t, rfl⟩ := r
    exact ⟨_, Reads.int i t, fun _ z => nomatch z⟩
  | .str x, _, _, h, r => by
    cases h
    obtain ⟨t, rfl⟩ := r
    exact ⟨_, Reads.str x t, fun _ z => nomatch z⟩
  | .list ds, _, _, h, r => by
    cases h with
    | @lst a xs _ e _ ha =>
      cases r
      obtain ⟨_, its, n, rv, ho⟩ := I.hok a _ e
      obtain ⟨as, hr, hn⟩ := Da.readsAll I ds _ its ha rv
      refine ⟨_, Reads.list ho rfl rfl (by simpa using hr), fun b hb => ?_⟩
      rcases List.mem_cons.mp hb with rfl | hb
      · rw [e]
        exact fun z => nomatch z
      · exact hn b hb
  | .tuple ds, _, _, h, r => by
    cases h with
    | @tup a xs _ e _ ha =>
      cases r
      obtain ⟨_, its, rv, o, ho, hc, n, hd⟩ := I.hok a _ e
      obtain ⟨as, hr, hn⟩ := Da.readsAll I ds _ its ha rv
      exact ⟨_, Reads.tuple ho hc hd (by simpa using hr), hn⟩
  | .dict ds, _, _, h, r => by
    cases h with
    | @dct a kvs _ e _ h1 h2 =>
      cases r
      obtain ⟨_, _, vs, rv, o, es, ep, ho, hx, hd, _, hp, _⟩ := I.hok a _ e
      have hk := pairs_vals hp rv
      obtain ⟨as, r1, n1⟩ := Da.readsK I ds _ _ h1 hk.1
      obtain ⟨bs, r2, n2⟩ := Da.readsV I ds _ _ h2 hk.2
      refine ⟨_, Reads.dict ho hx.1 hd r1 r2, fun b hb => ?_⟩
      rcases List.mem_append.mp hb with hb | hb
      · rcases List.mem_cons.mp hb with rfl | hb
        · rw [e]
          exact fun z => nomatch z
        · exact n1 b hb
      · exact n2 b hb
theorem Da.readsAll (I : Inv X pins σ H s) : ∀ (ds : List PyData) (vs : List V) (us : List Value), DaAll N H vs ds → Vals vs us → ∃ as, ReadsAll s.heap us ds as ∧ ∀ a ∈ as, H a ≠ none
  | [], _, _, h, r => by
    cases h
    cases r
    exact ⟨_, ReadsAll.nil, fun _ z => nomatch z⟩
  | d :: ds, _, _, h, r => by
    cases h with
    | cons h1 h2 =>
      cases r with
      | cons r1 r2 =>
        obtain ⟨as, q1, n1⟩ := Da.reads I d _ _ h1 r1
        obtain ⟨bs, q2, n2⟩ := Da.readsAll I ds _ _ h2 r2
        exact ⟨_, ReadsAll.cons q1 q2, fun b hb => (List.mem_append.mp hb).elim (n1 b) (n2 b)⟩
theorem Da.readsK (I : Inv X pins σ H s) : ∀ (ds : List (PyData × PyData)) (vs : List V) (us : List Value), DaAll N H vs (ds.map (·.1)) → Vals vs us → ∃ as, ReadsAll s.heap us (ds.map (·.1)) as ∧ ∀ a ∈ as, H a ≠ none
  | [], _, _, h, r => by
    cases h
    cases r
    exact ⟨_, ReadsAll.nil, fun _ z => nomatch z⟩
  | (d, e) :: ds, _, _, h, r => by
    cases h with
    | cons h1 h2 =>
      cases r with
      | cons r1 r2 =>
        obtain ⟨as, q1, n1⟩ := Da.reads I d _ _ h1 r1
        obtain ⟨bs, q2, n2⟩ := Da.readsK I ds _ _ h2 r2
        exact ⟨_, ReadsAll.cons q1 q2, fun b hb => (List.mem_append.mp hb).elim (n1 b) (n2 b)⟩
theorem Da.readsV (I : Inv X pins σ H s) : ∀ (ds : List (PyData × PyData)) (vs : List V) (us : List Value), DaAll N H vs (ds.map (·.2)) → Vals vs us → ∃ as, ReadsAll s.heap us (ds.map (·.2)) as ∧ ∀ a ∈ as, H a ≠ none
  | [], _, _, h, r => by
    cases h
    cases r
    exact ⟨_, ReadsAll.nil, fun _ z => nomatch z⟩
  | (e, d) :: ds, _, _, h, r => by
    cases h with
    | cons h1 h2 =>
      cases r with
      | cons r1 r2 =>
        obtain ⟨as, q1, n1⟩ := Da.reads I d _ _ h1 r1
        obtain ⟨bs, q2, n2⟩ := Da.readsV I ds _ _ h2 r2
        exact ⟨_, ReadsAll.cons q1 q2, fun b hb => (List.mem_append.mp hb).elim (n1 b) (n2 b)⟩
end
end
/-! ### how long its text is, at most -/
mutual
def wt : PyData → Nat
  | .none => 4
  | .bool _ => 5
  | .int _ => 130
  | .str x => (reprText x).length
  | .list ds => 2 + wtAll ds
  | .tuple ds => 3 + wtAll ds
  | .dict ds => 2 + wtKv ds
def wtAll : List PyData → Nat
  | [] => 0
  | d :: ds => wt d + 2 + wtAll ds
def wtKv : List (PyData × PyData) → Nat
  | [] => 0
  | (a, b) :: ds => wt a + wt b + 4 + wtKv ds
end
mutual
/-- its whole numbers lie within b -/
def within (b : Int) : PyData → Prop
  | .none => True
  | .bool _ => True
  | .int i => -b ≤ i ∧ i ≤ b
  | .str _ => True
  | .list ds => withinAll b ds
  | .tuple ds => withinAll b ds
  | .dict ds => withinKv b ds
def withinAll (b : Int) : List PyData → Prop
  | [] => True
  | d :: ds => within b d ∧ withinAll b ds
def withinKv (b : Int) : List (PyData × PyData) → Prop
  | [] => True
  | (x, y) :: ds => within b x ∧ within b y ∧ withinKv b ds
end
theorem textFrom_le : ∀ (ts : List Str) (k : Nat) (acc : Str), (textFrom k acc ts).length ≤ acc.length + piled ts
  | [], _, _ => Nat.le_add_right _ _
  | t :: ts, k, acc => by
    have h := textFrom_le ts (k + 1) (acc ++ (if k > 0 then ", " else "" : String) ++ t)
    have e : (acc ++ (if k > 0 then ", " else "" : String) ++ t).length ≤ acc.length + 2 + t.length := by
      rw [strLen_append, strLen_append]
      have : (Str.ofString (if k > 0 then ", " else "" : String)).length ≤ 2 := by split <;> decide
      omega
    rw [piled_cons]
    show (textFrom (k + 1) _ ts).length ≤ _
    omega
theorem listText_le (ts : List Str) : (listText ts).length ≤ 2 + piled ts := by
  unfold listText
  have h := textFrom_le ts 0 "["
  rw [strLen_append]
  have e1 : (Str.ofString "[").length = 1 := by decide
  have e2 : (Str.ofString "]").length = 1 := by decide
  have h' : (textFrom 0 (Str.ofString "[") ts).length ≤ (Str.ofString "[").length + piled ts := h
  show (textFrom 0 (Str.ofString "[") ts).length + (Str.ofString "]").length ≤ _
  omega
theorem join_le (ts : List Str) : (Str.join ", " ts).length ≤ piled ts := by
  by_cases h : ts = []
  · subst h
    decide
  · have := join_length_add ts h
    omega
theorem tupleText_le (ts : List Str) : (tupleText ts).length ≤ 3 + piled ts := by
  unfold tupleText
  have h := join_le ts
  rw [strLen_append, strLen_append]
  have e1 : (Str.ofString "(").length = 1 := by decide
  have e2 : (Str.ofString (if ts.length == 1 then ",)" else ")" : String)).length ≤ 2 := by split <;> decide
  show (Str.ofString "(").length + (Str.join (Str.ofString ", ") ts).length + (Str.ofString (if ts.length == 1 then ",)" else ")" : String)).length ≤ _
  have h' : (Str.join (Str.ofString ", ") ts).length ≤ piled ts := h
  omega
theorem dictText_le (ts : List Str) : (dictText ts).length ≤ 2 + piled ts := by
  unfold dictText
  have h := join_le ts
  rw [strLen_append, strLen_append]
  have e1 : (Str.ofString "{").length = 1 := by decide
  have e2 : (Str.ofString "}").length = 1 := by decide
  show (Str.ofString "{").length + (Str.join (Str.ofString ", ") ts).length + (Str.ofString "}").length ≤ _
  have h' : (Str.join (Str.ofString ", ") ts).length ≤ piled ts := h
  omega
theorem int_log {i b : Int} (h : -b ≤ i ∧ i ≤ b) (hb : b < 2 ^ 120) : i.natAbs.log2 < 120 := by
  have h1 : i.natAbs < 2 ^ 120 := by omega
  exact PySem.Flt.log2_lt_of (by decide) h1
mutual
theorem shown_le {b : Int} (hb : b < 2 ^ 120) : ∀ d : PyData, within b d → d.shown.length ≤ wt d ∧ d.showable = true
  | .none, _ => by
    simp only [PyData.shown, PyData.showable, wt]
    decide
  | .bool c, _ => by
    cases c <;> (simp only [PyData.shown, PyData.showable, wt]; decide)
  | .int i, h => by
    have h' : -b ≤ i ∧ i ≤ b := by simpa only [within] using h
    have hl := int_log h' hb
    simp only [PyData.shown, PyData.showable, wt]
    have q := int_text_length_le (a := i) (k := 120) (by decide) hl
    refine ⟨?_, decide_eq_true (by omega)⟩
    have e := PySem.ofString_length (toString i)
    show (Str.ofString (toString i)).length ≤ 130
    omega
  | .str x, _ => by
    simp only [PyData.shown, PyData.showable, wt]
    exact ⟨Nat.le_refl _, trivial⟩
  | .list ds, h => by
    have h' : withinAll b ds := by simpa only [within] using h
    obtain ⟨q1, q2⟩ := shownAll_le hb ds h'
    simp only [PyData.shown, PyData.showable, wt]
    have := listText_le (PyData.shownAll ds)
    exact ⟨by omega, q2⟩
  | .tuple ds, h => by
    have h' : withinAll b ds := by simpa only [within] using h
    obtain ⟨q1, q2⟩ := shownAll_le hb ds h'
    simp only [PyData.shown, PyData.showable, wt]
    have := tupleText_le (PyData.shownAll ds)
    exact ⟨by omega, q2⟩
  | .dict ds, h => by
    have h' : withinKv b ds := by simpa only [within] using h
    obtain ⟨q1, q2⟩ := shownKv_le hb ds h'
    simp only [PyData.shown, PyData.showable, wt]
    have := dictText_le (PyData.shownKv ds)
    exact ⟨by omega, q2⟩
theorem shownAll_le {b : Int} (hb : b < 2 ^ 120) : ∀ ds : List PyData, withinAll b ds → piled (PyData.shownAll ds) ≤ wtAll ds ∧ PyData.showableAll ds = true
  | [], _ => by
    simp only [PyData.shownAll, PyData.showableAll, wtAll]
    exact ⟨Nat.le_refl _, trivial⟩
  | d :: ds, h => by
    have h' : within b d ∧ withinAll b ds := by simpa only [withinAll] using h
    obtain ⟨a1, a2⟩ := shown_le hb d h'.1
    obtain ⟨b1, b2⟩ := shownAll_le hb ds h'.2
    simp only [PyData.shownAll, PyData.showableAll, wtAll]
    rw [piled_cons, a2, b2]
    exact ⟨by omega, rfl⟩
theorem shownKv_le {b : Int} (hb : b < 2 ^ 120) : ∀ ds : List (PyData × PyData), withinKv b ds → piled (PyData.shownKv ds) ≤ wtKv ds ∧ PyData.showableKv ds = true
  | [], _ => by
    simp only [PyData.shownKv, PyData.showableKv, wtKv]
    exact ⟨Nat.le_refl _, trivial⟩
  | (x, y) :: ds, h => by
    have h' : within b x ∧ within b y ∧ withinKv b ds := by simpa only [withinKv] using h
    obtain ⟨a1, a2⟩ := shown_le hb x h'.1
    obtain ⟨c1, c2⟩ := shown_le hb y h'.2.1
    obtain ⟨b1, b2⟩ := shownKv_le hb ds h'.2.2
    simp only [PyData.shownKv, PyData.showableKv, wtKv]
    have e : (Str.ofString ": ").length = 2 := by decide
    rw [piled_cons, a2, b2, c2, strLen_append, strLen_append]
    refine ⟨?_, rfl⟩
    show x.shown.length + (Str.ofString ": ").length + y.shown.length + 2 + _ ≤ _
    omega
end
/-- data whose text is made without a fault -/
structure Gd (n e : Nat) (d : PyData) : Prop where
  iw : within 2000000000000 d
  wn : wt d ≤ n
  dp : d.depth ≤ e
/-- repr(x) -/
def rReprD : List V → Hp → VK → Prop := fun xs H Q => ∃ (N : Addr → Prop) (v : V) (d : PyData), xs = [v] ∧ Da N H v d ∧ Gd 16000000 100 d ∧ Q (.str d.shown) H
theorem call_repr {X : Cx} (en : EntX X) (hu : X.A.units + 150 < cLine) : CallR X (.builtin "repr") rReprD := by
  intro pins s σ H xs us Q I r h
  obtain ⟨N, v, d, rfl, hd, hg, q⟩ := h
  obtain ⟨u, rfl, rv⟩ := vals1 r
  obtain ⟨as, hr, hn⟩ := Da.reads I d v u hd rv
  obtain ⟨z1, z2⟩ := shown_le (by decide) d hg.iw
  have hs : d.shown.length ≤ sizeLine := Nat.le_trans z1 (Nat.le_trans hg.wn (by decide))
  have hsm : d.hasDict = true → sysModules ∉ as := fun _ hm => hn _ hm (inv_sys I en).1
  have hdp := hg.dp
  cases hr with
  | none => exact PySem.P.repr_of_none ⟨.str _, H, I.tok _, ⟨_, rfl⟩, by simpa only [PyData.shown] using q⟩
  | bool b => exact PySem.P.repr_of_bool ⟨.str _, H, I.tok _, ⟨_, rfl⟩, by simpa only [PyData.shown] using q⟩
  | int i t => exact PySem.P.repr_of_int (by simpa [PyData.showable] using z2) ⟨.str _, H, I.tok _, ⟨_, rfl⟩, by simpa only [PyData.shown] using q⟩
  | str x t => exact PySem.P.repr_of_str ⟨.str _, H, I.tok _, ⟨_, rfl⟩, by simpa only [PyData.shown] using q⟩ (by simpa only [PyData.shown] using hs)
  | list a1 a2 a3 a4 => exact repr_of_reads' (.list a1 a2 a3 a4) z2 hsm en.gu (by omega) (fun _ _ e => e) (fun h' u' tk k => ⟨.str _, H, I.kept (t' := tk) k, ⟨_, rfl⟩, q⟩) hs
  | tuple a1 a2 a3 a4 => exact repr_of_reads' (.tuple a1 a2 a3 a4) z2 hsm en.gu (by omega) (fun _ _ e => e) (fun h' u' tk k => ⟨.str _, H, I.kept (t' := tk) k, ⟨_, rfl⟩, q⟩) hs
  | dict a1 a2 a3 a4 a5 => exact repr_of_reads' (.dict a1 a2 a3 a4 a5) z2 hsm en.gu (by omega) (fun _ _ e => e) (fun h' u' tk k => ⟨.str _, H, I.kept (t' := tk) k, ⟨_, rfl⟩, q⟩) hs

/-! ### the law's end, with the bits told, for a law that makes texts of values -/
theorem law_callG {P : Program} {w : World} {K : PySem.W.Frag} {mg mb : Str → Option Value} {k : Nat} {fa a : Addr} {fd : FuncData} {x : Str} {sp : Sp} {s1 : Shared} {vs : List Value} {ns : List Int}
    (KX : K.In s1.heap) (hns : s1.heap.Ns mainGlobals mg) (hb : s1.heap.Ns builtinsNs mb) (hbb : ∀ x : Str, x ≠ "__name__" → mb x = bootBuiltins x) (hlim : s1.heap.NoLimit) (hsys : ∃ mm, s1.heap.Ns sysModules mm) (hg : s1.gens = #[])
    (ha : s1.heap.get? a = some { cls := .type "list", data := .seq vs.toArray }) (hi : IntsAre vs ns) (hl : ns.length ≤ sizeLine) (hr : Room k callerA)
    (F : ∀ base : Heap, K.In base → base.Ns mainGlobals mg → FnG P w K mg base k fa fd [x] sp) (hbind : ∀ (s : Shared) (u : Value), K.In s.heap → BindsTo s fd ⟨[u], []⟩ [(x, u)])
    (hsp : ∀ H : Hp, Only H → SqL K H a (ns.map V.int) → sp [.ref a] H (fun v _ => v = .bl true) fun _ _ _ => False) :
    codeAny (model P w) callerA (.call (.ref fa) ⟨[.ref a], []⟩) (fun r s' => r = .ok (.ret (.bool true)) ∧ OldK s1.heap s'.heap ∧ s'.os = s1.os ∧ AllBare s'.gens) s1 := by
  have rv := vals_ints hi
  have lenV := hi.length
  have main : ∀ H : Hp, Only H → SqL K H a (ns.map V.int) → HOk P w H s1.heap → (∀ b, H b ≠ none → b = a) → (H a ≠ none → K.lookup a = none) →
      codeAny (model P w) callerA (.call (.ref fa) ⟨[.ref a], []⟩) (fun r s' => r = .ok (.ret (.bool true)) ∧ OldK s1.heap s'.heap ∧ s'.os = s1.os ∧ AllBare s'.gens) s1 := by
    intro H hO hS hok hA hK
    have at_dict : ∀ {b : Addr} {o : Obj} {es : Array DictEntry} {ep : Nat}, s1.heap.get? b = some o → o.data = .dict es ep → H b = none := by
      intro b o es ep e d
      cases q : H b with
      | none => rfl
      | some u =>
        exfalso
        have z := hA b (by rw [q]; exact fun z => nomatch z)
        rw [z, ha] at e
        cases e
        cases (show Data.seq vs.toArray _ = Data.dict es ep from d)
    have keepNs : ∀ {b : Addr} {m : Str → Option Value}, s1.heap.Ns b m → (hidT s1.heap H).Ns b m := by
      rintro b m ⟨o, es, ep, e, d, r⟩
      exact ⟨o, es, ep, hidT_get e (at_dict e d), d, r⟩
    have hKb : K.In (hidT s1.heap H) := by
      intro b o e
      refine hidT_get (KX b o e) ?_
      cases q : H b with
      | none => rfl
      | some u =>
        exfalso
        have hn : H b ≠ none := by rw [q]; exact fun z => nomatch z
        have z := hA b hn
        subst z
        rw [hK hn] at e
        cases e
    have e0 : Env0 P w K mg (hidT s1.heap H) callerA [] s1 H := by
      refine ⟨rfl, ⟨hKb, keepNs hns, ⟨mb, keepNs hb, hbb⟩, ?_⟩, fun b o e => of_hidT e, Nat.le_of_eq (hidT_size _ _), trivial, fun b hb => ?_, hok, .of_eq hg⟩
      · obtain ⟨mc, h1, h2⟩ := hlim
        exact ⟨mc, keepNs h1, h2⟩
      · exact absurd (show b ∈ ([] : List Addr) from hb) (by simp)
    have en : Ent callerA s1 H := by
      obtain ⟨mm, o, es, ep, e, d, _⟩ := hsys
      exact ⟨rfl, ⟨o, e⟩, at_dict e d⟩
    refine codeAny_mono ((F _ hKb (keepNs hns)).run callerA [] s1 H ⟨[.ref a], []⟩ [.ref a] [.ref a] _ _ en hr e0 (hbind s1 (.ref a) KX) (.cons rfl .nil) (hsp H hO hS)) fun r s' h => ?_
    cases r with
    | error e => exact False.elim h
    | ok fl =>
      cases fl with
      | next => exact False.elim h
      | brk => exact False.elim h
      | cont => exact False.elim h
      | ret u =>
        obtain ⟨v, H', os, bare, un, hok', r', q⟩ := h
        obtain rfl : v = .bl true := q
        obtain rfl : u = Value.bool true := r'
        refine ⟨rfl, OldK.of_keep fun b o e => ?_, os, bare⟩
        rcases hO b with z | ⟨ob, xs, z⟩
        · exact un.keep b o e z (fun m => absurd (show b ∈ ([] : List Addr) from m) (by simp)) (by simp)
        · have e1 := (hok b _ z).1
          have e2 := (hok' b _ (un.frzs b ob _ z)).1
          rw [e] at e1
          cases e1
          exact e2
  cases hk : K.lookup a with
  | some o =>
    have e := KX a o hk
    rw [ha] at e
    cases e
    refine main (fun _ => none) (fun _ => .inl rfl) (.inr ⟨_, vs.toArray, _, hk, rfl, rfl, rfl, ?_, ?_⟩) (fun b u z => nomatch (show (none : Option HO) = some u from z)) (fun b z => absurd rfl z) fun z => absurd rfl z
    · rw [List.size_toArray, lenV]
      exact hl
    · simpa using rv
  | none =>
    let Hs : Hp := fun b => if b = a then some (.frz { cls := .type "list", data := .seq vs.toArray } (.lst (ns.map V.int))) else none
    have at_a : Hs a = some (.frz { cls := .type "list", data := .seq vs.toArray } (.lst (ns.map V.int))) := if_pos rfl
    have else_ : ∀ b, b ≠ a → Hs b = none := fun b hb => if_neg hb
    refine main Hs (fun b => ?_) (.inl (.inr ⟨_, at_a⟩)) (fun b u z => ?_) (fun b z => ?_) fun _ => hk
    · by_cases hb : b = a
      · rw [hb]
        exact .inr ⟨_, _, at_a⟩
      · exact .inl (else_ b hb)
    · by_cases hb : b = a
      · rw [hb] at z ⊢
        rw [at_a] at z
        cases z
        exact ⟨ha, by rw [List.length_map]; exact hl, vs, _, rv, ha⟩
      · rw [else_ b hb] at z
        cases z
    · by_cases hb : b = a
      · exact hb
      · exact absurd (else_ b hb) z
theorem walk_ofG {l : PySem.W.OpenLaw} {n k : Nat} {q : Program} {loose : List Str} {XP : (Str → Option Value) → Heap → Prop} {YP : World → Heap → Prop} {d : DefRec} {K : Params → PySem.W.Frag} {sp : World → Sp} {x : Str}
    (hn : l.most = some n) (hn2 : n ≤ sizeLine) (hdf : d.params.defaults = []) (hr : Room k callerA) (hi : importsNone q = true)
    (hY : ∀ (w : World) (h : Heap), YP w h → (K w.params).In h)
    (F : ∀ (w : World) (mg : Str → Option Value) (fa : Addr) (h : Heap), (K w.params).In h → h.Ns mainGlobals mg → mg d.name = some (.ref fa) →
      ∃ fd : FuncData, (∀ (s : Shared) (u : Value), (K w.params).In s.heap → BindsTo s fd ⟨[u], []⟩ [(x, u)]) ∧
        ∀ base : Heap, (K w.params).In base → base.Ns mainGlobals mg → FnG l.prog w (K w.params) mg base k fa fd [x] (sp w))
    (hsp : ∀ (w : World) (H : Hp) (a : Addr) (ns : List Int), ns.length ≤ n → (∀ z ∈ ns, Builtin.Int.intBits z ≤ 1048576) → Only H → SqL (K w.params) H a (ns.map V.int) → sp w [.ref a] H (fun v _ => v = .bl true) fun _ _ _ => False) :
    PySem.W.WalkO q loose XP YP l.row.toRowW d [] (fun f vs => PySem.call f vs) := by
  refine Att.attach_callB hn hdf fun w s0 s1 mg mb fa o pm cd doc a vs ns G Y ho hd hcd hmg hobj hints hlen hbits hg => ?_
  have KX := hY w _ Y
  obtain ⟨fd, hb, hF⟩ := F w mg fa _ KX G.T.g hmg
  obtain ⟨mm, hm, _⟩ := (G.T.seer hi).mods
  exact law_callG KX G.T.g G.T.b G.T.builtins G.T.nolimit ⟨mm, hm⟩ hg hobj hints (Nat.le_trans hlen hn2) hr hF hb (fun H hO hS => hsp w H a ns hlen hbits hO hS)
end HX

set_option maxRecDepth 100000
set_option maxHeartbeats 4000000
namespace HX
open PySem PySem.Spec PyProof.Rows L2
theorem Kp.mut {N : Addr → Prop} {H H' : Hp} {p : Addr} {o : HO} (k : Kp N H H') (h : H p = none) : Kp N H (upd H' p o) := fun b x e nb => by
  rw [upd_ne (ne_of_none e h)]
  exact k b x e nb
/-! ### data of tuples alone: no store turns it -/
def KT (H H' : Hp) : Prop := ∀ b xs, H b = some (.tup xs) → H' b = some (.tup xs)
theorem KT.refl (H : Hp) : KT H H := fun _ _ h => h
theorem KT.trans {H H1 H2 : Hp} (a : KT H H1) (b : KT H1 H2) : KT H H2 := fun c xs h => b c xs (a c xs h)
theorem KT.new {H : Hp} {p : Addr} {o : HO} (h : H p = none) : KT H (upd H p o) := fun b xs e => by
  rw [upd_ne (ne_of_none e h)]
  exact e
theorem KT.put {H : Hp} {p : Addr} {o : HO} {xs : List V} (h : H p = some (.lst xs)) : KT H (upd H p o) := fun b ys e => by
  rw [upd_ne (ne_of e h (fun z => by cases z))]
  exact e
theorem KT.same {H H' : Hp} (h : Same H H') : KT H H' := fun b xs e => h b _ e
theorem KT.kp {H H' : Hp} {p : Addr} {xs : List V} (h : H p = some (.lst xs)) (k : Kp (· = p) H H') : KT H H' := fun b ys e => k b _ e (ne_of e h (fun z => by cases z))
mutual
inductive Td (H : Hp) : V → PyData → Prop
  | non : Td H .non .none
  | bl (b : Bool) : Td H (.bl b) (.bool b)
  | int (i : Int) : Td H (.int i) (.int i)
  | str (x : Str) : Td H (.str x) (.str x)
  | tup {a : Addr} {xs : List V} {ds : List PyData} : H a = some (.tup xs) → TdAll H xs ds → Td H (.ref a) (.tuple ds)
inductive TdAll (H : Hp) : List V → List PyData → Prop
  | nil : TdAll H [] []
  | cons {v : V} {vs : List V} {d : PyData} {ds : List PyData} : Td H v d → TdAll H vs ds → TdAll H (v :: vs) (d :: ds)
end
mutual
theorem Td.mono {H H' : Hp} (k : KT H H') : ∀ (d : PyData) (v : V), Td H v d → Td H' v d
  | .none, _, h => by cases h; exact .non
  | .bool b, _, h => by cases h; exact .bl b
  | .int i, _, h => by cases h; exact .int i
  | .str x, _, h => by cases h; exact .str x
  | .tuple ds, _, h => by
    cases h with
    | tup e ha => exact .tup (k _ _ e) (TdAll.mono k ds _ ha)
  | .list _, _, h => by cases h
  | .dict _, _, h => by cases h
theorem TdAll.mono {H H' : Hp} (k : KT H H') : ∀ (ds : List PyData) (vs : List V), TdAll H vs ds → TdAll H' vs ds
  | [], _, h => by cases h; exact .nil
  | d :: ds, _, h => by
    cases h with
    | cons h1 h2 => exact .cons (Td.mono k d _ h1) (TdAll.mono k ds _ h2)
end
mutual
theorem Td.da {N : Addr → Prop} {H : Hp} (hn : ∀ a xs, H a = some (.tup xs) → ¬ N a) : ∀ (d : PyData) (v : V), Td H v d → Da N H v d
  | .none, _, h => by cases h; exact .non
  | .bool b, _, h => by cases h; exact .bl b
  | .int i, _, h => by cases h; exact .int i
  | .str x, _, h => by cases h; exact .str x
  | .tuple ds, _, h => by
    cases h with
    | tup e ha => exact .tup e (hn _ _ e) (TdAll.da hn ds _ ha)
  | .list _, _, h => by cases h
  | .dict _, _, h => by cases h
theorem TdAll.da {N : Addr → Prop} {H : Hp} (hn : ∀ a xs, H a = some (.tup xs) → ¬ N a) : ∀ (ds : List PyData) (vs : List V), TdAll H vs ds → DaAll N H vs ds
  | [], _, h => by cases h; exact .nil
  | d :: ds, _, h => by
    cases h with
    | cons h1 h2 => exact .cons (Td.da hn d _ h1) (TdAll.da hn ds _ h2)
end
theorem TdAll.len {H : Hp} : ∀ {vs : List V} {ds : List PyData}, TdAll H vs ds → vs.length = ds.length
  | _, _, .nil => rfl
  | _, _, .cons _ t => by rw [List.length_cons, List.length_cons, TdAll.len t]
theorem TdAll.get {H : Hp} : ∀ {vs : List V} {ds : List PyData} {i : Nat} {v : V}, TdAll H vs ds → vs[i]? = some v → ∃ d, ds[i]? = some d ∧ Td H v d
  | _, _, _, _, .nil, e => by simp at e
  | _, _, 0, _, .cons h _, e => by
    have e' := Option.some.inj e
    exact ⟨_, rfl, e' ▸ h⟩
  | _, _, i + 1, _, .cons _ t, e => by
    obtain ⟨d, h1, h2⟩ := TdAll.get (i := i) t (by simpa using e)
    exact ⟨d, by simpa using h1, h2⟩
theorem TdAll.at {H : Hp} : ∀ {vs : List V} {ds : List PyData} {i : Nat} {d : PyData}, TdAll H vs ds → ds[i]? = some d → ∃ v, vs[i]? = some v ∧ Td H v d
  | _, _, _, _, .nil, e => by simp at e
  | _, _, 0, _, .cons h _, e => by
    have e' := Option.some.inj e
    exact ⟨_, rfl, e' ▸ h⟩
  | _, _, i + 1, _, .cons _ t, e => by
    obtain ⟨v, h1, h2⟩ := TdAll.at (i := i) t (by simpa using e)
    exact ⟨v, by simpa using h1, h2⟩
theorem TdAll.append {H : Hp} : ∀ {vs us : List V} {ds es : List PyData}, TdAll H vs ds → TdAll H us es → TdAll H (vs ++ us) (ds ++ es)
  | _, _, _, _, .nil, s => s
  | _, _, _, _, .cons r t, s => .cons r (TdAll.append t s)
theorem TdAll.snoc {H : Hp} {vs : List V} {ds : List PyData} {v : V} {d : PyData} (h : TdAll H vs ds) (g : Td H v d) : TdAll H (vs ++ [v]) (ds ++ [d]) := h.append (.cons g .nil)
theorem TdAll.ints {H : Hp} : ∀ ns : List Int, TdAll H (ns.map V.int) (ns.map PyData.int)
  | [] => .nil
  | n :: ns => .cons (.int n) (TdAll.ints ns)
theorem Td.tupOf {H : Hp} {v : V} {ds : List PyData} (h : Td H v (.tuple ds)) : ∃ a xs, v = .ref a ∧ H a = some (.tup xs) ∧ TdAll H xs ds := by
  cases h with
  | tup e ha => exact ⟨_, _, rfl, e, ha⟩
theorem Td.intOf {H : Hp} {v : V} {i : Int} (h : Td H v (.int i)) : v = .int i := by
  cases h
  rfl
theorem Td.new {H : Hp} {p : Addr} {xs : List V} {ds : List PyData} (hp : H p = none) (h : TdAll H xs ds) : Td (upd H p (.tup xs)) (.ref p) (.tuple ds) := .tup upd_same (TdAll.mono (KT.new hp) _ _ h)
/-! ### boards, moments, rows as plain lists -/
def stepD (es : List Int) : PyData := .tuple (es.map PyData.int)
def wheelD (w : List (List Int)) : PyData := .tuple (w.map stepD)
def wheelsD (ws : List (List (List Int))) : PyData := .tuple (ws.map wheelD)
def boardD (ws : List (List (List Int))) (c : Int) : PyData := .tuple [wheelsD ws, .int c]
def EndsOk (n : Int) (s : List Int) : Prop := s.length ≤ 3 ∧ ∀ e ∈ s, 0 ≤ e ∧ e < n
def WheelOk (n : Int) (w : List (List Int)) : Prop := 1 ≤ w.length ∧ w.length ≤ 4 ∧ ∀ s ∈ w, EndsOk n s
structure BoardOk (ws : List (List (List Int))) (c : Int) : Prop where
  w1 : 1 ≤ ws.length
  w6 : ws.length ≤ 6
  c0 : 0 ≤ c
  c4 : c ≤ 4
  wheels : ∀ w ∈ ws, WheelOk ((ws.length : Int) + c) w
end HX

set_option maxRecDepth 100000
set_option maxHeartbeats 4000000
namespace HX
open PySem PySem.Spec PyProof.Rows L2
/-! ### written data -/
def Fr (N : Addr → Prop) (H : Hp) : Prop := ∀ H1, Same H H1 → ∀ p, H1 p = none → ¬ N p
theorem Fr.none (H : Hp) : Fr (fun _ => False) H := fun _ _ _ _ z => z
theorem Fr.one {H : Hp} {a : Addr} {o : HO} (h : H a = some o) : Fr (· = a) H := fun H1 s p hp z => by
  rw [z, s _ _ h] at hp
  cases hp
def EvD (N : Addr → Prop) (te : TE) (σ : L2.St) (H : Hp) (d : PyData) : Prop := ∀ H1, Same H H1 → ∀ Q : VK, (∀ v H2, Same H1 H2 → Da N H2 v d → Q v H2) → te σ H1 Q
def EvDs (N : Addr → Prop) (ta : TA) (σ : L2.St) (H : Hp) (ds : List PyData) : Prop := ∀ H1, Same H H1 → ∀ Q : List V → Hp → Prop, (∀ vs H2, Same H1 H2 → DaAll N H2 vs ds → Q vs H2) → ta σ H1 Q
section
variable {N : Addr → Prop} {σ : L2.St} {H : Hp} {te : TE} {ta : TA} {d : PyData} {ds : List PyData}
theorem ed_non : EvD N (tC .non) σ H .none := fun H1 _ Q q => q _ H1 (Same.refl H1) .non
theorem ed_bl {b : Bool} : EvD N (tC (.bl b)) σ H (.bool b) := fun H1 _ Q q => q _ H1 (Same.refl H1) (.bl b)
theorem ed_int {i : Int} : EvD N (tC (.int i)) σ H (.int i) := fun H1 _ Q q => q _ H1 (Same.refl H1) (.int i)
theorem ed_str {x : Str} : EvD N (tC (.str x)) σ H (.str x) := fun H1 _ Q q => q _ H1 (Same.refl H1) (.str x)
theorem ed_neg {i : Int} : EvD N (tUn (rU fun i => .int (-i)) (tC (.int i))) σ H (.int (-i)) := fun H1 _ Q q => ⟨i, rfl, q _ H1 (Same.refl H1) (.int (-i))⟩
theorem ed_pow {i j z : Int} (hz : i ^ j.toNat = z := by decide +kernel) (h : CPow i j := by exact ⟨by decide, by decide, by decide⟩) : EvD N (tOp (rI CPow fun i j => .int (i ^ j.toNat)) (tC (.int i)) (tC (.int j))) σ H (.int z) := fun H1 _ Q q =>
  ⟨i, j, rfl, rfl, h, by
    show Q (.int (i ^ j.toNat)) H1
    rw [hz]
    exact q _ H1 (Same.refl H1) (.int z)⟩
theorem ed_nil : EvDs N tNil σ H [] := fun H1 _ Q q => q [] H1 (Same.refl H1) .nil
theorem ed_cons (h : EvD N te σ H d) (hr : EvDs N ta σ H ds) : EvDs N (tCons te ta) σ H (d :: ds) := fun H1 s1 Q q =>
  h H1 s1 _ fun v H2 s2 hd => hr H2 (s1.trans s2) _ fun vs H3 s3 hds => q (v :: vs) H3 (s2.trans s3) (.cons (Da.mono (Kp.of s3) _ _ hd) hds)
theorem ed_tup (f : Fr N H) (h : EvDs N ta σ H ds) (hl : ds.length ≤ 1000 := by decide) : EvD N (tTup ta) σ H (.tuple ds) := fun H1 s1 Q q =>
  h H1 s1 _ fun vs H2 s2 hds => ⟨by rw [hds.len]; exact Nat.le_of_lt (small1000 hl), fun p hp => q (.ref p) _ (s2.trans (Same.new hp)) (.tup upd_same (f H2 (s1.trans s2) p hp) (DaAll.mono (Kp.new hp) _ _ hds))⟩
theorem ed_lst (f : Fr N H) (h : EvDs N ta σ H ds) (hl : ds.length ≤ 1000 := by decide) : EvD N (tLst ta) σ H (.list ds) := fun H1 s1 Q q =>
  h H1 s1 _ fun vs H2 s2 hds => ⟨by rw [hds.len]; exact Nat.le_of_lt (small1000 hl), fun p hp => q (.ref p) _ (s2.trans (Same.new hp)) (.lst upd_same (f H2 (s1.trans s2) p hp) (DaAll.mono (Kp.new hp) _ _ hds))⟩
theorem ed_dict0 (f : Fr N H) : EvD N tDNewK σ H (.dict []) := fun H1 s1 Q q p hp => q (.ref p) _ (Same.new hp) (.dct upd_same (f H1 s1 p hp) .nil .nil)
theorem ed_dict1 {x : Str} {i : Int} (f : Fr N H) : EvD N (tDisp [(tC (.str x), tC (.int i))]) σ H (.dict [(.str x, .int i)]) := fun H1 s1 Q q p hp => by
  refine ⟨upd_same, [(.inr x, .int i)], rfl, by show 1 ≤ 15; decide, ?_⟩
  rw [upd_upd]
  refine q (.ref p) _ (Same.new hp) (.dct upd_same (f H1 s1 p hp) ?_ ?_)
  · exact .cons (.str x) .nil
  · exact .cons (.int i) .nil
theorem flat_rep {N : Addr → Prop} {H : Hp} {vs : List V} {ds : List PyData} (h : DaAll N H vs ds) : ∀ n : Nat, DaAll N H (List.replicate n vs).flatten (List.replicate n ds).flatten
  | 0 => .nil
  | n + 1 => by
    rw [List.replicate_succ, List.replicate_succ, List.flatten_cons, List.flatten_cons]
    exact h.append (flat_rep h n)
theorem ed_rep {K : PySem.W.Frag} {n : Int} (f : Fr N H) (h : EvD N te σ H (.tuple ds)) (h2 : 2 ≤ n := by decide) (h9 : n ≤ 1000 := by decide) (hz : ds ≠ [] := by simp) (hl : ds.length ≤ 1000 := by decide) :
    EvD N (tOp (rRepT K) te (tC (.int n))) σ H (.tuple (List.replicate n.toNat ds).flatten) := fun H1 s1 Q q =>
  h H1 s1 _ fun v H2 s2 hd => by
    obtain ⟨a, xs, rfl, e, _, ha⟩ := hd.tupOf
    refine ⟨a, n, xs, rfl, rfl, SqT.of e, fun z => hz ?_, h2, h9, ?_, fun p hp => ?_⟩
    · have := ha.len
      rw [z] at this
      exact List.eq_nil_of_length_eq_zero this.symm
    · rw [ha.len]
      exact hl
    · exact q (.ref p) _ (s2.trans (Same.new hp)) (.tup upd_same (f H2 (s1.trans s2) p hp) (DaAll.mono (Kp.new hp) _ _ (flat_rep ha n.toNat)))
end
/-! ### slices and sums of tuples, whichever object they come to -/
theorem rd_slice {K : PySem.W.Frag} {H : Hp} {Q : VK} {a : Addr} {xs : List V} {lo hi : Option Int} (hx : H a = some (.tup xs)) (q : ∀ p H', Same H H' → H' p = some (.tup (cutV xs lo hi)) → Q (.ref p) H') : rSlA K (.ref a) lo hi H Q := by
  refine ⟨a, xs, rfl, SqT.of hx, fun h => q a H (Same.refl H) ?_, fun _ p hp => q p _ (Same.new hp) upd_same⟩
  rw [hx]
  unfold cutV
  rw [h.1, h.2]
  show some (HO.tup xs) = some (.tup ((xs.drop 0).take (xs.length - 0)))
  rw [List.drop_zero, Nat.sub_zero, List.take_length]
theorem np {σ : L2.St} {H : Hp} {Q : Option Int → Hp → Prop} (h : Q none H) : tNoPart σ H Q := h
theorem rd_cat {K : PySem.W.Frag} {H : Hp} {Q : VK} {a b : Addr} {xs ys : List V} (hx : H a = some (.tup xs)) (hy : H b = some (.tup ys)) (hz : xs.length + ys.length ≤ sizeLine) (q : ∀ p H', Same H H' → H' p = some (.tup (xs ++ ys)) → Q (.ref p) H') : rCatA K (.ref a) (.ref b) H Q := by
  refine ⟨a, b, xs, ys, rfl, rfl, SqT.of hx, SqT.of hy, hz, fun e => q b H (Same.refl H) ?_, fun _ e => q a H (Same.refl H) ?_, fun _ _ p hp => q p _ (Same.new hp) upd_same⟩
  · rw [hy, e]
    rfl
  · rw [hx, e, List.append_nil]
theorem cut_to (xs : List V) (n : Nat) (h : n ≤ xs.length) : cutV xs none (some (n : Int)) = xs.take n := by
  unfold cutV
  rw [HT.sIx_none, HT.sIx_nat, List.drop_zero, Nat.min_eq_left h, Nat.sub_zero]
theorem cut_from (xs : List V) (n : Nat) (h : n ≤ xs.length) : cutV xs (some (n : Int)) none = xs.drop n := by
  unfold cutV
  rw [HT.sIx_none, HT.sIx_nat, Nat.min_eq_left h]
  exact List.take_of_length_le (by rw [List.length_drop]; omega)
theorem cut_one (xs : List V) (n : Nat) (h : n < xs.length) : cutV xs (some (n : Int)) (some ((n : Int) + 1)) = (xs.drop n).take 1 := by
  unfold cutV
  have e : (n : Int) + 1 = ((n + 1 : Nat) : Int) := by omega
  rw [e, HT.sIx_nat, HT.sIx_nat, Nat.min_eq_left (by omega), Nat.min_eq_left (by omega)]
  congr 1
  omega
/-! ### weights, bounds, depths of parts -/
theorem wtAll_append : ∀ xs ys : List PyData, wtAll (xs ++ ys) = wtAll xs + wtAll ys
  | [], ys => by simp [wtAll]
  | x :: xs, ys => by
    rw [List.cons_append]
    simp only [wtAll]
    rw [wtAll_append xs ys]
    omega
theorem withinAll_append {b : Int} : ∀ xs ys : List PyData, withinAll b (xs ++ ys) ↔ withinAll b xs ∧ withinAll b ys
  | [], ys => by simp [withinAll]
  | x :: xs, ys => by
    rw [List.cons_append]
    simp only [withinAll]
    rw [withinAll_append xs ys, and_assoc]
theorem depthAll_append : ∀ xs ys : List PyData, PyData.depthAll (xs ++ ys) = max (PyData.depthAll xs) (PyData.depthAll ys)
  | [], ys => by simp [PyData.depthAll]
  | x :: xs, ys => by
    rw [List.cons_append]
    simp only [PyData.depthAll]
    rw [depthAll_append xs ys]
    omega
mutual
theorem within_up {b c : Int} (h : b ≤ c) : ∀ d : PyData, within b d → within c d
  | .none, _ => by simp only [within]
  | .bool _, _ => by simp only [within]
  | .int i, q => by
    simp only [within] at q ⊢
    omega
  | .str _, _ => by simp only [within]
  | .list ds, q => by
    simp only [within] at q ⊢
    exact withinAll_up h ds q
  | .tuple ds, q => by
    simp only [within] at q ⊢
    exact withinAll_up h ds q
  | .dict ds, q => by
    simp only [within] at q ⊢
    exact withinKv_up h ds q
theorem withinAll_up {b c : Int} (h : b ≤ c) : ∀ ds : List PyData, withinAll b ds → withinAll c ds
  | [], _ => by simp only [withinAll]
  | d :: ds, q => by
    simp only [withinAll] at q ⊢
    exact ⟨within_up h d q.1, withinAll_up h ds q.2⟩
theorem withinKv_up {b c : Int} (h : b ≤ c) : ∀ ds : List (PyData × PyData), withinKv b ds → withinKv c ds
  | [], _ => by simp only [withinKv]
  | (x, y) :: ds, q => by
    simp only [withinKv] at q ⊢
    exact ⟨within_up h x q.1, within_up h y q.2.1, withinKv_up h ds q.2.2⟩
end
theorem split_at {α : Type} (xs : List α) (n : Nat) (x : α) (h : xs[n]? = some x) : xs = xs.take n ++ (x :: xs.drop (n + 1)) := by
  obtain ⟨hn, e⟩ := List.getElem?_eq_some_iff.mp h
  rw [← e, List.getElem_cons_drop, List.take_append_drop]
theorem wtAll_len : ∀ ds : List PyData, 2 * ds.length ≤ wtAll ds
  | [] => by simp [wtAll]
  | d :: ds => by
    have := wtAll_len ds
    simp only [wtAll, List.length_cons]
    omega
theorem wtAll_reverse : ∀ ds : List PyData, wtAll ds.reverse = wtAll ds
  | [] => rfl
  | d :: ds => by
    rw [List.reverse_cons, wtAll_append, wtAll_reverse ds]
    simp only [wtAll]
    omega
theorem withinAll_reverse {b : Int} : ∀ ds : List PyData, withinAll b ds → withinAll b ds.reverse
  | [], h => h
  | d :: ds, h => by
    rw [List.reverse_cons, withinAll_append]
    simp only [withinAll] at h ⊢
    exact ⟨withinAll_reverse ds h.2, h.1, trivial⟩
theorem depthAll_reverse : ∀ ds : List PyData, PyData.depthAll ds.reverse = PyData.depthAll ds
  | [] => rfl
  | d :: ds => by
    rw [List.reverse_cons, depthAll_append, depthAll_reverse ds]
    simp only [PyData.depthAll]
    omega
/-- a statement, then the rest, shown once from what stands between them -/
def tCut (t u : TS) : TS := fun D σ H => ∃ Mid : L2.St → Hp → Prop, t { D with nx := Mid } σ H ∧ ∀ σ' H', Mid σ' H' → u D σ' H'
theorem pss_cut {X : Cx} {st : Stmt} {rest : List Stmt} {t u : TS} (h1 : PS X st t) (h2 : PSs X rest u) : PSs X (st :: rest) (tCut t u) := by
  refine ⟨fun pins s σ H D I h => ?_⟩
  obtain ⟨Mid, hm, hu⟩ := h
  refine wpAny_execs_cons (thn (h1.run pins s σ H { D with nx := Mid } I hm) fun f s1 q => ?_)
  cases f with
  | ret v => exact q
  | brk => exact q
  | cont => exact q
  | next =>
    obtain ⟨σ', H', I', q'⟩ := q
    exact h2.run pins s1 σ' H' D I' (hu σ' H' q')
theorem s_next {D : Ends} {σ : L2.St} {H : Hp} (h : D.nx σ H) : tNext D σ H := h
theorem s_ret {te : TE} {D : Ends} {σ : L2.St} {H : Hp} (h : te σ H D.rt) : tRet te D σ H := h
theorem s_asg {te : TE} {u : TS} {D : Ends} {σ : L2.St} {H : Hp} {i : Nat} (h : te σ H fun x H1 => u D (σ.set i (some x)) H1) : tSeq (tAsg te (gName i)) u D σ H := h
theorem Da.lstOf {N : Addr → Prop} {H : Hp} {v : V} {ds : List PyData} (h : Da N H v (.list ds)) : ∃ a xs, v = .ref a ∧ H a = some (.lst xs) ∧ ¬ N a ∧ DaAll N H xs ds := by
  cases h with
  | lst e n ha => exact ⟨_, _, rfl, e, n, ha⟩
theorem entx_of {P : Program} {w : World} {K : PySem.W.Frag} {mg : Str → Option Value} {base : Heap} {N : List Str} {qual : Str} {scope : Scope} {f : Addr} {cdv : Value} {A : Around} {outer : List Env} {s : Shared} {H : Hp} {E : XK} (en : Ent A s H) :
    EntX (cxOf CX0 P w K mg base N qual scope f cdv A outer s H E).nox := ⟨en.gu, en.sm, en.hm, fun z => absurd (show sysModules ∈ ([] : List Addr) from z) (by simp)⟩
theorem hu150 {A : Around} {k : Nat} (hr : Room k A) : A.units + 150 < cLine := by
  have := hr.un
  omega
theorem def_mk {K : PySem.W.Frag} {mg : Str → Option Value} {h : Heap} {x : Str} {st : Stmt} {ps : List Str} {f : Addr} {od an : Option Addr} {sl : Array (Option Value)} {oc kV dc pm cd ct : Value} (X : K.In h) (G : h.Ns mainGlobals mg)
    (a : PySem.W.nsIn K mainGlobals x = some (some (.ref f))) (l : K.lookup f = some ⟨oc, od, .func (PySem.W.fnOf x x (defArgs st) (defBody st) (defScope st) .none kV dc pm an cd ct), sl⟩) (c : PySem.W.codeIn K cd x = true) (k : PySem.W.keepIn K (.ref f) = true)
    (hb : ∀ (kV doc pm : Value) (an : Option Addr) (cdv ct : Value) (us : List Value), us.length = ps.length → bindArgs (PySem.W.fnOf x x (defArgs st) (defBody st) (defScope st) .none kV doc pm an cdv ct) ⟨us, []⟩ = pure (ps.zip us)) : Def K mg x st ps :=
  ⟨f, _, fun_mk l c k, PySem.W.mg_of X G a, (fun_mk l c k).binds hb⟩
/-- all([e for x in t]), t any expression that gives a tuple -/
theorem read_allE {K : PySem.W.Frag} {N : Addr → Prop} {σ : L2.St} {H : Hp} {Q : VK} {j : Nat} {tl te : TE} {a : Addr} {xs : List V} {ds : List PyData} (p : PyData → Bool)
    (hs : ∀ Q' : VK, Q' (.ref a) H → tl σ H Q') (hx : H a = some (.tup xs)) (hd : DaAll N H xs ds) (hz : ds.length ≤ 1000)
    (ht : ∀ (x : V) (d : PyData) (H' : Hp), Same H H' → Da N H' x d → ∀ Q' : VK, (∀ H2, Same H' H2 → Q' (.bl (p d)) H2) → te ((wipe σ [j]).set j (some x)) H' Q')
    (q : ∀ H', Same H H' → Q (.bl (ds.all p)) H') : tCB (rAll K) (tCons (tLc (iTup K tl) (gName j) tYes te [j]) tNil) σ H Q := by
  refine hs _ ⟨a, rfl, ⟨xs, .inl (.inl hx)⟩, fun D hD => ?_⟩
  have hlen : xs.length = ds.length := hd.len
  refine lc_tup (xs := xs) (fun i H' => Same H H' ∧ H' D = some (.lst ((ds.take i).map fun d => V.bl (p d)))) ⟨Same.new hD, ?_⟩ (fun i H' _ h => .inl (.inl (h.1 _ _ hx))) (fun i x H' hi h => ?_) (fun H' h => ?_)
  · rw [upd_same]
    rfl
  · obtain ⟨d, e1, e2⟩ := (DaAll.mono (Kp.of h.1) _ _ hd).get hi
    refine ⟨wipe1 x, tYes_eq (iteT (ht x d H' h.1 e2 _ fun H2 s2 => ?_))⟩
    refine ⟨_, s2 _ _ h.2, ?_, fun b o e => ?_, ?_⟩
    · rw [List.length_map, List.length_take]
      exact small1000 (by omega)
    · rw [upd_ne (ne_of_none e hD)]
      exact s2 _ _ (h.1 _ _ e)
    · rw [upd_same, List.take_add_one, e1, List.map_append]
      rfl
  · refine ⟨D, ds.map p, rfl, .inl (.inl ?_), ?_⟩
    · rw [h.2, hlen, List.take_length, List.map_map]
      rfl
    · rw [List.all_map]
      exact q H' h.1
/-! rules for within a comprehension: the written part said -/
theorem ix_tupK {X : Cx} {K : PySem.W.Frag} (h : X.K = K := by rfl) : IxR X (rIxT K) := by
  subst h
  exact ix_tup
theorem ix_listK {X : Cx} {K : PySem.W.Frag} (h : X.K = K := by rfl) : IxR X (rIxL K) := by
  subst h
  exact ix_list
def rLenK (K : PySem.W.Frag) : List V → Hp → VK → Prop := fun xs H Q => ∃ p ys, xs = [.ref p] ∧ (SqL K H p ys ∨ SqT K H p ys) ∧ Q (.int ys.length) H
theorem call_len_seqK {X : Cx} {K : PySem.W.Frag} (h : X.K = K := by rfl) : CallR X (.builtin "len") (rLenK K) := by
  subst h
  exact call_len_seq
theorem call_isi_K {X : Cx} {K : PySem.W.Frag} (h : X.K = K := by rfl) : CallR X (.builtin "isinstance") (rIsi K) := by
  subst h
  exact call_isi
def rListK (K : PySem.W.Frag) : List V → Hp → VK → Prop := fun xs H Q => ∃ p ys, xs = [.ref p] ∧ (SqL K H p ys ∨ SqT K H p ys) ∧ ∀ l, H l = none → Q (.ref l) (upd H l (.lst ys))
theorem call_list_ofK {X : Cx} {K : PySem.W.Frag} (h : X.K = K := by rfl) : CallR X (.type "list") (rListK K) := by
  subst h
  exact call_list_of
theorem gint_mk {K : PySem.W.Frag} {mg : Str → Option Value} {h : Heap} {x : Str} {i : Int} {t : Tok} (X : K.In h) (G : h.Ns mainGlobals mg) (a : PySem.W.nsIn K mainGlobals x = some (some (.int i t))) : ∃ t, mg x = some (.int i t) := ⟨t, PySem.W.mg_of X G a⟩
theorem def_cut {C : Prop} {K : PySem.W.Frag} {mg : Str → Option Value} {h : Heap} {x : Str} {st : Stmt} {ps : List Str} {f : Addr} {od an : Option Addr} {sl : Array (Option Value)} {oc kV dc pm cd ct : Value} (X : K.In h) (G : h.Ns mainGlobals mg)
    (a : PySem.W.nsIn K mainGlobals x = some (some (.ref f))) (l : K.lookup f = some ⟨oc, od, .func (PySem.W.fnOf x x (defArgs st) (defBody st) (defScope st) .none kV dc pm an cd ct), sl⟩) (c : PySem.W.codeIn K cd x = true) (k : PySem.W.keepIn K (.ref f) = true)
    (hb : ∀ (kV doc pm : Value) (an : Option Addr) (cdv ct : Value) (us : List Value), us.length = ps.length → bindArgs (PySem.W.fnOf x x (defArgs st) (defBody st) (defScope st) .none kV doc pm an cdv ct) ⟨us, []⟩ = pure (ps.zip us)) (z : Def K mg x st ps → C) : C :=
  z (def_mk X G a l c k hb)
/-- parts of a list of data -/
structure Pt (b : Int) (w e : Nat) (ds : List PyData) : Prop where
  iw : withinAll b ds
  wn : wtAll ds ≤ w
  dp : PyData.depthAll ds ≤ e
theorem Pt.append {b : Int} {w1 w2 e : Nat} {xs ys : List PyData} (h : Pt b w1 e xs) (g : Pt b w2 e ys) : Pt b (w1 + w2) e (xs ++ ys) := by
  refine ⟨(withinAll_append _ _).mpr ⟨h.iw, g.iw⟩, ?_, ?_⟩
  · rw [wtAll_append]
    exact Nat.add_le_add h.wn g.wn
  · rw [depthAll_append]
    exact Nat.max_le.mpr ⟨h.dp, g.dp⟩
theorem Pt.one {b : Int} {w e : Nat} {d : PyData} (h1 : within b d) (h2 : wt d ≤ w) (h3 : d.depth ≤ e) : Pt b (w + 2) e [d] := by
  refine ⟨?_, ?_, ?_⟩
  · simp only [withinAll]
    exact ⟨h1, trivial⟩
  · simp only [wtAll]
    omega
  · simp only [PyData.depthAll]
    omega
theorem Pt.le {b : Int} {w w' e : Nat} {xs : List PyData} (h : Pt b w e xs) (hw : w ≤ w') : Pt b w' e xs := ⟨h.iw, Nat.le_trans h.wn hw, h.dp⟩
theorem Pt.up {b c : Int} {w e : Nat} {xs : List PyData} (h : Pt b w e xs) (hc : b ≤ c) : Pt c w e xs := ⟨withinAll_up hc _ h.iw, h.wn, h.dp⟩
theorem Pt.cut {b : Int} {w e : Nat} {xs : List PyData} (h : Pt b w e xs) (n : Nat) : ∃ w1 w2, Pt b w1 e (xs.take n) ∧ Pt b w2 e (xs.drop n) ∧ w1 + w2 ≤ w := by
  obtain ⟨h1, h2, h3⟩ := h
  have q1 := (withinAll_append (xs.take n) (xs.drop n)).mp (by rw [List.take_append_drop]; exact h1)
  have q2 := wtAll_append (xs.take n) (xs.drop n)
  rw [List.take_append_drop] at q2
  have q3 := depthAll_append (xs.take n) (xs.drop n)
  rw [List.take_append_drop] at q3
  exact ⟨_, _, ⟨q1.1, Nat.le_refl _, by omega⟩, ⟨q1.2, Nat.le_refl _, by omega⟩, by omega⟩
end HX

set_option maxRecDepth 100000
set_option maxHeartbeats 1000000
namespace HX
open PySem PySem.Spec PyProof.Rows L2
/-! ### lists and tuples walked side by side: zip of two, of three, in any mix; enumerate of either -/
inductive Ki where
  | l | t
def SqK (K : PySem.W.Frag) (H : Hp) : Ki → Addr → List V → Prop
  | .l, a, xs => SqL K H a xs
  | .t, a, xs => SqT K H a xs
def ItrK (h : Heap) : Ki → Addr → Addr → Nat → Prop
  | .l, it, a, i => h.IsListIter it a i
  | .t, it, a, i => h.IsTupleIter it a i
def SeqK (h : Heap) : Ki → Addr → Array Value → Prop
  | .l, a, its => h.IsList a its
  | .t, a, its => h.IsTuple a its
def itO : Ki → Addr → Obj
  | .l, a => { cls := .type "list_iterator", data := .fields #[.ref a, .int 0 0] }
  | .t, a => { cls := .type "tuple_iterator", data := .fields #[.ref a, .int 0 0] }
theorem beginsK (k : Ki) (a : Addr) (its : Array Value) : Begins (.ref a) (itO k a) (fun h => SeqK h k a its) := by
  cases k with
  | l => exact begins_list a its
  | t => exact begins_tuple a its
theorem drawsK {prog : Program} {w : World} {A : Around} (hh : A.handled = none) (k : Ki) (it a : Addr) (hne : a ≠ it) (its : Array Value) :
    Draws prog w A it [it, a] its.size (fun i v => its[i]? = some v) (fun i h => ItrK h k it a i ∧ SeqK h k a its) := by
  cases k with
  | l => exact Draws.list hh it a hne its
  | t => exact Draws.tuple hh it a hne its
theorem itrK_of {h : Heap} {k : Ki} {it a : Addr} (e : h.get? it = some (itO k a)) : ItrK h k it a 0 := by
  cases k with
  | l => exact ⟨_, e, rfl, rfl⟩
  | t => exact ⟨_, e, rfl, rfl⟩
theorem itrK_at {h h' : Heap} {k : Ki} {it a : Addr} {i : Nat} (x : ItrK h k it a i) (e : ∀ o, h.get? it = some o → h'.get? it = some o) : ItrK h' k it a i := by
  cases k with
  | l => exact Heap.IsListIter.at x e
  | t => exact Heap.IsTupleIter.at x e
theorem itrK_obj {h : Heap} {k : Ki} {it a : Addr} {i : Nat} (x : ItrK h k it a i) : ∃ o, h.get? it = some o ∧ ∀ v, o.data ≠ .cell v := by
  cases k with
  | l =>
    obtain ⟨o, e, _, d⟩ := x
    exact ⟨o, e, fun v q => by rw [d] at q; cases q⟩
  | t =>
    obtain ⟨o, e, _, d⟩ := x
    exact ⟨o, e, fun v q => by rw [d] at q; cases q⟩
section
variable {X : Cx} {pins : List (Addr × Obj)} {σ : L2.St} {H : Hp} {s : Shared} {k : Ki} {a : Addr} {xs ys : List V}
theorem inv_seqK (I : Inv X pins σ H s) (h : SqK X.K H k a xs) : ∃ its : List Value, Vals xs its ∧ SeqK s.heap k a its.toArray := by
  cases k with
  | l =>
    obtain ⟨its, rv, p, _⟩ := I.list h
    exact ⟨its, rv, p.isList⟩
  | t =>
    obtain ⟨its, rv, p, _⟩ := I.tuple h
    exact ⟨its, rv, p⟩
theorem inv_seqK_inj (I : Inv X pins σ H s) (h : SqK X.K H k a xs) (h' : SqK X.K H k a ys) : xs = ys := by
  cases k with
  | l => exact I.list_inj h h'
  | t => exact I.tuple_inj h h'
theorem seqK_lt {h : Heap} {its : Array Value} (x : SeqK h k a its) : a < h.objs.size := by
  cases k with
  | l =>
    obtain ⟨o, e, _⟩ := x
    exact Heap.lt_size e
  | t =>
    obtain ⟨o, e, _⟩ := x
    exact Heap.lt_size e
end
theorem SqK.same {K : PySem.W.Frag} {H H' : Hp} {k : Ki} {a : Addr} {xs : List V} (s : Same H H') (h : SqK K H k a xs) : SqK K H' k a xs := by
  cases k with
  | l => exact s.seq h
  | t =>
    rcases h with (h | ⟨o, h⟩) | h
    · exact .inl (.inl (s _ _ h))
    · exact .inl (.inr ⟨o, s _ _ h⟩)
    · exact .inr h
/-! zip of two -/
def Itz2 (K : PySem.W.Frag) (k1 : Ki) (a : Addr) (k2 : Ki) (b : Addr) : It :=
  ⟨fun i H => ∃ (xs ys : List V) (x y : V), SqK K H k1 a xs ∧ SqK K H k2 b ys ∧ xs[i]? = some x ∧ ys[i]? = some y,
    fun i H v H' => ∃ T x y, v = .ref T ∧ H T = none ∧ H' = upd H T (.tup [x, y]) ∧ (∀ xs, SqK K H k1 a xs → xs[i]? = some x) ∧ ∀ ys, SqK K H k2 b ys → ys[i]? = some y,
    fun i H => ∃ xs ys : List V, SqK K H k1 a xs ∧ SqK K H k2 b ys ∧ i = min xs.length ys.length⟩
theorem turn_zip2 {P : Program} {w : World} {K : PySem.W.Frag} {elts : List Expr} {kk : Nat} {tpos : Pos} {k1 k2 : Ki} {a b z TI TO i1 i2 : Addr} (S : ZipSep2 z TI TO i1 i2 [i1, a] [i2, b]) (na : a ≠ i1) (nb : b ≠ i2) :
    Turn P w K (.Tuple elts kk tpos) (Itz2 K k1 a k2 b) [z, TI, TO, i1, i2] z (fun i h => IsZip h z TI TO .none ∧ IsTupOf2 h TI (.ref i1) (.ref i2) ∧ (∃ x y, IsTupOf2 h TO x y) ∧ ItrK h k1 i1 a i ∧ ItrK h k2 i2 b i) where
  mem := by simp
  obj := fun i h st c hc => by
    obtain ⟨hz, hTI, ⟨x, y, hTO⟩, h1, h2⟩ := st
    have e' : c = z ∨ c = TI ∨ c = TO ∨ c = i1 ∨ c = i2 := by simpa using hc
    rcases e' with rfl | rfl | rfl | rfl | rfl
    · exact ⟨_, hz, fun v q => nomatch q⟩
    · exact ⟨_, hTI, fun v q => nomatch q⟩
    · exact ⟨_, hTO, fun v q => nomatch q⟩
    · exact itrK_obj h1
    · exact itrK_obj h2
  keep := fun i h h' st k => by
    obtain ⟨hz, hTI, ⟨x, y, hTO⟩, h1, h2⟩ := st
    exact ⟨k z (by simp) _ hz, k TI (by simp) _ hTI, ⟨x, y, k TO (by simp) _ hTO⟩, itrK_at h1 fun o q => k i1 (by simp) o q, itrK_at h2 fun o q => k i2 (by simp) o q⟩
  item := by
    intro X hP hw hK hc i pins s σ H E I hf st hg
    subst hP hw hK
    obtain ⟨hz, hTI, hTO, h1, h2⟩ := st
    obtain ⟨xs, ys, x, y, hqx, hqy, hx, hy⟩ := hg
    obtain ⟨its, rv, p⟩ := inv_seqK I hqx
    obtain ⟨its2, rv2, p2⟩ := inv_seqK I hqy
    have l1 := rv.length
    have l2 := rv2.length
    have b1 := (List.getElem?_eq_some_iff.mp hx).1
    have b2 := (List.getElem?_eq_some_iff.mp hy).1
    have hh : X.A.in1.handled = none := I.ok.hd hc
    have G := GoesN.zip2 (A := X.A) (elts := elts) (x1 := kk) (pos := tpos) S (drawsK (prog := X.prog) (w := X.w) hh k1 i1 a na its.toArray) (drawsK (prog := X.prog) (w := X.w) hh k2 i2 b nb its2.toArray)
    refine G.goes i s _ E (by rw [List.size_toArray, List.size_toArray]; omega) ⟨hz, hTI, hTO, ⟨h1, p⟩, ⟨h2, p2⟩⟩ fun v h' tk hY st' hk htk => ?_
    obtain ⟨T, u, u2, rfl, hT, hu, hu2, hTup⟩ := hY
    obtain ⟨q1, q2, q3, q4, q5⟩ := st'
    obtain ⟨u', e1, ru⟩ := rv.get hx
    obtain ⟨u2', e2, ru2⟩ := rv2.get hy
    have e3 : u' = u := Option.some.inj (e1.symm.trans (by simpa using hu))
    have e4 : u2' = u2 := Option.some.inj (e2.symm.trans (by simpa using hu2))
    subst e3 e4
    have new : ObjOk X.prog X.w (upd H T (.tup [x, y])) h' T (.tup [x, y]) := ⟨by show 2 ≤ sizeLine; decide, [u', u2'], .cons ru (.cons ru2 .nil), hTup⟩
    have I1 : Inv X pins σ (upd H T (.tup [x, y])) { s with heap := h', toks := tk } :=
      I.turnedNew (t' := tk) (ch := [z, TI, TO, i1, i2]) (fun c o hb q => hk c o (fun m => hb (by
        have e' : c = z ∨ c = TO ∨ c = i1 ∨ c = i2 := by simpa using m
        rcases e' with rfl | rfl | rfl | rfl <;> simp)) q) hf hT new
    refine ⟨.ref T, _, I1, rfl, ⟨T, x, y, rfl, I.hok.fresh hT, rfl, fun l hl => by rw [inv_seqK_inj I hl hqx]; exact hx, fun l hl => by rw [inv_seqK_inj I hl hqy]; exact hy⟩, ⟨q1, q2, q3, q4.1, q5.1⟩, fun c hcm => ?_⟩
    have hlt : c < s.heap.objs.size := by
      have e' : c = z ∨ c = TI ∨ c = TO ∨ c = i1 ∨ c = i2 := by simpa using hcm
      obtain ⟨x0, y0, hTO'⟩ := hTO
      rcases e' with rfl | rfl | rfl | rfl | rfl
      · exact Heap.lt_size hz
      · exact Heap.lt_size hTI
      · exact Heap.lt_size hTO'
      · exact Heap.lt_size (itrK_obj h1).choose_spec.1
      · exact Heap.lt_size (itrK_obj h2).choose_spec.1
    rw [upd_ne (Nat.ne_of_lt (Nat.lt_of_lt_of_le hlt hT))]
    exact (hf c hcm).1
  done := by
    intro X hP hw hK hc i pins s σ H E I hf st hg
    subst hP hw hK
    obtain ⟨hz, hTI, hTO, h1, h2⟩ := st
    obtain ⟨xs, ys, hqx, hqy, hend⟩ := hg
    obtain ⟨its, rv, p⟩ := inv_seqK I hqx
    obtain ⟨its2, rv2, p2⟩ := inv_seqK I hqy
    have l1 := rv.length
    have l2 := rv2.length
    have hh : X.A.in1.handled = none := I.ok.hd hc
    have G := GoesN.zip2 (A := X.A) (elts := elts) (x1 := kk) (pos := tpos) S (drawsK (prog := X.prog) (w := X.w) hh k1 i1 a na its.toArray) (drawsK (prog := X.prog) (w := X.w) hh k2 i2 b nb its2.toArray)
    have ei : i = min its.toArray.size its2.toArray.size := by rw [List.size_toArray, List.size_toArray]; omega
    subst ei
    exact G.stops s _ E ⟨hz, hTI, hTO, ⟨h1, p⟩, ⟨h2, p2⟩⟩ fun h' tk hk htk => I.turnedL (t' := tk) (ch := [z, TI, TO, i1, i2]) (fun c o hb q => hk c o (fun m => hb (by
        have e' : c = z ∨ c = TO ∨ c = i1 ∨ c = i2 := by simpa using m
        rcases e' with rfl | rfl | rfl | rfl <;> simp)) q) hf
  self := fun A i s Q E st h => wpAny_pyIter_zip st.1 h
def iZip2 (K : PySem.W.Frag) (ta : TA) : TI := fun σ H R => ta σ H fun vs H1 => ∃ k1 a k2 b xs ys, vs = [.ref a, .ref b] ∧ SqK K H1 k1 a xs ∧ SqK K H1 k2 b ys ∧ R (Itz2 K k1 a k2 b) H1
theorem pi_zip2 {X : Cx} {e e2 : Expr} {ta : TA} {p pos tpos : Pos} {elts : List Expr} {kk : Nat} (hg : Gl X "zip") (hm : X.mg "zip" = none) (ha : PA X [e, e2] ta)
    (hs : starEach [e, e2] X.env = (false, eval e X.env) :: starEach [e2] X.env := by rfl) (hpl : (backTo pos (starEach [e2] X.env)).any (·.1) = false := by rfl) :
    PI X (.Tuple elts kk tpos) (.Call (.Name "zip" p) [e, e2] [] pos) (iZip2 X.K ta) := by
  refine ⟨fun pins s σ H R I h => ?_⟩
  refine Call_ (ld_blt I hg hm PyProof.Rows.boot_zip (PyProof.Rows.callWith_type1 (thn (ha.run pos pins s σ H _ I h) fun us s1 ⟨vs, H1, I1, r1, q1⟩ => ?_) hs hpl))
  obtain ⟨k1, a, k2, b, xs, ys, rfl, hqx, hqy, q⟩ := q1
  obtain ⟨u1, u2, rfl, r, r'⟩ := vals2 r1
  cases r
  cases r'
  obtain ⟨its, rv, p1⟩ := inv_seqK I1 hqx
  obtain ⟨its2, rv2, p2⟩ := inv_seqK I1 hqy
  have la := seqK_lt p1
  have lb := seqK_lt p2
  refine zip_begins2 (beginsK k1 a its.toArray) (beginsK k2 b its2.toArray) p1 p2 fun h' hz hTI hTO g1 g2 hsz hk => wpAny_pyIter_zip hz ?_
  have I2 : Inv X pins σ H1 { s1 with heap := h' } := I1.kept (t' := s1.toks) hk
  refine ⟨s1.heap.objs.size + 4, [s1.heap.objs.size + 4, s1.heap.objs.size + 2, s1.heap.objs.size + 3, s1.heap.objs.size, s1.heap.objs.size + 1], _, _, H1, rfl, I2,
    turn_zip2 (zip_sep2 (N := s1.heap.objs.size) (fp1 := [a]) (fp2 := [b]) (fun c m => by rw [List.mem_singleton.mp m]; exact la) (fun c m => by rw [List.mem_singleton.mp m]; exact lb)) (Nat.ne_of_lt la) (Nat.ne_of_lt (Nat.lt_succ_of_lt lb)),
    ⟨hz, hTI, ⟨_, _, hTO⟩, itrK_of g1, itrK_of g2⟩, fun c hcm => ?_, q⟩
  have hle : s1.heap.objs.size ≤ c := by
    have e' : c = s1.heap.objs.size + 4 ∨ c = s1.heap.objs.size + 2 ∨ c = s1.heap.objs.size + 3 ∨ c = s1.heap.objs.size ∨ c = s1.heap.objs.size + 1 := by simpa using hcm
    rcases e' with e' | e' | e' | e' | e' <;> rw [e'] <;> first | exact Nat.le_refl _ | exact Nat.le_add_right _ _
  exact I1.fpOk hle (I1.hok.fresh hle)
theorem walk_zip2 {K : PySem.W.Frag} {k1 k2 : Ki} {a b : Addr} {xs ys : List V} {n : Nat} (hn : n = min xs.length ys.length) : Walk (Itz2 K k1 a k2 b) n (fun H => SqK K H k1 a xs ∧ SqK K H k2 b ys) (YPair (fun i => xs[i]?) (fun i => ys[i]?)) := by
  refine ⟨fun i _ hi q => ⟨xs, ys, xs[i]'(by omega), ys[i]'(by omega), q.1, q.2, by simp, by simp⟩, fun H q => ⟨xs, ys, q.1, q.2, hn⟩, fun i H v H' _ q y => ?_⟩
  obtain ⟨T, x, z, h1, h2, h3, h4, h5⟩ := y
  exact ⟨T, x, z, h1, h2, h3, h4 xs q.1, h5 ys q.2⟩
end HX

set_option maxRecDepth 100000
set_option maxHeartbeats 1000000
namespace HX
open PySem PySem.Spec PyProof.Rows L2
/-! ### more names of built-ins; two names in a comprehension; all over two walked side by side -/
structure Bi2 (mg : Str → Option Value) : Prop where
  zip_ : mg "zip" = none
  enumerate_ : mg "enumerate" = none
  sum_ : mg "sum" = none
theorem pg_tupK {X : Cx} {K : PySem.W.Frag} {es : List Expr} {k : Nat} {pos : Pos} {t : TGs} {n : Nat} (hc : X.calm = true) (h : PGs X es t) (hK : X.K = K := by rfl)
    (hn : (assignEach es X.env).length = n := by rfl) (hst : (assignEach es X.env).findIdx? (·.1) = none := by rfl) : PG X (.Tuple es k pos) (gTup K n t) := by
  subst hK
  exact pg_tup hc h hn hst
theorem wipe2 {σ : L2.St} {i j : Nat} (h : i ≠ j) (x y : V) : wipe (((wipe σ [i, j]).set i (some x)).set j (some y)) [i, j] = wipe σ [i, j] := by
  show (((((σ.set j none).set i none).set i (some x)).set j (some y)).set j none).set i none = (σ.set j none).set i none
  rw [List.set_set, List.set_set, List.set_comm _ _ h, List.set_set, List.set_set]
theorem read_all2 {K : PySem.W.Frag} {σ : L2.St} {H : Hp} {Q : VK} {i j : Nat} {ta : TA} {te : TE} {k1 k2 : Ki} {a b : Addr} {xs ys : List V} {n : Nat} (p : Nat → Bool) (hij : i ≠ j) (hn : n = min xs.length ys.length)
    (hs : ∀ R : List V → Hp → Prop, R [.ref a, .ref b] H → ta σ H R) (hx : ∀ H', Same H H' → SqK K H' k1 a xs) (hy : ∀ H', Same H H' → SqK K H' k2 b ys) (hz : n ≤ 1000)
    (ht : ∀ (m : Nat) (x y : V) (H' : Hp), Same H H' → m < n → xs[m]? = some x → ys[m]? = some y → ∀ Q' : VK, (∀ H2, Same H' H2 → Q' (.bl (p m)) H2) → te (((wipe σ [i, j]).set i (some x)).set j (some y)) H' Q')
    (q : ∀ H', Same H H' → Q (.bl ((List.range n).all p)) H') : tCB (rAll K) (tCons (tLc (iZip2 K ta) (gTup K 2 (gCons (gName i) (gCons (gName j) gNil))) tYes te [i, j]) tNil) σ H Q := by
  refine hs _ ⟨k1, a, k2, b, xs, ys, rfl, hx H (Same.refl H), hy H (Same.refl H), fun D hD => ?_⟩
  refine lc_it (walk_zip2 hn) (fun m H' => Same H H' ∧ H' D = some (.lst ((List.range m).map fun m => V.bl (p m)))) ⟨Same.new hD, ?_⟩ (fun m H' _ h => ⟨hx H' h.1, hy H' h.1⟩) (fun m v H' H2 hm h hv => ?_) (fun H' h => ?_)
  · rw [upd_same]
    rfl
  · obtain ⟨T, x, y, rfl, nT, rfl, ex, ey⟩ := hv
    have sT : Same H' (upd H' T (.tup [x, y])) := Same.new nT
    refine ⟨T, [x, y], rfl, SqT.of upd_same, rfl, x, [y], rfl, y, [], rfl, rfl, wipe2 hij x y, tYes_eq (iteT (ht m x y _ (h.1.trans sT) hm ex ey _ fun H3 s3 => ?_))⟩
    refine ⟨_, s3 _ _ (sT _ _ h.2), ?_, fun c o e => ?_, ?_⟩
    · rw [List.length_map, List.length_range]
      exact small1000 (by omega)
    · rw [upd_ne (ne_of_none e hD)]
      exact s3 _ _ (sT _ _ (h.1 _ _ e))
    · rw [upd_same, List.range_succ, List.map_append]
      rfl
  · refine ⟨D, (List.range n).map p, rfl, .inl (.inl ?_), ?_⟩
    · rw [h.2, List.map_map]
      rfl
    · rw [List.all_map]
      exact q H' h.1
end HX

set_option maxRecDepth 100000
set_option maxHeartbeats 1000000
namespace HX
open PySem PySem.Spec PyProof.Rows L2
/-! ### enumerate of one thing, list or tuple -/
theorem enum_make {v : Value} {o : Obj} {J : Heap → Prop} (B : Begins v o J) :
    Meets (Builtin.«enumerate.__new__» ⟨[.type "enumerate", v], []⟩) (fun _ R s => J s.heap ∧ R (.ok (.ret (.ref (s.heap.push o).objs.size))) { s with heap := (s.heap.push o).push { cls := .type "enumerate", data := .fields #[.none, .bool false, .ref s.heap.objs.size, rawInt 0, .none, .none] } }) :=
  .of_wp fun prog w A R s h => by
    obtain ⟨hp, g, d, tk, os⟩ := s
    obtain ⟨hJ, h⟩ := h
    have hsub := sub_enumerate
    have goes : ∀ {A' : Around} {E : Value → Shared → Prop} {Q : Value → Shared → Prop}, Q (.ref hp.objs.size) ⟨hp.push o, g, d, tk, os⟩ → wpAny (model prog w) A' (pyIter v) Q E ⟨hp, g, d, tk, os⟩ :=
      fun q => B.iter prog w _ _ ⟨hp, g, d, tk, os⟩ _ hJ q
    wp_walk using goes
    refine wpAny_stack_any fun st => wpAny_pure ?_
    split
    · rename_i c _ _ _ _ _
      cases (c == Value.type "enumerate") <;> (wp_walk using goes; exact ⟨_, rfl, h⟩)
    · wp_walk using goes
      exact ⟨_, rfl, h⟩
theorem enum_call {prog : Program} {w : World} {A : Around} {E : Value → Shared → Prop} {s : Shared} {v : Value} {o : Obj} {J : Heap → Prop} {Q : Value → Shared → Prop} (B : Begins v o J) (hJ : J s.heap)
    (h : ∀ h', IsEnum h' (s.heap.objs.size + 1) s.heap.objs.size 0 .none → h'.get? s.heap.objs.size = some o → h'.objs.size = s.heap.objs.size + 2 → (∀ b o, s.heap.get? b = some o → h'.get? b = some o) → Q (.ref (s.heap.objs.size + 1)) { s with heap := h' }) :
    wpAny (model prog w) A (call (.type "enumerate") [v]) Q E s := by
  refine callType_new F.called_enumerate (by decide) (F.typeCall_enumerate_1 _) (F.newCall_enumerate_1 _) (fun obj => F.args_object_init_2 obj _) F.entry_enumerate_new (enum_make B) ⟨hJ, ?_⟩
  have hz : (s.heap.push o).objs.size = s.heap.objs.size + 1 := Heap.size_push ..
  show _ ∧ _
  rw [hz]
  have he : IsEnum ((s.heap.push o).push { cls := .type "enumerate", data := .fields #[.none, .bool false, .ref s.heap.objs.size, rawInt 0, .none, .none] }) (s.heap.objs.size + 1) s.heap.objs.size 0 .none := by
    have e := Heap.get?_push_size (s.heap.push o) (o := { cls := .type "enumerate", data := .fields #[.none, .bool false, .ref s.heap.objs.size, rawInt 0, .none, .none] }) rfl
    rw [hz] at e
    exact e
  exact ⟨⟨_, he, rfl⟩, h _ he (Heap.get?_push_of_some _ (Heap.get?_push_size _ B.free)) (by rw [Heap.size_push, hz]) fun b o x => Heap.get?_push_of_some _ (Heap.get?_push_of_some _ x)⟩
def IteK (K : PySem.W.Frag) (k : Ki) (a : Addr) : It :=
  ⟨fun i H => ∃ (xs : List V) (x : V), SqK K H k a xs ∧ xs[i]? = some x,
    fun i H v H' => ∃ T x, v = .ref T ∧ H T = none ∧ H' = upd H T (.tup [.int (i : Nat), x]) ∧ ∀ xs, SqK K H k a xs → xs[i]? = some x,
    fun i H => ∃ xs : List V, SqK K H k a xs ∧ i = xs.length⟩
theorem turn_enumK {P : Program} {w : World} {K : PySem.W.Frag} {elts : List Expr} {kk : Nat} {tpos : Pos} {k : Ki} {a e it : Addr} (nei : e ≠ it) (nea : e ≠ a) (na : a ≠ it) :
    Turn P w K (.Tuple elts kk tpos) (IteK K k a) [e, it] e (fun i h => (∃ old, IsEnum h e it ((0 : Int) + (i : Int)) old) ∧ ItrK h k it a i) where
  mem := by simp
  obj := fun i h st c hc => by
    obtain ⟨⟨old, he⟩, h1⟩ := st
    have e' : c = e ∨ c = it := by simpa using hc
    rcases e' with rfl | rfl
    · exact ⟨_, he, fun v q => nomatch q⟩
    · exact itrK_obj h1
  keep := fun i h h' st k => by
    obtain ⟨⟨old, he⟩, h1⟩ := st
    exact ⟨⟨old, k e (by simp) _ he⟩, itrK_at h1 fun o q => k it (by simp) o q⟩
  item := by
    intro X hP hw hK hc i pins s σ H E I hf st hg
    subst hP hw hK
    obtain ⟨he, h1⟩ := st
    obtain ⟨xs, x, hqx, hx⟩ := hg
    obtain ⟨its, rv, p⟩ := inv_seqK I hqx
    have l1 := rv.length
    have b1 := (List.getElem?_eq_some_iff.mp hx).1
    have hh : X.A.in1.handled = none := I.ok.hd hc
    have G := GoesN.enumFrom (A := X.A) (elts := elts) (x1 := kk) (pos := tpos) 0 (drawsK (prog := X.prog) (w := X.w) hh k it a na its.toArray) e nei (by simp [nei, nea]) (by simp)
    refine G.goes i s _ E (by rw [List.size_toArray]; omega) ⟨he, ⟨h1, p⟩⟩ fun v h' tk hY st' hk htk => ?_
    obtain ⟨T, t, u, rfl, hT, hu, hTup⟩ := hY
    obtain ⟨q1, q2, q3⟩ := st'
    obtain ⟨u', e1, ru⟩ := rv.get hx
    have e3 : u' = u := Option.some.inj (e1.symm.trans (by simpa using hu))
    subst e3
    have e0 : (0 : Int) + (i : Int) = ((i : Nat) : Int) := by omega
    rw [e0] at hTup
    have new : ObjOk X.prog X.w (upd H T (.tup [.int (i : Nat), x])) h' T (.tup [.int (i : Nat), x]) := ⟨by show 2 ≤ sizeLine; decide, [.int (i : Nat) t, u'], .cons ⟨_, rfl⟩ (.cons ru .nil), hTup⟩
    have I1 : Inv X pins σ (upd H T (.tup [.int (i : Nat), x])) { s with heap := h', toks := tk } := I.turnedNew (t' := tk) (ch := [e, it]) (fun c o hb q => hk c o hb q) hf hT new
    refine ⟨.ref T, _, I1, rfl, ⟨T, x, rfl, I.hok.fresh hT, rfl, fun l hl => by rw [inv_seqK_inj I hl hqx]; exact hx⟩, ⟨q1, q2⟩, fun c hcm => ?_⟩
    have hlt : c < s.heap.objs.size := by
      have e' : c = e ∨ c = it := by simpa using hcm
      obtain ⟨old, he'⟩ := he
      rcases e' with rfl | rfl
      · exact Heap.lt_size he'
      · exact Heap.lt_size (itrK_obj h1).choose_spec.1
    rw [upd_ne (Nat.ne_of_lt (Nat.lt_of_lt_of_le hlt hT))]
    exact (hf c hcm).1
  done := by
    intro X hP hw hK hc i pins s σ H E I hf st hg
    subst hP hw hK
    obtain ⟨he, h1⟩ := st
    obtain ⟨xs, hqx, hend⟩ := hg
    obtain ⟨its, rv, p⟩ := inv_seqK I hqx
    have l1 := rv.length
    have hh : X.A.in1.handled = none := I.ok.hd hc
    have G := GoesN.enumFrom (A := X.A) (elts := elts) (x1 := kk) (pos := tpos) 0 (drawsK (prog := X.prog) (w := X.w) hh k it a na its.toArray) e nei (by simp [nei, nea]) (by simp)
    have ei : i = its.toArray.size := by rw [List.size_toArray]; omega
    subst ei
    exact G.stops s _ E ⟨he, ⟨h1, p⟩⟩ fun h' tk hk htk => I.turnedL (t' := tk) (ch := [e, it]) (fun c o hb q => hk c o hb q) hf
  self := fun A i s Q E st h => let ⟨⟨_, he⟩, _⟩ := st; wpAny_pyIter_enum he h
def iEnumK (K : PySem.W.Frag) (ta : TA) : TI := fun σ H R => ta σ H fun vs H1 => ∃ k a xs, vs = [.ref a] ∧ SqK K H1 k a xs ∧ R (IteK K k a) H1
theorem pi_enumT {X : Cx} {e : Expr} {ta : TA} {p pos tpos : Pos} {elts : List Expr} {kk : Nat} (hg : Gl X "enumerate") (hm : X.mg "enumerate" = none) (ha : PA X [e] ta) (hs : starEach [e] X.env = [(false, eval e X.env)] := by rfl) :
    PI X (.Tuple elts kk tpos) (.Call (.Name "enumerate" p) [e] [] pos) (iEnumK X.K ta) := by
  refine ⟨fun pins s σ H R I h => ?_⟩
  refine Call_ (ld_blt I hg hm boot_enumerate (PyProof.Rows.callWith_type1 (thn (ha.run pos pins s σ H _ I h) fun us s1 ⟨vs, H1, I1, r1, q1⟩ => ?_) hs rfl))
  obtain ⟨k, a, xs, rfl, hqx, q⟩ := q1
  obtain ⟨u1, rfl, r⟩ := vals1 r1
  cases r
  obtain ⟨its, rv, p1⟩ := inv_seqK I1 hqx
  have la := seqK_lt p1
  refine enum_call (beginsK k a its.toArray) p1 fun h' he g1 hsz hk => wpAny_pyIter_enum he ?_
  have I2 : Inv X pins σ H1 { s1 with heap := h' } := I1.kept (t' := s1.toks) hk
  refine ⟨s1.heap.objs.size + 1, [s1.heap.objs.size + 1, s1.heap.objs.size], _, _, H1, rfl, I2, turn_enumK (Nat.succ_ne_self _) (Nat.ne_of_gt (Nat.lt_succ_of_lt la)) (Nat.ne_of_lt la), ⟨⟨.none, he⟩, itrK_of g1⟩, fun c hcm => ?_, q⟩
  have hle : s1.heap.objs.size ≤ c := by
    have e' : c = s1.heap.objs.size + 1 ∨ c = s1.heap.objs.size := by simpa using hcm
    rcases e' with e' | e' <;> rw [e'] <;> first | exact Nat.le_refl _ | exact Nat.le_add_right _ _
  exact I1.fpOk hle (I1.hok.fresh hle)
theorem walk_enumK {K : PySem.W.Frag} {k : Ki} {a : Addr} {xs : List V} : Walk (IteK K k a) xs.length (fun H => SqK K H k a xs) (YPair (fun i => some (.int (i : Nat))) (fun i => xs[i]?)) := by
  refine ⟨fun i _ hi q => ⟨xs, xs[i], q, by simp⟩, fun H q => ⟨xs, q, rfl⟩, fun i H v H' _ q y => ?_⟩
  obtain ⟨T, x, h1, h2, h3, h4⟩ := y
  exact ⟨T, .int (i : Nat), x, h1, h2, h3, rfl, h4 xs q⟩
/-! ### what stands in a list, by values: xs[i] op= e -/
def rGetL (K : PySem.W.Frag) : V → V → Hp → VK → Prop := fun o i H Q => ∃ p xs j z, o = .ref p ∧ i = .int ((j : Nat) : Int) ∧ SqL K H p xs ∧ xs[j]? = some z ∧ Q z H
theorem get_list {X : Cx} : PGet X (rGetL X.K) := by
  intro pins s σ H o i ov iv Q I ro ri h
  obtain ⟨p, xs, j, z, rfl, rfl, hq, hz, q⟩ := h
  cases ro
  obtain ⟨t, rfl⟩ := ri
  obtain ⟨its, r, pl, hsz⟩ := I.list hq
  obtain ⟨u, e, ru⟩ := r.get hz
  have hj := (List.getElem?_eq_some_iff.mp hz).1
  have hn := line63
  exact wpAny_getItem_list pl.isList (by omega) (by omega) (by simpa using e) ⟨z, H, I, ru, q⟩
end HX

set_option maxRecDepth 100000
set_option maxHeartbeats 1000000
namespace HX
open PySem PySem.Spec PyProof.Rows L2
/-! ### marbles handled, on plain lists -/
structure Mo where
  st : List Int
  wt : List Int
  hd : List Int
def bump (l : List Int) (i : Nat) (d : Int) : List Int := l.set i (l.getD i 0 + d)
theorem bump_len {l : List Int} {i : Nat} {d : Int} : (bump l i d).length = l.length := List.length_set
def sendM (W : Nat) (p : List Int × List Int) (e : Int) : List Int × List Int := if e < (W : Int) then (bump p.1 e.toNat 1, p.2) else (p.1, bump p.2 (e - (W : Int)).toNat 1)
def endsAt (ws : List (List (List Int))) (st : List Int) (w : Nat) : List Int := (ws.getD w []).getD (st.getD w 0).toNat []
def sentM (ws : List (List (List Int))) (m : Mo) (w : Nat) : List Int × List Int := (endsAt ws m.st w).foldl (sendM ws.length) (bump m.wt w (-1), m.hd)
def handleM (ws : List (List (List Int))) (m : Mo) (w : Nat) : Mo := ⟨m.st.set w ((m.st.getD w 0 + 1) % ((ws.getD w []).length : Int)), (sentM ws m w).1, (sentM ws m w).2⟩
/-- of its form: as many as there are, each wheel at one of its steps -/
structure MoF (ws : List (List (List Int))) (c : Int) (m : Mo) : Prop where
  sl : m.st.length = ws.length
  sr : ∀ (i : Nat) (s : Int) (w : List (List Int)), m.st[i]? = some s → ws[i]? = some w → 0 ≤ s ∧ s < (w.length : Int)
  wl : m.wt.length = ws.length
  hl : (m.hd.length : Int) = c
structure MoOk (ws : List (List (List Int))) (c : Int) (m : Mo) : Prop extends MoF ws c m where
  wn : ∀ x ∈ m.wt, 0 ≤ x
  hn : ∀ x ∈ m.hd, 0 ≤ x
theorem send_len (W : Nat) : ∀ (es : List Int) (p : List Int × List Int), ((es.foldl (sendM W) p).1.length = p.1.length) ∧ ((es.foldl (sendM W) p).2.length = p.2.length)
  | [], p => ⟨rfl, rfl⟩
  | e :: es, p => by
    obtain ⟨h1, h2⟩ := send_len W es (sendM W p e)
    rw [List.foldl_cons]
    refine ⟨h1.trans ?_, h2.trans ?_⟩
    · unfold sendM
      split
      · exact bump_len
      · rfl
    · unfold sendM
      split
      · rfl
      · exact bump_len
theorem bump_nn {l : List Int} {i : Nat} {d : Int} (h : ∀ x ∈ l, 0 ≤ x) (hd : 0 ≤ l.getD i 0 + d) : ∀ x ∈ bump l i d, 0 ≤ x := by
  intro x hx
  rcases List.mem_or_eq_of_mem_set hx with hx | hx
  · exact h x hx
  · rw [hx]
    exact hd
theorem getD_nn {l : List Int} {i : Nat} (h : ∀ x ∈ l, 0 ≤ x) : 0 ≤ l.getD i 0 := by
  rw [List.getD_eq_getElem?_getD]
  cases e : l[i]? with
  | none => exact Int.le_refl 0
  | some x => exact h x (List.mem_of_getElem? e)
theorem send_nn (W : Nat) : ∀ (es : List Int) (p : List Int × List Int), (∀ x ∈ p.1, 0 ≤ x) → (∀ x ∈ p.2, 0 ≤ x) → (∀ x ∈ (es.foldl (sendM W) p).1, 0 ≤ x) ∧ ∀ x ∈ (es.foldl (sendM W) p).2, 0 ≤ x
  | [], p, h1, h2 => ⟨h1, h2⟩
  | e :: es, p, h1, h2 => by
    rw [List.foldl_cons]
    refine send_nn W es _ ?_ ?_
    · unfold sendM
      split
      · exact bump_nn h1 (by have := getD_nn (i := e.toNat) h1; omega)
      · exact h1
    · unfold sendM
      split
      · exact h2
      · exact bump_nn h2 (by have := getD_nn (i := (e - (W : Int)).toNat) h2; omega)
theorem MoF.handle {ws : List (List (List Int))} {c : Int} {m : Mo} {w : Nat} (h : MoF ws c m) (hw : ∀ x ∈ ws, 1 ≤ x.length) : MoF ws c (handleM ws m w) := by
  obtain ⟨l1, l2⟩ := send_len ws.length (endsAt ws m.st w) (bump m.wt w (-1), m.hd)
  refine ⟨?_, fun i s x e1 e2 => ?_, ?_, ?_⟩
  · show (m.st.set _ _).length = _
    rw [List.length_set]
    exact h.sl
  · have e1' : (m.st.set w ((m.st.getD w 0 + 1) % ((ws.getD w []).length : Int)))[i]? = some s := e1
    rw [List.getElem?_set] at e1'
    split at e1'
    · rename_i q
      subst q
      split at e1'
      · have e3 := Option.some.inj e1'
        have hx := hw x (List.mem_of_getElem? e2)
        have e4 : ws.getD w [] = x := by
          rw [List.getD_eq_getElem?_getD, e2]
          rfl
        rw [← e3, e4]
        exact ⟨Int.emod_nonneg _ (by omega), Int.emod_lt_of_pos _ (by omega)⟩
      · cases e1'
    · exact h.sr i s x e1' e2
  · show (sentM ws m w).1.length = _
    unfold sentM
    rw [l1, bump_len]
    exact h.wl
  · show ((sentM ws m w).2.length : Int) = _
    unfold sentM
    rw [l2]
    exact h.hl
theorem MoOk.handle {ws : List (List (List Int))} {c : Int} {m : Mo} {w : Nat} (h : MoOk ws c m) (hw : ∀ x ∈ ws, 1 ≤ x.length) (hp : 0 < m.wt.getD w 0) : MoOk ws c (handleM ws m w) := by
  obtain ⟨n1, n2⟩ := send_nn ws.length (endsAt ws m.st w) (bump m.wt w (-1), m.hd) (bump_nn h.wn (by omega)) h.hn
  exact ⟨h.toMoF.handle hw, n1, n2⟩
/-! ### the lists in the heap -/
theorem getI {l : List Int} {i : Nat} (h : i < l.length) : (l.map V.int)[i]? = some (.int (l.getD i 0)) := by
  rw [List.getElem?_map, List.getD_eq_getElem?_getD, List.getElem?_eq_getElem h]
  rfl
theorem ixN_nat {n j : Nat} (h : j < n) : ixN n (j : Int) = some j := by
  unfold ixN
  rw [if_pos (Int.natCast_nonneg j), if_pos (by omega)]
  rfl
theorem setI {l : List Int} {i : Nat} {z : Int} : (l.map V.int).set i (.int z) = (l.set i z).map V.int := (List.map_set ..).symm
theorem KT.kpN {N : Addr → Prop} {H H' : Hp} (hl : ∀ b, N b → ∃ xs, H b = some (.lst xs)) (k : Kp N H H') : KT H H' := fun b ys e => k b _ e fun n => by
  obtain ⟨xs, e'⟩ := hl b n
  rw [e] at e'
  cases e'
def N3 (a b c : Addr) : Addr → Prop := fun x => x = a ∨ x = b ∨ x = c
/-- a moment's three lists -/
structure Laid (H : Hp) (a b c : Addr) (m : Mo) : Prop where
  s : H a = some (.lst (m.st.map V.int))
  w : H b = some (.lst (m.wt.map V.int))
  h : H c = some (.lst (m.hd.map V.int))
  nab : a ≠ b
  nac : a ≠ c
  nbc : b ≠ c
theorem Laid.kt {H H' : Hp} {a b c : Addr} {m : Mo} (l : Laid H a b c m) (k : Kp (N3 a b c) H H') : KT H H' := KT.kpN (fun x n => by
  rcases n with rfl | rfl | rfl
  · exact ⟨_, l.s⟩
  · exact ⟨_, l.w⟩
  · exact ⟨_, l.h⟩) k
theorem TdAll.wheelAt {H : Hp} {ys : List V} {ws : List (List (List Int))} (h : TdAll H ys (ws.map wheelD)) {i : Nat} (hi : i < ws.length) : ∃ az zs, ys[i]? = some (.ref az) ∧ H az = some (.tup zs) ∧ TdAll H zs ((ws.getD i []).map stepD) := by
  obtain ⟨v, e1, e2⟩ := h.at (i := i) (d := wheelD (ws.getD i [])) (by
    rw [List.getElem?_map, List.getD_eq_getElem?_getD, List.getElem?_eq_getElem hi]
    rfl)
  obtain ⟨az, zs, rfl, ez, hz⟩ := Td.tupOf e2
  exact ⟨az, zs, e1, ez, hz⟩
theorem TdAll.stepAt {H : Hp} {zs : List V} {w : List (List Int)} (h : TdAll H zs (w.map stepD)) {i : Nat} (hi : i < w.length) : ∃ ae, zs[i]? = some (.ref ae) ∧ H ae = some (.tup ((w.getD i []).map V.int)) := by
  obtain ⟨v, e1, e2⟩ := h.at (i := i) (d := stepD (w.getD i [])) (by
    rw [List.getElem?_map, List.getD_eq_getElem?_getD, List.getElem?_eq_getElem hi]
    rfl)
  obtain ⟨ae, es, rfl, ee, he⟩ := Td.tupOf e2
  refine ⟨ae, e1, ?_⟩
  rw [ee]
  have : ∀ (ns : List Int) (vs : List V), TdAll H vs (ns.map PyData.int) → vs = ns.map V.int := by
    intro ns
    induction ns with
    | nil => intro vs h; cases h; rfl
    | cons n ns ih =>
      intro vs h
      cases h with
      | cons h1 h2 => rw [h1.intOf, ih _ h2]; rfl
  rw [this _ _ he]
theorem Td.boardOf {H : Hp} {v : V} {ws : List (List (List Int))} {c : Int} (h : Td H v (boardD ws c)) : ∃ ab aw ys, v = .ref ab ∧ H ab = some (.tup [.ref aw, .int c]) ∧ H aw = some (.tup ys) ∧ TdAll H ys (ws.map wheelD) := by
  obtain ⟨ab, xs, rfl, eb, hx⟩ := Td.tupOf h
  cases hx with
  | @cons vw vs1 _ _ hw hr1 =>
  cases hr1 with
  | @cons vc vs2 _ _ hc hr2 =>
  cases hr2
  obtain rfl := hc.intOf
  obtain ⟨aw, ys, rfl, ew, hy⟩ := Td.tupOf hw
  exact ⟨ab, aw, ys, rfl, eb, ew, hy⟩
end HX

set_option maxRecDepth 100000
set_option maxHeartbeats 1000000
namespace HX
open PySem PySem.Spec PyProof.Rows L2
/-! ### sum of a tuple, count in a tuple -/
def rSumT (K : PySem.W.Frag) : List V → Hp → VK → Prop := fun vs H Q => ∃ (a : Addr) (ns : List Int), vs = [V.ref a] ∧ SqT K H a (ns.map V.int) ∧ Q (.int ns.sum) H
theorem cr_sumT {X : Cx} (hc : X.calm = true) : CallR X (.builtin "sum") (rSumT X.K) := by
  intro pins s σ H vs us Q I r h
  obtain ⟨a, ns, rfl, hs, q⟩ := h
  obtain ⟨its, rv, hl, _⟩ := I.tuple hs
  obtain ⟨u, rfl, ru⟩ := vals1 r
  cases ru
  have hi := ints_of_vals rv
  obtain ⟨xs, e⟩ := hi.allInts.items
  have hn : numsOf (intItems xs).toList = ns := by rw [← e]; exact hi.numsOf
  rw [nums_intItems] at hn
  rw [e] at hl
  refine PySem.W.ktm_sumG (I.ok.hd hc) hl fun h' tk t' hk => ?_
  have fin : EP X pins σ Q (.int ns.sum t') { s with heap := h', toks := tk } := ⟨.int _, H, I.kept hk, ⟨_, rfl⟩, q⟩
  rw [preSum_eq, List.take_of_length_le (by simp), hn]
  exact fin
def rCntT (K : PySem.W.Frag) : V → List V → Hp → VK → Prop := fun x xs H Q => ∃ (p : Addr) (ns : List Int) (k : Int), x = .ref p ∧ xs = [.int k] ∧ SqT K H p (ns.map V.int) ∧ Q (.int (ns.count k : Nat)) H
theorem mt_tcount {X : Cx} : MtR X "tuple.count" (rCntT X.K) := by
  intro pins s σ H x xs v us Q I rx rxs h
  obtain ⟨p, ns, k, rfl, rfl, hs, q⟩ := h
  cases rx
  obtain ⟨u, rfl, ru⟩ := rxs.one
  obtain ⟨t, rfl⟩ := ru
  obtain ⟨its, rv, ⟨⟨cls, dd, data, sl⟩, ho, hc, n, hd⟩, hlen⟩ := I.tuple hs
  simp only at hc hd
  subst hc hd
  have hi := ints_of_vals rv
  refine call_meets PySem.F.slot_tuple_count ⟨_, ho, rfl⟩ PySem.F.entry_tuple_count (PySem.F.args_tuple_count_2 _ _)
    (SeqAt.tuple_countAt p its.toArray n dd sl (.int k t) (eqk k)) ⟨ho, fun y hy => (eqk_gives hi y (by simpa using hy)).at _ _, ?_⟩
  have ec : its.toArray.toList.countP (eqk k) = ns.count k := eqk_count hi
  refine ⟨.int (ns.count k : Nat), H, I.tok _, ⟨s.toks, ?_⟩, q⟩
  show Value.int ((its.toArray.toList.countP (eqk k) : Nat) : Int) s.toks = Value.int ((ns.count k : Nat) : Int) s.toks
  rw [ec]
/-! ### zip of three -/
def Itz3 (K : PySem.W.Frag) (k1 : Ki) (a : Addr) (k2 : Ki) (b : Addr) (k3 : Ki) (c : Addr) : It :=
  ⟨fun i H => ∃ (xs ys zs : List V) (x y z : V), SqK K H k1 a xs ∧ SqK K H k2 b ys ∧ SqK K H k3 c zs ∧ xs[i]? = some x ∧ ys[i]? = some y ∧ zs[i]? = some z,
    fun i H v H' => ∃ T x y z, v = .ref T ∧ H T = none ∧ H' = upd H T (.tup [x, y, z]) ∧ (∀ xs, SqK K H k1 a xs → xs[i]? = some x) ∧ (∀ ys, SqK K H k2 b ys → ys[i]? = some y) ∧ ∀ zs, SqK K H k3 c zs → zs[i]? = some z,
    fun i H => ∃ xs ys zs : List V, SqK K H k1 a xs ∧ SqK K H k2 b ys ∧ SqK K H k3 c zs ∧ i = min (min xs.length ys.length) zs.length⟩
theorem turn_zip3 {P : Program} {w : World} {K : PySem.W.Frag} {elts : List Expr} {kk : Nat} {tpos : Pos} {k1 k2 k3 : Ki} {a b c z TI TO i1 i2 i3 : Addr} (S : ZipSep3 z TI TO i1 i2 i3 [i1, a] [i2, b] [i3, c]) (na : a ≠ i1) (nb : b ≠ i2) (nc : c ≠ i3) :
    Turn P w K (.Tuple elts kk tpos) (Itz3 K k1 a k2 b k3 c) [z, TI, TO, i1, i2, i3] z (fun i h => IsZip h z TI TO .none ∧ IsTupOf3 h TI (.ref i1) (.ref i2) (.ref i3) ∧ (∃ x y u, IsTupOf3 h TO x y u) ∧ ItrK h k1 i1 a i ∧ ItrK h k2 i2 b i ∧ ItrK h k3 i3 c i) where
  mem := by simp
  obj := fun i h st d hc => by
    obtain ⟨hz, hTI, ⟨x, y, u, hTO⟩, h1, h2, h3⟩ := st
    have e' : d = z ∨ d = TI ∨ d = TO ∨ d = i1 ∨ d = i2 ∨ d = i3 := by simpa using hc
    rcases e' with rfl | rfl | rfl | rfl | rfl | rfl
    · exact ⟨_, hz, fun v q => nomatch q⟩
    · exact ⟨_, hTI, fun v q => nomatch q⟩
    · exact ⟨_, hTO, fun v q => nomatch q⟩
    · exact itrK_obj h1
    · exact itrK_obj h2
    · exact itrK_obj h3
  keep := fun i h h' st k => by
    obtain ⟨hz, hTI, ⟨x, y, u, hTO⟩, h1, h2, h3⟩ := st
    exact ⟨k z (by simp) _ hz, k TI (by simp) _ hTI, ⟨x, y, u, k TO (by simp) _ hTO⟩, itrK_at h1 fun o q => k i1 (by simp) o q, itrK_at h2 fun o q => k i2 (by simp) o q, itrK_at h3 fun o q => k i3 (by simp) o q⟩
  item := by
    intro X hP hw hK hc i pins s σ H E I hf st hg
    subst hP hw hK
    obtain ⟨hz, hTI, hTO, h1, h2, h3⟩ := st
    obtain ⟨xs, ys, zs, x, y, t, hqx, hqy, hqz, hx, hy, ht⟩ := hg
    obtain ⟨its, rv, p⟩ := inv_seqK I hqx
    obtain ⟨its2, rv2, p2⟩ := inv_seqK I hqy
    obtain ⟨its3, rv3, p3⟩ := inv_seqK I hqz
    have l1 := rv.length
    have l2 := rv2.length
    have l3 := rv3.length
    have b1 := (List.getElem?_eq_some_iff.mp hx).1
    have b2 := (List.getElem?_eq_some_iff.mp hy).1
    have b3 := (List.getElem?_eq_some_iff.mp ht).1
    have hh : X.A.in1.handled = none := I.ok.hd hc
    have G := GoesN.zip3 (A := X.A) (elts := elts) (x1 := kk) (pos := tpos) S (drawsK (prog := X.prog) (w := X.w) hh k1 i1 a na its.toArray) (drawsK (prog := X.prog) (w := X.w) hh k2 i2 b nb its2.toArray) (drawsK (prog := X.prog) (w := X.w) hh k3 i3 c nc its3.toArray)
    refine G.goes i s _ E (by rw [List.size_toArray, List.size_toArray, List.size_toArray]; omega) ⟨hz, hTI, hTO, ⟨h1, p⟩, ⟨h2, p2⟩, ⟨h3, p3⟩⟩ fun v h' tk hY st' hk htk => ?_
    obtain ⟨T, u, u2, u3, rfl, hT, hu, hu2, hu3, hTup⟩ := hY
    obtain ⟨q1, q2, q3, q4, q5, q6⟩ := st'
    obtain ⟨u', e1, ru⟩ := rv.get hx
    obtain ⟨u2', e2, ru2⟩ := rv2.get hy
    obtain ⟨u3', e3, ru3⟩ := rv3.get ht
    have f1 : u' = u := Option.some.inj (e1.symm.trans (by simpa using hu))
    have f2 : u2' = u2 := Option.some.inj (e2.symm.trans (by simpa using hu2))
    have f3 : u3' = u3 := Option.some.inj (e3.symm.trans (by simpa using hu3))
    subst f1 f2 f3
    have new : ObjOk X.prog X.w (upd H T (.tup [x, y, t])) h' T (.tup [x, y, t]) := ⟨by show 3 ≤ sizeLine; decide, [u', u2', u3'], .cons ru (.cons ru2 (.cons ru3 .nil)), hTup⟩
    have I1 : Inv X pins σ (upd H T (.tup [x, y, t])) { s with heap := h', toks := tk } :=
      I.turnedNew (t' := tk) (ch := [z, TI, TO, i1, i2, i3]) (fun d o hb q => hk d o (fun m => hb (by
        have e' : d = z ∨ d = TO ∨ d = i1 ∨ d = i2 ∨ d = i3 := by simpa using m
        rcases e' with rfl | rfl | rfl | rfl | rfl <;> simp)) q) hf hT new
    refine ⟨.ref T, _, I1, rfl, ⟨T, x, y, t, rfl, I.hok.fresh hT, rfl, fun l hl => by rw [inv_seqK_inj I hl hqx]; exact hx, fun l hl => by rw [inv_seqK_inj I hl hqy]; exact hy, fun l hl => by rw [inv_seqK_inj I hl hqz]; exact ht⟩, ⟨q1, q2, q3, q4.1, q5.1, q6.1⟩, fun d hcm => ?_⟩
    have hlt : d < s.heap.objs.size := by
      have e' : d = z ∨ d = TI ∨ d = TO ∨ d = i1 ∨ d = i2 ∨ d = i3 := by simpa using hcm
      obtain ⟨x0, y0, u0, hTO'⟩ := hTO
      rcases e' with rfl | rfl | rfl | rfl | rfl | rfl
      · exact Heap.lt_size hz
      · exact Heap.lt_size hTI
      · exact Heap.lt_size hTO'
      · exact Heap.lt_size (itrK_obj h1).choose_spec.1
      · exact Heap.lt_size (itrK_obj h2).choose_spec.1
      · exact Heap.lt_size (itrK_obj h3).choose_spec.1
    rw [upd_ne (Nat.ne_of_lt (Nat.lt_of_lt_of_le hlt hT))]
    exact (hf d hcm).1
  done := by
    intro X hP hw hK hc i pins s σ H E I hf st hg
    subst hP hw hK
    obtain ⟨hz, hTI, hTO, h1, h2, h3⟩ := st
    obtain ⟨xs, ys, zs, hqx, hqy, hqz, hend⟩ := hg
    obtain ⟨its, rv, p⟩ := inv_seqK I hqx
    obtain ⟨its2, rv2, p2⟩ := inv_seqK I hqy
    obtain ⟨its3, rv3, p3⟩ := inv_seqK I hqz
    have l1 := rv.length
    have l2 := rv2.length
    have l3 := rv3.length
    have hh : X.A.in1.handled = none := I.ok.hd hc
    have G := GoesN.zip3 (A := X.A) (elts := elts) (x1 := kk) (pos := tpos) S (drawsK (prog := X.prog) (w := X.w) hh k1 i1 a na its.toArray) (drawsK (prog := X.prog) (w := X.w) hh k2 i2 b nb its2.toArray) (drawsK (prog := X.prog) (w := X.w) hh k3 i3 c nc its3.toArray)
    have ei : i = min (min its.toArray.size its2.toArray.size) its3.toArray.size := by rw [List.size_toArray, List.size_toArray, List.size_toArray]; omega
    subst ei
    exact G.stops s _ E ⟨hz, hTI, hTO, ⟨h1, p⟩, ⟨h2, p2⟩, ⟨h3, p3⟩⟩ fun h' tk hk htk => I.turnedL (t' := tk) (ch := [z, TI, TO, i1, i2, i3]) (fun d o hb q => hk d o (fun m => hb (by
        have e' : d = z ∨ d = TO ∨ d = i1 ∨ d = i2 ∨ d = i3 := by simpa using m
        rcases e' with rfl | rfl | rfl | rfl | rfl <;> simp)) q) hf
  self := fun A i s Q E st h => wpAny_pyIter_zip st.1 h
def iZip3 (K : PySem.W.Frag) (ta : TA) : TI := fun σ H R => ta σ H fun vs H1 => ∃ k1 a k2 b k3 c xs ys zs, vs = [.ref a, .ref b, .ref c] ∧ SqK K H1 k1 a xs ∧ SqK K H1 k2 b ys ∧ SqK K H1 k3 c zs ∧ R (Itz3 K k1 a k2 b k3 c) H1
theorem vals3 {v1 v2 v3 : V} {us : List Value} (h : Vals [v1, v2, v3] us) : ∃ u1 u2 u3, us = [u1, u2, u3] ∧ RelV v1 u1 ∧ RelV v2 u2 ∧ RelV v3 u3 := by
  cases h with
  | cons r rr =>
    cases rr with
    | cons r2 rr2 =>
      cases rr2 with
      | cons r3 rr3 =>
        cases rr3
        exact ⟨_, _, _, rfl, r, r2, r3⟩
theorem pi_zip3 {X : Cx} {e e2 e3 : Expr} {ta : TA} {p pos tpos : Pos} {elts : List Expr} {kk : Nat} (hg : Gl X "zip") (hm : X.mg "zip" = none) (ha : PA X [e, e2, e3] ta)
    (hs : starEach [e, e2, e3] X.env = (false, eval e X.env) :: starEach [e2, e3] X.env := by rfl) (hpl : (backTo pos (starEach [e2, e3] X.env)).any (·.1) = false := by rfl) :
    PI X (.Tuple elts kk tpos) (.Call (.Name "zip" p) [e, e2, e3] [] pos) (iZip3 X.K ta) := by
  refine ⟨fun pins s σ H R I h => ?_⟩
  refine Call_ (ld_blt I hg hm PyProof.Rows.boot_zip (PyProof.Rows.callWith_type1 (thn (ha.run pos pins s σ H _ I h) fun us s1 ⟨vs, H1, I1, r1, q1⟩ => ?_) hs hpl))
  obtain ⟨k1, a, k2, b, k3, c, xs, ys, zs, rfl, hqx, hqy, hqz, q⟩ := q1
  obtain ⟨u1, u2, u3, rfl, r, r', r''⟩ := vals3 r1
  cases r
  cases r'
  cases r''
  obtain ⟨its, rv, p1⟩ := inv_seqK I1 hqx
  obtain ⟨its2, rv2, p2⟩ := inv_seqK I1 hqy
  obtain ⟨its3, rv3, p3⟩ := inv_seqK I1 hqz
  have la := seqK_lt p1
  have lb := seqK_lt p2
  have lc := seqK_lt p3
  refine zip_begins3 (beginsK k1 a its.toArray) (beginsK k2 b its2.toArray) (beginsK k3 c its3.toArray) p1 p2 p3 fun h' hz hTI hTO g1 g2 g3 hsz hk => wpAny_pyIter_zip hz ?_
  have I2 : Inv X pins σ H1 { s1 with heap := h' } := I1.kept (t' := s1.toks) hk
  refine ⟨s1.heap.objs.size + 5, [s1.heap.objs.size + 5, s1.heap.objs.size + 3, s1.heap.objs.size + 4, s1.heap.objs.size, s1.heap.objs.size + 1, s1.heap.objs.size + 2], _, _, H1, rfl, I2,
    turn_zip3 (zip_sep3 (N := s1.heap.objs.size) (fp1 := [a]) (fp2 := [b]) (fp3 := [c]) (fun d m => by rw [List.mem_singleton.mp m]; exact la) (fun d m => by rw [List.mem_singleton.mp m]; exact lb) (fun d m => by rw [List.mem_singleton.mp m]; exact lc)) (Nat.ne_of_lt la) (Nat.ne_of_lt (Nat.lt_succ_of_lt lb)) (Nat.ne_of_lt (Nat.lt_succ_of_lt (Nat.lt_succ_of_lt lc))),
    ⟨hz, hTI, ⟨_, _, _, hTO⟩, itrK_of g1, itrK_of g2, itrK_of g3⟩, fun d hcm => ?_, q⟩
  have hle : s1.heap.objs.size ≤ d := by
    have e' : d = s1.heap.objs.size + 5 ∨ d = s1.heap.objs.size + 3 ∨ d = s1.heap.objs.size + 4 ∨ d = s1.heap.objs.size ∨ d = s1.heap.objs.size + 1 ∨ d = s1.heap.objs.size + 2 := by simpa using hcm
    rcases e' with e' | e' | e' | e' | e' | e' <;> rw [e'] <;> first | exact Nat.le_refl _ | exact Nat.le_add_right _ _
  exact I1.fpOk hle (I1.hok.fresh hle)
def YTri (xs ys zs : Nat → Option V) : Nat → Hp → V → Hp → Prop := fun i H v H' => ∃ T x y z, v = .ref T ∧ H T = none ∧ H' = upd H T (.tup [x, y, z]) ∧ xs i = some x ∧ ys i = some y ∧ zs i = some z
theorem walk_zip3 {K : PySem.W.Frag} {k1 k2 k3 : Ki} {a b c : Addr} {xs ys zs : List V} {n : Nat} (hn : n = min (min xs.length ys.length) zs.length) : Walk (Itz3 K k1 a k2 b k3 c) n (fun H => SqK K H k1 a xs ∧ SqK K H k2 b ys ∧ SqK K H k3 c zs) (YTri (fun i => xs[i]?) (fun i => ys[i]?) (fun i => zs[i]?)) := by
  refine ⟨fun i _ hi q => ⟨xs, ys, zs, xs[i]'(by omega), ys[i]'(by omega), zs[i]'(by omega), q.1, q.2.1, q.2.2, by simp, by simp, by simp⟩, fun H q => ⟨xs, ys, zs, q.1, q.2.1, q.2.2, hn⟩, fun i H v H' _ q y => ?_⟩
  obtain ⟨T, x, y, z, h1, h2, h3, h4, h5, h6⟩ := y
  exact ⟨T, x, y, z, h1, h2, h3, h4 xs q.1, h5 ys q.2.1, h6 zs q.2.2⟩
end HX

set_option maxRecDepth 100000
set_option maxHeartbeats 1000000
namespace HX
open PySem PySem.Spec PyProof.Rows L2
theorem mt_tcountK {X : Cx} {K : PySem.W.Frag} (h : X.K = K := by rfl) : MtR X "tuple.count" (rCntT K) := by
  subst h
  exact mt_tcount
theorem pe_bmK {X : Cx} {K : PySem.W.Frag} {T name id : String} {r : V → List V → Hp → VK → Prop} {o e : Expr} {es : List Expr} {to : TE} {t : TA} {apos cpos : Pos} (pa : PlainAttrs T) (slot : Slot T name id) (hty : typeOf (.builtin id) = pure (.type "method_descriptor")) (hm : MtR X id r) (ho : PE X o to) (ha : PA X (e :: es) t) (hK : X.K = K := by rfl)
    (hbase : attributeBase o name X.env (eval o X.env) = eval o X.env := by rfl)
    (hfew : ((backTo cpos (starEach (e :: es) X.env)).all (fun x => !x.1) && (backToKw cpos (keywordEach [] X.env)).all (fun x => x.1.isSome)
      && decide ((e :: es).length + ([] : List Keyword).length + (if ([] : List Keyword).isEmpty then 0 else 1) < 30)) = true := by rfl)
    (hline : (apos.endLine == cpos.line) = true := by rfl) (hs : starEach (e :: es) X.env = (false, eval e X.env) :: starEach es X.env := by rfl) (hplain : (backTo cpos (starEach es X.env)).any (·.1) = false := by rfl) :
    PE X (.Call (.Attribute o name apos) (e :: es) [] cpos) (tBM K T r to t) := by
  subst hK
  exact pe_bm pa slot hty hm ho ha hbase hfew hline hs hplain
theorem hu64 {A : Around} {k : Nat} (hr : Room k A) : A.units + 64 < cLine := by
  have := hu150 hr
  omega
theorem s_cb1 {r : List V → Hp → VK → Prop} {t : TE} {σ : L2.St} {H : Hp} {Q : VK} (h : t σ H fun x H1 => r [x] H1 Q) : tCB r (tCons t tNil) σ H Q := h
theorem s_cons {t : TE} {u : TA} {σ : L2.St} {H : Hp} {Q : List V → Hp → Prop} (h : t σ H fun x H1 => u σ H1 fun xs H2 => Q (x :: xs) H2) : tCons t u σ H Q := h
theorem wipe3 {σ : L2.St} {i j l : Nat} (h : i ≠ j) (h2 : i ≠ l) (h3 : j ≠ l) (x y z : V) : wipe ((((wipe σ [i, j, l]).set i (some x)).set j (some y)).set l (some z)) [i, j, l] = wipe σ [i, j, l] := by
  show ((((((((σ.set l none).set j none).set i none).set i (some x)).set j (some y)).set l (some z)).set l none).set j none).set i none = ((σ.set l none).set j none).set i none
  apply List.ext_getElem?
  intro m
  simp only [List.getElem?_set, List.length_set]
  by_cases e1 : i = m <;> by_cases e2 : j = m <;> by_cases e3 : l = m <;> simp [e1, e2, e3]
/-- a comprehension of numbers that turns nothing -/
theorem lc_intsG {J : It} {n : Nat} {G : Hp → Prop} {Y : Nat → Hp → V → Hp → Prop} (wk : Walk J n G Y) {σ : L2.St} {H : Hp} {Q : VK} {g : TG} {te : TE} {wi : TI} {vs : List Nat} (z : Nat → Int) (hwi : ∀ R : It → Hp → Prop, R J H → wi σ H R) (hz : n ≤ 1000) (hG : ∀ H', Same H H' → G H')
    (ht : ∀ (i : Nat) (x : V) (H1 H2 : Hp), i < n → Same H H1 → Y i H1 x H2 → ∀ Q' : VK, (∀ H3, Same H1 H3 → Q' (.int (z i)) H3) → g x (wipe σ vs) H2 fun σ2 H3 => wipe σ2 vs = wipe σ vs ∧ te σ2 H3 Q')
    (q : ∀ (D : Addr) (H' : Hp), Same H H' → H' D = some (.lst (((List.range n).map z).map V.int)) → H D = none → Q (.ref D) H') : tLc wi g tYes te vs σ H Q := by
  refine hwi _ fun D hD => ?_
  refine lc_it wk (fun i H' => Same H H' ∧ H' D = some (.lst (((List.range i).map z).map V.int))) ⟨Same.new hD, by rw [upd_same]; rfl⟩ (fun i H' _ h => hG H' h.1) (fun i x H1 H2 hi h y => ?_) (fun H' h => q D H' h.1 h.2 hD)
  obtain ⟨s1, eD⟩ := h
  refine ht i x H1 H2 hi s1 y (fun v H4 => ∃ acc, H4 D = some (.lst acc) ∧ acc.length < sizeLine ∧ (Same H (upd H4 D (.lst (acc ++ [v]))) ∧ upd H4 D (.lst (acc ++ [v])) D = some (.lst (((List.range (i + 1)).map z).map V.int)))) fun H3 s3 => ?_
  refine ⟨_, s3 _ _ eD, ?_, fun c o e => ?_, ?_⟩
  · rw [List.length_map, List.length_map, List.length_range]
    exact small1000 (by omega)
  · rw [upd_ne (ne_of_none e hD)]
    exact s3 _ _ (s1 _ _ e)
  · rw [upd_same, List.range_succ, List.map_append, List.map_append]
    rfl
/-! ### a tuple known to the last: it has no dict of its own -/
theorem call_tuple_frz {X : Cx} : CallR X (.type "tuple") (fun xs H Q => ∃ p ys, xs = [.ref p] ∧ SqL X.K H p ys ∧ ∀ l o, H l = none → o.dict = none → Q (.ref l) (upd H l (.frz o (.tup ys)))) := by
  intro pins s σ H xs us Q I r h
  obtain ⟨p, ys, rfl, hq, q⟩ := h
  obtain ⟨u, rfl, rx⟩ := vals1 r
  cases rx
  obtain ⟨its, r', pl, hz⟩ := I.list hq
  have hlen := r'.length
  refine call_tuple_list pl.isList (fun h' kp => ?_) (by simp only [List.size_toArray] <;> omega)
  have I1 : Inv X pins σ H { s with heap := h' } := I.kept (t' := s.toks) kp
  have I2 : Inv X pins σ (upd H h'.objs.size (.frz { cls := .type "tuple", data := .seq its.toArray } (.tup ys))) { s with heap := h'.push { cls := .type "tuple", data := .seq its.toArray } } :=
    I1.laid (t' := s.toks) (fun b o e => Heap.get?_push_of_some _ e) (Nat.le_refl _) (show ObjOk X.prog X.w _ _ _ (.frz _ (.tup ys)) from ⟨Heap.get?_push_size _ rfl, hz, its, r', IsTup.new _ _⟩)
  exact ⟨.ref h'.objs.size, _, I2, rfl, q _ _ (I1.hok.fresh (Nat.le_refl _)) rfl⟩
def tBMT (r : V → List V → Hp → VK → Prop) (to : TE) (t : TA) : TE := fun σ H Q => to σ H fun x H1 => (∃ p o xs, x = .ref p ∧ H1 p = some (.frz o (.tup xs)) ∧ o.dict = none) ∧ t σ H1 fun xs H2 => r x xs H2 Q
theorem pe_bmT {X : Cx} {name : Str} {id : String} {r : V → List V → Hp → VK → Prop} {o e : Expr} {es : List Expr} {to : TE} {t : TA} {apos cpos : Pos} (pa : PlainAttrs "tuple") (slot : Slot "tuple" name id) (hty : typeOf (.builtin id) = pure (.type "method_descriptor")) (hm : MtR X id r) (ho : PE X o to) (ha : PA X (e :: es) t)
    (hbase : attributeBase o name X.env (eval o X.env) = eval o X.env := by rfl)
    (hfew : ((backTo cpos (starEach (e :: es) X.env)).all (fun x => !x.1) && (backToKw cpos (keywordEach [] X.env)).all (fun x => x.1.isSome)
      && decide ((e :: es).length + ([] : List Keyword).length + (if ([] : List Keyword).isEmpty then 0 else 1) < 30)) = true := by rfl)
    (hline : (apos.endLine == cpos.line) = true := by rfl) (hs : starEach (e :: es) X.env = (false, eval e X.env) :: starEach es X.env := by rfl) (hplain : (backTo cpos (starEach es X.env)).any (·.1) = false := by rfl) :
    PE X (.Call (.Attribute o name apos) (e :: es) [] cpos) (tBMT r to t) := by
  refine ⟨fun pins s σ H Q I h => ?_⟩
  refine wpAny_Call_method_late hbase hfew hline rfl (thn (ho.run pins s σ H _ I h) fun v s1 ⟨x, H1, I1, r1, ty, q1⟩ => ?_)
  obtain ⟨p, ob, xs, rfl, ep, dn⟩ := ty
  cases r1
  obtain ⟨eo, _, its, _, o', eo', hc, _⟩ := (show ObjOk X.prog X.w H1 s1.heap p (.frz ob (.tup xs)) from I1.hok p _ ep)
  have e1 : o' = ob := Option.some.inj (eo'.symm.trans eo)
  subst e1
  refine ⟨"tuple", id, pa, slot, hty, ⟨o', eo, hc⟩, fun a e => ⟨o', by cases e; exact eo, dn⟩, ?_⟩
  have hA := ha.run cpos pins s1 σ H1 _ I1 q1
  rw [hs] at hA ⊢
  refine Calls.callWith_builtin (by show (false || (backTo cpos (starEach es X.env)).any (·.1)) = false; rw [hplain] <;> rfl) (Calls.evalArgs_plain ?_)
  exact thn hA fun us s2 ⟨vs, H2, I2, r2, q2⟩ => hm pins s2 σ H2 (.ref p) vs (.ref p) us Q I2 rfl r2 q2
def rowV (row : List Nat) : List V := row.map fun n : Nat => V.int (n : Int)
/-- the row's tuple; known to the last -/
def RowF (H : Hp) (r : Addr) (row : List Nat) : Prop := ∃ o : Obj, o.dict = none ∧ H r = some (.frz o (.tup (rowV row)))
def RowAt (H : Hp) (r : Addr) (row : List Nat) : Prop := H r = some (.tup (rowV row)) ∨ RowF H r row
theorem RowF.same {H H' : Hp} {r : Addr} {row : List Nat} (h : RowF H r row) (s : Same H H') : RowF H' r row := by
  obtain ⟨o, d, e⟩ := h
  exact ⟨o, d, s _ _ e⟩
theorem RowAt.same {H H' : Hp} {r : Addr} {row : List Nat} (h : RowAt H r row) (s : Same H H') : RowAt H' r row := by
  rcases h with h | h
  · exact .inl (s _ _ h)
  · exact .inr (h.same s)
theorem RowAt.sq {K : PySem.W.Frag} {H : Hp} {r : Addr} {row : List Nat} (h : RowAt H r row) : SqT K H r (rowV row) := by
  rcases h with h | ⟨o, _, h⟩
  · exact .inl (.inl h)
  · exact .inl (.inr ⟨o, h⟩)
theorem RowAt.ty {K : PySem.W.Frag} {H : Hp} {r : Addr} {row : List Nat} (h : RowAt H r row) : TyX K H (.ref r) (.type "tuple") := by
  rcases h with h | ⟨o, _, h⟩
  · exact .base (.tup h)
  · exact .fTuple h
theorem read_allR {K : PySem.W.Frag} {σ : L2.St} {H : Hp} {Q : VK} {i j : Nat} {te : TE} {r : Addr} {row : List Nat} (p : Nat → Bool) (hs : σ[i]? = some (some (.ref r))) (hx : RowAt H r row) (hz : row.length ≤ 1000)
    (ht : ∀ (n : Nat) (H' : Hp), Same H H' → ∀ Q' : VK, (∀ H2, Same H' H2 → Q' (.bl (p n)) H2) → te ((wipe σ [j]).set j (some (.int (n : Int)))) H' Q')
    (q : ∀ H', Same H H' → Q (.bl (row.all p)) H') : tCB (rAll K) (tCons (tLc (iTup K (tVar i)) (gName j) tYes te [j]) tNil) σ H Q := by
  refine ⟨.ref r, hs, r, rfl, ⟨_, hx.sq⟩, fun D hD => ?_⟩
  refine lc_tup (xs := rowV row) (fun i H' => Same H H' ∧ H' D = some (.lst ((row.take i).map fun n => V.bl (p n)))) ⟨Same.new hD, ?_⟩ (fun i H' _ h => (hx.same h.1).sq) (fun i x H' hi h => ?_) (fun H' h => ?_)
  · rw [upd_same]
    rfl
  · unfold rowV at hi
    rw [List.getElem?_map] at hi
    cases e1 : row[i]? with
    | none => rw [e1] at hi; cases hi
    | some n =>
      rw [e1] at hi
      cases hi
      refine ⟨wipe1 _, tYes_eq (iteT (ht n H' h.1 _ fun H2 s2 => ?_))⟩
      refine ⟨_, s2 _ _ h.2, ?_, fun b o e => ?_, ?_⟩
      · rw [List.length_map, List.length_take]
        have := (List.getElem?_eq_some_iff.mp e1).1
        exact small1000 (by omega)
      · rw [upd_ne (ne_of_none e hD)]
        exact s2 _ _ (h.1 _ _ e)
      · rw [upd_same, List.take_add_one, e1, List.map_append]
        rfl
  · refine ⟨D, row.map p, rfl, .inl (.inl ?_), ?_⟩
    · rw [h.2]
      unfold rowV
      rw [List.length_map, List.take_length, List.map_map]
      rfl
    · rw [List.all_map]
      exact q H' h.1
end HX

set_option maxRecDepth 100000
set_option maxHeartbeats 1000000
namespace HX
open PySem PySem.Spec PyProof.Rows L2
/-! ### likeness of data -/
mutual
theorem Td.dp {K : PySem.W.Frag} {H : Hp} : ∀ (d : PyData) (v : V), Td H v d → Dp K H v d
  | .none, _, h => by cases h; exact .non
  | .bool b, _, h => by cases h; exact .bl b
  | .int i, _, h => by cases h; exact .int i
  | .str x, _, h => by cases h; exact .str x
  | .tuple ds, _, h => by
    cases h with
    | tup e ha => exact .tup (.inl (.inl e)) (TdAll.dp ds _ ha)
  | .list _, _, h => by cases h
  | .dict _, _, h => by cases h
theorem TdAll.dp {K : PySem.W.Frag} {H : Hp} : ∀ (ds : List PyData) (vs : List V), TdAll H vs ds → DpAll K H vs ds
  | [], _, h => by cases h; exact .nil
  | d :: ds, _, h => by
    cases h with
    | cons h1 h2 => exact .cons (Td.dp d _ h1) (TdAll.dp ds _ h2)
end
theorem dp_row {K : PySem.W.Frag} {H : Hp} : ∀ row : List Nat, DpAll K H (rowV row) (row.map fun n : Nat => PyData.int (n : Int))
  | [] => .nil
  | n :: r => .cons (.int _) (dp_row r)
theorem canLay_nums : ∀ ns : List Int, PyData.canLayAll0 (ns.map PyData.int) = true
  | [] => rfl
  | n :: ns => by
    show (PyData.canLay0 (.int n) && PyData.canLayAll0 (ns.map PyData.int)) = true
    rw [canLay_nums ns]
    rfl
theorem depth_nums : ∀ ns : List Int, PyData.depthAll (ns.map PyData.int) ≤ 1
  | [] => by simp [PyData.depthAll]
  | n :: ns => by
    have := depth_nums ns
    simp only [List.map_cons, PyData.depthAll, PyData.depth]
    omega
theorem shaped_row (row : List Nat) : SeqAt.shaped (.list (row.map fun n : Nat => PyData.int (n : Int))) = true := by
  have e : (row.map fun n : Nat => PyData.int (n : Int)) = (row.map fun n : Nat => (n : Int)).map PyData.int := by rw [List.map_map]; rfl
  rw [e]
  have h1 := canLay_nums (row.map fun n : Nat => (n : Int))
  have h2 := depth_nums (row.map fun n : Nat => (n : Int))
  unfold SeqAt.shaped
  rw [Bool.and_eq_true, decide_eq_true_eq]
  refine ⟨?_, ?_⟩
  · simpa only [PyData.canLay0] using h1
  · simp only [PyData.depth]
    omega
theorem canLay_mo (a b c : List Int) : PyData.canLay0 (.tuple [stepD a, stepD b, stepD c]) = true := by
  simp only [PyData.canLay0, PyData.canLayAll0, stepD, canLay_nums]
  rfl
theorem shaped_mo (a b c : List Int) : SeqAt.shaped (.tuple [stepD a, stepD b, stepD c]) = true := by
  have h1 := depth_nums a
  have h2 := depth_nums b
  have h3 := depth_nums c
  unfold SeqAt.shaped
  rw [Bool.and_eq_true, decide_eq_true_eq]
  refine ⟨canLay_mo a b c, ?_⟩
  simp only [PyData.depth, PyData.depthAll, stepD]
  omega
end HX

set_option maxRecDepth 100000
set_option maxHeartbeats 1000000
namespace HX
open PySem PySem.Spec PyProof.Rows L2
/-! ### what the counts tell -/
def cnt (es : List Int) (e : Nat) : Int := ((es.count (e : Int) : Nat) : Int)
theorem cnt_cons (x : Int) (es : List Int) (e : Nat) : cnt (x :: es) e = cnt es e + (if x = (e : Int) then 1 else 0) := by
  unfold cnt
  rw [List.count_cons]
  by_cases h : x = (e : Int)
  · simp [h]
  · simp [h]
theorem bump_get {l : List Int} {i e : Nat} {d : Int} (hi : i < l.length) : (bump l i d).getD e 0 = l.getD e 0 + (if i = e then d else 0) := by
  unfold bump
  rw [List.getD_eq_getElem?_getD, List.getElem?_set]
  by_cases h : i = e
  · subst h
    rw [if_pos rfl, if_pos hi, if_pos rfl]
    rfl
  · rw [if_neg h, if_neg h, Int.add_zero, List.getD_eq_getElem?_getD]
def addE (f : List Int) (e : Int) : List Int := bump f e.toNat 1
theorem addE_len : ∀ (es : List Int) (f : List Int), (es.foldl addE f).length = f.length
  | [], f => rfl
  | x :: es, f => (addE_len es _).trans bump_len
theorem addE_get : ∀ (es : List Int) (f : List Int) (e : Nat), (∀ x ∈ es, 0 ≤ x ∧ x < (f.length : Int)) → (es.foldl addE f).getD e 0 = f.getD e 0 + cnt es e
  | [], f, e, _ => by simp [cnt]
  | x :: es, f, e, h => by
    obtain ⟨x0, x1⟩ := h x (List.mem_cons_self ..)
    rw [List.foldl_cons, addE_get es (addE f x) e (fun y hy => by
      unfold addE
      rw [bump_len]
      exact h y (List.mem_cons_of_mem _ hy)), cnt_cons]
    unfold addE
    rw [bump_get (by omega)]
    have : (x.toNat = e) ↔ x = (e : Int) := by omega
    by_cases g : x = (e : Int)
    · rw [if_pos (this.mpr g), if_pos g]
      omega
    · rw [if_neg (fun z => g (this.mp z)), if_neg g]
      omega
theorem send_get {W : Nat} : ∀ (es : List Int) (p : List Int × List Int), (∀ x ∈ es, 0 ≤ x ∧ x < (W : Int) + (p.2.length : Int)) → p.1.length = W →
    (∀ e, e < W → (es.foldl (sendM W) p).1.getD e 0 = p.1.getD e 0 + cnt es e) ∧ ∀ j, (es.foldl (sendM W) p).2.getD j 0 = p.2.getD j 0 + cnt es (W + j)
  | [], p, _, _ => ⟨fun e _ => by simp [cnt], fun j => by simp [cnt]⟩
  | x :: es, p, h, hw => by
    obtain ⟨x0, x1⟩ := h x (List.mem_cons_self ..)
    rw [List.foldl_cons]
    by_cases g : x < (W : Int)
    · have e1 : sendM W p x = (bump p.1 x.toNat 1, p.2) := if_pos g
      rw [e1]
      obtain ⟨h1, h2⟩ := send_get (W := W) es (bump p.1 x.toNat 1, p.2) (fun y hy => h y (List.mem_cons_of_mem _ hy)) (bump_len.trans hw)
      refine ⟨fun e he => ?_, fun j => ?_⟩
      · rw [h1 e he, cnt_cons]
        show (bump p.1 x.toNat 1).getD e 0 + _ = _
        rw [bump_get (by omega)]
        have : (x.toNat = e) ↔ x = (e : Int) := by omega
        by_cases g' : x = (e : Int)
        · rw [if_pos (this.mpr g'), if_pos g']
          omega
        · rw [if_neg (fun z => g' (this.mp z)), if_neg g']
          omega
      · rw [h2 j, cnt_cons, if_neg (by omega)]
        show p.2.getD j 0 + _ = _
        omega
    · have e1 : sendM W p x = (p.1, bump p.2 (x - (W : Int)).toNat 1) := if_neg g
      rw [e1]
      obtain ⟨h1, h2⟩ := send_get (W := W) es (p.1, bump p.2 (x - (W : Int)).toNat 1) (fun y hy => by
        show 0 ≤ y ∧ y < (W : Int) + ((bump p.2 (x - (W : Int)).toNat 1).length : Int)
        rw [bump_len]
        exact h y (List.mem_cons_of_mem _ hy)) hw
      refine ⟨fun e he => ?_, fun j => ?_⟩
      · rw [h1 e he, cnt_cons, if_neg (by omega)]
        show p.1.getD e 0 + _ = _
        omega
      · rw [h2 j, cnt_cons]
        show (bump p.2 (x - (W : Int)).toNat 1).getD j 0 + _ = _
        rw [bump_get (by omega)]
        have : ((x - (W : Int)).toNat = j) ↔ x = ((W + j : Nat) : Int) := by omega
        by_cases g' : x = ((W + j : Nat) : Int)
        · rw [if_pos (this.mpr g'), if_pos g']
          omega
        · rw [if_neg (fun z => g' (this.mp z)), if_neg g']
          omega
/-! sums up to -/
def sumTo : Nat → (Nat → Int) → Int
  | 0, _ => 0
  | n + 1, f => sumTo n f + f n
theorem sumTo_congr : ∀ (n : Nat) {f g : Nat → Int}, (∀ u, u < n → f u = g u) → sumTo n f = sumTo n g
  | 0, _, _, _ => rfl
  | n + 1, f, g, h => by
    show sumTo n f + f n = sumTo n g + g n
    rw [sumTo_congr n (fun u hu => h u (by omega)), h n (by omega)]
theorem sumTo_one : ∀ (n : Nat) {f g : Nat → Int} {a : Nat}, a < n → (∀ u, u < n → u ≠ a → f u = g u) → sumTo n f = sumTo n g + (f a - g a)
  | 0, _, _, _, h, _ => absurd h (by omega)
  | n + 1, f, g, a, ha, h => by
    show sumTo n f + f n = sumTo n g + g n + (f a - g a)
    by_cases e : a = n
    · subst e
      rw [sumTo_congr a (fun u hu => h u (by omega) (by omega))]
      omega
    · rw [sumTo_one n (a := a) (by omega) (fun u hu => h u (by omega)), h n (by omega) (fun z => e z.symm)]
      omega
theorem sumTo_front (n : Nat) (f : Nat → Int) : sumTo (n + 1) f = f 0 + sumTo n fun t => f (t + 1) := by
  induction n with
  | zero => show 0 + f 0 = f 0 + 0; omega
  | succ n ih =>
    show sumTo (n + 1) f + f (n + 1) = f 0 + (sumTo n (fun t => f (t + 1)) + f (n + 1))
    rw [ih]
    omega
/-- the ends of wheel u at step number s (any number, turned on) -/
def endsOf (ws : List (List (List Int))) (u : Nat) (s : Int) : List Int := (ws.getD u []).getD (s % ((ws.getD u []).length : Int)).toNat []
/-- how often e gets one, when wheel u is turned k times from s -/
def sent (ws : List (List (List Int))) (u : Nat) (s : Int) (k : Nat) (e : Nat) : Int := sumTo k fun t => cnt (endsOf ws u (s + (t : Int))) e
theorem endsOf_mod {ws : List (List (List Int))} {u : Nat} {s t : Int} : endsOf ws u (s % ((ws.getD u []).length : Int) + t) = endsOf ws u (s + t) := by
  unfold endsOf
  rw [Int.emod_add_emod]
theorem sent_front {ws : List (List (List Int))} {u : Nat} {s : Int} {k e : Nat} : sent ws u s (k + 1) e = cnt (endsOf ws u s) e + sent ws u ((s + 1) % ((ws.getD u []).length : Int)) k e := by
  unfold sent
  rw [sumTo_front]
  have h0 : s + ((0 : Nat) : Int) = s := by omega
  rw [h0]
  congr 1
  refine sumTo_congr k fun t _ => ?_
  rw [endsOf_mod]
  have : s + ((t + 1 : Nat) : Int) = s + 1 + (t : Int) := by omega
  rw [this]
def came (ws : List (List (List Int))) (st : List Int) (cs : Nat → Nat) (e : Nat) : Int := sumTo ws.length fun u => sent ws u (st.getD u 0) (cs u) e
end HX

set_option maxRecDepth 100000
set_option maxHeartbeats 4000000
namespace K07
open PySem PySem.Spec PyProof.Rows L2 HX
def topS (i : Nat) : Stmt := PySem.Challenge.pw_marblefall_k07_whole_counts_tell_the_mom.main.body.getD i (.Pass ⟨0, 0, 0, 0⟩)
abbrev s_is_whole : Stmt := topS 10
theorem sc_is_whole : FnScope ["thing"] ["thing"] (defScope s_is_whole) := ⟨rfl, rfl, rfl, by decide +kernel, rfl, by decide +kernel, by decide +kernel⟩
abbrev s_is_within : Stmt := topS 11
theorem sc_is_within : FnScope ["thing", "least", "most"] ["thing", "least", "most"] (defScope s_is_within) := ⟨rfl, rfl, rfl, by decide +kernel, rfl, by decide +kernel, by decide +kernel⟩
abbrev s_has_parts : Stmt := topS 12
theorem sc_has_parts : FnScope ["thing", "least", "most"] ["thing", "least", "most"] (defScope s_has_parts) := ⟨rfl, rfl, rfl, by decide +kernel, rfl, by decide +kernel, by decide +kernel⟩
abbrev s_is_step : Stmt := topS 13
theorem sc_is_step : FnScope ["thing", "ends", "end"] ["thing", "ends"] (defScope s_is_step) := ⟨rfl, rfl, rfl, by decide +kernel, rfl, by decide +kernel, by decide +kernel⟩
abbrev s_is_wheel : Stmt := topS 14
theorem sc_is_wheel : FnScope ["thing", "ends", "step"] ["thing", "ends"] (defScope s_is_wheel) := ⟨rfl, rfl, rfl, by decide +kernel, rfl, by decide +kernel, by decide +kernel⟩
abbrev s_is_board : Stmt := topS 15
theorem sc_is_board : FnScope ["thing", "wheels", "cups", "ends", "wheel"] ["thing"] (defScope s_is_board) := ⟨rfl, rfl, rfl, by decide +kernel, rfl, by decide +kernel, by decide +kernel⟩
/-! ### the mathematics -/
def wholeB : PyData → Bool
  | .int _ => true
  | _ => false
def withinB (d : PyData) (lo hi : Int) : Bool := match d with
  | .int i => decide (lo ≤ i) && decide (i ≤ hi)
  | _ => false
def partsB (d : PyData) (lo hi : Int) : Bool := match d with
  | .tuple ds => decide (lo ≤ (ds.length : Int)) && decide ((ds.length : Int) ≤ hi)
  | _ => false
def itemsD : PyData → List PyData
  | .tuple ds => ds
  | _ => []
def stepB (d : PyData) (ends : Int) : Bool := partsB d 0 3 && (itemsD d).all fun e => withinB e 0 (ends - 1)
def wheelB (d : PyData) (ends : Int) : Bool := partsB d 1 4 && (itemsD d).all fun e => stepB e ends
def boardB (d : PyData) : Bool := match d with
  | .tuple [w, .int c] => partsB w 1 6 && withinB (.int c) 0 4 && (itemsD w).all fun e => wheelB e (((itemsD w).length : Int) + c)
  | _ => false
theorem kit_int (d : PyData) : kitB (tyN d) "int" = some (wholeB d || (match d with | .bool _ => true | _ => false)) := by
  cases d
  · exact (by decide +kernel : kitB "NoneType" "int" = some false)
  · exact (by decide +kernel : kitB "bool" "int" = some true)
  · exact (by decide +kernel : kitB "int" "int" = some true)
  · exact (by decide +kernel : kitB "str" "int" = some false)
  · exact (by decide +kernel : kitB "list" "int" = some false)
  · exact (by decide +kernel : kitB "tuple" "int" = some false)
  · exact (by decide +kernel : kitB "dict" "int" = some false)

theorem kit_bool (d : PyData) : kitB (tyN d) "bool" = some (match d with | .bool _ => true | _ => false) := by
  cases d
  · exact (by decide +kernel : kitB "NoneType" "bool" = some false)
  · exact (by decide +kernel : kitB "bool" "bool" = some true)
  · exact (by decide +kernel : kitB "int" "bool" = some false)
  · exact (by decide +kernel : kitB "str" "bool" = some false)
  · exact (by decide +kernel : kitB "list" "bool" = some false)
  · exact (by decide +kernel : kitB "tuple" "bool" = some false)
  · exact (by decide +kernel : kitB "dict" "bool" = some false)
theorem kit_tuple (d : PyData) : kitB (tyN d) "tuple" = some (match d with | .tuple _ => true | _ => false) := by
  cases d
  · exact (by decide +kernel : kitB "NoneType" "tuple" = some false)
  · exact (by decide +kernel : kitB "bool" "tuple" = some false)
  · exact (by decide +kernel : kitB "int" "tuple" = some false)
  · exact (by decide +kernel : kitB "str" "tuple" = some false)
  · exact (by decide +kernel : kitB "list" "tuple" = some false)
  · exact (by decide +kernel : kitB "tuple" "tuple" = some true)
  · exact (by decide +kernel : kitB "dict" "tuple" = some false)
section
variable {P : Program} {w : World} {K : PySem.W.Frag} {mg : Str → Option Value} {base : Heap} {k : Nat}
/-! ### is_whole, is_within, has_parts -/
def spWhole : Sp := fun vs H Q _ => ∃ (N : Addr → Prop) (v : V) (d : PyData), vs = [v] ∧ Da N H v d ∧ Q (.bl (wholeB d)) H
theorem ok_is_whole (D : Def K mg "is_whole" s_is_whole ["thing"]) (B : Bi mg) : Cal P w K mg base (k + 1) "is_whole" ["thing"] spWhole := by
  refine D.ok sc_is_whole (fun vs H Q E h => ?_) (fun f cdv A outer s H vs Q E hr h => ?_)
  · obtain ⟨N, v, d, rfl, _⟩ := h
    rfl
  · obtain ⟨N, v, d, rfl, hd, q⟩ := h
    refine ⟨_, (pss_one (ps_ret (pe_and (pe_callB call_isi rfl B.isinstance_ (by decide +kernel) (pa_cons (pv 0) (pa_cons (pe_bltn (v := .ty "int") (u := .type "int") rfl B.int_ (by decide +kernel) rfl) pa_nil))) (pe_one (pe_not (pe_callB call_isi rfl B.isinstance_ (by decide +kernel) (pa_cons (pv 0) (pa_cons (pe_bltn (v := .ty "bool") (u := .type "bool") rfl B.bool_ (by decide +kernel) rfl) pa_nil)))))))), ?_⟩
    refine ⟨v, rfl, v, .ty "int", _, .type "int", _, rfl, .ty "int", hd.ty, kit_ty (kit_int d), _, rfl, ?_⟩
    cases d with
    | int i => exact iteT ⟨v, rfl, v, .ty "bool", _, .type "bool", _, rfl, .ty "bool", hd.ty, kit_ty (kit_bool _), _, rfl, q⟩
    | bool b => exact iteT ⟨v, rfl, v, .ty "bool", _, .type "bool", _, rfl, .ty "bool", hd.ty, kit_ty (kit_bool _), _, rfl, q⟩
    | none => exact iteF q
    | str x => exact iteF q
    | list ds => exact iteF q
    | tuple ds => exact iteF q
    | dict ds => exact iteF q
def spWithin : Sp := fun vs H Q _ => ∃ (N : Addr → Prop) (v : V) (d : PyData) (lo hi : Int), vs = [v, .int lo, .int hi] ∧ Da N H v d ∧ Q (.bl (withinB d lo hi)) H
theorem ok_is_within (D : Def K mg "is_within" s_is_within ["thing", "least", "most"]) (c_is_whole : Cal P w K mg base k "is_whole" ["thing"] spWhole) : Cal P w K mg base (k + 1) "is_within" ["thing", "least", "most"] spWithin := by
  refine D.ok sc_is_within (fun vs H Q E h => ?_) (fun f cdv A outer s H vs Q E hr h => ?_)
  · obtain ⟨N, v, d, lo, hi, rfl, _⟩ := h
    rfl
  · obtain ⟨N, v, d, lo, hi, rfl, hd, q⟩ := h
    refine ⟨_, (pss_one (ps_ret (pe_and (pe_cal c_is_whole hr rfl (pa_cons (pv 0) pa_nil)) (pe_one (pe_chain op_le op_le (pv 1) (pv 0) (pv 2)))))), ?_⟩
    refine ⟨v, rfl, N, v, d, rfl, hd, _, rfl, ?_⟩
    cases d with
    | int i =>
      cases hd
      refine iteT ⟨.int lo, rfl, .int i, rfl, lo, i, rfl, rfl, _, rfl, ?_⟩
      have q' : Q (.bl (decide (lo ≤ i) && decide (i ≤ hi))) H := q
      cases e : decide (lo ≤ i) with
      | true =>
        rw [e] at q'
        exact iteT ⟨.int hi, rfl, i, hi, rfl, rfl, q'⟩
      | false =>
        rw [e] at q'
        exact iteF q'
    | bool b => exact iteF q
    | none => exact iteF q
    | str x => exact iteF q
    | list ds => exact iteF q
    | tuple ds => exact iteF q
    | dict ds => exact iteF q
def spParts : Sp := fun vs H Q _ => ∃ (N : Addr → Prop) (v : V) (d : PyData) (lo hi : Int), vs = [v, .int lo, .int hi] ∧ Da N H v d ∧ Q (.bl (partsB d lo hi)) H
theorem ok_has_parts (D : Def K mg "has_parts" s_has_parts ["thing", "least", "most"]) (B : Bi mg) : Cal P w K mg base (k + 1) "has_parts" ["thing", "least", "most"] spParts := by
  refine D.ok sc_has_parts (fun vs H Q E h => ?_) (fun f cdv A outer s H vs Q E hr h => ?_)
  · obtain ⟨N, v, d, lo, hi, rfl, _⟩ := h
    rfl
  · obtain ⟨N, v, d, lo, hi, rfl, hd, q⟩ := h
    refine ⟨_, (pss_one (ps_ret (pe_and (pe_callB call_isi rfl B.isinstance_ (by decide +kernel) (pa_cons (pv 0) (pa_cons (pe_bltn (v := .ty "tuple") (u := .type "tuple") rfl B.tuple_ (by decide +kernel) rfl) pa_nil))) (pe_one (pe_chain op_le op_le (pv 1) (pe_callB call_len_seq rfl B.len_ (by decide +kernel) (pa_cons (pv 0) pa_nil)) (pv 2)))))), ?_⟩
    refine ⟨v, rfl, v, .ty "tuple", _, .type "tuple", _, rfl, .ty "tuple", hd.ty, kit_ty (kit_tuple d), _, rfl, ?_⟩
    cases d with
    | tuple ds =>
      obtain ⟨a, xs, rfl, e, _, ha⟩ := hd.tupOf
      refine iteT ⟨.int lo, rfl, .ref a, rfl, a, xs, rfl, .inr (SqT.of e), lo, xs.length, rfl, rfl, _, rfl, ?_⟩
      have q' : Q (.bl (decide (lo ≤ (ds.length : Int)) && decide ((ds.length : Int) ≤ hi))) H := q
      rw [← ha.len] at q'
      cases e : decide (lo ≤ (xs.length : Int)) with
      | true =>
        rw [e] at q'
        exact iteT ⟨.int hi, rfl, xs.length, hi, rfl, rfl, q'⟩
      | false =>
        rw [e] at q'
        exact iteF q'
    | bool b => exact iteF q
    | none => exact iteF q
    | str x => exact iteF q
    | list ds => exact iteF q
    | int i => exact iteF q
    | dict ds => exact iteF q
theorem parts_tup {d : PyData} {lo hi : Int} (h : partsB d lo hi = true) : ∃ ds, d = .tuple ds ∧ lo ≤ (ds.length : Int) ∧ (ds.length : Int) ≤ hi := by
  cases d with
  | tuple ds =>
    have h' : (decide (lo ≤ (ds.length : Int)) && decide ((ds.length : Int) ≤ hi)) = true := h
    simp only [Bool.and_eq_true, decide_eq_true_eq] at h'
    exact ⟨ds, rfl, h'.1, h'.2⟩
  | bool b => cases h
  | none => cases h
  | str x => cases h
  | list ds => cases h
  | int i => cases h
  | dict ds => cases h
/-! ### is_step, is_wheel, is_board -/
def spEnds (p : PyData → Int → Bool) : Sp := fun vs H Q _ => ∃ (N : Addr → Prop) (v : V) (d : PyData) (ends : Int), vs = [v, .int ends] ∧ Da N H v d ∧ ∀ H', Same H H' → Q (.bl (p d ends)) H'
theorem ok_is_step {t3 : Tok} (D : Def K mg "is_step" s_is_step ["thing", "ends"]) (B : Bi mg) (g_MOST_ENDS : mg "MOST_ENDS" = some (.int 3 t3)) (c_is_within : Cal P w K mg base k "is_within" ["thing", "least", "most"] spWithin)
    (c_has_parts : Cal P w K mg base k "has_parts" ["thing", "least", "most"] spParts) : Cal P w K mg base (k + 1) "is_step" ["thing", "ends"] (spEnds stepB) := by
  refine D.ok sc_is_step (fun vs H Q E h => ?_) (fun f cdv A outer s H vs Q E hr h => ?_)
  · obtain ⟨N, v, d, ends, rfl, _⟩ := h
    rfl
  · obtain ⟨N, v, d, ends, rfl, hd, q⟩ := h
    refine ⟨_, (pss_one (ps_ret (pe_and (pe_cal c_has_parts hr rfl (pa_cons (pv 0) (pa_cons pe_int (pa_cons (pe_gint rfl g_MOST_ENDS) pa_nil)))) (pe_one (pe_callB (cr_all rfl) rfl B.all_ (by decide +kernel) (pa_cons (pe_lc (own := [("end", 2)]) rfl sc_is_step.nd (pi_tup (pv 0)) (blkOk_by (N := ["thing", "ends", "end"]) (sc := defScope s_is_step) (by decide +kernel)) (fun _ _ _ _ _ => (pg_name (i := 2) sc_is_step.nd rfl (Or.inl rfl))) (fun _ _ _ _ _ => pts_nil) (fun _ _ _ _ _ => (pe_cal c_is_within hr rfl (pa_cons (pv 2) (pa_cons pe_int (pa_cons (pe_op op_sub (pv 1) pe_int) pa_nil)))))) pa_nil)))))), ?_⟩
    refine ⟨v, rfl, N, v, d, 0, 3, rfl, hd, _, rfl, ?_⟩
    cases e : partsB d 0 3 with
    | false =>
      refine iteF ?_
      have q' := q H (Same.refl H)
      unfold stepB at q'
      rw [e] at q'
      exact q'
    | true =>
      obtain ⟨ds, rfl, _, h3⟩ := parts_tup e
      obtain ⟨a, xs, rfl, ea, _, ha⟩ := hd.tupOf
      refine iteT (read_all (N := N) (ds := ds) (fun e => withinB e 0 (ends - 1)) rfl ea ha (by omega) (fun x d H' s' hx Q' q' => ?_) fun H' s' => ?_)
      · exact ⟨x, rfl, .int ends, rfl, ends, 1, rfl, rfl, N, x, d, 0, ends - 1, rfl, hx, q' H' (Same.refl H')⟩
      · have q' := q H' s'
        unfold stepB at q'
        rw [e] at q'
        exact q'
theorem ok_is_wheel {t4 : Tok} (D : Def K mg "is_wheel" s_is_wheel ["thing", "ends"]) (B : Bi mg) (g_MOST_STEPS : mg "MOST_STEPS" = some (.int 4 t4)) (c_is_step : Cal P w K mg base k "is_step" ["thing", "ends"] (spEnds stepB))
    (c_has_parts : Cal P w K mg base k "has_parts" ["thing", "least", "most"] spParts) : Cal P w K mg base (k + 1) "is_wheel" ["thing", "ends"] (spEnds wheelB) := by
  refine D.ok sc_is_wheel (fun vs H Q E h => ?_) (fun f cdv A outer s H vs Q E hr h => ?_)
  · obtain ⟨N, v, d, ends, rfl, _⟩ := h
    rfl
  · obtain ⟨N, v, d, ends, rfl, hd, q⟩ := h
    refine ⟨_, (pss_one (ps_ret (pe_and (pe_cal c_has_parts hr rfl (pa_cons (pv 0) (pa_cons pe_int (pa_cons (pe_gint rfl g_MOST_STEPS) pa_nil)))) (pe_one (pe_callB (cr_all rfl) rfl B.all_ (by decide +kernel) (pa_cons (pe_lc (own := [("step", 2)]) rfl sc_is_wheel.nd (pi_tup (pv 0)) (blkOk_by (N := ["thing", "ends", "step"]) (sc := defScope s_is_wheel) (by decide +kernel)) (fun _ _ _ _ _ => (pg_name (i := 2) sc_is_wheel.nd rfl (Or.inl rfl))) (fun _ _ _ _ _ => pts_nil) (fun _ _ _ _ _ => (pe_cal c_is_step hr rfl (pa_cons (pv 2) (pa_cons (pv 1) pa_nil))))) pa_nil)))))), ?_⟩
    refine ⟨v, rfl, N, v, d, 1, 4, rfl, hd, _, rfl, ?_⟩
    cases e : partsB d 1 4 with
    | false =>
      refine iteF ?_
      have q' := q H (Same.refl H)
      unfold wheelB at q'
      rw [e] at q'
      exact q'
    | true =>
      obtain ⟨ds, rfl, _, h3⟩ := parts_tup e
      obtain ⟨a, xs, rfl, ea, _, ha⟩ := hd.tupOf
      refine iteT (read_all (N := N) (ds := ds) (fun e => stepB e ends) rfl ea ha (by omega) (fun x d H' s' hx Q' q' => ?_) fun H' s' => ?_)
      · exact ⟨x, rfl, .int ends, rfl, N, x, d, ends, rfl, hx, q'⟩
      · have q' := q H' s'
        unfold wheelB at q'
        rw [e] at q'
        exact q'
def spThing (p : PyData → Bool) : Sp := fun vs H Q _ => ∃ (N : Addr → Prop) (v : V) (d : PyData), vs = [v] ∧ Da N H v d ∧ ∀ H', Same H H' → Q (.bl (p d)) H'
theorem boardB_no {d : PyData} (h : partsB d 2 2 = false) : boardB d = false := by
  unfold boardB
  split
  · cases h
  · rfl
theorem boardB_two {w c : PyData} : boardB (.tuple [w, c]) = (partsB w 1 6 && withinB c 0 4 && (itemsD w).all fun e => wheelB e (((itemsD w).length : Int) + (match c with | .int i => i | _ => 0))) := by
  cases c with
  | int i => rfl
  | bool b => simp [boardB, withinB]
  | none => simp [boardB, withinB]
  | str x => simp [boardB, withinB]
  | list ds => simp [boardB, withinB]
  | tuple ds => simp [boardB, withinB]
  | dict ds => simp [boardB, withinB]
theorem within_int {d : PyData} {lo hi : Int} (h : withinB d lo hi = true) : ∃ i, d = .int i ∧ lo ≤ i ∧ i ≤ hi := by
  cases d with
  | int i =>
    have h' : (decide (lo ≤ i) && decide (i ≤ hi)) = true := h
    simp only [Bool.and_eq_true, decide_eq_true_eq] at h'
    exact ⟨i, rfl, h'.1, h'.2⟩
  | bool b => cases h
  | none => cases h
  | str x => cases h
  | list ds => cases h
  | tuple i => cases h
  | dict ds => cases h
theorem ok_is_board {t6 t4 : Tok} (D : Def K mg "is_board" s_is_board ["thing"]) (B : Bi mg) (g_MOST_WHEELS : mg "MOST_WHEELS" = some (.int 6 t6)) (g_MOST_CUPS : mg "MOST_CUPS" = some (.int 4 t4)) (c_is_wheel : Cal P w K mg base k "is_wheel" ["thing", "ends"] (spEnds wheelB))
    (c_is_within : Cal P w K mg base k "is_within" ["thing", "least", "most"] spWithin) (c_has_parts : Cal P w K mg base k "has_parts" ["thing", "least", "most"] spParts) : Cal P w K mg base (k + 1) "is_board" ["thing"] (spThing boardB) := by
  refine D.ok sc_is_board (fun vs H Q E h => ?_) (fun f cdv A outer s H vs Q E hr h => ?_)
  · obtain ⟨N, v, d, rfl, _⟩ := h
    rfl
  · obtain ⟨N, v, d, rfl, hd, q⟩ := h
    refine ⟨_, (pss_cons (ps_if (pt_not (pt_val (pe_cal c_has_parts hr rfl (pa_cons (pv 0) (pa_cons pe_int (pa_cons pe_int pa_nil))))))
  (pss_one (ps_ret pe_bl))
  pss_nil)
  (pss_cons (ps_asg (pv 0) (pg_tup rfl (pgs_cons (pg_name (i := 1) sc_is_board.nd rfl (Or.inl rfl)) (pgs_cons (pg_name (i := 2) sc_is_board.nd rfl (Or.inl rfl)) pgs_nil))))
  (pss_cons (ps_if (PW.pt (pw_or (pt_not (pt_val (pe_cal c_has_parts hr rfl (pa_cons (pv 1) (pa_cons pe_int (pa_cons (pe_gint rfl g_MOST_WHEELS) pa_nil)))))) (pw_or1 (pt_not (pt_val (pe_cal c_is_within hr rfl (pa_cons (pv 2) (pa_cons pe_int (pa_cons (pe_gint rfl g_MOST_CUPS) pa_nil)))))))))
  (pss_one (ps_ret pe_bl))
  pss_nil)
  (pss_cons (ps_set (i := 3) sc_is_board.nd rfl (Or.inr rfl) (pe_op op_add (pe_callB call_len_seq rfl B.len_ (by decide +kernel) (pa_cons (pv 1) pa_nil)) (pv 2)))
  (pss_one (ps_ret (pe_callB (cr_all rfl) rfl B.all_ (by decide +kernel) (pa_cons (pe_lc (own := [("wheel", 4)]) rfl sc_is_board.nd (pi_tup (pv 1)) (blkOk_by (N := ["thing", "wheels", "cups", "ends", "wheel"]) (sc := defScope s_is_board) (by decide +kernel)) (fun _ _ _ _ _ => (pg_name (i := 4) sc_is_board.nd rfl (Or.inl rfl))) (fun _ _ _ _ _ => pts_nil) (fun _ _ _ _ _ => (pe_cal c_is_wheel hr rfl (pa_cons (pv 4) (pa_cons (pv 3) pa_nil))))) pa_nil)))))))), ?_⟩
    refine ⟨v, rfl, N, v, d, 2, 2, rfl, hd, _, rfl, ?_⟩
    cases e : partsB d 2 2 with
    | false =>
      refine iteT ?_
      have q' := q H (Same.refl H)
      rw [boardB_no e] at q'
      exact q'
    | true =>
      refine iteF ?_
      obtain ⟨ds, rfl, h2, h3⟩ := parts_tup e
      obtain ⟨a, xs, rfl, ea, _, ha⟩ := hd.tupOf
      obtain ⟨dw, dc, rfl⟩ : ∃ dw dc, ds = [dw, dc] := by
        match ds, h2, h3 with
        | [x, y], _, _ => exact ⟨x, y, rfl⟩
        | [], h, _ => simp at h
        | [x], h, _ => simp at h
        | x :: y :: z :: r, _, h => simp at h; omega
      cases ha with
      | @cons vw vs1 _ _ hw hr1 =>
      cases hr1 with
      | @cons vc vs2 _ _ hc hr2 =>
      cases hr2
      -- wheels, cups = thing
      refine ⟨.ref a, rfl, a, [vw, vc], rfl, SqT.of ea, rfl, vw, [vc], rfl, vc, [], rfl, rfl, ?_⟩
      -- the test
      refine ⟨vw, rfl, N, vw, dw, 1, 6, rfl, hw, _, rfl, ?_⟩
      rw [boardB_two] at q
      cases e1 : partsB dw 1 6 with
      | false =>
        rw [e1] at q
        exact iteT (iteT (q H (Same.refl H)))
      | true =>
        refine iteF ⟨vc, rfl, N, vc, dc, 0, 4, rfl, hc, _, rfl, ?_⟩
        rw [e1] at q
        cases e2 : withinB dc 0 4 with
        | false =>
          rw [e2] at q
          exact iteT (q H (Same.refl H))
        | true =>
          rw [e2] at q
          refine iteF ?_
          obtain ⟨c, rfl, c0, c4⟩ := within_int e2
          obtain ⟨ws, rfl, w1, w6⟩ := parts_tup e1
          obtain ⟨b, ys, rfl, eb, _, hb⟩ := hw.tupOf
          cases hc
          -- ends = len(wheels) + cups
          refine ⟨.ref b, rfl, b, ys, rfl, .inr (SqT.of eb), .int c, rfl, ys.length, c, rfl, rfl, ?_⟩
          refine read_all (N := N) (ds := ws) (fun e => wheelB e ((ys.length : Int) + c)) rfl eb hb (by omega) (fun x d H' s' hx Q' q' => ?_) fun H' s' => ?_
          · exact ⟨x, rfl, .int ((ys.length : Int) + c), rfl, N, x, d, (ys.length : Int) + c, rfl, hx, q'⟩
          · rw [hb.len]
            exact q H' s'
end
end K07

set_option maxRecDepth 100000
set_option maxHeartbeats 4000000
namespace K07
open PySem PySem.Spec PyProof.Rows L2 HX
abbrev s__law_cell_at : Stmt := topS 32
theorem sc__law_cell_at : FnScope ["_law_script", "_law_k"] ["_law_script", "_law_k"] (defScope s__law_cell_at) := ⟨rfl, rfl, rfl, by decide +kernel, rfl, by decide +kernel, by decide +kernel⟩
abbrev s__law_pen : Stmt := topS 33
theorem sc__law_pen : FnScope ["_law_cell"] ["_law_cell"] (defScope s__law_pen) := ⟨rfl, rfl, rfl, by decide +kernel, rfl, by decide +kernel, by decide +kernel⟩
abbrev s__law_draw : Stmt := topS 34
theorem sc__law_draw : FnScope ["_law_pen_here", "_law_many", "_law_digit", "_law_stir"] ["_law_pen_here", "_law_many"] (defScope s__law_draw) := ⟨rfl, rfl, rfl, by decide +kernel, rfl, by decide +kernel, by decide +kernel⟩
/-- the pen: what is left of the cell's digits, its rest, how often it was stirred; m draws are left -/
def PenAt (H : Hp) (pn : Addr) (m : Nat) : Prop := ∃ p0 p1 p2 : Int, H pn = some (.lst [.int p0, .int p1, .int p2]) ∧ 0 ≤ p0 ∧ 0 ≤ p1 ∧ p1 < 1000000007 ∧ 0 ≤ p2 ∧ p2 + (m : Int) ≤ 1000000000
theorem PenAt.less {H : Hp} {pn : Addr} {m n : Nat} (h : PenAt H pn m) (hn : n ≤ m) : PenAt H pn n := by
  obtain ⟨p0, p1, p2, e, h0, h1, h2, h3, h4⟩ := h
  exact ⟨p0, p1, p2, e, h0, h1, h2, h3, by omega⟩
section
variable {P : Program} {w : World} {K : PySem.W.Frag} {mg : Str → Option Value} {base : Heap} {k : Nat}
/-! ### the script's cell, the pen -/
def spCell (K : PySem.W.Frag) : Sp := fun vs H Q _ => ∃ (a : Addr) (ns : List Int) (i : Nat), vs = [.ref a, .int i] ∧ SqL K H a (ns.map V.int) ∧ ∀ c, Q (.int c) H
theorem ok_cell_at (D : Def K mg "_law_cell_at" s__law_cell_at ["_law_script", "_law_k"]) (B : Bi mg) : Cal P w K mg base (k + 1) "_law_cell_at" ["_law_script", "_law_k"] (spCell K) := by
  refine D.ok sc__law_cell_at (fun vs H Q E h => ?_) (fun f cdv A outer s H vs Q E hr h => ?_)
  · obtain ⟨a, ns, i, rfl, _⟩ := h
    rfl
  · obtain ⟨a, ns, i, rfl, hS, q⟩ := h
    refine ⟨_, (pss_cons (ps_if (pt_cmpR op_lt (pv 1) (pe_callB call_len_seq rfl B.len_ (by decide +kernel) (pa_cons (pv 0) pa_nil)) (nomark _))
  (pss_one (ps_ret (pe_ix ix_list (pv 0) (pv 1) (fun _ _ => rfl))))
  pss_nil)
  (pss_one (ps_ret pe_int))), ?_⟩
    refine ⟨.int i, rfl, .ref a, rfl, a, ns.map V.int, rfl, .inl hS, i, _, rfl, rfl, _, rfl, ite2 (fun e => ?_) (fun e => ?_)⟩
    · have hl : i < ns.length := by
        have e' := of_decide_eq_true e
        rw [List.length_map] at e'
        omega
      refine ⟨.ref a, rfl, .int i, rfl, a, _, i, .int ns[i], rfl, rfl, hS, atI_nat ?_, q _⟩
      rw [List.getElem?_map, List.getElem?_eq_getElem hl]
      rfl
    · exact q 0
def spPen : Sp := fun vs H Q _ => ∃ c : Int, vs = [.int c] ∧ ∀ pn H', H pn = none → Same H H' → PenAt H' pn 1000000000 → Q (.ref pn) H'
theorem ok_pen (D : Def K mg "_law_pen" s__law_pen ["_law_cell"]) (B : Bi mg) : Cal P w K mg base (k + 1) "_law_pen" ["_law_cell"] spPen := by
  refine D.ok sc__law_pen (fun vs H Q E h => ?_) (fun f cdv A outer s H vs Q E hr h => ?_)
  · obtain ⟨c, rfl, _⟩ := h
    rfl
  · obtain ⟨c, rfl, q⟩ := h
    refine ⟨_, (pss_one (ps_ret (pe_lst (pa_cons (pe_callB (call_max2 rfl) rfl B.max_ (by decide +kernel) (pa_cons pe_int (pa_cons (pe_op op_sub (pv 0) (pe_op op_pow pe_int pe_int)) pa_nil))) (pa_cons (pe_op op_mod (pv 0) pe_int) (pa_cons pe_int pa_nil)))))), ?_⟩
    refine ⟨.int c, rfl, 10, 18, rfl, rfl, ⟨by decide, by decide, by decide⟩, c, _, rfl, rfl, 0, _, rfl, .int c, rfl, c, 1000000007, rfl, rfl, (by show (0 : Int) < 1000000007; decide), (by show 3 ≤ sizeLine; decide), fun p hp => ?_⟩
    refine q p _ hp (Same.new hp) ⟨_, _, 0, upd_same, ?_, ?_, ?_, by decide, by decide⟩
    · split <;> omega
    · exact Int.emod_nonneg _ (by decide)
    · exact Int.emod_lt_of_pos _ (by decide)
/-! ### a draw -/
def spDraw : Sp := fun vs H Q _ => ∃ (pn : Addr) (many : Int) (m : Nat), vs = [.ref pn, .int many] ∧ 0 < many ∧ many ≤ 1000000 ∧ PenAt H pn (m + 1) ∧
  ∀ (r : Int) (H' : Hp), 0 ≤ r → r < many → Kp (· = pn) H H' → PenAt H' pn m → Q (.int r) H'
theorem mulW_small {i j : Int} (hi : i.natAbs < 2 ^ 100) (hj : j.natAbs < 2 ^ 100) : CMulW i j := wide_mul hi hj (by decide) (by decide) (by decide)
theorem divW_small {i j : Int} (h0 : 0 < j) (hj : j ≤ 1000000) : CDivW i j := wide_div (b := 100) h0 (by omega) (by decide) (by decide)
theorem ok_draw (D : Def K mg "_law_draw" s__law_draw ["_law_pen_here", "_law_many"]) (B : Bi mg) : Cal P w K mg base (k + 1) "_law_draw" ["_law_pen_here", "_law_many"] spDraw := by
  refine D.ok sc__law_draw (fun vs H Q E h => ?_) (fun f cdv A outer s H vs Q E hr h => ?_)
  · obtain ⟨pn, many, m, rfl, _⟩ := h
    rfl
  · obtain ⟨pn, many, m, rfl, h0, h1, ⟨p0, p1, p2, e, hp0, hp1, hp1', hp2, hm⟩, q⟩ := h
    refine ⟨_, (pss_cons (ps_if (pt_cmpR op_gt (pe_ix ix_list (pv 0) pe_int (fun _ _ => rfl)) pe_int (nomark _))
  (pss_cons (ps_set (i := 2) sc__law_draw.nd rfl (Or.inl rfl) (pe_op op_mod (pe_ix ix_list (pv 0) pe_int (fun _ _ => rfl)) (pv 1)))
  (pss_cons (ps_asg (pe_op op_fdivW (pe_ix ix_list (pv 0) pe_int (fun _ _ => rfl)) (pv 1)) (pg_sub (pv 0) pe_int set_list))
  (pss_one (ps_ret (pv 2)))))
  pss_nil)
  (pss_cons (ps_asg (pe_op op_add (pe_ix ix_list (pv 0) pe_int (fun _ _ => rfl)) pe_int) (pg_sub (pv 0) pe_int set_list))
  (pss_cons (ps_set (i := 3) sc__law_draw.nd rfl (Or.inl rfl) (pe_op op_mod (pe_op op_mulW (pe_op op_add (pe_ix ix_list (pv 0) pe_int (fun _ _ => rfl)) (pe_op op_mulW pe_int (pe_ix ix_list (pv 0) pe_int (fun _ _ => rfl)))) (pe_op op_add pe_int (pe_op op_mulW pe_int (pe_ix ix_list (pv 0) pe_int (fun _ _ => rfl))))) pe_int))
  (pss_cons (ps_set (i := 3) sc__law_draw.nd rfl (Or.inl rfl) (pe_op op_mod (pe_op op_add (pe_op op_add (pe_op op_mulW (pv 3) (pv 3)) (pe_op op_mulW pe_int (pe_ix ix_list (pv 0) pe_int (fun _ _ => rfl)))) pe_int) pe_int))
  (pss_one (ps_ret (pe_op op_mod (pe_op op_fdivW (pe_op op_mod (pe_op op_mulW (pv 3) pe_int) pe_int) pe_int) (pv 1)))))))), ?_⟩
    refine ⟨.ref pn, rfl, pn, _, 0, _, rfl, rfl, SqL.of e, atI_nat (j := 0) rfl, p0, 0, rfl, rfl, _, rfl, ite2 (fun g => ?_) (fun g => ?_)⟩
    · have g' : 0 < p0 := of_decide_eq_true g
      refine ⟨.ref pn, rfl, pn, _, 0, _, rfl, rfl, SqL.of e, atI_nat (j := 0) rfl, .int many, rfl, p0, many, rfl, rfl, h0, ?_⟩
      refine ⟨.ref pn, rfl, pn, _, 0, _, rfl, rfl, SqL.of e, atI_nat (j := 0) rfl, .int many, rfl, p0, many, rfl, rfl, divW_small h0 h1, .ref pn, rfl, pn, _, 0, 0, rfl, rfl, e, rfl, ?_⟩
      refine ⟨.int (p0 % many), rfl, q _ _ (Int.emod_nonneg _ (by omega)) (Int.emod_lt_of_pos _ h0) (Kp.put rfl) ?_⟩
      exact ⟨_, p1, p2, upd_same, Int.ediv_nonneg hp0 (by omega), hp1, hp1', hp2, by omega⟩
    · refine ⟨.ref pn, rfl, pn, _, 2, _, rfl, rfl, SqL.of e, atI_nat (j := 2) rfl, p2, 1, rfl, rfl, .ref pn, rfl, pn, _, 2, 2, rfl, rfl, e, rfl, ?_⟩
      have e' : upd H pn (.lst ([V.int p0, .int p1, .int p2].set 2 (.int (p2 + 1)))) pn = some (.lst [V.int p0, .int p1, .int (p2 + 1)]) := upd_same
      generalize hH : upd H pn (.lst ([V.int p0, .int p1, .int p2].set 2 (.int (p2 + 1)))) = H1 at e'
      have k1 : Kp (· = pn) H H1 := by
        rw [← hH]
        exact Kp.put rfl
      refine ⟨.ref pn, rfl, pn, _, 1, _, rfl, rfl, SqL.of e', atI_nat (j := 1) rfl, .ref pn, rfl, pn, _, 2, _, rfl, rfl, SqL.of e', atI_nat (j := 2) rfl, 17, p2 + 1, rfl, rfl, mulW_small (by decide) (by omega), p1, _, rfl, rfl,
        .ref pn, rfl, pn, _, 2, _, rfl, rfl, SqL.of e', atI_nat (j := 2) rfl, 2, p2 + 1, rfl, rfl, mulW_small (by decide) (by omega), 69621, _, rfl, rfl, _, _, rfl, rfl, mulW_small (by omega) (by omega), _, 2147483647, rfl, rfl, (by show (0 : Int) < 2147483647; decide), ?_⟩
      show tSeq _ _ _ (List.set _ 3 (some (V.int ((p1 + 17 * (p2 + 1)) * (69621 + 2 * (p2 + 1)) % 2147483647)))) H1
      generalize hz : (p1 + 17 * (p2 + 1)) * (69621 + 2 * (p2 + 1)) % 2147483647 = z
      have z0 : 0 ≤ z := by
        rw [← hz]
        exact Int.emod_nonneg _ (by decide)
      have z1 : z < 2147483647 := by
        rw [← hz]
        exact Int.emod_lt_of_pos _ (by decide)
      have zz : z * z ≤ 2147483647 * 2147483647 := Int.mul_le_mul (by omega) (by omega) z0 (by decide)
      have zz0 : 0 ≤ z * z := Int.mul_nonneg z0 z0
      refine ⟨.int z, rfl, .int z, rfl, z, z, rfl, rfl, mulW_small (by omega) (by omega), .ref pn, rfl, pn, _, 2, _, rfl, rfl, SqL.of e', atI_nat (j := 2) rfl, 40503, p2 + 1, rfl, rfl, mulW_small (by decide) (by omega), _, _, rfl, rfl, _, 5, rfl, rfl, _, 2147483629, rfl, rfl, (by show (0 : Int) < 2147483629; decide), ?_⟩
      show gName 3 (V.int ((z * z + 40503 * (p2 + 1) + 5) % 2147483629)) _ H1 _
      generalize hy : (z * z + 40503 * (p2 + 1) + 5) % 2147483629 = y
      have y0 : 0 ≤ y := by
        rw [← hy]
        exact Int.emod_nonneg _ (by decide)
      have y1 : y < 2147483629 := by
        rw [← hy]
        exact Int.emod_lt_of_pos _ (by decide)
      refine ⟨.int y, rfl, y, 48271, rfl, rfl, mulW_small (by omega) (by decide), _, 2147483647, rfl, rfl, (by show (0 : Int) < 2147483647; decide), _, 32, rfl, rfl, divW_small (by decide) (by decide), .int many, rfl, _, many, rfl, rfl, h0, ?_⟩
      refine q _ _ (Int.emod_nonneg _ (by omega)) (Int.emod_lt_of_pos _ h0) k1 ?_
      exact ⟨p0, p1, p2 + 1, e', hp0, hp1, hp1', by omega, by omega⟩
end
end K07

set_option maxRecDepth 100000
set_option maxHeartbeats 4000000
namespace K07
open PySem PySem.Spec PyProof.Rows L2 HX
abbrev s__law_board : Stmt := topS 36
theorem sc__law_board : FnScope ["_law_pen_here", "_law_most", "_law_many", "_law_cups", "_law_wheels", "_law_wheel", "_law_steps", "_law_turn", "_law_ends", "_law_lap", "_law_far"] ["_law_pen_here", "_law_most"] (defScope s__law_board) := ⟨rfl, rfl, rfl, by decide +kernel, rfl, by decide +kernel, by decide +kernel⟩
theorem PenAt.list {H : Hp} {pn : Addr} {m : Nat} (h : PenAt H pn m) : ∃ xs, H pn = some (.lst xs) := by
  obtain ⟨p0, p1, p2, e, _⟩ := h
  exact ⟨_, e⟩
theorem PenAt.new {H : Hp} {pn p : Addr} {m : Nat} {o : HO} (h : PenAt H pn m) (hp : H p = none) : PenAt (upd H p o) pn m := by
  obtain ⟨p0, p1, p2, e, r⟩ := h
  exact ⟨p0, p1, p2, by rw [upd_ne (ne_of_none e hp)]; exact e, r⟩
theorem PenAt.ne {H : Hp} {pn p : Addr} {m : Nat} (h : PenAt H pn m) (hp : H p = none) : p ≠ pn := by
  obtain ⟨xs, e⟩ := h.list
  exact (ne_of_none e hp).symm
theorem PenAt.put {H : Hp} {pn p : Addr} {m : Nat} {o : HO} (h : PenAt H pn m) (hp : p ≠ pn) : PenAt (upd H p o) pn m := by
  obtain ⟨p0, p1, p2, e, r⟩ := h
  exact ⟨p0, p1, p2, by rw [upd_ne hp.symm]; exact e, r⟩
theorem PenAt.kt {H H' : Hp} {pn : Addr} {m : Nat} (h : PenAt H pn m) (k : Kp (· = pn) H H') : KT H H' := by
  obtain ⟨xs, e⟩ := h.list
  exact KT.kp e k
theorem PenAt.same {H H' : Hp} {pn : Addr} {m : Nat} (h : PenAt H pn m) (s : Same H H') : PenAt H' pn m := by
  obtain ⟨p0, p1, p2, e, r⟩ := h
  exact ⟨p0, p1, p2, s _ _ e, r⟩
theorem PenAt.netup {H : Hp} {pn p : Addr} {m : Nat} {xs : List V} (h : PenAt H pn m) (e : H p = some (.tup xs)) : ¬ (p = pn) := by
  obtain ⟨ys, e'⟩ := h.list
  exact ne_of e e' (fun z => by cases z)
section
variable {P : Program} {w : World} {K : PySem.W.Frag} {mg : Str → Option Value} {base : Heap} {k : Nat}
/-! ### a board is drawn -/
def spBoard : Sp := fun vs H Q _ => ∃ (pn : Addr) (most : Int) (m : Nat), vs = [.ref pn, .int most] ∧ 1 ≤ most ∧ most ≤ 6 ∧ PenAt H pn (m + 200) ∧
  ∀ (v : V) (ws : List (List (List Int))) (c : Int) (H' : Hp), BoardOk ws c → (ws.length : Int) ≤ most → c ≤ 3 → Td H' v (boardD ws c) → Kp (· = pn) H H' → PenAt H' pn m → Q v H'
theorem ok_board (D : Def K mg "_law_board" s__law_board ["_law_pen_here", "_law_most"]) (B : Bi mg) (c__law_draw : Cal P w K mg base k "_law_draw" ["_law_pen_here", "_law_many"] spDraw) : Cal P w K mg base (k + 1) "_law_board" ["_law_pen_here", "_law_most"] spBoard := by
  refine D.ok sc__law_board (fun vs H Q E h => ?_) (fun f cdv A outer s H vs Q E hr h => ?_)
  · obtain ⟨pn, most, m, rfl, _⟩ := h
    rfl
  · obtain ⟨pn, most, m, rfl, h1, h6, pen, q⟩ := h
    refine ⟨_, (pss_cons (ps_par (i := 2) (j := 3) (by rfl) sc__law_board.nd rfl rfl (by decide) rfl rfl (pa_cons (pe_op op_add pe_int (pe_cal c__law_draw hr rfl (pa_cons (pv 0) (pa_cons (pv 1) pa_nil)))) (pa_cons (pe_cal c__law_draw hr rfl (pa_cons (pv 0) (pa_cons pe_int pa_nil))) pa_nil)) (by rfl))
  (pss_cons (ps_set (i := 4) sc__law_board.nd rfl (Or.inl rfl) (pe_lst pa_nil))
  (pss_cons (ps_for PassesOwn.never rfl (pi_range1 rfl B.range_ (pa_cons (pv 2) pa_nil)) (pg_name (i := 5) sc__law_board.nd rfl (Or.inl rfl))
  (pss_cons (ps_set (i := 6) sc__law_board.nd rfl (Or.inl rfl) (pe_lst pa_nil))
  (pss_cons (ps_for PassesOwn.never rfl (pi_range1 rfl B.range_ (pa_cons (pe_op op_add pe_int (pe_cal c__law_draw hr rfl (pa_cons (pv 0) (pa_cons pe_int pa_nil)))) pa_nil)) (pg_name (i := 7) sc__law_board.nd rfl (Or.inl rfl))
  (pss_cons (ps_set (i := 8) sc__law_board.nd rfl (Or.inl rfl) (pe_lst pa_nil))
  (pss_cons (ps_for PassesOwn.never rfl (pi_range1 rfl B.range_ (pa_cons (pe_ix ix_list (pe_lst (pa_cons pe_int (pa_cons pe_int (pa_cons pe_int (pa_cons pe_int (pa_cons pe_int pa_nil)))))) (pe_cal c__law_draw hr rfl (pa_cons (pv 0) (pa_cons pe_int pa_nil))) (fun _ _ => rfl)) pa_nil)) (pg_name (i := 9) sc__law_board.nd rfl (Or.inl rfl))
  (pss_cons (ps_set (i := 10) sc__law_board.nd rfl (Or.inl rfl) (pe_ifExp (pt_cmpR op_gt (pe_cal c__law_draw hr rfl (pa_cons (pv 0) (pa_cons pe_int pa_nil))) pe_int (nomark _)) (pe_op op_add (pe_op op_add (pv 5) pe_int) (pe_cal c__law_draw hr rfl (pa_cons (pv 0) (pa_cons pe_int pa_nil)))) (pe_cal c__law_draw hr rfl (pa_cons (pv 0) (pa_cons (pe_op op_add (pv 2) (pv 3)) pa_nil)))))
  (pss_one (ps_expr (pe_bm PySem.F.plainAttrs_list PySem.F.slot_list_append PySem.F.type_list_append mt_append (pv 8) (pa_cons (pe_callB (call_min2 rfl) rfl B.min_ (by decide +kernel) (pa_cons (pv 10) (pa_cons (pe_callB (call_max2 rfl) rfl B.max_ (by decide +kernel) (pa_cons pe_int (pa_cons (pe_op op_sub (pe_op op_add (pv 2) (pv 3)) pe_int) pa_nil))) pa_nil))) pa_nil))))))
  (pss_one (ps_expr (pe_bm PySem.F.plainAttrs_list PySem.F.slot_list_append PySem.F.type_list_append mt_append (pv 6) (pa_cons (pe_callTy call_tuple_of rfl B.tuple_ (by decide +kernel) (pa_cons (pv 8) pa_nil)) pa_nil)))))))
  (pss_one (ps_expr (pe_bm PySem.F.plainAttrs_list PySem.F.slot_list_append PySem.F.type_list_append mt_append (pv 4) (pa_cons (pe_callTy call_tuple_of rfl B.tuple_ (by decide +kernel) (pa_cons (pv 6) pa_nil)) pa_nil)))))))
  (pss_one (ps_ret (pe_tup (pa_cons (pe_callTy call_tuple_of rfl B.tuple_ (by decide +kernel) (pa_cons (pv 4) pa_nil)) (pa_cons (pv 3) pa_nil)))))))), ?_⟩
    -- many, cups
    refine ⟨.ref pn, rfl, .int most, rfl, pn, most, m + 199, rfl, by omega, by omega, pen, fun r1 H1 r10 r11 k1 pen1 => ⟨1, r1, rfl, rfl, .ref pn, rfl, pn, 4, m + 198, rfl, by decide, by decide, pen1, fun c H2 c0 c4 k2 pen2 => ⟨_, _, rfl, ?_⟩⟩⟩
    have k02 := k1.trans k2
    -- wheels = []
    refine ⟨by show 0 ≤ sizeLine; decide, fun Lw nw => ?_⟩
    have nwp := pen2.ne nw
    have nw0 : H Lw = none ∨ Lw = pn := by
      cases e : H Lw with
      | none => exact .inl rfl
      | some o =>
        by_cases z : Lw = pn
        · exact .inr z
        · rw [k02 _ _ e z] at nw
          cases nw
    have nwH : H Lw = none := nw0.resolve_right nwp
    -- the wheels
    refine ⟨.int (1 + r1), rfl, 1 + r1, rfl, by omega, by omega, for_range (n := (1 + r1).toNat) (fun i σ H' => ∃ (xs : List V) (ws : List (List (List Int))) (y5 y6 y7 y8 y9 y10 : Option V),
      σ = [some (.ref pn), some (.int most), some (.int (1 + r1)), some (.int c), some (.ref Lw), y5, y6, y7, y8, y9, y10] ∧ Kp (· = pn) H H' ∧ PenAt H' pn (m + 29 * (6 - i)) ∧ H' Lw = some (.lst xs) ∧ TdAll H' xs (ws.map wheelD) ∧ ws.length = i ∧
      ∀ w ∈ ws, WheelOk (1 + r1 + c) w) ?_ (fun i σ H3 hi p => ?_) (fun σ H3 p => ?_)⟩
    · exact ⟨[], [], none, none, none, none, none, none, rfl, k02.mut nwH, (pen2.new nw).less (by omega), upd_same, .nil, rfl, fun w hw => nomatch hw⟩
    · obtain ⟨xs, ws, y5, y6, y7, y8, y9, y10, rfl, k3, pen3, eLw, tws, hlen, hok⟩ := p
      -- steps = []
      refine ⟨by show 0 ≤ sizeLine; decide, fun Ls ns => ?_⟩
      have nsp := pen3.ne ns
      have nsw : Ls ≠ Lw := (ne_of_none eLw ns).symm
      have pen4 := pen3.new (o := .lst []) ns
      have nsH : H Ls = none := by
        cases e : H Ls with
        | none => rfl
        | some o =>
          rw [k3 _ _ e nsp] at ns
          cases ns
      -- how many steps
      refine ⟨.ref pn, rfl, pn, 4, m + 29 * (5 - i) + 28, rfl, by decide, by decide, pen4.less (by omega), fun r2 H5 r20 r21 k5 pen5 => ?_⟩
      have eLs5 : H5 Ls = some (.lst []) := k5 _ _ upd_same nsp
      have eLw5 : H5 Lw = some (.lst xs) := k5 _ _ (by rw [upd_ne nsw.symm]; exact eLw) nwp
      have tws5 : TdAll H5 xs (ws.map wheelD) := TdAll.mono ((KT.new ns).trans (pen4.kt k5)) _ _ tws
      have k05 : Kp (· = pn) H H5 := (k3.mut nsH).trans k5
      refine ⟨1, r2, rfl, rfl, 1 + r2, rfl, by omega, by omega, for_range (n := (1 + r2).toNat) (fun j σ H' => ∃ (zs : List V) (ss : List (List Int)) (y7 y8 y9 y10 : Option V),
        σ = [some (.ref pn), some (.int most), some (.int (1 + r1)), some (.int c), some (.ref Lw), some (.int (0 + (i : Int))), some (.ref Ls), y7, y8, y9, y10] ∧ Kp (· = pn) H H' ∧ PenAt H' pn (m + 29 * (5 - i) + 7 * (4 - j)) ∧ H' Lw = some (.lst xs) ∧ TdAll H' xs (ws.map wheelD) ∧
        H' Ls = some (.lst zs) ∧ TdAll H' zs (ss.map stepD) ∧ ss.length = j ∧ ∀ s ∈ ss, EndsOk (1 + r1 + c) s) ?_ (fun j σ H6 hj p => ?_) (fun σ H6 p => ?_)⟩
      · exact ⟨[], [], y7, y8, y9, y10, rfl, k05, pen5.less (by omega), eLw5, tws5, eLs5, .nil, rfl, fun s hs => nomatch hs⟩
      · obtain ⟨zs, ss, y7, y8, y9, y10, rfl, k6, pen6, eLw6, tws6, eLs6, tss6, slen, sok⟩ := p
        -- ends = []
        refine ⟨by show 0 ≤ sizeLine; decide, fun Le ne => ?_⟩
        have nep := pen6.ne ne
        have newL : Le ≠ Lw := (ne_of_none eLw6 ne).symm
        have nesL : Le ≠ Ls := (ne_of_none eLs6 ne).symm
        have pen7 := pen6.new (o := .lst []) ne
        have neH : H Le = none := by
          cases e : H Le with
          | none => rfl
          | some o =>
            rw [k6 _ _ e nep] at ne
            cases ne
        -- how many ends: the written list, the draw
        refine ⟨by show 5 ≤ sizeLine; decide, fun Lx nx => ?_⟩
        have nxp := pen7.ne nx
        have pen8 := pen7.new (o := .lst [V.int 0, .int 1, .int 1, .int 2, .int 3]) nx
        have nxe : Lx ≠ Le := (ne_of_none upd_same nx).symm
        have nxw : Lx ≠ Lw := fun z => by
          rw [z, upd_ne newL.symm, eLw6] at nx
          cases nx
        have nxs : Lx ≠ Ls := fun z => by
          rw [z, upd_ne nesL.symm, eLs6] at nx
          cases nx
        refine ⟨.ref pn, rfl, pn, 5, m + 29 * (5 - i) + 7 * (3 - j) + 6, rfl, by decide, by decide, pen8.less (by omega), fun r3 H9 r30 r31 k9 pen9 => ?_⟩
        have eLx9 : H9 Lx = some (.lst [V.int 0, .int 1, .int 1, .int 2, .int 3]) := k9 _ _ upd_same nxp
        have eLe9 : H9 Le = some (.lst []) := k9 _ _ (by rw [upd_ne nxe.symm]; exact upd_same) nep
        have eLw9 : H9 Lw = some (.lst xs) := k9 _ _ (by rw [upd_ne nxw.symm, upd_ne newL.symm]; exact eLw6) nwp
        have eLs9 : H9 Ls = some (.lst zs) := k9 _ _ (by rw [upd_ne nxs.symm, upd_ne nesL.symm]; exact eLs6) nsp
        have kt9 : KT H6 H9 := ((KT.new ne).trans (KT.new nx)).trans (pen8.kt k9)
        have nxH : H Lx = none := by
          cases e : H Lx with
          | none => rfl
          | some o =>
            rw [(k6.mut neH) _ _ e nxp] at nx
            cases nx
        have k09 : Kp (· = pn) H H9 := ((k6.mut neH).mut nxH).trans k9
        obtain ⟨cnt, hcnt, c30, c33⟩ : ∃ cnt : Int, atI [V.int 0, .int 1, .int 1, .int 2, .int 3] r3 = some (.int cnt) ∧ 0 ≤ cnt ∧ cnt ≤ 3 := by
          obtain ⟨n, rfl⟩ : ∃ n : Nat, r3 = (n : Int) := ⟨r3.toNat, by omega⟩
          match n, r31 with
          | 0, _ => exact ⟨0, atI_nat (j := 0) rfl, by decide, by decide⟩
          | 1, _ => exact ⟨1, atI_nat (j := 1) rfl, by decide, by decide⟩
          | 2, _ => exact ⟨1, atI_nat (j := 2) rfl, by decide, by decide⟩
          | 3, _ => exact ⟨2, atI_nat (j := 3) rfl, by decide, by decide⟩
          | 4, _ => exact ⟨3, atI_nat (j := 4) rfl, by decide, by decide⟩
          | n + 5, h => exact absurd h (by omega)
        refine ⟨Lx, _, r3, .int cnt, rfl, rfl, SqL.of eLx9, hcnt, cnt, rfl, by omega, by omega, for_range (n := cnt.toNat) (fun l σ H' => ∃ (es : List Int) (y9 y10 : Option V),
          σ = [some (.ref pn), some (.int most), some (.int (1 + r1)), some (.int c), some (.ref Lw), some (.int (0 + (i : Int))), some (.ref Ls), some (.int (0 + (j : Int))), some (.ref Le), y9, y10] ∧ Kp (· = pn) H H' ∧
          PenAt H' pn (m + 29 * (5 - i) + 7 * (3 - j) + 2 * (3 - l)) ∧ H' Lw = some (.lst xs) ∧ TdAll H' xs (ws.map wheelD) ∧ H' Ls = some (.lst zs) ∧ TdAll H' zs (ss.map stepD) ∧ H' Le = some (.lst (es.map V.int)) ∧ es.length = l ∧ ∀ e ∈ es, 0 ≤ e ∧ e < 1 + r1 + c) ?_ (fun l σ H10 hl p => ?_) (fun σ H10 p => ?_)⟩
        · exact ⟨[], y9, y10, rfl, k09, pen9.less (by omega), eLw9, TdAll.mono kt9 _ _ tws6, eLs9, TdAll.mono kt9 _ _ tss6, eLe9, rfl, fun e he => nomatch he⟩
        · obtain ⟨es, y9, y10, rfl, k10, pen10, eLw10, tws10, eLs10, tss10, eLe10, elen, eok⟩ := p
          -- far
          refine ⟨.ref pn, rfl, pn, 4, m + 29 * (5 - i) + 7 * (3 - j) + 2 * (2 - l) + 1, rfl, by decide, by decide, pen10.less (by omega), fun r4 H11 r40 r41 k11 pen11 => ?_⟩
          have fin : ∀ (far : Int) (H12 : Hp), 0 ≤ far → Kp (· = pn) H11 H12 → PenAt H12 pn (m + 29 * (5 - i) + 7 * (3 - j) + 2 * (2 - l)) →
              ∃ (es' : List Int) (y9 y10 : Option V), [some (V.ref pn), some (.int most), some (.int (1 + r1)), some (.int c), some (.ref Lw), some (.int (0 + (i : Int))), some (.ref Ls), some (.int (0 + (j : Int))), some (.ref Le), some (.int (0 + (l : Int))), some (.int far)] =
                [some (.ref pn), some (.int most), some (.int (1 + r1)), some (.int c), some (.ref Lw), some (.int (0 + (i : Int))), some (.ref Ls), some (.int (0 + (j : Int))), some (.ref Le), y9, y10] ∧
                Kp (· = pn) H (upd H12 Le (.lst (es.map V.int ++ [.int (if (if (1 + r1 + c - 1 : Int) > 0 then 1 + r1 + c - 1 else 0) < far then (if (1 + r1 + c - 1 : Int) > 0 then 1 + r1 + c - 1 else 0) else far)]))) ∧
                PenAt (upd H12 Le (.lst (es.map V.int ++ [.int (if (if (1 + r1 + c - 1 : Int) > 0 then 1 + r1 + c - 1 else 0) < far then (if (1 + r1 + c - 1 : Int) > 0 then 1 + r1 + c - 1 else 0) else far)]))) pn (m + 29 * (5 - i) + 7 * (3 - j) + 2 * (3 - (l + 1))) ∧
                upd H12 Le (.lst (es.map V.int ++ [.int (if (if (1 + r1 + c - 1 : Int) > 0 then 1 + r1 + c - 1 else 0) < far then (if (1 + r1 + c - 1 : Int) > 0 then 1 + r1 + c - 1 else 0) else far)])) Lw = some (.lst xs) ∧
                TdAll (upd H12 Le (.lst (es.map V.int ++ [.int (if (if (1 + r1 + c - 1 : Int) > 0 then 1 + r1 + c - 1 else 0) < far then (if (1 + r1 + c - 1 : Int) > 0 then 1 + r1 + c - 1 else 0) else far)]))) xs (ws.map wheelD) ∧
                upd H12 Le (.lst (es.map V.int ++ [.int (if (if (1 + r1 + c - 1 : Int) > 0 then 1 + r1 + c - 1 else 0) < far then (if (1 + r1 + c - 1 : Int) > 0 then 1 + r1 + c - 1 else 0) else far)])) Ls = some (.lst zs) ∧
                TdAll (upd H12 Le (.lst (es.map V.int ++ [.int (if (if (1 + r1 + c - 1 : Int) > 0 then 1 + r1 + c - 1 else 0) < far then (if (1 + r1 + c - 1 : Int) > 0 then 1 + r1 + c - 1 else 0) else far)]))) zs (ss.map stepD) ∧
                upd H12 Le (.lst (es.map V.int ++ [.int (if (if (1 + r1 + c - 1 : Int) > 0 then 1 + r1 + c - 1 else 0) < far then (if (1 + r1 + c - 1 : Int) > 0 then 1 + r1 + c - 1 else 0) else far)])) Le = some (.lst (es'.map V.int)) ∧ es'.length = l + 1 ∧ ∀ e ∈ es', 0 ≤ e ∧ e < 1 + r1 + c := by
            intro far H12 f0 k12 pen12
            generalize hz : (if (if (1 + r1 + c - 1 : Int) > 0 then 1 + r1 + c - 1 else 0) < far then (if (1 + r1 + c - 1 : Int) > 0 then 1 + r1 + c - 1 else 0) else far) = z
            have z0 : 0 ≤ z ∧ z < 1 + r1 + c := by
              rw [← hz]
              split <;> split <;> omega
            have k1112 := k11.trans k12
            have eLe12 := k1112 _ _ eLe10 nep
            have kt12 : KT H10 (upd H12 Le (.lst (es.map V.int ++ [.int z]))) := (pen10.kt k1112).trans (KT.put eLe12)
            refine ⟨es ++ [z], some (.int (0 + (l : Int))), some (.int far), rfl, (k10.trans k1112).mut neH, (pen12.put nep).less (by omega), ?_, TdAll.mono kt12 _ _ tws10, ?_, TdAll.mono kt12 _ _ tss10, ?_, ?_, fun e he => ?_⟩
            · rw [upd_ne newL.symm]
              exact k1112 _ _ eLw10 nwp
            · rw [upd_ne nesL.symm]
              exact k1112 _ _ eLs10 nsp
            · rw [upd_same, List.map_append]
              rfl
            · rw [List.length_append, elen]
              rfl
            · rcases List.mem_append.mp he with he | he
              · exact eok e he
              · rw [List.mem_singleton.mp he]
                exact z0
          have small : (es.map V.int).length < sizeLine := by
            rw [List.length_map]
            exact small1000 (by omega)
          refine ⟨r4, 0, rfl, rfl, _, rfl, ite2 (fun g => ?_) (fun g => ?_)⟩
          · refine ⟨.int (0 + (i : Int)), rfl, _, 1, rfl, rfl, .ref pn, rfl, pn, 3, _, rfl, by decide, by decide, pen11, fun r5 H12 r50 r51 k12 pen12 => ⟨_, r5, rfl, rfl, ?_⟩⟩
            have eLe12 := (k11.trans k12) _ _ eLe10 nep
            refine ⟨.ref Le, rfl, .inl ⟨rfl, _, SqL.of eLe12⟩, _, rfl, .int (1 + r1), rfl, .int c, rfl, _, c, rfl, rfl, _, 1, rfl, rfl, 0, _, rfl, _, _, rfl, Le, _, _, rfl, rfl, eLe12, small, ?_⟩
            exact fin _ H12 (by omega) k12 pen12
          · refine ⟨.ref pn, rfl, .int (1 + r1), rfl, .int c, rfl, _, c, rfl, rfl, pn, _, _, rfl, (by show (0 : Int) < 1 + r1 + c; omega), (by show 1 + r1 + c ≤ (1000000 : Int); omega), pen11, fun r5 H12 r50 r51 k12 pen12 => ?_⟩
            have eLe12 := (k11.trans k12) _ _ eLe10 nep
            refine ⟨.ref Le, rfl, .inl ⟨rfl, _, SqL.of eLe12⟩, _, rfl, .int (1 + r1), rfl, .int c, rfl, _, c, rfl, rfl, _, 1, rfl, rfl, 0, _, rfl, _, _, rfl, Le, _, _, rfl, rfl, eLe12, small, ?_⟩
            exact fin _ H12 r50 k12 pen12
        · -- steps.append(tuple(ends))
          obtain ⟨es, y9, y10, rfl, k10, pen10, eLw10, tws10, eLs10, tss10, eLe10, elen, eok⟩ := p
          have small : zs.length < sizeLine := by
            rw [tss6.len, List.length_map]
            exact small1000 (by omega)
          refine ⟨.ref Ls, rfl, .inl ⟨rfl, _, SqL.of eLs10⟩, .ref Le, rfl, Le, _, rfl, .inl ⟨SqL.of eLe10, fun T nT => ⟨Ls, zs, .ref T, rfl, rfl, ?_, small, ?_⟩⟩⟩
          · rw [upd_ne (ne_of_none eLs10 nT)]
            exact eLs10
          · have nTp := pen10.ne nT
            have nTs : Ls ≠ T := ne_of_none eLs10 nT
            have nTw : Lw ≠ T := ne_of_none eLw10 nT
            have nTH : H T = none := by
              cases e : H T with
              | none => rfl
              | some o =>
                rw [k10 _ _ e nTp] at nT
                cases nT
            have eLsT : (upd H10 T (.tup (es.map V.int))) Ls = some (.lst zs) := by
              rw [upd_ne nTs]
              exact eLs10
            have ktT : KT H10 (upd (upd H10 T (.tup (es.map V.int))) Ls (.lst (zs ++ [.ref T]))) := (KT.new nT).trans (KT.put eLsT)
            refine ⟨zs ++ [.ref T], ss ++ [es], some (.int (0 + (j : Int))), some (.ref Le), y9, y10, rfl, (k10.mut nTH).mut nsH, ((pen10.new nT).put nsp).less (by omega), ?_, TdAll.mono ktT _ _ tws10, upd_same, ?_, ?_, fun s hs => ?_⟩
            · rw [upd_ne nsw.symm, upd_ne nTw]
              exact eLw10
            · rw [List.map_append]
              exact (TdAll.mono ktT _ _ tss10).snoc (Td.mono (KT.put eLsT) _ _ (Td.new nT (TdAll.ints es)))
            · rw [List.length_append, slen]
              rfl
            · rcases List.mem_append.mp hs with hs | hs
              · exact sok s hs
              · rw [List.mem_singleton.mp hs]
                exact ⟨by omega, eok⟩
      · -- wheels.append(tuple(steps))
        obtain ⟨zs, ss, y7, y8, y9, y10, rfl, k6, pen6, eLw6, tws6, eLs6, tss6, slen, sok⟩ := p
        have small : xs.length < sizeLine := by
          rw [tws.len, List.length_map]
          exact small1000 (by omega)
        refine ⟨.ref Lw, rfl, .inl ⟨rfl, _, SqL.of eLw6⟩, .ref Ls, rfl, Ls, _, rfl, .inl ⟨SqL.of eLs6, fun T nT => ⟨Lw, xs, .ref T, rfl, rfl, ?_, small, ?_⟩⟩⟩
        · rw [upd_ne (ne_of_none eLw6 nT)]
          exact eLw6
        · have nTp := pen6.ne nT
          have nTw : Lw ≠ T := ne_of_none eLw6 nT
          have nTH : H T = none := by
            cases e : H T with
            | none => rfl
            | some o =>
              rw [k6 _ _ e nTp] at nT
              cases nT
          have eLwT : (upd H6 T (.tup zs)) Lw = some (.lst xs) := by
            rw [upd_ne nTw]
            exact eLw6
          have ktT : KT H6 (upd (upd H6 T (.tup zs)) Lw (.lst (xs ++ [.ref T]))) := (KT.new nT).trans (KT.put eLwT)
          refine ⟨xs ++ [.ref T], ws ++ [ss], some (.int (0 + (i : Int))), some (.ref Ls), y7, y8, y9, y10, rfl, (k6.mut nTH).mut nwH, ((pen6.new nT).put nwp).less (by omega), upd_same, ?_, ?_, fun w hw => ?_⟩
          · rw [List.map_append]
            exact (TdAll.mono ktT _ _ tws6).snoc (Td.mono (KT.put eLwT) _ _ (Td.new nT tss6))
          · rw [List.length_append, hlen]
            rfl
          · rcases List.mem_append.mp hw with hw | hw
            · exact hok w hw
            · rw [List.mem_singleton.mp hw]
              exact ⟨by omega, by omega, sok⟩
    · -- (tuple(wheels), cups)
      obtain ⟨xs, ws, y5, y6, y7, y8, y9, y10, rfl, k3, pen3, eLw, tws, hlen, hok⟩ := p
      refine ⟨.ref Lw, rfl, Lw, _, rfl, .inl ⟨SqL.of eLw, fun T nT => ⟨.int c, rfl, by show 2 ≤ sizeLine; decide, fun U nU => ?_⟩⟩⟩
      have nTp := pen3.ne nT
      have pen4 := pen3.new (o := .tup xs) nT
      have nUp := pen4.ne nU
      have nTH : H T = none := by
        cases e : H T with
        | none => rfl
        | some o =>
          rw [k3 _ _ e nTp] at nT
          cases nT
      have nUH : H U = none := by
        cases e : H U with
        | none => rfl
        | some o =>
          rw [(k3.mut nTH) _ _ e nUp] at nU
          cases nU
      have el : (ws.length : Int) = 1 + r1 := by omega
      refine q (.ref U) ws c _ ⟨by omega, by omega, c0, by omega, fun w hw => ?_⟩ (by omega) (by omega) ?_ ((k3.mut nTH).mut nUH) ((pen4.new nU).less (by omega))
      · rw [el]
        exact hok w hw
      · exact Td.new nU (.cons (Td.new nT tws) (.cons (.int c) .nil))
end
end K07

set_option maxRecDepth 100000
set_option maxHeartbeats 1000000
namespace K07
open PySem PySem.Spec PyProof.Rows L2 HX
abbrev s_need_board : Stmt := topS 16
theorem sc_need_board : FnScope ["thing"] ["thing"] (defScope s_need_board) := ⟨rfl, rfl, rfl, by decide +kernel, rfl, by decide +kernel, by decide +kernel⟩
abbrev s_is_stand : Stmt := topS 17
theorem sc_is_stand : FnScope ["board", "thing", "wheels", "step", "wheel"] ["board", "thing"] (defScope s_is_stand) := ⟨rfl, rfl, rfl, by decide +kernel, rfl, by decide +kernel, by decide +kernel⟩
abbrev s_are_marbles : Stmt := topS 18
theorem sc_are_marbles : FnScope ["thing", "places", "many"] ["thing", "places"] (defScope s_are_marbles) := ⟨rfl, rfl, rfl, by decide +kernel, rfl, by decide +kernel, by decide +kernel⟩
abbrev s_is_moment : Stmt := topS 19
theorem sc_is_moment : FnScope ["board", "thing", "wheels", "cups", "stand", "waiting", "held"] ["board", "thing"] (defScope s_is_moment) := ⟨rfl, rfl, rfl, by decide +kernel, rfl, by decide +kernel, by decide +kernel⟩
abbrev s__law_moment : Stmt := topS 37
theorem sc__law_moment : FnScope ["_law_pen_here", "_law_board_here", "_law_most", "_law_stand", "_law_waiting", "_law_wheel", "_law_cup"] ["_law_pen_here", "_law_board_here", "_law_most"] (defScope s__law_moment) := ⟨rfl, rfl, rfl, by decide +kernel, rfl, by decide +kernel, by decide +kernel⟩
/-! ### the mathematics -/
def natB : PyData → Bool
  | .int i => decide (0 ≤ i)
  | _ => false
def numsB (n : Int) (d : PyData) : Bool := partsB d n n && (itemsD d).all natB
def atB (ds : List PyData) (ws : List (List (List Int))) (m : Nat) : Bool := match ds[m]?, ws[m]? with
  | some d, some w => withinB d 0 ((w.length : Int) - 1)
  | _, _ => false
def standB (ws : List (List (List Int))) (d : PyData) : Bool := partsB d ws.length ws.length && (List.range ws.length).all (atB (itemsD d) ws)
def momentB (ws : List (List (List Int))) (c : Int) (d : PyData) : Bool := match d with
  | .tuple [s, w, h] => standB ws s && (numsB ws.length w && numsB c h)
  | _ => false
theorem boardOk_B {ws : List (List (List Int))} {c : Int} (h : BoardOk ws c) : boardB (boardD ws c) = true := by
  have h1 := h.w1
  have h6 := h.w6
  have h0 := h.c0
  have h4 := h.c4
  show (partsB (wheelsD ws) 1 6 && withinB (.int c) 0 4 && (ws.map wheelD).all fun e => wheelB e (((ws.map wheelD).length : Int) + c)) = true
  rw [List.length_map, List.all_map]
  have e1 : partsB (wheelsD ws) 1 6 = true := by
    show (decide ((1 : Int) ≤ ((ws.map wheelD).length : Int)) && decide (((ws.map wheelD).length : Int) ≤ 6)) = true
    rw [List.length_map, Bool.and_eq_true, decide_eq_true_eq, decide_eq_true_eq]
    omega
  have e2 : withinB (.int c) 0 4 = true := by
    show (decide ((0 : Int) ≤ c) && decide (c ≤ 4)) = true
    rw [Bool.and_eq_true, decide_eq_true_eq, decide_eq_true_eq]
    omega
  rw [e1, e2, Bool.true_and, Bool.true_and, List.all_eq_true]
  intro w hw
  obtain ⟨x1, x4, hs⟩ := h.wheels w hw
  show (partsB (wheelD w) 1 4 && (w.map stepD).all fun e => stepB e ((ws.length : Int) + c)) = true
  have e3 : partsB (wheelD w) 1 4 = true := by
    show (decide ((1 : Int) ≤ ((w.map stepD).length : Int)) && decide (((w.map stepD).length : Int) ≤ 4)) = true
    rw [List.length_map, Bool.and_eq_true, decide_eq_true_eq, decide_eq_true_eq]
    omega
  rw [e3, Bool.true_and, List.all_map, List.all_eq_true]
  intro s hs'
  obtain ⟨s3, se⟩ := hs s hs'
  show (partsB (stepD s) 0 3 && (s.map PyData.int).all fun e => withinB e 0 ((ws.length : Int) + c - 1)) = true
  have e4 : partsB (stepD s) 0 3 = true := by
    show (decide ((0 : Int) ≤ ((s.map PyData.int).length : Int)) && decide (((s.map PyData.int).length : Int) ≤ 3)) = true
    rw [List.length_map, Bool.and_eq_true, decide_eq_true_eq, decide_eq_true_eq]
    omega
  rw [e4, Bool.true_and, List.all_map, List.all_eq_true]
  intro e he
  obtain ⟨e0, e5⟩ := se e he
  show (decide ((0 : Int) ≤ e) && decide (e ≤ (ws.length : Int) + c - 1)) = true
  rw [Bool.and_eq_true, decide_eq_true_eq, decide_eq_true_eq]
  omega
theorem Da.boardOf {N : Addr → Prop} {H : Hp} {v : V} {ws : List (List (List Int))} {c : Int} (h : Da N H v (boardD ws c)) : ∃ ab aw ys, v = .ref ab ∧ H ab = some (.tup [.ref aw, .int c]) ∧ ¬ N ab ∧ H aw = some (.tup ys) ∧ ¬ N aw ∧ DaAll N H ys (ws.map wheelD) := by
  obtain ⟨ab, xs, rfl, eb, nb, hx⟩ := h.tupOf
  cases hx with
  | @cons vw vs1 _ _ hw hr1 =>
  cases hr1 with
  | @cons vc vs2 _ _ hc hr2 =>
  cases hr2
  obtain rfl := hc.intOf
  obtain ⟨aw, ys, rfl, ew, nw, hy⟩ := hw.tupOf
  exact ⟨ab, aw, ys, rfl, eb, nb, ew, nw, hy⟩
section
variable {P : Program} {w : World} {K : PySem.W.Frag} {mg : Str → Option Value} {base : Heap} {k : Nat}
/-! ### need_board where it is one -/
def spNeed : Sp := fun vs H Q _ => ∃ (N : Addr → Prop) (v : V) (ws : List (List (List Int))) (c : Int), vs = [v] ∧ Da N H v (boardD ws c) ∧ BoardOk ws c ∧ ∀ H', Same H H' → Q .non H'
theorem ok_need_board (D : Def K mg "need_board" s_need_board ["thing"]) (c_is_board : Cal P w K mg base k "is_board" ["thing"] (spThing boardB)) : Cal P w K mg base (k + 1) "need_board" ["thing"] spNeed := by
  refine D.ok sc_need_board (fun vs H Q E h => ?_) (fun f cdv A outer s H vs Q E hr h => ?_)
  · obtain ⟨N, v, ws, c, rfl, _⟩ := h
    rfl
  · obtain ⟨N, v, ws, c, rfl, hd, ok, q⟩ := h
    refine ⟨_, (pss_one (ps_if (pt_not (pt_val (pe_cal c_is_board hr rfl (pa_cons (pv 0) pa_nil))))
  (pss_one ps_never)
  pss_nil)), ?_⟩
    refine ⟨v, rfl, N, v, _, rfl, hd, fun H' s' => ⟨_, rfl, ?_⟩⟩
    rw [boardOk_B ok]
    exact iteF (q H' s')
/-! ### is_stand, are_marbles, is_moment -/
def spStand : Sp := fun vs H Q _ => ∃ (N M : Addr → Prop) (vb v : V) (ws : List (List (List Int))) (c : Int) (d : PyData), vs = [vb, v] ∧ Da N H vb (boardD ws c) ∧ BoardOk ws c ∧ Da M H v d ∧ ∀ H', Same H H' → Q (.bl (standB ws d)) H'
theorem ok_is_stand (D : Def K mg "is_stand" s_is_stand ["board", "thing"]) (B : Bi mg) (B2 : Bi2 mg) (c_need_board : Cal P w K mg base k "need_board" ["thing"] spNeed) (c_is_within : Cal P w K mg base k "is_within" ["thing", "least", "most"] spWithin)
    (c_has_parts : Cal P w K mg base k "has_parts" ["thing", "least", "most"] spParts) : Cal P w K mg base (k + 1) "is_stand" ["board", "thing"] spStand := by
  refine D.ok sc_is_stand (fun vs H Q E h => ?_) (fun f cdv A outer s H vs Q E hr h => ?_)
  · obtain ⟨N, M, vb, v, ws, c, d, rfl, _⟩ := h
    rfl
  · obtain ⟨N, M, vb, v, ws, c, d, rfl, hb, bok, hd, q⟩ := h
    refine ⟨_, (pss_cons (ps_expr (pe_cal c_need_board hr rfl (pa_cons (pv 0) pa_nil)))
  (pss_cons (ps_set (i := 2) sc_is_stand.nd rfl (Or.inl rfl) (pe_ix ix_tup (pv 0) pe_int (fun _ _ => rfl)))
  (pss_cons (ps_if (pt_not (pt_val (pe_cal c_has_parts hr rfl (pa_cons (pv 1) (pa_cons (pe_callB call_len_seq rfl B.len_ (by decide +kernel) (pa_cons (pv 2) pa_nil)) (pa_cons (pe_callB call_len_seq rfl B.len_ (by decide +kernel) (pa_cons (pv 2) pa_nil)) pa_nil))))))
  (pss_one (ps_ret pe_bl))
  pss_nil)
  (pss_one (ps_ret (pe_callB (cr_all rfl) rfl B.all_ (by decide +kernel) (pa_cons (pe_lc (own := [("step", 3), ("wheel", 4)]) rfl sc_is_stand.nd (pi_zip2 rfl B2.zip_ (pa_cons (pv 1) (pa_cons (pv 2) pa_nil))) (blkOk_by (N := ["board", "thing", "wheels", "step", "wheel"]) (sc := defScope s_is_stand) (by decide +kernel)) (fun _ _ _ _ _ => (pg_tupK (K := K) (n := 2) rfl (pgs_cons (pg_name (i := 3) sc_is_stand.nd rfl (Or.inl rfl)) (pgs_cons (pg_name (i := 4) sc_is_stand.nd rfl (Or.inl rfl)) pgs_nil)))) (fun _ _ _ _ _ => pts_nil) (fun _ _ _ _ _ => (pe_cal c_is_within hr rfl (pa_cons (pv 3) (pa_cons pe_int (pa_cons (pe_op op_sub (pe_callB (id := "len") (call_len_seqK (K := K)) rfl B.len_ (by decide +kernel) (pa_cons (pv 4) pa_nil)) pe_int) pa_nil)))))) pa_nil))))))), ?_⟩
    refine ⟨vb, rfl, N, vb, ws, c, rfl, hb, bok, fun H1 s1 => ?_⟩
    have hb1 := Da.mono (N := N) (Kp.of s1) _ _ hb
    have hd1 := Da.mono (N := M) (Kp.of s1) _ _ hd
    obtain ⟨ab, aw, ys, rfl, eb, _, ew, _, hy⟩ := Da.boardOf hb1
    have hl : ys.length = ws.length := by rw [hy.len, List.length_map]
    have w6 := bok.w6
    refine ⟨.ref ab, rfl, ab, _, 0, _, rfl, rfl, SqT.of eb, atI_nat (j := 0) rfl, ?_⟩
    refine ⟨v, rfl, .ref aw, rfl, aw, ys, rfl, .inr (SqT.of ew), .ref aw, rfl, aw, ys, rfl, .inr (SqT.of ew), M, v, d, _, _, rfl, hd1, _, rfl, ?_⟩
    rw [hl]
    cases e : partsB d ws.length ws.length with
    | false =>
      have q' := q H1 s1
      unfold standB at q'
      rw [e] at q'
      exact iteT q'
    | true =>
      obtain ⟨ds, rfl, l1, l2⟩ := parts_tup e
      obtain ⟨a, xs, rfl, ea, _, hx⟩ := hd1.tupOf
      have hxl := hx.len
      have hdl : ds.length = ws.length := by omega
      refine iteF (s_next ?_)
      dsimp only
      refine s_ret ?_
      dsimp only
      refine read_all2 (K := K) (i := 3) (j := 4) (ta := tCons (tVar 1) (tCons (tVar 2) tNil)) (k1 := .t) (k2 := .t) (a := a) (b := aw) (xs := xs) (ys := ys) (n := ws.length) (atB ds ws) (by decide) (by omega) (fun R r => ⟨.ref a, rfl, .ref aw, rfl, r⟩) (fun H' s' => SqT.of (s' _ _ ea)) (fun H' s' => SqT.of (s' _ _ ew)) (by omega) (fun m x y H' s' hm ex ey Q' q' => ?_) (fun H' s' => ?_)
      · obtain ⟨dx, f1, f2⟩ := (DaAll.mono (N := M) (Kp.of s') _ _ hx).get ex
        obtain ⟨dy, g1, g2⟩ := (DaAll.mono (N := N) (Kp.of s') _ _ hy).get ey
        rw [List.getElem?_map] at g1
        cases ewm : ws[m]? with
        | none => rw [ewm] at g1; cases g1
        | some wl =>
          rw [ewm] at g1
          cases g1
          obtain ⟨az, zs, rfl, ez, _, hz⟩ := g2.tupOf
          have zl : zs.length = wl.length := by rw [hz.len, List.length_map]
          refine ⟨x, rfl, .ref az, rfl, az, zs, rfl, .inr (SqT.of ez), _, 1, rfl, rfl, M, x, dx, 0, _, rfl, f2, ?_⟩
          have q2 := q' H' (Same.refl H')
          unfold atB at q2
          rw [f1, ewm] at q2
          rw [zl]
          exact q2
      · have q' := q H' (s1.trans s')
        unfold standB at q'
        rw [e, Bool.true_and] at q'
        exact q'
def spMarbles : Sp := fun vs H Q _ => ∃ (M : Addr → Prop) (v : V) (n : Int) (d : PyData), vs = [v, .int n] ∧ Da M H v d ∧ n ≤ 1000 ∧ ∀ H', Same H H' → Q (.bl (numsB n d)) H'
theorem ok_are_marbles (D : Def K mg "are_marbles" s_are_marbles ["thing", "places"]) (B : Bi mg) (c_is_whole : Cal P w K mg base k "is_whole" ["thing"] spWhole) (c_has_parts : Cal P w K mg base k "has_parts" ["thing", "least", "most"] spParts) :
    Cal P w K mg base (k + 1) "are_marbles" ["thing", "places"] spMarbles := by
  refine D.ok sc_are_marbles (fun vs H Q E h => ?_) (fun f cdv A outer s H vs Q E hr h => ?_)
  · obtain ⟨M, v, n, d, rfl, _⟩ := h
    rfl
  · obtain ⟨M, v, n, d, rfl, hd, hn, q⟩ := h
    refine ⟨_, (pss_one (ps_ret (pe_and (pe_cal c_has_parts hr rfl (pa_cons (pv 0) (pa_cons (pv 1) (pa_cons (pv 1) pa_nil)))) (pe_one (pe_callB (cr_all rfl) rfl B.all_ (by decide +kernel) (pa_cons (pe_lc (own := [("many", 2)]) rfl sc_are_marbles.nd (pi_tup (pv 0)) (blkOk_by (N := ["thing", "places", "many"]) (sc := defScope s_are_marbles) (by decide +kernel)) (fun _ _ _ _ _ => (pg_name (i := 2) sc_are_marbles.nd rfl (Or.inl rfl))) (fun _ _ _ _ _ => pts_nil) (fun _ _ _ _ _ => (pe_and (pe_cal c_is_whole hr rfl (pa_cons (pv 2) pa_nil)) (pe_one (pe_cmpR op_ge (pv 2) pe_int (nomark _)))))) pa_nil)))))), ?_⟩
    refine ⟨v, rfl, .int n, rfl, .int n, rfl, M, v, d, n, n, rfl, hd, _, rfl, ?_⟩
    cases e : partsB d n n with
    | false =>
      refine iteF ?_
      have q' := q H (Same.refl H)
      unfold numsB at q'
      rw [e] at q'
      exact q'
    | true =>
      obtain ⟨ds, rfl, _, h3⟩ := parts_tup e
      obtain ⟨a, xs, rfl, ea, _, ha⟩ := hd.tupOf
      refine iteT (read_all (N := M) (ds := ds) natB rfl ea ha (by omega) (fun x d H' s' hx Q' q' => ?_) fun H' s' => ?_)
      · refine ⟨x, rfl, M, x, d, rfl, hx, _, rfl, ?_⟩
        cases d with
        | int i =>
          cases hx
          exact iteT ⟨.int i, rfl, i, 0, rfl, rfl, q' H' (Same.refl H')⟩
        | bool b => exact iteF (q' H' (Same.refl H'))
        | none => exact iteF (q' H' (Same.refl H'))
        | str x => exact iteF (q' H' (Same.refl H'))
        | list ds => exact iteF (q' H' (Same.refl H'))
        | tuple ds => exact iteF (q' H' (Same.refl H'))
        | dict ds => exact iteF (q' H' (Same.refl H'))
      · have q' := q H' s'
        unfold numsB at q'
        rw [e, Bool.true_and] at q'
        exact q'
def spMom : Sp := fun vs H Q _ => ∃ (N M : Addr → Prop) (vb v : V) (ws : List (List (List Int))) (c : Int) (d : PyData), vs = [vb, v] ∧ Da N H vb (boardD ws c) ∧ BoardOk ws c ∧ Da M H v d ∧ ∀ H', Same H H' → Q (.bl (momentB ws c d)) H'
theorem momentB_no {ws : List (List (List Int))} {c : Int} {d : PyData} (h : partsB d 3 3 = false) : momentB ws c d = false := by
  unfold momentB
  split
  · cases h
  · rfl
theorem ok_is_moment (D : Def K mg "is_moment" s_is_moment ["board", "thing"]) (B : Bi mg) (c_need_board : Cal P w K mg base k "need_board" ["thing"] spNeed) (c_is_stand : Cal P w K mg base k "is_stand" ["board", "thing"] spStand)
    (c_are_marbles : Cal P w K mg base k "are_marbles" ["thing", "places"] spMarbles) (c_has_parts : Cal P w K mg base k "has_parts" ["thing", "least", "most"] spParts) : Cal P w K mg base (k + 1) "is_moment" ["board", "thing"] spMom := by
  refine D.ok sc_is_moment (fun vs H Q E h => ?_) (fun f cdv A outer s H vs Q E hr h => ?_)
  · obtain ⟨N, M, vb, v, ws, c, d, rfl, _⟩ := h
    rfl
  · obtain ⟨N, M, vb, v, ws, c, d, rfl, hb, bok, hd, q⟩ := h
    refine ⟨_, (pss_cons (ps_expr (pe_cal c_need_board hr rfl (pa_cons (pv 0) pa_nil)))
  (pss_cons (ps_if (pt_not (pt_val (pe_cal c_has_parts hr rfl (pa_cons (pv 1) (pa_cons pe_int (pa_cons pe_int pa_nil))))))
  (pss_one (ps_ret pe_bl))
  pss_nil)
  (pss_cons (ps_asg (pv 0) (pg_tup rfl (pgs_cons (pg_name (i := 2) sc_is_moment.nd rfl (Or.inl rfl)) (pgs_cons (pg_name (i := 3) sc_is_moment.nd rfl (Or.inl rfl)) pgs_nil))))
  (pss_cons (ps_asg (pv 1) (pg_tup rfl (pgs_cons (pg_name (i := 4) sc_is_moment.nd rfl (Or.inl rfl)) (pgs_cons (pg_name (i := 5) sc_is_moment.nd rfl (Or.inl rfl)) (pgs_cons (pg_name (i := 6) sc_is_moment.nd rfl (Or.inl rfl)) pgs_nil)))))
  (pss_one (ps_ret (pe_and (pe_cal c_is_stand hr rfl (pa_cons (pv 0) (pa_cons (pv 4) pa_nil))) (pe_and (pe_cal c_are_marbles hr rfl (pa_cons (pv 5) (pa_cons (pe_callB call_len_seq rfl B.len_ (by decide +kernel) (pa_cons (pv 2) pa_nil)) pa_nil))) (pe_one (pe_cal c_are_marbles hr rfl (pa_cons (pv 6) (pa_cons (pv 3) pa_nil)))))))))))), ?_⟩
    refine ⟨vb, rfl, N, vb, ws, c, rfl, hb, bok, fun H1 s1 => ?_⟩
    have hb1 := Da.mono (N := N) (Kp.of s1) _ _ hb
    have hd1 := Da.mono (N := M) (Kp.of s1) _ _ hd
    refine ⟨v, rfl, M, v, d, 3, 3, rfl, hd1, _, rfl, ?_⟩
    cases e : partsB d 3 3 with
    | false =>
      have q' := q H1 s1
      rw [momentB_no e] at q'
      exact iteT q'
    | true =>
      refine iteF ?_
      obtain ⟨ds, rfl, h2, h3⟩ := parts_tup e
      obtain ⟨a, xs, rfl, ea, _, ha⟩ := hd1.tupOf
      obtain ⟨dt, dw, dh, rfl⟩ : ∃ x y z, ds = [x, y, z] := by
        match ds, h2, h3 with
        | [x, y, z], _, _ => exact ⟨x, y, z, rfl⟩
        | [], h, _ => simp at h
        | [x], h, _ => simp at h
        | [x, y], h, _ => simp at h
        | x :: y :: z :: u :: r, _, h => simp at h; omega
      cases ha with
      | @cons vt vs1 _ _ ht hr1 =>
      cases hr1 with
      | @cons vw vs2 _ _ hw hr2 =>
      cases hr2 with
      | @cons vh vs3 _ _ hh hr3 =>
      cases hr3
      have hb2 := hb1
      obtain ⟨ab, aw, ys, rfl, eb, _, ew, _, hy⟩ := Da.boardOf hb1
      have hl : ys.length = ws.length := by rw [hy.len, List.length_map]
      have w6 := bok.w6
      have c4 := bok.c4
      refine ⟨.ref ab, rfl, ab, _, rfl, SqT.of eb, rfl, _, _, rfl, _, _, rfl, rfl, ?_⟩
      refine ⟨.ref a, rfl, a, _, rfl, SqT.of ea, rfl, _, _, rfl, _, _, rfl, _, _, rfl, rfl, ?_⟩
      have q0 : ∀ H', Same H H' → Q (.bl (standB ws dt && (numsB ws.length dw && numsB c dh))) H' := q
      refine ⟨.ref ab, rfl, vt, rfl, N, M, .ref ab, vt, ws, c, dt, rfl, hb2, bok, ht, fun H2 s2 => ⟨_, rfl, ?_⟩⟩
      cases e1 : standB ws dt with
      | false =>
        have q' := q0 H2 (s1.trans s2)
        rw [e1] at q'
        exact iteF q'
      | true =>
        refine iteT ⟨vw, rfl, .ref aw, rfl, aw, ys, rfl, .inr (SqT.of (s2 _ _ ew)), M, vw, _, dw, rfl, Da.mono (Kp.of s2) _ _ hw, by omega, fun H3 s3 => ⟨_, rfl, ?_⟩⟩
        rw [hl]
        cases e2 : numsB ws.length dw with
        | false =>
          have q' := q0 H3 ((s1.trans s2).trans s3)
          rw [e1, e2] at q'
          exact iteF q'
        | true =>
          refine iteT ⟨vh, rfl, .int c, rfl, M, vh, c, dh, rfl, Da.mono (Kp.of (s2.trans s3)) _ _ hh, by omega, fun H4 s4 => ?_⟩
          have q' := q0 H4 (((s1.trans s2).trans s3).trans s4)
          rw [e1, e2] at q'
          exact q'
end
end K07

set_option maxRecDepth 100000
set_option maxHeartbeats 1000000
namespace K07
open PySem PySem.Spec PyProof.Rows L2 HX
/-! ### a comprehension of drawn numbers -/
theorem s_cb1 {r : List V → Hp → VK → Prop} {t : TE} {σ : L2.St} {H : Hp} {Q : VK} (h : t σ H fun x H1 => r [x] H1 Q) : tCB r (tCons t tNil) σ H Q := h
theorem s_cons {t : TE} {u : TA} {σ : L2.St} {H : Hp} {Q : List V → Hp → Prop} (h : t σ H fun x H1 => u σ H1 fun xs H2 => Q (x :: xs) H2) : tCons t u σ H Q := h
theorem lc_ints {J : It} {n : Nat} {G : Hp → Prop} {Y : Nat → Hp → V → Hp → Prop} (wk : Walk J n G Y) {Yx : Nat → V → Prop} (hY : ∀ i H x H', Y i H x H' → H' = H ∧ Yx i x) {σ : L2.St} {H : Hp} {Q : VK} {te : TE} {wi : TI} {j pn : Nat} (R : Nat → Int → Prop) (t m : Nat) (hwi : ∀ R : It → Hp → Prop, R J H → wi σ H R)
    (hz : n ≤ 1000) (pen : PenAt H pn (m + t * n)) (hG : ∀ H', Kp (· = pn) H H' → G H')
    (ht : ∀ (i : Nat) (x : V) (H' : Hp) (m' : Nat), i < n → Yx i x → Kp (· = pn) H H' → PenAt H' pn (m' + t) → ∀ Q' : VK, (∀ (z : Int) (H2 : Hp), R i z → Kp (· = pn) H' H2 → PenAt H2 pn m' → Q' (.int z) H2) → te ((wipe σ [j]).set j (some x)) H' Q')
    (q : ∀ (D : Addr) (zs : List Int) (H' : Hp), zs.length = n → (∀ i z, zs[i]? = some z → R i z) → Kp (· = pn) H H' → PenAt H' pn m → H' D = some (.lst (zs.map V.int)) → H D = none → Q (.ref D) H') :
    tLc wi (gName j) tYes te [j] σ H Q := by
  refine hwi _ fun D hD => ?_
  have nDp := pen.ne hD
  refine lc_it wk (fun i H' => Kp (· = pn) H H' ∧ PenAt H' pn (m + t * (n - i)) ∧ ∃ zs : List Int, zs.length = i ∧ (∀ i z, zs[i]? = some z → R i z) ∧ H' D = some (.lst (zs.map V.int))) ⟨Kp.new hD, pen.new hD, [], rfl, fun i z e => by simp at e, upd_same⟩ (fun i H' _ h => hG H' h.1) (fun i x H' H2 hi h y => ?_) (fun H' h => ?_)
  · obtain ⟨k1, pen1, zs, zl, zr, eD⟩ := h
    obtain ⟨rfl, yx⟩ := hY _ _ _ _ y
    have e1 : m + t * (n - i) = m + t * (n - (i + 1)) + t := by
      rw [show n - i = (n - (i + 1)) + 1 by omega, Nat.mul_add, Nat.mul_one]
      omega
    rw [e1] at pen1
    refine ⟨wipe1 x, tYes_eq (iteT (ht i x H2 _ hi yx k1 pen1 _ fun z H3 hz' k3 pen3 => ?_))⟩
    refine ⟨_, k3 _ _ eD nDp, ?_, (k1.trans k3).mut hD, pen3.put nDp, zs ++ [z], ?_, ?_, ?_⟩
    · rw [List.length_map, zl]
      exact small1000 (by omega)
    · rw [List.length_append, zl]
      rfl
    · intro i' z' e
      by_cases hlt : i' < zs.length
      · rw [List.getElem?_append_left hlt] at e
        exact zr i' z' e
      · rw [List.getElem?_append_right (by omega)] at e
        have h0 : i' - zs.length = 0 := by
          have := (List.getElem?_eq_some_iff.mp e).1
          simp at this
          omega
        rw [h0] at e
        have e2 : z = z' := by simpa using e
        have e3 : i' = i := by omega
        subst e2 e3
        exact hz'
    · rw [upd_same, List.map_append]
      rfl
  · obtain ⟨k1, pen1, zs, zl, zr, eD⟩ := h
    exact q D zs H' zl zr k1 (pen1.less (by omega)) eD hD
/-! ### a drawn moment -/
def momD (st wt hd : List Int) : PyData := .tuple [stepD st, stepD wt, stepD hd]
structure MomOk (ws : List (List (List Int))) (c b : Int) (st wt hd : List Int) : Prop where
  sl : st.length = ws.length
  sr : ∀ (i : Nat) (s : Int) (w : List (List Int)), st[i]? = some s → ws[i]? = some w → 0 ≤ s ∧ s < (w.length : Int)
  wl : wt.length = ws.length
  wr : ∀ x ∈ wt, 0 ≤ x ∧ x ≤ b
  hl : (hd.length : Int) = c
  hr : ∀ x ∈ hd, 0 ≤ x ∧ x ≤ b
section
variable {P : Program} {w : World} {K : PySem.W.Frag} {mg : Str → Option Value} {base : Heap} {k : Nat}
def spDrawn : Sp := fun vs H Q _ => ∃ (pn : Addr) (vb : V) (most : Int) (m : Nat) (ws : List (List (List Int))) (c : Int), vs = [.ref pn, vb, .int most] ∧ 2 ≤ most ∧ most ≤ 1000 ∧ Td H vb (boardD ws c) ∧ BoardOk ws c ∧ PenAt H pn (m + 22) ∧
  ∀ (v : V) (st wt hd : List Int) (H' : Hp), MomOk ws c most st wt hd → Td H' v (momD st wt hd) → Kp (· = pn) H H' → PenAt H' pn m → Q v H'
theorem ok_drawn (D : Def K mg "_law_moment" s__law_moment ["_law_pen_here", "_law_board_here", "_law_most"]) (B : Bi mg) (c__law_draw : Cal P w K mg base k "_law_draw" ["_law_pen_here", "_law_many"] spDraw) :
    Cal P w K mg base (k + 1) "_law_moment" ["_law_pen_here", "_law_board_here", "_law_most"] spDrawn := by
  refine D.ok sc__law_moment (fun vs H Q E h => ?_) (fun f cdv A outer s H vs Q E hr h => ?_)
  · obtain ⟨pn, vb, most, m, ws, c, rfl, _⟩ := h
    rfl
  · obtain ⟨pn, vb, most, m, ws, c, rfl, m2, m1000, tb, bok, pen, q⟩ := h
    refine ⟨_, (pss_cons (ps_set (i := 3) sc__law_moment.nd rfl (Or.inl rfl) (pe_callTy call_tuple_of rfl B.tuple_ (by decide +kernel) (pa_cons (pe_lc (own := [("_law_wheel", 5)]) rfl sc__law_moment.nd (pi_tup (pe_ix ix_tup (pv 1) pe_int (fun _ _ => rfl))) (blkOk_by (N := ["_law_pen_here", "_law_board_here", "_law_most", "_law_stand", "_law_waiting", "_law_wheel", "_law_cup"]) (sc := defScope s__law_moment) (by decide +kernel)) (fun _ _ _ _ _ => (pg_name (i := 5) sc__law_moment.nd rfl (Or.inl rfl))) (fun _ _ _ _ _ => pts_nil) (fun _ _ _ _ _ => (pe_cal c__law_draw hr rfl (pa_cons (pv 0) (pa_cons (pe_callB (id := "len") (call_len_seqK (K := K)) rfl B.len_ (by decide +kernel) (pa_cons (pv 5) pa_nil)) pa_nil))))) pa_nil)))
  (pss_cons (ps_set (i := 4) sc__law_moment.nd rfl (Or.inl rfl) (pe_callTy call_tuple_of rfl B.tuple_ (by decide +kernel) (pa_cons (pe_lc (own := [("_law_wheel", 5)]) rfl sc__law_moment.nd (pi_tup (pe_ix ix_tup (pv 1) pe_int (fun _ _ => rfl))) (blkOk_by (N := ["_law_pen_here", "_law_board_here", "_law_most", "_law_stand", "_law_waiting", "_law_wheel", "_law_cup"]) (sc := defScope s__law_moment) (by decide +kernel)) (fun _ _ _ _ _ => (pg_name (i := 5) sc__law_moment.nd rfl (Or.inl rfl))) (fun _ _ _ _ _ => pts_nil) (fun _ _ _ _ _ => (pe_ix (ix_listK (K := K)) (pe_lst (pa_cons pe_int (pa_cons pe_int (pa_cons (pe_cal c__law_draw hr rfl (pa_cons (pv 0) (pa_cons (pe_op op_add (pv 2) pe_int) pa_nil))) pa_nil)))) (pe_cal c__law_draw hr rfl (pa_cons (pv 0) (pa_cons pe_int pa_nil))) (fun _ _ => rfl)))) pa_nil)))
  (pss_one (ps_ret (pe_tup (pa_cons (pv 3) (pa_cons (pv 4) (pa_cons (pe_callTy call_tuple_of rfl B.tuple_ (by decide +kernel) (pa_cons (pe_lc (own := [("_law_cup", 6)]) rfl sc__law_moment.nd (pi_range1 rfl B.range_ (pa_cons (pe_ix ix_tup (pv 1) pe_int (fun _ _ => rfl)) pa_nil)) (blkOk_by (N := ["_law_pen_here", "_law_board_here", "_law_most", "_law_stand", "_law_waiting", "_law_wheel", "_law_cup"]) (sc := defScope s__law_moment) (by decide +kernel)) (fun _ _ _ _ _ => (pg_name (i := 6) sc__law_moment.nd rfl (Or.inl rfl))) (fun _ _ _ _ _ => pts_nil) (fun _ _ _ _ _ => (pe_cal c__law_draw hr rfl (pa_cons (pv 0) (pa_cons pe_int pa_nil))))) pa_nil)) pa_nil)))))))), ?_⟩
    obtain ⟨ab, xsb, rfl, eb, hb⟩ := Td.tupOf tb
    cases hb with
    | @cons vw vs1 _ _ hw hr1 =>
    cases hr1 with
    | @cons vc vs2 _ _ hc hr2 =>
    cases hr2
    obtain rfl := hc.intOf
    obtain ⟨aw, ys, rfl, ew, hy⟩ := Td.tupOf hw
    have hl : ys.length = ws.length := by rw [hy.len, List.length_map]
    have w6 := bok.w6
    have c0 := bok.c0
    have c4 := bok.c4
    have nab : ¬ (ab = pn) := by
      obtain ⟨l, e⟩ := pen.list
      exact ne_of eb e (fun z => by cases z)
    have naw : ¬ (aw = pn) := by
      obtain ⟨l, e⟩ := pen.list
      exact ne_of ew e (fun z => by cases z)
    -- the stand
    refine s_asg (s_cb1 ?_)
    refine lc_ints (J := Itt K aw) (n := ys.length) walk_tup (Yx := fun i x => ys[i]? = some x) (fun i H x H' y => y) (fun i z => ∀ w : List (List Int), ws[i]? = some w → 0 ≤ z ∧ z < (w.length : Int)) 1 (m + 16) (fun R r => ⟨.ref ab, rfl, ab, _, 0, _, rfl, rfl, SqT.of eb, atI_nat (j := 0) rfl, aw, rfl, ⟨ys, SqT.of ew⟩, r⟩) (by omega) (pen.less (by omega)) (fun H' k' => SqT.of (k' _ _ ew naw)) (fun i x H' m' hi hx k' pen' Q' q' => ?_) (fun D zs H1 zl zr k1 pen1 eD nD => ?_)
    · obtain ⟨d, e1, e2⟩ := hy.get hx
      rw [List.getElem?_map] at e1
      cases ewm : ws[i]? with
      | none => rw [ewm] at e1; cases e1
      | some wl =>
        rw [ewm] at e1
        cases e1
        obtain ⟨x1, x4, _⟩ := bok.wheels wl (List.mem_of_getElem? ewm)
        obtain ⟨az, zs, rfl, ez, hz⟩ := Td.tupOf e2
        have zl : zs.length = wl.length := by rw [hz.len, List.length_map]
        have naz : ¬ (az = pn) := by
          obtain ⟨l, e⟩ := pen.list
          exact ne_of ez e (fun z => by cases z)
        refine ⟨.ref pn, rfl, .ref az, rfl, az, zs, rfl, .inr (SqT.of (k' _ _ ez naz)), pn, _, m', rfl, by omega, by omega, pen', fun r H2 r0 r1 k2 pen2 => q' r H2 (fun w ew' => ?_) k2 pen2⟩
        rw [ewm] at ew'
        cases ew'
        omega
    · refine ⟨D, _, rfl, .inl ⟨SqL.of eD, fun T nT => ?_⟩⟩
      have nTp := pen1.ne nT
      have pen2 := pen1.new (o := .tup (zs.map V.int)) nT
      have k2 : Kp (· = pn) H (upd H1 T (.tup (zs.map V.int))) := k1.trans (Kp.new nT)
      have eT : (upd H1 T (.tup (zs.map V.int))) T = some (.tup (zs.map V.int)) := upd_same
      generalize upd H1 T (.tup (zs.map V.int)) = H2 at pen2 k2 eT ⊢
      -- those that wait
      refine s_asg (s_cb1 ?_)
      refine lc_ints (J := Itt K aw) (n := ys.length) walk_tup (Yx := fun i x => ys[i]? = some x) (fun i H x H' y => y) (fun i z => 0 ≤ z ∧ z ≤ most) 2 (m + 4) (fun R r => ⟨.ref ab, rfl, ab, _, 0, _, rfl, rfl, SqT.of (k2 _ _ eb nab), atI_nat (j := 0) rfl, aw, rfl, ⟨ys, SqT.of (k2 _ _ ew naw)⟩, r⟩) (by omega) (pen2.less (by omega)) (fun H' k' => SqT.of (k' _ _ (k2 _ _ ew naw) naw)) (fun i x H' m' hi hx k' pen' Q' q' => ?_) (fun D2 zs2 H3 zl2 zr2 k3 pen3 eD2 nD2 => ?_)
      · refine ⟨.ref pn, rfl, .int most, rfl, most, 1, rfl, rfl, pn, _, m' + 1, rfl, by omega, by omega, pen', fun r H3 r0 r1 k3 pen3 => ⟨by show 3 ≤ sizeLine; decide, fun L nL => ?_⟩⟩
        have nLp := pen3.ne nL
        refine ⟨.ref pn, rfl, pn, 3, m', rfl, by decide, by decide, pen3.new nL, fun r2 H4 r20 r21 k4 pen4 => ?_⟩
        have eL : H4 L = some (.lst [V.int 0, .int 1, .int r]) := k4 _ _ upd_same nLp
        have kk : Kp (· = pn) H' H4 := (k3.trans (Kp.new nL)).trans k4
        obtain ⟨u, rfl⟩ : ∃ u : Nat, r2 = (u : Int) := ⟨r2.toNat, by omega⟩
        match u, r21 with
        | 0, _ => exact ⟨L, _, 0, _, rfl, rfl, SqL.of eL, atI_nat (j := 0) rfl, q' _ H4 ⟨by omega, by omega⟩ kk pen4⟩
        | 1, _ => exact ⟨L, _, 1, _, rfl, rfl, SqL.of eL, atI_nat (j := 1) rfl, q' _ H4 ⟨by omega, by omega⟩ kk pen4⟩
        | 2, _ => exact ⟨L, _, 2, _, rfl, rfl, SqL.of eL, atI_nat (j := 2) rfl, q' _ H4 ⟨by omega, by omega⟩ kk pen4⟩
        | u + 3, h => exact absurd h (by omega)
      · refine ⟨D2, _, rfl, .inl ⟨SqL.of eD2, fun T2 nT2 => ?_⟩⟩
        have nTp2 := pen3.ne nT2
        have pen4 := pen3.new (o := .tup (zs2.map V.int)) nT2
        have k4 : Kp (· = pn) H2 (upd H3 T2 (.tup (zs2.map V.int))) := k3.trans (Kp.new nT2)
        have eT2 : (upd H3 T2 (.tup (zs2.map V.int))) T2 = some (.tup (zs2.map V.int)) := upd_same
        generalize upd H3 T2 (.tup (zs2.map V.int)) = H4 at pen4 k4 eT2 ⊢
        have k04 := k2.trans k4
        -- those that are held
        refine s_ret ?_
        refine ⟨.ref T, rfl, .ref T2, rfl, ?_⟩
        refine s_cons (s_cb1 ?_)
        refine lc_ints (J := Itr 0 c.toNat) (n := c.toNat) walk_range (Yx := fun _ _ => True) (fun i H x H' y => ⟨y.1, trivial⟩) (fun i z => 0 ≤ z ∧ z ≤ most) 1 m (fun R r => ⟨.ref ab, rfl, ab, _, 1, _, rfl, rfl, SqT.of (k04 _ _ eb nab), atI_nat (j := 1) rfl, c, rfl, by omega, by omega, r⟩) (by omega) (pen4.less (by omega)) (fun H' k' => trivial) (fun i x H' m' hi hx k' pen' Q' q' => ?_) (fun D3 zs3 H5 zl3 zr3 k5 pen5 eD3 nD3 => ?_)
        · exact ⟨.ref pn, rfl, pn, 3, m', rfl, by decide, by decide, pen', fun r H2 r0 r1 k2 pen2 => q' r H2 ⟨r0, by omega⟩ k2 pen2⟩
        · refine ⟨D3, _, rfl, .inl ⟨SqL.of eD3, fun T3 nT3 => ⟨by show 3 ≤ sizeLine; decide, fun U nU => ?_⟩⟩⟩
          have eT5 : H5 T = some (.tup (zs.map V.int)) := (k4.trans k5) _ _ eT nTp
          have eT25 : H5 T2 = some (.tup (zs2.map V.int)) := k5 _ _ eT2 nTp2
          have s6 : Same H5 (upd H5 T3 (.tup (zs3.map V.int))) := Same.new nT3
          refine q (.ref U) zs zs2 zs3 _ ⟨by omega, fun i s w e1 e2 => zr i s e1 w e2, by omega, fun x hx => ?_, by omega, fun x hx => ?_⟩ ?_ ((k04.trans k5).trans ((Kp.new nT3).trans (Kp.new nU))) ((pen5.new nT3).new nU)
          · obtain ⟨i, hi⟩ := List.mem_iff_getElem?.mp hx
            exact zr2 i x hi
          · obtain ⟨i, hi⟩ := List.mem_iff_getElem?.mp hx
            exact zr3 i x hi
          · exact Td.new nU (.cons (.tup (s6 _ _ eT5) (TdAll.ints zs)) (.cons (.tup (s6 _ _ eT25) (TdAll.ints zs2)) (.cons (.tup upd_same (TdAll.ints zs3)) .nil)))
end
end K07

set_option maxRecDepth 100000
set_option maxHeartbeats 1000000
namespace K07
open PySem PySem.Spec PyProof.Rows L2 HX
abbrev s_handle_marble : Stmt := topS 25
theorem sc_handle_marble : FnScope ["board", "parts", "wheel", "wheels", "stand", "waiting", "held", "step", "end"] ["board", "parts", "wheel"] (defScope s_handle_marble) := ⟨rfl, rfl, rfl, by decide +kernel, rfl, by decide +kernel, by decide +kernel⟩
section
variable {P : Program} {w : World} {K : PySem.W.Frag} {mg : Str → Option Value} {base : Heap} {k : Nat}
/-! ### a marble handled -/
def spHandle : Sp := fun vs H Q _ => ∃ (vb : V) (p a1 a2 a3 : Addr) (n : Nat) (ws : List (List (List Int))) (c : Int) (m : Mo), vs = [vb, .ref p, .int n] ∧ Td H vb (boardD ws c) ∧ BoardOk ws c ∧ H p = some (.tup [.ref a1, .ref a2, .ref a3]) ∧ Laid H a1 a2 a3 m ∧ MoF ws c m ∧ n < ws.length ∧
  ∀ H', Kp (N3 a1 a2 a3) H H' → Laid H' a1 a2 a3 (handleM ws m n) → Q .non H'
theorem ok_handle_marble (D : Def K mg "handle_marble" s_handle_marble ["board", "parts", "wheel"]) (B : Bi mg) : Cal P w K mg base (k + 1) "handle_marble" ["board", "parts", "wheel"] spHandle := by
  refine D.ok sc_handle_marble (fun vs H Q E h => ?_) (fun f cdv A outer s H vs Q E hr h => ?_)
  · obtain ⟨vb, p, a1, a2, a3, n, ws, c, m, rfl, _⟩ := h
    rfl
  · obtain ⟨vb, p, a1, a2, a3, n, ws, c, m, rfl, tb, bok, ep, la, mf, hn, q⟩ := h
    refine ⟨_, (pss_cons (ps_set (i := 3) sc_handle_marble.nd rfl (Or.inl rfl) (pe_ix ix_tup (pv 0) pe_int (fun _ _ => rfl)))
  (pss_cons (ps_asg (pv 1) (pg_tup rfl (pgs_cons (pg_name (i := 4) sc_handle_marble.nd rfl (Or.inl rfl)) (pgs_cons (pg_name (i := 5) sc_handle_marble.nd rfl (Or.inl rfl)) (pgs_cons (pg_name (i := 6) sc_handle_marble.nd rfl (Or.inl rfl)) pgs_nil)))))
  (pss_cons (ps_set (i := 7) sc_handle_marble.nd rfl (Or.inl rfl) (pe_ix ix_list (pv 4) (pv 2) (fun _ _ => rfl)))
  (pss_cons (ps_augS (pv 5) (pv 2) get_list pe_int ip_sub set_list)
  (pss_cons (ps_for PassesOwn.never rfl (pi_tup (pe_ix ix_tup (pe_ix ix_tup (pv 3) (pv 2) (fun _ _ => rfl)) (pv 7) (fun _ _ => rfl))) (pg_name (i := 8) sc_handle_marble.nd rfl (Or.inl rfl))
  (pss_one (ps_if (pt_cmpR op_lt (pv 8) (pe_callB call_len_seq rfl B.len_ (by decide +kernel) (pa_cons (pv 3) pa_nil)) (nomark _))
  (pss_one (ps_augS (pv 5) (pv 8) get_list pe_int ip_add set_list))
  (pss_one (ps_augS (pv 6) (pe_op op_sub (pv 8) (pe_callB call_len_seq rfl B.len_ (by decide +kernel) (pa_cons (pv 3) pa_nil))) get_list pe_int ip_add set_list)))))
  (pss_one (ps_asg (pe_op op_mod (pe_op op_add (pv 7) pe_int) (pe_callB call_len_seq rfl B.len_ (by decide +kernel) (pa_cons (pe_ix ix_tup (pv 3) (pv 2) (fun _ _ => rfl)) pa_nil))) (pg_sub (pv 4) (pv 2) set_list)))))))), ?_⟩
    obtain ⟨ab, aw, ys, rfl, eb, ew, hy⟩ := Td.boardOf tb
    have hl : ys.length = ws.length := by rw [hy.len, List.length_map]
    obtain ⟨az, zs, ey, ez, hz⟩ := hy.wheelAt hn
    have ewn : ws[n]? = some (ws.getD n []) := by rw [List.getD_eq_getElem?_getD, List.getElem?_eq_getElem hn]; rfl
    have esn : m.st[n]? = some (m.st.getD n 0) := by rw [List.getD_eq_getElem?_getD, List.getElem?_eq_getElem (by rw [mf.sl]; exact hn)]; rfl
    obtain ⟨s0, s1⟩ := mf.sr n _ _ esn ewn
    obtain ⟨x1, x4, wok⟩ := bok.wheels _ (List.mem_of_getElem? ewn)
    generalize hst : m.st.getD n 0 = sv at esn s0 s1
    obtain ⟨sn, rfl⟩ : ∃ sn : Nat, sv = (sn : Int) := ⟨sv.toNat, by omega⟩
    have hsn : sn < (ws.getD n []).length := by omega
    obtain ⟨ae, ee, ees⟩ := hz.stepAt hsn
    have hends : endsAt ws m.st n = (ws.getD n []).getD sn [] := by
      unfold endsAt
      rw [hst]
      rfl
    have eok := wok ((ws.getD n []).getD sn []) (List.mem_of_getElem? (show (ws.getD n [])[sn]? = some _ by rw [List.getD_eq_getElem?_getD (l := ws.getD n []) (i := sn), List.getElem?_eq_getElem hsn]; rfl))
    have hzl : zs.length = (ws.getD n []).length := by rw [hz.len, List.length_map]
    have hwl := mf.wl
    have hhl := mf.hl
    -- wheels, the three lists, the step
    refine ⟨.ref ab, rfl, ab, _, 0, _, rfl, rfl, SqT.of eb, atI_nat (j := 0) rfl, ?_⟩
    refine ⟨.ref p, rfl, p, _, rfl, SqT.of ep, rfl, _, _, rfl, _, _, rfl, _, _, rfl, rfl, ?_⟩
    refine ⟨.ref a1, rfl, .int n, rfl, a1, _, n, .int sn, rfl, rfl, SqL.of la.s, atI_nat (by rw [getI (by rw [mf.sl]; exact hn), hst]), ?_⟩
    -- waiting[wheel] -= 1
    refine ⟨.ref a2, rfl, .int n, rfl, a2, _, n, _, rfl, rfl, SqL.of la.w, getI (by omega), _, _, rfl, rfl, a2, _, n, n, rfl, rfl, la.w, ixN_nat (by rw [List.length_map]; omega), ?_⟩
    rw [setI]
    have k1 : Kp (N3 a1 a2 a3) H (upd H a2 (.lst ((m.wt.set n (m.wt.getD n 0 - 1)).map V.int))) := Kp.put (.inr (.inl rfl))
    have hb1 : m.wt.set n (m.wt.getD n 0 - 1) = bump m.wt n (-1) := rfl
    rw [hb1] at k1 ⊢
    have l1 : Laid (upd H a2 (.lst ((bump m.wt n (-1)).map V.int))) a1 a2 a3 ⟨m.st, bump m.wt n (-1), m.hd⟩ := ⟨by rw [upd_ne la.nab]; exact la.s, upd_same, by rw [upd_ne la.nbc.symm]; exact la.h, la.nab, la.nac, la.nbc⟩
    have kt1 := la.kt k1
    generalize upd H a2 (.lst ((bump m.wt n (-1)).map V.int)) = H1 at k1 l1 kt1 ⊢
    -- the ends
    refine ⟨.ref aw, rfl, .int n, rfl, aw, _, n, _, rfl, rfl, SqT.of (kt1 _ _ ew), atI_nat ey, .int sn, rfl, az, _, sn, _, rfl, rfl, SqT.of (kt1 _ _ ez), atI_nat ee, ae, rfl, ⟨_, SqT.of (kt1 _ _ ees)⟩, ?_⟩
    refine for_tup (xs := ((ws.getD n []).getD sn []).map V.int) (fun i σ H' => ∃ y : Option V, σ = [some (.ref ab), some (.ref p), some (.int n), some (.ref aw), some (.ref a1), some (.ref a2), some (.ref a3), some (.int sn), y] ∧ Kp (N3 a1 a2 a3) H H' ∧
      Laid H' a1 a2 a3 ⟨m.st, ((((ws.getD n []).getD sn []).take i).foldl (sendM ws.length) (bump m.wt n (-1), m.hd)).1, ((((ws.getD n []).getD sn []).take i).foldl (sendM ws.length) (bump m.wt n (-1), m.hd)).2⟩) ⟨none, rfl, k1, l1⟩ (fun i σ H' _ pp => ?_) (fun i x σ H' hx pp => ?_) (fun σ H' pp => ?_)
    · obtain ⟨y, _, k', _⟩ := pp
      exact SqT.of (la.kt k' _ _ ees)
    · obtain ⟨y, rfl, k', l'⟩ := pp
      rw [List.getElem?_map] at hx
      cases ex : ((ws.getD n []).getD sn [])[i]? with
      | none => rw [ex] at hx; cases hx
      | some e =>
        rw [ex] at hx
        cases hx
        obtain ⟨e0, e1⟩ := eok.2 e (List.mem_of_getElem? ex)
        obtain ⟨sl1, sl2⟩ := send_len ws.length (((ws.getD n []).getD sn []).take i) (bump m.wt n (-1), m.hd)
        rw [bump_len] at sl1
        have tk : ((ws.getD n []).getD sn []).take (i + 1) = ((ws.getD n []).getD sn []).take i ++ [e] := by rw [List.take_add_one, ex]; rfl
        have fold1 : (((ws.getD n []).getD sn []).take (i + 1)).foldl (sendM ws.length) (bump m.wt n (-1), m.hd) = sendM ws.length ((((ws.getD n []).getD sn []).take i).foldl (sendM ws.length) (bump m.wt n (-1), m.hd)) e := by rw [tk, List.foldl_append]; rfl
        rw [fold1]
        generalize (((ws.getD n []).getD sn []).take i).foldl (sendM ws.length) (bump m.wt n (-1), m.hd) = pr at l' sl1 sl2 ⊢
        obtain ⟨pw, ph⟩ := pr
        have sl1' : pw.length = m.wt.length := sl1
        have sl2' : ph.length = m.hd.length := sl2
        have ew' := la.kt k' _ _ ew
        obtain ⟨en, rfl⟩ : ∃ en : Nat, e = (en : Int) := ⟨e.toNat, by omega⟩
        refine ⟨.int en, rfl, .ref aw, rfl, aw, ys, rfl, .inr (SqT.of ew'), en, _, rfl, rfl, _, rfl, ite2 (fun g => ?_) (fun g => ?_)⟩
        · have g' : (en : Int) < (ws.length : Int) := by rw [← hl]; exact of_decide_eq_true g
          have hs : sendM ws.length (pw, ph) en = (bump pw en 1, ph) := by
            unfold sendM
            rw [if_pos g']
            rfl
          rw [hs]
          refine ⟨.ref a2, rfl, .int en, rfl, a2, _, en, _, rfl, rfl, SqL.of l'.w, getI (show en < pw.length by omega), _, _, rfl, rfl, a2, _, en, en, rfl, rfl, l'.w, ixN_nat (by rw [List.length_map]; show en < pw.length; omega), ?_⟩
          rw [setI]
          exact ⟨some (.int en), rfl, k'.trans (Kp.put (.inr (.inl rfl))), ⟨by rw [upd_ne l'.nab]; exact l'.s, upd_same, by rw [upd_ne l'.nbc.symm]; exact l'.h, l'.nab, l'.nac, l'.nbc⟩⟩
        · have g' : ¬ (en : Int) < (ws.length : Int) := by rw [← hl]; exact fun z => g (decide_eq_true z)
          have hs : sendM ws.length (pw, ph) en = (pw, bump ph (en - ws.length) 1) := by
            unfold sendM
            rw [if_neg g', show ((en : Int) - (ws.length : Int)).toNat = en - ws.length by omega]
          rw [hs]
          have ei : (en : Int) - (ys.length : Int) = ((en - ws.length : Nat) : Int) := by omega
          refine ⟨.ref a3, rfl, .int en, rfl, .ref aw, rfl, aw, ys, rfl, .inr (SqT.of ew'), _, _, rfl, rfl, a3, _, en - ws.length, _, rfl, congrArg V.int ei, SqL.of l'.h, getI (show en - ws.length < ph.length by omega), _, _, rfl, rfl, a3, _, _, en - ws.length, rfl, congrArg V.int ei, l'.h, ixN_nat (by rw [List.length_map]; show en - ws.length < ph.length; omega), ?_⟩
          rw [setI]
          exact ⟨some (.int en), rfl, k'.trans (Kp.put (.inr (.inr rfl))), ⟨by rw [upd_ne l'.nac]; exact l'.s, by rw [upd_ne l'.nbc]; exact l'.w, upd_same, l'.nab, l'.nac, l'.nbc⟩⟩
    · -- stand[wheel] = ..
      obtain ⟨y, rfl, k', l'⟩ := pp
      rw [List.length_map, List.take_length] at l'
      have ew' := la.kt k' _ _ ew
      have ez' := la.kt k' _ _ ez
      refine ⟨.int sn, rfl, sn, 1, rfl, rfl, .ref aw, rfl, .int n, rfl, aw, _, n, _, rfl, rfl, SqT.of ew', atI_nat ey, az, zs, rfl, .inr (SqT.of ez'), _, _, rfl, rfl, by omega, .ref a1, rfl, .int n, rfl, a1, _, n, n, rfl, rfl, l'.s, ixN_nat (by rw [List.length_map]; show n < m.st.length; rw [mf.sl]; exact hn), ?_⟩
      rw [setI, hzl]
      refine q _ (k'.trans (Kp.put (.inl rfl))) ⟨?_, by rw [upd_ne l'.nab.symm]; unfold handleM sentM; rw [hends]; exact l'.w, by rw [upd_ne l'.nac.symm]; unfold handleM sentM; rw [hends]; exact l'.h, l'.nab, l'.nac, l'.nbc⟩
      rw [upd_same]
      unfold handleM
      rw [hst]
end
end K07

set_option maxRecDepth 100000
set_option maxHeartbeats 1000000
namespace K07
open PySem PySem.Spec PyProof.Rows L2 HX
abbrev s_need_moment : Stmt := topS 20
theorem sc_need_moment : FnScope ["board", "thing"] ["board", "thing"] (defScope s_need_moment) := ⟨rfl, rfl, rfl, by decide +kernel, rfl, by decide +kernel, by decide +kernel⟩
abbrev s_is_wheel_number : Stmt := topS 21
theorem sc_is_wheel_number : FnScope ["board", "thing"] ["board", "thing"] (defScope s_is_wheel_number) := ⟨rfl, rfl, rfl, by decide +kernel, rfl, by decide +kernel, by decide +kernel⟩
abbrev s_loosened : Stmt := topS 23
theorem sc_loosened : FnScope ["moment", "stand", "waiting", "held"] ["moment"] (defScope s_loosened) := ⟨rfl, rfl, rfl, by decide +kernel, rfl, by decide +kernel, by decide +kernel⟩
abbrev s_fastened : Stmt := topS 24
theorem sc_fastened : FnScope ["stand", "waiting", "held"] ["stand", "waiting", "held"] (defScope s_fastened) := ⟨rfl, rfl, rfl, by decide +kernel, rfl, by decide +kernel, by decide +kernel⟩
abbrev s_is_row : Stmt := topS 26
theorem sc_is_row : FnScope ["board", "thing", "wheel"] ["board", "thing"] (defScope s_is_row) := ⟨rfl, rfl, rfl, by decide +kernel, rfl, by decide +kernel, by decide +kernel⟩
abbrev s_need_row : Stmt := topS 27
theorem sc_need_row : FnScope ["board", "thing"] ["board", "thing"] (defScope s_need_row) := ⟨rfl, rfl, rfl, by decide +kernel, rfl, by decide +kernel, by decide +kernel⟩
abbrev s_walked : Stmt := topS 28
theorem sc_walked : FnScope ["board", "moment", "row", "stand", "waiting", "held", "place", "wheel"] ["board", "moment", "row"] (defScope s_walked) := ⟨rfl, rfl, rfl, by decide +kernel, rfl, by decide +kernel, by decide +kernel⟩
abbrev s_behind : Stmt := topS 29
theorem sc_behind : FnScope ["board", "moment", "row", "place", "last"] ["board", "moment", "row"] (defScope s_behind) := ⟨rfl, rfl, rfl, by decide +kernel, rfl, by decide +kernel, by decide +kernel⟩
def moD (m : Mo) : PyData := momD m.st m.wt m.hd
theorem nums_true {n : Int} {l : List Int} (hl : (l.length : Int) = n) (hn : ∀ x ∈ l, 0 ≤ x) : numsB n (stepD l) = true := by
  have e1 : partsB (stepD l) n n = true := by
    show (decide (n ≤ ((l.map PyData.int).length : Int)) && decide (((l.map PyData.int).length : Int) ≤ n)) = true
    rw [List.length_map, Bool.and_eq_true, decide_eq_true_eq, decide_eq_true_eq]
    omega
  show (partsB (stepD l) n n && (l.map PyData.int).all natB) = true
  rw [e1, Bool.true_and, List.all_map, List.all_eq_true]
  intro x hx
  exact decide_eq_true (hn x hx)
theorem stand_true {ws : List (List (List Int))} {st : List Int} (hl : st.length = ws.length) (hr : ∀ (i : Nat) (s : Int) (w : List (List Int)), st[i]? = some s → ws[i]? = some w → 0 ≤ s ∧ s < (w.length : Int)) : standB ws (stepD st) = true := by
  have e1 : partsB (stepD st) ws.length ws.length = true := by
    show (decide ((ws.length : Int) ≤ ((st.map PyData.int).length : Int)) && decide (((st.map PyData.int).length : Int) ≤ ws.length)) = true
    rw [List.length_map, Bool.and_eq_true, decide_eq_true_eq, decide_eq_true_eq]
    omega
  show (partsB (stepD st) ws.length ws.length && (List.range ws.length).all (atB (st.map PyData.int) ws)) = true
  rw [e1, Bool.true_and, List.all_eq_true]
  intro i hi
  have hi' : i < ws.length := List.mem_range.mp hi
  have e2 : ws[i]? = some ws[i] := List.getElem?_eq_getElem hi'
  have e3 : st[i]? = some (st[i]'(by omega)) := List.getElem?_eq_getElem (by omega)
  obtain ⟨h0, h1⟩ := hr i _ _ e3 e2
  unfold atB
  rw [List.getElem?_map, e2, e3]
  show (decide ((0 : Int) ≤ _) && decide (_ ≤ _)) = true
  rw [Bool.and_eq_true, decide_eq_true_eq, decide_eq_true_eq]
  omega
theorem moOk_B {ws : List (List (List Int))} {c : Int} {m : Mo} (h : MoOk ws c m) : momentB ws c (moD m) = true := by
  show (standB ws (stepD m.st) && (numsB ws.length (stepD m.wt) && numsB c (stepD m.hd))) = true
  rw [stand_true h.sl h.sr, nums_true (by rw [h.wl]) h.wn, nums_true h.hl h.hn]
  rfl
theorem Td.daF {H : Hp} {v : V} {d : PyData} (h : Td H v d) : Da (fun _ => False) H v d := Td.da (fun _ _ _ z => z) _ _ h
theorem moD_of {H : Hp} {v : V} {m : Mo} (h : Td H v (moD m)) : ∃ T b1 b2 b3, v = .ref T ∧ H T = some (.tup [.ref b1, .ref b2, .ref b3]) ∧ H b1 = some (.tup (m.st.map V.int)) ∧ H b2 = some (.tup (m.wt.map V.int)) ∧ H b3 = some (.tup (m.hd.map V.int)) := by
  have num : ∀ (ns : List Int) (vs : List V), TdAll H vs (ns.map PyData.int) → vs = ns.map V.int := by
    intro ns
    induction ns with
    | nil => intro vs h; cases h; rfl
    | cons n ns ih =>
      intro vs h
      cases h with
      | cons h1 h2 => rw [h1.intOf, ih _ h2]; rfl
  obtain ⟨T, xs, rfl, eT, hx⟩ := Td.tupOf h
  cases hx with
  | @cons v1 _ _ _ h1 hx =>
  cases hx with
  | @cons v2 _ _ _ h2 hx =>
  cases hx with
  | @cons v3 _ _ _ h3 hx =>
  cases hx
  obtain ⟨b1, y1, rfl, e1, g1⟩ := Td.tupOf h1
  obtain ⟨b2, y2, rfl, e2, g2⟩ := Td.tupOf h2
  obtain ⟨b3, y3, rfl, e3, g3⟩ := Td.tupOf h3
  rw [num _ _ g1] at e1
  rw [num _ _ g2] at e2
  rw [num _ _ g3] at e3
  exact ⟨T, b1, b2, b3, rfl, eT, e1, e2, e3⟩
/-- as far as the row is let -/
def walkM (ws : List (List (List Int))) : Nat → Mo → List Nat → Option Nat × Mo
  | _, m, [] => (none, m)
  | i, m, n :: r => if m.wt.getD n 0 = 0 then (some i, m) else walkM ws (i + 1) (handleM ws m n) r
def placeV : Option Nat → V
  | none => .non
  | some i => .int (i : Int)
section
variable {P : Program} {w : World} {K : PySem.W.Frag} {mg : Str → Option Value} {base : Heap} {k : Nat}
def spNeedMom : Sp := fun vs H Q _ => ∃ (vb v : V) (ws : List (List (List Int))) (c : Int) (m : Mo), vs = [vb, v] ∧ Td H vb (boardD ws c) ∧ BoardOk ws c ∧ Td H v (moD m) ∧ MoOk ws c m ∧ ∀ H', Same H H' → Q .non H'
theorem ok_need_moment (D : Def K mg "need_moment" s_need_moment ["board", "thing"]) (c_is_moment : Cal P w K mg base k "is_moment" ["board", "thing"] spMom) : Cal P w K mg base (k + 1) "need_moment" ["board", "thing"] spNeedMom := by
  refine D.ok sc_need_moment (fun vs H Q E h => ?_) (fun f cdv A outer s H vs Q E hr h => ?_)
  · obtain ⟨vb, v, ws, c, m, rfl, _⟩ := h
    rfl
  · obtain ⟨vb, v, ws, c, m, rfl, tb, bok, tv, mok, q⟩ := h
    refine ⟨_, (pss_one (ps_if (pt_not (pt_val (pe_cal c_is_moment hr rfl (pa_cons (pv 0) (pa_cons (pv 1) pa_nil)))))
  (pss_one ps_never)
  pss_nil)), ?_⟩
    refine ⟨vb, rfl, v, rfl, _, _, vb, v, ws, c, _, rfl, Td.daF tb, bok, Td.daF tv, fun H' s' => ⟨_, rfl, ?_⟩⟩
    rw [moOk_B mok]
    exact iteF (q H' s')
def spWheelNo : Sp := fun vs H Q _ => ∃ (vb v : V) (ws : List (List (List Int))) (c : Int) (d : PyData), vs = [vb, v] ∧ Td H vb (boardD ws c) ∧ Da (fun _ => False) H v d ∧ Q (.bl (withinB d 0 ((ws.length : Int) - 1))) H
theorem ok_is_wheel_number (D : Def K mg "is_wheel_number" s_is_wheel_number ["board", "thing"]) (B : Bi mg) (c_is_within : Cal P w K mg base k "is_within" ["thing", "least", "most"] spWithin) : Cal P w K mg base (k + 1) "is_wheel_number" ["board", "thing"] spWheelNo := by
  refine D.ok sc_is_wheel_number (fun vs H Q E h => ?_) (fun f cdv A outer s H vs Q E hr h => ?_)
  · obtain ⟨vb, v, ws, c, d, rfl, _⟩ := h
    rfl
  · obtain ⟨vb, v, ws, c, d, rfl, tb, hd, q⟩ := h
    refine ⟨_, (pss_one (ps_ret (pe_cal c_is_within hr rfl (pa_cons (pv 1) (pa_cons pe_int (pa_cons (pe_op op_sub (pe_callB call_len_seq rfl B.len_ (by decide +kernel) (pa_cons (pe_ix ix_tup (pv 0) pe_int (fun _ _ => rfl)) pa_nil)) pe_int) pa_nil)))))), ?_⟩
    obtain ⟨ab, aw, ys, rfl, eb, ew, hy⟩ := Td.boardOf tb
    have hl : ys.length = ws.length := by rw [hy.len, List.length_map]
    refine ⟨v, rfl, .ref ab, rfl, ab, _, 0, _, rfl, rfl, SqT.of eb, atI_nat (j := 0) rfl, aw, ys, rfl, .inr (SqT.of ew), _, 1, rfl, rfl, _, v, d, 0, _, rfl, hd, ?_⟩
    rw [hl]
    exact q
def spIsRow : Sp := fun vs H Q _ => ∃ (vb : V) (r : Addr) (ws : List (List (List Int))) (c : Int) (row : List Nat), vs = [vb, .ref r] ∧ Td H vb (boardD ws c) ∧ RowAt H r row ∧ row.length ≤ 1000 ∧ (∀ n ∈ row, n < ws.length) ∧ ∀ H', Same H H' → Q (.bl true) H'
theorem ok_is_row (D : Def K mg "is_row" s_is_row ["board", "thing"]) (B : Bi mg) (c_is_wheel_number : Cal P w K mg base k "is_wheel_number" ["board", "thing"] spWheelNo) : Cal P w K mg base (k + 1) "is_row" ["board", "thing"] spIsRow := by
  refine D.ok sc_is_row (fun vs H Q E h => ?_) (fun f cdv A outer s H vs Q E hr h => ?_)
  · obtain ⟨vb, r, ws, c, row, rfl, _⟩ := h
    rfl
  · obtain ⟨vb, r, ws, c, row, rfl, tb, er, hz, hrow, q⟩ := h
    refine ⟨_, (pss_one (ps_ret (pe_and (pe_callB call_isi rfl B.isinstance_ (by decide +kernel) (pa_cons (pv 1) (pa_cons (pe_bltn (v := .ty "tuple") (u := .type "tuple") rfl B.tuple_ (by decide +kernel) rfl) pa_nil))) (pe_one (pe_callB (cr_all rfl) rfl B.all_ (by decide +kernel) (pa_cons (pe_lc (own := [("wheel", 2)]) rfl sc_is_row.nd (pi_tup (pv 1)) (blkOk_by (N := ["board", "thing", "wheel"]) (sc := defScope s_is_row) (by decide +kernel)) (fun _ _ _ _ _ => (pg_name (i := 2) sc_is_row.nd rfl (Or.inl rfl))) (fun _ _ _ _ _ => pts_nil) (fun _ _ _ _ _ => (pe_cal c_is_wheel_number hr rfl (pa_cons (pv 0) (pa_cons (pv 2) pa_nil))))) pa_nil)))))), ?_⟩
    refine ⟨.ref r, rfl, .ref r, .ty "tuple", _, .type "tuple", _, rfl, .ty "tuple", er.ty, kit_ty (kit_tuple (.tuple [])), true, rfl, ?_⟩
    refine iteT ?_
    refine read_allR (fun n => withinB (.int (n : Int)) 0 ((ws.length : Int) - 1)) rfl er hz (fun n H' s' Q' q' => ?_) fun H' s' => ?_
    · exact ⟨vb, rfl, .int (n : Int), rfl, vb, _, ws, c, .int (n : Int), rfl, Td.mono (KT.same s') _ _ tb, .int _, q' H' (Same.refl H')⟩
    · have e : row.all (fun n => withinB (.int (n : Int)) 0 ((ws.length : Int) - 1)) = true := by
        rw [List.all_eq_true]
        intro n hn
        have := hrow n hn
        show (decide ((0 : Int) ≤ (n : Int)) && decide ((n : Int) ≤ _)) = true
        rw [Bool.and_eq_true, decide_eq_true_eq, decide_eq_true_eq]
        omega
      rw [e]
      exact q H' s'
def spNeedRow : Sp := fun vs H Q _ => ∃ (vb : V) (r : Addr) (ws : List (List (List Int))) (c : Int) (row : List Nat), vs = [vb, .ref r] ∧ Td H vb (boardD ws c) ∧ RowAt H r row ∧ row.length ≤ 1000 ∧ (∀ n ∈ row, n < ws.length) ∧ ∀ H', Same H H' → Q .non H'
theorem ok_need_row (D : Def K mg "need_row" s_need_row ["board", "thing"]) (c_is_row : Cal P w K mg base k "is_row" ["board", "thing"] spIsRow) : Cal P w K mg base (k + 1) "need_row" ["board", "thing"] spNeedRow := by
  refine D.ok sc_need_row (fun vs H Q E h => ?_) (fun f cdv A outer s H vs Q E hr h => ?_)
  · obtain ⟨vb, r, ws, c, row, rfl, _⟩ := h
    rfl
  · obtain ⟨vb, r, ws, c, row, rfl, tb, er, hz, hrow, q⟩ := h
    refine ⟨_, (pss_one (ps_if (pt_not (pt_val (pe_cal c_is_row hr rfl (pa_cons (pv 0) (pa_cons (pv 1) pa_nil)))))
  (pss_one ps_never)
  pss_nil)), ?_⟩
    refine ⟨vb, rfl, .ref r, rfl, vb, r, ws, c, row, rfl, tb, er, hz, hrow, fun H' s' => ⟨_, rfl, ?_⟩⟩
    exact iteF (q H' s')
/-! ### loosened, fastened -/
def spLoose : Sp := fun vs H Q _ => ∃ (v : V) (m : Mo), vs = [v] ∧ Td H v (moD m) ∧ ∀ (T a1 a2 a3 : Addr) (H' : Hp), Same H H' → H' T = some (.tup [.ref a1, .ref a2, .ref a3]) → Laid H' a1 a2 a3 m → H a1 = none → H a2 = none → H a3 = none → Q (.ref T) H'
theorem ok_loosened (D : Def K mg "loosened" s_loosened ["moment"]) (B : Bi mg) : Cal P w K mg base (k + 1) "loosened" ["moment"] spLoose := by
  refine D.ok sc_loosened (fun vs H Q E h => ?_) (fun f cdv A outer s H vs Q E hr h => ?_)
  · obtain ⟨v, m, rfl, _⟩ := h
    rfl
  · obtain ⟨v, m, rfl, tv, q⟩ := h
    refine ⟨_, (pss_cons (ps_asg (pv 0) (pg_tup rfl (pgs_cons (pg_name (i := 1) sc_loosened.nd rfl (Or.inl rfl)) (pgs_cons (pg_name (i := 2) sc_loosened.nd rfl (Or.inl rfl)) (pgs_cons (pg_name (i := 3) sc_loosened.nd rfl (Or.inl rfl)) pgs_nil)))))
  (pss_one (ps_ret (pe_tup (pa_cons (pe_callTy call_list_of rfl B.list_ (by decide +kernel) (pa_cons (pv 1) pa_nil)) (pa_cons (pe_callTy call_list_of rfl B.list_ (by decide +kernel) (pa_cons (pv 2) pa_nil)) (pa_cons (pe_callTy call_list_of rfl B.list_ (by decide +kernel) (pa_cons (pv 3) pa_nil)) pa_nil))))))), ?_⟩
    obtain ⟨T, b1, b2, b3, rfl, eT, e1, e2, e3⟩ := moD_of tv
    refine ⟨.ref T, rfl, T, _, rfl, SqT.of eT, rfl, _, _, rfl, _, _, rfl, _, _, rfl, rfl, ?_⟩
    refine ⟨.ref b1, rfl, b1, _, rfl, .inr (SqT.of e1), fun a1 n1 => ?_⟩
    have s1 : Same H (upd H a1 (.lst (m.st.map V.int))) := Same.new n1
    have f1 : (upd H a1 (.lst (m.st.map V.int))) a1 = some (.lst (m.st.map V.int)) := upd_same
    generalize upd H a1 (.lst (m.st.map V.int)) = H1 at s1 f1 ⊢
    refine ⟨.ref b2, rfl, b2, _, rfl, .inr (SqT.of (s1 _ _ e2)), fun a2 n2 => ?_⟩
    have s2 : Same H1 (upd H1 a2 (.lst (m.wt.map V.int))) := Same.new n2
    have f2 : (upd H1 a2 (.lst (m.wt.map V.int))) a2 = some (.lst (m.wt.map V.int)) := upd_same
    generalize upd H1 a2 (.lst (m.wt.map V.int)) = H2 at s2 f2 ⊢
    refine ⟨.ref b3, rfl, b3, _, rfl, .inr (SqT.of (s2 _ _ (s1 _ _ e3))), fun a3 n3 => ?_⟩
    have s3 : Same H2 (upd H2 a3 (.lst (m.hd.map V.int))) := Same.new n3
    have f3 : (upd H2 a3 (.lst (m.hd.map V.int))) a3 = some (.lst (m.hd.map V.int)) := upd_same
    generalize upd H2 a3 (.lst (m.hd.map V.int)) = H3 at s3 f3 ⊢
    refine ⟨by show 3 ≤ sizeLine; decide, fun U nU => ?_⟩
    have s4 : Same H3 (upd H3 U (.tup [.ref a1, .ref a2, .ref a3])) := Same.new nU
    have none_of : ∀ {Ha Hb : Hp} {x : Addr}, Same Ha Hb → Hb x = none → Ha x = none := fun {Ha Hb x} ss e => by
      cases e' : Ha x with
      | none => rfl
      | some o => rw [ss _ _ e'] at e; cases e
    refine q U a1 a2 a3 _ (s1.trans (s2.trans (s3.trans s4))) upd_same ⟨s4 _ _ (s3 _ _ (s2 _ _ f1)), s4 _ _ (s3 _ _ f2), s4 _ _ f3, ?_, ?_, ?_⟩ n1 (none_of s1 n2) (none_of s1 (none_of s2 n3))
    · exact ne_of_none f1 n2
    · exact ne_of_none (s2 _ _ f1) n3
    · exact ne_of_none f2 n3
def spFast : Sp := fun vs H Q _ => ∃ (a1 a2 a3 : Addr) (m : Mo), vs = [.ref a1, .ref a2, .ref a3] ∧ Laid H a1 a2 a3 m ∧ ∀ (v : V) (H' : Hp), Same H H' → Td H' v (moD m) → Q v H'
theorem ok_fastened (D : Def K mg "fastened" s_fastened ["stand", "waiting", "held"]) (B : Bi mg) : Cal P w K mg base (k + 1) "fastened" ["stand", "waiting", "held"] spFast := by
  refine D.ok sc_fastened (fun vs H Q E h => ?_) (fun f cdv A outer s H vs Q E hr h => ?_)
  · obtain ⟨a1, a2, a3, m, rfl, _⟩ := h
    rfl
  · obtain ⟨a1, a2, a3, m, rfl, la, q⟩ := h
    refine ⟨_, (pss_one (ps_ret (pe_tup (pa_cons (pe_callTy call_tuple_of rfl B.tuple_ (by decide +kernel) (pa_cons (pv 0) pa_nil)) (pa_cons (pe_callTy call_tuple_of rfl B.tuple_ (by decide +kernel) (pa_cons (pv 1) pa_nil)) (pa_cons (pe_callTy call_tuple_of rfl B.tuple_ (by decide +kernel) (pa_cons (pv 2) pa_nil)) pa_nil)))))), ?_⟩
    refine ⟨.ref a1, rfl, a1, _, rfl, .inl ⟨SqL.of la.s, fun T1 n1 => ?_⟩⟩
    have s1 : Same H (upd H T1 (.tup (m.st.map V.int))) := Same.new n1
    have f1 : (upd H T1 (.tup (m.st.map V.int))) T1 = some (.tup (m.st.map V.int)) := upd_same
    generalize upd H T1 (.tup (m.st.map V.int)) = H1 at s1 f1 ⊢
    refine ⟨.ref a2, rfl, a2, _, rfl, .inl ⟨SqL.of (s1 _ _ la.w), fun T2 n2 => ?_⟩⟩
    have s2 : Same H1 (upd H1 T2 (.tup (m.wt.map V.int))) := Same.new n2
    have f2 : (upd H1 T2 (.tup (m.wt.map V.int))) T2 = some (.tup (m.wt.map V.int)) := upd_same
    generalize upd H1 T2 (.tup (m.wt.map V.int)) = H2 at s2 f2 ⊢
    refine ⟨.ref a3, rfl, a3, _, rfl, .inl ⟨SqL.of (s2 _ _ (s1 _ _ la.h)), fun T3 n3 => ?_⟩⟩
    have s3 : Same H2 (upd H2 T3 (.tup (m.hd.map V.int))) := Same.new n3
    have f3 : (upd H2 T3 (.tup (m.hd.map V.int))) T3 = some (.tup (m.hd.map V.int)) := upd_same
    generalize upd H2 T3 (.tup (m.hd.map V.int)) = H3 at s3 f3 ⊢
    refine ⟨by show 3 ≤ sizeLine; decide, fun U nU => q (.ref U) _ (s1.trans (s2.trans (s3.trans (Same.new nU)))) ?_⟩
    exact Td.new nU (.cons (.tup (s3 _ _ (s2 _ _ f1)) (TdAll.ints _)) (.cons (.tup (s3 _ _ f2) (TdAll.ints _)) (.cons (.tup f3 (TdAll.ints _)) .nil)))
end
end K07

set_option maxRecDepth 100000
set_option maxHeartbeats 1000000
namespace K07
open PySem PySem.Spec PyProof.Rows L2 HX
theorem walkM_nil {ws : List (List (List Int))} {i : Nat} {m : Mo} : walkM ws i m [] = (none, m) := rfl
theorem walkM_stop {ws : List (List (List Int))} {i n : Nat} {m : Mo} {r : List Nat} (h : m.wt.getD n 0 = 0) : walkM ws i m (n :: r) = (some i, m) := if_pos h
theorem walkM_go {ws : List (List (List Int))} {i n : Nat} {m : Mo} {r : List Nat} (h : ¬ m.wt.getD n 0 = 0) : walkM ws i m (n :: r) = walkM ws (i + 1) (handleM ws m n) r := if_neg h
theorem Same.kp3 {H H1 H2 : Hp} {a b c : Addr} (s : Same H H1) (k : Kp (N3 a b c) H1 H2) (na : H a = none) (nb : H b = none) (nc : H c = none) : Same H H2 := fun x o e => k _ _ (s _ _ e) fun z => by
  rcases z with rfl | rfl | rfl
  · rw [na] at e; cases e
  · rw [nb] at e; cases e
  · rw [nc] at e; cases e
theorem Laid.same {H H' : Hp} {a b c : Addr} {m : Mo} (l : Laid H a b c m) (s : Same H H') : Laid H' a b c m := ⟨s _ _ l.s, s _ _ l.w, s _ _ l.h, l.nab, l.nac, l.nbc⟩
section
variable {P : Program} {w : World} {K : PySem.W.Frag} {mg : Str → Option Value} {base : Heap} {k : Nat}
def spWalk : Sp := fun vs H Q _ => ∃ (vb v : V) (r : Addr) (ws : List (List (List Int))) (c : Int) (m : Mo) (row : List Nat), vs = [vb, v, .ref r] ∧ Td H vb (boardD ws c) ∧ BoardOk ws c ∧ Td H v (moD m) ∧ MoOk ws c m ∧ RowAt H r row ∧ (∀ n ∈ row, n < ws.length) ∧
  ∀ (U : Addr) (vm : V) (H' : Hp), Same H H' → H' U = some (.tup [placeV (walkM ws 0 m row).1, vm]) → Td H' vm (moD (walkM ws 0 m row).2) → MoOk ws c (walkM ws 0 m row).2 → Q (.ref U) H'
theorem ok_walked (D : Def K mg "walked" s_walked ["board", "moment", "row"]) (B : Bi mg) (B2 : Bi2 mg) (c_loosened : Cal P w K mg base k "loosened" ["moment"] spLoose) (c_fastened : Cal P w K mg base k "fastened" ["stand", "waiting", "held"] spFast)
    (c_handle_marble : Cal P w K mg base k "handle_marble" ["board", "parts", "wheel"] spHandle) : Cal P w K mg base (k + 1) "walked" ["board", "moment", "row"] spWalk := by
  refine D.ok sc_walked (fun vs H Q E h => ?_) (fun f cdv A outer s H vs Q E hr h => ?_)
  · obtain ⟨vb, v, r, ws, c, m, row, rfl, _⟩ := h
    rfl
  · obtain ⟨vb, v, r, ws, c, m, row, rfl, tb, bok, tv, mok, er, hrow, q⟩ := h
    refine ⟨_, (pss_cons (ps_asg (pe_cal c_loosened hr rfl (pa_cons (pv 1) pa_nil)) (pg_tup rfl (pgs_cons (pg_name (i := 3) sc_walked.nd rfl (Or.inl rfl)) (pgs_cons (pg_name (i := 4) sc_walked.nd rfl (Or.inl rfl)) (pgs_cons (pg_name (i := 5) sc_walked.nd rfl (Or.inl rfl)) pgs_nil)))))
  (pss_cons (ps_for PassesOwn.never rfl (pi_enumT rfl B2.enumerate_ (pa_cons (pv 2) pa_nil)) (pg_tup rfl (pgs_cons (pg_name (i := 6) sc_walked.nd rfl (Or.inl rfl)) (pgs_cons (pg_name (i := 7) sc_walked.nd rfl (Or.inl rfl)) pgs_nil)))
  (pss_cons (ps_if (pt_cmpR op_eq (pe_ix ix_list (pv 4) (pv 7) (fun _ _ => rfl)) pe_int (nomark _))
  (pss_one (ps_ret (pe_tup (pa_cons (pv 6) (pa_cons (pe_cal c_fastened hr rfl (pa_cons (pv 3) (pa_cons (pv 4) (pa_cons (pv 5) pa_nil)))) pa_nil)))))
  pss_nil)
  (pss_one (ps_expr (pe_cal c_handle_marble hr rfl (pa_cons (pv 0) (pa_cons (pe_tup (pa_cons (pv 3) (pa_cons (pv 4) (pa_cons (pv 5) pa_nil)))) (pa_cons (pv 7) pa_nil))))))))
  (pss_one (ps_ret (pe_tup (pa_cons pe_non (pa_cons (pe_cal c_fastened hr rfl (pa_cons (pv 3) (pa_cons (pv 4) (pa_cons (pv 5) pa_nil)))) pa_nil))))))), ?_⟩
    have w1 : ∀ x ∈ ws, 1 ≤ x.length := fun x hx => (bok.wheels x hx).1
    refine ⟨v, rfl, v, m, rfl, tv, fun T a1 a2 a3 H1 s1 eT la n1 n2 n3 => ?_⟩
    refine ⟨T, _, rfl, SqT.of eT, rfl, _, _, rfl, _, _, rfl, _, _, rfl, rfl, ?_⟩
    refine ⟨.ref r, rfl, .t, r, _, rfl, (er.same s1).sq, ?_⟩
    refine for_it (walk_enumK (xs := rowV row)) (fun i σ H' => ∃ (mi : Mo) (y6 y7 : Option V), σ = [some vb, some v, some (.ref r), some (.ref a1), some (.ref a2), some (.ref a3), y6, y7] ∧ Same H H' ∧ Laid H' a1 a2 a3 mi ∧ MoOk ws c mi ∧ walkM ws 0 m row = walkM ws i mi (row.drop i)) ⟨m, none, none, rfl, s1, la, mok, rfl⟩ (fun i σ H' _ pp => ?_) (fun i x σ H' H2 hi pp y => ?_) (fun σ H' pp => ?_)
    · obtain ⟨mi, y6, y7, _, s', _⟩ := pp
      exact (er.same s').sq
    · obtain ⟨mi, y6, y7, rfl, s', l', mk', eW⟩ := pp
      obtain ⟨U, xi, xn, rfl, nU, rfl, ei, en⟩ := y
      obtain rfl := Option.some.inj ei
      have hi' : i < row.length := by
        have h := hi
        unfold rowV at h
        rw [List.length_map] at h
        exact h
      have en' : xn = .int ((row[i] : Nat) : Int) := by
        have e2 : (rowV row)[i]? = some (.int ((row[i] : Nat) : Int)) := by
          unfold rowV
          rw [List.getElem?_map, List.getElem?_eq_getElem hi']
          rfl
        exact Option.some.inj (en.symm.trans e2)
      subst en'
      have hn : row[i] < ws.length := hrow _ (List.getElem_mem hi')
      have hdrop : row.drop i = row[i] :: row.drop (i + 1) := List.drop_eq_getElem_cons hi'
      rw [hdrop] at eW
      generalize row[i] = n at hn eW en ⊢
      have sU : Same H' (upd H' U (.tup [.int (i : Nat), .int (n : Int)])) := Same.new nU
      refine ⟨U, _, rfl, SqT.of upd_same, rfl, _, _, rfl, _, _, rfl, rfl, ?_⟩
      have l2 := Laid.same l' sU
      have s2 := s'.trans sU
      generalize upd H' U (.tup [.int (i : Nat), .int (n : Int)]) = H2 at sU l2 s2 ⊢
      have hwn : n < mi.wt.length := by rw [mk'.wl]; exact hn
      refine ⟨.ref a2, rfl, .int n, rfl, a2, _, n, _, rfl, rfl, SqL.of l2.w, atI_nat (getI hwn), rfl, _, rfl, ite2 (fun g => ?_) (fun g => ?_)⟩
      · have g0 : mi.wt.getD n 0 = 0 := V.int.inj (of_decide_eq_true g)
        rw [walkM_stop g0] at eW
        refine ⟨.int (i : Nat), rfl, .ref a1, rfl, .ref a2, rfl, .ref a3, rfl, a1, a2, a3, mi, rfl, l2, fun vm H4 s4 tm => ⟨by show 2 ≤ sizeLine; decide, fun U2 nU2 => ?_⟩⟩
        refine q U2 vm _ (s2.trans (s4.trans (Same.new nU2))) ?_ ?_ ?_
        · rw [eW, upd_same]
          rfl
        · rw [eW]
          exact Td.mono (KT.new nU2) _ _ tm
        · rw [eW]
          exact mk'
      · have g0 : ¬ mi.wt.getD n 0 = 0 := fun z => g (decide_eq_true (congrArg V.int z))
        rw [walkM_go g0] at eW
        have gp : 0 < mi.wt.getD n 0 := by
          have := getD_nn (i := n) mk'.wn
          omega
        refine ⟨vb, rfl, .ref a1, rfl, .ref a2, rfl, .ref a3, rfl, by show 3 ≤ sizeLine; decide, fun p np => ?_⟩
        have sp : Same H2 (upd H2 p (.tup [.ref a1, .ref a2, .ref a3])) := Same.new np
        refine ⟨.int n, rfl, vb, p, a1, a2, a3, n, ws, c, mi, rfl, Td.mono (KT.same (s2.trans sp)) _ _ tb, bok, upd_same, Laid.same l2 sp, mk'.toMoF, hn, fun H5 k5 l5 => ?_⟩
        exact ⟨handleM ws mi n, some (.int (i : Nat)), some (.int (n : Int)), rfl, Same.kp3 (s2.trans sp) k5 n1 n2 n3, l5, mk'.handle w1 gp, eW⟩
    · obtain ⟨mi, y6, y7, rfl, s', l', mk', eW⟩ := pp
      have hd : row.drop (rowV row).length = [] := by
        unfold rowV
        rw [List.length_map]
        exact List.drop_length ..
      rw [hd, walkM_nil] at eW
      refine ⟨.ref a1, rfl, .ref a2, rfl, .ref a3, rfl, a1, a2, a3, mi, rfl, l', fun vm H4 s4 tm => ⟨by show 2 ≤ sizeLine; decide, fun U2 nU2 => ?_⟩⟩
      refine q U2 vm _ (s'.trans (s4.trans (Same.new nU2))) ?_ ?_ ?_
      · rw [eW, upd_same]
        rfl
      · rw [eW]
        exact Td.mono (KT.new nU2) _ _ tm
      · rw [eW]
        exact mk'
def spBehind : Sp := fun vs H Q _ => ∃ (vb v : V) (r : Addr) (ws : List (List (List Int))) (c : Int) (m : Mo) (row : List Nat), vs = [vb, v, .ref r] ∧ Td H vb (boardD ws c) ∧ BoardOk ws c ∧ Td H v (moD m) ∧ MoOk ws c m ∧ RowAt H r row ∧ row.length ≤ 1000 ∧ (∀ n ∈ row, n < ws.length) ∧
  (walkM ws 0 m row).1 = none ∧ ∀ (vm : V) (H' : Hp), Same H H' → Td H' vm (moD (walkM ws 0 m row).2) → MoOk ws c (walkM ws 0 m row).2 → Q vm H'
theorem ok_behind (D : Def K mg "behind" s_behind ["board", "moment", "row"]) (c_need_moment : Cal P w K mg base k "need_moment" ["board", "thing"] spNeedMom) (c_need_row : Cal P w K mg base k "need_row" ["board", "thing"] spNeedRow)
    (c_walked : Cal P w K mg base k "walked" ["board", "moment", "row"] spWalk) : Cal P w K mg base (k + 1) "behind" ["board", "moment", "row"] spBehind := by
  refine D.ok sc_behind (fun vs H Q E h => ?_) (fun f cdv A outer s H vs Q E hr h => ?_)
  · obtain ⟨vb, v, r, ws, c, m, row, rfl, _⟩ := h
    rfl
  · obtain ⟨vb, v, r, ws, c, m, row, rfl, tb, bok, tv, mok, er, hz, hrow, hno, q⟩ := h
    refine ⟨_, (pss_cons (ps_expr (pe_cal c_need_moment hr rfl (pa_cons (pv 0) (pa_cons (pv 1) pa_nil))))
  (pss_cons (ps_expr (pe_cal c_need_row hr rfl (pa_cons (pv 0) (pa_cons (pv 2) pa_nil))))
  (pss_cons (ps_asg (pe_cal c_walked hr rfl (pa_cons (pv 0) (pa_cons (pv 1) (pa_cons (pv 2) pa_nil)))) (pg_tup rfl (pgs_cons (pg_name (i := 3) sc_behind.nd rfl (Or.inl rfl)) (pgs_cons (pg_name (i := 4) sc_behind.nd rfl (Or.inl rfl)) pgs_nil))))
  (pss_cons (ps_if (pt_cmpR op_notN (pv 3) pe_non (nomark _))
  (pss_one ps_never)
  pss_nil)
  (pss_one (ps_ret (pv 4))))))), ?_⟩
    refine ⟨vb, rfl, v, rfl, vb, v, ws, c, m, rfl, tb, bok, tv, mok, fun H1 s1 => ?_⟩
    refine ⟨vb, rfl, .ref r, rfl, vb, r, ws, c, row, rfl, Td.mono (KT.same s1) _ _ tb, er.same s1, hz, hrow, fun H2 s2 => ?_⟩
    have s12 := s1.trans s2
    refine ⟨vb, rfl, v, rfl, .ref r, rfl, vb, v, r, ws, c, m, row, rfl, Td.mono (KT.same s12) _ _ tb, bok, Td.mono (KT.same s12) _ _ tv, mok, er.same s12, hrow, fun U vm H3 s3 eU tm mk => ?_⟩
    rw [hno] at eU
    refine ⟨U, _, rfl, SqT.of eU, rfl, _, _, rfl, _, _, rfl, rfl, ?_⟩
    refine ⟨.non, rfl, rfl, _, rfl, ?_⟩
    exact iteF ⟨vm, rfl, q vm H3 (s12.trans s3) tm mk⟩
end
end K07

set_option maxRecDepth 100000
set_option maxHeartbeats 1000000
namespace K07
open PySem PySem.Spec PyProof.Rows L2 HX
abbrev s_counts_of : Stmt := topS 30
theorem sc_counts_of : FnScope ["board", "row", "wheel"] ["board", "row"] (defScope s_counts_of) := ⟨rfl, rfl, rfl, by decide +kernel, rfl, by decide +kernel, by decide +kernel⟩
abbrev s__law_pick : Stmt := topS 35
theorem sc__law_pick : FnScope ["_law_pen_here", "_law_some"] ["_law_pen_here", "_law_some"] (defScope s__law_pick) := ⟨rfl, rfl, rfl, by decide +kernel, rfl, by decide +kernel, by decide +kernel⟩
abbrev s__law_handle : Stmt := topS 38
theorem sc__law_handle : FnScope ["_law_board_here", "_law_moment_here", "_law_wheel", "_law_wheels", "_law_cups", "_law_stand", "_law_waiting", "_law_held", "_law_end", "_law_row"] ["_law_board_here", "_law_moment_here", "_law_wheel"] (defScope s__law_handle) := ⟨rfl, rfl, rfl, by decide +kernel, rfl, by decide +kernel, by decide +kernel⟩
abbrev s__law_ready : Stmt := topS 39
theorem sc__law_ready : FnScope ["_law_moment_here", "_law_wheel", "_law_many"] ["_law_moment_here"] (defScope s__law_ready) := ⟨rfl, rfl, rfl, by decide +kernel, rfl, by decide +kernel, by decide +kernel⟩
abbrev s__law_let_row : Stmt := topS 40
theorem sc__law_let_row : FnScope ["_law_pen_here", "_law_board_here", "_law_moment_here", "_law_most", "_law_row", "_law_turn", "_law_some"] ["_law_pen_here", "_law_board_here", "_law_moment_here", "_law_most"] (defScope s__law_let_row) := ⟨rfl, rfl, rfl, by decide +kernel, rfl, by decide +kernel, by decide +kernel⟩
def countsOf (W : Nat) (row : List Nat) : List Int := (List.range W).map fun n => ((row.count n : Nat) : Int)
theorem count_cast (row : List Nat) (n : Nat) : (row.map fun n : Nat => (n : Int)).count (n : Int) = row.count n := by
  induction row with
  | nil => rfl
  | cons a r ih =>
    rw [List.map_cons, List.count_cons, List.count_cons, ih]
    congr 1
    by_cases e : a = n
    · subst e
      simp
    · have : ¬ (a : Int) = (n : Int) := fun z => e (by omega)
      simp [e, this]
def readyM (wt : List Int) : List Nat := (List.range wt.length).filter fun n => decide (wt.getD n 0 > 0)
section
variable {P : Program} {w : World} {K : PySem.W.Frag} {mg : Str → Option Value} {base : Heap} {k : Nat}
def spCounts : Sp := fun vs H Q _ => ∃ (vb : V) (r : Addr) (ws : List (List (List Int))) (c : Int) (row : List Nat), vs = [vb, .ref r] ∧ Td H vb (boardD ws c) ∧ BoardOk ws c ∧ RowF H r row ∧ row.length ≤ 1000 ∧ (∀ n ∈ row, n < ws.length) ∧
  ∀ (T : Addr) (H' : Hp), Same H H' → H' T = some (.tup ((countsOf ws.length row).map V.int)) → Q (.ref T) H'
theorem ok_counts_of (D : Def K mg "counts_of" s_counts_of ["board", "row"]) (B : Bi mg) (c_need_board : Cal P w K mg base k "need_board" ["thing"] spNeed) (c_need_row : Cal P w K mg base k "need_row" ["board", "thing"] spNeedRow) :
    Cal P w K mg base (k + 1) "counts_of" ["board", "row"] spCounts := by
  refine D.ok sc_counts_of (fun vs H Q E h => ?_) (fun f cdv A outer s H vs Q E hr h => ?_)
  · obtain ⟨vb, r, ws, c, row, rfl, _⟩ := h
    rfl
  · obtain ⟨vb, r, ws, c, row, rfl, tb, bok, er, hz, hrow, q⟩ := h
    refine ⟨_, (pss_cons (ps_expr (pe_cal c_need_board hr rfl (pa_cons (pv 0) pa_nil)))
  (pss_cons (ps_expr (pe_cal c_need_row hr rfl (pa_cons (pv 0) (pa_cons (pv 1) pa_nil))))
  (pss_one (ps_ret (pe_callTy call_tuple_of rfl B.tuple_ (by decide +kernel) (pa_cons (pe_lc (own := [("wheel", 2)]) rfl sc_counts_of.nd (pi_range1 rfl B.range_ (pa_cons (pe_callB call_len_seq rfl B.len_ (by decide +kernel) (pa_cons (pe_ix ix_tup (pv 0) pe_int (fun _ _ => rfl)) pa_nil)) pa_nil)) (blkOk_by (N := ["board", "row", "wheel"]) (sc := defScope s_counts_of) (by decide +kernel)) (fun _ _ _ _ _ => (pg_name (i := 2) sc_counts_of.nd rfl (Or.inl rfl))) (fun _ _ _ _ _ => pts_nil) (fun _ _ _ _ _ => (pe_bmT PySem.F.plainAttrs_tuple PySem.F.slot_tuple_count PySem.F.type_tuple_count (mt_tcountK (K := K)) (pv 1) (pa_cons (pv 2) pa_nil)))) pa_nil)))))), ?_⟩
    have w6 := bok.w6
    refine ⟨vb, rfl, _, vb, ws, c, rfl, Td.daF tb, bok, fun H1 s1 => ?_⟩
    refine ⟨vb, rfl, .ref r, rfl, vb, r, ws, c, row, rfl, Td.mono (KT.same s1) _ _ tb, .inr (er.same s1), hz, hrow, fun H2 s2 => ?_⟩
    have s12 := s1.trans s2
    obtain ⟨ab, aw, ys, rfl, eb, ew, hy⟩ := Td.boardOf (Td.mono (KT.same s12) _ _ tb)
    have hl : ys.length = ws.length := by rw [hy.len, List.length_map]
    dsimp only
    refine s_ret (s_cb1 ?_)
    refine lc_intsG (J := Itr 0 ys.length) (n := ys.length) walk_range (fun n => ((row.count n : Nat) : Int)) (fun R r' => ⟨.ref ab, rfl, ab, _, 0, _, rfl, rfl, SqT.of eb, atI_nat (j := 0) rfl, aw, ys, rfl, .inr (SqT.of ew), _, rfl, by omega, by omega, r'⟩) (by omega) (fun _ _ => trivial) (fun i x H3 H4 hi s3 y Q' q' => ?_) (fun D H3 s3 eD nD => ?_)
    · obtain ⟨rfl, rfl⟩ := y
      have er3 := er.same (s12.trans s3)
      obtain ⟨o, od, eo⟩ := id er3
      refine ⟨wipe1 _, .ref r, rfl, ⟨r, o, _, rfl, eo, od⟩, .int (0 + (i : Int)), rfl, r, row.map (fun n : Nat => (n : Int)), (i : Int), rfl, congrArg (fun z => [V.int z]) (Int.zero_add _), ?_, ?_⟩
      · rw [List.map_map]
        exact RowAt.sq (.inr er3)
      · rw [count_cast]
        exact q' _ (Same.refl _)
    · refine ⟨D, _, rfl, .inl ⟨SqL.of eD, fun T nT => ?_⟩⟩
      refine q T _ (s12.trans (s3.trans (Same.new nT))) ?_
      rw [upd_same, hl]
      rfl
def spPick : Sp := fun vs H Q _ => ∃ (pn L : Addr) (xs : List V) (m : Nat), vs = [.ref pn, .ref L] ∧ H L = some (.lst xs) ∧ L ≠ pn ∧ 0 < xs.length ∧ xs.length ≤ 1000 ∧ PenAt H pn (m + 1) ∧ ∀ (i : Nat) (x : V) (H' : Hp), xs[i]? = some x → Kp (· = pn) H H' → PenAt H' pn m → Q x H'
theorem ok_pick (D : Def K mg "_law_pick" s__law_pick ["_law_pen_here", "_law_some"]) (B : Bi mg) (c__law_draw : Cal P w K mg base k "_law_draw" ["_law_pen_here", "_law_many"] spDraw) : Cal P w K mg base (k + 1) "_law_pick" ["_law_pen_here", "_law_some"] spPick := by
  refine D.ok sc__law_pick (fun vs H Q E h => ?_) (fun f cdv A outer s H vs Q E hr h => ?_)
  · obtain ⟨pn, L, xs, m, rfl, _⟩ := h
    rfl
  · obtain ⟨pn, L, xs, m, rfl, eL, nL, x0, x1, pen, q⟩ := h
    refine ⟨_, (pss_one (ps_ret (pe_ix ix_list (pv 1) (pe_cal c__law_draw hr rfl (pa_cons (pv 0) (pa_cons (pe_callB call_len_seq rfl B.len_ (by decide +kernel) (pa_cons (pv 1) pa_nil)) pa_nil))) (fun _ _ => rfl)))), ?_⟩
    refine ⟨.ref L, rfl, .ref pn, rfl, .ref L, rfl, L, xs, rfl, .inl (SqL.of eL), pn, _, m, rfl, by omega, by omega, pen, fun r H1 r0 r1 k1 pen1 => ?_⟩
    obtain ⟨n, rfl⟩ : ∃ n : Nat, r = (n : Int) := ⟨r.toNat, by omega⟩
    have hn : n < xs.length := by omega
    exact ⟨L, xs, n, xs[n], rfl, rfl, SqL.of (k1 _ _ eL nL), atI_nat (List.getElem?_eq_getElem hn), q n _ H1 (List.getElem?_eq_getElem hn) k1 pen1⟩
def spReady : Sp := fun vs H Q _ => ∃ (v : V) (m : Mo), vs = [v] ∧ Td H v (moD m) ∧ m.wt.length ≤ 1000 ∧ ∀ (D : Addr) (H' : Hp), Same H H' → H' D = some (.lst (rowV (readyM m.wt))) → H D = none → Q (.ref D) H'
theorem ok_ready (D : Def K mg "_law_ready" s__law_ready ["_law_moment_here"]) (B2 : Bi2 mg) : Cal P w K mg base (k + 1) "_law_ready" ["_law_moment_here"] spReady := by
  refine D.ok sc__law_ready (fun vs H Q E h => ?_) (fun f cdv A outer s H vs Q E hr h => ?_)
  · obtain ⟨v, m, rfl, _⟩ := h
    rfl
  · obtain ⟨v, m, rfl, tv, hz, q⟩ := h
    refine ⟨_, (pss_one (ps_ret (pe_lc (own := [("_law_wheel", 1), ("_law_many", 2)]) rfl sc__law_ready.nd (pi_enumT rfl B2.enumerate_ (pa_cons (pe_ix ix_tup (pv 0) pe_int (fun _ _ => rfl)) pa_nil)) (blkOk_by (N := ["_law_moment_here", "_law_wheel", "_law_many"]) (sc := defScope s__law_ready) (by decide +kernel)) (fun _ _ _ _ _ => (pg_tupK (K := K) (n := 2) rfl (pgs_cons (pg_name (i := 1) sc__law_ready.nd rfl (Or.inl rfl)) (pgs_cons (pg_name (i := 2) sc__law_ready.nd rfl (Or.inl rfl)) pgs_nil)))) (fun _ _ _ _ _ => (pts_one (pt_cmpR op_gt (pv 2) pe_int (nomark _)))) (fun _ _ _ _ _ => (pv 1))))), ?_⟩
    obtain ⟨T, b1, b2, b3, rfl, eT, e1, e2, e3⟩ := moD_of tv
    refine ⟨.ref T, rfl, T, _, 1, _, rfl, rfl, SqT.of eT, atI_nat (j := 1) rfl, .t, b2, _, rfl, SqT.of e2, fun D hD => ?_⟩
    refine lc_it (walk_enumK (xs := m.wt.map V.int)) (fun i H' => Same H H' ∧ H' D = some (.lst (rowV ((List.range i).filter fun n => decide (m.wt.getD n 0 > 0))))) ⟨Same.new hD, by rw [upd_same]; rfl⟩ (fun i H' _ h => SqT.of (h.1 _ _ e2)) (fun i x H1 H2 hi h y => ?_) (fun H' h => ?_)
    · obtain ⟨s1, eD⟩ := h
      obtain ⟨U, x1, x2, rfl, nU, rfl, f1, f2⟩ := y
      obtain rfl := Option.some.inj f1
      have hi' : i < m.wt.length := by
        rw [List.length_map] at hi
        exact hi
      have f2' : (m.wt.map V.int)[i]? = some x2 := f2
      rw [getI hi'] at f2'
      obtain rfl := Option.some.inj f2'
      have sU : Same H1 (upd H1 U (.tup [.int (i : Nat), .int (m.wt.getD i 0)])) := Same.new nU
      refine ⟨U, _, rfl, SqT.of upd_same, rfl, _, _, rfl, _, _, rfl, rfl, wipe2 (by decide) _ _, .int (m.wt.getD i 0), rfl, _, 0, rfl, rfl, _, rfl, ite2 (fun g => ?_) (fun g => ?_)⟩
      · refine ⟨.int (i : Nat), rfl, _, sU _ _ eD, ?_, fun c o e => ?_, ?_⟩
        · unfold rowV
          rw [List.length_map]
          have hf := List.length_filter_le (fun n => decide (m.wt.getD n 0 > 0)) (List.range i)
          rw [List.length_range] at hf
          exact small1000 (by omega)
        · rw [upd_ne (ne_of_none e hD)]
          exact sU _ _ (s1 _ _ e)
        · rw [upd_same, List.range_succ, List.filter_append]
          have : ([i].filter fun n => decide (m.wt.getD n 0 > 0)) = [i] := by
            rw [List.filter_cons, if_pos g]
            rfl
          rw [this]
          unfold rowV
          rw [List.map_append]
          rfl
      · refine ⟨s1.trans sU, ?_⟩
        rw [List.range_succ, List.filter_append]
        have : ([i].filter fun n => decide (m.wt.getD n 0 > 0)) = [] := by
          rw [List.filter_cons, if_neg g]
          rfl
        rw [this, List.append_nil]
        exact sU _ _ eD
    · refine q D H' h.1 ?_ hD
      rw [h.2, List.length_map]
      rfl
end
end K07

set_option maxRecDepth 100000
set_option maxHeartbeats 1000000
namespace K07
open PySem PySem.Spec PyProof.Rows L2 HX
section
variable {P : Program} {w : World} {K : PySem.W.Frag} {mg : Str → Option Value} {base : Heap} {k : Nat}
def spHandled : Sp := fun vs H Q _ => ∃ (vb v : V) (n : Nat) (ws : List (List (List Int))) (c : Int) (m : Mo), vs = [vb, v, .int n] ∧ Td H vb (boardD ws c) ∧ BoardOk ws c ∧ Td H v (moD m) ∧ MoF ws c m ∧ n < ws.length ∧ ∀ (v' : V) (H' : Hp), Same H H' → Td H' v' (moD (handleM ws m n)) → Q v' H'
theorem ok_handled (D : Def K mg "_law_handle" s__law_handle ["_law_board_here", "_law_moment_here", "_law_wheel"]) (B : Bi mg) : Cal P w K mg base (k + 1) "_law_handle" ["_law_board_here", "_law_moment_here", "_law_wheel"] spHandled := by
  refine D.ok sc__law_handle (fun vs H Q E h => ?_) (fun f cdv A outer s H vs Q E hr h => ?_)
  · obtain ⟨vb, v, n, ws, c, m, rfl, _⟩ := h
    rfl
  · obtain ⟨vb, v, n, ws, c, m, rfl, tb, bok, tv, mf, hn, q⟩ := h
    refine ⟨_, (pss_cons (ps_asg (pv 0) (pg_tup rfl (pgs_cons (pg_name (i := 3) sc__law_handle.nd rfl (Or.inl rfl)) (pgs_cons (pg_name (i := 4) sc__law_handle.nd rfl (Or.inl rfl)) pgs_nil))))
  (pss_cons (ps_asg (pe_lc (own := [("_law_row", 9)]) rfl sc__law_handle.nd (pi_tup (pv 1)) (blkOk_by (N := ["_law_board_here", "_law_moment_here", "_law_wheel", "_law_wheels", "_law_cups", "_law_stand", "_law_waiting", "_law_held", "_law_end", "_law_row"]) (sc := defScope s__law_handle) (by decide +kernel)) (fun _ _ _ _ _ => (pg_name (i := 9) sc__law_handle.nd rfl (Or.inl rfl))) (fun _ _ _ _ _ => pts_nil) (fun _ _ _ _ _ => (pe_callTy (call_list_ofK (K := K)) rfl B.list_ (by decide +kernel) (pa_cons (pv 9) pa_nil)))) (pg_unl rfl (pgs_cons (pg_name (i := 5) sc__law_handle.nd rfl (Or.inl rfl)) (pgs_cons (pg_name (i := 6) sc__law_handle.nd rfl (Or.inl rfl)) (pgs_cons (pg_name (i := 7) sc__law_handle.nd rfl (Or.inl rfl)) pgs_nil)))))
  (pss_cons (ps_asg (pe_op op_sub (pe_ix ix_list (pv 6) (pv 2) (fun _ _ => rfl)) pe_int) (pg_sub (pv 6) (pv 2) set_list))
  (pss_cons (ps_for PassesOwn.never rfl (pi_tup (pe_ix ix_tup (pe_ix ix_tup (pv 3) (pv 2) (fun _ _ => rfl)) (pe_ix ix_list (pv 5) (pv 2) (fun _ _ => rfl)) (fun _ _ => rfl))) (pg_name (i := 8) sc__law_handle.nd rfl (Or.inl rfl))
  (pss_one (ps_if (pt_cmpR op_ge (pv 8) (pe_callB call_len_seq rfl B.len_ (by decide +kernel) (pa_cons (pv 3) pa_nil)) (nomark _))
  (pss_one (ps_asg (pe_op op_add (pe_ix ix_list (pv 7) (pe_op op_sub (pv 8) (pe_callB call_len_seq rfl B.len_ (by decide +kernel) (pa_cons (pv 3) pa_nil))) (fun _ _ => rfl)) pe_int) (pg_sub (pv 7) (pe_op op_sub (pv 8) (pe_callB call_len_seq rfl B.len_ (by decide +kernel) (pa_cons (pv 3) pa_nil))) set_list)))
  (pss_one (ps_asg (pe_op op_add (pe_ix ix_list (pv 6) (pv 8) (fun _ _ => rfl)) pe_int) (pg_sub (pv 6) (pv 8) set_list))))))
  (pss_cons (ps_asg (pe_op op_add (pe_ix ix_list (pv 5) (pv 2) (fun _ _ => rfl)) pe_int) (pg_sub (pv 5) (pv 2) set_list))
  (pss_cons (ps_if (pt_cmpR op_eq (pe_ix ix_list (pv 5) (pv 2) (fun _ _ => rfl)) (pe_callB call_len_seq rfl B.len_ (by decide +kernel) (pa_cons (pe_ix ix_tup (pv 3) (pv 2) (fun _ _ => rfl)) pa_nil)) (nomark _))
  (pss_one (ps_asg pe_int (pg_sub (pv 5) (pv 2) set_list)))
  pss_nil)
  (pss_one (ps_ret (pe_tup (pa_cons (pe_callTy call_tuple_of rfl B.tuple_ (by decide +kernel) (pa_cons (pv 5) pa_nil)) (pa_cons (pe_callTy call_tuple_of rfl B.tuple_ (by decide +kernel) (pa_cons (pv 6) pa_nil)) (pa_cons (pe_callTy call_tuple_of rfl B.tuple_ (by decide +kernel) (pa_cons (pv 7) pa_nil)) pa_nil)))))))))))), ?_⟩
    obtain ⟨ab, aw, ys, rfl, eb, ew, hy⟩ := Td.boardOf tb
    obtain ⟨TM, b1, b2, b3, rfl, eT, f1, f2, f3⟩ := moD_of tv
    have hl : ys.length = ws.length := by rw [hy.len, List.length_map]
    obtain ⟨az, zs, ey, ez, hz⟩ := hy.wheelAt hn
    have ewn : ws[n]? = some (ws.getD n []) := by rw [List.getD_eq_getElem?_getD, List.getElem?_eq_getElem hn]; rfl
    have esn : m.st[n]? = some (m.st.getD n 0) := by rw [List.getD_eq_getElem?_getD, List.getElem?_eq_getElem (by rw [mf.sl]; exact hn)]; rfl
    obtain ⟨s0, s1⟩ := mf.sr n _ _ esn ewn
    obtain ⟨x1, x4, wok⟩ := bok.wheels _ (List.mem_of_getElem? ewn)
    generalize hst : m.st.getD n 0 = sv at esn s0 s1
    obtain ⟨sn, rfl⟩ : ∃ sn : Nat, sv = (sn : Int) := ⟨sv.toNat, by omega⟩
    have hsn : sn < (ws.getD n []).length := by omega
    obtain ⟨ae, ee, ees⟩ := hz.stepAt hsn
    have hends : endsAt ws m.st n = (ws.getD n []).getD sn [] := by
      unfold endsAt
      rw [hst]
      rfl
    have eok := wok ((ws.getD n []).getD sn []) (List.mem_of_getElem? (show (ws.getD n [])[sn]? = some _ by rw [List.getD_eq_getElem?_getD (l := ws.getD n []) (i := sn), List.getElem?_eq_getElem hsn]; rfl))
    have hzl : zs.length = (ws.getD n []).length := by rw [hz.len, List.length_map]
    have hwl := mf.wl
    have hhl := mf.hl
    have none_of : ∀ {Ha Hb : Hp} {x : Addr}, Same Ha Hb → Hb x = none → Ha x = none := fun {Ha Hb x} ss e => by
      cases e' : Ha x with
      | none => rfl
      | some o => rw [ss _ _ e'] at e; cases e
    -- wheels, cups
    refine ⟨.ref ab, rfl, ab, _, rfl, SqT.of eb, rfl, _, _, rfl, _, _, rfl, rfl, ?_⟩
    -- the three lists
    refine ⟨.ref TM, rfl, TM, rfl, ⟨_, SqT.of eT⟩, fun L nL => ?_⟩
    refine lc_tup (xs := [V.ref b1, .ref b2, .ref b3]) (fun i H' => Same H H' ∧ ∃ as : List Addr, as.length = i ∧ H' L = some (.lst (as.map V.ref)) ∧ (∀ a ∈ as, H a = none) ∧ (∀ a ∈ as, a ≠ L) ∧ as.Nodup ∧
      (∀ (j : Nat) (a : Addr) (l : List Int), as[j]? = some a → [m.st, m.wt, m.hd][j]? = some l → H' a = some (.lst (l.map V.int)))) ⟨Same.new nL, [], rfl, upd_same, (fun _ z => nomatch z), (fun _ z => nomatch z), List.nodup_nil, fun j a l e => by simp at e⟩ (fun i H' _ h => SqT.of (h.1 _ _ eT)) (fun i x H' hi h => ?_) (fun H' h => ?_)
    · obtain ⟨s', as, al, eL, an, aL, nd, av⟩ := h
      have hi3 : i < 3 := (List.getElem?_eq_some_iff.mp hi).1
      obtain ⟨b, l, hb, hbl, hil⟩ : ∃ (b : Addr) (l : List Int), x = .ref b ∧ H b = some (.tup (l.map V.int)) ∧ [m.st, m.wt, m.hd][i]? = some l := by
        match i, hi3, hi with
        | 0, _, hi => exact ⟨b1, m.st, (Option.some.inj hi).symm, f1, rfl⟩
        | 1, _, hi => exact ⟨b2, m.wt, (Option.some.inj hi).symm, f2, rfl⟩
        | 2, _, hi => exact ⟨b3, m.hd, (Option.some.inj hi).symm, f3, rfl⟩
      subst hb
      refine ⟨wipe1 _, tYes_eq (iteT ⟨.ref b, rfl, b, _, rfl, .inr (SqT.of (s' _ _ hbl)), fun a na => ?_⟩)⟩
      have naL : a ≠ L := fun z => by rw [z, eL] at na; cases na
      have naA : ∀ a' ∈ as, a' ≠ a := fun a' ha' z => by
        obtain ⟨j, hj⟩ := List.mem_iff_getElem?.mp ha'
        have hj' : j < 3 := by
          have := (List.getElem?_eq_some_iff.mp hj).1
          omega
        have hlj : [m.st, m.wt, m.hd][j]? = some ([m.st, m.wt, m.hd][j]'(by simpa using hj')) := List.getElem?_eq_getElem (by simpa using hj')
        rw [z] at hj
        rw [av j a _ hj hlj] at na
        cases na
      refine ⟨as.map V.ref, by rw [upd_ne naL.symm]; exact eL, by rw [List.length_map]; exact small1000 (by omega), fun c o e => ?_, as ++ [a], ?_, ?_, ?_, ?_, ?_, ?_⟩
      · have hcL : c ≠ L := ne_of_none e nL
        have hca : c ≠ a := ne_of_none (s' _ _ e) na
        rw [upd_ne hcL, upd_ne hca]
        exact s' _ _ e
      · rw [List.length_append, al]
        rfl
      · rw [upd_same, List.map_append]
        rfl
      · intro a' ha'
        rcases List.mem_append.mp ha' with ha' | ha'
        · exact an a' ha'
        · rw [List.mem_singleton.mp ha']
          exact none_of s' na
      · intro a' ha'
        rcases List.mem_append.mp ha' with ha' | ha'
        · exact aL a' ha'
        · rw [List.mem_singleton.mp ha']
          exact naL
      · rw [List.nodup_append]
        exact ⟨nd, List.nodup_cons.mpr ⟨(fun z => nomatch z), List.nodup_nil⟩, fun x hx y hy => by rw [List.mem_singleton.mp hy]; exact naA x hx⟩
      · intro j a' l' e1 e2
        have hja : a' ∈ as ++ [a] := List.mem_of_getElem? e1
        have haL' : a' ≠ L := by
          rcases List.mem_append.mp hja with ha' | ha'
          · exact aL a' ha'
          · rw [List.mem_singleton.mp ha']
            exact naL
        rw [upd_ne haL']
        by_cases hlt : j < as.length
        · rw [List.getElem?_append_left hlt] at e1
          rw [upd_ne (naA a' (List.mem_of_getElem? e1))]
          exact av j a' l' e1 e2
        · rw [List.getElem?_append_right (by omega)] at e1
          have h0 : j - as.length = 0 := by
            have := (List.getElem?_eq_some_iff.mp e1).1
            simp at this
            omega
          rw [h0] at e1
          have e3 : a = a' := by simpa using e1
          have e4 : j = i := by omega
          subst e3 e4
          rw [hil] at e2
          rw [← Option.some.inj e2, upd_same]
    · obtain ⟨s', as, al, eL, an, aL, nd, av⟩ := h
      obtain ⟨a1, a2, a3, rfl⟩ : ∃ a1 a2 a3, as = [a1, a2, a3] := by
        match as, al with
        | [x, y, z], _ => exact ⟨x, y, z, rfl⟩
      have la : Laid H' a1 a2 a3 m := ⟨av 0 a1 m.st rfl rfl, av 1 a2 m.wt rfl rfl, av 2 a3 m.hd rfl rfl, fun z => by simp [z] at nd, fun z => by simp [z] at nd, fun z => by simp [z] at nd⟩
      have n1 := an a1 (by simp)
      have n2 := an a2 (by simp)
      have n3 := an a3 (by simp)
      refine ⟨L, _, rfl, SqL.of eL, rfl, _, _, rfl, _, _, rfl, _, _, rfl, rfl, ?_⟩
      -- waiting[wheel] = waiting[wheel] - 1
      refine ⟨.ref a2, rfl, .int n, rfl, a2, _, n, _, rfl, rfl, SqL.of la.w, atI_nat (getI (by omega)), _, 1, rfl, rfl, .ref a2, rfl, .int n, rfl, a2, _, n, n, rfl, rfl, la.w, ixN_nat (by rw [List.length_map]; omega), ?_⟩
      rw [setI]
      have k1 : Kp (N3 a1 a2 a3) H' (upd H' a2 (.lst ((m.wt.set n (m.wt.getD n 0 - 1)).map V.int))) := Kp.put (.inr (.inl rfl))
      have hb1 : m.wt.set n (m.wt.getD n 0 - 1) = bump m.wt n (-1) := rfl
      rw [hb1] at k1 ⊢
      have l1 : Laid (upd H' a2 (.lst ((bump m.wt n (-1)).map V.int))) a1 a2 a3 ⟨m.st, bump m.wt n (-1), m.hd⟩ := ⟨by rw [upd_ne la.nab]; exact la.s, upd_same, by rw [upd_ne la.nbc.symm]; exact la.h, la.nab, la.nac, la.nbc⟩
      have kt1 := (KT.same s').trans (la.kt k1)
      generalize upd H' a2 (.lst ((bump m.wt n (-1)).map V.int)) = H1 at k1 l1 kt1 ⊢
      -- the ends
      refine ⟨.ref aw, rfl, .int n, rfl, aw, _, n, _, rfl, rfl, SqT.of (kt1 _ _ ew), atI_nat ey, .ref a1, rfl, .int n, rfl, a1, _, n, .int sn, rfl, rfl, SqL.of l1.s, atI_nat (by rw [getI (by rw [mf.sl]; exact hn), hst]), az, _, sn, _, rfl, rfl, SqT.of (kt1 _ _ ez), atI_nat ee, ae, rfl, ⟨_, SqT.of (kt1 _ _ ees)⟩, ?_⟩
      refine for_tup (xs := ((ws.getD n []).getD sn []).map V.int) (fun i σ Hi => ∃ y : Option V, σ = [some (.ref ab), some (.ref TM), some (.int n), some (.ref aw), some (.int c), some (.ref a1), some (.ref a2), some (.ref a3), y, none] ∧ Kp (N3 a1 a2 a3) H' Hi ∧
        Laid Hi a1 a2 a3 ⟨m.st, ((((ws.getD n []).getD sn []).take i).foldl (sendM ws.length) (bump m.wt n (-1), m.hd)).1, ((((ws.getD n []).getD sn []).take i).foldl (sendM ws.length) (bump m.wt n (-1), m.hd)).2⟩) ⟨none, rfl, k1, l1⟩ (fun i σ Hi _ pp => ?_) (fun i x σ Hi hx pp => ?_) (fun σ Hi pp => ?_)
      · obtain ⟨y, _, k', _⟩ := pp
        exact SqT.of (la.kt k' _ _ (s' _ _ ees))
      · obtain ⟨y, rfl, k', l'⟩ := pp
        rw [List.getElem?_map] at hx
        cases ex : ((ws.getD n []).getD sn [])[i]? with
        | none => rw [ex] at hx; cases hx
        | some e =>
          rw [ex] at hx
          cases hx
          obtain ⟨e0, e1⟩ := eok.2 e (List.mem_of_getElem? ex)
          obtain ⟨sl1, sl2⟩ := send_len ws.length (((ws.getD n []).getD sn []).take i) (bump m.wt n (-1), m.hd)
          rw [bump_len] at sl1
          have tk : ((ws.getD n []).getD sn []).take (i + 1) = ((ws.getD n []).getD sn []).take i ++ [e] := by rw [List.take_add_one, ex]; rfl
          have fold1 : (((ws.getD n []).getD sn []).take (i + 1)).foldl (sendM ws.length) (bump m.wt n (-1), m.hd) = sendM ws.length ((((ws.getD n []).getD sn []).take i).foldl (sendM ws.length) (bump m.wt n (-1), m.hd)) e := by rw [tk, List.foldl_append]; rfl
          rw [fold1]
          generalize (((ws.getD n []).getD sn []).take i).foldl (sendM ws.length) (bump m.wt n (-1), m.hd) = pr at l' sl1 sl2 ⊢
          obtain ⟨pw, ph⟩ := pr
          have sl1' : pw.length = m.wt.length := sl1
          have sl2' : ph.length = m.hd.length := sl2
          have ew' := la.kt k' _ _ (s' _ _ ew)
          obtain ⟨en, rfl⟩ : ∃ en : Nat, e = (en : Int) := ⟨e.toNat, by omega⟩
          refine ⟨.int en, rfl, .ref aw, rfl, aw, ys, rfl, .inr (SqT.of ew'), en, _, rfl, rfl, _, rfl, ite2 (fun g => ?_) (fun g => ?_)⟩
          · have g1 : (ys.length : Int) ≤ (en : Int) := of_decide_eq_true g
            have g' : ¬ (en : Int) < (ws.length : Int) := by omega
            have hs : sendM ws.length (pw, ph) en = (pw, bump ph (en - ws.length) 1) := by
              unfold sendM
              rw [if_neg g', show ((en : Int) - (ws.length : Int)).toNat = en - ws.length by omega]
            rw [hs]
            have ei : (en : Int) - (ys.length : Int) = ((en - ws.length : Nat) : Int) := by omega
            have hph : en - ws.length < ph.length := by omega
            refine ⟨.ref a3, rfl, .int en, rfl, .ref aw, rfl, aw, ys, rfl, .inr (SqT.of ew'), _, _, rfl, rfl, a3, _, _, _, rfl, congrArg V.int ei, SqL.of l'.h, atI_nat (getI hph), _, 1, rfl, rfl, .ref a3, rfl, .int en, rfl, .ref aw, rfl, aw, ys, rfl, .inr (SqT.of ew'), _, _, rfl, rfl, a3, _, _, en - ws.length, rfl, congrArg V.int ei, l'.h, ixN_nat (by rw [List.length_map]; exact hph), ?_⟩
            rw [setI]
            exact ⟨some (.int en), rfl, k'.trans (Kp.put (.inr (.inr rfl))), ⟨by rw [upd_ne l'.nac]; exact l'.s, by rw [upd_ne l'.nbc]; exact l'.w, upd_same, l'.nab, l'.nac, l'.nbc⟩⟩
          · have g' : (en : Int) < (ws.length : Int) := by
              have : ¬ (ys.length : Int) ≤ (en : Int) := fun z => g (decide_eq_true z)
              omega
            have hs : sendM ws.length (pw, ph) en = (bump pw en 1, ph) := by
              unfold sendM
              rw [if_pos g']
              rfl
            rw [hs]
            have hpw : en < pw.length := by omega
            refine ⟨.ref a2, rfl, .int en, rfl, a2, _, en, _, rfl, rfl, SqL.of l'.w, atI_nat (getI hpw), _, 1, rfl, rfl, .ref a2, rfl, .int en, rfl, a2, _, en, en, rfl, rfl, l'.w, ixN_nat (by rw [List.length_map]; exact hpw), ?_⟩
            rw [setI]
            exact ⟨some (.int en), rfl, k'.trans (Kp.put (.inr (.inl rfl))), ⟨by rw [upd_ne l'.nab]; exact l'.s, upd_same, by rw [upd_ne l'.nbc.symm]; exact l'.h, l'.nab, l'.nac, l'.nbc⟩⟩
      · -- the stand
        obtain ⟨y, rfl, k', l'⟩ := pp
        rw [List.length_map, List.take_length] at l'
        have ew' := la.kt k' _ _ (s' _ _ ew)
        have ez' := la.kt k' _ _ (s' _ _ ez)
        have hns : n < m.st.length := by rw [mf.sl]; exact hn
        refine ⟨.ref a1, rfl, .int n, rfl, a1, _, n, .int sn, rfl, rfl, SqL.of l'.s, atI_nat (by rw [getI hns, hst]), sn, 1, rfl, rfl, .ref a1, rfl, .int n, rfl, a1, _, n, n, rfl, rfl, l'.s, ixN_nat (by rw [List.length_map]; exact hns), ?_⟩
        rw [setI]
        have k2 : Kp (N3 a1 a2 a3) H' (upd Hi a1 (.lst ((m.st.set n ((sn : Int) + 1)).map V.int))) := k'.trans (Kp.put (.inl rfl))
        have l2 : Laid (upd Hi a1 (.lst ((m.st.set n ((sn : Int) + 1)).map V.int))) a1 a2 a3 ⟨m.st.set n ((sn : Int) + 1), (sentM ws m n).1, (sentM ws m n).2⟩ := ⟨upd_same, by rw [upd_ne l'.nab.symm]; unfold sentM; rw [hends]; exact l'.w, by rw [upd_ne l'.nac.symm]; unfold sentM; rw [hends]; exact l'.h, l'.nab, l'.nac, l'.nbc⟩
        have ew2 := la.kt k2 _ _ (s' _ _ ew)
        have ez2 := la.kt k2 _ _ (s' _ _ ez)
        generalize upd Hi a1 (.lst ((m.st.set n ((sn : Int) + 1)).map V.int)) = H2 at k2 l2 ew2 ez2 ⊢
        have hns2 : n < (m.st.set n ((sn : Int) + 1)).length := by rw [List.length_set]; exact hns
        have hg2 : (m.st.set n ((sn : Int) + 1)).getD n 0 = (sn : Int) + 1 := by
          rw [List.getD_eq_getElem?_getD, List.getElem?_set_self hns]
          rfl
        -- the end
        have fin : ∀ (H3 : Hp), Kp (N3 a1 a2 a3) H' H3 → Laid H3 a1 a2 a3 (handleM ws m n) → ∀ T1, H3 T1 = none → ∀ T2, upd H3 T1 (.tup ((handleM ws m n).st.map V.int)) T2 = none → ∀ T3, upd (upd H3 T1 (.tup ((handleM ws m n).st.map V.int))) T2 (.tup ((handleM ws m n).wt.map V.int)) T3 = none →
            ∀ U, upd (upd (upd H3 T1 (.tup ((handleM ws m n).st.map V.int))) T2 (.tup ((handleM ws m n).wt.map V.int))) T3 (.tup ((handleM ws m n).hd.map V.int)) U = none → Q (.ref U) (upd (upd (upd (upd H3 T1 (.tup ((handleM ws m n).st.map V.int))) T2 (.tup ((handleM ws m n).wt.map V.int))) T3 (.tup ((handleM ws m n).hd.map V.int))) U (.tup [.ref T1, .ref T2, .ref T3])) := by
          intro H3 k3 l3 T1 nT1 T2 nT2 T3 nT3 U nU
          have sA : Same H3 (upd H3 T1 (.tup ((handleM ws m n).st.map V.int))) := Same.new nT1
          have sB := Same.new (o := .tup ((handleM ws m n).wt.map V.int)) nT2
          have sC := Same.new (o := .tup ((handleM ws m n).hd.map V.int)) nT3
          have sD := Same.new (o := .tup [.ref T1, .ref T2, .ref T3]) nU
          have s3 : Same H H3 := Same.kp3 s' k3 n1 n2 n3
          refine q (.ref U) _ (s3.trans (sA.trans (sB.trans (sC.trans sD)))) (Td.new nU (.cons (.tup (sC _ _ (sB _ _ upd_same)) (TdAll.ints _)) (.cons (.tup (sC _ _ upd_same) (TdAll.ints _)) (.cons (.tup upd_same (TdAll.ints _)) .nil))))
        have ret : ∀ (H3 : Hp), Kp (N3 a1 a2 a3) H' H3 → Laid H3 a1 a2 a3 (handleM ws m n) → Same H H3 := fun H3 k3 _ => Same.kp3 s' k3 n1 n2 n3
        have hst' : (handleM ws m n).st = m.st.set n (((sn : Int) + 1) % ((ws.getD n []).length : Int)) := by
          unfold handleM
          rw [hst]
        refine ⟨.ref a1, rfl, .int n, rfl, a1, _, n, .int ((sn : Int) + 1), rfl, rfl, SqL.of l2.s, atI_nat (by rw [getI hns2, hg2]), .ref aw, rfl, .int n, rfl, aw, _, n, _, rfl, rfl, SqT.of ew2, atI_nat ey, az, zs, rfl, .inr (SqT.of ez2), rfl, _, rfl, ite2 (fun g => ?_) (fun g => ?_)⟩
        · have ge : (sn : Int) + 1 = (zs.length : Int) := V.int.inj (of_decide_eq_true g)
          refine ⟨.ref a1, rfl, .int n, rfl, a1, _, n, n, rfl, rfl, l2.s, ixN_nat (by rw [List.length_map]; exact hns2), ?_⟩
          rw [setI, List.set_set]
          have h0 : ((sn : Int) + 1) % ((ws.getD n []).length : Int) = 0 := by rw [ge, hzl]; exact Int.emod_self
          have k3 : Kp (N3 a1 a2 a3) H' (upd H2 a1 (.lst ((m.st.set n 0).map V.int))) := k2.trans (Kp.put (.inl rfl))
          have l3 : Laid (upd H2 a1 (.lst ((m.st.set n 0).map V.int))) a1 a2 a3 (handleM ws m n) := ⟨by rw [hst', h0]; exact upd_same, by rw [upd_ne l2.nab.symm]; exact l2.w, by rw [upd_ne l2.nac.symm]; exact l2.h, l2.nab, l2.nac, l2.nbc⟩
          generalize upd H2 a1 (.lst ((m.st.set n 0).map V.int)) = H3 at k3 l3 ⊢
          exact ⟨.ref a1, rfl, a1, _, rfl, .inl ⟨SqL.of l3.s, fun T1 nT1 => ⟨.ref a2, rfl, a2, _, rfl, .inl ⟨SqL.of (by rw [upd_ne (ne_of_none l3.w nT1)]; exact l3.w), fun T2 nT2 => ⟨.ref a3, rfl, a3, _, rfl, .inl ⟨SqL.of (Same.new nT2 _ _ (Same.new nT1 _ _ l3.h)), fun T3 nT3 => ⟨by show 3 ≤ sizeLine; decide, fun U nU => fin H3 k3 l3 T1 nT1 T2 nT2 T3 nT3 U nU⟩⟩⟩⟩⟩⟩⟩
        · have gn : ¬ (sn : Int) + 1 = (zs.length : Int) := fun z => g (decide_eq_true (congrArg V.int z))
          have h0 : ((sn : Int) + 1) % ((ws.getD n []).length : Int) = (sn : Int) + 1 := Int.emod_eq_of_lt (by omega) (by omega)
          have l3 : Laid H2 a1 a2 a3 (handleM ws m n) := ⟨by rw [hst', h0]; exact l2.s, l2.w, l2.h, l2.nab, l2.nac, l2.nbc⟩
          exact ⟨.ref a1, rfl, a1, _, rfl, .inl ⟨SqL.of l3.s, fun T1 nT1 => ⟨.ref a2, rfl, a2, _, rfl, .inl ⟨SqL.of (by rw [upd_ne (ne_of_none l3.w nT1)]; exact l3.w), fun T2 nT2 => ⟨.ref a3, rfl, a3, _, rfl, .inl ⟨SqL.of (Same.new nT2 _ _ (Same.new nT1 _ _ l3.h)), fun T3 nT3 => ⟨by show 3 ≤ sizeLine; decide, fun U nU => fin H2 k2 l3 T1 nT1 T2 nT2 T3 nT3 U nU⟩⟩⟩⟩⟩⟩⟩
end
end K07

set_option maxRecDepth 100000
set_option maxHeartbeats 1000000
namespace K07
open PySem PySem.Spec PyProof.Rows L2 HX
theorem walkM_snoc {ws : List (List (List Int))} {n : Nat} {m1 : Mo} (h : ¬ m1.wt.getD n 0 = 0) : ∀ (row : List Nat) (i : Nat) (m : Mo), walkM ws i m row = (none, m1) → walkM ws i m (row ++ [n]) = (none, handleM ws m1 n)
  | [], i, m, e => by
    have e1 : m = m1 := congrArg Prod.snd e
    subst e1
    exact walkM_go h
  | a :: r, i, m, e => by
    by_cases g : m.wt.getD a 0 = 0
    · rw [walkM_stop g] at e
      cases e
    · rw [walkM_go g] at e
      rw [List.cons_append, walkM_go g]
      exact walkM_snoc h r (i + 1) _ e
theorem rowV_len {row : List Nat} : (rowV row).length = row.length := List.length_map ..
theorem ready_mem {wt : List Int} {n : Nat} (h : n ∈ readyM wt) : n < wt.length ∧ 0 < wt.getD n 0 := by
  unfold readyM at h
  rw [List.mem_filter, List.mem_range] at h
  exact ⟨h.1, of_decide_eq_true h.2⟩
section
variable {P : Program} {w : World} {K : PySem.W.Frag} {mg : Str → Option Value} {base : Heap} {k : Nat}
def spLet : Sp := fun vs H Q _ => ∃ (pn : Addr) (vb v : V) (most mm : Nat) (ws : List (List (List Int))) (c : Int) (m : Mo), vs = [.ref pn, vb, v, .int most] ∧ most ≤ 900 ∧ Td H vb (boardD ws c) ∧ BoardOk ws c ∧ Td H v (moD m) ∧ MoOk ws c m ∧ PenAt H pn (mm + most) ∧
  ∀ (U r : Addr) (vm : V) (row : List Nat) (m' : Mo) (H' : Hp), Kp (· = pn) H H' → PenAt H' pn mm → H' U = some (.tup [.ref r, vm]) → RowF H' r row → row.length ≤ most → (∀ n ∈ row, n < ws.length) → walkM ws 0 m row = (none, m') → Td H' vm (moD m') → MoOk ws c m' → Q (.ref U) H'
theorem ok_let (D : Def K mg "_law_let_row" s__law_let_row ["_law_pen_here", "_law_board_here", "_law_moment_here", "_law_most"]) (B : Bi mg) (c__law_ready : Cal P w K mg base k "_law_ready" ["_law_moment_here"] spReady) (c__law_pick : Cal P w K mg base k "_law_pick" ["_law_pen_here", "_law_some"] spPick)
    (c__law_handle : Cal P w K mg base k "_law_handle" ["_law_board_here", "_law_moment_here", "_law_wheel"] spHandled) : Cal P w K mg base (k + 1) "_law_let_row" ["_law_pen_here", "_law_board_here", "_law_moment_here", "_law_most"] spLet := by
  refine D.ok sc__law_let_row (fun vs H Q E h => ?_) (fun f cdv A outer s H vs Q E hr h => ?_)
  · obtain ⟨pn, vb, v, most, mm, ws, c, m, rfl, _⟩ := h
    rfl
  · obtain ⟨pn, vb, v, most, mm, ws, c, m, rfl, hmost, tb, bok, tv, mok, pen, q⟩ := h
    refine ⟨_, (pss_cons (ps_set (i := 4) sc__law_let_row.nd rfl (Or.inl rfl) (pe_lst pa_nil))
  (pss_cons (ps_for PassesOwn.never rfl (pi_range1 rfl B.range_ (pa_cons (pv 3) pa_nil)) (pg_name (i := 5) sc__law_let_row.nd rfl (Or.inl rfl))
  (pss_cons (ps_set (i := 6) sc__law_let_row.nd rfl (Or.inl rfl) (pe_cal c__law_ready hr rfl (pa_cons (pv 2) pa_nil)))
  (pss_one (ps_if (pt_cmpR (op_neD (hu64 hr)) (pv 6) (pe_lst pa_nil) (nomark _))
  (pss_cons (ps_expr (pe_bm PySem.F.plainAttrs_list PySem.F.slot_list_append PySem.F.type_list_append mt_append (pv 4) (pa_cons (pe_cal c__law_pick hr rfl (pa_cons (pv 0) (pa_cons (pv 6) pa_nil))) pa_nil)))
  (pss_one (ps_set (i := 2) sc__law_let_row.nd rfl (Or.inl rfl) (pe_cal c__law_handle hr rfl (pa_cons (pv 1) (pa_cons (pv 2) (pa_cons (pe_ix ix_list (pv 4) (pe_un un_neg pe_int) (fun _ _ => rfl)) pa_nil)))))))
  pss_nil))))
  (pss_one (ps_ret (pe_tup (pa_cons (pe_callTy call_tuple_frz rfl B.tuple_ (by decide +kernel) (pa_cons (pv 4) pa_nil)) (pa_cons (pv 2) pa_nil))))))), ?_⟩
    have w1 : ∀ x ∈ ws, 1 ≤ x.length := fun x hx => (bok.wheels x hx).1
    have w6 := bok.w6
    refine ⟨by show 0 ≤ sizeLine; decide, fun L nL => ?_⟩
    have nLp := pen.ne nL
    have k0 : Kp (· = pn) H (upd H L (.lst [])) := Kp.new nL
    refine ⟨.int most, rfl, _, rfl, by omega, by omega, ?_⟩
    refine for_range (n := _) (fun i σ Hi => ∃ (row : List Nat) (mi : Mo) (vm : V) (y5 y6 : Option V), σ = [some (.ref pn), some vb, some vm, some (.int most), some (.ref L), y5, y6] ∧ Kp (· = pn) H Hi ∧ PenAt Hi pn (mm + (most - i)) ∧ Hi L = some (.lst (rowV row)) ∧ Td Hi vm (moD mi) ∧ MoOk ws c mi ∧ walkM ws 0 m row = (none, mi) ∧ row.length ≤ i ∧ ∀ n ∈ row, n < ws.length) ?_ (fun i σ Hi hi pp => ?_) (fun σ Hi pp => ?_)
    · exact ⟨[], m, v, none, none, rfl, k0, (pen.new nL), upd_same, Td.mono (KT.new nL) _ _ tv, mok, rfl, Nat.le_refl _, fun _ z => nomatch z⟩
    · obtain ⟨row, mi, vm, y5, y6, rfl, ki, peni, eL, tm, mk, eW, hlen, hrow⟩ := pp
      have hi' : i < most := by omega
      refine ⟨vm, rfl, vm, mi, rfl, tm, by rw [mk.wl]; omega, fun D2 H2 s2 eD nD => ?_⟩
      have tb2 : Td H2 vb (boardD ws c) := Td.mono ((pen.kt ki).trans (KT.same s2)) _ _ tb
      have pen2 := peni.same s2
      have nDp : D2 ≠ pn := peni.ne nD
      have nDL : D2 ≠ L := fun z => by rw [z, eL] at nD; cases nD
      refine ⟨.ref D2, rfl, by show 0 ≤ sizeLine; decide, fun E2 nE => ?_⟩
      have sE : Same H2 (upd H2 E2 (.lst [])) := Same.new nE
      refine ⟨.list ((readyM mi.wt).map fun n : Nat => PyData.int (n : Int)), .list [], .lst (SqL.of (sE _ _ eD)) (dp_row _), .lst (SqL.of upd_same) .nil, shaped_row _, rfl, _, rfl, ?_⟩
      have s3 : Same Hi (upd H2 E2 (.lst [])) := s2.trans sE
      have eD3 := sE _ _ eD
      have pen3 := pen2.same sE
      have tb3 := Td.mono (KT.same sE) _ _ tb2
      generalize upd H2 E2 (.lst []) = H3 at s3 eD3 pen3 tb3 ⊢
      cases er : readyM mi.wt with
      | nil =>
        exact iteF ⟨row, mi, vm, some (.int (0 + (i : Int))), some (.ref D2), rfl, ki.trans (Kp.of s3), pen3.less (by omega), s3 _ _ eL, Td.mono (KT.same s3) _ _ tm, mk, eW, by omega, hrow⟩
      | cons n0 rest =>
        rw [er] at eD3
        have hrl : (n0 :: rest).length ≤ 6 := by
          rw [← er]
          have h1 := List.length_filter_le (fun n => decide (mi.wt.getD n 0 > 0)) (List.range mi.wt.length)
          rw [List.length_range] at h1
          have h2 := mk.wl
          exact Nat.le_trans h1 (by omega)
        refine iteT ?_
        have eL3 := s3 _ _ eL
        refine ⟨.ref L, rfl, .inl ⟨rfl, _, SqL.of eL3⟩, .ref pn, rfl, .ref D2, rfl, pn, D2, _, mm + (most - i) - 1, rfl, eD3, nDp, by rw [rowV_len]; exact Nat.succ_pos _, by rw [rowV_len]; omega, pen3.less (by omega), fun j x H4 hx k4 pen4 => ?_⟩
        obtain ⟨n, hn, rfl⟩ : ∃ n, n ∈ n0 :: rest ∧ x = .int ((n : Nat) : Int) := by
          unfold rowV at hx
          rw [List.getElem?_map] at hx
          cases e1 : (n0 :: rest)[j]? with
          | none => rw [e1] at hx; cases hx
          | some n => rw [e1] at hx; cases hx; exact ⟨n, List.mem_of_getElem? e1, rfl⟩
        rw [← er] at hn
        obtain ⟨hn1, hn2⟩ := ready_mem hn
        rw [mk.wl] at hn1
        have eL4 := k4 _ _ eL3 nLp
        refine ⟨L, _, _, rfl, rfl, eL4, by rw [rowV_len]; exact small1000 (by omega), ?_⟩
        have hrv : rowV row ++ [V.int ((n : Nat) : Int)] = rowV (row ++ [n]) := by
          unfold rowV
          rw [List.map_append]
          rfl
        rw [hrv]
        have k5 : Kp (· = pn) H (upd H4 L (.lst (rowV (row ++ [n])))) := ((ki.trans (Kp.of s3)).trans k4).mut nL
        have pen5 : PenAt (upd H4 L (.lst (rowV (row ++ [n])))) pn (mm + (most - i) - 1) := pen4.put nLp
        have kt5 : KT Hi (upd H4 L (.lst (rowV (row ++ [n])))) := ((KT.same s3).trans (pen3.kt k4)).trans (KT.put eL4)
        have kt35 : KT H3 (upd H4 L (.lst (rowV (row ++ [n])))) := (pen3.kt k4).trans (KT.put eL4)
        have eL5 : upd H4 L (.lst (rowV (row ++ [n]))) L = some (.lst (rowV (row ++ [n]))) := upd_same
        generalize upd H4 L (.lst (rowV (row ++ [n]))) = H5 at k5 pen5 kt5 kt35 eL5 ⊢
        have hat : atI (rowV (row ++ [n])) (-1) = some (.int ((n : Nat) : Int)) := by
          rw [← hrv]
          exact atI_last ..
        refine ⟨vb, rfl, vm, rfl, .ref L, rfl, 1, rfl, L, _, -1, _, rfl, rfl, SqL.of eL5, hat, vb, vm, n, ws, c, mi, rfl, Td.mono kt35 _ _ tb3, bok, Td.mono kt5 _ _ tm, mk.toMoF, hn1, fun v' H6 s6 t6 => ?_⟩
        refine ⟨row ++ [n], handleM ws mi n, v', some (.int (0 + (i : Int))), some (.ref D2), rfl, k5.trans (Kp.of s6), (pen5.same s6).less (by omega), s6 _ _ eL5, t6, mk.handle w1 hn2, walkM_snoc (by omega) row 0 m eW, by rw [List.length_append]; exact Nat.succ_le_succ hlen, fun x hx => ?_⟩
        rcases List.mem_append.mp hx with hx | hx
        · exact hrow x hx
        · rw [List.mem_singleton.mp hx]
          exact hn1
    · obtain ⟨row, mi, vm, y5, y6, rfl, ki, peni, eL, tm, mk, eW, hlen, hrow⟩ := pp
      refine ⟨.ref L, rfl, L, _, rfl, SqL.of eL, fun r o nr od => ⟨vm, rfl, by show 2 ≤ sizeLine; decide, fun U nU => ?_⟩⟩
      have sr : Same Hi (upd Hi r (.frz o (.tup (rowV row)))) := Same.new nr
      have sU := Same.new (o := .tup [.ref r, vm]) nU
      refine q U r vm row mi _ (ki.trans (Kp.of (sr.trans sU))) (((peni.same sr).same sU).less (by omega)) upd_same ⟨o, od, sU _ _ upd_same⟩ (by omega) hrow eW (Td.mono (KT.same (sr.trans sU)) _ _ tm) mk
end
end K07

set_option maxRecDepth 100000
set_option maxHeartbeats 1000000
namespace K07
open PySem PySem.Spec PyProof.Rows L2 HX
/-! ### a let row: by its counts -/
theorem getD_set_ne {l : List Int} {i j : Nat} {x : Int} (h : i ≠ j) : (l.set i x).getD j 0 = l.getD j 0 := by
  rw [List.getD_eq_getElem?_getD, List.getElem?_set_ne h, List.getD_eq_getElem?_getD]
theorem getD_set_self {l : List Int} {i : Nat} {x : Int} (h : i < l.length) : (l.set i x).getD i 0 = x := by
  rw [List.getD_eq_getElem?_getD, List.getElem?_set_self h]
  rfl
theorem by_counts {ws : List (List (List Int))} {c : Int} (bok : BoardOk ws c) : ∀ (row : List Nat) (i : Nat) (m m' : Mo), MoF ws c m → (∀ n ∈ row, n < ws.length) → walkM ws i m row = (none, m') →
    MoF ws c m' ∧ (∀ u, u < ws.length → m'.st.getD u 0 = (m.st.getD u 0 + ((row.count u : Nat) : Int)) % ((ws.getD u []).length : Int)) ∧ (∀ u, u < ws.length → m'.wt.getD u 0 = m.wt.getD u 0 + came ws m.st (fun u => row.count u) u - ((row.count u : Nat) : Int)) ∧
    ∀ j, m'.hd.getD j 0 = m.hd.getD j 0 + came ws m.st (fun u => row.count u) (ws.length + j)
  | [], i, m, m', mf, _, e => by
    have e1 : m = m' := congrArg Prod.snd e
    subst e1
    have hc : ∀ e, came ws m.st (fun u => ([] : List Nat).count u) e = 0 := fun e => by
      unfold came
      have : ∀ n, sumTo n (fun u => sent ws u (m.st.getD u 0) (([] : List Nat).count u) e) = 0 := fun n => by
        induction n with
        | zero => rfl
        | succ n ih =>
          show sumTo n _ + 0 = 0
          rw [ih]
          rfl
      exact this _
    refine ⟨mf, fun u hu => ?_, fun u hu => ?_, fun j => ?_⟩
    · have e2 : m.st[u]? = some (m.st.getD u 0) := by rw [List.getD_eq_getElem?_getD, List.getElem?_eq_getElem (by rw [mf.sl]; exact hu)]; rfl
      have e3 : ws[u]? = some (ws.getD u []) := by rw [List.getD_eq_getElem?_getD, List.getElem?_eq_getElem hu]; rfl
      obtain ⟨s0, s1⟩ := mf.sr u _ _ e2 e3
      have : m.st.getD u 0 + (([].count u : Nat) : Int) = m.st.getD u 0 := by simp
      rw [this]
      exact (Int.emod_eq_of_lt s0 s1).symm
    · rw [hc]
      simp
    · rw [hc]
      simp
  | n :: r, i, m, m', mf, hrow, e => by
    have hn := hrow n (List.mem_cons_self ..)
    by_cases g : m.wt.getD n 0 = 0
    · rw [walkM_stop g] at e
      cases e
    · rw [walkM_go g] at e
      have w1 : ∀ x ∈ ws, 1 ≤ x.length := fun x hx => (bok.wheels x hx).1
      obtain ⟨mf', h1, h2, h3⟩ := by_counts bok r (i + 1) (handleM ws m n) m' (mf.handle w1) (fun x hx => hrow x (List.mem_cons_of_mem _ hx)) e
      have hns : n < m.st.length := by rw [mf.sl]; exact hn
      have ewn : ws[n]? = some (ws.getD n []) := by rw [List.getD_eq_getElem?_getD, List.getElem?_eq_getElem hn]; rfl
      have esn : m.st[n]? = some (m.st.getD n 0) := by rw [List.getD_eq_getElem?_getD, List.getElem?_eq_getElem hns]; rfl
      obtain ⟨s0, s1⟩ := mf.sr n _ _ esn ewn
      obtain ⟨x1, x4, wok⟩ := bok.wheels _ (List.mem_of_getElem? ewn)
      have stn : (handleM ws m n).st.getD n 0 = (m.st.getD n 0 + 1) % ((ws.getD n []).length : Int) := getD_set_self hns
      have stu : ∀ u, u ≠ n → (handleM ws m n).st.getD u 0 = m.st.getD u 0 := fun u hu => getD_set_ne (fun z => hu z.symm)
      have cn : (n :: r).count n = r.count n + 1 := by rw [List.count_cons]; simp
      have cu : ∀ u, u ≠ n → (n :: r).count u = r.count u := fun u hu => by
        rw [List.count_cons]
        have : ¬ n = u := fun z => hu z.symm
        simp [this]
      have hends : endsAt ws m.st n = endsOf ws n (m.st.getD n 0) := by
        unfold endsAt endsOf
        rw [Int.emod_eq_of_lt s0 s1]
      have eok : ∀ x ∈ endsAt ws m.st n, 0 ≤ x ∧ x < (ws.length : Int) + (m.hd.length : Int) := by
        intro x hx
        have hm : endsAt ws m.st n ∈ ws.getD n [] := by
          unfold endsAt
          have hlt : (m.st.getD n 0).toNat < (ws.getD n []).length := by omega
          rw [List.getD_eq_getElem?_getD (l := ws.getD n []), List.getElem?_eq_getElem hlt]
          exact List.getElem_mem hlt
        have := (wok _ hm).2 x hx
        rw [mf.hl]
        exact this
      obtain ⟨g1, g2⟩ := send_get (W := ws.length) (endsAt ws m.st n) (bump m.wt n (-1), m.hd) eok (bump_len.trans mf.wl)
      have cm : ∀ e, came ws m.st (fun u => (n :: r).count u) e = came ws (handleM ws m n).st (fun u => r.count u) e + cnt (endsAt ws m.st n) e := by
        intro e
        unfold came
        rw [sumTo_one ws.length (a := n) hn (f := fun u => sent ws u (m.st.getD u 0) ((n :: r).count u) e) (g := fun u => sent ws u ((handleM ws m n).st.getD u 0) (r.count u) e) (fun u _ hu => by
          show sent ws u (m.st.getD u 0) ((n :: r).count u) e = sent ws u ((handleM ws m n).st.getD u 0) (r.count u) e
          rw [cu u hu, stu u hu])]
        show _ + (sent ws n (m.st.getD n 0) ((n :: r).count n) e - sent ws n ((handleM ws m n).st.getD n 0) (r.count n) e) = _
        rw [cn, sent_front, stn, hends]
        dsimp only
        omega
      refine ⟨mf', fun u hu => ?_, fun u hu => ?_, fun j => ?_⟩
      · rw [h1 u hu]
        by_cases z : u = n
        · subst z
          rw [stn, cn, Int.emod_add_emod]
          congr 1
          omega
        · rw [stu u z, cu u z]
      · rw [h2 u hu, cm u]
        have e1 : (handleM ws m n).wt.getD u 0 = (bump m.wt n (-1)).getD u 0 + cnt (endsAt ws m.st n) u := g1 u hu
        rw [e1, bump_get (by rw [mf.wl]; exact hn)]
        by_cases z : u = n
        · subst z
          rw [if_pos rfl, cn]
          omega
        · rw [if_neg (fun q => z q.symm), cu u z]
          omega
      · rw [h3 j, cm (ws.length + j)]
        have e1 : (handleM ws m n).hd.getD j 0 = m.hd.getD j 0 + cnt (endsAt ws m.st n) (ws.length + j) := g2 j
        rw [e1]
        omega
end K07

set_option maxRecDepth 100000
set_option maxHeartbeats 1000000
namespace K07
open PySem PySem.Spec PyProof.Rows L2 HX
/-! ### the moment behind a let row hangs on its counts alone -/
def byM (ws : List (List (List Int))) (c : Int) (m : Mo) (cs : List Int) : Mo :=
  ⟨(List.range ws.length).map fun i => (m.st.getD i 0 + cs.getD i 0) % ((ws.getD i []).length : Int), (List.range ws.length).map fun i => m.wt.getD i 0 + came ws m.st (fun u => (cs.getD u 0).toNat) i - cs.getD i 0,
    (List.range c.toNat).map fun j => m.hd.getD j 0 + came ws m.st (fun u => (cs.getD u 0).toNat) (ws.length + j)⟩
theorem countsOf_get {W : Nat} {row : List Nat} {u : Nat} (h : u < W) : (countsOf W row).getD u 0 = ((row.count u : Nat) : Int) := by
  unfold countsOf
  rw [List.getD_eq_getElem?_getD, List.getElem?_map, List.getElem?_range h]
  rfl
theorem map_eq {l : List Int} {n : Nat} {f : Nat → Int} (hl : l.length = n) (h : ∀ i, i < n → l.getD i 0 = f i) : l = (List.range n).map f := by
  refine List.ext_getElem? fun i => ?_
  by_cases hi : i < n
  · rw [List.getElem?_map, List.getElem?_range hi, List.getElem?_eq_getElem (by omega)]
    have := h i hi
    rw [List.getD_eq_getElem?_getD, List.getElem?_eq_getElem (by omega)] at this
    exact congrArg some this
  · rw [List.getElem?_eq_none (by omega), List.getElem?_eq_none (by rw [List.length_map, List.length_range]; omega)]
theorem came_congr {ws : List (List (List Int))} {st : List Int} {f g : Nat → Nat} {e : Nat} (h : ∀ u, u < ws.length → f u = g u) : came ws st f e = came ws st g e := by
  unfold came
  exact sumTo_congr _ fun u hu => by rw [h u hu]
theorem by_all {ws : List (List (List Int))} {c : Int} (bok : BoardOk ws c) {row : List Nat} {m m' : Mo} (mf : MoF ws c m) (hrow : ∀ n ∈ row, n < ws.length) (e : walkM ws 0 m row = (none, m')) : m' = byM ws c m (countsOf ws.length row) := by
  obtain ⟨mf', h1, h2, h3⟩ := by_counts bok row 0 m m' mf hrow e
  have hc : ∀ e, came ws m.st (fun u => ((countsOf ws.length row).getD u 0).toNat) e = came ws m.st (fun u => row.count u) e := fun e => came_congr fun u hu => by
    show ((countsOf ws.length row).getD u 0).toNat = row.count u
    rw [countsOf_get hu]
    rfl
  obtain ⟨st, wt, hd⟩ := m'
  unfold byM
  have e1 := map_eq mf'.sl fun i hi => (h1 i hi).trans (by rw [countsOf_get hi] : _ = (m.st.getD i 0 + (countsOf ws.length row).getD i 0) % ((ws.getD i []).length : Int))
  have e2 := map_eq mf'.wl fun i hi => (h2 i hi).trans (by rw [countsOf_get hi, hc] : _ = m.wt.getD i 0 + came ws m.st (fun u => ((countsOf ws.length row).getD u 0).toNat) i - (countsOf ws.length row).getD i 0)
  have e3 := map_eq (n := c.toNat) (by have := mf'.hl; omega) fun j _ => (h3 j).trans (by rw [hc] : _ = m.hd.getD j 0 + came ws m.st (fun u => ((countsOf ws.length row).getD u 0).toNat) (ws.length + j))
  rw [← e1, ← e2, ← e3]
/-- two let rows of the same counts -/
theorem same_counts {ws : List (List (List Int))} {c : Int} (bok : BoardOk ws c) {r1 r2 : List Nat} {m m1 m2 : Mo} (mf : MoF ws c m) (h1 : ∀ n ∈ r1, n < ws.length) (h2 : ∀ n ∈ r2, n < ws.length) (hc : ∀ u, r1.count u = r2.count u) (e1 : walkM ws 0 m r1 = (none, m1)) (e2 : walkM ws 0 m r2 = (none, m2)) : m1 = m2 := by
  rw [by_all bok mf h1 e1, by_all bok mf h2 e2]
  have : countsOf ws.length r1 = countsOf ws.length r2 := by
    unfold countsOf
    refine List.map_congr_left fun u _ => ?_
    rw [hc u]
  rw [this]
/-- a marble handled at another wheel leaves no fewer here -/
theorem waits_on {ws : List (List (List Int))} {c : Int} (bok : BoardOk ws c) {m : Mo} {a b : Nat} (mk : MoOk ws c m) (ha : a < ws.length) (hb : b < ws.length) (hab : a ≠ b) (hpa : 0 < m.wt.getD a 0) : m.wt.getD b 0 ≤ (handleM ws m a).wt.getD b 0 := by
  have e : walkM ws 0 m [a] = (none, handleM ws m a) := walkM_go (by omega)
  obtain ⟨_, _, h2, _⟩ := by_counts bok [a] 0 m _ mk.toMoF (fun n hn => by rw [List.mem_singleton.mp hn]; exact ha) e
  have h := h2 b hb
  have hc : ([a].count b : Nat) = 0 := by simp [List.count_cons, hab]
  have hcm : 0 ≤ came ws m.st (fun u => [a].count u) b := by
    unfold came
    have : ∀ n, 0 ≤ sumTo n fun u => sent ws u (m.st.getD u 0) ([a].count u) b := by
      intro n
      induction n with
      | zero => exact Int.le_refl _
      | succ n ih =>
        show 0 ≤ sumTo n _ + sent ws n _ _ b
        have hs : 0 ≤ sent ws n (m.st.getD n 0) ([a].count n) b := by
          unfold sent
          generalize [a].count n = k
          induction k with
          | zero => exact Int.le_refl _
          | succ k ih2 =>
            show 0 ≤ sumTo k _ + cnt _ b
            have : 0 ≤ cnt (endsOf ws n (m.st.getD n 0 + (k : Int))) b := Int.natCast_nonneg _
            omega
        omega
    exact this _
  rw [hc] at h
  omega
/-- two at which a marble waits, either way about -/
theorem two_alike {ws : List (List (List Int))} {c : Int} (bok : BoardOk ws c) {m : Mo} {a b : Nat} (mk : MoOk ws c m) (ha : a < ws.length) (hb : b < ws.length) (hab : a ≠ b) (hpa : 0 < m.wt.getD a 0) (hpb : 0 < m.wt.getD b 0) : handleM ws (handleM ws m a) b = handleM ws (handleM ws m b) a := by
  have h1 := waits_on bok mk ha hb hab hpa
  have h2 := waits_on bok mk hb ha (fun z => hab z.symm) hpb
  have e1 : walkM ws 0 m [a, b] = (none, handleM ws (handleM ws m a) b) := by
    rw [walkM_go (by omega), walkM_go (by omega)]
    rfl
  have e2 : walkM ws 0 m [b, a] = (none, handleM ws (handleM ws m b) a) := by
    rw [walkM_go (by omega), walkM_go (by omega)]
    rfl
  refine same_counts bok mk.toMoF (fun n hn => ?_) (fun n hn => ?_) (fun u => ?_) e1 e2
  · simp at hn
    rcases hn with rfl | rfl <;> assumption
  · simp at hn
    rcases hn with rfl | rfl <;> assumption
  · simp only [List.count_cons, List.count_nil]
    omega
end K07

set_option maxRecDepth 100000
set_option maxHeartbeats 1000000
namespace K07
open PySem PySem.Spec PyProof.Rows L2 HX
abbrev s__law_came : Stmt := topS 41
theorem sc__law_came : FnScope ["_law_board_here", "_law_stand", "_law_counts", "_law_found", "_law_wheel", "_law_many", "_law_steps", "_law_turn", "_law_end"] ["_law_board_here", "_law_stand", "_law_counts"] (defScope s__law_came) := ⟨rfl, rfl, rfl, by decide +kernel, rfl, by decide +kernel, by decide +kernel⟩
abbrev s__law_by_counts : Stmt := topS 42
theorem sc__law_by_counts : FnScope ["_law_board_here", "_law_moment_here", "_law_counts", "_law_stand", "_law_waiting", "_law_held", "_law_came_here", "_law_later", "_law_left", "_law_filled", "_law_at", "_law_many", "_law_wheel", "_law_more", "_law_gone"] ["_law_board_here", "_law_moment_here", "_law_counts"] (defScope s__law_by_counts) := ⟨rfl, rfl, rfl, by decide +kernel, rfl, by decide +kernel, by decide +kernel⟩
theorem flat_zeros : ∀ n : Nat, (List.replicate n [V.int 0]).flatten = (List.replicate n (0 : Int)).map V.int
  | 0 => rfl
  | n + 1 => by
    rw [List.replicate_succ, List.flatten_cons, flat_zeros n, List.replicate_succ]
    rfl
theorem zeros_get (n e : Nat) : (List.replicate n (0 : Int)).getD e 0 = 0 := by
  rw [List.getD_eq_getElem?_getD, List.getElem?_replicate]
  split <;> rfl
section
variable {P : Program} {w : World} {K : PySem.W.Frag} {mg : Str → Option Value} {base : Heap} {k : Nat}
def spCame : Sp := fun vs H Q _ => ∃ (vb : V) (S C : Addr) (ws : List (List (List Int))) (c : Int) (st cs : List Int), vs = [vb, .ref S, .ref C] ∧ Td H vb (boardD ws c) ∧ BoardOk ws c ∧ H S = some (.tup (st.map V.int)) ∧ st.length = ws.length ∧ H C = some (.tup (cs.map V.int)) ∧ cs.length = ws.length ∧ (∀ x ∈ cs, 0 ≤ x ∧ x ≤ 1000) ∧
  ∀ (D : Addr) (fl : List Int) (H' : Hp), Same H H' → H' D = some (.lst (fl.map V.int)) → (fl.length : Int) = (ws.length : Int) + c → (∀ e, fl.getD e 0 = came ws st (fun u => (cs.getD u 0).toNat) e) → Q (.ref D) H'
theorem ok_came (D : Def K mg "_law_came" s__law_came ["_law_board_here", "_law_stand", "_law_counts"]) (B : Bi mg) (B2 : Bi2 mg) : Cal P w K mg base (k + 1) "_law_came" ["_law_board_here", "_law_stand", "_law_counts"] spCame := by
  refine D.ok sc__law_came (fun vs H Q E h => ?_) (fun f cdv A outer s H vs Q E hr h => ?_)
  · obtain ⟨vb, S, C, ws, c, st, cs, rfl, _⟩ := h
    rfl
  · obtain ⟨vb, S, C, ws, c, st, cs, rfl, tb, bok, eS, sl, eC, cl, cr, q⟩ := h
    refine ⟨_, (pss_cons (ps_set (i := 3) sc__law_came.nd rfl (Or.inl rfl) (pe_op op_rep (pe_lst (pa_cons pe_int pa_nil)) (pe_op op_add (pe_callB call_len_seq rfl B.len_ (by decide +kernel) (pa_cons (pe_ix ix_tup (pv 0) pe_int (fun _ _ => rfl)) pa_nil)) (pe_ix ix_tup (pv 0) pe_int (fun _ _ => rfl)))))
  (pss_cons (ps_for PassesOwn.never rfl (pi_enumT rfl B2.enumerate_ (pa_cons (pv 2) pa_nil)) (pg_tup rfl (pgs_cons (pg_name (i := 4) sc__law_came.nd rfl (Or.inl rfl)) (pgs_cons (pg_name (i := 5) sc__law_came.nd rfl (Or.inl rfl)) pgs_nil)))
  (pss_cons (ps_set (i := 6) sc__law_came.nd rfl (Or.inl rfl) (pe_ix ix_tup (pe_ix ix_tup (pv 0) pe_int (fun _ _ => rfl)) (pv 4) (fun _ _ => rfl)))
  (pss_one (ps_for PassesOwn.never rfl (pi_range1 rfl B.range_ (pa_cons (pv 5) pa_nil)) (pg_name (i := 7) sc__law_came.nd rfl (Or.inl rfl))
  (pss_one (ps_for PassesOwn.never rfl (pi_tup (pe_ix ix_tup (pv 6) (pe_op op_mod (pe_op op_add (pe_ix ix_tup (pv 1) (pv 4) (fun _ _ => rfl)) (pv 7)) (pe_callB call_len_seq rfl B.len_ (by decide +kernel) (pa_cons (pv 6) pa_nil))) (fun _ _ => rfl))) (pg_name (i := 8) sc__law_came.nd rfl (Or.inl rfl))
  (pss_one (ps_asg (pe_op op_add (pe_ix ix_list (pv 3) (pv 8) (fun _ _ => rfl)) pe_int) (pg_sub (pv 3) (pv 8) set_list)))))))))
  (pss_one (ps_ret (pv 3))))), ?_⟩
    obtain ⟨ab, aw, ys, rfl, eb, ew, hy⟩ := Td.boardOf tb
    have hl : ys.length = ws.length := by rw [hy.len, List.length_map]
    have w6 := bok.w6
    have c0 := bok.c0
    have c4 := bok.c4
    -- found
    refine ⟨by show 1 ≤ sizeLine; decide, fun L nL => ?_⟩
    have sL : Same H (upd H L (.lst [V.int 0])) := Same.new nL
    refine ⟨.ref ab, rfl, ab, _, 0, _, rfl, rfl, SqT.of (sL _ _ eb), atI_nat (j := 0) rfl, aw, ys, rfl, .inr (SqT.of (sL _ _ ew)), .ref ab, rfl, ab, _, 1, _, rfl, rfl, SqT.of (sL _ _ eb), atI_nat (j := 1) rfl, _, _, rfl, rfl, L, _, [V.int 0], rfl, rfl, upd_same, by omega, by omega, ?_, fun F nF => ?_⟩
    · show 1 * ((ys.length : Int) + c).toNat ≤ sizeLine
      exact Nat.le_of_lt (small1000 (by omega))
    rw [flat_zeros]
    have sF := Same.new (o := .lst ((List.replicate ((ys.length : Int) + c).toNat (0 : Int)).map V.int)) nF
    have nF0 : H F = none := by
      cases e : H F with
      | none => rfl
      | some o => rw [sL _ _ e] at nF; cases nF
    have s1 : Same H (upd (upd H L (.lst [V.int 0])) F (.lst ((List.replicate ((ys.length : Int) + c).toNat (0 : Int)).map V.int))) := sL.trans sF
    have eF1 : (upd (upd H L (.lst [V.int 0])) F (.lst ((List.replicate ((ys.length : Int) + c).toNat (0 : Int)).map V.int))) F = some (.lst ((List.replicate ((ys.length : Int) + c).toNat (0 : Int)).map V.int)) := upd_same
    generalize upd (upd H L (.lst [V.int 0])) F (.lst ((List.replicate ((ys.length : Int) + c).toNat (0 : Int)).map V.int)) = H1 at s1 eF1 ⊢
    have put : ∀ {Ha : Hp} {o : HO}, Same H Ha → Same H (upd Ha F o) := fun {Ha o} sa b x e => by
      rw [upd_ne (ne_of_none e nF0)]
      exact sa _ _ e
    -- wheel by wheel
    refine ⟨.ref C, rfl, .t, C, _, rfl, SqT.of (s1 _ _ eC), ?_⟩
    refine for_it (walk_enumK (xs := cs.map V.int)) (fun i σ Hi => ∃ (fl : List Int) (y4 y5 y6 y7 y8 : Option V), σ = [some (.ref ab), some (.ref S), some (.ref C), some (.ref F), y4, y5, y6, y7, y8] ∧ Same H Hi ∧ Hi F = some (.lst (fl.map V.int)) ∧ (fl.length : Int) = (ws.length : Int) + c ∧ ∀ e, fl.getD e 0 = sumTo i fun u => sent ws u (st.getD u 0) (cs.getD u 0).toNat e) ⟨_, none, none, none, none, none, rfl, s1, eF1, by rw [List.length_replicate]; omega, fun e => zeros_get _ e⟩ (fun i σ Hi _ pp => ?_) (fun i x σ Hi H2 hi pp y => ?_) (fun σ Hi pp => ?_)
    · obtain ⟨fl, y4, y5, y6, y7, y8, _, si, _⟩ := pp
      exact SqT.of (si _ _ eC)
    · obtain ⟨fl, y4, y5, y6, y7, y8, rfl, si, eF, fll, flr⟩ := pp
      obtain ⟨U, xi, xn, rfl, nU, rfl, ei, en⟩ := y
      obtain rfl := Option.some.inj ei
      rw [List.length_map] at hi
      have en' : (cs.map V.int)[i]? = some xn := en
      rw [getI hi] at en'
      obtain rfl := Option.some.inj en'
      have hiw : i < ws.length := by omega
      have hcm : cs.getD i 0 ∈ cs := by
        rw [List.getD_eq_getElem?_getD, List.getElem?_eq_getElem hi]
        exact List.getElem_mem hi
      obtain ⟨n0, n1⟩ := cr _ hcm
      generalize hcs : cs.getD i 0 = many at n0 n1 nU ⊢
      have sU : Same Hi (upd Hi U (.tup [.int (i : Nat), .int many])) := Same.new nU
      refine ⟨U, _, rfl, SqT.of upd_same, rfl, _, _, rfl, _, _, rfl, rfl, ?_⟩
      have s2 := si.trans sU
      have eF2 := sU _ _ eF
      generalize upd Hi U (.tup [.int (i : Nat), .int many]) = H2 at s2 eF2 ⊢
      obtain ⟨az, zs, ey, ez, hz⟩ := hy.wheelAt hiw
      have ewn : ws[i]? = some (ws.getD i []) := by rw [List.getD_eq_getElem?_getD, List.getElem?_eq_getElem hiw]; rfl
      obtain ⟨x1, x4, wok⟩ := bok.wheels _ (List.mem_of_getElem? ewn)
      have hzl : zs.length = (ws.getD i []).length := by rw [hz.len, List.length_map]
      refine ⟨.ref ab, rfl, ab, _, 0, _, rfl, rfl, SqT.of (s2 _ _ eb), atI_nat (j := 0) rfl, .int (i : Nat), rfl, aw, _, i, _, rfl, rfl, SqT.of (s2 _ _ ew), atI_nat ey, ?_⟩
      -- turn by turn
      refine ⟨.int many, rfl, many, rfl, by omega, by omega, for_range (n := _) (fun t σ Ht => ∃ (fl : List Int) (y7 y8 : Option V), σ = [some (.ref ab), some (.ref S), some (.ref C), some (.ref F), some (.int (i : Nat)), some (.int many), some (.ref az), y7, y8] ∧ Same H Ht ∧ Ht F = some (.lst (fl.map V.int)) ∧ (fl.length : Int) = (ws.length : Int) + c ∧ ∀ e, fl.getD e 0 = (sumTo i fun u => sent ws u (st.getD u 0) (cs.getD u 0).toNat e) + sent ws i (st.getD i 0) t e) ⟨fl, y7, y8, rfl, s2, eF2, fll, fun e => by rw [flr e]; unfold sent; show _ = _ + 0; omega⟩ (fun t σ Ht ht pp => ?_) (fun σ Ht pp => ?_)⟩
      · obtain ⟨fl, y7, y8, rfl, s3, eF3, fll, flr⟩ := pp
        have e0 : (0 : Int) + (t : Int) = (t : Int) := Int.zero_add _
        have hmod0 : 0 ≤ (st.getD i 0 + (0 + (t : Int))) % (zs.length : Int) := Int.emod_nonneg _ (by omega)
        have hmod1 : (st.getD i 0 + (0 + (t : Int))) % (zs.length : Int) < (zs.length : Int) := Int.emod_lt_of_pos _ (by omega)
        obtain ⟨sn, hsn⟩ : ∃ sn : Nat, (st.getD i 0 + (0 + (t : Int))) % (zs.length : Int) = (sn : Int) := ⟨((st.getD i 0 + (0 + (t : Int))) % (zs.length : Int)).toNat, by omega⟩
        have hsnl : sn < (ws.getD i []).length := by omega
        obtain ⟨ae, ee, ees⟩ := hz.stepAt hsnl
        have hends : endsOf ws i (st.getD i 0 + (t : Int)) = (ws.getD i []).getD sn [] := by
          unfold endsOf
          rw [← hzl, ← e0, hsn]
          rfl
        have eok := wok ((ws.getD i []).getD sn []) (List.mem_of_getElem? (show (ws.getD i [])[sn]? = some _ by rw [List.getD_eq_getElem?_getD (l := ws.getD i []) (i := sn), List.getElem?_eq_getElem hsnl]; rfl))
        refine ⟨.ref az, rfl, .ref S, rfl, .int (i : Nat), rfl, S, _, i, _, rfl, rfl, SqT.of (s3 _ _ eS), atI_nat (getI (by omega)), .int (0 + (t : Int)), rfl, _, _, rfl, rfl, .ref az, rfl, az, zs, rfl, .inr (SqT.of (s3 _ _ ez)), _, _, rfl, rfl, by show (0 : Int) < (zs.length : Int); omega, az, zs, _, .ref ae, rfl, rfl, SqT.of (s3 _ _ ez), by rw [hsn]; exact atI_nat ee, ae, rfl, ⟨_, SqT.of (s3 _ _ ees)⟩, ?_⟩
        refine for_tup (xs := ((ws.getD i []).getD sn []).map V.int) (fun j σ Hj => ∃ y8 : Option V, σ = [some (.ref ab), some (.ref S), some (.ref C), some (.ref F), some (.int (i : Nat)), some (.int many), some (.ref az), some (.int (0 + (t : Int))), y8] ∧ Same H Hj ∧ Hj F = some (.lst (((((ws.getD i []).getD sn []).take j).foldl addE fl).map V.int))) ⟨y8, rfl, s3, eF3⟩ (fun j σ Hj _ pp => ?_) (fun j x σ Hj hx pp => ?_) (fun σ Hj pp => ?_)
        · obtain ⟨y8, _, s4, _⟩ := pp
          exact SqT.of (s4 _ _ ees)
        · obtain ⟨y8, rfl, s4, eF4⟩ := pp
          rw [List.getElem?_map] at hx
          cases ex : ((ws.getD i []).getD sn [])[j]? with
          | none => rw [ex] at hx; cases hx
          | some e =>
            rw [ex] at hx
            cases hx
            obtain ⟨q0, q1⟩ := eok.2 e (List.mem_of_getElem? ex)
            have tk : (((ws.getD i []).getD sn []).take (j + 1)).foldl addE fl = addE ((((ws.getD i []).getD sn []).take j).foldl addE fl) e := by rw [List.take_add_one, ex, List.foldl_append]; rfl
            have ln : ((((ws.getD i []).getD sn []).take j).foldl addE fl).length = fl.length := addE_len _ _
            rw [tk]
            generalize (((ws.getD i []).getD sn []).take j).foldl addE fl = g at eF4 ln ⊢
            obtain ⟨en, rfl⟩ : ∃ en : Nat, e = (en : Int) := ⟨e.toNat, by omega⟩
            have hen : en < g.length := by omega
            refine ⟨.ref F, rfl, .int en, rfl, F, _, en, _, rfl, rfl, SqL.of eF4, atI_nat (getI hen), _, 1, rfl, rfl, .ref F, rfl, .int en, rfl, F, _, en, en, rfl, rfl, eF4, ixN_nat (by rw [List.length_map]; exact hen), ?_⟩
            rw [setI]
            exact ⟨some (.int en), rfl, put s4, upd_same⟩
        · obtain ⟨y8, rfl, s4, eF4⟩ := pp
          rw [List.length_map, List.take_length] at eF4
          refine ⟨_, some (.int (0 + (t : Int))), y8, rfl, s4, eF4, by rw [addE_len]; exact fll, fun e => ?_⟩
          rw [addE_get _ _ _ (fun x hx => by rw [fll]; exact eok.2 x hx), flr e]
          unfold sent
          show _ = _ + (sumTo t _ + cnt (endsOf ws i (st.getD i 0 + (t : Int))) e)
          rw [hends]
          omega
      · obtain ⟨fl, y7, y8, rfl, s3, eF3, fll, flr⟩ := pp
        refine ⟨fl, some (.int (i : Nat)), some (.int many), some (.ref az), y7, y8, rfl, s3, eF3, fll, fun e => ?_⟩
        rw [flr e]
        show _ = (sumTo i fun u => sent ws u (st.getD u 0) (cs.getD u 0).toNat e) + sent ws i (st.getD i 0) (cs.getD i 0).toNat e
        rw [hcs]
    · obtain ⟨fl, y4, y5, y6, y7, y8, rfl, si, eF, fll, flr⟩ := pp
      refine ⟨.ref F, rfl, q F fl Hi si eF fll fun e => ?_⟩
      rw [flr e, List.length_map, cl]
      rfl
end
end K07

set_option maxRecDepth 100000
set_option maxHeartbeats 1000000
namespace K07
open PySem PySem.Spec PyProof.Rows L2 HX
theorem s_gn {i : Nat} {x : V} {σ : L2.St} {H : Hp} {Q : L2.St → Hp → Prop} (h : Q (σ.set i (some x)) H) : gName i x σ H Q := h
theorem lc_intsJ {n : Nat} {PJ : It → Hp → Prop} {σ : L2.St} {H : Hp} {Q : VK} {g : TG} {te : TE} {wi : TI} {vs : List Nat} (z : Nat → Int) (hwi : ∀ R : It → Hp → Prop, (∀ J H1, Same H H1 → PJ J H1 → R J H1) → wi σ H R) (hz : n ≤ 1000)
    (hb : ∀ J H1, Same H H1 → PJ J H1 → ∃ (G : Hp → Prop) (Y : Nat → Hp → V → Hp → Prop), Walk J n G Y ∧ (∀ H', Same H1 H' → G H') ∧ ∀ (i : Nat) (x : V) (Ha Hb : Hp), i < n → Same H1 Ha → Y i Ha x Hb → ∀ Q' : VK, (∀ H3, Same Ha H3 → Q' (.int (z i)) H3) → g x (wipe σ vs) Hb fun σ2 H3 => wipe σ2 vs = wipe σ vs ∧ te σ2 H3 Q')
    (q : ∀ (D : Addr) (H' : Hp), Same H H' → H' D = some (.lst (((List.range n).map z).map V.int)) → H D = none → Q (.ref D) H') : tLc wi g tYes te vs σ H Q := by
  refine hwi _ fun J H1 s1 pj => ?_
  obtain ⟨G, Y, wk, hG, ht⟩ := hb J H1 s1 pj
  have h := lc_intsG (H := H1) (σ := σ) (Q := Q) (g := g) (te := te) (vs := vs) (wi := fun _ H R => R J H) wk z (fun R r => r) hz hG ht (fun D H' s' e nd => q D H' (s1.trans s') e (by
    cases e' : H D with
    | none => rfl
    | some o => rw [s1 _ _ e'] at nd; cases nd))
  exact h
section
variable {P : Program} {w : World} {K : PySem.W.Frag} {mg : Str → Option Value} {base : Heap} {k : Nat}
def spBy : Sp := fun vs H Q _ => ∃ (vb v : V) (C : Addr) (ws : List (List (List Int))) (c : Int) (m : Mo) (cs : List Int), vs = [vb, v, .ref C] ∧ Td H vb (boardD ws c) ∧ BoardOk ws c ∧ Td H v (moD m) ∧ MoF ws c m ∧ H C = some (.tup (cs.map V.int)) ∧ cs.length = ws.length ∧ (∀ x ∈ cs, 0 ≤ x ∧ x ≤ 1000) ∧
  ∀ (v' : V) (H' : Hp), Same H H' → Td H' v' (moD (byM ws c m cs)) → Q v' H'
theorem ok_by (D : Def K mg "_law_by_counts" s__law_by_counts ["_law_board_here", "_law_moment_here", "_law_counts"]) (B : Bi mg) (B2 : Bi2 mg) (c__law_came : Cal P w K mg base k "_law_came" ["_law_board_here", "_law_stand", "_law_counts"] spCame) :
    Cal P w K mg base (k + 1) "_law_by_counts" ["_law_board_here", "_law_moment_here", "_law_counts"] spBy := by
  refine D.ok sc__law_by_counts (fun vs H Q E h => ?_) (fun f cdv A outer s H vs Q E hr h => ?_)
  · obtain ⟨vb, v, C, ws, c, m, cs, rfl, _⟩ := h
    rfl
  · obtain ⟨vb, v, C, ws, c, m, cs, rfl, tb, bok, tv, mf, eC, cl, cr, q⟩ := h
    refine ⟨_, (pss_cons (ps_asg (pv 1) (pg_tup rfl (pgs_cons (pg_name (i := 3) sc__law_by_counts.nd rfl (Or.inl rfl)) (pgs_cons (pg_name (i := 4) sc__law_by_counts.nd rfl (Or.inl rfl)) (pgs_cons (pg_name (i := 5) sc__law_by_counts.nd rfl (Or.inl rfl)) pgs_nil)))))
  (pss_cons (ps_set (i := 6) sc__law_by_counts.nd rfl (Or.inl rfl) (pe_cal c__law_came hr rfl (pa_cons (pv 0) (pa_cons (pv 3) (pa_cons (pv 2) pa_nil)))))
  (pss_cons (ps_setLc (i := 7) (own := [("_law_at", 10), ("_law_many", 11), ("_law_wheel", 12)]) rfl sc__law_by_counts.nd rfl rfl (sw_true rfl rfl rfl (by decide +kernel)) (pi_zip3 rfl B2.zip_ (pa_cons (pv 3) (pa_cons (pv 2) (pa_cons (pe_ix ix_tup (pv 0) pe_int (fun _ _ => rfl)) pa_nil)))) (blkOk_by (N := ["_law_board_here", "_law_moment_here", "_law_counts", "_law_stand", "_law_waiting", "_law_held", "_law_came_here", "_law_later", "_law_left", "_law_filled", "_law_at", "_law_many", "_law_wheel", "_law_more", "_law_gone"]) (sc := defScope s__law_by_counts) (by decide +kernel)) (fun _ _ _ _ _ => (pg_tupK (K := K) (n := 3) rfl (pgs_cons (pg_name (i := 10) sc__law_by_counts.nd rfl (Or.inl rfl)) (pgs_cons (pg_name (i := 11) sc__law_by_counts.nd rfl (Or.inl rfl)) (pgs_cons (pg_name (i := 12) sc__law_by_counts.nd rfl (Or.inl rfl)) pgs_nil))))) (fun _ _ _ _ _ => pts_nil) (fun _ _ _ _ _ => (pe_op op_mod (pe_op op_add (pv 10) (pv 11)) (pe_callB (id := "len") (call_len_seqK (K := K)) rfl B.len_ (by decide +kernel) (pa_cons (pv 12) pa_nil)))))
  (pss_cons (ps_setLc (i := 8) (own := [("_law_many", 11), ("_law_more", 13), ("_law_gone", 14)]) rfl sc__law_by_counts.nd rfl rfl (sw_true rfl rfl rfl (by decide +kernel)) (pi_zip3 rfl B2.zip_ (pa_cons (pv 4) (pa_cons (pv 6) (pa_cons (pv 2) pa_nil)))) (blkOk_by (N := ["_law_board_here", "_law_moment_here", "_law_counts", "_law_stand", "_law_waiting", "_law_held", "_law_came_here", "_law_later", "_law_left", "_law_filled", "_law_at", "_law_many", "_law_wheel", "_law_more", "_law_gone"]) (sc := defScope s__law_by_counts) (by decide +kernel)) (fun _ _ _ _ _ => (pg_tupK (K := K) (n := 3) rfl (pgs_cons (pg_name (i := 11) sc__law_by_counts.nd rfl (Or.inl rfl)) (pgs_cons (pg_name (i := 13) sc__law_by_counts.nd rfl (Or.inl rfl)) (pgs_cons (pg_name (i := 14) sc__law_by_counts.nd rfl (Or.inl rfl)) pgs_nil))))) (fun _ _ _ _ _ => pts_nil) (fun _ _ _ _ _ => (pe_op op_sub (pe_op op_add (pv 11) (pv 13)) (pv 14))))
  (pss_cons (ps_setLc (i := 9) (own := [("_law_many", 11), ("_law_more", 13)]) rfl sc__law_by_counts.nd rfl rfl (sw_true rfl rfl rfl (by decide +kernel)) (pi_zip2 rfl B2.zip_ (pa_cons (pv 5) (pa_cons (pe_slice sl_list (pv 6) (po_some (pe_callB call_len_seq rfl B.len_ (by decide +kernel) (pa_cons (pe_ix ix_tup (pv 0) pe_int (fun _ _ => rfl)) pa_nil))) po_none) pa_nil))) (blkOk_by (N := ["_law_board_here", "_law_moment_here", "_law_counts", "_law_stand", "_law_waiting", "_law_held", "_law_came_here", "_law_later", "_law_left", "_law_filled", "_law_at", "_law_many", "_law_wheel", "_law_more", "_law_gone"]) (sc := defScope s__law_by_counts) (by decide +kernel)) (fun _ _ _ _ _ => (pg_tupK (K := K) (n := 2) rfl (pgs_cons (pg_name (i := 11) sc__law_by_counts.nd rfl (Or.inl rfl)) (pgs_cons (pg_name (i := 13) sc__law_by_counts.nd rfl (Or.inl rfl)) pgs_nil)))) (fun _ _ _ _ _ => pts_nil) (fun _ _ _ _ _ => (pe_op op_add (pv 11) (pv 13))))
  (pss_one (ps_ret (pe_tup (pa_cons (pe_callTy call_tuple_of rfl B.tuple_ (by decide +kernel) (pa_cons (pv 7) pa_nil)) (pa_cons (pe_callTy call_tuple_of rfl B.tuple_ (by decide +kernel) (pa_cons (pv 8) pa_nil)) (pa_cons (pe_callTy call_tuple_of rfl B.tuple_ (by decide +kernel) (pa_cons (pv 9) pa_nil)) pa_nil))))))))))), ?_⟩
    have tb0 := tb
    obtain ⟨ab, aw, ys, rfl, eb, ew, hy⟩ := Td.boardOf tb
    obtain ⟨TM, b1, b2, b3, rfl, eT, f1, f2, f3⟩ := moD_of tv
    have hl : ys.length = ws.length := by rw [hy.len, List.length_map]
    have w6 := bok.w6
    have c0 := bok.c0
    have c4 := bok.c4
    have sl := mf.sl
    have wl := mf.wl
    have hdl := mf.hl
    refine ⟨.ref TM, rfl, TM, _, rfl, SqT.of eT, rfl, _, _, rfl, _, _, rfl, _, _, rfl, rfl, ?_⟩
    refine ⟨.ref ab, rfl, .ref b1, rfl, .ref C, rfl, _, b1, C, ws, c, m.st, cs, rfl, tb0, bok, f1, sl, eC, cl, cr, fun F fl H1 s1 eF fll flr => ?_⟩
    -- later
    try dsimp only
    refine s_gn ?_
    try dsimp only
    refine s_asg ?_
    refine lc_intsG (J := Itz3 K .t b1 .t C .t aw) (n := ws.length) (walk_zip3 (xs := m.st.map V.int) (ys := cs.map V.int) (zs := ys) (by rw [List.length_map, List.length_map]; omega)) (fun i => (m.st.getD i 0 + cs.getD i 0) % ((ws.getD i []).length : Int))
      (fun R r => ⟨.ref b1, rfl, .ref C, rfl, .ref ab, rfl, ab, _, 0, _, rfl, rfl, SqT.of (s1 _ _ eb), atI_nat (j := 0) rfl, .t, b1, .t, C, .t, aw, _, _, _, rfl, SqT.of (s1 _ _ f1), SqT.of (s1 _ _ eC), SqT.of (s1 _ _ ew), r⟩) (by omega) (fun H' s' => ⟨SqT.of (s' _ _ (s1 _ _ f1)), SqT.of (s' _ _ (s1 _ _ eC)), SqT.of (s' _ _ (s1 _ _ ew))⟩) (fun i x H2 H3 hi s2 y Q' q' => ?_) (fun D1 H2 s2 eD1 nD1 => ?_)
    · obtain ⟨U, xa, xb, xc, rfl, nU, rfl, ea, eb', ec⟩ := y
      have ea' : (m.st.map V.int)[i]? = some xa := ea
      have eb2 : (cs.map V.int)[i]? = some xb := eb'
      rw [getI (by omega)] at ea' eb2
      obtain rfl := Option.some.inj ea'
      obtain rfl := Option.some.inj eb2
      obtain ⟨az, zs, ey, ez, hz⟩ := hy.wheelAt hi
      have ec' : ys[i]? = some xc := ec
      rw [ey] at ec'
      obtain rfl := Option.some.inj ec'
      have ewn : ws[i]? = some (ws.getD i []) := by rw [List.getD_eq_getElem?_getD, List.getElem?_eq_getElem hi]; rfl
      obtain ⟨x1, x4, _⟩ := bok.wheels _ (List.mem_of_getElem? ewn)
      have hzl : zs.length = (ws.getD i []).length := by rw [hz.len, List.length_map]
      have sU := Same.new (o := .tup [V.int (m.st.getD i 0), .int (cs.getD i 0), .ref az]) nU
      refine ⟨U, _, rfl, SqT.of upd_same, rfl, _, _, rfl, _, _, rfl, _, _, rfl, rfl, wipe3 (by decide) (by decide) (by decide) _ _ _, .int (m.st.getD i 0), rfl, .int (cs.getD i 0), rfl, _, _, rfl, rfl, .ref az, rfl, az, zs, rfl, .inr (SqT.of (sU _ _ (s2 _ _ (s1 _ _ ez)))), _, _, rfl, rfl, by show (0 : Int) < (zs.length : Int); omega, ?_⟩
      rw [hzl]
      exact q' _ (Same.new nU)
    have s12 := s1.trans s2
    -- left
    try dsimp only
    refine s_asg ?_
    refine lc_intsG (J := Itz3 K .t b2 .l F .t C) (n := ws.length) (walk_zip3 (xs := m.wt.map V.int) (ys := fl.map V.int) (zs := cs.map V.int) (by rw [List.length_map, List.length_map, List.length_map]; omega)) (fun i => m.wt.getD i 0 + came ws m.st (fun u => (cs.getD u 0).toNat) i - cs.getD i 0)
      (fun R r => ⟨.ref b2, rfl, .ref F, rfl, .ref C, rfl, .t, b2, .l, F, .t, C, _, _, _, rfl, SqT.of (s12 _ _ f2), SqL.of (s2 _ _ eF), SqT.of (s12 _ _ eC), r⟩) (by omega) (fun H' s' => ⟨SqT.of (s' _ _ (s12 _ _ f2)), SqL.of (s' _ _ (s2 _ _ eF)), SqT.of (s' _ _ (s12 _ _ eC))⟩) (fun i x H3 H4 hi s3 y Q' q' => ?_) (fun D2 H3 s3 eD2 nD2 => ?_)
    · obtain ⟨U, xa, xb, xc, rfl, nU, rfl, ea, eb', ec⟩ := y
      have ea' : (m.wt.map V.int)[i]? = some xa := ea
      have eb2 : (fl.map V.int)[i]? = some xb := eb'
      have ec2 : (cs.map V.int)[i]? = some xc := ec
      rw [getI (by omega)] at ea' eb2 ec2
      obtain rfl := Option.some.inj ea'
      obtain rfl := Option.some.inj eb2
      obtain rfl := Option.some.inj ec2
      have sU := Same.new (o := .tup [V.int (m.wt.getD i 0), .int (fl.getD i 0), .int (cs.getD i 0)]) nU
      refine ⟨U, _, rfl, SqT.of upd_same, rfl, _, _, rfl, _, _, rfl, _, _, rfl, rfl, wipe3 (by decide) (by decide) (by decide) _ _ _, .int (m.wt.getD i 0), rfl, .int (fl.getD i 0), rfl, _, _, rfl, rfl, .int (cs.getD i 0), rfl, _, _, rfl, rfl, ?_⟩
      rw [flr i]
      exact q' _ (Same.new nU)
    have s13 := s12.trans s3
    -- filled
    try dsimp only
    refine s_asg ?_
    refine lc_intsJ (n := c.toNat) (PJ := fun J H4 => ∃ G, J = Itz2 K .t b3 .l G ∧ H4 G = some (.lst ((fl.drop ws.length).map V.int))) (fun j => m.hd.getD j 0 + came ws m.st (fun u => (cs.getD u 0).toNat) (ws.length + j)) (fun R r => ?_) (by omega) (fun J H4 s4 pj => ?_) (fun D3 H4 s4 eD3 nD3 => ?_)
    · refine ⟨.ref b3, rfl, .ref F, rfl, .ref ab, rfl, ab, _, 0, _, rfl, rfl, SqT.of (s13 _ _ eb), atI_nat (j := 0) rfl, aw, ys, rfl, .inr (SqT.of (s13 _ _ ew)), _, rfl, np ⟨F, _, rfl, SqL.of (s3 _ _ (s2 _ _ eF)), fun G nG => ?_⟩⟩
      rw [cut_from _ _ (by rw [List.length_map]; omega), hl, ← List.map_drop]
      have sG := Same.new (o := .lst ((fl.drop ws.length).map V.int)) nG
      exact ⟨.t, b3, .l, G, _, _, rfl, SqT.of (sG _ _ (s13 _ _ f3)), SqL.of upd_same, r _ _ sG ⟨G, rfl, upd_same⟩⟩
    · obtain ⟨G, rfl, eG⟩ := pj
      refine ⟨_, _, walk_zip2 (K := K) (k1 := .t) (k2 := .l) (a := b3) (b := G) (xs := m.hd.map V.int) (ys := (fl.drop ws.length).map V.int) (by rw [List.length_map, List.length_map, List.length_drop]; omega), fun H' s' => ⟨SqT.of (s' _ _ (s4 _ _ (s13 _ _ f3))), SqL.of (s' _ _ eG)⟩, fun i x Ha Hb hi sa y Q' q' => ?_⟩
      obtain ⟨U, xa, xb, rfl, nU, rfl, ea, eb'⟩ := y
      have ea' : (m.hd.map V.int)[i]? = some xa := ea
      have eb2 : ((fl.drop ws.length).map V.int)[i]? = some xb := eb'
      rw [getI (by omega)] at ea'
      rw [getI (by rw [List.length_drop]; omega)] at eb2
      obtain rfl := Option.some.inj ea'
      obtain rfl := Option.some.inj eb2
      have hfd : (fl.drop ws.length).getD i 0 = fl.getD (ws.length + i) 0 := by
        rw [List.getD_eq_getElem?_getD, List.getElem?_drop, List.getD_eq_getElem?_getD]
      have sU := Same.new (o := .tup [V.int (m.hd.getD i 0), .int ((fl.drop ws.length).getD i 0)]) nU
      refine ⟨U, _, rfl, SqT.of upd_same, rfl, _, _, rfl, _, _, rfl, rfl, wipe2 (by decide) _ _, .int (m.hd.getD i 0), rfl, .int ((fl.drop ws.length).getD i 0), rfl, _, _, rfl, rfl, ?_⟩
      rw [hfd, flr]
      exact q' _ (Same.new nU)
    · have eD24 := s4 _ _ eD2
      have eD14 := s4 _ _ (s3 _ _ eD1)
      refine ⟨.ref D1, rfl, D1, _, rfl, .inl ⟨SqL.of eD14, fun T1 n1 => ?_⟩⟩
      have sA := Same.new (o := .tup ((byM ws c m cs).st.map V.int)) n1
      refine ⟨.ref D2, rfl, D2, _, rfl, .inl ⟨SqL.of (sA _ _ eD24), fun T2 n2 => ?_⟩⟩
      have sB := Same.new (o := .tup ((byM ws c m cs).wt.map V.int)) n2
      refine ⟨.ref D3, rfl, D3, _, rfl, .inl ⟨SqL.of (sB _ _ (sA _ _ eD3)), fun T3 n3 => ⟨by show 3 ≤ sizeLine; decide, fun U nU => ?_⟩⟩⟩
      have sC := Same.new (o := .tup ((byM ws c m cs).hd.map V.int)) n3
      refine q (.ref U) _ (s13.trans (s4.trans (sA.trans (sB.trans (sC.trans (Same.new nU)))))) ?_
      exact Td.new nU (.cons (.tup (sC _ _ (sB _ _ upd_same)) (TdAll.ints _)) (.cons (.tup (sC _ _ upd_same) (TdAll.ints _)) (.cons (.tup upd_same (TdAll.ints _)) .nil)))
end
end K07

set_option maxRecDepth 100000
set_option maxHeartbeats 1000000
namespace K07
open PySem PySem.Spec PyProof.Rows L2 HX
abbrev s_law : Stmt := topS 43
theorem sc_law : FnScope ["_law_script", "_law_k", "_law_pen_here", "_law_turn", "_law_board_here", "_law_moment_here", "_law_row", "_law_counts", "_law_last", "_law_at", "_law_first"] ["_law_script"] (defScope s_law) := ⟨rfl, rfl, rfl, by decide +kernel, rfl, by decide +kernel, by decide +kernel⟩
theorem sum_counts : ∀ (W : Nat) (row : List Nat), (∀ n ∈ row, n < W) → (countsOf W row).sum = (row.length : Int) := by
  intro W row
  have key : ∀ (W : Nat), (countsOf W row).sum = (((row.filter fun n => decide (n < W)).length : Nat) : Int) := by
    intro W
    induction W with
    | zero =>
      have : (row.filter fun n => decide (n < 0)) = [] := by
        rw [List.filter_eq_nil_iff]
        intro a _
        simp
      rw [this]
      rfl
    | succ W ih =>
      have e1 : countsOf (W + 1) row = countsOf W row ++ [((row.count W : Nat) : Int)] := by
        unfold countsOf
        rw [List.range_succ, List.map_append]
        rfl
      rw [e1, List.sum_append, ih]
      have e2 : ∀ r : List Nat, ((r.filter fun n => decide (n < W + 1)).length : Nat) = (r.filter fun n => decide (n < W)).length + r.count W := by
        intro r
        induction r with
        | nil => rfl
        | cons a r ih2 =>
          rw [List.filter_cons, List.filter_cons, List.count_cons]
          by_cases h1 : a < W
          · have h2 : a < W + 1 := by omega
            have h3 : ¬ a = W := by omega
            simp [h1, h2, h3, ih2]
            omega
          · by_cases h4 : a = W
            · subst h4
              simp [ih2]
              omega
            · have h2 : ¬ a < W + 1 := by omega
              simp [h1, h2, h4, ih2]
      rw [e2 row]
      simp
  intro h
  rw [key W]
  have : (row.filter fun n => decide (n < W)) = row := by
    rw [List.filter_eq_self]
    intro a ha
    exact decide_eq_true (h a ha)
  rw [this]
theorem walkM_app {ws : List (List (List Int))} : ∀ (r1 r2 : List Nat) (i : Nat) (m m' : Mo), walkM ws i m (r1 ++ r2) = (none, m') → ∃ m1, (∀ i', walkM ws i' m r1 = (none, m1)) ∧ ∀ i', walkM ws i' m1 r2 = (none, m')
  | [], r2, i, m, m', e => by
    refine ⟨m, fun _ => rfl, fun i' => ?_⟩
    have any : ∀ (r : List Nat) (i i' : Nat) (m : Mo), walkM ws i m r = (none, m') → walkM ws i' m r = (none, m') := by
      intro r
      induction r with
      | nil => intro i i' m e; exact e
      | cons a r ih =>
        intro i i' m e
        by_cases g : m.wt.getD a 0 = 0
        · rw [walkM_stop g] at e
          cases e
        · rw [walkM_go g] at e ⊢
          exact ih _ _ _ e
    exact any r2 i i' m e
  | a :: r, r2, i, m, m', e => by
    rw [List.cons_append] at e
    by_cases g : m.wt.getD a 0 = 0
    · rw [walkM_stop g] at e
      cases e
    · rw [walkM_go g] at e
      obtain ⟨m1, h1, h2⟩ := walkM_app r r2 (i + 1) _ m' e
      exact ⟨m1, fun i' => by rw [walkM_go g]; exact h1 _, h2⟩
theorem eqv_mo (m : Mo) : PyData.eqv (moD m) (moD m) = true := PySem.SeqAt.eqv_refl _ (canLay_mo _ _ _)
theorem rd_sliceR {K : PySem.W.Frag} {H : Hp} {Q : VK} {r : Addr} {row : List Nat} {lo hi : Option Int} {row' : List Nat} (hx : RowAt H r row) (hc : cutV (rowV row) lo hi = rowV row') (q : ∀ p H', Same H H' → RowAt H' p row' → Q (.ref p) H') : rSlA K (.ref r) lo hi H Q := by
  refine ⟨r, rowV row, rfl, hx.sq, fun h => q r H (Same.refl H) ?_, fun _ p hp => q p _ (Same.new hp) (.inl (by rw [upd_same, hc]))⟩
  have : rowV row' = rowV row := by
    rw [← hc]
    unfold cutV
    rw [h.1, h.2, List.drop_zero, Nat.sub_zero, List.take_length]
  have inj : ∀ (a b : List Nat), rowV a = rowV b → a = b := by
    intro a
    induction a with
    | nil => intro b h; cases b with | nil => rfl | cons _ _ => cases h
    | cons x a ih =>
      intro b h
      cases b with
      | nil => cases h
      | cons y b =>
        have h1 : V.int (x : Int) = V.int (y : Int) := (List.cons.inj h).1
        have h2 := V.int.inj h1
        rw [show x = y by omega, ih b (List.cons.inj h).2]
  rw [inj _ _ this]
  exact hx
section
variable {P : Program} {w : World} {K : PySem.W.Frag} {mg : Str → Option Value} {base : Heap} {k : Nat}
def spLaw (K : PySem.W.Frag) : Sp := fun vs H Q _ => ∃ (a : Addr) (ns : List Int), vs = [.ref a] ∧ SqL K H a (ns.map V.int) ∧ ns.length ≤ 63 ∧ ∀ H', Q (.bl true) H'
theorem ok_law {f : Addr} {fd : FuncData} (F : Fun K "law" "law" s_law f fd) (B : Bi mg) (B2 : Bi2 mg)
    (c_counts_of : Cal P w K mg base k "counts_of" ["board", "row"] spCounts) (c_behind : Cal P w K mg base k "behind" ["board", "moment", "row"] spBehind) (c__law_by_counts : Cal P w K mg base k "_law_by_counts" ["_law_board_here", "_law_moment_here", "_law_counts"] spBy)
    (c__law_let_row : Cal P w K mg base k "_law_let_row" ["_law_pen_here", "_law_board_here", "_law_moment_here", "_law_most"] spLet) (c__law_moment : Cal P w K mg base k "_law_moment" ["_law_pen_here", "_law_board_here", "_law_most"] spDrawn) (c__law_draw : Cal P w K mg base k "_law_draw" ["_law_pen_here", "_law_many"] spDraw)
    (c__law_board : Cal P w K mg base k "_law_board" ["_law_pen_here", "_law_most"] spBoard) (c__law_pen : Cal P w K mg base k "_law_pen" ["_law_cell"] spPen)
    (c__law_cell_at : Cal P w K mg base k "_law_cell_at" ["_law_script", "_law_k"] (spCell K)) : FnG P w K mg base (k + 1) f fd ["_law_script"] (spLaw K) := by
  refine Fun.okG F sc_law (fun vs H Q E h => ?_) (fun cdv A outer s H vs Q E en hr h => ?_)
  · obtain ⟨a, ns, rfl, _⟩ := h
    rfl
  · obtain ⟨a, ns, rfl, hS, hl, q⟩ := h
    refine ⟨_, (pss_cons (ps_for PassesOwn.never rfl (pi_range1 rfl B.range_ (pa_cons (pe_callB (call_max2 rfl) rfl B.max_ (by decide +kernel) (pa_cons pe_int (pa_cons (pe_callB (call_min2 rfl) rfl B.min_ (by decide +kernel) (pa_cons (pe_callB call_len_seq rfl B.len_ (by decide +kernel) (pa_cons (pv 0) pa_nil)) (pa_cons pe_int pa_nil))) pa_nil))) pa_nil)) (pg_name (i := 1) sc_law.nd rfl (Or.inl rfl))
  (pss_cons (ps_set (i := 2) sc_law.nd rfl (Or.inl rfl) (pe_cal c__law_pen hr rfl (pa_cons (pe_cal c__law_cell_at hr rfl (pa_cons (pv 0) (pa_cons (pv 1) pa_nil))) pa_nil)))
  (pss_one (ps_for PassesOwn.never rfl (pi_range1 rfl B.range_ (pa_cons pe_int pa_nil)) (pg_name (i := 3) sc_law.nd rfl (Or.inl rfl))
  (pss_cons (ps_set (i := 4) sc_law.nd rfl (Or.inl rfl) (pe_cal c__law_board hr rfl (pa_cons (pv 2) (pa_cons pe_int pa_nil))))
  (pss_cons (ps_set (i := 5) sc_law.nd rfl (Or.inl rfl) (pe_cal c__law_moment hr rfl (pa_cons (pv 2) (pa_cons (pv 4) (pa_cons pe_int pa_nil)))))
  (pss_cons (ps_set (i := 6) sc_law.nd rfl (Or.inl rfl) (pe_ix ix_tup (pe_cal c__law_let_row hr rfl (pa_cons (pv 2) (pa_cons (pv 4) (pa_cons (pv 5) (pa_cons (pe_cal c__law_draw hr rfl (pa_cons (pv 2) (pa_cons pe_int pa_nil))) pa_nil))))) pe_int (fun _ _ => rfl)))
  (pss_cons (ps_set (i := 7) sc_law.nd rfl (Or.inl rfl) (pe_cal c_counts_of hr rfl (pa_cons (pv 4) (pa_cons (pv 6) pa_nil))))
  (pss_cons (ps_set (i := 8) sc_law.nd rfl (Or.inl rfl) (pe_cal c_behind hr rfl (pa_cons (pv 4) (pa_cons (pv 5) (pa_cons (pv 6) pa_nil)))))
  (pss_cons (ps_if (PW.pt (pw_or (pt_cmpR op_ne (pe_callB (cr_sumT rfl) rfl B2.sum_ (by decide +kernel) (pa_cons (pv 7) pa_nil)) (pe_callB call_len_seq rfl B.len_ (by decide +kernel) (pa_cons (pv 6) pa_nil)) (nomark _)) (pw_or1 (pt_cmpR (op_neD (hu64 hr)) (pv 8) (pe_cal c__law_by_counts hr rfl (pa_cons (pv 4) (pa_cons (pv 5) (pa_cons (pv 7) pa_nil)))) (nomark _)))))
  (pss_one (ps_ret pe_bl))
  pss_nil)
  (pss_cons (ps_set (i := 9) sc_law.nd rfl (Or.inl rfl) (pe_cal c__law_draw hr rfl (pa_cons (pv 2) (pa_cons (pe_op op_add (pe_callB call_len_seq rfl B.len_ (by decide +kernel) (pa_cons (pv 6) pa_nil)) pe_int) pa_nil))))
  (pss_cons (ps_set (i := 10) sc_law.nd rfl (Or.inl rfl) (pe_cal c_behind hr rfl (pa_cons (pv 4) (pa_cons (pv 5) (pa_cons (pe_slice sl_tupA (pv 6) po_none (po_some (pv 9))) pa_nil)))))
  (pss_one (ps_if (PW.pt (pw_or (pt_cmpR (op_neD (hu64 hr)) (pe_cal c_behind hr rfl (pa_cons (pv 4) (pa_cons (pv 10) (pa_cons (pe_slice sl_tupA (pv 6) (po_some (pv 9)) po_none) pa_nil)))) (pv 8) (nomark _)) (pw_or1 (pt_cmpR (op_neD (hu64 hr)) (pe_cal c_behind hr rfl (pa_cons (pv 4) (pa_cons (pv 5) (pa_cons (pe_tup pa_nil) pa_nil)))) (pv 5) (nomark _)))))
  (pss_one (ps_ret pe_bl))
  pss_nil))))))))))))))
  (pss_one (ps_ret pe_bl))), ?_⟩
    refine ⟨.ref a, rfl, a, _, rfl, .inl hS, _, 4, rfl, 1, _, rfl, _, rfl, ?_, ?_, for_range (n := _) (fun i σ H2 => ∃ y1 y2 y3 y4 y5 y6 y7 y8 y9 y10 : Option V, σ = [some (.ref a), y1, y2, y3, y4, y5, y6, y7, y8, y9, y10] ∧ Same H H2) ⟨none, none, none, none, none, none, none, none, none, none, rfl, Same.refl H⟩ (fun i σ H2 hi pp => ?_) (fun σ H2 pp => q H2)⟩
    · split <;> split <;> omega
    · split <;> split <;> omega
    · obtain ⟨y1, y2, y3, y4, y5, y6, y7, y8, y9, y10, rfl, s2⟩ := pp
      have ei : (0 : Int) + (i : Int) = (i : Int) := Int.zero_add _
      refine ⟨.ref a, rfl, .int (0 + (i : Int)), rfl, a, ns, i, by rw [ei]; rfl, s2.seq hS, fun cell => ⟨cell, rfl, fun pn H3 npn s3 pen3 => ?_⟩⟩
      have np0 : H pn = none := by
        cases e : H pn with
        | none => rfl
        | some o =>
          rw [s2 _ _ e] at npn
          cases npn
      have sameOf : ∀ H', Kp (· = pn) H3 H' → Same H H' := fun H' kk b o e => kk _ _ (s3 _ _ (s2 _ _ e)) (ne_of_none e np0)
      refine ⟨4, rfl, by decide, by decide, for_range (n := 4) (fun j σ H' => ∃ y3 y4 y5 y6 y7 y8 y9 y10 : Option V, σ = [some (.ref a), some (.int (0 + (i : Int))), some (.ref pn), y3, y4, y5, y6, y7, y8, y9, y10] ∧ Kp (· = pn) H3 H' ∧ PenAt H' pn (1000 * (4 - j))) ⟨y3, y4, y5, y6, y7, y8, y9, y10, rfl, Kp.refl H3, pen3.less (by omega)⟩ (fun j σ H4 hj pp => ?_) (fun σ H4 pp => ?_)⟩
      · obtain ⟨y3, y4, y5, y6, y7, y8, y9, y10, rfl, k4, pen4⟩ := pp
        -- board, moment, row
        refine ⟨.ref pn, rfl, pn, 6, 1000 * (3 - j) + 700, rfl, by decide, by decide, pen4.less (by omega), fun vb ws c H5 bok _ _ tb k5 pen5 => ?_⟩
        refine ⟨.ref pn, rfl, vb, rfl, pn, vb, 8, 1000 * (3 - j) + 600, ws, c, rfl, by decide, by decide, tb, bok, pen5.less (by omega), fun v st wt hd H6 mo tv k6 pen6 => ?_⟩
        have tb6 := Td.mono (pen5.kt k6) _ _ tb
        have w6 := bok.w6
        have mok : MoOk ws c ⟨st, wt, hd⟩ := ⟨⟨mo.sl, mo.sr, mo.wl, mo.hl⟩, fun x hx => (mo.wr x hx).1, fun x hx => (mo.hr x hx).1⟩
        refine ⟨.ref pn, rfl, vb, rfl, v, rfl, .ref pn, rfl, pn, 60, 1000 * (3 - j) + 500, rfl, by decide, by decide, pen6.less (by omega), fun most H7 m0 m1 k7 pen7 => ?_⟩
        obtain ⟨mn, rfl⟩ : ∃ mn : Nat, most = (mn : Int) := ⟨most.toNat, by omega⟩
        have tb7 := Td.mono (pen6.kt k7) _ _ tb6
        have tv7 : Td H7 v (moD ⟨st, wt, hd⟩) := Td.mono (pen6.kt k7) _ _ tv
        refine ⟨pn, vb, v, mn, 1000 * (3 - j) + 400, ws, c, ⟨st, wt, hd⟩, rfl, by omega, tb7, bok, tv7, mok, pen7.less (by omega), fun U r vm row m' H8 k8 pen8 eU rf rl hrow eW tm mk' => ?_⟩
        have kt8 := pen7.kt k8
        have tb8 := Td.mono kt8 _ _ tb7
        have tv8 := Td.mono kt8 _ _ tv7
        refine ⟨U, _, 0, _, rfl, rfl, SqT.of eU, atI_nat (j := 0) rfl, ?_⟩
        -- counts, last
        refine ⟨vb, rfl, .ref r, rfl, vb, r, ws, c, row, rfl, tb8, bok, rf, by omega, hrow, fun C H9 s9 eC => ?_⟩
        have tb9 := Td.mono (KT.same s9) _ _ tb8
        have tv9 := Td.mono (KT.same s9) _ _ tv8
        have rf9 := rf.same s9
        have e1 : (walkM ws 0 ⟨st, wt, hd⟩ row).1 = none := by rw [eW]
        have e2 : (walkM ws 0 ⟨st, wt, hd⟩ row).2 = m' := by rw [eW]
        refine ⟨vb, rfl, v, rfl, .ref r, rfl, vb, v, r, ws, c, ⟨st, wt, hd⟩, row, rfl, tb9, bok, tv9, mok, .inr rf9, by omega, hrow, e1, fun vl H10 s10 tl _ => ?_⟩
        rw [e2] at tl
        have tb10 := Td.mono (KT.same s10) _ _ tb9
        have tv10 := Td.mono (KT.same s10) _ _ tv9
        have rf10 := rf9.same s10
        have eC10 := s10 _ _ eC
        -- sum(counts) != len(row) or last != by counts
        refine ⟨.ref C, rfl, C, _, rfl, SqT.of eC10, .ref r, rfl, r, rowV row, rfl, .inr (RowAt.sq (.inr rf10)), rfl, _, rfl, ?_⟩
        rw [sum_counts _ _ hrow, rowV_len]
        have ed : decide (V.int (row.length : Int) = V.int (row.length : Int)) = true := decide_eq_true rfl
        rw [ed]
        have cl : (countsOf ws.length row).length = ws.length := by unfold countsOf; rw [List.length_map, List.length_range]
        have cr : ∀ x ∈ countsOf ws.length row, 0 ≤ x ∧ x ≤ 1000 := by
          intro x hx
          unfold countsOf at hx
          obtain ⟨n, _, rfl⟩ := List.mem_map.mp hx
          have := List.count_le_length (a := n) (l := row)
          omega
        refine iteF ⟨vl, rfl, vb, rfl, v, rfl, .ref C, rfl, vb, v, C, ws, c, ⟨st, wt, hd⟩, _, rfl, tb10, bok, tv10, mok.toMoF, eC10, cl, cr, fun v' H11 s11 t11 => ?_⟩
        rw [← by_all bok mok.toMoF hrow eW] at t11
        have tl11 := Td.mono (KT.same s11) _ _ tl
        refine ⟨moD m', moD m', Td.dp _ _ tl11, Td.dp _ _ t11, shaped_mo _ _ _, shaped_mo _ _ _, _, rfl, ?_⟩
        rw [eqv_mo]
        refine iteF ?_
        have tb11 := Td.mono (KT.same s11) _ _ tb10
        have tv11 := Td.mono (KT.same s11) _ _ tv10
        have rf11 := rf10.same s11
        have pen11 := ((pen8.same s9).same s10).same s11
        have k11 : Kp (· = pn) H3 H11 := ((((((k4.trans k5).trans k6).trans k7).trans k8).trans (Kp.of s9)).trans (Kp.of s10)).trans (Kp.of s11)
        -- at, first
        refine ⟨.ref pn, rfl, .ref r, rfl, r, rowV row, rfl, .inr (RowAt.sq (.inr rf11)), _, 1, rfl, rfl, pn, _, 1000 * (3 - j) + 300, rfl, by omega, by rw [rowV_len]; omega, pen11.less (by omega), fun at_ H12 a0 a1 k12 pen12 => ?_⟩
        obtain ⟨an, rfl⟩ : ∃ an : Nat, at_ = (an : Int) := ⟨at_.toNat, by omega⟩
        rw [rowV_len] at a1
        have hal : an ≤ row.length := by omega
        have kt12 := pen11.kt k12
        have tb12 := Td.mono kt12 _ _ tb11
        have tv12 := Td.mono kt12 _ _ tv11
        have tl12 := Td.mono kt12 _ _ tl11
        have rf12 : RowF H12 r row := by
          obtain ⟨o, od, eo⟩ := rf11
          refine ⟨o, od, k12 _ _ eo fun z => ?_⟩
          obtain ⟨l, el⟩ := pen11.list
          rw [z, el] at eo
          cases eo
        have hsplit : row.take an ++ row.drop an = row := List.take_append_drop an row
        have eW' : walkM ws 0 ⟨st, wt, hd⟩ (row.take an ++ row.drop an) = (none, m') := by rw [hsplit]; exact eW
        obtain ⟨mA, g1, g2⟩ := walkM_app _ _ _ _ _ eW'
        have cut1 : cutV (rowV row) none (some (an : Int)) = rowV (row.take an) := by
          rw [cut_to _ _ (by rw [rowV_len]; exact hal)]
          unfold rowV
          rw [List.map_take]
        have cut2 : cutV (rowV row) (some (an : Int)) none = rowV (row.drop an) := by
          rw [cut_from _ _ (by rw [rowV_len]; exact hal)]
          unfold rowV
          rw [List.map_drop]
        refine ⟨vb, rfl, v, rfl, .ref r, rfl, .int an, rfl, an, rfl, rd_sliceR (.inr rf12) cut1 fun p1 H13 s13 r1 => ?_⟩
        have tb13 := Td.mono (KT.same s13) _ _ tb12
        have tv13 := Td.mono (KT.same s13) _ _ tv12
        have eA1 : (walkM ws 0 ⟨st, wt, hd⟩ (row.take an)).1 = none := by rw [g1]
        have eA2 : (walkM ws 0 ⟨st, wt, hd⟩ (row.take an)).2 = mA := by rw [g1]
        refine ⟨vb, v, p1, ws, c, ⟨st, wt, hd⟩, row.take an, rfl, tb13, bok, tv13, mok, r1, by rw [List.length_take]; omega, fun n hn => hrow n (List.mem_of_mem_take hn), eA1, fun vf H14 s14 tf mkA => ?_⟩
        rw [eA2] at tf mkA
        have s1314 := s13.trans s14
        have tb14 := Td.mono (KT.same s1314) _ _ tb12
        have tv14 := Td.mono (KT.same s1314) _ _ tv12
        have tl14 := Td.mono (KT.same s1314) _ _ tl12
        have rf14 := rf12.same s1314
        -- the second part
        refine ⟨vb, rfl, vf, rfl, .ref r, rfl, .int an, rfl, an, rfl, np (rd_sliceR (.inr rf14) cut2 fun p2 H15 s15 r2 => ?_)⟩
        have eB1 : (walkM ws 0 mA (row.drop an)).1 = none := by rw [g2]
        have eB2 : (walkM ws 0 mA (row.drop an)).2 = m' := by rw [g2]
        refine ⟨vb, vf, p2, ws, c, mA, row.drop an, rfl, Td.mono (KT.same s15) _ _ tb14, bok, Td.mono (KT.same s15) _ _ tf, mkA, r2, by rw [List.length_drop]; omega, fun n hn => hrow n (List.mem_of_mem_drop hn), eB1, fun vg H16 s16 tg _ => ?_⟩
        rw [eB2] at tg
        have s1516 := s15.trans s16
        refine ⟨vl, rfl, moD m', moD m', Td.dp _ _ tg, Td.dp _ _ (Td.mono (KT.same s1516) _ _ tl14), shaped_mo _ _ _, shaped_mo _ _ _, _, rfl, ?_⟩
        rw [eqv_mo]
        -- no row
        have tb16 := Td.mono (KT.same s1516) _ _ tb14
        have tv16 := Td.mono (KT.same s1516) _ _ tv14
        refine iteF ⟨vb, rfl, v, rfl, by show 0 ≤ sizeLine; decide, fun p3 n3 => ?_⟩
        have s17 := Same.new (o := .tup []) n3
        refine ⟨vb, v, p3, ws, c, ⟨st, wt, hd⟩, [], rfl, Td.mono (KT.same s17) _ _ tb16, bok, Td.mono (KT.same s17) _ _ tv16, mok, .inl upd_same, by show 0 ≤ 1000; omega, (fun n hn => nomatch hn), rfl, fun vh H18 s18 th _ => ?_⟩
        refine ⟨v, rfl, moD ⟨st, wt, hd⟩, moD ⟨st, wt, hd⟩, Td.dp _ _ th, Td.dp _ _ (Td.mono (KT.same (s17.trans s18)) _ _ tv16), shaped_mo _ _ _, shaped_mo _ _ _, _, rfl, ?_⟩
        rw [eqv_mo]
        have sEnd : Same H12 H18 := s1314.trans (s1516.trans (s17.trans s18))
        exact iteF ⟨_, _, _, _, _, _, _, _, rfl, (k11.trans k12).trans (Kp.of sEnd), (pen12.same sEnd).less (by omega)⟩
      · obtain ⟨y3, y4, y5, y6, y7, y8, y9, y10, rfl, k4, pen4⟩ := pp
        exact ⟨_, _, y3, y4, y5, y6, y7, y8, y9, y10, rfl, sameOf _ k4⟩
end
end K07

set_option maxRecDepth 100000
set_option maxHeartbeats 1000000
namespace K07
open PySem PySem.Spec PyProof.Rows L2 HX
section
variable {P : Program} {w : World} {K : PySem.W.Frag} {mg : Str → Option Value} {base : Heap} {k : Nat}
theorem law_all {t_MOST_WHEELS : Tok} {t_MOST_CUPS : Tok} {t_MOST_STEPS : Tok} {t_MOST_ENDS : Tok} {f : Addr} {fd : FuncData} (F : Fun K "law" "law" s_law f fd) (B : Bi mg) (B2 : Bi2 mg) (g_MOST_WHEELS : mg "MOST_WHEELS" = some (.int 6 t_MOST_WHEELS)) (g_MOST_CUPS : mg "MOST_CUPS" = some (.int 4 t_MOST_CUPS)) (g_MOST_STEPS : mg "MOST_STEPS" = some (.int 4 t_MOST_STEPS)) (g_MOST_ENDS : mg "MOST_ENDS" = some (.int 3 t_MOST_ENDS))
    (d_is_whole : Def K mg "is_whole" s_is_whole ["thing"]) (d_is_within : Def K mg "is_within" s_is_within ["thing", "least", "most"]) (d_has_parts : Def K mg "has_parts" s_has_parts ["thing", "least", "most"]) (d_is_step : Def K mg "is_step" s_is_step ["thing", "ends"]) (d_is_wheel : Def K mg "is_wheel" s_is_wheel ["thing", "ends"]) (d_is_board : Def K mg "is_board" s_is_board ["thing"]) (d_need_board : Def K mg "need_board" s_need_board ["thing"]) (d_is_stand : Def K mg "is_stand" s_is_stand ["board", "thing"]) (d_are_marbles : Def K mg "are_marbles" s_are_marbles ["thing", "places"]) (d_is_moment : Def K mg "is_moment" s_is_moment ["board", "thing"]) (d_need_moment : Def K mg "need_moment" s_need_moment ["board", "thing"]) (d_is_wheel_number : Def K mg "is_wheel_number" s_is_wheel_number ["board", "thing"]) (d_loosened : Def K mg "loosened" s_loosened ["moment"]) (d_fastened : Def K mg "fastened" s_fastened ["stand", "waiting", "held"]) (d_handle_marble : Def K mg "handle_marble" s_handle_marble ["board", "parts", "wheel"]) (d_is_row : Def K mg "is_row" s_is_row ["board", "thing"]) (d_need_row : Def K mg "need_row" s_need_row ["board", "thing"]) (d_walked : Def K mg "walked" s_walked ["board", "moment", "row"]) (d_behind : Def K mg "behind" s_behind ["board", "moment", "row"]) (d_counts_of : Def K mg "counts_of" s_counts_of ["board", "row"]) (d__law_cell_at : Def K mg "_law_cell_at" s__law_cell_at ["_law_script", "_law_k"]) (d__law_pen : Def K mg "_law_pen" s__law_pen ["_law_cell"]) (d__law_draw : Def K mg "_law_draw" s__law_draw ["_law_pen_here", "_law_many"]) (d__law_pick : Def K mg "_law_pick" s__law_pick ["_law_pen_here", "_law_some"]) (d__law_board : Def K mg "_law_board" s__law_board ["_law_pen_here", "_law_most"]) (d__law_moment : Def K mg "_law_moment" s__law_moment ["_law_pen_here", "_law_board_here", "_law_most"]) (d__law_handle : Def K mg "_law_handle" s__law_handle ["_law_board_here", "_law_moment_here", "_law_wheel"]) (d__law_ready : Def K mg "_law_ready" s__law_ready ["_law_moment_here"]) (d__law_let_row : Def K mg "_law_let_row" s__law_let_row ["_law_pen_here", "_law_board_here", "_law_moment_here", "_law_most"]) (d__law_came : Def K mg "_law_came" s__law_came ["_law_board_here", "_law_stand", "_law_counts"]) (d__law_by_counts : Def K mg "_law_by_counts" s__law_by_counts ["_law_board_here", "_law_moment_here", "_law_counts"]) : FnG P w K mg base 11 f fd ["_law_script"] (spLaw K) := by
  have c0_is_whole := ok_is_whole (P := P) (w := w) (base := base) (k := 0) d_is_whole B
  have c1_is_within := ok_is_within (P := P) (w := w) (base := base) (k := 1) d_is_within c0_is_whole
  have c2_has_parts := ok_has_parts (P := P) (w := w) (base := base) (k := 0) d_has_parts B
  have c3_is_step := ok_is_step (P := P) (w := w) (base := base) (k := 2) d_is_step B g_MOST_ENDS c1_is_within (c2_has_parts.mono (by decide))
  have c4_is_wheel := ok_is_wheel (P := P) (w := w) (base := base) (k := 3) d_is_wheel B g_MOST_STEPS c3_is_step (c2_has_parts.mono (by decide))
  have c5_is_board := ok_is_board (P := P) (w := w) (base := base) (k := 4) d_is_board B g_MOST_WHEELS g_MOST_CUPS c4_is_wheel (c1_is_within.mono (by decide)) (c2_has_parts.mono (by decide))
  have c6_need_board := ok_need_board (P := P) (w := w) (base := base) (k := 5) d_need_board c5_is_board
  have c7_is_wheel_number := ok_is_wheel_number (P := P) (w := w) (base := base) (k := 2) d_is_wheel_number B c1_is_within
  have c8_is_row := ok_is_row (P := P) (w := w) (base := base) (k := 3) d_is_row B c7_is_wheel_number
  have c9_need_row := ok_need_row (P := P) (w := w) (base := base) (k := 4) d_need_row c8_is_row
  have c10_counts_of := ok_counts_of (P := P) (w := w) (base := base) (k := 6) d_counts_of B c6_need_board (c9_need_row.mono (by decide))
  have c11_is_stand := ok_is_stand (P := P) (w := w) (base := base) (k := 6) d_is_stand B B2 c6_need_board (c1_is_within.mono (by decide)) (c2_has_parts.mono (by decide))
  have c12_are_marbles := ok_are_marbles (P := P) (w := w) (base := base) (k := 1) d_are_marbles B c0_is_whole c2_has_parts
  have c13_is_moment := ok_is_moment (P := P) (w := w) (base := base) (k := 7) d_is_moment B (c6_need_board.mono (by decide)) c11_is_stand (c12_are_marbles.mono (by decide)) (c2_has_parts.mono (by decide))
  have c14_need_moment := ok_need_moment (P := P) (w := w) (base := base) (k := 8) d_need_moment c13_is_moment
  have c15_loosened := ok_loosened (P := P) (w := w) (base := base) (k := 0) d_loosened B
  have c16_fastened := ok_fastened (P := P) (w := w) (base := base) (k := 0) d_fastened B
  have c17_handle_marble := ok_handle_marble (P := P) (w := w) (base := base) (k := 0) d_handle_marble B
  have c18_walked := ok_walked (P := P) (w := w) (base := base) (k := 1) d_walked B B2 c15_loosened c16_fastened c17_handle_marble
  have c19_behind := ok_behind (P := P) (w := w) (base := base) (k := 9) d_behind c14_need_moment (c9_need_row.mono (by decide)) (c18_walked.mono (by decide))
  have c20__law_came := ok_came (P := P) (w := w) (base := base) (k := 0) d__law_came B B2
  have c21__law_by_counts := ok_by (P := P) (w := w) (base := base) (k := 1) d__law_by_counts B B2 c20__law_came
  have c22__law_ready := ok_ready (P := P) (w := w) (base := base) (k := 0) d__law_ready B2
  have c23__law_draw := ok_draw (P := P) (w := w) (base := base) (k := 0) d__law_draw B
  have c24__law_pick := ok_pick (P := P) (w := w) (base := base) (k := 1) d__law_pick B c23__law_draw
  have c25__law_handle := ok_handled (P := P) (w := w) (base := base) (k := 0) d__law_handle B
  have c26__law_let_row := ok_let (P := P) (w := w) (base := base) (k := 2) d__law_let_row B (c22__law_ready.mono (by decide)) c24__law_pick (c25__law_handle.mono (by decide))
  have c27__law_moment := ok_drawn (P := P) (w := w) (base := base) (k := 1) d__law_moment B c23__law_draw
  have c28__law_board := ok_board (P := P) (w := w) (base := base) (k := 1) d__law_board B c23__law_draw
  have c29__law_pen := ok_pen (P := P) (w := w) (base := base) (k := 0) d__law_pen B
  have c30__law_cell_at := ok_cell_at (P := P) (w := w) (base := base) (k := 0) d__law_cell_at B
  exact ok_law (k := 10) F B B2 (c10_counts_of.mono (by decide)) c19_behind (c21__law_by_counts.mono (by decide)) (c26__law_let_row.mono (by decide)) (c27__law_moment.mono (by decide)) (c23__law_draw.mono (by decide)) (c28__law_board.mono (by decide)) (c29__law_pen.mono (by decide)) (c30__law_cell_at.mono (by decide))
end
end K07

set_option maxRecDepth 100000
open PySem PySem.W PyProof.Rows
set_option maxHeartbeats 0 in
theorem PySem.Challenge.cw_marblefall_k07_whole_counts_tell_the_mom_holds : PySem.Challenge.rw_marblefall_k07_whole_counts_tell_the_mom.Holds := by
  w_on; o_law; k_head; (case hw => w_witness2)
  k_fill
  refine HX.walk_ofG (l := PySem.Challenge.rw_marblefall_k07_whole_counts_tell_the_mom) (n := 63) (k := 11) (x := "_law_script") (sp := fun w => K07.spLaw _) rfl (by decide) rfl ⟨rfl, by decide, by decide⟩ ?I (fun w h Y => PySem.W.kIn_of Y) ?F (fun _ _ a ns hl _ _ hS => ⟨a, ns, rfl, hS, hl, fun _ => rfl⟩)
  case I => first | rfl | decide +kernel
  case F =>
    intro w mg fa h KX G hmg
    obtain ⟨t_MOST_WHEELS, g_MOST_WHEELS⟩ : ∃ t, mg "MOST_WHEELS" = some (.int 6 t) := by
      refine' HX.gint_mk KX G ?a
      (case a => k_is)
    obtain ⟨t_MOST_CUPS, g_MOST_CUPS⟩ : ∃ t, mg "MOST_CUPS" = some (.int 4 t) := by
      refine' HX.gint_mk KX G ?a
      (case a => k_is)
    obtain ⟨t_MOST_STEPS, g_MOST_STEPS⟩ : ∃ t, mg "MOST_STEPS" = some (.int 4 t) := by
      refine' HX.gint_mk KX G ?a
      (case a => k_is)
    obtain ⟨t_MOST_ENDS, g_MOST_ENDS⟩ : ∃ t, mg "MOST_ENDS" = some (.int 3 t) := by
      refine' HX.gint_mk KX G ?a
      (case a => k_is)
    refine' HX.def_cut (x := "is_whole") (st := K07.s_is_whole) (ps := ["thing"]) KX G ?a ?l ?c ?k ?b (fun d_is_whole => ?z_is_whole)
    (case a => k_is); (case l => k_is); (case c => k_is); (case k => k_is); (case b => exact fun _ _ _ _ _ _ us hl => match us, hl with | [_], _ => rfl)
    refine' HX.def_cut (x := "is_within") (st := K07.s_is_within) (ps := ["thing", "least", "most"]) KX G ?a ?l ?c ?k ?b (fun d_is_within => ?z_is_within)
    (case a => k_is); (case l => k_is); (case c => k_is); (case k => k_is); (case b => exact fun _ _ _ _ _ _ us hl => match us, hl with | [_, _, _], _ => rfl)
    refine' HX.def_cut (x := "has_parts") (st := K07.s_has_parts) (ps := ["thing", "least", "most"]) KX G ?a ?l ?c ?k ?b (fun d_has_parts => ?z_has_parts)
    (case a => k_is); (case l => k_is); (case c => k_is); (case k => k_is); (case b => exact fun _ _ _ _ _ _ us hl => match us, hl with | [_, _, _], _ => rfl)
    refine' HX.def_cut (x := "is_step") (st := K07.s_is_step) (ps := ["thing", "ends"]) KX G ?a ?l ?c ?k ?b (fun d_is_step => ?z_is_step)
    (case a => k_is); (case l => k_is); (case c => k_is); (case k => k_is); (case b => exact fun _ _ _ _ _ _ us hl => match us, hl with | [_, _], _ => rfl)
    refine' HX.def_cut (x := "is_wheel") (st := K07.s_is_wheel) (ps := ["thing", "ends"]) KX G ?a ?l ?c ?k ?b (fun d_is_wheel => ?z_is_wheel)
    (case a => k_is); (case l => k_is); (case c => k_is); (case k => k_is); (case b => exact fun _ _ _ _ _ _ us hl => match us, hl with | [_, _], _ => rfl)
    refine' HX.def_cut (x := "is_board") (st := K07.s_is_board) (ps := ["thing"]) KX G ?a ?l ?c ?k ?b (fun d_is_board => ?z_is_board)
    (case a => k_is); (case l => k_is); (case c => k_is); (case k => k_is); (case b => exact fun _ _ _ _ _ _ us hl => match us, hl with | [_], _ => rfl)
    refine' HX.def_cut (x := "need_board") (st := K07.s_need_board) (ps := ["thing"]) KX G ?a ?l ?c ?k ?b (fun d_need_board => ?z_need_board)
    (case a => k_is); (case l => k_is); (case c => k_is); (case k => k_is); (case b => exact fun _ _ _ _ _ _ us hl => match us, hl with | [_], _ => rfl)
    refine' HX.def_cut (x := "is_stand") (st := K07.s_is_stand) (ps := ["board", "thing"]) KX G ?a ?l ?c ?k ?b (fun d_is_stand => ?z_is_stand)
    (case a => k_is); (case l => k_is); (case c => k_is); (case k => k_is); (case b => exact fun _ _ _ _ _ _ us hl => match us, hl with | [_, _], _ => rfl)
    refine' HX.def_cut (x := "are_marbles") (st := K07.s_are_marbles) (ps := ["thing", "places"]) KX G ?a ?l ?c ?k ?b (fun d_are_marbles => ?z_are_marbles)
    (case a => k_is); (case l => k_is); (case c => k_is); (case k => k_is); (case b => exact fun _ _ _ _ _ _ us hl => match us, hl with | [_, _], _ => rfl)
    refine' HX.def_cut (x := "is_moment") (st := K07.s_is_moment) (ps := ["board", "thing"]) KX G ?a ?l ?c ?k ?b (fun d_is_moment => ?z_is_moment)
    (case a => k_is); (case l => k_is); (case c => k_is); (case k => k_is); (case b => exact fun _ _ _ _ _ _ us hl => match us, hl with | [_, _], _ => rfl)
    refine' HX.def_cut (x := "need_moment") (st := K07.s_need_moment) (ps := ["board", "thing"]) KX G ?a ?l ?c ?k ?b (fun d_need_moment => ?z_need_moment)
    (case a => k_is); (case l => k_is); (case c => k_is); (case k => k_is); (case b => exact fun _ _ _ _ _ _ us hl => match us, hl with | [_, _], _ => rfl)
    refine' HX.def_cut (x := "is_wheel_number") (st := K07.s_is_wheel_number) (ps := ["board", "thing"]) KX G ?a ?l ?c ?k ?b (fun d_is_wheel_number => ?z_is_wheel_number)
    (case a => k_is); (case l => k_is); (case c => k_is); (case k => k_is); (case b => exact fun _ _ _ _ _ _ us hl => match us, hl with | [_, _], _ => rfl)
    refine' HX.def_cut (x := "loosened") (st := K07.s_loosened) (ps := ["moment"]) KX G ?a ?l ?c ?k ?b (fun d_loosened => ?z_loosened)
    (case a => k_is); (case l => k_is); (case c => k_is); (case k => k_is); (case b => exact fun _ _ _ _ _ _ us hl => match us, hl with | [_], _ => rfl)
    refine' HX.def_cut (x := "fastened") (st := K07.s_fastened) (ps := ["stand", "waiting", "held"]) KX G ?a ?l ?c ?k ?b (fun d_fastened => ?z_fastened)
    (case a => k_is); (case l => k_is); (case c => k_is); (case k => k_is); (case b => exact fun _ _ _ _ _ _ us hl => match us, hl with | [_, _, _], _ => rfl)
    refine' HX.def_cut (x := "handle_marble") (st := K07.s_handle_marble) (ps := ["board", "parts", "wheel"]) KX G ?a ?l ?c ?k ?b (fun d_handle_marble => ?z_handle_marble)
    (case a => k_is); (case l => k_is); (case c => k_is); (case k => k_is); (case b => exact fun _ _ _ _ _ _ us hl => match us, hl with | [_, _, _], _ => rfl)
    refine' HX.def_cut (x := "is_row") (st := K07.s_is_row) (ps := ["board", "thing"]) KX G ?a ?l ?c ?k ?b (fun d_is_row => ?z_is_row)
    (case a => k_is); (case l => k_is); (case c => k_is); (case k => k_is); (case b => exact fun _ _ _ _ _ _ us hl => match us, hl with | [_, _], _ => rfl)
    refine' HX.def_cut (x := "need_row") (st := K07.s_need_row) (ps := ["board", "thing"]) KX G ?a ?l ?c ?k ?b (fun d_need_row => ?z_need_row)
    (case a => k_is); (case l => k_is); (case c => k_is); (case k => k_is); (case b => exact fun _ _ _ _ _ _ us hl => match us, hl with | [_, _], _ => rfl)
    refine' HX.def_cut (x := "walked") (st := K07.s_walked) (ps := ["board", "moment", "row"]) KX G ?a ?l ?c ?k ?b (fun d_walked => ?z_walked)
    (case a => k_is); (case l => k_is); (case c => k_is); (case k => k_is); (case b => exact fun _ _ _ _ _ _ us hl => match us, hl with | [_, _, _], _ => rfl)
    refine' HX.def_cut (x := "behind") (st := K07.s_behind) (ps := ["board", "moment", "row"]) KX G ?a ?l ?c ?k ?b (fun d_behind => ?z_behind)
    (case a => k_is); (case l => k_is); (case c => k_is); (case k => k_is); (case b => exact fun _ _ _ _ _ _ us hl => match us, hl with | [_, _, _], _ => rfl)
    refine' HX.def_cut (x := "counts_of") (st := K07.s_counts_of) (ps := ["board", "row"]) KX G ?a ?l ?c ?k ?b (fun d_counts_of => ?z_counts_of)
    (case a => k_is); (case l => k_is); (case c => k_is); (case k => k_is); (case b => exact fun _ _ _ _ _ _ us hl => match us, hl with | [_, _], _ => rfl)
    refine' HX.def_cut (x := "_law_cell_at") (st := K07.s__law_cell_at) (ps := ["_law_script", "_law_k"]) KX G ?a ?l ?c ?k ?b (fun d__law_cell_at => ?z__law_cell_at)
    (case a => k_is); (case l => k_is); (case c => k_is); (case k => k_is); (case b => exact fun _ _ _ _ _ _ us hl => match us, hl with | [_, _], _ => rfl)
    refine' HX.def_cut (x := "_law_pen") (st := K07.s__law_pen) (ps := ["_law_cell"]) KX G ?a ?l ?c ?k ?b (fun d__law_pen => ?z__law_pen)
    (case a => k_is); (case l => k_is); (case c => k_is); (case k => k_is); (case b => exact fun _ _ _ _ _ _ us hl => match us, hl with | [_], _ => rfl)
    refine' HX.def_cut (x := "_law_draw") (st := K07.s__law_draw) (ps := ["_law_pen_here", "_law_many"]) KX G ?a ?l ?c ?k ?b (fun d__law_draw => ?z__law_draw)
    (case a => k_is); (case l => k_is); (case c => k_is); (case k => k_is); (case b => exact fun _ _ _ _ _ _ us hl => match us, hl with | [_, _], _ => rfl)
    refine' HX.def_cut (x := "_law_pick") (st := K07.s__law_pick) (ps := ["_law_pen_here", "_law_some"]) KX G ?a ?l ?c ?k ?b (fun d__law_pick => ?z__law_pick)
    (case a => k_is); (case l => k_is); (case c => k_is); (case k => k_is); (case b => exact fun _ _ _ _ _ _ us hl => match us, hl with | [_, _], _ => rfl)
    refine' HX.def_cut (x := "_law_board") (st := K07.s__law_board) (ps := ["_law_pen_here", "_law_most"]) KX G ?a ?l ?c ?k ?b (fun d__law_board => ?z__law_board)
    (case a => k_is); (case l => k_is); (case c => k_is); (case k => k_is); (case b => exact fun _ _ _ _ _ _ us hl => match us, hl with | [_, _], _ => rfl)
    refine' HX.def_cut (x := "_law_moment") (st := K07.s__law_moment) (ps := ["_law_pen_here", "_law_board_here", "_law_most"]) KX G ?a ?l ?c ?k ?b (fun d__law_moment => ?z__law_moment)
    (case a => k_is); (case l => k_is); (case c => k_is); (case k => k_is); (case b => exact fun _ _ _ _ _ _ us hl => match us, hl with | [_, _, _], _ => rfl)
    refine' HX.def_cut (x := "_law_handle") (st := K07.s__law_handle) (ps := ["_law_board_here", "_law_moment_here", "_law_wheel"]) KX G ?a ?l ?c ?k ?b (fun d__law_handle => ?z__law_handle)
    (case a => k_is); (case l => k_is); (case c => k_is); (case k => k_is); (case b => exact fun _ _ _ _ _ _ us hl => match us, hl with | [_, _, _], _ => rfl)
    refine' HX.def_cut (x := "_law_ready") (st := K07.s__law_ready) (ps := ["_law_moment_here"]) KX G ?a ?l ?c ?k ?b (fun d__law_ready => ?z__law_ready)
    (case a => k_is); (case l => k_is); (case c => k_is); (case k => k_is); (case b => exact fun _ _ _ _ _ _ us hl => match us, hl with | [_], _ => rfl)
    refine' HX.def_cut (x := "_law_let_row") (st := K07.s__law_let_row) (ps := ["_law_pen_here", "_law_board_here", "_law_moment_here", "_law_most"]) KX G ?a ?l ?c ?k ?b (fun d__law_let_row => ?z__law_let_row)
    (case a => k_is); (case l => k_is); (case c => k_is); (case k => k_is); (case b => exact fun _ _ _ _ _ _ us hl => match us, hl with | [_, _, _, _], _ => rfl)
    refine' HX.def_cut (x := "_law_came") (st := K07.s__law_came) (ps := ["_law_board_here", "_law_stand", "_law_counts"]) KX G ?a ?l ?c ?k ?b (fun d__law_came => ?z__law_came)
    (case a => k_is); (case l => k_is); (case c => k_is); (case k => k_is); (case b => exact fun _ _ _ _ _ _ us hl => match us, hl with | [_, _, _], _ => rfl)
    refine' HX.def_cut (x := "_law_by_counts") (st := K07.s__law_by_counts) (ps := ["_law_board_here", "_law_moment_here", "_law_counts"]) KX G ?a ?l ?c ?k ?b (fun d__law_by_counts => ?z__law_by_counts)
    (case a => k_is); (case l => k_is); (case c => k_is); (case k => k_is); (case b => exact fun _ _ _ _ _ _ us hl => match us, hl with | [_, _, _], _ => rfl)
    refine' HX.def_cut (x := "law") (st := K07.s_law) (ps := ["_law_script"]) KX G ?a ?l ?c ?k ?b (fun d_law => ?z_law)
    (case a => k_is); (case l => k_is); (case c => k_is); (case k => k_is); (case b => exact fun _ _ _ _ _ _ us hl => match us, hl with | [_], _ => rfl)
    have z_len : mg "len" = none := by
      refine' PySem.W.mg_none_of KX G ?a
      (case a => k_is)
    have z_isinstance : mg "isinstance" = none := by
      refine' PySem.W.mg_none_of KX G ?a
      (case a => k_is)
    have z_int : mg "int" = none := by
      refine' PySem.W.mg_none_of KX G ?a
      (case a => k_is)
    have z_bool : mg "bool" = none := by
      refine' PySem.W.mg_none_of KX G ?a
      (case a => k_is)
    have z_tuple : mg "tuple" = none := by
      refine' PySem.W.mg_none_of KX G ?a
      (case a => k_is)
    have z_list : mg "list" = none := by
      refine' PySem.W.mg_none_of KX G ?a
      (case a => k_is)
    have z_all : mg "all" = none := by
      refine' PySem.W.mg_none_of KX G ?a
      (case a => k_is)
    have z_range : mg "range" = none := by
      refine' PySem.W.mg_none_of KX G ?a
      (case a => k_is)
    have z_max : mg "max" = none := by
      refine' PySem.W.mg_none_of KX G ?a
      (case a => k_is)
    have z_min : mg "min" = none := by
      refine' PySem.W.mg_none_of KX G ?a
      (case a => k_is)
    have z_repr : mg "repr" = none := by
      refine' PySem.W.mg_none_of KX G ?a
      (case a => k_is)
    have B : HX.Bi mg := ⟨z_len, z_isinstance, z_int, z_bool, z_tuple, z_list, z_all, z_range, z_max, z_min, z_repr⟩
    have z_zip : mg "zip" = none := by
      refine' PySem.W.mg_none_of KX G ?a
      (case a => k_is)
    have z_enumerate : mg "enumerate" = none := by
      refine' PySem.W.mg_none_of KX G ?a
      (case a => k_is)
    have z_sum : mg "sum" = none := by
      refine' PySem.W.mg_none_of KX G ?a
      (case a => k_is)
    have B2 : HX.Bi2 mg := ⟨z_zip, z_enumerate, z_sum⟩
    obtain ⟨f, fd, F, hm, hb⟩ := d_law
    have e := hmg.symm.trans hm
    cases e
    refine ⟨fd, fun s u hK => hb s [u] hK rfl, fun base hKb hG => ?_⟩
    exact K07.law_all F B B2 g_MOST_WHEELS g_MOST_CUPS g_MOST_STEPS g_MOST_ENDS d_is_whole d_is_within d_has_parts d_is_step d_is_wheel d_is_board d_need_board d_is_stand d_are_marbles d_is_moment d_need_moment d_is_wheel_number d_loosened d_fastened d_handle_marble d_is_row d_need_row d_walked d_behind d_counts_of d__law_cell_at d__law_pen d__law_draw d__law_pick d__law_board d__law_moment d__law_handle d__law_ready d__law_let_row d__law_came d__law_by_counts

