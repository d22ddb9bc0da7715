import PyProof.Rows.All
import Wide.All
import OpenK.AllK
import Wide.FinOn
import HandS.ForMost
import HandS.Wide
import HandS.IsInst
import HandS.TupAny
import HandS.TupMul
import HandS.EndBits
import HandS.Flow
import HandS.Zip
import HandS.Style
import PyProof.ReprRoads
import HandS.Walk
import KE.GoesNew
import KE.GoesEnum
import HandS.SetFor
import KE.KTupSum
import KE.GoesMore
import HandS.NoneIn
import HandS.Strs
import HandS.Lambda
import HandS.ExcOwn
import HandS.ExcIs
import HandS.HotCalls
import HandS.WordsExc
import HandS.EndTab
import KE.KNest
import HandS.Deep
import HandS.Conv
import HandS.TryOnly
import HandS.TupLe
import HandS.WideBits
import HandS.Defaults
import HandS.MakeKwOnly
import HandS.CallSlots
import PyProof.Rows.ReprOcc
import PySem.Challenge.RW_marblefall_k52_rows_beat_by_beat
set_option Elab.async false
set_option linter.all false
set_option maxRecDepth 100000
set_option maxHeartbeats 4000000
namespace HX
open PySem PySem.Spec PyProof.Rows L2

/-! ### a def of the text by its name: where it stands; what it promises -/
def Def (K : PySem.W.Frag) (mg : Str → Option Value) (x : Str) (st : Stmt) (ps : List Str) : Prop :=
  ∃ (f : Addr) (fd : FuncData), Fun K x x st f fd ∧ mg x = some (.ref f) ∧ Binds K fd ps []
def Cal (P : Program) (w : World) (K : PySem.W.Frag) (mg : Str → Option Value) (base : Heap) (k : Nat) (x : Str) (ps : List Str) (sp : Sp) : Prop :=
  ∃ (f : Addr) (fd : FuncData), FnOk P w K mg base CX0 k f fd ps sp ∧ mg x = some (.ref f) ∧ PySem.W.keepIn K (.ref f) = true ∧ Binds K fd ps []
section
variable {P : Program} {w : World} {K : PySem.W.Frag} {mg : Str → Option Value} {base : Heap} {j k : Nat} {x : Str} {ps : List Str} {sp sp' : Sp}
theorem Cal.mono (c : Cal P w K mg base j x ps sp) (h : j ≤ k) : Cal P w K mg base k x ps sp := by
  obtain ⟨f, fd, F, a, b, d⟩ := c
  exact ⟨f, fd, F.mono h, a, b, d⟩
theorem Cal.imp (c : Cal P w K mg base k x ps sp) (h : ∀ vs H Q E, sp' vs H Q E → sp vs H Q E) : Cal P w K mg base k x ps sp' := by
  obtain ⟨f, fd, F, a, b, d⟩ := c
  exact ⟨f, fd, F.imp h, a, b, d⟩
theorem Def.ok {st : Stmt} {N : List Str} (D : Def K mg x st ps) (S : FnScope N ps (defScope st)) (len : ∀ vs H Q E, sp vs H Q E → vs.length = ps.length)
    (hbody : ∀ (f : Addr) (cdv : Value) (A : Around) (outer : List Env) (s : Shared) (H : Hp) (vs : List V) (Q : VK) (E : XK), Room k (A.deeper (envOfC x (defScope st) s.heap.objs.size f cdv)) → sp vs H Q E →
      ∃ t, PSs (cxOf CX0 P w K mg base N x (defScope st) f cdv A outer s H E).nox (defBody st) t ∧ t { nx := fun _ H' => Q .non H', rt := Q } (start N vs) H) : Cal P w K mg base (k + 1) x ps sp := by
  obtain ⟨f, fd, F, hm, hb⟩ := D
  exact ⟨f, fd, F.ok S len (hbody f), hm, F.kp, hb⟩
end
section
variable {X : Cx} {k : Nat} {x : Str} {ps : List Str} {sp : Sp} {p pos : Pos} {e : Expr} {es : List Expr} {t : TA}
theorem pe_cal (c : Cal X.prog X.w X.K X.mg X.base k x ps sp) (hr : Room k X.A) (hg : Gl X x) (ha : PA X (e :: es) t) (hdb : (x == ("__debug__" : Str)) = false := by decide) (he : starEach (e :: es) X.env = (false, eval e X.env) :: starEach es X.env := by rfl)
    (hpl : (backTo pos (starEach es X.env)).any (·.1) = false := by rfl) : PE X (.Call (.Name x p) (e :: es) [] pos) (tCall sp [] E0 t) := by
  obtain ⟨f, fd, F, hm, hk, hb⟩ := c
  exact pe_call F hr hg hm hk hb .nil pass0 ha hdb he hpl
theorem pe_cal0 (c : Cal X.prog X.w X.K X.mg X.base k x ps sp) (hr : Room k X.A) (hg : Gl X x) (hdb : (x == ("__debug__" : Str)) = false := by decide) : PE X (.Call (.Name x p) [] [] pos) (tCall sp [] E0 tNil) := by
  obtain ⟨f, fd, F, hm, hk, hb⟩ := c
  exact pe_call0 F hr hg hm hk hb .nil pass0 hdb
end

theorem pe_gint {X : Cx} {x : Str} {i : Int} {tk : Tok} {pos : Pos} (hg : Gl X x) (hm : X.mg x = some (.int i tk)) (hd : (x == ("__debug__" : Str)) = false := by decide) : PE X (.Name x pos) (tC (.int i)) := pe_glob hg hm ⟨tk, rfl⟩ hd

/-! ### data of any depth in the tracked heap; N: what may be changed meanwhile -/
mutual
inductive Da (N : Addr → Prop) (H : Hp) : V → PyData → Prop
  | non : Da N H .non .none
  | bl (b : Bool) : Da N H (.bl b) (.bool b)
  | int (i : Int) : Da N H (.int i) (.int i)
  | str (x : Str) : Da N H (.str x) (.str x)
  | lst {a : Addr} {xs : List V} {ds : List PyData} : H a = some (.lst xs) → ¬ N a → DaAll N H xs ds → Da N H (.ref a) (.list ds)
  | tup {a : Addr} {xs : List V} {ds : List PyData} : H a = some (.tup xs) → ¬ N a → DaAll N H xs ds → Da N H (.ref a) (.tuple ds)
  | dct {a : Addr} {kvs : List (Key × V)} {ds : List (PyData × PyData)} : H a = some (.dK kvs) → ¬ N a → DaAll N H (kvs.map fun p => kV p.1) (ds.map (·.1)) → DaAll N H (kvs.map (·.2)) (ds.map (·.2)) → Da N H (.ref a) (.dict ds)
inductive DaAll (N : Addr → Prop) (H : Hp) : List V → List PyData → Prop
  | nil : DaAll N H [] []
  | cons {v : V} {vs : List V} {d : PyData} {ds : List PyData} : Da N H v d → DaAll N H vs ds → DaAll N H (v :: vs) (d :: ds)
end
/-- all that was tracked, but what N may change, is as it was -/
def Kp (N : Addr → Prop) (H H' : Hp) : Prop := ∀ b o, H b = some o → ¬ N b → H' b = some o
theorem Kp.refl {N : Addr → Prop} (H : Hp) : Kp N H H := fun _ _ h _ => h
theorem Kp.trans {N : Addr → Prop} {H H1 H2 : Hp} (a : Kp N H H1) (b : Kp N H1 H2) : Kp N H H2 := fun c o h n => b c o (a c o h n) n
theorem Kp.of {N : Addr → Prop} {H H1 : Hp} (a : Same H H1) : Kp N H H1 := fun c o h _ => a c o h
theorem Same.new {H : Hp} {p : Addr} {o : HO} (h : H p = none) : Same H (upd H p o) := fun b x e => by
  rw [upd_ne (ne_of_none e h)]
  exact e
theorem Kp.new {N : Addr → Prop} {H : Hp} {p : Addr} {o : HO} (h : H p = none) : Kp N H (upd H p o) := Kp.of (Same.new h)
theorem Kp.put {N : Addr → Prop} {H : Hp} {p : Addr} {o : HO} (h : N p) : Kp N H (upd H p o) := fun b x e nb => by
  rw [upd_ne (fun z => nb (by rw [z]; exact h))]
  exact e
mutual
theorem Da.mono {N : Addr → Prop} {H H' : Hp} (k : Kp N H H') : ∀ (d : PyData) (v : V), Da N H v d → Da N H' v d
  | .none, _, h => by cases h; exact .non
  | .bool b, _, h => by cases h; exact .bl b
  | .int i, _, h => by cases h; exact .int i
  | .str x, _, h => by cases h; exact .str x
  | .list ds, _, h => by
    cases h with
    | lst e n ha => exact .lst (k _ _ e n) n (DaAll.mono k ds _ ha)
  | .tuple ds, _, h => by
    cases h with
    | tup e n ha => exact .tup (k _ _ e n) n (DaAll.mono k ds _ ha)
  | .dict ds, _, h => by
    cases h with
    | dct e n h1 h2 => exact .dct (k _ _ e n) n (DaAll.monoK k ds _ h1) (DaAll.monoV k ds _ h2)
theorem DaAll.mono {N : Addr → Prop} {H H' : Hp} (k : Kp N H H') : ∀ (ds : List PyData) (vs : List V), DaAll N H vs ds → DaAll N H' vs ds
  | [], _, h => by cases h; exact .nil
  | d :: ds, _, h => by
    cases h with
    | cons h1 h2 => exact .cons (Da.mono k d _ h1) (DaAll.mono k ds _ h2)
theorem DaAll.monoK {N : Addr → Prop} {H H' : Hp} (k : Kp N H H') : ∀ (ds : List (PyData × PyData)) (vs : List V), DaAll N H vs (ds.map (·.1)) → DaAll N H' vs (ds.map (·.1))
  | [], _, h => by cases h; exact .nil
  | (a, b) :: ds, _, h => by
    cases h with
    | cons h1 h2 => exact .cons (Da.mono k a _ h1) (DaAll.monoK k ds _ h2)
theorem DaAll.monoV {N : Addr → Prop} {H H' : Hp} (k : Kp N H H') : ∀ (ds : List (PyData × PyData)) (vs : List V), DaAll N H vs (ds.map (·.2)) → DaAll N H' vs (ds.map (·.2))
  | [], _, h => by cases h; exact .nil
  | (a, b) :: ds, _, h => by
    cases h with
    | cons h1 h2 => exact .cons (Da.mono k b _ h1) (DaAll.monoV k ds _ h2)
end
theorem DaAll.len {N : Addr → Prop} {H : Hp} : ∀ {vs : List V} {ds : List PyData}, DaAll N H vs ds → vs.length = ds.length
  | _, _, .nil => rfl
  | _, _, .cons _ t => by rw [List.length_cons, List.length_cons, DaAll.len t]
theorem DaAll.get {N : Addr → Prop} {H : Hp} : ∀ {vs : List V} {ds : List PyData} {i : Nat} {v : V}, DaAll N H vs ds → vs[i]? = some v → ∃ d, ds[i]? = some d ∧ Da N H v d
  | _, _, _, _, .nil, e => by simp at e
  | _, _, 0, _, .cons h _, e => by
    have e' := Option.some.inj e
    exact ⟨_, rfl, e' ▸ h⟩
  | _, _, i + 1, _, .cons _ t, e => by
    obtain ⟨d, h1, h2⟩ := DaAll.get (i := i) t (by simpa using e)
    exact ⟨d, by simpa using h1, h2⟩
theorem DaAll.append {N : Addr → Prop} {H : Hp} : ∀ {vs us : List V} {ds es : List PyData}, DaAll N H vs ds → DaAll N H us es → DaAll N H (vs ++ us) (ds ++ es)
  | _, _, _, _, .nil, s => s
  | _, _, _, _, .cons r t, s => .cons r (DaAll.append t s)
theorem DaAll.take {N : Addr → Prop} {H : Hp} : ∀ {vs : List V} {ds : List PyData} (n : Nat), DaAll N H vs ds → DaAll N H (vs.take n) (ds.take n)
  | _, _, 0, _ => .nil
  | _, _, _ + 1, .nil => .nil
  | _, _, n + 1, .cons r t => .cons r (DaAll.take n t)
theorem DaAll.drop {N : Addr → Prop} {H : Hp} : ∀ {vs : List V} {ds : List PyData} (n : Nat), DaAll N H vs ds → DaAll N H (vs.drop n) (ds.drop n)
  | _, _, 0, r => r
  | _, _, _ + 1, .nil => .nil
  | _, _, n + 1, .cons _ t => DaAll.drop n t
theorem DaAll.reverse {N : Addr → Prop} {H : Hp} : ∀ {vs : List V} {ds : List PyData}, DaAll N H vs ds → DaAll N H vs.reverse ds.reverse
  | _, _, .nil => .nil
  | _, _, .cons r t => by
    rw [List.reverse_cons, List.reverse_cons]
    exact DaAll.append (DaAll.reverse t) (.cons r .nil)
/-- its built-in type -/
def tyN : PyData → String
  | .none => "NoneType"
  | .bool _ => "bool"
  | .int _ => "int"
  | .str _ => "str"
  | .list _ => "list"
  | .tuple _ => "tuple"
  | .dict _ => "dict"
theorem Da.ty {K : PySem.W.Frag} {N : Addr → Prop} {H : Hp} {v : V} {d : PyData} (h : Da N H v d) : TyX K H v (.type (tyN d)) := by
  cases h with
  | non => exact .base .non
  | bl b => exact .base (.bl b)
  | int i => exact .base (.int i)
  | str x => exact .base (.str x)
  | lst e _ _ => exact .base (.lst e)
  | tup e _ _ => exact .base (.tup e)
  | dct e _ _ _ => exact .base (.dK e)
theorem Da.tupOf {N : Addr → Prop} {H : Hp} {v : V} {ds : List PyData} (h : Da N H v (.tuple ds)) : ∃ a xs, v = .ref a ∧ H a = some (.tup xs) ∧ ¬ N a ∧ DaAll N H xs ds := by
  cases h with
  | tup e n ha => exact ⟨_, _, rfl, e, n, ha⟩
theorem Da.intOf {N : Addr → Prop} {H : Hp} {v : V} {i : Int} (h : Da N H v (.int i)) : v = .int i := by
  cases h
  rfl

/-! ### the names of built-ins that no law and no module binds -/
structure Bi (mg : Str → Option Value) : Prop where
  len_ : mg "len" = none
  isinstance_ : mg "isinstance" = none
  int_ : mg "int" = none
  bool_ : mg "bool" = none
  tuple_ : mg "tuple" = none
  list_ : mg "list" = none
  all_ : mg "all" = none
  range_ : mg "range" = none
  max_ : mg "max" = none
  min_ : mg "min" = none
  repr_ : mg "repr" = none

/-! ### all([e for x in t]), e a truth that leaves the heap as it was -/
theorem tYes_eq {σ : L2.St} {H : Hp} {Q : Bool → Hp → Prop} (h : Q true H) : tYes σ H Q := h
theorem wipe1 {σ : L2.St} {j : Nat} (x : V) : wipe ((wipe σ [j]).set j (some x)) [j] = wipe σ [j] := by
  show ((σ.set j none).set j (some x)).set j none = σ.set j none
  rw [List.set_set, List.set_set]
theorem read_all {K : PySem.W.Frag} {N : Addr → Prop} {σ : L2.St} {H : Hp} {Q : VK} {i j : Nat} {te : TE} {a : Addr} {xs : List V} {ds : List PyData} (p : PyData → Bool)
    (hs : σ[i]? = some (some (.ref a))) (hx : H a = some (.tup xs)) (hd : DaAll N H xs ds) (hz : ds.length ≤ 1000)
    (ht : ∀ (x : V) (d : PyData) (H' : Hp), Same H H' → Da N H' x d → ∀ Q' : VK, (∀ H2, Same H' H2 → Q' (.bl (p d)) H2) → te ((wipe σ [j]).set j (some x)) H' Q')
    (q : ∀ H', Same H H' → Q (.bl (ds.all p)) H') : tCB (rAll K) (tCons (tLc (iTup K (tVar i)) (gName j) tYes te [j]) tNil) σ H Q := by
  refine ⟨.ref a, hs, a, rfl, ⟨xs, .inl (.inl hx)⟩, fun D hD => ?_⟩
  have hlen : xs.length = ds.length := hd.len
  refine lc_tup (xs := xs) (fun i H' => Same H H' ∧ H' D = some (.lst ((ds.take i).map fun d => V.bl (p d)))) ⟨Same.new hD, ?_⟩ (fun i H' _ h => .inl (.inl (h.1 _ _ hx))) (fun i x H' hi h => ?_) (fun H' h => ?_)
  · rw [upd_same]
    rfl
  · obtain ⟨d, e1, e2⟩ := (DaAll.mono (Kp.of h.1) _ _ hd).get hi
    refine ⟨wipe1 x, ?_⟩
    refine tYes_eq (iteT (ht x d H' h.1 e2 _ fun H2 s2 => ?_))
    refine ⟨_, s2 _ _ h.2, ?_, fun b o e => ?_, ?_⟩
    · rw [List.length_map, List.length_take]
      exact small1000 (by omega)
    · rw [upd_ne (ne_of_none e hD)]
      exact s2 _ _ (h.1 _ _ e)
    · rw [upd_same, List.take_add_one, e1, List.map_append]
      rfl
  · refine ⟨D, ds.map p, rfl, .inl (.inl ?_), ?_⟩
    · rw [h.2, hlen, List.take_length, List.map_map]
      rfl
    · rw [List.all_map]
      exact q H' h.1
end HX

set_option maxRecDepth 100000
set_option maxHeartbeats 4000000
namespace HX
open PySem PySem.Spec PyProof.Rows L2
/-! ### t[::-1] of a tuple -/
theorem adjust_rev (n : Nat) : Builtin.Slice.sliceAdjust none none (-1) (n : Int) = ((n : Int) - 1, -1) := rfl
theorem places_rev (n : Nat) : Builtin.Slice.slicePlaces ((n : Int) - 1) (-1) (-1) = n := by
  unfold Builtin.Slice.slicePlaces
  rw [if_neg (by decide)]
  show (if (n : Int) - 1 > -1 then ((n : Int) - 1 - -1 - 1) / 1 + 1 else 0).toNat = n
  rw [Int.ediv_one]
  split <;> omega
theorem pick_rev (xs : List Value) : ((List.range xs.length).filterMap fun (k : Nat) => xs.toArray[(((xs.length : Int) - 1) + (k : Int) * -1).toNat]?) = xs.reverse := by
  have e : (fun (k : Nat) => xs.toArray[(((xs.length : Int) - 1) + (k : Int) * -1).toNat]?) = fun k => xs[xs.length - 1 - k]? := by
    funext k
    rw [List.getElem?_toArray]
    congr 1
    omega
  rw [e]
  refine List.ext_getElem? fun i => ?_
  have h1 : ∀ (m : Nat), m ≤ xs.length → ((List.range m).filterMap fun k => xs[xs.length - 1 - k]?) = (List.range m).map fun k => (xs[xs.length - 1 - k]?).getD .none := by
    intro m
    induction m with
    | zero => intro _; rfl
    | succ m ih =>
      intro hm
      rw [List.range_succ, List.filterMap_append, List.map_append, ih (by omega)]
      congr 1
      have hb : xs.length - 1 - m < xs.length := by omega
      simp [List.getElem?_eq_getElem hb]
  rw [h1 _ (Nat.le_refl _)]
  by_cases hi : i < xs.length
  · rw [List.getElem?_map, List.getElem?_range hi, List.getElem?_reverse hi]
    have hb : xs.length - 1 - i < xs.length := by omega
    simp [List.getElem?_eq_getElem hb]
  · rw [List.getElem?_eq_none (by simp; omega), List.getElem?_eq_none (by simp; omega)]
section
variable {prog : Program} {w : World} {A : Around} {E : Value → Shared → Prop} {s : Shared}
theorem sliceApplied_rev {sl : Addr} {vl vu vs : Value} {n : Nat} {Q : Int × Int × Nat → Shared → Prop} (hs : s.heap.IsSliceOf sl vl vu vs) (pl : IsPart vl none) (pu : IsPart vu none) (ps : IsPart vs (some (-1)))
    (h : Q ((n : Int) - 1, -1, n) s) : wpAny (model prog w) A (Builtin.Slice.sliceApplied (.ref sl) (pure (n : Int))) Q E s := by
  obtain ⟨os, hos, hcs, hds⟩ := id hs
  unfold Builtin.Slice.sliceApplied Builtin.Slice.sliceFields
  refine wpAny_bind (wpAny_bind (wpAny_field hos hds (x := vl) rfl (wpAny_bind (wpAny_field hos hds (x := vu) rfl (wpAny_bind (wpAny_field hos hds (x := vs) rfl (wpAny_pure ?_)))))))
  refine wpAny_bind (HT.slicePart_ ps ?_)
  show wpAny _ _ (if ((-1 : Int) == 0) = true then _ else _) _ _ s
  rw [if_neg (by decide)]
  refine wpAny_bind (HT.slicePart_ pl (wpAny_bind (HT.slicePart_ pu (wpAny_bind (wpAny_pure ?_)))))
  show wpAny _ _ (pure ((n : Int) - 1, (-1 : Int), Builtin.Slice.slicePlaces ((n : Int) - 1) (-1) (-1))) _ _ s
  rw [places_rev]
  exact wpAny_pure h
theorem getItem_tuple_rev {t sl : Addr} {its : List Value} {vl vu vs : Value} {Q : Value → Shared → Prop} (ht : IsTup s.heap t its.toArray) (hs : s.heap.IsSliceOf sl vl vu vs) (pl : IsPart vl none) (pu : IsPart vu none) (ps : IsPart vs (some (-1)))
    (h : Q (.ref s.heap.objs.size) { s with heap := s.heap.push { cls := .type "tuple", data := .seq its.reverse.toArray } }) (hsz : its.length ≤ sizeLine) : wpAny (model prog w) A (getItem (.ref t) (.ref sl)) Q E s := by
  have htake : sizeOk (.seq its.reverse.toArray) := by
    show its.reverse.toArray.size ≤ sizeLine
    rw [List.size_toArray, List.length_reverse]
    exact hsz
  obtain ⟨os, hos, hcs, hds⟩ := id hs
  have hTs : s.TypeIs (.ref sl) "slice" := ⟨os, hos, hcs⟩
  unfold getItem
  try with_reducible refine wpAny_holding ?_
  first | refine wpAny_bind (wpAny_pure ?_) | skip
  refine wpAny_bind (wpAny_sequenceKey ht.typeIs (by decide) ?_)
  refine wpAny_bind (wpAny_callSpecial?_slot (name := Str.ofString "__getitem__") ht.typeIs PyProof.Rows.slot_tuple_getitem
    (wpAny_call_entry PyProof.Rows.slot_tuple_getitem ht.typeIs entry_tuple_getitem ?_ (args_tuple_getitem _ _)))
  show wpAny _ _ (Builtin.Tuple.tupleItemsOf (.ref t) >>= _) _ _ s
  refine wpAny_bind (tupleItemsOf_ ht ?_)
  refine wpAny_bind (wpAny_typeOf hTs ?_)
  rw [if_pos (by decide)]
  refine wpAny_bind (sliceApplied_rev (n := its.toArray.size) hs pl pu ps ?_)
  have hno : ¬ ((((its.toArray.size : Nat) : Int) - 1 == 0 && (-1 : Int) == 1 && its.toArray.size == its.toArray.size) = true) := by
    intro q
    rw [Bool.and_eq_true, Bool.and_eq_true] at q
    exact absurd (eq_of_beq q.1.2) (by decide)
  show wpAny _ _ (if (((its.toArray.size : Nat) : Int) - 1 == 0 && (-1 : Int) == 1 && its.toArray.size == its.toArray.size) = true then _ else _) _ _ s
  rw [if_neg hno, List.size_toArray, pick_rev]
  first
    | exact wpAny_bind (m := Builtin.Tuple.tupleExact _) (wpAny_newObj_type (wpAny_pure ⟨_, rfl, wpAny_pure h⟩) htake)
    | exact wpAny_bind (m := Builtin.Tuple.tupleExact _) (wpAny_newObj_type (wpAny_bind (wpAny_pure (wpAny_pure ⟨_, rfl, wpAny_pure h⟩))) htake)
    | exact wpAny_bind (wpAny_bind (m := Builtin.Tuple.tupleExact _) (wpAny_newObj_type (wpAny_pure (wpAny_pure ⟨_, rfl, wpAny_pure h⟩)) htake))
    | exact wpAny_bind (wpAny_bind (m := Builtin.Tuple.tupleExact _) (wpAny_newObj_type (wpAny_pure ⟨_, rfl, wpAny_pure h⟩) htake))
end
section
variable {X : Cx}
def tRevT (K : PySem.W.Frag) (te : TE) : TE := fun σ H Q => te σ H fun x H1 => ∃ a xs, x = .ref a ∧ SqT K H1 a xs ∧ ∀ p, H1 p = none → Q (.ref p) (upd H1 p (.tup xs.reverse))
theorem pe_revT {e : Expr} {te : TE} {k : Nat} {p1 p2 p3 pos : Pos} (he : PE X e te) : PE X (.Subscript e (.Slice none none (some (.UnaryOp .USub (.Constant (.int 1) k p1) p2)) p3) pos) (tRevT X.K te) := by
  refine ⟨fun pins s σ H Q I h => ?_⟩
  refine Subscript_ (thn (he.run pins s σ H _ I h) fun v s1 ⟨x, H1, I1, r1, q1⟩ => ?_)
  obtain ⟨a, xs, ex, hx, q⟩ := q1
  subst ex
  cases r1
  have hst : PO X (some (.UnaryOp .USub (.Constant (.int 1) k p1) p2)) (tPart (tUn (rU fun i => .int (-i)) (tC (.int 1)))) := po_some (pe_un un_neg pe_int)
  refine wpAny_Slice (thn (po_none.run pins s1 σ H1 (fun o H2 => o = none ∧ H2 = H1) I1 ⟨rfl, rfl⟩) fun vl s2 ⟨l, H2, I2, pl, el, e2⟩ => ?_)
  subst el e2
  refine thn (po_none.run pins s2 σ H2 (fun o H3 => o = none ∧ H3 = H2) I2 ⟨rfl, rfl⟩) fun vu s3 ⟨u, H3, I3, pu, eu, e3⟩ => ?_
  subst eu e3
  refine thn (hst.run pins s3 σ H3 (fun o H4 => o = some (-1) ∧ H4 = H3) I3 ⟨1, rfl, -1, rfl, rfl, rfl⟩) fun vs s4 ⟨o, H4, I4, ps, eo, e4⟩ => ?_
  subst eo e4
  have I5 : Inv X pins σ H4 { s4 with heap := s4.heap.push { cls := .type "slice", data := .fields #[vl, vu, vs] } } := I4.kept (t' := s4.toks) fun b ob q => Heap.get?_push_of_some _ q
  obtain ⟨its, r, ht, hz⟩ := I5.tuple hx
  have hlen := r.length
  show wpAny (model X.prog X.w) X.A (subscriptTail e (.Slice none none (some (.UnaryOp .USub (.Constant (.int 1) k p1) p2)) p3) (.ref a) (.ref s4.heap.objs.size)) (EP X pins σ Q) X.xe { s4 with heap := s4.heap.push { cls := .type "slice", data := .fields #[vl, vu, vs] } }
  refine tail_any (ops := [.ref a, .ref s4.heap.objs.size]) ht.typeIs (PyProof.Rows.slot_tuple_getitem.lookup) ?_ (by with_unfolding_all rfl)
  refine getItem_tuple_rev ht (Heap.IsSliceOf.new _ vl vu vs) pl pu ps ?_ (by omega)
  refine ⟨.ref _, _, I5.laid (t' := s4.toks) (o := .tup xs.reverse) (fun b ob q => Heap.get?_push_of_some _ q) (Nat.le_refl _) ?_, rfl, q _ (I5.hok.fresh (Nat.le_refl _))⟩
  exact ⟨by rw [List.length_reverse]; exact hz, _, r.reverse, ⟨_, Heap.get?_push_size _ rfl, rfl, _, rfl⟩⟩
/-! ### t == () -/
def rEqE (K : PySem.W.Frag) : R2 := fun x y H Q => ∃ a b xs, x = .ref a ∧ y = .ref b ∧ SqT K H a xs ∧ SqT K H b [] ∧ Q (.bl xs.isEmpty) H
theorem op_eqE (hu : X.A.units < cLine) : OpR X (compareOp .Eq) (rEqE X.K) := by
  intro pins s σ H x y v u Q I rx ry h
  obtain ⟨a, b, xs, rfl, rfl, ha, hb, q⟩ := h
  cases rx
  cases ry
  obtain ⟨its, r1, t1, _⟩ := I.tuple ha
  obtain ⟨its2, r2, t2, _⟩ := I.tuple hb
  cases r2
  refine SeqAt.eq_tupleAt (e := fun _ => true) t1 t2 hu (fun j h1 h2 => absurd h2 (by simp)) ?_
  refine ⟨.bl _, H, I, ?_, q⟩
  show _ = Value.bool xs.isEmpty
  congr 1
  cases r1 <;> rfl
end
end HX

set_option maxRecDepth 100000
set_option maxHeartbeats 4000000
namespace HX
open PySem PySem.Spec PyProof.Rows L2
/-! ### calls below which no text of a value is being made (guards), and sys.modules stands untracked -/
structure Ent (A : Around) (s : Shared) (H : Hp) : Prop where
  gu : A.guards = some []
  sm : ∃ o, s.heap.get? sysModules = some o
  hm : H sysModules = none
structure FnG (P : Program) (w : World) (K : PySem.W.Frag) (mg : Str → Option Value) (base : Heap) (k : Nat) (f : Addr) (fd : FuncData) (ps : List Str) (sp : Sp) : Prop where
  len : ∀ vs H Q E, sp vs H Q E → vs.length = ps.length
  run : ∀ (A : Around) (outer : List Env) (s : Shared) (H : Hp) (args : Args) (us : List Value) (vs : List V) (Q : VK) (E : XK), Ent A s H → Room k A → Env0 P w K mg base A outer s H → BindsTo s fd args (ps.zip us) → Vals vs us → sp vs H Q E →
    codeAny (model P w) A (.call (.ref f) args) (CR CX0 outer P w H s Q E) s
section
variable {P : Program} {w : World} {K : PySem.W.Frag} {mg : Str → Option Value} {base : Heap}
theorem Fun.okG {x qual : Str} {st : Stmt} {f : Addr} {fd : FuncData} {N ps : List Str} {k : Nat} {sp : Sp} (F : Fun K x qual st f fd) (S : FnScope N ps (defScope st)) (len : ∀ vs H Q E, sp vs H Q E → vs.length = ps.length)
    (hbody : ∀ (cdv : Value) (A : Around) (outer : List Env) (s : Shared) (H : Hp) (vs : List V) (Q : VK) (E : XK), Ent A s H → Room k (A.deeper (envOfC qual (defScope st) s.heap.objs.size f cdv)) → sp vs H Q E →
      ∃ t, PSs (cxOf CX0 P w K mg base N qual (defScope st) f cdv A outer s H E).nox (defBody st) t ∧ t { nx := fun _ H' => Q .non H', rt := Q } (start N vs) H) : FnG P w K mg base (k + 1) f fd ps sp := by
  obtain ⟨oc, od, kV, doc, pm, an, cdv, ct, osl, rfl, lk, hcd⟩ := F.ex
  refine ⟨len, fun A outer s H args us vs Q E en hr e0 hb r hsp => ?_⟩
  have hl := len _ _ _ _ hsp
  have KX : K.In s.heap := e0.mod.kin.keeps fun b o e => (e0.bs b o e).1
  have lim : s.heap.NoLimit := e0.mod.nolimit.keeps fun b o e => (e0.bs b o e).1
  have hkind : ∀ y ∈ ps.zip us, (defScope st).names.lookup y.1 = some .local ∨ ((defScope st).names.lookup y.1 = some .cell ∧ ((cellsFrom (s.heap.objs.size + 1) (defScope st).names []).lookup y.1).isSome = true) := by
    rintro ⟨n, v⟩ hy
    rcases S.par n (List.of_mem_zip hy).1 with q | q
    · exact .inl q
    · exact .inr ⟨q, PySem.W.cellsFrom_some _ _ _ (.inl q)⟩
  refine codeAny_call_function hr.depth (KX _ _ lk) rfl S.co S.gen rfl (PySem.W.codeRec_of KX hcd) (hb _ _ _ _ ?_)
  refine wpAny_newFunctionEnv_cells S.kind hkind fun env he s1 xx => ?_
  subst he
  refine ⟨lim.keeps xx.toInCall.keep, codeAny_func ?_⟩
  obtain ⟨t, ht, hq⟩ := hbody cdv A outer s H vs Q E en (hr.deeper _) hsp
  have I := inv_start (CX := CX0) (E := E) S hr.hd e0 hl r xx
  refine wpAny_mono (ht.nox.run [] s1 (start N vs) H _ I hq) (fun fl s' hs => ?_) fun e s' hs => hs
  cases fl with
  | ret u =>
    obtain ⟨v, σ', H', J, rv, q⟩ := hs
    exact ⟨v, H', J.os, J.bare, J.base, J.hok, rv, q⟩
  | next =>
    obtain ⟨σ', H', J, q⟩ := hs
    exact ⟨V.non, H', J.os, J.bare, J.base, J.hok, rfl, q⟩
  | brk =>
    obtain ⟨_, _, _, q⟩ := hs
    exact False.elim q
  | cont =>
    obtain ⟨_, _, _, q⟩ := hs
    exact False.elim q
def CalG (P : Program) (w : World) (K : PySem.W.Frag) (mg : Str → Option Value) (base : Heap) (k : Nat) (x : Str) (ps : List Str) (sp : Sp) : Prop :=
  ∃ (f : Addr) (fd : FuncData), FnG P w K mg base k f fd ps sp ∧ mg x = some (.ref f) ∧ PySem.W.keepIn K (.ref f) = true ∧ Binds K fd ps []
theorem CalG.mono {j k : Nat} {x : Str} {ps : List Str} {sp : Sp} (c : CalG P w K mg base j x ps sp) (h : j ≤ k) : CalG P w K mg base k x ps sp := by
  obtain ⟨f, fd, F, a, b, d⟩ := c
  exact ⟨f, fd, ⟨F.len, fun A outer s H args us vs Q E en hr => F.run A outer s H args us vs Q E en (hr.mono h)⟩, a, b, d⟩
theorem Def.okG {k : Nat} {x : Str} {ps : List Str} {sp : Sp} {st : Stmt} {N : List Str} (D : Def K mg x st ps) (S : FnScope N ps (defScope st)) (len : ∀ vs H Q E, sp vs H Q E → vs.length = ps.length)
    (hbody : ∀ (f : Addr) (cdv : Value) (A : Around) (outer : List Env) (s : Shared) (H : Hp) (vs : List V) (Q : VK) (E : XK), Ent A s H → Room k (A.deeper (envOfC x (defScope st) s.heap.objs.size f cdv)) → sp vs H Q E →
      ∃ t, PSs (cxOf CX0 P w K mg base N x (defScope st) f cdv A outer s H E).nox (defBody st) t ∧ t { nx := fun _ H' => Q .non H', rt := Q } (start N vs) H) : CalG P w K mg base (k + 1) x ps sp := by
  obtain ⟨f, fd, F, hm, hb⟩ := D
  exact ⟨f, fd, Fun.okG F S len (hbody f), hm, F.kp, hb⟩
end
/-- a body's context below which nothing is shown -/
structure EntX (X : Cx) : Prop where
  gu : X.A.guards = some []
  sm : ∃ o, X.s_0.heap.get? sysModules = some o
  hm : X.H_0 sysModules = none
  ex : sysModules ∉ X.ex
section
variable {X : Cx} {pins : List (Addr × Obj)} {σ : L2.St} {H : Hp} {s : Shared}
theorem inv_sys (I : Inv X pins σ H s) (e : EntX X) : H sysModules = none ∧ ∃ o, s.heap.get? sysModules = some o := by
  obtain ⟨o, ho⟩ := e.sm
  exact ⟨I.base.free _ o ho e.hm e.ex, I.base.there _ o ho e.ex⟩
theorem pe_calG {k : Nat} {x : Str} {ps : List Str} {sp : Sp} {p pos : Pos} {e : Expr} {es : List Expr} {t : TA} (en : EntX X) (c : CalG X.prog X.w X.K X.mg X.base k x ps sp) (hr : Room k X.A) (hg : Gl X x) (ha : PA X (e :: es) t) (hdb : (x == ("__debug__" : Str)) = false := by decide)
    (he : starEach (e :: es) X.env = (false, eval e X.env) :: starEach es X.env := by rfl) (hpl : (backTo pos (starEach es X.env)).any (·.1) = false := by rfl) : PE X (.Call (.Name x p) (e :: es) [] pos) (tCall sp [] E0 t) := by
  obtain ⟨f, fd, F, hm, hk, hb⟩ := c
  refine ⟨fun pins s σ H Q I h => ?_⟩
  refine wpAny_Call_Name_kw (ld_glob I hg hm ?_ hdb)
  refine PySem.W.callWith_K (h₀ := X.base) I.ok.mod.kin hk (thn (ha.run pos pins s σ H _ I h) fun us s1 ⟨vs, H1, I1, r, q⟩ => ⟨I1.kIn, ?_⟩) he hpl
  have q' : sp vs H1 Q E0 := by
    have q2 : sp (vs ++ []) H1 Q E0 := q
    rw [List.append_nil] at q2
    exact q2
  have hl : us.length = ps.length := by
    rw [← r.length]
    exact F.len _ _ _ _ q'
  obtain ⟨z1, z2⟩ := inv_sys I1 en
  have hb' := hb s1 us I1.kIn (by rw [List.append_nil]; exact hl)
  rw [List.append_nil] at hb'
  refine wpAny_call (codeAny_mono (F.run X.A X.stack s1 H1 ⟨us, []⟩ us vs Q E0 ⟨en.gu, z2, z1⟩ hr I1.env0 hb' r q') fun rr s' hq => ?_)
  cases rr with
  | error e => exact False.elim hq
  | ok fl =>
    cases fl with
    | ret u => exact I1.after hq
    | next => exact False.elim hq
    | brk => exact False.elim hq
    | cont => exact False.elim hq
end
/-! ### data as the model reads it -/
theorem kV_rel {k : Key} {u : Value} (h : keyIs k u = true) : RelV (kV k) u := by
  rcases keyIs_shape h with ⟨i, t, rfl, rfl⟩ | ⟨x, t, rfl, rfl⟩
  · exact ⟨t, rfl⟩
  · exact ⟨t, rfl⟩
theorem pairs_vals {prog : Program} {w : World} {l : List DictEntry} {vs : List (Key × Value)} (hp : Pairs (mixKind prog w) l vs) : ∀ {kvs : List (Key × V)}, KV kvs vs → Vals (kvs.map fun p => kV p.1) (l.map (·.key)) ∧ Vals (kvs.map (·.2)) (l.map (·.val)) := by
  induction hp with
  | nil =>
    intro kvs rv
    cases rv
    exact ⟨.nil, .nil⟩
  | cons hk hv _ ih =>
    intro kvs rv
    cases rv with
    | cons q qs =>
      obtain ⟨i1, i2⟩ := ih qs
      obtain ⟨q1, q2⟩ := q
      refine ⟨.cons ?_ i1, .cons ?_ i2⟩
      · dsimp only
        rw [q1]
        exact kV_rel hk
      · dsimp only
        rw [hv]
        exact q2
section
variable {X : Cx} {pins : List (Addr × Obj)} {σ : L2.St} {H : Hp} {s : Shared} {N : Addr → Prop}
mutual
theorem Da.reads (I : Inv X pins σ H s) : ∀ (d : PyData) (v : V) (u : Value), Da N H v d → RelV v u → ∃ as, Reads s.heap u d as ∧ ∀ a ∈ as, H a ≠ none
  | .none, _, _, h, r => by
    cases h
    cases r
    exact ⟨_, Reads.none, fun _ z => nomatch z⟩
  | .bool b, _, _, h, r => by
    cases h
    cases r
    exact ⟨_, Reads.bool b, fun _ z => nomatch z⟩
  | .int i, _, _, h, r => by
    cases h
    obtain ⟨t, rfl⟩ := r
    exact ⟨_, Reads.int i t, fun _ z => nomatch z⟩
  | .str x, _, _, h, r => by
    cases h
    obtain ⟨t, rfl⟩ := r
    exact ⟨_, Reads.str x t, fun _ z => nomatch z⟩
  | .list ds, _, _, h, r => by
    cases h with
    | @lst a xs _ e _ ha =>
      cases r
      obtain ⟨_, its, n, rv, ho⟩ := I.hok a _ e
      obtain ⟨as, hr, hn⟩ := Da.readsAll I ds _ its ha rv
      refine ⟨_, Reads.list ho rfl rfl (by simpa using hr), fun b hb => ?_⟩
      rcases List.mem_cons.mp hb with rfl | hb
      · rw [e]
        exact fun z => nomatch z
      · exact hn b hb
  | .tuple ds, _, _, h, r => by
    cases h with
    | @tup a xs _ e _ ha =>
      cases r
      obtain ⟨_, its, rv, o, ho, hc, n, hd⟩ := I.hok a _ e
      obtain ⟨as, hr, hn⟩ := Da.readsAll I ds _ its ha rv
      exact ⟨_, Reads.tuple ho hc hd (by simpa using hr), hn⟩
  | .dict ds, _, _, h, r => by
    cases h with
    | @dct a kvs _ e _ h1 h2 =>
      cases r
      obtain ⟨_, _, vs, rv, o, es, ep, ho, hx, hd, _, hp, _⟩ := I.hok a _ e
      have hk := pairs_vals hp rv
      obtain ⟨as, r1, n1⟩ := Da.readsK I ds _ _ h1 hk.1
      obtain ⟨bs, r2, n2⟩ := Da.readsV I ds _ _ h2 hk.2
      refine ⟨_, Reads.dict ho hx.1 hd r1 r2, fun b hb => ?_⟩
      rcases List.mem_append.mp hb with hb | hb
      · rcases List.mem_cons.mp hb with rfl | hb
        · rw [e]
          exact fun z => nomatch z
        · exact n1 b hb
      · exact n2 b hb
theorem Da.readsAll (I : Inv X pins σ H s) : ∀ (ds : List PyData) (vs : List V) (us : List Value), DaAll N H vs ds → Vals vs us → ∃ as, ReadsAll s.heap us ds as ∧ ∀ a ∈ as, H a ≠ none
  | [], _, _, h, r => by
    cases h
    cases r
    exact ⟨_, ReadsAll.nil, fun _ z => nomatch z⟩
  | d :: ds, _, _, h, r => by
    cases h with
    | cons h1 h2 =>
      cases r with
      | cons r1 r2 =>
        obtain ⟨as, q1, n1⟩ := Da.reads I d _ _ h1 r1
        obtain ⟨bs, q2, n2⟩ := Da.readsAll I ds _ _ h2 r2
        exact ⟨_, ReadsAll.cons q1 q2, fun b hb => (List.mem_append.mp hb).elim (n1 b) (n2 b)⟩
theorem Da.readsK (I : Inv X pins σ H s) : ∀ (ds : List (PyData × PyData)) (vs : List V) (us : List Value), DaAll N H vs (ds.map (·.1)) → Vals vs us → ∃ as, ReadsAll s.heap us (ds.map (·.1)) as ∧ ∀ a ∈ as, H a ≠ none
  | [], _, _, h, r => by
    cases h
    cases r
    exact ⟨_, ReadsAll.nil, fun _ z => nomatch z⟩
  | (d, e) :: ds, _, _, h, r => by
    cases h with
    | cons h1 h2 =>
      cases r with
      | cons r1 r2 =>
        obtain ⟨as, q1, n1⟩ := Da.reads I d _ _ h1 r1
        obtain ⟨bs, q2, n2⟩ := Da.readsK I ds _ _ h2 r2
        exact ⟨_, ReadsAll.cons q1 q2, fun b hb => (List.mem_append.mp hb).elim (n1 b) (n2 b)⟩
theorem Da.readsV (I : Inv X pins σ H s) : ∀ (ds : List (PyData × PyData)) (vs : List V) (us : List Value), DaAll N H vs (ds.map (·.2)) → Vals vs us → ∃ as, ReadsAll s.heap us (ds.map (·.2)) as ∧ ∀ a ∈ as, H a ≠ none
  | [], _, _, h, r => by
    cases h
    cases r
    exact ⟨_, ReadsAll.nil, fun _ z => nomatch z⟩
  | (e, d) :: ds, _, _, h, r => by
    cases h with
    | cons h1 h2 =>
      cases r with
      | cons r1 r2 =>
        obtain ⟨as, q1, n1⟩ := Da.reads I d _ _ h1 r1
        obtain ⟨bs, q2, n2⟩ := Da.readsV I ds _ _ h2 r2
        exact ⟨_, ReadsAll.cons q1 q2, fun b hb => (List.mem_append.mp hb).elim (n1 b) (n2 b)⟩
end
end
/-! ### how long its text is, at most -/
mutual
def wt : PyData → Nat
  | .none => 4
  | .bool _ => 5
  | .int _ => 130
  | .str x => (reprText x).length
  | .list ds => 2 + wtAll ds
  | .tuple ds => 3 + wtAll ds
  | .dict ds => 2 + wtKv ds
def wtAll : List PyData → Nat
  | [] => 0
  | d :: ds => wt d + 2 + wtAll ds
def wtKv : List (PyData × PyData) → Nat
  | [] => 0
  | (a, b) :: ds => wt a + wt b + 4 + wtKv ds
end
mutual
/-- its whole numbers lie within b -/
def within (b : Int) : PyData → Prop
  | .none => True
  | .bool _ => True
  | .int i => -b ≤ i ∧ i ≤ b
  | .str _ => True
  | .list ds => withinAll b ds
  | .tuple ds => withinAll b ds
  | .dict ds => withinKv b ds
def withinAll (b : Int) : List PyData → Prop
  | [] => True
  | d :: ds => within b d ∧ withinAll b ds
def withinKv (b : Int) : List (PyData × PyData) → Prop
  | [] => True
  | (x, y) :: ds => within b x ∧ within b y ∧ withinKv b ds
end
theorem textFrom_le : ∀ (ts : List Str) (k : Nat) (acc : Str), (textFrom k acc ts).length ≤ acc.length + piled ts
  | [], _, _ => Nat.le_add_right _ _
  | t :: ts, k, acc => by
    have h := textFrom_le ts (k + 1) (acc ++ (if k > 0 then ", " else "" : String) ++ t)
    have e : (acc ++ (if k > 0 then ", " else "" : String) ++ t).length ≤ acc.length + 2 + t.length := by
      rw [strLen_append, strLen_append]
      have : (Str.ofString (if k > 0 then ", " else "" : String)).length ≤ 2 := by split <;> decide
      omega
    rw [piled_cons]
    show (textFrom (k + 1) _ ts).length ≤ _
    omega
theorem listText_le (ts : List Str) : (listText ts).length ≤ 2 + piled ts := by
  unfold listText
  have h := textFrom_le ts 0 "["
  rw [strLen_append]
  have e1 : (Str.ofString "[").length = 1 := by decide
  have e2 : (Str.ofString "]").length = 1 := by decide
  have h' : (textFrom 0 (Str.ofString "[") ts).length ≤ (Str.ofString "[").length + piled ts := h
  show (textFrom 0 (Str.ofString "[") ts).length + (Str.ofString "]").length ≤ _
  omega
theorem join_le (ts : List Str) : (Str.join ", " ts).length ≤ piled ts := by
  by_cases h : ts = []
  · subst h
    decide
  · have := join_length_add ts h
    omega
theorem tupleText_le (ts : List Str) : (tupleText ts).length ≤ 3 + piled ts := by
  unfold tupleText
  have h := join_le ts
  rw [strLen_append, strLen_append]
  have e1 : (Str.ofString "(").length = 1 := by decide
  have e2 : (Str.ofString (if ts.length == 1 then ",)" else ")" : String)).length ≤ 2 := by split <;> decide
  show (Str.ofString "(").length + (Str.join (Str.ofString ", ") ts).length + (Str.ofString (if ts.length == 1 then ",)" else ")" : String)).length ≤ _
  have h' : (Str.join (Str.ofString ", ") ts).length ≤ piled ts := h
  omega
theorem dictText_le (ts : List Str) : (dictText ts).length ≤ 2 + piled ts := by
  unfold dictText
  have h := join_le ts
  rw [strLen_append, strLen_append]
  have e1 : (Str.ofString "{").length = 1 := by decide
  have e2 : (Str.ofString "}").length = 1 := by decide
  show (Str.ofString "{").length + (Str.join (Str.ofString ", ") ts).length + (Str.ofString "}").length ≤ _
  have h' : (Str.join (Str.ofString ", ") ts).length ≤ piled ts := h
  omega
theorem int_log {i b : Int} (h : -b ≤ i ∧ i ≤ b) (hb : b < 2 ^ 120) : i.natAbs.log2 < 120 := by
  have h1 : i.natAbs < 2 ^ 120 := by omega
  exact PySem.Flt.log2_lt_of (by decide) h1
mutual
theorem shown_le {b : Int} (hb : b < 2 ^ 120) : ∀ d : PyData, within b d → d.shown.length ≤ wt d ∧ d.showable = true
  | .none, _ => by
    simp only [PyData.shown, PyData.showable, wt]
    decide
  | .bool c, _ => by
    cases c <;> (simp only [PyData.shown, PyData.showable, wt]; decide)
  | .int i, h => by
    have h' : -b ≤ i ∧ i ≤ b := by simpa only [within] using h
    have hl := int_log h' hb
    simp only [PyData.shown, PyData.showable, wt]
    have q := int_text_length_le (a := i) (k := 120) (by decide) hl
    refine ⟨?_, decide_eq_true (by omega)⟩
    have e := PySem.ofString_length (toString i)
    show (Str.ofString (toString i)).length ≤ 130
    omega
  | .str x, _ => by
    simp only [PyData.shown, PyData.showable, wt]
    exact ⟨Nat.le_refl _, trivial⟩
  | .list ds, h => by
    have h' : withinAll b ds := by simpa only [within] using h
    obtain ⟨q1, q2⟩ := shownAll_le hb ds h'
    simp only [PyData.shown, PyData.showable, wt]
    have := listText_le (PyData.shownAll ds)
    exact ⟨by omega, q2⟩
  | .tuple ds, h => by
    have h' : withinAll b ds := by simpa only [within] using h
    obtain ⟨q1, q2⟩ := shownAll_le hb ds h'
    simp only [PyData.shown, PyData.showable, wt]
    have := tupleText_le (PyData.shownAll ds)
    exact ⟨by omega, q2⟩
  | .dict ds, h => by
    have h' : withinKv b ds := by simpa only [within] using h
    obtain ⟨q1, q2⟩ := shownKv_le hb ds h'
    simp only [PyData.shown, PyData.showable, wt]
    have := dictText_le (PyData.shownKv ds)
    exact ⟨by omega, q2⟩
theorem shownAll_le {b : Int} (hb : b < 2 ^ 120) : ∀ ds : List PyData, withinAll b ds → piled (PyData.shownAll ds) ≤ wtAll ds ∧ PyData.showableAll ds = true
  | [], _ => by
    simp only [PyData.shownAll, PyData.showableAll, wtAll]
    exact ⟨Nat.le_refl _, trivial⟩
  | d :: ds, h => by
    have h' : within b d ∧ withinAll b ds := by simpa only [withinAll] using h
    obtain ⟨a1, a2⟩ := shown_le hb d h'.1
    obtain ⟨b1, b2⟩ := shownAll_le hb ds h'.2
    simp only [PyData.shownAll, PyData.showableAll, wtAll]
    rw [piled_cons, a2, b2]
    exact ⟨by omega, rfl⟩
theorem shownKv_le {b : Int} (hb : b < 2 ^ 120) : ∀ ds : List (PyData × PyData), withinKv b ds → piled (PyData.shownKv ds) ≤ wtKv ds ∧ PyData.showableKv ds = true
  | [], _ => by
    simp only [PyData.shownKv, PyData.showableKv, wtKv]
    exact ⟨Nat.le_refl _, trivial⟩
  | (x, y) :: ds, h => by
    have h' : within b x ∧ within b y ∧ withinKv b ds := by simpa only [withinKv] using h
    obtain ⟨a1, a2⟩ := shown_le hb x h'.1
    obtain ⟨c1, c2⟩ := shown_le hb y h'.2.1
    obtain ⟨b1, b2⟩ := shownKv_le hb ds h'.2.2
    simp only [PyData.shownKv, PyData.showableKv, wtKv]
    have e : (Str.ofString ": ").length = 2 := by decide
    rw [piled_cons, a2, b2, c2, strLen_append, strLen_append]
    refine ⟨?_, rfl⟩
    show x.shown.length + (Str.ofString ": ").length + y.shown.length + 2 + _ ≤ _
    omega
end
/-- data whose text is made without a fault -/
structure Gd (n e : Nat) (d : PyData) : Prop where
  iw : within 2000000000000 d
  wn : wt d ≤ n
  dp : d.depth ≤ e
/-- repr(x) -/
def rReprD : List V → Hp → VK → Prop := fun xs H Q => ∃ (N : Addr → Prop) (v : V) (d : PyData), xs = [v] ∧ Da N H v d ∧ Gd 16000000 100 d ∧ Q (.str d.shown) H
theorem call_repr {X : Cx} (en : EntX X) (hu : X.A.units + 150 < cLine) : CallR X (.builtin "repr") rReprD := by
  intro pins s σ H xs us Q I r h
  obtain ⟨N, v, d, rfl, hd, hg, q⟩ := h
  obtain ⟨u, rfl, rv⟩ := vals1 r
  obtain ⟨as, hr, hn⟩ := Da.reads I d v u hd rv
  obtain ⟨z1, z2⟩ := shown_le (by decide) d hg.iw
  have hs : d.shown.length ≤ sizeLine := Nat.le_trans z1 (Nat.le_trans hg.wn (by decide))
  have hsm : d.hasDict = true → sysModules ∉ as := fun _ hm => hn _ hm (inv_sys I en).1
  have hdp := hg.dp
  cases hr with
  | none => exact PySem.P.repr_of_none ⟨.str _, H, I.tok _, ⟨_, rfl⟩, by simpa only [PyData.shown] using q⟩
  | bool b => exact PySem.P.repr_of_bool ⟨.str _, H, I.tok _, ⟨_, rfl⟩, by simpa only [PyData.shown] using q⟩
  | int i t => exact PySem.P.repr_of_int (by simpa [PyData.showable] using z2) ⟨.str _, H, I.tok _, ⟨_, rfl⟩, by simpa only [PyData.shown] using q⟩
  | str x t => exact PySem.P.repr_of_str ⟨.str _, H, I.tok _, ⟨_, rfl⟩, by simpa only [PyData.shown] using q⟩ (by simpa only [PyData.shown] using hs)
  | list a1 a2 a3 a4 => exact repr_of_reads' (.list a1 a2 a3 a4) z2 hsm en.gu (by omega) (fun _ _ e => e) (fun h' u' tk k => ⟨.str _, H, I.kept (t' := tk) k, ⟨_, rfl⟩, q⟩) hs
  | tuple a1 a2 a3 a4 => exact repr_of_reads' (.tuple a1 a2 a3 a4) z2 hsm en.gu (by omega) (fun _ _ e => e) (fun h' u' tk k => ⟨.str _, H, I.kept (t' := tk) k, ⟨_, rfl⟩, q⟩) hs
  | dict a1 a2 a3 a4 a5 => exact repr_of_reads' (.dict a1 a2 a3 a4 a5) z2 hsm en.gu (by omega) (fun _ _ e => e) (fun h' u' tk k => ⟨.str _, H, I.kept (t' := tk) k, ⟨_, rfl⟩, q⟩) hs

/-! ### the law's end, with the bits told, for a law that makes texts of values -/
theorem law_callG {P : Program} {w : World} {K : PySem.W.Frag} {mg mb : Str → Option Value} {k : Nat} {fa a : Addr} {fd : FuncData} {x : Str} {sp : Sp} {s1 : Shared} {vs : List Value} {ns : List Int}
    (KX : K.In s1.heap) (hns : s1.heap.Ns mainGlobals mg) (hb : s1.heap.Ns builtinsNs mb) (hbb : ∀ x : Str, x ≠ "__name__" → mb x = bootBuiltins x) (hlim : s1.heap.NoLimit) (hsys : ∃ mm, s1.heap.Ns sysModules mm) (hg : s1.gens = #[])
    (ha : s1.heap.get? a = some { cls := .type "list", data := .seq vs.toArray }) (hi : IntsAre vs ns) (hl : ns.length ≤ sizeLine) (hr : Room k callerA)
    (F : ∀ base : Heap, K.In base → base.Ns mainGlobals mg → FnG P w K mg base k fa fd [x] sp) (hbind : ∀ (s : Shared) (u : Value), K.In s.heap → BindsTo s fd ⟨[u], []⟩ [(x, u)])
    (hsp : ∀ H : Hp, Only H → SqL K H a (ns.map V.int) → sp [.ref a] H (fun v _ => v = .bl true) fun _ _ _ => False) :
    codeAny (model P w) callerA (.call (.ref fa) ⟨[.ref a], []⟩) (fun r s' => r = .ok (.ret (.bool true)) ∧ OldK s1.heap s'.heap ∧ s'.os = s1.os ∧ AllBare s'.gens) s1 := by
  have rv := vals_ints hi
  have lenV := hi.length
  have main : ∀ H : Hp, Only H → SqL K H a (ns.map V.int) → HOk P w H s1.heap → (∀ b, H b ≠ none → b = a) → (H a ≠ none → K.lookup a = none) →
      codeAny (model P w) callerA (.call (.ref fa) ⟨[.ref a], []⟩) (fun r s' => r = .ok (.ret (.bool true)) ∧ OldK s1.heap s'.heap ∧ s'.os = s1.os ∧ AllBare s'.gens) s1 := by
    intro H hO hS hok hA hK
    have at_dict : ∀ {b : Addr} {o : Obj} {es : Array DictEntry} {ep : Nat}, s1.heap.get? b = some o → o.data = .dict es ep → H b = none := by
      intro b o es ep e d
      cases q : H b with
      | none => rfl
      | some u =>
        exfalso
        have z := hA b (by rw [q]; exact fun z => nomatch z)
        rw [z, ha] at e
        cases e
        cases (show Data.seq vs.toArray _ = Data.dict es ep from d)
    have keepNs : ∀ {b : Addr} {m : Str → Option Value}, s1.heap.Ns b m → (hidT s1.heap H).Ns b m := by
      rintro b m ⟨o, es, ep, e, d, r⟩
      exact ⟨o, es, ep, hidT_get e (at_dict e d), d, r⟩
    have hKb : K.In (hidT s1.heap H) := by
      intro b o e
      refine hidT_get (KX b o e) ?_
      cases q : H b with
      | none => rfl
      | some u =>
        exfalso
        have hn : H b ≠ none := by rw [q]; exact fun z => nomatch z
        have z := hA b hn
        subst z
        rw [hK hn] at e
        cases e
    have e0 : Env0 P w K mg (hidT s1.heap H) callerA [] s1 H := by
      refine ⟨rfl, ⟨hKb, keepNs hns, ⟨mb, keepNs hb, hbb⟩, ?_⟩, fun b o e => of_hidT e, Nat.le_of_eq (hidT_size _ _), trivial, fun b hb => ?_, hok, .of_eq hg⟩
      · obtain ⟨mc, h1, h2⟩ := hlim
        exact ⟨mc, keepNs h1, h2⟩
      · exact absurd (show b ∈ ([] : List Addr) from hb) (by simp)
    have en : Ent callerA s1 H := by
      obtain ⟨mm, o, es, ep, e, d, _⟩ := hsys
      exact ⟨rfl, ⟨o, e⟩, at_dict e d⟩
    refine codeAny_mono ((F _ hKb (keepNs hns)).run callerA [] s1 H ⟨[.ref a], []⟩ [.ref a] [.ref a] _ _ en hr e0 (hbind s1 (.ref a) KX) (.cons rfl .nil) (hsp H hO hS)) fun r s' h => ?_
    cases r with
    | error e => exact False.elim h
    | ok fl =>
      cases fl with
      | next => exact False.elim h
      | brk => exact False.elim h
      | cont => exact False.elim h
      | ret u =>
        obtain ⟨v, H', os, bare, un, hok', r', q⟩ := h
        obtain rfl : v = .bl true := q
        obtain rfl : u = Value.bool true := r'
        refine ⟨rfl, OldK.of_keep fun b o e => ?_, os, bare⟩
        rcases hO b with z | ⟨ob, xs, z⟩
        · exact un.keep b o e z (fun m => absurd (show b ∈ ([] : List Addr) from m) (by simp)) (by simp)
        · have e1 := (hok b _ z).1
          have e2 := (hok' b _ (un.frzs b ob _ z)).1
          rw [e] at e1
          cases e1
          exact e2
  cases hk : K.lookup a with
  | some o =>
    have e := KX a o hk
    rw [ha] at e
    cases e
    refine main (fun _ => none) (fun _ => .inl rfl) (.inr ⟨_, vs.toArray, _, hk, rfl, rfl, rfl, ?_, ?_⟩) (fun b u z => nomatch (show (none : Option HO) = some u from z)) (fun b z => absurd rfl z) fun z => absurd rfl z
    · rw [List.size_toArray, lenV]
      exact hl
    · simpa using rv
  | none =>
    let Hs : Hp := fun b => if b = a then some (.frz { cls := .type "list", data := .seq vs.toArray } (.lst (ns.map V.int))) else none
    have at_a : Hs a = some (.frz { cls := .type "list", data := .seq vs.toArray } (.lst (ns.map V.int))) := if_pos rfl
    have else_ : ∀ b, b ≠ a → Hs b = none := fun b hb => if_neg hb
    refine main Hs (fun b => ?_) (.inl (.inr ⟨_, at_a⟩)) (fun b u z => ?_) (fun b z => ?_) fun _ => hk
    · by_cases hb : b = a
      · rw [hb]
        exact .inr ⟨_, _, at_a⟩
      · exact .inl (else_ b hb)
    · by_cases hb : b = a
      · rw [hb] at z ⊢
        rw [at_a] at z
        cases z
        exact ⟨ha, by rw [List.length_map]; exact hl, vs, _, rv, ha⟩
      · rw [else_ b hb] at z
        cases z
    · by_cases hb : b = a
      · exact hb
      · exact absurd (else_ b hb) z
theorem walk_ofG {l : PySem.W.OpenLaw} {n k : Nat} {q : Program} {loose : List Str} {XP : (Str → Option Value) → Heap → Prop} {YP : World → Heap → Prop} {d : DefRec} {K : Params → PySem.W.Frag} {sp : World → Sp} {x : Str}
    (hn : l.most = some n) (hn2 : n ≤ sizeLine) (hdf : d.params.defaults = []) (hr : Room k callerA) (hi : importsNone q = true)
    (hY : ∀ (w : World) (h : Heap), YP w h → (K w.params).In h)
    (F : ∀ (w : World) (mg : Str → Option Value) (fa : Addr) (h : Heap), (K w.params).In h → h.Ns mainGlobals mg → mg d.name = some (.ref fa) →
      ∃ fd : FuncData, (∀ (s : Shared) (u : Value), (K w.params).In s.heap → BindsTo s fd ⟨[u], []⟩ [(x, u)]) ∧
        ∀ base : Heap, (K w.params).In base → base.Ns mainGlobals mg → FnG l.prog w (K w.params) mg base k fa fd [x] (sp w))
    (hsp : ∀ (w : World) (H : Hp) (a : Addr) (ns : List Int), ns.length ≤ n → (∀ z ∈ ns, Builtin.Int.intBits z ≤ 1048576) → Only H → SqL (K w.params) H a (ns.map V.int) → sp w [.ref a] H (fun v _ => v = .bl true) fun _ _ _ => False) :
    PySem.W.WalkO q loose XP YP l.row.toRowW d [] (fun f vs => PySem.call f vs) := by
  refine Att.attach_callB hn hdf fun w s0 s1 mg mb fa o pm cd doc a vs ns G Y ho hd hcd hmg hobj hints hlen hbits hg => ?_
  have KX := hY w _ Y
  obtain ⟨fd, hb, hF⟩ := F w mg fa _ KX G.T.g hmg
  obtain ⟨mm, hm, _⟩ := (G.T.seer hi).mods
  exact law_callG KX G.T.g G.T.b G.T.builtins G.T.nolimit ⟨mm, hm⟩ hg hobj hints (Nat.le_trans hlen hn2) hr hF hb (fun H hO hS => hsp w H a ns hlen hbits hO hS)
end HX

set_option maxRecDepth 100000
set_option maxHeartbeats 4000000
namespace HX
open PySem PySem.Spec PyProof.Rows L2
theorem Kp.mut {N : Addr → Prop} {H H' : Hp} {p : Addr} {o : HO} (k : Kp N H H') (h : H p = none) : Kp N H (upd H' p o) := fun b x e nb => by
  rw [upd_ne (ne_of_none e h)]
  exact k b x e nb
/-! ### data of tuples alone: no store turns it -/
def KT (H H' : Hp) : Prop := ∀ b xs, H b = some (.tup xs) → H' b = some (.tup xs)
theorem KT.refl (H : Hp) : KT H H := fun _ _ h => h
theorem KT.trans {H H1 H2 : Hp} (a : KT H H1) (b : KT H1 H2) : KT H H2 := fun c xs h => b c xs (a c xs h)
theorem KT.new {H : Hp} {p : Addr} {o : HO} (h : H p = none) : KT H (upd H p o) := fun b xs e => by
  rw [upd_ne (ne_of_none e h)]
  exact e
theorem KT.put {H : Hp} {p : Addr} {o : HO} {xs : List V} (h : H p = some (.lst xs)) : KT H (upd H p o) := fun b ys e => by
  rw [upd_ne (ne_of e h (fun z => by cases z))]
  exact e
theorem KT.same {H H' : Hp} (h : Same H H') : KT H H' := fun b xs e => h b _ e
theorem KT.kp {H H' : Hp} {p : Addr} {xs : List V} (h : H p = some (.lst xs)) (k : Kp (· = p) H H') : KT H H' := fun b ys e => k b _ e (ne_of e h (fun z => by cases z))
mutual
inductive Td (H : Hp) : V → PyData → Prop
  | non : Td H .non .none
  | bl (b : Bool) : Td H (.bl b) (.bool b)
  | int (i : Int) : Td H (.int i) (.int i)
  | str (x : Str) : Td H (.str x) (.str x)
  | tup {a : Addr} {xs : List V} {ds : List PyData} : H a = some (.tup xs) → TdAll H xs ds → Td H (.ref a) (.tuple ds)
inductive TdAll (H : Hp) : List V → List PyData → Prop
  | nil : TdAll H [] []
  | cons {v : V} {vs : List V} {d : PyData} {ds : List PyData} : Td H v d → TdAll H vs ds → TdAll H (v :: vs) (d :: ds)
end
mutual
theorem Td.mono {H H' : Hp} (k : KT H H') : ∀ (d : PyData) (v : V), Td H v d → Td H' v d
  | .none, _, h => by cases h; exact .non
  | .bool b, _, h => by cases h; exact .bl b
  | .int i, _, h => by cases h; exact .int i
  | .str x, _, h => by cases h; exact .str x
  | .tuple ds, _, h => by
    cases h with
    | tup e ha => exact .tup (k _ _ e) (TdAll.mono k ds _ ha)
  | .list _, _, h => by cases h
  | .dict _, _, h => by cases h
theorem TdAll.mono {H H' : Hp} (k : KT H H') : ∀ (ds : List PyData) (vs : List V), TdAll H vs ds → TdAll H' vs ds
  | [], _, h => by cases h; exact .nil
  | d :: ds, _, h => by
    cases h with
    | cons h1 h2 => exact .cons (Td.mono k d _ h1) (TdAll.mono k ds _ h2)
end
mutual
theorem Td.da {N : Addr → Prop} {H : Hp} (hn : ∀ a xs, H a = some (.tup xs) → ¬ N a) : ∀ (d : PyData) (v : V), Td H v d → Da N H v d
  | .none, _, h => by cases h; exact .non
  | .bool b, _, h => by cases h; exact .bl b
  | .int i, _, h => by cases h; exact .int i
  | .str x, _, h => by cases h; exact .str x
  | .tuple ds, _, h => by
    cases h with
    | tup e ha => exact .tup e (hn _ _ e) (TdAll.da hn ds _ ha)
  | .list _, _, h => by cases h
  | .dict _, _, h => by cases h
theorem TdAll.da {N : Addr → Prop} {H : Hp} (hn : ∀ a xs, H a = some (.tup xs) → ¬ N a) : ∀ (ds : List PyData) (vs : List V), TdAll H vs ds → DaAll N H vs ds
  | [], _, h => by cases h; exact .nil
  | d :: ds, _, h => by
    cases h with
    | cons h1 h2 => exact .cons (Td.da hn d _ h1) (TdAll.da hn ds _ h2)
end
theorem TdAll.len {H : Hp} : ∀ {vs : List V} {ds : List PyData}, TdAll H vs ds → vs.length = ds.length
  | _, _, .nil => rfl
  | _, _, .cons _ t => by rw [List.length_cons, List.length_cons, TdAll.len t]
theorem TdAll.get {H : Hp} : ∀ {vs : List V} {ds : List PyData} {i : Nat} {v : V}, TdAll H vs ds → vs[i]? = some v → ∃ d, ds[i]? = some d ∧ Td H v d
  | _, _, _, _, .nil, e => by simp at e
  | _, _, 0, _, .cons h _, e => by
    have e' := Option.some.inj e
    exact ⟨_, rfl, e' ▸ h⟩
  | _, _, i + 1, _, .cons _ t, e => by
    obtain ⟨d, h1, h2⟩ := TdAll.get (i := i) t (by simpa using e)
    exact ⟨d, by simpa using h1, h2⟩
theorem TdAll.at {H : Hp} : ∀ {vs : List V} {ds : List PyData} {i : Nat} {d : PyData}, TdAll H vs ds → ds[i]? = some d → ∃ v, vs[i]? = some v ∧ Td H v d
  | _, _, _, _, .nil, e => by simp at e
  | _, _, 0, _, .cons h _, e => by
    have e' := Option.some.inj e
    exact ⟨_, rfl, e' ▸ h⟩
  | _, _, i + 1, _, .cons _ t, e => by
    obtain ⟨v, h1, h2⟩ := TdAll.at (i := i) t (by simpa using e)
    exact ⟨v, by simpa using h1, h2⟩
theorem TdAll.append {H : Hp} : ∀ {vs us : List V} {ds es : List PyData}, TdAll H vs ds → TdAll H us es → TdAll H (vs ++ us) (ds ++ es)
  | _, _, _, _, .nil, s => s
  | _, _, _, _, .cons r t, s => .cons r (TdAll.append t s)
theorem TdAll.snoc {H : Hp} {vs : List V} {ds : List PyData} {v : V} {d : PyData} (h : TdAll H vs ds) (g : Td H v d) : TdAll H (vs ++ [v]) (ds ++ [d]) := h.append (.cons g .nil)
theorem TdAll.ints {H : Hp} : ∀ ns : List Int, TdAll H (ns.map V.int) (ns.map PyData.int)
  | [] => .nil
  | n :: ns => .cons (.int n) (TdAll.ints ns)
theorem Td.tupOf {H : Hp} {v : V} {ds : List PyData} (h : Td H v (.tuple ds)) : ∃ a xs, v = .ref a ∧ H a = some (.tup xs) ∧ TdAll H xs ds := by
  cases h with
  | tup e ha => exact ⟨_, _, rfl, e, ha⟩
theorem Td.intOf {H : Hp} {v : V} {i : Int} (h : Td H v (.int i)) : v = .int i := by
  cases h
  rfl
theorem Td.new {H : Hp} {p : Addr} {xs : List V} {ds : List PyData} (hp : H p = none) (h : TdAll H xs ds) : Td (upd H p (.tup xs)) (.ref p) (.tuple ds) := .tup upd_same (TdAll.mono (KT.new hp) _ _ h)
/-! ### boards, moments, rows as plain lists -/
def stepD (es : List Int) : PyData := .tuple (es.map PyData.int)
def wheelD (w : List (List Int)) : PyData := .tuple (w.map stepD)
def wheelsD (ws : List (List (List Int))) : PyData := .tuple (ws.map wheelD)
def boardD (ws : List (List (List Int))) (c : Int) : PyData := .tuple [wheelsD ws, .int c]
def EndsOk (n : Int) (s : List Int) : Prop := s.length ≤ 3 ∧ ∀ e ∈ s, 0 ≤ e ∧ e < n
def WheelOk (n : Int) (w : List (List Int)) : Prop := 1 ≤ w.length ∧ w.length ≤ 4 ∧ ∀ s ∈ w, EndsOk n s
structure BoardOk (ws : List (List (List Int))) (c : Int) : Prop where
  w1 : 1 ≤ ws.length
  w6 : ws.length ≤ 6
  c0 : 0 ≤ c
  c4 : c ≤ 4
  wheels : ∀ w ∈ ws, WheelOk ((ws.length : Int) + c) w
end HX

set_option maxRecDepth 100000
set_option maxHeartbeats 4000000
namespace HX
open PySem PySem.Spec PyProof.Rows L2
/-! ### written data -/
def Fr (N : Addr → Prop) (H : Hp) : Prop := ∀ H1, Same H H1 → ∀ p, H1 p = none → ¬ N p
theorem Fr.none (H : Hp) : Fr (fun _ => False) H := fun _ _ _ _ z => z
theorem Fr.one {H : Hp} {a : Addr} {o : HO} (h : H a = some o) : Fr (· = a) H := fun H1 s p hp z => by
  rw [z, s _ _ h] at hp
  cases hp
def EvD (N : Addr → Prop) (te : TE) (σ : L2.St) (H : Hp) (d : PyData) : Prop := ∀ H1, Same H H1 → ∀ Q : VK, (∀ v H2, Same H1 H2 → Da N H2 v d → Q v H2) → te σ H1 Q
def EvDs (N : Addr → Prop) (ta : TA) (σ : L2.St) (H : Hp) (ds : List PyData) : Prop := ∀ H1, Same H H1 → ∀ Q : List V → Hp → Prop, (∀ vs H2, Same H1 H2 → DaAll N H2 vs ds → Q vs H2) → ta σ H1 Q
section
variable {N : Addr → Prop} {σ : L2.St} {H : Hp} {te : TE} {ta : TA} {d : PyData} {ds : List PyData}
theorem ed_non : EvD N (tC .non) σ H .none := fun H1 _ Q q => q _ H1 (Same.refl H1) .non
theorem ed_bl {b : Bool} : EvD N (tC (.bl b)) σ H (.bool b) := fun H1 _ Q q => q _ H1 (Same.refl H1) (.bl b)
theorem ed_int {i : Int} : EvD N (tC (.int i)) σ H (.int i) := fun H1 _ Q q => q _ H1 (Same.refl H1) (.int i)
theorem ed_str {x : Str} : EvD N (tC (.str x)) σ H (.str x) := fun H1 _ Q q => q _ H1 (Same.refl H1) (.str x)
theorem ed_neg {i : Int} : EvD N (tUn (rU fun i => .int (-i)) (tC (.int i))) σ H (.int (-i)) := fun H1 _ Q q => ⟨i, rfl, q _ H1 (Same.refl H1) (.int (-i))⟩
theorem ed_pow {i j z : Int} (hz : i ^ j.toNat = z := by decide +kernel) (h : CPow i j := by exact ⟨by decide, by decide, by decide⟩) : EvD N (tOp (rI CPow fun i j => .int (i ^ j.toNat)) (tC (.int i)) (tC (.int j))) σ H (.int z) := fun H1 _ Q q =>
  ⟨i, j, rfl, rfl, h, by
    show Q (.int (i ^ j.toNat)) H1
    rw [hz]
    exact q _ H1 (Same.refl H1) (.int z)⟩
theorem ed_nil : EvDs N tNil σ H [] := fun H1 _ Q q => q [] H1 (Same.refl H1) .nil
theorem ed_cons (h : EvD N te σ H d) (hr : EvDs N ta σ H ds) : EvDs N (tCons te ta) σ H (d :: ds) := fun H1 s1 Q q =>
  h H1 s1 _ fun v H2 s2 hd => hr H2 (s1.trans s2) _ fun vs H3 s3 hds => q (v :: vs) H3 (s2.trans s3) (.cons (Da.mono (Kp.of s3) _ _ hd) hds)
theorem ed_tup (f : Fr N H) (h : EvDs N ta σ H ds) (hl : ds.length ≤ 1000 := by decide) : EvD N (tTup ta) σ H (.tuple ds) := fun H1 s1 Q q =>
  h H1 s1 _ fun vs H2 s2 hds => ⟨by rw [hds.len]; exact Nat.le_of_lt (small1000 hl), fun p hp => q (.ref p) _ (s2.trans (Same.new hp)) (.tup upd_same (f H2 (s1.trans s2) p hp) (DaAll.mono (Kp.new hp) _ _ hds))⟩
theorem ed_lst (f : Fr N H) (h : EvDs N ta σ H ds) (hl : ds.length ≤ 1000 := by decide) : EvD N (tLst ta) σ H (.list ds) := fun H1 s1 Q q =>
  h H1 s1 _ fun vs H2 s2 hds => ⟨by rw [hds.len]; exact Nat.le_of_lt (small1000 hl), fun p hp => q (.ref p) _ (s2.trans (Same.new hp)) (.lst upd_same (f H2 (s1.trans s2) p hp) (DaAll.mono (Kp.new hp) _ _ hds))⟩
theorem ed_dict0 (f : Fr N H) : EvD N tDNewK σ H (.dict []) := fun H1 s1 Q q p hp => q (.ref p) _ (Same.new hp) (.dct upd_same (f H1 s1 p hp) .nil .nil)
theorem ed_dict1 {x : Str} {i : Int} (f : Fr N H) : EvD N (tDisp [(tC (.str x), tC (.int i))]) σ H (.dict [(.str x, .int i)]) := fun H1 s1 Q q p hp => by
  refine ⟨upd_same, [(.inr x, .int i)], rfl, by show 1 ≤ 15; decide, ?_⟩
  rw [upd_upd]
  refine q (.ref p) _ (Same.new hp) (.dct upd_same (f H1 s1 p hp) ?_ ?_)
  · exact .cons (.str x) .nil
  · exact .cons (.int i) .nil
theorem flat_rep {N : Addr → Prop} {H : Hp} {vs : List V} {ds : List PyData} (h : DaAll N H vs ds) : ∀ n : Nat, DaAll N H (List.replicate n vs).flatten (List.replicate n ds).flatten
  | 0 => .nil
  | n + 1 => by
    rw [List.replicate_succ, List.replicate_succ, List.flatten_cons, List.flatten_cons]
    exact h.append (flat_rep h n)
theorem ed_rep {K : PySem.W.Frag} {n : Int} (f : Fr N H) (h : EvD N te σ H (.tuple ds)) (h2 : 2 ≤ n := by decide) (h9 : n ≤ 1000 := by decide) (hz : ds ≠ [] := by simp) (hl : ds.length ≤ 1000 := by decide) :
    EvD N (tOp (rRepT K) te (tC (.int n))) σ H (.tuple (List.replicate n.toNat ds).flatten) := fun H1 s1 Q q =>
  h H1 s1 _ fun v H2 s2 hd => by
    obtain ⟨a, xs, rfl, e, _, ha⟩ := hd.tupOf
    refine ⟨a, n, xs, rfl, rfl, SqT.of e, fun z => hz ?_, h2, h9, ?_, fun p hp => ?_⟩
    · have := ha.len
      rw [z] at this
      exact List.eq_nil_of_length_eq_zero this.symm
    · rw [ha.len]
      exact hl
    · exact q (.ref p) _ (s2.trans (Same.new hp)) (.tup upd_same (f H2 (s1.trans s2) p hp) (DaAll.mono (Kp.new hp) _ _ (flat_rep ha n.toNat)))
end
/-! ### slices and sums of tuples, whichever object they come to -/
theorem rd_slice {K : PySem.W.Frag} {H : Hp} {Q : VK} {a : Addr} {xs : List V} {lo hi : Option Int} (hx : H a = some (.tup xs)) (q : ∀ p H', Same H H' → H' p = some (.tup (cutV xs lo hi)) → Q (.ref p) H') : rSlA K (.ref a) lo hi H Q := by
  refine ⟨a, xs, rfl, SqT.of hx, fun h => q a H (Same.refl H) ?_, fun _ p hp => q p _ (Same.new hp) upd_same⟩
  rw [hx]
  unfold cutV
  rw [h.1, h.2]
  show some (HO.tup xs) = some (.tup ((xs.drop 0).take (xs.length - 0)))
  rw [List.drop_zero, Nat.sub_zero, List.take_length]
theorem np {σ : L2.St} {H : Hp} {Q : Option Int → Hp → Prop} (h : Q none H) : tNoPart σ H Q := h
theorem rd_cat {K : PySem.W.Frag} {H : Hp} {Q : VK} {a b : Addr} {xs ys : List V} (hx : H a = some (.tup xs)) (hy : H b = some (.tup ys)) (hz : xs.length + ys.length ≤ sizeLine) (q : ∀ p H', Same H H' → H' p = some (.tup (xs ++ ys)) → Q (.ref p) H') : rCatA K (.ref a) (.ref b) H Q := by
  refine ⟨a, b, xs, ys, rfl, rfl, SqT.of hx, SqT.of hy, hz, fun e => q b H (Same.refl H) ?_, fun _ e => q a H (Same.refl H) ?_, fun _ _ p hp => q p _ (Same.new hp) upd_same⟩
  · rw [hy, e]
    rfl
  · rw [hx, e, List.append_nil]
theorem cut_to (xs : List V) (n : Nat) (h : n ≤ xs.length) : cutV xs none (some (n : Int)) = xs.take n := by
  unfold cutV
  rw [HT.sIx_none, HT.sIx_nat, List.drop_zero, Nat.min_eq_left h, Nat.sub_zero]
theorem cut_from (xs : List V) (n : Nat) (h : n ≤ xs.length) : cutV xs (some (n : Int)) none = xs.drop n := by
  unfold cutV
  rw [HT.sIx_none, HT.sIx_nat, Nat.min_eq_left h]
  exact List.take_of_length_le (by rw [List.length_drop]; omega)
theorem cut_one (xs : List V) (n : Nat) (h : n < xs.length) : cutV xs (some (n : Int)) (some ((n : Int) + 1)) = (xs.drop n).take 1 := by
  unfold cutV
  have e : (n : Int) + 1 = ((n + 1 : Nat) : Int) := by omega
  rw [e, HT.sIx_nat, HT.sIx_nat, Nat.min_eq_left (by omega), Nat.min_eq_left (by omega)]
  congr 1
  omega
/-! ### weights, bounds, depths of parts -/
theorem wtAll_append : ∀ xs ys : List PyData, wtAll (xs ++ ys) = wtAll xs + wtAll ys
  | [], ys => by simp [wtAll]
  | x :: xs, ys => by
    rw [List.cons_append]
    simp only [wtAll]
    rw [wtAll_append xs ys]
    omega
theorem withinAll_append {b : Int} : ∀ xs ys : List PyData, withinAll b (xs ++ ys) ↔ withinAll b xs ∧ withinAll b ys
  | [], ys => by simp [withinAll]
  | x :: xs, ys => by
    rw [List.cons_append]
    simp only [withinAll]
    rw [withinAll_append xs ys, and_assoc]
theorem depthAll_append : ∀ xs ys : List PyData, PyData.depthAll (xs ++ ys) = max (PyData.depthAll xs) (PyData.depthAll ys)
  | [], ys => by simp [PyData.depthAll]
  | x :: xs, ys => by
    rw [List.cons_append]
    simp only [PyData.depthAll]
    rw [depthAll_append xs ys]
    omega
mutual
theorem within_up {b c : Int} (h : b ≤ c) : ∀ d : PyData, within b d → within c d
  | .none, _ => by simp only [within]
  | .bool _, _ => by simp only [within]
  | .int i, q => by
    simp only [within] at q ⊢
    omega
  | .str _, _ => by simp only [within]
  | .list ds, q => by
    simp only [within] at q ⊢
    exact withinAll_up h ds q
  | .tuple ds, q => by
    simp only [within] at q ⊢
    exact withinAll_up h ds q
  | .dict ds, q => by
    simp only [within] at q ⊢
    exact withinKv_up h ds q
theorem withinAll_up {b c : Int} (h : b ≤ c) : ∀ ds : List PyData, withinAll b ds → withinAll c ds
  | [], _ => by simp only [withinAll]
  | d :: ds, q => by
    simp only [withinAll] at q ⊢
    exact ⟨within_up h d q.1, withinAll_up h ds q.2⟩
theorem withinKv_up {b c : Int} (h : b ≤ c) : ∀ ds : List (PyData × PyData), withinKv b ds → withinKv c ds
  | [], _ => by simp only [withinKv]
  | (x, y) :: ds, q => by
    simp only [withinKv] at q ⊢
    exact ⟨within_up h x q.1, within_up h y q.2.1, withinKv_up h ds q.2.2⟩
end
theorem split_at {α : Type} (xs : List α) (n : Nat) (x : α) (h : xs[n]? = some x) : xs = xs.take n ++ (x :: xs.drop (n + 1)) := by
  obtain ⟨hn, e⟩ := List.getElem?_eq_some_iff.mp h
  rw [← e, List.getElem_cons_drop, List.take_append_drop]
theorem wtAll_len : ∀ ds : List PyData, 2 * ds.length ≤ wtAll ds
  | [] => by simp [wtAll]
  | d :: ds => by
    have := wtAll_len ds
    simp only [wtAll, List.length_cons]
    omega
theorem wtAll_reverse : ∀ ds : List PyData, wtAll ds.reverse = wtAll ds
  | [] => rfl
  | d :: ds => by
    rw [List.reverse_cons, wtAll_append, wtAll_reverse ds]
    simp only [wtAll]
    omega
theorem withinAll_reverse {b : Int} : ∀ ds : List PyData, withinAll b ds → withinAll b ds.reverse
  | [], h => h
  | d :: ds, h => by
    rw [List.reverse_cons, withinAll_append]
    simp only [withinAll] at h ⊢
    exact ⟨withinAll_reverse ds h.2, h.1, trivial⟩
theorem depthAll_reverse : ∀ ds : List PyData, PyData.depthAll ds.reverse = PyData.depthAll ds
  | [] => rfl
  | d :: ds => by
    rw [List.reverse_cons, depthAll_append, depthAll_reverse ds]
    simp only [PyData.depthAll]
    omega
/-- a statement, then the rest, shown once from what stands between them -/
def tCut (t u : TS) : TS := fun D σ H => ∃ Mid : L2.St → Hp → Prop, t { D with nx := Mid } σ H ∧ ∀ σ' H', Mid σ' H' → u D σ' H'
theorem pss_cut {X : Cx} {st : Stmt} {rest : List Stmt} {t u : TS} (h1 : PS X st t) (h2 : PSs X rest u) : PSs X (st :: rest) (tCut t u) := by
  refine ⟨fun pins s σ H D I h => ?_⟩
  obtain ⟨Mid, hm, hu⟩ := h
  refine wpAny_execs_cons (thn (h1.run pins s σ H { D with nx := Mid } I hm) fun f s1 q => ?_)
  cases f with
  | ret v => exact q
  | brk => exact q
  | cont => exact q
  | next =>
    obtain ⟨σ', H', I', q'⟩ := q
    exact h2.run pins s1 σ' H' D I' (hu σ' H' q')
theorem s_next {D : Ends} {σ : L2.St} {H : Hp} (h : D.nx σ H) : tNext D σ H := h
theorem s_ret {te : TE} {D : Ends} {σ : L2.St} {H : Hp} (h : te σ H D.rt) : tRet te D σ H := h
theorem s_asg {te : TE} {u : TS} {D : Ends} {σ : L2.St} {H : Hp} {i : Nat} (h : te σ H fun x H1 => u D (σ.set i (some x)) H1) : tSeq (tAsg te (gName i)) u D σ H := h
theorem Da.lstOf {N : Addr → Prop} {H : Hp} {v : V} {ds : List PyData} (h : Da N H v (.list ds)) : ∃ a xs, v = .ref a ∧ H a = some (.lst xs) ∧ ¬ N a ∧ DaAll N H xs ds := by
  cases h with
  | lst e n ha => exact ⟨_, _, rfl, e, n, ha⟩
theorem entx_of {P : Program} {w : World} {K : PySem.W.Frag} {mg : Str → Option Value} {base : Heap} {N : List Str} {qual : Str} {scope : Scope} {f : Addr} {cdv : Value} {A : Around} {outer : List Env} {s : Shared} {H : Hp} {E : XK} (en : Ent A s H) :
    EntX (cxOf CX0 P w K mg base N qual scope f cdv A outer s H E).nox := ⟨en.gu, en.sm, en.hm, fun z => absurd (show sysModules ∈ ([] : List Addr) from z) (by simp)⟩
theorem hu150 {A : Around} {k : Nat} (hr : Room k A) : A.units + 150 < cLine := by
  have := hr.un
  omega
theorem def_mk {K : PySem.W.Frag} {mg : Str → Option Value} {h : Heap} {x : Str} {st : Stmt} {ps : List Str} {f : Addr} {od an : Option Addr} {sl : Array (Option Value)} {oc kV dc pm cd ct : Value} (X : K.In h) (G : h.Ns mainGlobals mg)
    (a : PySem.W.nsIn K mainGlobals x = some (some (.ref f))) (l : K.lookup f = some ⟨oc, od, .func (PySem.W.fnOf x x (defArgs st) (defBody st) (defScope st) .none kV dc pm an cd ct), sl⟩) (c : PySem.W.codeIn K cd x = true) (k : PySem.W.keepIn K (.ref f) = true)
    (hb : ∀ (kV doc pm : Value) (an : Option Addr) (cdv ct : Value) (us : List Value), us.length = ps.length → bindArgs (PySem.W.fnOf x x (defArgs st) (defBody st) (defScope st) .none kV doc pm an cdv ct) ⟨us, []⟩ = pure (ps.zip us)) : Def K mg x st ps :=
  ⟨f, _, fun_mk l c k, PySem.W.mg_of X G a, (fun_mk l c k).binds hb⟩
/-- all([e for x in t]), t any expression that gives a tuple -/
theorem read_allE {K : PySem.W.Frag} {N : Addr → Prop} {σ : L2.St} {H : Hp} {Q : VK} {j : Nat} {tl te : TE} {a : Addr} {xs : List V} {ds : List PyData} (p : PyData → Bool)
    (hs : ∀ Q' : VK, Q' (.ref a) H → tl σ H Q') (hx : H a = some (.tup xs)) (hd : DaAll N H xs ds) (hz : ds.length ≤ 1000)
    (ht : ∀ (x : V) (d : PyData) (H' : Hp), Same H H' → Da N H' x d → ∀ Q' : VK, (∀ H2, Same H' H2 → Q' (.bl (p d)) H2) → te ((wipe σ [j]).set j (some x)) H' Q')
    (q : ∀ H', Same H H' → Q (.bl (ds.all p)) H') : tCB (rAll K) (tCons (tLc (iTup K tl) (gName j) tYes te [j]) tNil) σ H Q := by
  refine hs _ ⟨a, rfl, ⟨xs, .inl (.inl hx)⟩, fun D hD => ?_⟩
  have hlen : xs.length = ds.length := hd.len
  refine lc_tup (xs := xs) (fun i H' => Same H H' ∧ H' D = some (.lst ((ds.take i).map fun d => V.bl (p d)))) ⟨Same.new hD, ?_⟩ (fun i H' _ h => .inl (.inl (h.1 _ _ hx))) (fun i x H' hi h => ?_) (fun H' h => ?_)
  · rw [upd_same]
    rfl
  · obtain ⟨d, e1, e2⟩ := (DaAll.mono (Kp.of h.1) _ _ hd).get hi
    refine ⟨wipe1 x, tYes_eq (iteT (ht x d H' h.1 e2 _ fun H2 s2 => ?_))⟩
    refine ⟨_, s2 _ _ h.2, ?_, fun b o e => ?_, ?_⟩
    · rw [List.length_map, List.length_take]
      exact small1000 (by omega)
    · rw [upd_ne (ne_of_none e hD)]
      exact s2 _ _ (h.1 _ _ e)
    · rw [upd_same, List.take_add_one, e1, List.map_append]
      rfl
  · refine ⟨D, ds.map p, rfl, .inl (.inl ?_), ?_⟩
    · rw [h.2, hlen, List.take_length, List.map_map]
      rfl
    · rw [List.all_map]
      exact q H' h.1
/-! rules for within a comprehension: the written part said -/
theorem ix_tupK {X : Cx} {K : PySem.W.Frag} (h : X.K = K := by rfl) : IxR X (rIxT K) := by
  subst h
  exact ix_tup
theorem ix_listK {X : Cx} {K : PySem.W.Frag} (h : X.K = K := by rfl) : IxR X (rIxL K) := by
  subst h
  exact ix_list
def rLenK (K : PySem.W.Frag) : List V → Hp → VK → Prop := fun xs H Q => ∃ p ys, xs = [.ref p] ∧ (SqL K H p ys ∨ SqT K H p ys) ∧ Q (.int ys.length) H
theorem call_len_seqK {X : Cx} {K : PySem.W.Frag} (h : X.K = K := by rfl) : CallR X (.builtin "len") (rLenK K) := by
  subst h
  exact call_len_seq
theorem call_isi_K {X : Cx} {K : PySem.W.Frag} (h : X.K = K := by rfl) : CallR X (.builtin "isinstance") (rIsi K) := by
  subst h
  exact call_isi
def rListK (K : PySem.W.Frag) : List V → Hp → VK → Prop := fun xs H Q => ∃ p ys, xs = [.ref p] ∧ (SqL K H p ys ∨ SqT K H p ys) ∧ ∀ l, H l = none → Q (.ref l) (upd H l (.lst ys))
theorem call_list_ofK {X : Cx} {K : PySem.W.Frag} (h : X.K = K := by rfl) : CallR X (.type "list") (rListK K) := by
  subst h
  exact call_list_of
theorem gint_mk {K : PySem.W.Frag} {mg : Str → Option Value} {h : Heap} {x : Str} {i : Int} {t : Tok} (X : K.In h) (G : h.Ns mainGlobals mg) (a : PySem.W.nsIn K mainGlobals x = some (some (.int i t))) : ∃ t, mg x = some (.int i t) := ⟨t, PySem.W.mg_of X G a⟩
theorem def_cut {C : Prop} {K : PySem.W.Frag} {mg : Str → Option Value} {h : Heap} {x : Str} {st : Stmt} {ps : List Str} {f : Addr} {od an : Option Addr} {sl : Array (Option Value)} {oc kV dc pm cd ct : Value} (X : K.In h) (G : h.Ns mainGlobals mg)
    (a : PySem.W.nsIn K mainGlobals x = some (some (.ref f))) (l : K.lookup f = some ⟨oc, od, .func (PySem.W.fnOf x x (defArgs st) (defBody st) (defScope st) .none kV dc pm an cd ct), sl⟩) (c : PySem.W.codeIn K cd x = true) (k : PySem.W.keepIn K (.ref f) = true)
    (hb : ∀ (kV doc pm : Value) (an : Option Addr) (cdv ct : Value) (us : List Value), us.length = ps.length → bindArgs (PySem.W.fnOf x x (defArgs st) (defBody st) (defScope st) .none kV doc pm an cdv ct) ⟨us, []⟩ = pure (ps.zip us)) (z : Def K mg x st ps → C) : C :=
  z (def_mk X G a l c k hb)
/-- parts of a list of data -/
structure Pt (b : Int) (w e : Nat) (ds : List PyData) : Prop where
  iw : withinAll b ds
  wn : wtAll ds ≤ w
  dp : PyData.depthAll ds ≤ e
theorem Pt.append {b : Int} {w1 w2 e : Nat} {xs ys : List PyData} (h : Pt b w1 e xs) (g : Pt b w2 e ys) : Pt b (w1 + w2) e (xs ++ ys) := by
  refine ⟨(withinAll_append _ _).mpr ⟨h.iw, g.iw⟩, ?_, ?_⟩
  · rw [wtAll_append]
    exact Nat.add_le_add h.wn g.wn
  · rw [depthAll_append]
    exact Nat.max_le.mpr ⟨h.dp, g.dp⟩
theorem Pt.one {b : Int} {w e : Nat} {d : PyData} (h1 : within b d) (h2 : wt d ≤ w) (h3 : d.depth ≤ e) : Pt b (w + 2) e [d] := by
  refine ⟨?_, ?_, ?_⟩
  · simp only [withinAll]
    exact ⟨h1, trivial⟩
  · simp only [wtAll]
    omega
  · simp only [PyData.depthAll]
    omega
theorem Pt.le {b : Int} {w w' e : Nat} {xs : List PyData} (h : Pt b w e xs) (hw : w ≤ w') : Pt b w' e xs := ⟨h.iw, Nat.le_trans h.wn hw, h.dp⟩
theorem Pt.up {b c : Int} {w e : Nat} {xs : List PyData} (h : Pt b w e xs) (hc : b ≤ c) : Pt c w e xs := ⟨withinAll_up hc _ h.iw, h.wn, h.dp⟩
theorem Pt.cut {b : Int} {w e : Nat} {xs : List PyData} (h : Pt b w e xs) (n : Nat) : ∃ w1 w2, Pt b w1 e (xs.take n) ∧ Pt b w2 e (xs.drop n) ∧ w1 + w2 ≤ w := by
  obtain ⟨h1, h2, h3⟩ := h
  have q1 := (withinAll_append (xs.take n) (xs.drop n)).mp (by rw [List.take_append_drop]; exact h1)
  have q2 := wtAll_append (xs.take n) (xs.drop n)
  rw [List.take_append_drop] at q2
  have q3 := depthAll_append (xs.take n) (xs.drop n)
  rw [List.take_append_drop] at q3
  exact ⟨_, _, ⟨q1.1, Nat.le_refl _, by omega⟩, ⟨q1.2, Nat.le_refl _, by omega⟩, by omega⟩
end HX

set_option maxRecDepth 100000
set_option maxHeartbeats 1000000
namespace HX
open PySem PySem.Spec PyProof.Rows L2
/-! ### lists and tuples walked side by side: zip of two, of three, in any mix; enumerate of either -/
inductive Ki where
  | l | t
def SqK (K : PySem.W.Frag) (H : Hp) : Ki → Addr → List V → Prop
  | .l, a, xs => SqL K H a xs
  | .t, a, xs => SqT K H a xs
def ItrK (h : Heap) : Ki → Addr → Addr → Nat → Prop
  | .l, it, a, i => h.IsListIter it a i
  | .t, it, a, i => h.IsTupleIter it a i
def SeqK (h : Heap) : Ki → Addr → Array Value → Prop
  | .l, a, its => h.IsList a its
  | .t, a, its => h.IsTuple a its
def itO : Ki → Addr → Obj
  | .l, a => { cls := .type "list_iterator", data := .fields #[.ref a, .int 0 0] }
  | .t, a => { cls := .type "tuple_iterator", data := .fields #[.ref a, .int 0 0] }
theorem beginsK (k : Ki) (a : Addr) (its : Array Value) : Begins (.ref a) (itO k a) (fun h => SeqK h k a its) := by
  cases k with
  | l => exact begins_list a its
  | t => exact begins_tuple a its
theorem drawsK {prog : Program} {w : World} {A : Around} (hh : A.handled = none) (k : Ki) (it a : Addr) (hne : a ≠ it) (its : Array Value) :
    Draws prog w A it [it, a] its.size (fun i v => its[i]? = some v) (fun i h => ItrK h k it a i ∧ SeqK h k a its) := by
  cases k with
  | l => exact Draws.list hh it a hne its
  | t => exact Draws.tuple hh it a hne its
theorem itrK_of {h : Heap} {k : Ki} {it a : Addr} (e : h.get? it = some (itO k a)) : ItrK h k it a 0 := by
  cases k with
  | l => exact ⟨_, e, rfl, rfl⟩
  | t => exact ⟨_, e, rfl, rfl⟩
theorem itrK_at {h h' : Heap} {k : Ki} {it a : Addr} {i : Nat} (x : ItrK h k it a i) (e : ∀ o, h.get? it = some o → h'.get? it = some o) : ItrK h' k it a i := by
  cases k with
  | l => exact Heap.IsListIter.at x e
  | t => exact Heap.IsTupleIter.at x e
theorem itrK_obj {h : Heap} {k : Ki} {it a : Addr} {i : Nat} (x : ItrK h k it a i) : ∃ o, h.get? it = some o ∧ ∀ v, o.data ≠ .cell v := by
  cases k with
  | l =>
    obtain ⟨o, e, _, d⟩ := x
    exact ⟨o, e, fun v q => by rw [d] at q; cases q⟩
  | t =>
    obtain ⟨o, e, _, d⟩ := x
    exact ⟨o, e, fun v q => by rw [d] at q; cases q⟩
section
variable {X : Cx} {pins : List (Addr × Obj)} {σ : L2.St} {H : Hp} {s : Shared} {k : Ki} {a : Addr} {xs ys : List V}
theorem inv_seqK (I : Inv X pins σ H s) (h : SqK X.K H k a xs) : ∃ its : List Value, Vals xs its ∧ SeqK s.heap k a its.toArray := by
  cases k with
  | l =>
    obtain ⟨its, rv, p, _⟩ := I.list h
    exact ⟨its, rv, p.isList⟩
  | t =>
    obtain ⟨its, rv, p, _⟩ := I.tuple h
    exact ⟨its, rv, p⟩
theorem inv_seqK_inj (I : Inv X pins σ H s) (h : SqK X.K H k a xs) (h' : SqK X.K H k a ys) : xs = ys := by
  cases k with
  | l => exact I.list_inj h h'
  | t => exact I.tuple_inj h h'
theorem seqK_lt {h : Heap} {its : Array Value} (x : SeqK h k a its) : a < h.objs.size := by
  cases k with
  | l =>
    obtain ⟨o, e, _⟩ := x
    exact Heap.lt_size e
  | t =>
    obtain ⟨o, e, _⟩ := x
    exact Heap.lt_size e
end
theorem SqK.same {K : PySem.W.Frag} {H H' : Hp} {k : Ki} {a : Addr} {xs : List V} (s : Same H H') (h : SqK K H k a xs) : SqK K H' k a xs := by
  cases k with
  | l => exact s.seq h
  | t =>
    rcases h with (h | ⟨o, h⟩) | h
    · exact .inl (.inl (s _ _ h))
    · exact .inl (.inr ⟨o, s _ _ h⟩)
    · exact .inr h
/-! zip of two -/
def Itz2 (K : PySem.W.Frag) (k1 : Ki) (a : Addr) (k2 : Ki) (b : Addr) : It :=
  ⟨fun i H => ∃ (xs ys : List V) (x y : V), SqK K H k1 a xs ∧ SqK K H k2 b ys ∧ xs[i]? = some x ∧ ys[i]? = some y,
    fun i H v H' => ∃ T x y, v = .ref T ∧ H T = none ∧ H' = upd H T (.tup [x, y]) ∧ (∀ xs, SqK K H k1 a xs → xs[i]? = some x) ∧ ∀ ys, SqK K H k2 b ys → ys[i]? = some y,
    fun i H => ∃ xs ys : List V, SqK K H k1 a xs ∧ SqK K H k2 b ys ∧ i = min xs.length ys.length⟩
theorem turn_zip2 {P : Program} {w : World} {K : PySem.W.Frag} {elts : List Expr} {kk : Nat} {tpos : Pos} {k1 k2 : Ki} {a b z TI TO i1 i2 : Addr} (S : ZipSep2 z TI TO i1 i2 [i1, a] [i2, b]) (na : a ≠ i1) (nb : b ≠ i2) :
    Turn P w K (.Tuple elts kk tpos) (Itz2 K k1 a k2 b) [z, TI, TO, i1, i2] z (fun i h => IsZip h z TI TO .none ∧ IsTupOf2 h TI (.ref i1) (.ref i2) ∧ (∃ x y, IsTupOf2 h TO x y) ∧ ItrK h k1 i1 a i ∧ ItrK h k2 i2 b i) where
  mem := by simp
  obj := fun i h st c hc => by
    obtain ⟨hz, hTI, ⟨x, y, hTO⟩, h1, h2⟩ := st
    have e' : c = z ∨ c = TI ∨ c = TO ∨ c = i1 ∨ c = i2 := by simpa using hc
    rcases e' with rfl | rfl | rfl | rfl | rfl
    · exact ⟨_, hz, fun v q => nomatch q⟩
    · exact ⟨_, hTI, fun v q => nomatch q⟩
    · exact ⟨_, hTO, fun v q => nomatch q⟩
    · exact itrK_obj h1
    · exact itrK_obj h2
  keep := fun i h h' st k => by
    obtain ⟨hz, hTI, ⟨x, y, hTO⟩, h1, h2⟩ := st
    exact ⟨k z (by simp) _ hz, k TI (by simp) _ hTI, ⟨x, y, k TO (by simp) _ hTO⟩, itrK_at h1 fun o q => k i1 (by simp) o q, itrK_at h2 fun o q => k i2 (by simp) o q⟩
  item := by
    intro X hP hw hK hc i pins s σ H E I hf st hg
    subst hP hw hK
    obtain ⟨hz, hTI, hTO, h1, h2⟩ := st
    obtain ⟨xs, ys, x, y, hqx, hqy, hx, hy⟩ := hg
    obtain ⟨its, rv, p⟩ := inv_seqK I hqx
    obtain ⟨its2, rv2, p2⟩ := inv_seqK I hqy
    have l1 := rv.length
    have l2 := rv2.length
    have b1 := (List.getElem?_eq_some_iff.mp hx).1
    have b2 := (List.getElem?_eq_some_iff.mp hy).1
    have hh : X.A.in1.handled = none := I.ok.hd hc
    have G := GoesN.zip2 (A := X.A) (elts := elts) (x1 := kk) (pos := tpos) S (drawsK (prog := X.prog) (w := X.w) hh k1 i1 a na its.toArray) (drawsK (prog := X.prog) (w := X.w) hh k2 i2 b nb its2.toArray)
    refine G.goes i s _ E (by rw [List.size_toArray, List.size_toArray]; omega) ⟨hz, hTI, hTO, ⟨h1, p⟩, ⟨h2, p2⟩⟩ fun v h' tk hY st' hk htk => ?_
    obtain ⟨T, u, u2, rfl, hT, hu, hu2, hTup⟩ := hY
    obtain ⟨q1, q2, q3, q4, q5⟩ := st'
    obtain ⟨u', e1, ru⟩ := rv.get hx
    obtain ⟨u2', e2, ru2⟩ := rv2.get hy
    have e3 : u' = u := Option.some.inj (e1.symm.trans (by simpa using hu))
    have e4 : u2' = u2 := Option.some.inj (e2.symm.trans (by simpa using hu2))
    subst e3 e4
    have new : ObjOk X.prog X.w (upd H T (.tup [x, y])) h' T (.tup [x, y]) := ⟨by show 2 ≤ sizeLine; decide, [u', u2'], .cons ru (.cons ru2 .nil), hTup⟩
    have I1 : Inv X pins σ (upd H T (.tup [x, y])) { s with heap := h', toks := tk } :=
      I.turnedNew (t' := tk) (ch := [z, TI, TO, i1, i2]) (fun c o hb q => hk c o (fun m => hb (by
        have e' : c = z ∨ c = TO ∨ c = i1 ∨ c = i2 := by simpa using m
        rcases e' with rfl | rfl | rfl | rfl <;> simp)) q) hf hT new
    refine ⟨.ref T, _, I1, rfl, ⟨T, x, y, rfl, I.hok.fresh hT, rfl, fun l hl => by rw [inv_seqK_inj I hl hqx]; exact hx, fun l hl => by rw [inv_seqK_inj I hl hqy]; exact hy⟩, ⟨q1, q2, q3, q4.1, q5.1⟩, fun c hcm => ?_⟩
    have hlt : c < s.heap.objs.size := by
      have e' : c = z ∨ c = TI ∨ c = TO ∨ c = i1 ∨ c = i2 := by simpa using hcm
      obtain ⟨x0, y0, hTO'⟩ := hTO
      rcases e' with rfl | rfl | rfl | rfl | rfl
      · exact Heap.lt_size hz
      · exact Heap.lt_size hTI
      · exact Heap.lt_size hTO'
      · exact Heap.lt_size (itrK_obj h1).choose_spec.1
      · exact Heap.lt_size (itrK_obj h2).choose_spec.1
    rw [upd_ne (Nat.ne_of_lt (Nat.lt_of_lt_of_le hlt hT))]
    exact (hf c hcm).1
  done := by
    intro X hP hw hK hc i pins s σ H E I hf st hg
    subst hP hw hK
    obtain ⟨hz, hTI, hTO, h1, h2⟩ := st
    obtain ⟨xs, ys, hqx, hqy, hend⟩ := hg
    obtain ⟨its, rv, p⟩ := inv_seqK I hqx
    obtain ⟨its2, rv2, p2⟩ := inv_seqK I hqy
    have l1 := rv.length
    have l2 := rv2.length
    have hh : X.A.in1.handled = none := I.ok.hd hc
    have G := GoesN.zip2 (A := X.A) (elts := elts) (x1 := kk) (pos := tpos) S (drawsK (prog := X.prog) (w := X.w) hh k1 i1 a na its.toArray) (drawsK (prog := X.prog) (w := X.w) hh k2 i2 b nb its2.toArray)
    have ei : i = min its.toArray.size its2.toArray.size := by rw [List.size_toArray, List.size_toArray]; omega
    subst ei
    exact G.stops s _ E ⟨hz, hTI, hTO, ⟨h1, p⟩, ⟨h2, p2⟩⟩ fun h' tk hk htk => I.turnedL (t' := tk) (ch := [z, TI, TO, i1, i2]) (fun c o hb q => hk c o (fun m => hb (by
        have e' : c = z ∨ c = TO ∨ c = i1 ∨ c = i2 := by simpa using m
        rcases e' with rfl | rfl | rfl | rfl <;> simp)) q) hf
  self := fun A i s Q E st h => wpAny_pyIter_zip st.1 h
def iZip2 (K : PySem.W.Frag) (ta : TA) : TI := fun σ H R => ta σ H fun vs H1 => ∃ k1 a k2 b xs ys, vs = [.ref a, .ref b] ∧ SqK K H1 k1 a xs ∧ SqK K H1 k2 b ys ∧ R (Itz2 K k1 a k2 b) H1
theorem pi_zip2 {X : Cx} {e e2 : Expr} {ta : TA} {p pos tpos : Pos} {elts : List Expr} {kk : Nat} (hg : Gl X "zip") (hm : X.mg "zip" = none) (ha : PA X [e, e2] ta)
    (hs : starEach [e, e2] X.env = (false, eval e X.env) :: starEach [e2] X.env := by rfl) (hpl : (backTo pos (starEach [e2] X.env)).any (·.1) = false := by rfl) :
    PI X (.Tuple elts kk tpos) (.Call (.Name "zip" p) [e, e2] [] pos) (iZip2 X.K ta) := by
  refine ⟨fun pins s σ H R I h => ?_⟩
  refine Call_ (ld_blt I hg hm PyProof.Rows.boot_zip (PyProof.Rows.callWith_type1 (thn (ha.run pos pins s σ H _ I h) fun us s1 ⟨vs, H1, I1, r1, q1⟩ => ?_) hs hpl))
  obtain ⟨k1, a, k2, b, xs, ys, rfl, hqx, hqy, q⟩ := q1
  obtain ⟨u1, u2, rfl, r, r'⟩ := vals2 r1
  cases r
  cases r'
  obtain ⟨its, rv, p1⟩ := inv_seqK I1 hqx
  obtain ⟨its2, rv2, p2⟩ := inv_seqK I1 hqy
  have la := seqK_lt p1
  have lb := seqK_lt p2
  refine zip_begins2 (beginsK k1 a its.toArray) (beginsK k2 b its2.toArray) p1 p2 fun h' hz hTI hTO g1 g2 hsz hk => wpAny_pyIter_zip hz ?_
  have I2 : Inv X pins σ H1 { s1 with heap := h' } := I1.kept (t' := s1.toks) hk
  refine ⟨s1.heap.objs.size + 4, [s1.heap.objs.size + 4, s1.heap.objs.size + 2, s1.heap.objs.size + 3, s1.heap.objs.size, s1.heap.objs.size + 1], _, _, H1, rfl, I2,
    turn_zip2 (zip_sep2 (N := s1.heap.objs.size) (fp1 := [a]) (fp2 := [b]) (fun c m => by rw [List.mem_singleton.mp m]; exact la) (fun c m => by rw [List.mem_singleton.mp m]; exact lb)) (Nat.ne_of_lt la) (Nat.ne_of_lt (Nat.lt_succ_of_lt lb)),
    ⟨hz, hTI, ⟨_, _, hTO⟩, itrK_of g1, itrK_of g2⟩, fun c hcm => ?_, q⟩
  have hle : s1.heap.objs.size ≤ c := by
    have e' : c = s1.heap.objs.size + 4 ∨ c = s1.heap.objs.size + 2 ∨ c = s1.heap.objs.size + 3 ∨ c = s1.heap.objs.size ∨ c = s1.heap.objs.size + 1 := by simpa using hcm
    rcases e' with e' | e' | e' | e' | e' <;> rw [e'] <;> first | exact Nat.le_refl _ | exact Nat.le_add_right _ _
  exact I1.fpOk hle (I1.hok.fresh hle)
theorem walk_zip2 {K : PySem.W.Frag} {k1 k2 : Ki} {a b : Addr} {xs ys : List V} {n : Nat} (hn : n = min xs.length ys.length) : Walk (Itz2 K k1 a k2 b) n (fun H => SqK K H k1 a xs ∧ SqK K H k2 b ys) (YPair (fun i => xs[i]?) (fun i => ys[i]?)) := by
  refine ⟨fun i _ hi q => ⟨xs, ys, xs[i]'(by omega), ys[i]'(by omega), q.1, q.2, by simp, by simp⟩, fun H q => ⟨xs, ys, q.1, q.2, hn⟩, fun i H v H' _ q y => ?_⟩
  obtain ⟨T, x, z, h1, h2, h3, h4, h5⟩ := y
  exact ⟨T, x, z, h1, h2, h3, h4 xs q.1, h5 ys q.2⟩
end HX

set_option maxRecDepth 100000
set_option maxHeartbeats 1000000
namespace HX
open PySem PySem.Spec PyProof.Rows L2
/-! ### more names of built-ins; two names in a comprehension; all over two walked side by side -/
structure Bi2 (mg : Str → Option Value) : Prop where
  zip_ : mg "zip" = none
  enumerate_ : mg "enumerate" = none
  sum_ : mg "sum" = none
theorem pg_tupK {X : Cx} {K : PySem.W.Frag} {es : List Expr} {k : Nat} {pos : Pos} {t : TGs} {n : Nat} (hc : X.calm = true) (h : PGs X es t) (hK : X.K = K := by rfl)
    (hn : (assignEach es X.env).length = n := by rfl) (hst : (assignEach es X.env).findIdx? (·.1) = none := by rfl) : PG X (.Tuple es k pos) (gTup K n t) := by
  subst hK
  exact pg_tup hc h hn hst
theorem wipe2 {σ : L2.St} {i j : Nat} (h : i ≠ j) (x y : V) : wipe (((wipe σ [i, j]).set i (some x)).set j (some y)) [i, j] = wipe σ [i, j] := by
  show (((((σ.set j none).set i none).set i (some x)).set j (some y)).set j none).set i none = (σ.set j none).set i none
  rw [List.set_set, List.set_set, List.set_comm _ _ h, List.set_set, List.set_set]
theorem read_all2 {K : PySem.W.Frag} {σ : L2.St} {H : Hp} {Q : VK} {i j : Nat} {ta : TA} {te : TE} {k1 k2 : Ki} {a b : Addr} {xs ys : List V} {n : Nat} (p : Nat → Bool) (hij : i ≠ j) (hn : n = min xs.length ys.length)
    (hs : ∀ R : List V → Hp → Prop, R [.ref a, .ref b] H → ta σ H R) (hx : ∀ H', Same H H' → SqK K H' k1 a xs) (hy : ∀ H', Same H H' → SqK K H' k2 b ys) (hz : n ≤ 1000)
    (ht : ∀ (m : Nat) (x y : V) (H' : Hp), Same H H' → m < n → xs[m]? = some x → ys[m]? = some y → ∀ Q' : VK, (∀ H2, Same H' H2 → Q' (.bl (p m)) H2) → te (((wipe σ [i, j]).set i (some x)).set j (some y)) H' Q')
    (q : ∀ H', Same H H' → Q (.bl ((List.range n).all p)) H') : tCB (rAll K) (tCons (tLc (iZip2 K ta) (gTup K 2 (gCons (gName i) (gCons (gName j) gNil))) tYes te [i, j]) tNil) σ H Q := by
  refine hs _ ⟨k1, a, k2, b, xs, ys, rfl, hx H (Same.refl H), hy H (Same.refl H), fun D hD => ?_⟩
  refine lc_it (walk_zip2 hn) (fun m H' => Same H H' ∧ H' D = some (.lst ((List.range m).map fun m => V.bl (p m)))) ⟨Same.new hD, ?_⟩ (fun m H' _ h => ⟨hx H' h.1, hy H' h.1⟩) (fun m v H' H2 hm h hv => ?_) (fun H' h => ?_)
  · rw [upd_same]
    rfl
  · obtain ⟨T, x, y, rfl, nT, rfl, ex, ey⟩ := hv
    have sT : Same H' (upd H' T (.tup [x, y])) := Same.new nT
    refine ⟨T, [x, y], rfl, SqT.of upd_same, rfl, x, [y], rfl, y, [], rfl, rfl, wipe2 hij x y, tYes_eq (iteT (ht m x y _ (h.1.trans sT) hm ex ey _ fun H3 s3 => ?_))⟩
    refine ⟨_, s3 _ _ (sT _ _ h.2), ?_, fun c o e => ?_, ?_⟩
    · rw [List.length_map, List.length_range]
      exact small1000 (by omega)
    · rw [upd_ne (ne_of_none e hD)]
      exact s3 _ _ (sT _ _ (h.1 _ _ e))
    · rw [upd_same, List.range_succ, List.map_append]
      rfl
  · refine ⟨D, (List.range n).map p, rfl, .inl (.inl ?_), ?_⟩
    · rw [h.2, List.map_map]
      rfl
    · rw [List.all_map]
      exact q H' h.1
end HX

set_option maxRecDepth 100000
set_option maxHeartbeats 1000000
namespace HX
open PySem PySem.Spec PyProof.Rows L2
/-! ### enumerate of one thing, list or tuple -/
theorem enum_make {v : Value} {o : Obj} {J : Heap → Prop} (B : Begins v o J) :
    Meets (Builtin.«enumerate.__new__» ⟨[.type "enumerate", v], []⟩) (fun _ R s => J s.heap ∧ R (.ok (.ret (.ref (s.heap.push o).objs.size))) { s with heap := (s.heap.push o).push { cls := .type "enumerate", data := .fields #[.none, .bool false, .ref s.heap.objs.size, rawInt 0, .none, .none] } }) :=
  .of_wp fun prog w A R s h => by
    obtain ⟨hp, g, d, tk, os⟩ := s
    obtain ⟨hJ, h⟩ := h
    have hsub := sub_enumerate
    have goes : ∀ {A' : Around} {E : Value → Shared → Prop} {Q : Value → Shared → Prop}, Q (.ref hp.objs.size) ⟨hp.push o, g, d, tk, os⟩ → wpAny (model prog w) A' (pyIter v) Q E ⟨hp, g, d, tk, os⟩ :=
      fun q => B.iter prog w _ _ ⟨hp, g, d, tk, os⟩ _ hJ q
    wp_walk using goes
    refine wpAny_stack_any fun st => wpAny_pure ?_
    split
    · rename_i c _ _ _ _ _
      cases (c == Value.type "enumerate") <;> (wp_walk using goes; exact ⟨_, rfl, h⟩)
    · wp_walk using goes
      exact ⟨_, rfl, h⟩
theorem enum_call {prog : Program} {w : World} {A : Around} {E : Value → Shared → Prop} {s : Shared} {v : Value} {o : Obj} {J : Heap → Prop} {Q : Value → Shared → Prop} (B : Begins v o J) (hJ : J s.heap)
    (h : ∀ h', IsEnum h' (s.heap.objs.size + 1) s.heap.objs.size 0 .none → h'.get? s.heap.objs.size = some o → h'.objs.size = s.heap.objs.size + 2 → (∀ b o, s.heap.get? b = some o → h'.get? b = some o) → Q (.ref (s.heap.objs.size + 1)) { s with heap := h' }) :
    wpAny (model prog w) A (call (.type "enumerate") [v]) Q E s := by
  refine callType_new F.called_enumerate (by decide) (F.typeCall_enumerate_1 _) (F.newCall_enumerate_1 _) (fun obj => F.args_object_init_2 obj _) F.entry_enumerate_new (enum_make B) ⟨hJ, ?_⟩
  have hz : (s.heap.push o).objs.size = s.heap.objs.size + 1 := Heap.size_push ..
  show _ ∧ _
  rw [hz]
  have he : IsEnum ((s.heap.push o).push { cls := .type "enumerate", data := .fields #[.none, .bool false, .ref s.heap.objs.size, rawInt 0, .none, .none] }) (s.heap.objs.size + 1) s.heap.objs.size 0 .none := by
    have e := Heap.get?_push_size (s.heap.push o) (o := { cls := .type "enumerate", data := .fields #[.none, .bool false, .ref s.heap.objs.size, rawInt 0, .none, .none] }) rfl
    rw [hz] at e
    exact e
  exact ⟨⟨_, he, rfl⟩, h _ he (Heap.get?_push_of_some _ (Heap.get?_push_size _ B.free)) (by rw [Heap.size_push, hz]) fun b o x => Heap.get?_push_of_some _ (Heap.get?_push_of_some _ x)⟩
def IteK (K : PySem.W.Frag) (k : Ki) (a : Addr) : It :=
  ⟨fun i H => ∃ (xs : List V) (x : V), SqK K H k a xs ∧ xs[i]? = some x,
    fun i H v H' => ∃ T x, v = .ref T ∧ H T = none ∧ H' = upd H T (.tup [.int (i : Nat), x]) ∧ ∀ xs, SqK K H k a xs → xs[i]? = some x,
    fun i H => ∃ xs : List V, SqK K H k a xs ∧ i = xs.length⟩
theorem turn_enumK {P : Program} {w : World} {K : PySem.W.Frag} {elts : List Expr} {kk : Nat} {tpos : Pos} {k : Ki} {a e it : Addr} (nei : e ≠ it) (nea : e ≠ a) (na : a ≠ it) :
    Turn P w K (.Tuple elts kk tpos) (IteK K k a) [e, it] e (fun i h => (∃ old, IsEnum h e it ((0 : Int) + (i : Int)) old) ∧ ItrK h k it a i) where
  mem := by simp
  obj := fun i h st c hc => by
    obtain ⟨⟨old, he⟩, h1⟩ := st
    have e' : c = e ∨ c = it := by simpa using hc
    rcases e' with rfl | rfl
    · exact ⟨_, he, fun v q => nomatch q⟩
    · exact itrK_obj h1
  keep := fun i h h' st k => by
    obtain ⟨⟨old, he⟩, h1⟩ := st
    exact ⟨⟨old, k e (by simp) _ he⟩, itrK_at h1 fun o q => k it (by simp) o q⟩
  item := by
    intro X hP hw hK hc i pins s σ H E I hf st hg
    subst hP hw hK
    obtain ⟨he, h1⟩ := st
    obtain ⟨xs, x, hqx, hx⟩ := hg
    obtain ⟨its, rv, p⟩ := inv_seqK I hqx
    have l1 := rv.length
    have b1 := (List.getElem?_eq_some_iff.mp hx).1
    have hh : X.A.in1.handled = none := I.ok.hd hc
    have G := GoesN.enumFrom (A := X.A) (elts := elts) (x1 := kk) (pos := tpos) 0 (drawsK (prog := X.prog) (w := X.w) hh k it a na its.toArray) e nei (by simp [nei, nea]) (by simp)
    refine G.goes i s _ E (by rw [List.size_toArray]; omega) ⟨he, ⟨h1, p⟩⟩ fun v h' tk hY st' hk htk => ?_
    obtain ⟨T, t, u, rfl, hT, hu, hTup⟩ := hY
    obtain ⟨q1, q2, q3⟩ := st'
    obtain ⟨u', e1, ru⟩ := rv.get hx
    have e3 : u' = u := Option.some.inj (e1.symm.trans (by simpa using hu))
    subst e3
    have e0 : (0 : Int) + (i : Int) = ((i : Nat) : Int) := by omega
    rw [e0] at hTup
    have new : ObjOk X.prog X.w (upd H T (.tup [.int (i : Nat), x])) h' T (.tup [.int (i : Nat), x]) := ⟨by show 2 ≤ sizeLine; decide, [.int (i : Nat) t, u'], .cons ⟨_, rfl⟩ (.cons ru .nil), hTup⟩
    have I1 : Inv X pins σ (upd H T (.tup [.int (i : Nat), x])) { s with heap := h', toks := tk } := I.turnedNew (t' := tk) (ch := [e, it]) (fun c o hb q => hk c o hb q) hf hT new
    refine ⟨.ref T, _, I1, rfl, ⟨T, x, rfl, I.hok.fresh hT, rfl, fun l hl => by rw [inv_seqK_inj I hl hqx]; exact hx⟩, ⟨q1, q2⟩, fun c hcm => ?_⟩
    have hlt : c < s.heap.objs.size := by
      have e' : c = e ∨ c = it := by simpa using hcm
      obtain ⟨old, he'⟩ := he
      rcases e' with rfl | rfl
      · exact Heap.lt_size he'
      · exact Heap.lt_size (itrK_obj h1).choose_spec.1
    rw [upd_ne (Nat.ne_of_lt (Nat.lt_of_lt_of_le hlt hT))]
    exact (hf c hcm).1
  done := by
    intro X hP hw hK hc i pins s σ H E I hf st hg
    subst hP hw hK
    obtain ⟨he, h1⟩ := st
    obtain ⟨xs, hqx, hend⟩ := hg
    obtain ⟨its, rv, p⟩ := inv_seqK I hqx
    have l1 := rv.length
    have hh : X.A.in1.handled = none := I.ok.hd hc
    have G := GoesN.enumFrom (A := X.A) (elts := elts) (x1 := kk) (pos := tpos) 0 (drawsK (prog := X.prog) (w := X.w) hh k it a na its.toArray) e nei (by simp [nei, nea]) (by simp)
    have ei : i = its.toArray.size := by rw [List.size_toArray]; omega
    subst ei
    exact G.stops s _ E ⟨he, ⟨h1, p⟩⟩ fun h' tk hk htk => I.turnedL (t' := tk) (ch := [e, it]) (fun c o hb q => hk c o hb q) hf
  self := fun A i s Q E st h => let ⟨⟨_, he⟩, _⟩ := st; wpAny_pyIter_enum he h
def iEnumK (K : PySem.W.Frag) (ta : TA) : TI := fun σ H R => ta σ H fun vs H1 => ∃ k a xs, vs = [.ref a] ∧ SqK K H1 k a xs ∧ R (IteK K k a) H1
theorem pi_enumT {X : Cx} {e : Expr} {ta : TA} {p pos tpos : Pos} {elts : List Expr} {kk : Nat} (hg : Gl X "enumerate") (hm : X.mg "enumerate" = none) (ha : PA X [e] ta) (hs : starEach [e] X.env = [(false, eval e X.env)] := by rfl) :
    PI X (.Tuple elts kk tpos) (.Call (.Name "enumerate" p) [e] [] pos) (iEnumK X.K ta) := by
  refine ⟨fun pins s σ H R I h => ?_⟩
  refine Call_ (ld_blt I hg hm boot_enumerate (PyProof.Rows.callWith_type1 (thn (ha.run pos pins s σ H _ I h) fun us s1 ⟨vs, H1, I1, r1, q1⟩ => ?_) hs rfl))
  obtain ⟨k, a, xs, rfl, hqx, q⟩ := q1
  obtain ⟨u1, rfl, r⟩ := vals1 r1
  cases r
  obtain ⟨its, rv, p1⟩ := inv_seqK I1 hqx
  have la := seqK_lt p1
  refine enum_call (beginsK k a its.toArray) p1 fun h' he g1 hsz hk => wpAny_pyIter_enum he ?_
  have I2 : Inv X pins σ H1 { s1 with heap := h' } := I1.kept (t' := s1.toks) hk
  refine ⟨s1.heap.objs.size + 1, [s1.heap.objs.size + 1, s1.heap.objs.size], _, _, H1, rfl, I2, turn_enumK (Nat.succ_ne_self _) (Nat.ne_of_gt (Nat.lt_succ_of_lt la)) (Nat.ne_of_lt la), ⟨⟨.none, he⟩, itrK_of g1⟩, fun c hcm => ?_, q⟩
  have hle : s1.heap.objs.size ≤ c := by
    have e' : c = s1.heap.objs.size + 1 ∨ c = s1.heap.objs.size := by simpa using hcm
    rcases e' with e' | e' <;> rw [e'] <;> first | exact Nat.le_refl _ | exact Nat.le_add_right _ _
  exact I1.fpOk hle (I1.hok.fresh hle)
theorem walk_enumK {K : PySem.W.Frag} {k : Ki} {a : Addr} {xs : List V} : Walk (IteK K k a) xs.length (fun H => SqK K H k a xs) (YPair (fun i => some (.int (i : Nat))) (fun i => xs[i]?)) := by
  refine ⟨fun i _ hi q => ⟨xs, xs[i], q, by simp⟩, fun H q => ⟨xs, q, rfl⟩, fun i H v H' _ q y => ?_⟩
  obtain ⟨T, x, h1, h2, h3, h4⟩ := y
  exact ⟨T, .int (i : Nat), x, h1, h2, h3, rfl, h4 xs q⟩
/-! ### what stands in a list, by values: xs[i] op= e -/
def rGetL (K : PySem.W.Frag) : V → V → Hp → VK → Prop := fun o i H Q => ∃ p xs j z, o = .ref p ∧ i = .int ((j : Nat) : Int) ∧ SqL K H p xs ∧ xs[j]? = some z ∧ Q z H
theorem get_list {X : Cx} : PGet X (rGetL X.K) := by
  intro pins s σ H o i ov iv Q I ro ri h
  obtain ⟨p, xs, j, z, rfl, rfl, hq, hz, q⟩ := h
  cases ro
  obtain ⟨t, rfl⟩ := ri
  obtain ⟨its, r, pl, hsz⟩ := I.list hq
  obtain ⟨u, e, ru⟩ := r.get hz
  have hj := (List.getElem?_eq_some_iff.mp hz).1
  have hn := line63
  exact wpAny_getItem_list pl.isList (by omega) (by omega) (by simpa using e) ⟨z, H, I, ru, q⟩
end HX

set_option maxRecDepth 100000
set_option maxHeartbeats 1000000
namespace HX
open PySem PySem.Spec PyProof.Rows L2
/-! ### marbles handled, on plain lists -/
structure Mo where
  st : List Int
  wt : List Int
  hd : List Int
def bump (l : List Int) (i : Nat) (d : Int) : List Int := l.set i (l.getD i 0 + d)
theorem bump_len {l : List Int} {i : Nat} {d : Int} : (bump l i d).length = l.length := List.length_set
def sendM (W : Nat) (p : List Int × List Int) (e : Int) : List Int × List Int := if e < (W : Int) then (bump p.1 e.toNat 1, p.2) else (p.1, bump p.2 (e - (W : Int)).toNat 1)
def endsAt (ws : List (List (List Int))) (st : List Int) (w : Nat) : List Int := (ws.getD w []).getD (st.getD w 0).toNat []
def sentM (ws : List (List (List Int))) (m : Mo) (w : Nat) : List Int × List Int := (endsAt ws m.st w).foldl (sendM ws.length) (bump m.wt w (-1), m.hd)
def handleM (ws : List (List (List Int))) (m : Mo) (w : Nat) : Mo := ⟨m.st.set w ((m.st.getD w 0 + 1) % ((ws.getD w []).length : Int)), (sentM ws m w).1, (sentM ws m w).2⟩
/-- of its form: as many as there are, each wheel at one of its steps -/
structure MoF (ws : List (List (List Int))) (c : Int) (m : Mo) : Prop where
  sl : m.st.length = ws.length
  sr : ∀ (i : Nat) (s : Int) (w : List (List Int)), m.st[i]? = some s → ws[i]? = some w → 0 ≤ s ∧ s < (w.length : Int)
  wl : m.wt.length = ws.length
  hl : (m.hd.length : Int) = c
structure MoOk (ws : List (List (List Int))) (c : Int) (m : Mo) : Prop extends MoF ws c m where
  wn : ∀ x ∈ m.wt, 0 ≤ x
  hn : ∀ x ∈ m.hd, 0 ≤ x
theorem send_len (W : Nat) : ∀ (es : List Int) (p : List Int × List Int), ((es.foldl (sendM W) p).1.length = p.1.length) ∧ ((es.foldl (sendM W) p).2.length = p.2.length)
  | [], p => ⟨rfl, rfl⟩
  | e :: es, p => by
    obtain ⟨h1, h2⟩ := send_len W es (sendM W p e)
    rw [List.foldl_cons]
    refine ⟨h1.trans ?_, h2.trans ?_⟩
    · unfold sendM
      split
      · exact bump_len
      · rfl
    · unfold sendM
      split
      · rfl
      · exact bump_len
theorem bump_nn {l : List Int} {i : Nat} {d : Int} (h : ∀ x ∈ l, 0 ≤ x) (hd : 0 ≤ l.getD i 0 + d) : ∀ x ∈ bump l i d, 0 ≤ x := by
  intro x hx
  rcases List.mem_or_eq_of_mem_set hx with hx | hx
  · exact h x hx
  · rw [hx]
    exact hd
theorem getD_nn {l : List Int} {i : Nat} (h : ∀ x ∈ l, 0 ≤ x) : 0 ≤ l.getD i 0 := by
  rw [List.getD_eq_getElem?_getD]
  cases e : l[i]? with
  | none => exact Int.le_refl 0
  | some x => exact h x (List.mem_of_getElem? e)
theorem send_nn (W : Nat) : ∀ (es : List Int) (p : List Int × List Int), (∀ x ∈ p.1, 0 ≤ x) → (∀ x ∈ p.2, 0 ≤ x) → (∀ x ∈ (es.foldl (sendM W) p).1, 0 ≤ x) ∧ ∀ x ∈ (es.foldl (sendM W) p).2, 0 ≤ x
  | [], p, h1, h2 => ⟨h1, h2⟩
  | e :: es, p, h1, h2 => by
    rw [List.foldl_cons]
    refine send_nn W es _ ?_ ?_
    · unfold sendM
      split
      · exact bump_nn h1 (by have := getD_nn (i := e.toNat) h1; omega)
      · exact h1
    · unfold sendM
      split
      · exact h2
      · exact bump_nn h2 (by have := getD_nn (i := (e - (W : Int)).toNat) h2; omega)
theorem MoF.handle {ws : List (List (List Int))} {c : Int} {m : Mo} {w : Nat} (h : MoF ws c m) (hw : ∀ x ∈ ws, 1 ≤ x.length) : MoF ws c (handleM ws m w) := by
  obtain ⟨l1, l2⟩ := send_len ws.length (endsAt ws m.st w) (bump m.wt w (-1), m.hd)
  refine ⟨?_, fun i s x e1 e2 => ?_, ?_, ?_⟩
  · show (m.st.set _ _).length = _
    rw [List.length_set]
    exact h.sl
  · have e1' : (m.st.set w ((m.st.getD w 0 + 1) % ((ws.getD w []).length : Int)))[i]? = some s := e1
    rw [List.getElem?_set] at e1'
    split at e1'
    · rename_i q
      subst q
      split at e1'
      · have e3 := Option.some.inj e1'
        have hx := hw x (List.mem_of_getElem? e2)
        have e4 : ws.getD w [] = x := by
          rw [List.getD_eq_getElem?_getD, e2]
          rfl
        rw [← e3, e4]
        exact ⟨Int.emod_nonneg _ (by omega), Int.emod_lt_of_pos _ (by omega)⟩
      · cases e1'
    · exact h.sr i s x e1' e2
  · show (sentM ws m w).1.length = _
    unfold sentM
    rw [l1, bump_len]
    exact h.wl
  · show ((sentM ws m w).2.length : Int) = _
    unfold sentM
    rw [l2]
    exact h.hl
theorem MoOk.handle {ws : List (List (List Int))} {c : Int} {m : Mo} {w : Nat} (h : MoOk ws c m) (hw : ∀ x ∈ ws, 1 ≤ x.length) (hp : 0 < m.wt.getD w 0) : MoOk ws c (handleM ws m w) := by
  obtain ⟨n1, n2⟩ := send_nn ws.length (endsAt ws m.st w) (bump m.wt w (-1), m.hd) (bump_nn h.wn (by omega)) h.hn
  exact ⟨h.toMoF.handle hw, n1, n2⟩
/-! ### the lists in the heap -/
theorem getI {l : List Int} {i : Nat} (h : i < l.length) : (l.map V.int)[i]? = some (.int (l.getD i 0)) := by
  rw [List.getElem?_map, List.getD_eq_getElem?_getD, List.getElem?_eq_getElem h]
  rfl
theorem ixN_nat {n j : Nat} (h : j < n) : ixN n (j : Int) = some j := by
  unfold ixN
  rw [if_pos (Int.natCast_nonneg j), if_pos (by omega)]
  rfl
theorem setI {l : List Int} {i : Nat} {z : Int} : (l.map V.int).set i (.int z) = (l.set i z).map V.int := (List.map_set ..).symm
theorem KT.kpN {N : Addr → Prop} {H H' : Hp} (hl : ∀ b, N b → ∃ xs, H b = some (.lst xs)) (k : Kp N H H') : KT H H' := fun b ys e => k b _ e fun n => by
  obtain ⟨xs, e'⟩ := hl b n
  rw [e] at e'
  cases e'
def N3 (a b c : Addr) : Addr → Prop := fun x => x = a ∨ x = b ∨ x = c
/-- a moment's three lists -/
structure Laid (H : Hp) (a b c : Addr) (m : Mo) : Prop where
  s : H a = some (.lst (m.st.map V.int))
  w : H b = some (.lst (m.wt.map V.int))
  h : H c = some (.lst (m.hd.map V.int))
  nab : a ≠ b
  nac : a ≠ c
  nbc : b ≠ c
theorem Laid.kt {H H' : Hp} {a b c : Addr} {m : Mo} (l : Laid H a b c m) (k : Kp (N3 a b c) H H') : KT H H' := KT.kpN (fun x n => by
  rcases n with rfl | rfl | rfl
  · exact ⟨_, l.s⟩
  · exact ⟨_, l.w⟩
  · exact ⟨_, l.h⟩) k
theorem TdAll.wheelAt {H : Hp} {ys : List V} {ws : List (List (List Int))} (h : TdAll H ys (ws.map wheelD)) {i : Nat} (hi : i < ws.length) : ∃ az zs, ys[i]? = some (.ref az) ∧ H az = some (.tup zs) ∧ TdAll H zs ((ws.getD i []).map stepD) := by
  obtain ⟨v, e1, e2⟩ := h.at (i := i) (d := wheelD (ws.getD i [])) (by
    rw [List.getElem?_map, List.getD_eq_getElem?_getD, List.getElem?_eq_getElem hi]
    rfl)
  obtain ⟨az, zs, rfl, ez, hz⟩ := Td.tupOf e2
  exact ⟨az, zs, e1, ez, hz⟩
theorem TdAll.stepAt {H : Hp} {zs : List V} {w : List (List Int)} (h : TdAll H zs (w.map stepD)) {i : Nat} (hi : i < w.length) : ∃ ae, zs[i]? = some (.ref ae) ∧ H ae = some (.tup ((w.getD i []).map V.int)) := by
  obtain ⟨v, e1, e2⟩ := h.at (i := i) (d := stepD (w.getD i [])) (by
    rw [List.getElem?_map, List.getD_eq_getElem?_getD, List.getElem?_eq_getElem hi]
    rfl)
  obtain ⟨ae, es, rfl, ee, he⟩ := Td.tupOf e2
  refine ⟨ae, e1, ?_⟩
  rw [ee]
  have : ∀ (ns : List Int) (vs : List V), TdAll H vs (ns.map PyData.int) → vs = ns.map V.int := by
    intro ns
    induction ns with
    | nil => intro vs h; cases h; rfl
    | cons n ns ih =>
      intro vs h
      cases h with
      | cons h1 h2 => rw [h1.intOf, ih _ h2]; rfl
  rw [this _ _ he]
theorem Td.boardOf {H : Hp} {v : V} {ws : List (List (List Int))} {c : Int} (h : Td H v (boardD ws c)) : ∃ ab aw ys, v = .ref ab ∧ H ab = some (.tup [.ref aw, .int c]) ∧ H aw = some (.tup ys) ∧ TdAll H ys (ws.map wheelD) := by
  obtain ⟨ab, xs, rfl, eb, hx⟩ := Td.tupOf h
  cases hx with
  | @cons vw vs1 _ _ hw hr1 =>
  cases hr1 with
  | @cons vc vs2 _ _ hc hr2 =>
  cases hr2
  obtain rfl := hc.intOf
  obtain ⟨aw, ys, rfl, ew, hy⟩ := Td.tupOf hw
  exact ⟨ab, aw, ys, rfl, eb, ew, hy⟩
end HX

set_option maxRecDepth 100000
set_option maxHeartbeats 1000000
namespace HX
open PySem PySem.Spec PyProof.Rows L2
/-! ### sum of a tuple, count in a tuple -/
def rSumT (K : PySem.W.Frag) : List V → Hp → VK → Prop := fun vs H Q => ∃ (a : Addr) (ns : List Int), vs = [V.ref a] ∧ SqT K H a (ns.map V.int) ∧ Q (.int ns.sum) H
theorem cr_sumT {X : Cx} (hc : X.calm = true) : CallR X (.builtin "sum") (rSumT X.K) := by
  intro pins s σ H vs us Q I r h
  obtain ⟨a, ns, rfl, hs, q⟩ := h
  obtain ⟨its, rv, hl, _⟩ := I.tuple hs
  obtain ⟨u, rfl, ru⟩ := vals1 r
  cases ru
  have hi := ints_of_vals rv
  obtain ⟨xs, e⟩ := hi.allInts.items
  have hn : numsOf (intItems xs).toList = ns := by rw [← e]; exact hi.numsOf
  rw [nums_intItems] at hn
  rw [e] at hl
  refine PySem.W.ktm_sumG (I.ok.hd hc) hl fun h' tk t' hk => ?_
  have fin : EP X pins σ Q (.int ns.sum t') { s with heap := h', toks := tk } := ⟨.int _, H, I.kept hk, ⟨_, rfl⟩, q⟩
  rw [preSum_eq, List.take_of_length_le (by simp), hn]
  exact fin
def rCntT (K : PySem.W.Frag) : V → List V → Hp → VK → Prop := fun x xs H Q => ∃ (p : Addr) (ns : List Int) (k : Int), x = .ref p ∧ xs = [.int k] ∧ SqT K H p (ns.map V.int) ∧ Q (.int (ns.count k : Nat)) H
theorem mt_tcount {X : Cx} : MtR X "tuple.count" (rCntT X.K) := by
  intro pins s σ H x xs v us Q I rx rxs h
  obtain ⟨p, ns, k, rfl, rfl, hs, q⟩ := h
  cases rx
  obtain ⟨u, rfl, ru⟩ := rxs.one
  obtain ⟨t, rfl⟩ := ru
  obtain ⟨its, rv, ⟨⟨cls, dd, data, sl⟩, ho, hc, n, hd⟩, hlen⟩ := I.tuple hs
  simp only at hc hd
  subst hc hd
  have hi := ints_of_vals rv
  refine call_meets PySem.F.slot_tuple_count ⟨_, ho, rfl⟩ PySem.F.entry_tuple_count (PySem.F.args_tuple_count_2 _ _)
    (SeqAt.tuple_countAt p its.toArray n dd sl (.int k t) (eqk k)) ⟨ho, fun y hy => (eqk_gives hi y (by simpa using hy)).at _ _, ?_⟩
  have ec : its.toArray.toList.countP (eqk k) = ns.count k := eqk_count hi
  refine ⟨.int (ns.count k : Nat), H, I.tok _, ⟨s.toks, ?_⟩, q⟩
  show Value.int ((its.toArray.toList.countP (eqk k) : Nat) : Int) s.toks = Value.int ((ns.count k : Nat) : Int) s.toks
  rw [ec]
/-! ### zip of three -/
def Itz3 (K : PySem.W.Frag) (k1 : Ki) (a : Addr) (k2 : Ki) (b : Addr) (k3 : Ki) (c : Addr) : It :=
  ⟨fun i H => ∃ (xs ys zs : List V) (x y z : V), SqK K H k1 a xs ∧ SqK K H k2 b ys ∧ SqK K H k3 c zs ∧ xs[i]? = some x ∧ ys[i]? = some y ∧ zs[i]? = some z,
    fun i H v H' => ∃ T x y z, v = .ref T ∧ H T = none ∧ H' = upd H T (.tup [x, y, z]) ∧ (∀ xs, SqK K H k1 a xs → xs[i]? = some x) ∧ (∀ ys, SqK K H k2 b ys → ys[i]? = some y) ∧ ∀ zs, SqK K H k3 c zs → zs[i]? = some z,
    fun i H => ∃ xs ys zs : List V, SqK K H k1 a xs ∧ SqK K H k2 b ys ∧ SqK K H k3 c zs ∧ i = min (min xs.length ys.length) zs.length⟩
theorem turn_zip3 {P : Program} {w : World} {K : PySem.W.Frag} {elts : List Expr} {kk : Nat} {tpos : Pos} {k1 k2 k3 : Ki} {a b c z TI TO i1 i2 i3 : Addr} (S : ZipSep3 z TI TO i1 i2 i3 [i1, a] [i2, b] [i3, c]) (na : a ≠ i1) (nb : b ≠ i2) (nc : c ≠ i3) :
    Turn P w K (.Tuple elts kk tpos) (Itz3 K k1 a k2 b k3 c) [z, TI, TO, i1, i2, i3] z (fun i h => IsZip h z TI TO .none ∧ IsTupOf3 h TI (.ref i1) (.ref i2) (.ref i3) ∧ (∃ x y u, IsTupOf3 h TO x y u) ∧ ItrK h k1 i1 a i ∧ ItrK h k2 i2 b i ∧ ItrK h k3 i3 c i) where
  mem := by simp
  obj := fun i h st d hc => by
    obtain ⟨hz, hTI, ⟨x, y, u, hTO⟩, h1, h2, h3⟩ := st
    have e' : d = z ∨ d = TI ∨ d = TO ∨ d = i1 ∨ d = i2 ∨ d = i3 := by simpa using hc
    rcases e' with rfl | rfl | rfl | rfl | rfl | rfl
    · exact ⟨_, hz, fun v q => nomatch q⟩
    · exact ⟨_, hTI, fun v q => nomatch q⟩
    · exact ⟨_, hTO, fun v q => nomatch q⟩
    · exact itrK_obj h1
    · exact itrK_obj h2
    · exact itrK_obj h3
  keep := fun i h h' st k => by
    obtain ⟨hz, hTI, ⟨x, y, u, hTO⟩, h1, h2, h3⟩ := st
    exact ⟨k z (by simp) _ hz, k TI (by simp) _ hTI, ⟨x, y, u, k TO (by simp) _ hTO⟩, itrK_at h1 fun o q => k i1 (by simp) o q, itrK_at h2 fun o q => k i2 (by simp) o q, itrK_at h3 fun o q => k i3 (by simp) o q⟩
  item := by
    intro X hP hw hK hc i pins s σ H E I hf st hg
    subst hP hw hK
    obtain ⟨hz, hTI, hTO, h1, h2, h3⟩ := st
    obtain ⟨xs, ys, zs, x, y, t, hqx, hqy, hqz, hx, hy, ht⟩ := hg
    obtain ⟨its, rv, p⟩ := inv_seqK I hqx
    obtain ⟨its2, rv2, p2⟩ := inv_seqK I hqy
    obtain ⟨its3, rv3, p3⟩ := inv_seqK I hqz
    have l1 := rv.length
    have l2 := rv2.length
    have l3 := rv3.length
    have b1 := (List.getElem?_eq_some_iff.mp hx).1
    have b2 := (List.getElem?_eq_some_iff.mp hy).1
    have b3 := (List.getElem?_eq_some_iff.mp ht).1
    have hh : X.A.in1.handled = none := I.ok.hd hc
    have G := GoesN.zip3 (A := X.A) (elts := elts) (x1 := kk) (pos := tpos) S (drawsK (prog := X.prog) (w := X.w) hh k1 i1 a na its.toArray) (drawsK (prog := X.prog) (w := X.w) hh k2 i2 b nb its2.toArray) (drawsK (prog := X.prog) (w := X.w) hh k3 i3 c nc its3.toArray)
    refine G.goes i s _ E (by rw [List.size_toArray, List.size_toArray, List.size_toArray]; omega) ⟨hz, hTI, hTO, ⟨h1, p⟩, ⟨h2, p2⟩, ⟨h3, p3⟩⟩ fun v h' tk hY st' hk htk => ?_
    obtain ⟨T, u, u2, u3, rfl, hT, hu, hu2, hu3, hTup⟩ := hY
    obtain ⟨q1, q2, q3, q4, q5, q6⟩ := st'
    obtain ⟨u', e1, ru⟩ := rv.get hx
    obtain ⟨u2', e2, ru2⟩ := rv2.get hy
    obtain ⟨u3', e3, ru3⟩ := rv3.get ht
    have f1 : u' = u := Option.some.inj (e1.symm.trans (by simpa using hu))
    have f2 : u2' = u2 := Option.some.inj (e2.symm.trans (by simpa using hu2))
    have f3 : u3' = u3 := Option.some.inj (e3.symm.trans (by simpa using hu3))
    subst f1 f2 f3
    have new : ObjOk X.prog X.w (upd H T (.tup [x, y, t])) h' T (.tup [x, y, t]) := ⟨by show 3 ≤ sizeLine; decide, [u', u2', u3'], .cons ru (.cons ru2 (.cons ru3 .nil)), hTup⟩
    have I1 : Inv X pins σ (upd H T (.tup [x, y, t])) { s with heap := h', toks := tk } :=
      I.turnedNew (t' := tk) (ch := [z, TI, TO, i1, i2, i3]) (fun d o hb q => hk d o (fun m => hb (by
        have e' : d = z ∨ d = TO ∨ d = i1 ∨ d = i2 ∨ d = i3 := by simpa using m
        rcases e' with rfl | rfl | rfl | rfl | rfl <;> simp)) q) hf hT new
    refine ⟨.ref T, _, I1, rfl, ⟨T, x, y, t, rfl, I.hok.fresh hT, rfl, fun l hl => by rw [inv_seqK_inj I hl hqx]; exact hx, fun l hl => by rw [inv_seqK_inj I hl hqy]; exact hy, fun l hl => by rw [inv_seqK_inj I hl hqz]; exact ht⟩, ⟨q1, q2, q3, q4.1, q5.1, q6.1⟩, fun d hcm => ?_⟩
    have hlt : d < s.heap.objs.size := by
      have e' : d = z ∨ d = TI ∨ d = TO ∨ d = i1 ∨ d = i2 ∨ d = i3 := by simpa using hcm
      obtain ⟨x0, y0, u0, hTO'⟩ := hTO
      rcases e' with rfl | rfl | rfl | rfl | rfl | rfl
      · exact Heap.lt_size hz
      · exact Heap.lt_size hTI
      · exact Heap.lt_size hTO'
      · exact Heap.lt_size (itrK_obj h1).choose_spec.1
      · exact Heap.lt_size (itrK_obj h2).choose_spec.1
      · exact Heap.lt_size (itrK_obj h3).choose_spec.1
    rw [upd_ne (Nat.ne_of_lt (Nat.lt_of_lt_of_le hlt hT))]
    exact (hf d hcm).1
  done := by
    intro X hP hw hK hc i pins s σ H E I hf st hg
    subst hP hw hK
    obtain ⟨hz, hTI, hTO, h1, h2, h3⟩ := st
    obtain ⟨xs, ys, zs, hqx, hqy, hqz, hend⟩ := hg
    obtain ⟨its, rv, p⟩ := inv_seqK I hqx
    obtain ⟨its2, rv2, p2⟩ := inv_seqK I hqy
    obtain ⟨its3, rv3, p3⟩ := inv_seqK I hqz
    have l1 := rv.length
    have l2 := rv2.length
    have l3 := rv3.length
    have hh : X.A.in1.handled = none := I.ok.hd hc
    have G := GoesN.zip3 (A := X.A) (elts := elts) (x1 := kk) (pos := tpos) S (drawsK (prog := X.prog) (w := X.w) hh k1 i1 a na its.toArray) (drawsK (prog := X.prog) (w := X.w) hh k2 i2 b nb its2.toArray) (drawsK (prog := X.prog) (w := X.w) hh k3 i3 c nc its3.toArray)
    have ei : i = min (min its.toArray.size its2.toArray.size) its3.toArray.size := by rw [List.size_toArray, List.size_toArray, List.size_toArray]; omega
    subst ei
    exact G.stops s _ E ⟨hz, hTI, hTO, ⟨h1, p⟩, ⟨h2, p2⟩, ⟨h3, p3⟩⟩ fun h' tk hk htk => I.turnedL (t' := tk) (ch := [z, TI, TO, i1, i2, i3]) (fun d o hb q => hk d o (fun m => hb (by
        have e' : d = z ∨ d = TO ∨ d = i1 ∨ d = i2 ∨ d = i3 := by simpa using m
        rcases e' with rfl | rfl | rfl | rfl | rfl <;> simp)) q) hf
  self := fun A i s Q E st h => wpAny_pyIter_zip st.1 h
def iZip3 (K : PySem.W.Frag) (ta : TA) : TI := fun σ H R => ta σ H fun vs H1 => ∃ k1 a k2 b k3 c xs ys zs, vs = [.ref a, .ref b, .ref c] ∧ SqK K H1 k1 a xs ∧ SqK K H1 k2 b ys ∧ SqK K H1 k3 c zs ∧ R (Itz3 K k1 a k2 b k3 c) H1
theorem vals3 {v1 v2 v3 : V} {us : List Value} (h : Vals [v1, v2, v3] us) : ∃ u1 u2 u3, us = [u1, u2, u3] ∧ RelV v1 u1 ∧ RelV v2 u2 ∧ RelV v3 u3 := by
  cases h with
  | cons r rr =>
    cases rr with
    | cons r2 rr2 =>
      cases rr2 with
      | cons r3 rr3 =>
        cases rr3
        exact ⟨_, _, _, rfl, r, r2, r3⟩
theorem pi_zip3 {X : Cx} {e e2 e3 : Expr} {ta : TA} {p pos tpos : Pos} {elts : List Expr} {kk : Nat} (hg : Gl X "zip") (hm : X.mg "zip" = none) (ha : PA X [e, e2, e3] ta)
    (hs : starEach [e, e2, e3] X.env = (false, eval e X.env) :: starEach [e2, e3] X.env := by rfl) (hpl : (backTo pos (starEach [e2, e3] X.env)).any (·.1) = false := by rfl) :
    PI X (.Tuple elts kk tpos) (.Call (.Name "zip" p) [e, e2, e3] [] pos) (iZip3 X.K ta) := by
  refine ⟨fun pins s σ H R I h => ?_⟩
  refine Call_ (ld_blt I hg hm PyProof.Rows.boot_zip (PyProof.Rows.callWith_type1 (thn (ha.run pos pins s σ H _ I h) fun us s1 ⟨vs, H1, I1, r1, q1⟩ => ?_) hs hpl))
  obtain ⟨k1, a, k2, b, k3, c, xs, ys, zs, rfl, hqx, hqy, hqz, q⟩ := q1
  obtain ⟨u1, u2, u3, rfl, r, r', r''⟩ := vals3 r1
  cases r
  cases r'
  cases r''
  obtain ⟨its, rv, p1⟩ := inv_seqK I1 hqx
  obtain ⟨its2, rv2, p2⟩ := inv_seqK I1 hqy
  obtain ⟨its3, rv3, p3⟩ := inv_seqK I1 hqz
  have la := seqK_lt p1
  have lb := seqK_lt p2
  have lc := seqK_lt p3
  refine zip_begins3 (beginsK k1 a its.toArray) (beginsK k2 b its2.toArray) (beginsK k3 c its3.toArray) p1 p2 p3 fun h' hz hTI hTO g1 g2 g3 hsz hk => wpAny_pyIter_zip hz ?_
  have I2 : Inv X pins σ H1 { s1 with heap := h' } := I1.kept (t' := s1.toks) hk
  refine ⟨s1.heap.objs.size + 5, [s1.heap.objs.size + 5, s1.heap.objs.size + 3, s1.heap.objs.size + 4, s1.heap.objs.size, s1.heap.objs.size + 1, s1.heap.objs.size + 2], _, _, H1, rfl, I2,
    turn_zip3 (zip_sep3 (N := s1.heap.objs.size) (fp1 := [a]) (fp2 := [b]) (fp3 := [c]) (fun d m => by rw [List.mem_singleton.mp m]; exact la) (fun d m => by rw [List.mem_singleton.mp m]; exact lb) (fun d m => by rw [List.mem_singleton.mp m]; exact lc)) (Nat.ne_of_lt la) (Nat.ne_of_lt (Nat.lt_succ_of_lt lb)) (Nat.ne_of_lt (Nat.lt_succ_of_lt (Nat.lt_succ_of_lt lc))),
    ⟨hz, hTI, ⟨_, _, _, hTO⟩, itrK_of g1, itrK_of g2, itrK_of g3⟩, fun d hcm => ?_, q⟩
  have hle : s1.heap.objs.size ≤ d := by
    have e' : d = s1.heap.objs.size + 5 ∨ d = s1.heap.objs.size + 3 ∨ d = s1.heap.objs.size + 4 ∨ d = s1.heap.objs.size ∨ d = s1.heap.objs.size + 1 ∨ d = s1.heap.objs.size + 2 := by simpa using hcm
    rcases e' with e' | e' | e' | e' | e' | e' <;> rw [e'] <;> first | exact Nat.le_refl _ | exact Nat.le_add_right _ _
  exact I1.fpOk hle (I1.hok.fresh hle)
def YTri (xs ys zs : Nat → Option V) : Nat → Hp → V → Hp → Prop := fun i H v H' => ∃ T x y z, v = .ref T ∧ H T = none ∧ H' = upd H T (.tup [x, y, z]) ∧ xs i = some x ∧ ys i = some y ∧ zs i = some z
theorem walk_zip3 {K : PySem.W.Frag} {k1 k2 k3 : Ki} {a b c : Addr} {xs ys zs : List V} {n : Nat} (hn : n = min (min xs.length ys.length) zs.length) : Walk (Itz3 K k1 a k2 b k3 c) n (fun H => SqK K H k1 a xs ∧ SqK K H k2 b ys ∧ SqK K H k3 c zs) (YTri (fun i => xs[i]?) (fun i => ys[i]?) (fun i => zs[i]?)) := by
  refine ⟨fun i _ hi q => ⟨xs, ys, zs, xs[i]'(by omega), ys[i]'(by omega), zs[i]'(by omega), q.1, q.2.1, q.2.2, by simp, by simp, by simp⟩, fun H q => ⟨xs, ys, zs, q.1, q.2.1, q.2.2, hn⟩, fun i H v H' _ q y => ?_⟩
  obtain ⟨T, x, y, z, h1, h2, h3, h4, h5, h6⟩ := y
  exact ⟨T, x, y, z, h1, h2, h3, h4 xs q.1, h5 ys q.2.1, h6 zs q.2.2⟩
end HX

set_option maxRecDepth 100000
set_option maxHeartbeats 1000000
namespace HX
open PySem PySem.Spec PyProof.Rows L2
theorem mt_tcountK {X : Cx} {K : PySem.W.Frag} (h : X.K = K := by rfl) : MtR X "tuple.count" (rCntT K) := by
  subst h
  exact mt_tcount
theorem pe_bmK {X : Cx} {K : PySem.W.Frag} {T name id : String} {r : V → List V → Hp → VK → Prop} {o e : Expr} {es : List Expr} {to : TE} {t : TA} {apos cpos : Pos} (pa : PlainAttrs T) (slot : Slot T name id) (hty : typeOf (.builtin id) = pure (.type "method_descriptor")) (hm : MtR X id r) (ho : PE X o to) (ha : PA X (e :: es) t) (hK : X.K = K := by rfl)
    (hbase : attributeBase o name X.env (eval o X.env) = eval o X.env := by rfl)
    (hfew : ((backTo cpos (starEach (e :: es) X.env)).all (fun x => !x.1) && (backToKw cpos (keywordEach [] X.env)).all (fun x => x.1.isSome)
      && decide ((e :: es).length + ([] : List Keyword).length + (if ([] : List Keyword).isEmpty then 0 else 1) < 30)) = true := by rfl)
    (hline : (apos.endLine == cpos.line) = true := by rfl) (hs : starEach (e :: es) X.env = (false, eval e X.env) :: starEach es X.env := by rfl) (hplain : (backTo cpos (starEach es X.env)).any (·.1) = false := by rfl) :
    PE X (.Call (.Attribute o name apos) (e :: es) [] cpos) (tBM K T r to t) := by
  subst hK
  exact pe_bm pa slot hty hm ho ha hbase hfew hline hs hplain
theorem hu64 {A : Around} {k : Nat} (hr : Room k A) : A.units + 64 < cLine := by
  have := hu150 hr
  omega
theorem s_cb1 {r : List V → Hp → VK → Prop} {t : TE} {σ : L2.St} {H : Hp} {Q : VK} (h : t σ H fun x H1 => r [x] H1 Q) : tCB r (tCons t tNil) σ H Q := h
theorem s_cons {t : TE} {u : TA} {σ : L2.St} {H : Hp} {Q : List V → Hp → Prop} (h : t σ H fun x H1 => u σ H1 fun xs H2 => Q (x :: xs) H2) : tCons t u σ H Q := h
theorem wipe3 {σ : L2.St} {i j l : Nat} (h : i ≠ j) (h2 : i ≠ l) (h3 : j ≠ l) (x y z : V) : wipe ((((wipe σ [i, j, l]).set i (some x)).set j (some y)).set l (some z)) [i, j, l] = wipe σ [i, j, l] := by
  show ((((((((σ.set l none).set j none).set i none).set i (some x)).set j (some y)).set l (some z)).set l none).set j none).set i none = ((σ.set l none).set j none).set i none
  apply List.ext_getElem?
  intro m
  simp only [List.getElem?_set, List.length_set]
  by_cases e1 : i = m <;> by_cases e2 : j = m <;> by_cases e3 : l = m <;> simp [e1, e2, e3]
/-- a comprehension of numbers that turns nothing -/
theorem lc_intsG {J : It} {n : Nat} {G : Hp → Prop} {Y : Nat → Hp → V → Hp → Prop} (wk : Walk J n G Y) {σ : L2.St} {H : Hp} {Q : VK} {g : TG} {te : TE} {wi : TI} {vs : List Nat} (z : Nat → Int) (hwi : ∀ R : It → Hp → Prop, R J H → wi σ H R) (hz : n ≤ 1000) (hG : ∀ H', Same H H' → G H')
    (ht : ∀ (i : Nat) (x : V) (H1 H2 : Hp), i < n → Same H H1 → Y i H1 x H2 → ∀ Q' : VK, (∀ H3, Same H1 H3 → Q' (.int (z i)) H3) → g x (wipe σ vs) H2 fun σ2 H3 => wipe σ2 vs = wipe σ vs ∧ te σ2 H3 Q')
    (q : ∀ (D : Addr) (H' : Hp), Same H H' → H' D = some (.lst (((List.range n).map z).map V.int)) → H D = none → Q (.ref D) H') : tLc wi g tYes te vs σ H Q := by
  refine hwi _ fun D hD => ?_
  refine lc_it wk (fun i H' => Same H H' ∧ H' D = some (.lst (((List.range i).map z).map V.int))) ⟨Same.new hD, by rw [upd_same]; rfl⟩ (fun i H' _ h => hG H' h.1) (fun i x H1 H2 hi h y => ?_) (fun H' h => q D H' h.1 h.2 hD)
  obtain ⟨s1, eD⟩ := h
  refine ht i x H1 H2 hi s1 y (fun v H4 => ∃ acc, H4 D = some (.lst acc) ∧ acc.length < sizeLine ∧ (Same H (upd H4 D (.lst (acc ++ [v]))) ∧ upd H4 D (.lst (acc ++ [v])) D = some (.lst (((List.range (i + 1)).map z).map V.int)))) fun H3 s3 => ?_
  refine ⟨_, s3 _ _ eD, ?_, fun c o e => ?_, ?_⟩
  · rw [List.length_map, List.length_map, List.length_range]
    exact small1000 (by omega)
  · rw [upd_ne (ne_of_none e hD)]
    exact s3 _ _ (s1 _ _ e)
  · rw [upd_same, List.range_succ, List.map_append, List.map_append]
    rfl
/-! ### a tuple known to the last: it has no dict of its own -/
theorem call_tuple_frz {X : Cx} : CallR X (.type "tuple") (fun xs H Q => ∃ p ys, xs = [.ref p] ∧ SqL X.K H p ys ∧ ∀ l o, H l = none → o.dict = none → Q (.ref l) (upd H l (.frz o (.tup ys)))) := by
  intro pins s σ H xs us Q I r h
  obtain ⟨p, ys, rfl, hq, q⟩ := h
  obtain ⟨u, rfl, rx⟩ := vals1 r
  cases rx
  obtain ⟨its, r', pl, hz⟩ := I.list hq
  have hlen := r'.length
  refine call_tuple_list pl.isList (fun h' kp => ?_) (by simp only [List.size_toArray] <;> omega)
  have I1 : Inv X pins σ H { s with heap := h' } := I.kept (t' := s.toks) kp
  have I2 : Inv X pins σ (upd H h'.objs.size (.frz { cls := .type "tuple", data := .seq its.toArray } (.tup ys))) { s with heap := h'.push { cls := .type "tuple", data := .seq its.toArray } } :=
    I1.laid (t' := s.toks) (fun b o e => Heap.get?_push_of_some _ e) (Nat.le_refl _) (show ObjOk X.prog X.w _ _ _ (.frz _ (.tup ys)) from ⟨Heap.get?_push_size _ rfl, hz, its, r', IsTup.new _ _⟩)
  exact ⟨.ref h'.objs.size, _, I2, rfl, q _ _ (I1.hok.fresh (Nat.le_refl _)) rfl⟩
def tBMT (r : V → List V → Hp → VK → Prop) (to : TE) (t : TA) : TE := fun σ H Q => to σ H fun x H1 => (∃ p o xs, x = .ref p ∧ H1 p = some (.frz o (.tup xs)) ∧ o.dict = none) ∧ t σ H1 fun xs H2 => r x xs H2 Q
theorem pe_bmT {X : Cx} {name : Str} {id : String} {r : V → List V → Hp → VK → Prop} {o e : Expr} {es : List Expr} {to : TE} {t : TA} {apos cpos : Pos} (pa : PlainAttrs "tuple") (slot : Slot "tuple" name id) (hty : typeOf (.builtin id) = pure (.type "method_descriptor")) (hm : MtR X id r) (ho : PE X o to) (ha : PA X (e :: es) t)
    (hbase : attributeBase o name X.env (eval o X.env) = eval o X.env := by rfl)
    (hfew : ((backTo cpos (starEach (e :: es) X.env)).all (fun x => !x.1) && (backToKw cpos (keywordEach [] X.env)).all (fun x => x.1.isSome)
      && decide ((e :: es).length + ([] : List Keyword).length + (if ([] : List Keyword).isEmpty then 0 else 1) < 30)) = true := by rfl)
    (hline : (apos.endLine == cpos.line) = true := by rfl) (hs : starEach (e :: es) X.env = (false, eval e X.env) :: starEach es X.env := by rfl) (hplain : (backTo cpos (starEach es X.env)).any (·.1) = false := by rfl) :
    PE X (.Call (.Attribute o name apos) (e :: es) [] cpos) (tBMT r to t) := by
  refine ⟨fun pins s σ H Q I h => ?_⟩
  refine wpAny_Call_method_late hbase hfew hline rfl (thn (ho.run pins s σ H _ I h) fun v s1 ⟨x, H1, I1, r1, ty, q1⟩ => ?_)
  obtain ⟨p, ob, xs, rfl, ep, dn⟩ := ty
  cases r1
  obtain ⟨eo, _, its, _, o', eo', hc, _⟩ := (show ObjOk X.prog X.w H1 s1.heap p (.frz ob (.tup xs)) from I1.hok p _ ep)
  have e1 : o' = ob := Option.some.inj (eo'.symm.trans eo)
  subst e1
  refine ⟨"tuple", id, pa, slot, hty, ⟨o', eo, hc⟩, fun a e => ⟨o', by cases e; exact eo, dn⟩, ?_⟩
  have hA := ha.run cpos pins s1 σ H1 _ I1 q1
  rw [hs] at hA ⊢
  refine Calls.callWith_builtin (by show (false || (backTo cpos (starEach es X.env)).any (·.1)) = false; rw [hplain] <;> rfl) (Calls.evalArgs_plain ?_)
  exact thn hA fun us s2 ⟨vs, H2, I2, r2, q2⟩ => hm pins s2 σ H2 (.ref p) vs (.ref p) us Q I2 rfl r2 q2
def rowV (row : List Nat) : List V := row.map fun n : Nat => V.int (n : Int)
/-- the row's tuple; known to the last -/
def RowF (H : Hp) (r : Addr) (row : List Nat) : Prop := ∃ o : Obj, o.dict = none ∧ H r = some (.frz o (.tup (rowV row)))
def RowAt (H : Hp) (r : Addr) (row : List Nat) : Prop := H r = some (.tup (rowV row)) ∨ RowF H r row
theorem RowF.same {H H' : Hp} {r : Addr} {row : List Nat} (h : RowF H r row) (s : Same H H') : RowF H' r row := by
  obtain ⟨o, d, e⟩ := h
  exact ⟨o, d, s _ _ e⟩
theorem RowAt.same {H H' : Hp} {r : Addr} {row : List Nat} (h : RowAt H r row) (s : Same H H') : RowAt H' r row := by
  rcases h with h | h
  · exact .inl (s _ _ h)
  · exact .inr (h.same s)
theorem RowAt.sq {K : PySem.W.Frag} {H : Hp} {r : Addr} {row : List Nat} (h : RowAt H r row) : SqT K H r (rowV row) := by
  rcases h with h | ⟨o, _, h⟩
  · exact .inl (.inl h)
  · exact .inl (.inr ⟨o, h⟩)
theorem RowAt.ty {K : PySem.W.Frag} {H : Hp} {r : Addr} {row : List Nat} (h : RowAt H r row) : TyX K H (.ref r) (.type "tuple") := by
  rcases h with h | ⟨o, _, h⟩
  · exact .base (.tup h)
  · exact .fTuple h
theorem read_allR {K : PySem.W.Frag} {σ : L2.St} {H : Hp} {Q : VK} {i j : Nat} {te : TE} {r : Addr} {row : List Nat} (p : Nat → Bool) (hs : σ[i]? = some (some (.ref r))) (hx : RowAt H r row) (hz : row.length ≤ 1000)
    (ht : ∀ (n : Nat) (H' : Hp), Same H H' → ∀ Q' : VK, (∀ H2, Same H' H2 → Q' (.bl (p n)) H2) → te ((wipe σ [j]).set j (some (.int (n : Int)))) H' Q')
    (q : ∀ H', Same H H' → Q (.bl (row.all p)) H') : tCB (rAll K) (tCons (tLc (iTup K (tVar i)) (gName j) tYes te [j]) tNil) σ H Q := by
  refine ⟨.ref r, hs, r, rfl, ⟨_, hx.sq⟩, fun D hD => ?_⟩
  refine lc_tup (xs := rowV row) (fun i H' => Same H H' ∧ H' D = some (.lst ((row.take i).map fun n => V.bl (p n)))) ⟨Same.new hD, ?_⟩ (fun i H' _ h => (hx.same h.1).sq) (fun i x H' hi h => ?_) (fun H' h => ?_)
  · rw [upd_same]
    rfl
  · unfold rowV at hi
    rw [List.getElem?_map] at hi
    cases e1 : row[i]? with
    | none => rw [e1] at hi; cases hi
    | some n =>
      rw [e1] at hi
      cases hi
      refine ⟨wipe1 _, tYes_eq (iteT (ht n H' h.1 _ fun H2 s2 => ?_))⟩
      refine ⟨_, s2 _ _ h.2, ?_, fun b o e => ?_, ?_⟩
      · rw [List.length_map, List.length_take]
        have := (List.getElem?_eq_some_iff.mp e1).1
        exact small1000 (by omega)
      · rw [upd_ne (ne_of_none e hD)]
        exact s2 _ _ (h.1 _ _ e)
      · rw [upd_same, List.take_add_one, e1, List.map_append]
        rfl
  · refine ⟨D, row.map p, rfl, .inl (.inl ?_), ?_⟩
    · rw [h.2]
      unfold rowV
      rw [List.length_map, List.take_length, List.map_map]
      rfl
    · rw [List.all_map]
      exact q H' h.1
end HX

set_option maxRecDepth 100000
set_option maxHeartbeats 1000000
namespace HX
open PySem PySem.Spec PyProof.Rows L2
/-! ### likeness of data -/
mutual
theorem Td.dp {K : PySem.W.Frag} {H : Hp} : ∀ (d : PyData) (v : V), Td H v d → Dp K H v d
  | .none, _, h => by cases h; exact .non
  | .bool b, _, h => by cases h; exact .bl b
  | .int i, _, h => by cases h; exact .int i
  | .str x, _, h => by cases h; exact .str x
  | .tuple ds, _, h => by
    cases h with
    | tup e ha => exact .tup (.inl (.inl e)) (TdAll.dp ds _ ha)
  | .list _, _, h => by cases h
  | .dict _, _, h => by cases h
theorem TdAll.dp {K : PySem.W.Frag} {H : Hp} : ∀ (ds : List PyData) (vs : List V), TdAll H vs ds → DpAll K H vs ds
  | [], _, h => by cases h; exact .nil
  | d :: ds, _, h => by
    cases h with
    | cons h1 h2 => exact .cons (Td.dp d _ h1) (TdAll.dp ds _ h2)
end
theorem dp_row {K : PySem.W.Frag} {H : Hp} : ∀ row : List Nat, DpAll K H (rowV row) (row.map fun n : Nat => PyData.int (n : Int))
  | [] => .nil
  | n :: r => .cons (.int _) (dp_row r)
theorem canLay_nums : ∀ ns : List Int, PyData.canLayAll0 (ns.map PyData.int) = true
  | [] => rfl
  | n :: ns => by
    show (PyData.canLay0 (.int n) && PyData.canLayAll0 (ns.map PyData.int)) = true
    rw [canLay_nums ns]
    rfl
theorem depth_nums : ∀ ns : List Int, PyData.depthAll (ns.map PyData.int) ≤ 1
  | [] => by simp [PyData.depthAll]
  | n :: ns => by
    have := depth_nums ns
    simp only [List.map_cons, PyData.depthAll, PyData.depth]
    omega
theorem shaped_row (row : List Nat) : SeqAt.shaped (.list (row.map fun n : Nat => PyData.int (n : Int))) = true := by
  have e : (row.map fun n : Nat => PyData.int (n : Int)) = (row.map fun n : Nat => (n : Int)).map PyData.int := by rw [List.map_map]; rfl
  rw [e]
  have h1 := canLay_nums (row.map fun n : Nat => (n : Int))
  have h2 := depth_nums (row.map fun n : Nat => (n : Int))
  unfold SeqAt.shaped
  rw [Bool.and_eq_true, decide_eq_true_eq]
  refine ⟨?_, ?_⟩
  · simpa only [PyData.canLay0] using h1
  · simp only [PyData.depth]
    omega
theorem canLay_mo (a b c : List Int) : PyData.canLay0 (.tuple [stepD a, stepD b, stepD c]) = true := by
  simp only [PyData.canLay0, PyData.canLayAll0, stepD, canLay_nums]
  rfl
theorem shaped_mo (a b c : List Int) : SeqAt.shaped (.tuple [stepD a, stepD b, stepD c]) = true := by
  have h1 := depth_nums a
  have h2 := depth_nums b
  have h3 := depth_nums c
  unfold SeqAt.shaped
  rw [Bool.and_eq_true, decide_eq_true_eq]
  refine ⟨canLay_mo a b c, ?_⟩
  simp only [PyData.depth, PyData.depthAll, stepD]
  omega
end HX

set_option maxRecDepth 100000
set_option maxHeartbeats 1000000
namespace HX
open PySem PySem.Spec PyProof.Rows L2
/-! ### what the counts tell -/
def cnt (es : List Int) (e : Nat) : Int := ((es.count (e : Int) : Nat) : Int)
theorem cnt_cons (x : Int) (es : List Int) (e : Nat) : cnt (x :: es) e = cnt es e + (if x = (e : Int) then 1 else 0) := by
  unfold cnt
  rw [List.count_cons]
  by_cases h : x = (e : Int)
  · simp [h]
  · simp [h]
theorem bump_get {l : List Int} {i e : Nat} {d : Int} (hi : i < l.length) : (bump l i d).getD e 0 = l.getD e 0 + (if i = e then d else 0) := by
  unfold bump
  rw [List.getD_eq_getElem?_getD, List.getElem?_set]
  by_cases h : i = e
  · subst h
    rw [if_pos rfl, if_pos hi, if_pos rfl]
    rfl
  · rw [if_neg h, if_neg h, Int.add_zero, List.getD_eq_getElem?_getD]
def addE (f : List Int) (e : Int) : List Int := bump f e.toNat 1
theorem addE_len : ∀ (es : List Int) (f : List Int), (es.foldl addE f).length = f.length
  | [], f => rfl
  | x :: es, f => (addE_len es _).trans bump_len
theorem addE_get : ∀ (es : List Int) (f : List Int) (e : Nat), (∀ x ∈ es, 0 ≤ x ∧ x < (f.length : Int)) → (es.foldl addE f).getD e 0 = f.getD e 0 + cnt es e
  | [], f, e, _ => by simp [cnt]
  | x :: es, f, e, h => by
    obtain ⟨x0, x1⟩ := h x (List.mem_cons_self ..)
    rw [List.foldl_cons, addE_get es (addE f x) e (fun y hy => by
      unfold addE
      rw [bump_len]
      exact h y (List.mem_cons_of_mem _ hy)), cnt_cons]
    unfold addE
    rw [bump_get (by omega)]
    have : (x.toNat = e) ↔ x = (e : Int) := by omega
    by_cases g : x = (e : Int)
    · rw [if_pos (this.mpr g), if_pos g]
      omega
    · rw [if_neg (fun z => g (this.mp z)), if_neg g]
      omega
theorem send_get {W : Nat} : ∀ (es : List Int) (p : List Int × List Int), (∀ x ∈ es, 0 ≤ x ∧ x < (W : Int) + (p.2.length : Int)) → p.1.length = W →
    (∀ e, e < W → (es.foldl (sendM W) p).1.getD e 0 = p.1.getD e 0 + cnt es e) ∧ ∀ j, (es.foldl (sendM W) p).2.getD j 0 = p.2.getD j 0 + cnt es (W + j)
  | [], p, _, _ => ⟨fun e _ => by simp [cnt], fun j => by simp [cnt]⟩
  | x :: es, p, h, hw => by
    obtain ⟨x0, x1⟩ := h x (List.mem_cons_self ..)
    rw [List.foldl_cons]
    by_cases g : x < (W : Int)
    · have e1 : sendM W p x = (bump p.1 x.toNat 1, p.2) := if_pos g
      rw [e1]
      obtain ⟨h1, h2⟩ := send_get (W := W) es (bump p.1 x.toNat 1, p.2) (fun y hy => h y (List.mem_cons_of_mem _ hy)) (bump_len.trans hw)
      refine ⟨fun e he => ?_, fun j => ?_⟩
      · rw [h1 e he, cnt_cons]
        show (bump p.1 x.toNat 1).getD e 0 + _ = _
        rw [bump_get (by omega)]
        have : (x.toNat = e) ↔ x = (e : Int) := by omega
        by_cases g' : x = (e : Int)
        · rw [if_pos (this.mpr g'), if_pos g']
          omega
        · rw [if_neg (fun z => g' (this.mp z)), if_neg g']
          omega
      · rw [h2 j, cnt_cons, if_neg (by omega)]
        show p.2.getD j 0 + _ = _
        omega
    · have e1 : sendM W p x = (p.1, bump p.2 (x - (W : Int)).toNat 1) := if_neg g
      rw [e1]
      obtain ⟨h1, h2⟩ := send_get (W := W) es (p.1, bump p.2 (x - (W : Int)).toNat 1) (fun y hy => by
        show 0 ≤ y ∧ y < (W : Int) + ((bump p.2 (x - (W : Int)).toNat 1).length : Int)
        rw [bump_len]
        exact h y (List.mem_cons_of_mem _ hy)) hw
      refine ⟨fun e he => ?_, fun j => ?_⟩
      · rw [h1 e he, cnt_cons, if_neg (by omega)]
        show p.1.getD e 0 + _ = _
        omega
      · rw [h2 j, cnt_cons]
        show (bump p.2 (x - (W : Int)).toNat 1).getD j 0 + _ = _
        rw [bump_get (by omega)]
        have : ((x - (W : Int)).toNat = j) ↔ x = ((W + j : Nat) : Int) := by omega
        by_cases g' : x = ((W + j : Nat) : Int)
        · rw [if_pos (this.mpr g'), if_pos g']
          omega
        · rw [if_neg (fun z => g' (this.mp z)), if_neg g']
          omega
/-! sums up to -/
def sumTo : Nat → (Nat → Int) → Int
  | 0, _ => 0
  | n + 1, f => sumTo n f + f n
theorem sumTo_congr : ∀ (n : Nat) {f g : Nat → Int}, (∀ u, u < n → f u = g u) → sumTo n f = sumTo n g
  | 0, _, _, _ => rfl
  | n + 1, f, g, h => by
    show sumTo n f + f n = sumTo n g + g n
    rw [sumTo_congr n (fun u hu => h u (by omega)), h n (by omega)]
theorem sumTo_one : ∀ (n : Nat) {f g : Nat → Int} {a : Nat}, a < n → (∀ u, u < n → u ≠ a → f u = g u) → sumTo n f = sumTo n g + (f a - g a)
  | 0, _, _, _, h, _ => absurd h (by omega)
  | n + 1, f, g, a, ha, h => by
    show sumTo n f + f n = sumTo n g + g n + (f a - g a)
    by_cases e : a = n
    · subst e
      rw [sumTo_congr a (fun u hu => h u (by omega) (by omega))]
      omega
    · rw [sumTo_one n (a := a) (by omega) (fun u hu => h u (by omega)), h n (by omega) (fun z => e z.symm)]
      omega
theorem sumTo_front (n : Nat) (f : Nat → Int) : sumTo (n + 1) f = f 0 + sumTo n fun t => f (t + 1) := by
  induction n with
  | zero => show 0 + f 0 = f 0 + 0; omega
  | succ n ih =>
    show sumTo (n + 1) f + f (n + 1) = f 0 + (sumTo n (fun t => f (t + 1)) + f (n + 1))
    rw [ih]
    omega
/-- the ends of wheel u at step number s (any number, turned on) -/
def endsOf (ws : List (List (List Int))) (u : Nat) (s : Int) : List Int := (ws.getD u []).getD (s % ((ws.getD u []).length : Int)).toNat []
/-- how often e gets one, when wheel u is turned k times from s -/
def sent (ws : List (List (List Int))) (u : Nat) (s : Int) (k : Nat) (e : Nat) : Int := sumTo k fun t => cnt (endsOf ws u (s + (t : Int))) e
theorem endsOf_mod {ws : List (List (List Int))} {u : Nat} {s t : Int} : endsOf ws u (s % ((ws.getD u []).length : Int) + t) = endsOf ws u (s + t) := by
  unfold endsOf
  rw [Int.emod_add_emod]
theorem sent_front {ws : List (List (List Int))} {u : Nat} {s : Int} {k e : Nat} : sent ws u s (k + 1) e = cnt (endsOf ws u s) e + sent ws u ((s + 1) % ((ws.getD u []).length : Int)) k e := by
  unfold sent
  rw [sumTo_front]
  have h0 : s + ((0 : Nat) : Int) = s := by omega
  rw [h0]
  congr 1
  refine sumTo_congr k fun t _ => ?_
  rw [endsOf_mod]
  have : s + ((t + 1 : Nat) : Int) = s + 1 + (t : Int) := by omega
  rw [this]
def came (ws : List (List (List Int))) (st : List Int) (cs : Nat → Nat) (e : Nat) : Int := sumTo ws.length fun u => sent ws u (st.getD u 0) (cs u) e
end HX

set_option maxRecDepth 100000
set_option maxHeartbeats 3200000
namespace HX
open PySem PySem.Spec PyProof.Rows L2
structure Bi3 (mg : Str → Option Value) : Prop where
  sorted_ : mg "sorted" = none
  set_ : mg "set" = none
/-! ### set(xs), xs a list of whole numbers -/
def noneYet (w : World) : Obj := { cls := .type "set", dict := none, data := .set #[] 0 (.fresh 0 0 (!w.params.followText "set-order")) }
section
variable {P : Program} {w : World} {A : Around} {E : Value → Shared → Prop} {s : Shared}
theorem setOfInts {l : Addr} {its : Array Value} {ns : List Int} {Q : Value → Shared → Prop} (free : A.handled = none) (lies : s.heap.IsList l its) (are : IntsAre its.toList ns) (few : ns.length + 1 < scanBound)
    (q : ∀ (h' : Heap) (tk c : Nat), SetR w h' s.heap.objs.size (fun j => decide (j ∈ ns)) c → c ≤ ns.length → (∀ b o, s.heap.get? b = some o → h'.get? b = some o) → Q (.ref s.heap.objs.size) { s with heap := h', toks := tk }) :
    wpAny (model P w) A (call (.type "set") [.ref l]) Q E s := by
  have size : its.size = ns.length := by rw [← IntsAre.length are, Array.length_toList]
  obtain ⟨_, _, f0⟩ := F.called_set.mro
  have f1 := F.called_set.made
  have f2 := F.called_set.sub
  have f3 := F.called_set.notType
  have f4 := F.called_set.canCreate
  have f5 := F.typeCall_set_1 (.ref l)
  refine wpAny_call (codeAny_of_tree (show wpAny _ _ (callAny (.type "set") _) _ _ _ from wpAny_pure ⟨Code.quiet_builtin _ (by decide +kernel), codeAny_builtin F.entry_type_call ?_⟩))
  rw [Around.under_plain (weight_type_call_type "set" [.ref l] []) rfl]
  repeat (any_goals (first | assumption | wp_step))
  refine codeAny_mono (code_set_led1 (.ref l) (E := E) (Q₁ := fun v t => v = .ref s.heap.objs.size ∧ t = { s with heap := s.heap.push (noneYet w) }) ⟨rfl, rfl⟩) fun r t ht => ?_
  cases r with
  | error e => exact ht
  | ok fl =>
    cases fl with
    | next => exact ht.elim
    | brk => exact ht.elim
    | cont => exact ht.elim
    | ret v =>
      obtain ⟨rfl, rfl⟩ := ht
      have g0 : (s.heap.push (noneYet w)).get? s.heap.objs.size = some (noneYet w) := Heap.get?_push_size _ rfl
      have g1 : Shared.TypeIs { s with heap := s.heap.push (noneYet w) } (.ref s.heap.objs.size) "set" := ⟨_, g0, rfl⟩
      have g2 := F.called_set.init.lookup
      have g3 := F.called_set.init.bind (.ref s.heap.objs.size)
      repeat (any_goals (first | assumption | wp_step))
      refine codeAny_mono (codeAny_call_builtin (R := wants (fun r t => r = .none ∧ ∃ h' tk c, t = { s with heap := h', toks := tk } ∧ SetR w h' s.heap.objs.size (fun j => decide (j ∈ ns)) c ∧ c ≤ ns.length ∧ (∀ b o, s.heap.get? b = some o → h'.get? b = some o)) E) F.called_set.init.plain F.entry_set_init (check_set_init_1 g1 ?_)) fun r t ht => ?_
      · obtain ⟨⟨cl, di, da, sl⟩, e0, e1, nl, e2⟩ := lies
        simp only at e1 e2
        subst e1 e2
        have e3 : (s.heap.push (noneYet w)).get? l = some { cls := .type "list", dict := di, data := .seq its nl, slots := sl } := Heap.get?_push_of_some _ e0
        have d1 := F.sub_list_set
        have d2 := F.sub_list_frozenset
        have d3 : (Value.type "list" == Value.type "dict") = false := by decide
        have lies1 : (s.heap.push (noneYet w)).IsList l its := ⟨_, e3, rfl, nl, rfl⟩
        have under : l < s.heap.objs.size := Heap.lt_size e0
        have ne1 : l ≠ (s.heap.push (noneYet w)).objs.size := by
          rw [Heap.size_push]
          exact Nat.ne_of_lt (Nat.lt_succ_of_lt under)
        have ne2 : s.heap.objs.size ∉ [(s.heap.push (noneYet w)).objs.size, l] := by
          rw [Heap.size_push]
          intro z
          rcases List.mem_cons.mp z with z | z
          · exact absurd z (Nat.ne_of_lt (Nat.lt_succ_self _))
          · exact absurd (List.mem_singleton.mp z) (Nat.ne_of_gt under)
        have free3 : A.in1.in1.in1.handled = none := by simp [free]
        have each : ∀ (i : Nat) (v : Value), its[i]? = some v → ∃ k t, ns[i]? = some k ∧ v = .int k t := by
          intro i v hv
          obtain ⟨t, e⟩ := IntsAre.int_at are i v (by rw [Array.getElem?_toList]; exact hv)
          have hi : i < ns.length := by
            rw [← size]
            exact (Array.getElem?_eq_some_iff.mp hv).1
          exact ⟨ns[i], t, List.getElem?_eq_getElem hi, by rw [e, List.getD_eq_getElem?_getD, List.getElem?_eq_getElem hi]; rfl⟩
        unfold Builtin.«set.__init__» noKeywords Builtin.Frozenset.updateFrom
        generalize hI : pyIter = PI
        wp_walk
        subst hI
        refine wpAny_pyIter_list lies1 (wpAny_bind (wpAny_runValue ?_))
        refine set_update_ints ((Walks.list free3 _ l ne1 its).toS) s.heap.objs.size ne2 ns size few each (its.size - 0) 0 _ (by omega) (Nat.zero_le _) ⟨⟨_, Heap.get?_push_size _ rfl, rfl, rfl⟩, (lies1.push _)⟩ ⟨0, Nat.le_refl 0, setR_new_at (Heap.get?_push_of_some _ g0)⟩ ?_
        intro t c mv hc hS
        obtain ⟨h', _, _, tk, _⟩ := t
        obtain rfl := mv.gens
        obtain rfl := mv.drawn
        obtain rfl := mv.os
        show wpAny _ _ _ _ _ _
        refine wpAny_pure (show wpAny _ _ (ret Value.none) _ _ _ from ?_)
        rw [size] at hc
        refine wpAny_pure ⟨rfl, h', tk, c, rfl, hS, hc, fun b o e => ?_⟩
        have hb : b < s.heap.objs.size := Heap.lt_size e
        refine mv.heap b o (fun z => ?_) (Heap.get?_push_of_some _ (Heap.get?_push_of_some _ e))
        rcases List.mem_cons.mp z with z | z
        · exact absurd z (Nat.ne_of_lt hb)
        · have z' := List.mem_singleton.mp z
          rw [Heap.size_push] at z'
          exact absurd z' (Nat.ne_of_lt (Nat.lt_succ_of_lt hb))
      · cases r with
        | error e => exact ht
        | ok fl =>
          cases fl with
          | next => exact ht.elim
          | brk => exact ht.elim
          | cont => exact ht.elim
          | ret v =>
            obtain ⟨rfl, h', tk, c, rfl, hS, hc, hk⟩ := ht
            repeat (any_goals (first | assumption | wp_step))
            exact q _ _ _ hS hc hk
end
section
variable {X : Cx}
def rSetL (w : World) (K : PySem.W.Frag) : List V → Hp → VK → Prop := fun vs H Q => ∃ (l : Addr) (ns : List Int), vs = [.ref l] ∧ SqL K H l (ns.map V.int) ∧ ns.length ≤ 1000 ∧ ∀ (p : Addr) (c : Nat), c ≤ ns.length → H p = none → Q (.ref p) (upd H p (SetO w p (fun j => decide (j ∈ ns)) c))
theorem call_setL (hc : X.calm = true) : CallR X (.type "set") (rSetL X.w X.K) := by
  intro pins s σ H vs us Q I r h
  obtain ⟨l, ns, rfl, hq, hz, q⟩ := h
  obtain ⟨u, rfl, rx⟩ := vals1 r
  cases rx
  obtain ⟨its, r', pl, _⟩ := I.list hq
  refine setOfInts (I.ok.hd hc) pl.isList (ints_of_vals r') (by unfold scanBound; omega) fun h' tk c hS hcn kp => ?_
  exact ⟨.ref s.heap.objs.size, _, I.laid (t' := tk) kp (Nat.le_refl _) (setO_new hS), rfl, q _ c hcn (I.hok.fresh (Nat.le_refl _))⟩
/-- sorted(set(xs)) -/
theorem read_sortedSet {w : World} {K : PySem.W.Frag} {σ : L2.St} {H : Hp} {R : V → Hp → Prop} {te : TE} {l : Addr} {ns : List Int} (hv : ∀ Q : VK, Q (.ref l) H → te σ H Q) (hl : SqL K H l (ns.map V.int)) (hz : ns.length < 64)
    (q : ∀ (p : Addr) (zs : List Int) (H' : Hp), Same H H' → H' p = some (.lst (zs.map V.int)) → (∀ z, z ∈ zs ↔ z ∈ ns) → zs.length ≤ ns.length → R (.ref p) H') : tCB (rSortedSet w) (tCons (tCB (rSetL w K) (tCons te tNil)) tNil) σ H R := by
  refine hv _ ⟨l, ns, rfl, hl, by omega, fun p c hc np => ?_⟩
  refine ⟨p, _, c, rfl, upd_same, by omega, fun zs p2 _ hm hn np2 => ?_⟩
  refine q p2 zs _ ((Same.new np).trans (Same.new np2)) upd_same (fun z => ?_) (by omega)
  rw [hm z, decide_eq_true_eq]
end
end HX

set_option maxRecDepth 100000
set_option maxHeartbeats 2000000
namespace HX
open PySem PySem.Spec PyProof.Rows L2 L2H
/-! ### defs that may raise -/
def CalX (P : Program) (w : World) (K : PySem.W.Frag) (mg : Str → Option Value) (base : Heap) (k : Nat) (x : Str) (ps : List Str) (sp : Sp) : Prop :=
  ∃ (f : Addr) (fd : FuncData), FnOk P w K mg base (L2.CX P w) k f fd ps sp ∧ mg x = some (.ref f) ∧ PySem.W.keepIn K (.ref f) = true ∧ Binds K fd ps []
section
variable {P : Program} {w : World} {K : PySem.W.Frag} {mg : Str → Option Value} {base : Heap} {j k : Nat} {x : Str} {ps : List Str} {sp : Sp}
theorem CalX.mono (c : CalX P w K mg base j x ps sp) (h : j ≤ k) : CalX P w K mg base k x ps sp := by
  obtain ⟨f, fd, F, a, b, d⟩ := c
  exact ⟨f, fd, F.mono h, a, b, d⟩
theorem Def.okX {st : Stmt} {N : List Str} (D : Def K mg x st ps) (S : FnScope N ps (defScope st)) (len : ∀ vs H Q E, sp vs H Q E → vs.length = ps.length)
    (hbody : ∀ (f : Addr) (cdv : Value) (A : Around) (outer : List Env) (s : Shared) (H : Hp) (vs : List V) (Q : VK) (E : XK), Room k (A.deeper (envOfC x (defScope st) s.heap.objs.size f cdv)) → sp vs H Q E →
      Takes (cxOf (L2.CX P w) P w K mg base N x (defScope st) f cdv A outer s H E) (fun cls d _ H => E cls d H) →
      ∃ t, PSs (cxOf (L2.CX P w) P w K mg base N x (defScope st) f cdv A outer s H E) (defBody st) t ∧ t { nx := fun _ H' => Q .non H', rt := Q } (start N vs) H) : CalX P w K mg base (k + 1) x ps sp := by
  obtain ⟨f, fd, F, hm, hb⟩ := D
  exact ⟨f, fd, Fun.okX F S len fun cdv A outer s H vs Q E hr h => hbody f cdv A outer s H vs Q E hr h (takes_of rfl rfl rfl rfl), hm, F.kp, hb⟩
end
section
variable {X : Cx} {k : Nat} {x : Str} {ps : List Str} {sp : Sp} {p pos : Pos} {e : Expr} {es : List Expr} {t : TA} {W : WX}
theorem pe_calX (tk : Takes X W) (c : CalX X.prog X.w X.K X.mg X.base k x ps sp) (hr : Room k X.A) (hg : Gl X x) (ha : PA X (e :: es) t) (hdb : (x == ("__debug__" : Str)) = false := by decide) (he : starEach (e :: es) X.env = (false, eval e X.env) :: starEach es X.env := by rfl)
    (hpl : (backTo pos (starEach es X.env)).any (·.1) = false := by rfl) : PE X (.Call (.Name x p) (e :: es) [] pos) (tCallS sp (WE W) t) := by
  obtain ⟨f, fd, F, hm, hk, hb⟩ := c
  exact pe_callS F hr hg hm hk hb (passAt tk) ha hdb he hpl
theorem pe_never {e : Expr} : PE X e (fun _ _ _ => False) := ⟨fun _ _ _ _ _ _ h => h.elim⟩
end
/-! ### an own class of errors, made of nothing -/
abbrev veTail : List Value := [.type "ValueError", .type "Exception", .type "BaseException", .type "object"]
structure Err (K : PySem.W.Frag) (mg : Str → Option Value) (x : Str) (C : Addr) : Prop where
  gC : mg x = some (.ref C)
  kC : PySem.W.keepIn K (.ref C) = true
  ex : PySem.W.excIn K C veTail "ValueError.__new__" = true
  sb : PySem.W.subIn K (.ref C) (.type "BaseException") = some true
  ty : PySem.W.typeIn K (.ref C) = some (.type "type")
section
variable {X : Cx} {C : Addr}
theorem pmk_err {x : Str} {p pos : Pos} (R : Err X.K X.mg x C) (hg : Gl X x) (hdb : (x == ("__debug__" : Str)) = false := by decide) : PMk X (.Call (.Name x p) [] [] pos) (fun _ H Q => Q (.ref C) none H) := by
  intro pins s σ H Q I h
  refine wpAny_Call_Name_kw (ld_glob I hg R.gC (PySem.W.callWith_K0 I.kIn R.kC ?_) hdb)
  obtain ⟨_, _, _, _, _, _, _, _, _, _, _, _, _, _, _, _, _, hC, hN, hni, T⟩ := exc_obj I.kIn R.ex
  refine wpAny_call_exc_subT PySem.F.excBase_ValueError T hC hN hni (fun h' e hm => ?_) (Nat.zero_le _)
  exact mk_of I hm (raises_own R.sb R.ty) h (I.hok.gone hm.new)
theorem ps_err {x : Str} {p pos pos2 : Pos} {W : WX} (R : Err X.K X.mg x C) (tk : Takes X W) (hc : X.calm = true := by rfl) (hg : Gl X x := by rfl) (hdb : (x == ("__debug__" : Str)) = false := by decide) :
    PS X (.Raise (some (.Call (.Name x p) [] [] pos)) none pos2) (fun _ σ H => W (.ref C) none σ H) := ps_raise hc tk (pmk_err R hg hdb)
/-! ### isinstance of an error that the context bears -/
theorem call_isP {a D : Addr} {oe : Obj} (hp : (a, oe) ∈ X.pn) (C : ExcC X.K D) (hz : Zc (.ref D) none oe) (hf : ∃ vs, oe.data = .fields vs) : CallR X (.builtin "isinstance") (rIsE X.K D a) := by
  intro pins s σ H xs us Q I r h
  obtain ⟨c, cv, b, rfl, hcv, e, q⟩ := h
  obtain ⟨u1, u2, rfl, r1, r2⟩ := r.two
  obtain rfl := hcv _ r2
  cases r1
  obtain ⟨hget, _⟩ := I.pin (a, oe) (List.mem_append_left _ hp)
  obtain ⟨vs, hv⟩ := hf
  have J : PySem.W.InstAt s.heap a oe D none := by
    obtain ⟨_, _, _, _⟩ := oe
    obtain ⟨h1, h2⟩ := hz
    dsimp only at h1 h2 hv
    subst h1 h2 hv
    exact ⟨hget, rfl, rfl, trivial⟩
  exact PySem.W.kia_one (PySem.W.handS_kitx_exc C.hg C.hk C.hs C.hd C.ha C.hn C.ht C.hm) I.kIn J e (fun z => nomatch z) fun tk => ⟨.bl b, H, I.kept (t' := tk) fun _ _ z => z, rfl, q⟩
/-! ### xs.count(y), flat items -/
def rCntF (K : PySem.W.Frag) : V → List V → Hp → VK → Prop := fun x xs H Q => ∃ (a : Addr) (ys : List V) (y : V), x = V.ref a ∧ xs = [y] ∧ SqL K H a ys ∧ flatV y = true ∧ ys.all flatV = true ∧ Q (.int ((ys.countP fun z => eqV z y : Nat) : Int)) H
theorem countP_flat {y : V} : ∀ {ys : List V} {us : List Value}, Vals ys us → ys.all flatV = true → us.countP (eqU y) = ys.countP fun z => eqV z y
  | _, _, .nil, _ => rfl
  | z :: ys, u :: us, .cons r t, f => by
    rw [List.all_cons, Bool.and_eq_true] at f
    rw [List.countP_cons, List.countP_cons, countP_flat t f.2, eqU_of r f.1]
theorem mt_countF : MtR X "list.count" (rCntF X.K) := by
  intro pins s σ H x xs v us Q I rx rxs h
  obtain ⟨a, ys, y, rfl, rfl, hs, fy, fys, q⟩ := h
  cases rx
  obtain ⟨u, rfl, ru⟩ := rxs.one
  obtain ⟨its, rv, ⟨⟨cls, dd, data, sl⟩, n, ho, hc, _, hd⟩, hlen⟩ := I.list hs
  simp only at hc hd
  subst hc hd
  refine call_meets PySem.F.slot_list_count ⟨_, ho, rfl⟩ PySem.F.entry_list_count (PySem.F.args_list_count_2 _ _) (SeqAt.list_countAt a its.toArray n dd sl u (eqU y)) ⟨ho, fun z hz => mem_eqAt ru fy rv fys z (by simpa using hz), ?_⟩
  refine ⟨.int ((ys.countP fun z => eqV z y : Nat) : Int), H, I.tok _, ⟨s.toks, ?_⟩, q⟩
  show Value.int ((its.toArray.toList.countP (eqU y) : Nat) : Int) s.toks = _
  rw [show its.toArray.toList = its from rfl, countP_flat rv fys]
end
/-! ### a def that gets the caught error -/
structure FnE (P : Program) (w : World) (K : PySem.W.Frag) (mg : Str → Option Value) (base : Heap) (k : Nat) (f : Addr) (fd : FuncData) (a : Str) (sp : Addr → Value → Option Addr → Hp → VK → Prop) : Prop where
  run : ∀ (A : Around) (outer : List Env) (s : Shared) (H : Hp) (p : Addr × Obj) (cls : Value) (d : Option Addr) (Q : VK), RoomH k A → PinOk outer H s p → Zc cls d p.2 → (∃ vs, p.2.data = .fields vs) → Env0 P w K mg base A outer s H → BindsTo s fd ⟨[.ref p.1], []⟩ [(a, .ref p.1)] → sp p.1 cls d H Q →
    codeAny (model P w) A (.call (.ref f) ⟨[.ref p.1], []⟩) (CR CX0 outer P w H s Q E0) s
def CalE (P : Program) (w : World) (K : PySem.W.Frag) (mg : Str → Option Value) (base : Heap) (k : Nat) (x a : Str) (sp : Addr → Value → Option Addr → Hp → VK → Prop) : Prop :=
  ∃ (f : Addr) (fd : FuncData), FnE P w K mg base k f fd a sp ∧ mg x = some (.ref f) ∧ PySem.W.keepIn K (.ref f) = true ∧ Binds K fd [a] []
section
variable {P : Program} {w : World} {K : PySem.W.Frag} {mg : Str → Option Value} {base : Heap} {k : Nat} {x a : Str} {sp : Addr → Value → Option Addr → Hp → VK → Prop}
theorem CalE.mono {j : Nat} (c : CalE P w K mg base j x a sp) (h : j ≤ k) : CalE P w K mg base k x a sp := by
  obtain ⟨f, fd, F, b1, b2, b3⟩ := c
  exact ⟨f, fd, ⟨fun A outer s H p cls d Q hr => F.run A outer s H p cls d Q (hr.mono h)⟩, b1, b2, b3⟩
theorem Def.okE {st : Stmt} {N : List Str} (D : Def K mg x st [a]) (S : FnScope N [a] (defScope st))
    (hbody : ∀ (f : Addr) (cdv : Value) (A : Around) (outer : List Env) (s : Shared) (H : Hp) (p : Addr × Obj) (cls : Value) (d : Option Addr) (Q : VK), Zc cls d p.2 → (∃ vs, p.2.data = .fields vs) → RoomH k (A.deeper (envOfC x (defScope st) s.heap.objs.size f cdv)) → sp p.1 cls d H Q →
      ∃ t, PSs (cxH CX0 P w K mg base N x (defScope st) f cdv A outer s H E0 p) (defBody st) t ∧ t { nx := fun _ H' => Q .non H', rt := Q } (start N [.ref p.1]) H) : CalE P w K mg base (k + 1) x a sp := by
  obtain ⟨f, fd, F, hm, hb⟩ := D
  obtain ⟨oc, od, kV, doc, pm, an, cdv, ct, osl, rfl, lk, hcd⟩ := F.ex
  refine ⟨f, _, ⟨fun A outer s H p cls d Q hr hpin hz hf e0 hbn hsp => ?_⟩, hm, F.kp, hb⟩
  have KX : K.In s.heap := e0.mod.kin.keeps fun b o e => (e0.bs b o e).1
  have lim : s.heap.NoLimit := e0.mod.nolimit.keeps fun b o e => (e0.bs b o e).1
  have hkind : ∀ y ∈ [a].zip [Value.ref p.1], (defScope st).names.lookup y.1 = some .local ∨ ((defScope st).names.lookup y.1 = some .cell ∧ ((cellsFrom (s.heap.objs.size + 1) (defScope st).names []).lookup y.1).isSome = true) := by
    rintro ⟨n, v⟩ hy
    rcases S.par n (List.of_mem_zip hy).1 with z | z
    · exact .inl z
    · exact .inr ⟨z, PySem.W.cellsFrom_some _ _ _ (.inl z)⟩
  refine codeAny_call_function hr.depth (KX _ _ lk) rfl S.co S.gen rfl (PySem.W.codeRec_of KX hcd) (hbn _ _ _ _ ?_)
  refine wpAny_newFunctionEnv_cells S.kind hkind fun env he s1 xx => ?_
  subst he
  refine ⟨lim.keeps xx.toInCall.keep, codeAny_func ?_⟩
  obtain ⟨t, ht, hq⟩ := hbody f cdv A outer s H p cls d Q hz hf (hr.deeper _) hsp
  have I : Inv (cxH CX0 P w K mg base N x (defScope st) f cdv A outer s H E0 p) [] (start N [.ref p.1]) H s1 := inv_startH (vs := [.ref p.1]) (us := [.ref p.1]) S hpin e0 rfl (.cons rfl .nil) xx
  refine wpAny_mono (ht.run [] s1 _ H _ I hq) (fun fl s' hs => ?_) fun e s' hs => hs
  cases fl with
  | ret u =>
    obtain ⟨v, σ', H', J, rv, q⟩ := hs
    exact ⟨v, H', J.os, J.bare, J.base, J.hok, rv, q⟩
  | next =>
    obtain ⟨σ', H', J, q⟩ := hs
    exact ⟨V.non, H', J.os, J.bare, J.base, J.hok, rfl, q⟩
  | brk =>
    obtain ⟨_, _, _, q⟩ := hs
    exact False.elim q
  | cont =>
    obtain ⟨_, _, _, q⟩ := hs
    exact False.elim q
/-- x(e) in the suite that holds the error -/
theorem pe_calE {X : Cx} {ea : Addr} {oe : Obj} {cls : Value} {d : Option Addr} {pn : List (Addr × Obj)} {e : Expr} {te : TE} {q pos : Pos} (c : CalE X.prog X.w X.K X.mg X.base k x a sp) (hr : RoomH k X.A) (hz : Zc cls d oe) (hf : ∃ vs, oe.data = .fields vs) (hg : Gl X x) (he : PE (X.suite ea ((ea, oe) :: pn)) e te) (hdb : (x == ("__debug__" : Str)) = false := by decide)
    (hst : starEach [e] X.env = (false, eval e X.env) :: starEach [] X.env := by rfl) : PE (X.suite ea ((ea, oe) :: pn)) (.Call (.Name x q) [e] [] pos) (fun σ H Q => te σ H fun v H1 => [v] = [.ref ea] ∧ sp ea cls d H1 Q) := by
  obtain ⟨f, fd, F, hm, hk, hb⟩ := c
  refine ⟨fun pins s σ H Q I h => ?_⟩
  refine wpAny_Call_Name_kw (ld_glob (X := X.suite ea ((ea, oe) :: pn)) I hg hm ?_ hdb)
  have ha : PA (X.suite ea ((ea, oe) :: pn)) [e] (tCons te tNil) := pa_cons he pa_nil hst
  refine PySem.W.callWith_K (h₀ := X.base) I.ok.mod.kin hk (thn (ha.run pos pins s σ H (fun vs H1 => vs = [.ref ea] ∧ sp ea cls d H1 Q) I h) fun us s1 ⟨vs, H1, I1, r, q⟩ => ⟨I1.kIn, ?_⟩) hst rfl
  · obtain ⟨rfl, q⟩ := q
    obtain ⟨u, rfl, ru⟩ := r.one
    cases ru
    have P1 := I1.pin (ea, oe) (List.mem_append_left _ List.mem_cons_self)
    have hpin : PinOk X.stack H1 s1 (ea, oe) := ⟨P1.1, P1.2.1, fun hm => (List.mem_cons.mp (I1.stkSub ea hm)).elim P1.2.2.1 P1.2.2.2.1, P1.2.2.2.2⟩
    have b := hb s1 [.ref ea] I1.kIn rfl
    refine wpAny_call (codeAny_mono (F.run (X.A.mark (some (.ref ea))) X.stack s1 H1 (ea, oe) cls d Q ⟨hr.dp, hr.un⟩ hpin hz hf I1.env0 b q) fun r s' hq => ?_)
    cases r with
    | error e => exact False.elim hq
    | ok fl =>
      cases fl with
      | ret u => exact I1.after hq
      | next => exact False.elim hq
      | brk => exact False.elim hq
      | cont => exact False.elim hq
end
end HX

set_option maxRecDepth 100000
set_option maxHeartbeats 2000000
namespace HX
open PySem PySem.Spec PyProof.Rows L2 L2H LamX
/-! ### a def that calls what it got, and words the error -/
/-- what such a def makes of the reading of what it got -/
def TSaid (K : PySem.W.Frag) (CM : Addr) (told : Str) (spW : Addr → Value → Option Addr → Hp → VK → Prop) : (XK → Hp → VK → Prop) → Hp → VK → Prop := fun tl H Q =>
  tl (fun cls d H' => ∃ b, PySem.W.exmOne K cls (.ref CM) = some b ∧ (b = true → ∀ a, H' a = none → spW a cls d H' Q) ∧ (b = false → False)) H fun v H1 => [V.str told, v].length ≤ sizeLine ∧ ∀ p, H1 p = none → Q (.ref p) (upd H1 p (.tup [.str told, v]))
theorem takes_len {X : Cx} {W : WX} (tk : Takes X W) : Takes X (fun cls d σ H => σ.length = X.N.length → W cls d σ H) := fun u s' ⟨a, B, sI, pins, σ, H, cls, d, e, I, nb, up, sky, na, os, ag, w⟩ =>
  tk u s' ⟨a, B, sI, pins, σ, H, cls, d, e, I, nb, up, sky, na, os, ag, w I.len⟩
theorem said_gives {X : Cx} {k : Nat} {x a n e wd aw q told : Str} {sg : Scope} {g CM : Addr} {cdg : Value} {spW : Addr → Value → Option Addr → Hp → VK → Prop} {j kt : Nat} {p1 p2 p3 p4 p5 p6 p7 p8 p9 p10 p11 p12 : Pos} (cw : CalE X.prog X.w X.K X.mg X.base k wd aw spW) (hr : Room (k + 1) X.A)
    (hge : sg.names.lookup e = some .globalImplicit) (hme : X.mg e = some (.ref CM)) (hnd : [a, n].Nodup) (hln : sg.names.lookup n = some .local) (hgw : sg.names.lookup wd = some .globalImplicit) (hde : (e == ("__debug__" : Str)) = false := by decide) (hdw : (wd == ("__debug__" : Str)) = false := by decide)
    (hdn : (n == ("__debug__" : Str)) = false := by decide) (hcn : (n == ("__classdict__" : Str)) = false := by decide) :
    GivesTo X [a, n] x sg g cdg [.Try [.Return (some (.Tuple [.Constant (.str told) j p1, .Call (.Name a p2) [] [] p3] kt p4)) p5] [.ExceptHandler (some (.Name e p6)) (some n) [.Return (some (.Call (.Name wd p7) [.Name n p8] [] p9)) p10] p11] [] [] p12] a q (TSaid X.K CM told spW) := by
  intro f c' s H Q tl act hc h
  have hgl : Gl (cxOf C8.CX0 X.prog X.w X.K X.mg X.base [a, n] x sg g cdg X.A X.stack s H C8.E0).nox e := hge
  have hrm : RoomH k (cxOf C8.CX0 X.prog X.w X.K X.mg X.base [a, n] x sg g cdg X.A X.stack s H C8.E0).nox.A := roomH_of (hr.deeper _)
  refine ⟨_, pss_one (ps_try_as (X := (cxOf C8.CX0 X.prog X.w X.K X.mg X.base [a, n] x sg g cdg X.A X.stack s H C8.E0).nox) (c := .ref CM) (i := 1)
      (tb := fun W D σ H => ∃ Ech : XK, (∀ cls d σ' H', σ'.length = 2 → Ech cls d H' → W cls d σ' H') ∧ σ[0]? = some (some (.ref f)) ∧ H c' = some (CodeO c' q) ∧ tl Ech H fun v H1 => [V.str told, v].length ≤ sizeLine ∧ ∀ p, H1 p = none → D.rt (.ref p) (upd H1 p (.tup [.str told, v])))
      rfl rfl hnd rfl hln ⟨hgl, hde, .inl hme⟩ LamX.takes0 (fun W pn xe tk _ => ?_) (fun ea oe cls d pn hz hf => pss_one (ps_ret (pe_calE cw hrm hz hf hgw (pe_var (i := 1) rfl (.inl hln) hdn hcn) hdw)))), ?_⟩
  · refine ⟨fun pins s' σ H' D I h' => ?_⟩
    obtain ⟨Ech, hW, h1, h2, h3⟩ := h'
    have hp := act (fun cls d σ H => σ.length = 2 → W cls d σ H) pn xe Ech p2 p3 (takes_len tk) fun cls d σ' H' he hl => hW cls d σ' H' hl he
    exact (pss_one (ps_ret (pos := p5) (pe_tup (pa_cons pe_str (pa_cons hp pa_nil))))).run pins s' σ H' D I ⟨h1, h2, h3⟩
  · refine ⟨fun cls d H' => ∃ b, PySem.W.exmOne X.K cls (.ref CM) = some b ∧ (b = true → ∀ a, H' a = none → spW a cls d H' Q) ∧ (b = false → False), ?_, rfl, hc, h⟩
    rintro cls d σ' H' hl ⟨b, e1, e2, e3⟩
    refine ⟨b, e1, fun hb ea na => ?_, fun hb => (e3 hb).elim⟩
    refine ⟨.ref ea, ?_, rfl, e2 hb ea na⟩
    rw [List.getElem?_set_self (by omega)]
/-! ### the law's end, with tables of code objects, for a law that makes texts of values -/
theorem law_callTG {P : Program} {w : World} {K : PySem.W.Frag} {mg mb : Str → Option Value} {k : Nat} {fa a : Addr} {cs : List (Addr × Addr)} {fd : FuncData} {x : Str} {sp : Sp} {s1 : Shared} {vs : List Value} {ns : List Int}
    (KX : K.In s1.heap) (hns : s1.heap.Ns mainGlobals mg) (hb : s1.heap.Ns builtinsNs mb) (hbb : ∀ x : Str, x ≠ "__name__" → mb x = bootBuiltins x) (hlim : s1.heap.NoLimit) (hsys : ∃ mm, s1.heap.Ns sysModules mm) (hg : s1.gens = #[])
    (hT : ∀ p ∈ cs, s1.heap.get? p.2 = some { cls := .none, data := .fields #[] }) (nT : ∀ p ∈ cs, K.lookup p.2 = none) (hC : ∀ p ∈ cs, PySem.W.CodeHd s1.heap p.1 p.2)
    (hbm : ∃ (bm : Addr) (ob : Obj), mg "__builtins__" = some (.ref bm) ∧ bm ≠ builtinsNs ∧ s1.heap.get? bm = some ob ∧ ob.cls = .type "module" ∧ ob.dict = some builtinsNs ∧ ob.data = .plain)
    (ha : s1.heap.get? a = some { cls := .type "list", data := .seq vs.toArray }) (hi : IntsAre vs ns) (hl : ns.length ≤ sizeLine) (hr : Room k callerA)
    (F : ∀ base : Heap, K.In base → base.Ns mainGlobals mg → (∀ p ∈ cs, TabB base mg p.1 p.2) → FnG P w K mg base k fa fd [x] sp) (hbind : ∀ (s : Shared) (u : Value), K.In s.heap → BindsTo s fd ⟨[u], []⟩ [(x, u)])
    (hsp : ∀ H : Hp, (∀ p ∈ cs, H p.2 = some (.tbl #[])) → SqL K H a (ns.map V.int) → sp [.ref a] H (fun v _ => v = .bl true) fun _ _ _ => False) :
    codeAny (model P w) callerA (.call (.ref fa) ⟨[.ref a], []⟩) (fun r s' => r = .ok (.ret (.bool true)) ∧ OldK s1.heap s'.heap ∧ s'.os = s1.os ∧ AllBare s'.gens) s1 := by
  have rv := vals_ints hi
  have lenV := hi.length
  let tab : Addr → Prop := fun b => b ∈ cs.map (·.2)
  have tabAt : ∀ {b : Addr}, tab b → s1.heap.get? b = some { cls := .none, data := .fields #[] } := by
    intro b hb
    obtain ⟨p, hp, rfl⟩ := List.mem_map.mp hb
    exact hT p hp
  have aNo : ¬ tab a := fun z => by
    have e := tabAt z
    rw [ha] at e
    cases e
  have tabOf : ∀ {p}, p ∈ cs → tab p.2 := fun {p} hp => List.mem_map.mpr ⟨p, hp, rfl⟩
  have main : ∀ H : Hp, (∀ p ∈ cs, H p.2 = some (.tbl #[])) → (∀ b, ¬ tab b → H b = none ∨ ∃ o xs, H b = some (.frz o (.lst xs))) → SqL K H a (ns.map V.int) → HOk P w H s1.heap → (∀ b, H b ≠ none → b = a ∨ tab b) → (H a ≠ none → K.lookup a = none) →
      codeAny (model P w) callerA (.call (.ref fa) ⟨[.ref a], []⟩) (fun r s' => r = .ok (.ret (.bool true)) ∧ OldK s1.heap s'.heap ∧ s'.os = s1.os ∧ AllBare s'.gens) s1 := by
    intro H hH hO hS hok hA hK
    have out : ∀ {b : Addr} {o : Obj}, s1.heap.get? b = some o → (∀ vs n, o.data ≠ .seq vs n) → o.data ≠ .fields #[] → H b = none := by
      intro b o e n1 n2
      cases q : H b with
      | none => rfl
      | some u =>
        exfalso
        rcases hA b (by rw [q]; exact fun z => nomatch z) with z | z
        · rw [z, ha] at e
          cases e
          exact n1 _ _ rfl
        · rw [tabAt z] at e
          cases e
          exact n2 rfl
    have at_dict : ∀ {b : Addr} {o : Obj} {es : Array DictEntry} {ep : Nat}, s1.heap.get? b = some o → o.data = .dict es ep → H b = none := fun {b o es ep} e d => out e (fun _ _ z => by rw [d] at z; cases z) fun z => by rw [d] at z; cases z
    have keepNs : ∀ {b : Addr} {m : Str → Option Value}, s1.heap.Ns b m → (hidT s1.heap H).Ns b m := by
      rintro b m ⟨o, es, ep, e, d, r⟩
      exact ⟨o, es, ep, hidT_get e (at_dict e d), d, r⟩
    have hKb : K.In (hidT s1.heap H) := by
      intro b o e
      refine hidT_get (KX b o e) ?_
      cases q : H b with
      | none => rfl
      | some u =>
        exfalso
        have hn : H b ≠ none := by rw [q]; exact fun z => nomatch z
        rcases hA b hn with z | z
        · subst z
          rw [hK hn] at e
          cases e
        · obtain ⟨p, hp, rfl⟩ := List.mem_map.mp z
          rw [nT p hp] at e
          cases e
    have e0 : Env0 P w K mg (hidT s1.heap H) callerA [] s1 H := by
      refine ⟨rfl, ⟨hKb, keepNs hns, ⟨mb, keepNs hb, hbb⟩, ?_⟩, fun b o e => of_hidT e, Nat.le_of_eq (hidT_size _ _), trivial, fun b hb => ?_, hok, .of_eq hg⟩
      · obtain ⟨mc, h1, h2⟩ := hlim
        exact ⟨mc, keepNs h1, h2⟩
      · exact absurd (show b ∈ ([] : List Addr) from hb) (by simp)
    have en : Ent callerA s1 H := by
      obtain ⟨mm, o, es, ep, e, d, _⟩ := hsys
      exact ⟨rfl, ⟨o, e⟩, at_dict e d⟩
    have tb : ∀ p ∈ cs, TabB (hidT s1.heap H) mg p.1 p.2 := by
      intro p hp
      refine ⟨?_, ?_, fun z => ?_⟩
      · obtain ⟨o, us, file, tf, flags, tg, inF, text, tt, e1, r1, r2, r3, rest⟩ := hC p hp
        refine ⟨o, us, file, tf, flags, tg, inF, text, tt, hidT_get e1 (out e1 (fun _ _ z => by rw [r2] at z; cases z) fun z => ?_), r1, r2, r3, rest⟩
        rw [r2] at z
        cases z
        simp at r3
      · obtain ⟨bm, ob, b1, b2, b3, b4, b5, b6⟩ := hbm
        refine ⟨bm, ob, b1, b2, fun z => ?_, fun z => ?_, hidT_get b3 (out b3 (fun _ _ z => by rw [b6] at z; cases z) fun z => by rw [b6] at z; cases z), b4, b5, b6⟩
        · obtain ⟨o, es, ep, e, d, _⟩ := hns
          rw [z, e] at b3
          cases b3
          rw [d] at b6
          cases b6
        · rw [z, hT p hp] at b3
          cases b3
          cases b6
      · obtain ⟨o, es, ep, e, d, _⟩ := hns
        rw [z, hT p hp] at e
        cases e
        cases d
    refine codeAny_mono ((F _ hKb (keepNs hns) tb).run callerA [] s1 H ⟨[.ref a], []⟩ [.ref a] [.ref a] _ _ en hr e0 (hbind s1 (.ref a) KX) (.cons rfl .nil) (hsp H hH hS)) fun r s' h => ?_
    cases r with
    | error e => exact False.elim h
    | ok fl =>
      cases fl with
      | next => exact False.elim h
      | brk => exact False.elim h
      | cont => exact False.elim h
      | ret u =>
        obtain ⟨v, H', os, bare, un, hok', r', q⟩ := h
        obtain rfl : v = .bl true := q
        obtain rfl : u = Value.bool true := r'
        have stays : ∀ b o, ¬ tab b → s1.heap.get? b = some o → s'.heap.get? b = some o := by
          intro b o nb e
          rcases hO b nb with z | ⟨ob, xs, z⟩
          · exact un.keep b o e z (fun m => absurd (show b ∈ ([] : List Addr) from m) (by simp)) (by simp)
          · have e1 := (hok b _ z).1
            have e2 := (hok' b _ (un.frzs b ob _ z)).1
            rw [e] at e1
            cases e1
            exact e2
        have grows : ∀ p ∈ cs, ∃ more : Array Value, s'.heap.get? p.2 = some { cls := .none, data := .fields more } := by
          intro p hp
          obtain ⟨more, z⟩ := un.tbls p.2 #[] (hH p hp)
          exact ⟨_, hok' p.2 _ z⟩
        refine ⟨rfl, ⟨fun b o e => ?_, fun b o e => ?_⟩, os, bare⟩
        · by_cases hb : tab b
          · obtain ⟨p, hp, rfl⟩ := List.mem_map.mp hb
            obtain ⟨more, hm⟩ := grows p hp
            have e' := e
            rw [hT p hp] at e'
            cases e'
            exact .inr (.inl ⟨((hC p hp).tab (hT p hp)).isCodeTable, rfl, #[], more, rfl, by rw [Array.empty_append]; exact hm⟩)
          · exact .inl (stays b o hb e)
        · by_cases hb : tab b
          · obtain ⟨p, hp, rfl⟩ := List.mem_map.mp hb
            obtain ⟨more, hm⟩ := grows p hp
            exact ⟨_, hm⟩
          · exact ⟨o, stays b o hb e⟩
  cases hk : K.lookup a with
  | some o =>
    have e := KX a o hk
    rw [ha] at e
    cases e
    let Hs : Hp := fun b => if b ∈ cs.map (·.2) then some (.tbl #[]) else none
    have in_ : ∀ b, tab b → Hs b = some (.tbl #[]) := fun b hb => if_pos hb
    have out_ : ∀ b, ¬ tab b → Hs b = none := fun b hb => if_neg hb
    refine main Hs (fun p hp => in_ _ (tabOf hp)) (fun b nb => .inl (out_ b nb)) (.inr ⟨_, vs.toArray, _, hk, rfl, rfl, rfl, ?_, ?_⟩) (fun b u z => ?_) (fun b z => ?_) fun z => absurd (out_ a aNo) z
    · rw [List.size_toArray, lenV]
      exact hl
    · simpa using rv
    · by_cases hb : tab b
      · rw [in_ b hb] at z
        cases z
        exact tabAt hb
      · rw [out_ b hb] at z
        cases z
    · by_cases hb : tab b
      · exact .inr hb
      · exact absurd (out_ b hb) z
  | none =>
    let Hs : Hp := fun b => if b = a then some (.frz { cls := .type "list", data := .seq vs.toArray } (.lst (ns.map V.int))) else if b ∈ cs.map (·.2) then some (.tbl #[]) else none
    have at_a : Hs a = some (.frz { cls := .type "list", data := .seq vs.toArray } (.lst (ns.map V.int))) := if_pos rfl
    have in_ : ∀ b, tab b → Hs b = some (.tbl #[]) := fun b hb => (if_neg (fun z : b = a => aNo (z ▸ hb))).trans (if_pos hb)
    have out_ : ∀ b, b ≠ a → ¬ tab b → Hs b = none := fun b h1 h2 => (if_neg h1).trans (if_neg h2)
    refine main Hs (fun p hp => in_ _ (tabOf hp)) (fun b nb => ?_) (.inl (.inr ⟨_, at_a⟩)) (fun b u z => ?_) (fun b z => ?_) fun _ => hk
    · by_cases hb : b = a
      · rw [hb]
        exact .inr ⟨_, _, at_a⟩
      · exact .inl (out_ b hb nb)
    · by_cases hb : b = a
      · rw [hb, at_a] at z
        cases z
        rw [hb]
        exact ⟨ha, by rw [List.length_map]; exact hl, vs, _, rv, ha⟩
      · by_cases hb2 : tab b
        · rw [in_ b hb2] at z
          cases z
          exact tabAt hb2
        · rw [out_ b hb hb2] at z
          cases z
    · by_cases hb : b = a
      · exact .inl hb
      · by_cases hb2 : tab b
        · exact .inr hb2
        · exact absurd (out_ b hb hb2) z
/-- what is known of the law's promise at the head's heap -/
def LawTG (l : PySem.W.OpenLaw) (w : World) (K : PySem.W.Frag) (k n : Nat) (x : Str) (mg : Str → Option Value) (fa : Addr) (h : Heap) : Prop :=
  ∃ (fd : FuncData) (cs : List (Addr × Addr)) (sp : Sp), (∀ p ∈ cs, h.get? p.2 = some { cls := .none, data := .fields #[] }) ∧ (∀ p ∈ cs, K.lookup p.2 = none) ∧ (∀ p ∈ cs, PySem.W.CodeHd h p.1 p.2) ∧ (∀ (s : Shared) (u : Value), K.In s.heap → BindsTo s fd ⟨[u], []⟩ [(x, u)]) ∧
    (∀ (H : Hp) (a : Addr) (ns : List Int), ns.length ≤ n → (∀ p ∈ cs, H p.2 = some (.tbl #[])) → SqL K H a (ns.map V.int) → sp [.ref a] H (fun v _ => v = .bl true) fun _ _ _ => False) ∧
    ∀ base : Heap, K.In base → base.Ns mainGlobals mg → (∀ p ∈ cs, TabB base mg p.1 p.2) → FnG l.prog w K mg base k fa fd [x] sp
theorem walk_ofTG {l : PySem.W.OpenLaw} {n k : Nat} {q : Program} {loose : List Str} {XP : (Str → Option Value) → Heap → Prop} {YP : World → Heap → Prop} {d : DefRec} {K : Params → PySem.W.Frag} {x : Str}
    (hn : l.most = some n) (hn2 : n ≤ sizeLine) (hdf : d.params.defaults = []) (hr : Room k callerA) (hi : importsNone q = true) (hY : ∀ (w : World) (h : Heap), YP w h → (K w.params).In h)
    (F : ∀ (w : World) (mg : Str → Option Value) (fa : Addr) (h : Heap), (K w.params).In h → h.Ns mainGlobals mg → mg d.name = some (.ref fa) →
      (∀ (y : Str) (e : DefRec) (c T : Addr), (recsOf q).find? (fun e => e.name == y) = some e → PySem.W.tabIn (K w.params) y = some (c, T) → PySem.W.CodeHd h c T ∧ h.get? T = some { cls := .none, data := .fields #[] }) → LawTG l w (K w.params) k n x mg fa h) :
    PySem.W.WalkO q loose XP YP l.row.toRowW d [] (fun f vs => PySem.call f vs) := by
  refine Att.attach_callB hn hdf fun w s0 s1 mg mb fa o pm cd doc a vs ns G Y ho hd hcd hmg hobj hints hlen hbits hg => ?_
  have KX := hY w _ Y
  obtain ⟨fd, cs, sp, hT, nT, hC, hb, hsp, hF⟩ := F w mg fa _ KX G.T.g hmg fun y e c T h1 h2 => PySem.W.tab_of G.T KX h1 h2
  obtain ⟨mm, hm, _⟩ := (G.T.seer hi).mods
  exact law_callTG KX G.T.g G.T.b G.T.builtins G.T.nolimit ⟨mm, hm⟩ hg hT nT hC G.T.bmain hobj hints (Nat.le_trans hlen hn2) hr hF hb fun H hH hS => hsp H a ns hlen hH hS
/-! ### a def whose code object is known -/
theorem fun_code {K : PySem.W.Frag} {x : Str} {st : Stmt} {f c T : Addr} {fd : FuncData} (F : Fun K x x st f fd) (hn : PySem.W.nsIn K mainGlobals x = some (some (.ref f))) (ht : PySem.W.tabIn K x = some (c, T)) : fd.code = .ref c := by
  obtain ⟨oc, od, kV, doc, pm, an, cdv, ct, osl, rfl, lk, hcd⟩ := F.ex
  unfold PySem.W.tabIn at ht
  rw [hn] at ht
  dsimp only at ht
  rw [lk] at ht
  dsimp only [PySem.W.fnOf] at ht ⊢
  split at ht
  · split at ht
    · split at ht
      · cases ht
        rfl
      · cases ht
    · cases ht
  · cases ht
section
variable {P : Program} {w : World} {K : PySem.W.Frag} {mg : Str → Option Value} {base : Heap}
theorem Fun.okGC {x qual : Str} {st : Stmt} {f c : Addr} {fd : FuncData} {N ps : List Str} {k : Nat} {sp : Sp} (F : Fun K x qual st f fd) (hc : fd.code = .ref c) (S : FnScope N ps (defScope st)) (len : ∀ vs H Q E, sp vs H Q E → vs.length = ps.length)
    (hbody : ∀ (A : Around) (outer : List Env) (s : Shared) (H : Hp) (vs : List V) (Q : VK) (E : XK), Ent A s H → Room k (A.deeper (envOfC qual (defScope st) s.heap.objs.size f (.ref c))) → sp vs H Q E →
      ∃ t, PSs (cxOf CX0 P w K mg base N qual (defScope st) f (.ref c) A outer s H E).nox (defBody st) t ∧ t { nx := fun _ H' => Q .non H', rt := Q } (start N vs) H) : FnG P w K mg base (k + 1) f fd ps sp := by
  obtain ⟨oc, od, kV, doc, pm, an, cdv, ct, osl, rfl, lk, hcd⟩ := F.ex
  obtain rfl : cdv = .ref c := hc
  refine ⟨len, fun A outer s H args us vs Q E en hr e0 hb r hsp => ?_⟩
  have hl := len _ _ _ _ hsp
  have KX : K.In s.heap := e0.mod.kin.keeps fun b o e => (e0.bs b o e).1
  have lim : s.heap.NoLimit := e0.mod.nolimit.keeps fun b o e => (e0.bs b o e).1
  have hkind : ∀ y ∈ ps.zip us, (defScope st).names.lookup y.1 = some .local ∨ ((defScope st).names.lookup y.1 = some .cell ∧ ((cellsFrom (s.heap.objs.size + 1) (defScope st).names []).lookup y.1).isSome = true) := by
    rintro ⟨n, v⟩ hy
    rcases S.par n (List.of_mem_zip hy).1 with q | q
    · exact .inl q
    · exact .inr ⟨q, PySem.W.cellsFrom_some _ _ _ (.inl q)⟩
  refine codeAny_call_function hr.depth (KX _ _ lk) rfl S.co S.gen rfl (PySem.W.codeRec_of KX hcd) (hb _ _ _ _ ?_)
  refine wpAny_newFunctionEnv_cells S.kind hkind fun env he s1 xx => ?_
  subst he
  refine ⟨lim.keeps xx.toInCall.keep, codeAny_func ?_⟩
  obtain ⟨t, ht, hq⟩ := hbody A outer s H vs Q E en (hr.deeper _) hsp
  have I := inv_start (CX := CX0) (E := E) S hr.hd e0 hl r xx
  refine wpAny_mono (ht.nox.run [] s1 (start N vs) H _ I hq) (fun fl s' hs => ?_) fun e s' hs => hs
  cases fl with
  | ret u =>
    obtain ⟨v, σ', H', J, rv, q⟩ := hs
    exact ⟨v, H', J.os, J.bare, J.base, J.hok, rv, q⟩
  | next =>
    obtain ⟨σ', H', J, q⟩ := hs
    exact ⟨V.non, H', J.os, J.bare, J.base, J.hok, rfl, q⟩
  | brk =>
    obtain ⟨_, _, _, q⟩ := hs
    exact False.elim q
  | cont =>
    obtain ⟨_, _, _, q⟩ := hs
    exact False.elim q
end
/-! ### what stays while tables grow -/
mutual
theorem Da.extN {N : Addr → Prop} {H H' : Hp} (k : ExtN H H') : ∀ (d : PyData) (v : V), Da N H v d → Da N H' v d
  | .none, _, h => by cases h; exact .non
  | .bool b, _, h => by cases h; exact .bl b
  | .int i, _, h => by cases h; exact .int i
  | .str x, _, h => by cases h; exact .str x
  | .list ds, _, h => by
    cases h with
    | lst e n ha => exact .lst (k _ _ e (fun _ z => nomatch z)) n (DaAll.extN k ds _ ha)
  | .tuple ds, _, h => by
    cases h with
    | tup e n ha => exact .tup (k _ _ e (fun _ z => nomatch z)) n (DaAll.extN k ds _ ha)
  | .dict ds, _, h => by
    cases h with
    | dct e n h1 h2 => exact .dct (k _ _ e (fun _ z => nomatch z)) n (DaAll.extNK k ds _ h1) (DaAll.extNV k ds _ h2)
theorem DaAll.extN {N : Addr → Prop} {H H' : Hp} (k : ExtN H H') : ∀ (ds : List PyData) (vs : List V), DaAll N H vs ds → DaAll N H' vs ds
  | [], _, h => by cases h; exact .nil
  | d :: ds, _, h => by
    cases h with
    | cons h1 h2 => exact .cons (Da.extN k d _ h1) (DaAll.extN k ds _ h2)
theorem DaAll.extNK {N : Addr → Prop} {H H' : Hp} (k : ExtN H H') : ∀ (ds : List (PyData × PyData)) (vs : List V), DaAll N H vs (ds.map (·.1)) → DaAll N H' vs (ds.map (·.1))
  | [], _, h => by cases h; exact .nil
  | (a, b) :: ds, _, h => by
    cases h with
    | cons h1 h2 => exact .cons (Da.extN k a _ h1) (DaAll.extNK k ds _ h2)
theorem DaAll.extNV {N : Addr → Prop} {H H' : Hp} (k : ExtN H H') : ∀ (ds : List (PyData × PyData)) (vs : List V), DaAll N H vs (ds.map (·.2)) → DaAll N H' vs (ds.map (·.2))
  | [], _, h => by cases h; exact .nil
  | (a, b) :: ds, _, h => by
    cases h with
    | cons h1 h2 => exact .cons (Da.extN k b _ h1) (DaAll.extNV k ds _ h2)
end
theorem KT.extN {H H' : Hp} (k : ExtN H H') : KT H H' := fun b ys e => k b _ e fun _ z => nomatch z
theorem ExtN.seq {K : PySem.W.Frag} {H H' : Hp} {a : Addr} {xs : List V} (k : ExtN H H') (h : SqL K H a xs) : SqL K H' a xs := by
  rcases h with (h | ⟨o, h⟩) | h
  · exact .inl (.inl (k _ _ h fun _ z => nomatch z))
  · exact .inl (.inr ⟨o, k _ _ h fun _ z => nomatch z⟩)
  · exact .inr h
theorem Tabs.kp {T : List (Addr × Str)} {H H' : Hp} {pn : Addr} {xs : List V} (t : Tabs T H) (e : H pn = some (.lst xs)) (k : Kp (· = pn) H H') : Tabs T H' := fun p hp => by
  obtain ⟨ps, h1, h2, h3⟩ := t p hp
  refine ⟨ps, k _ _ h1 fun z => ?_, h2, fun pos cv hc => ?_⟩
  · rw [z, e] at h1
    cases h1
  · obtain ⟨c, e1, e2⟩ := h3 pos cv hc
    refine ⟨c, e1, k _ _ e2 fun z => ?_⟩
    rw [z, e] at e2
    unfold CodeO at e2
    cases e2
end HX

set_option maxRecDepth 100000
set_option maxHeartbeats 2000000
namespace HX
open PySem PySem.Spec PyProof.Rows L2 L2H LamX
/-! ### the classes of errors by their names -/
structure Cls21 (mg : Str → Option Value) (C : Nat → Addr) : Prop where
  NoBoard : mg "NoBoard" = some (.ref (C 0))
  NoStand : mg "NoStand" = some (.ref (C 1))
  NoMoment : mg "NoMoment" = some (.ref (C 2))
  NoWheel : mg "NoWheel" = some (.ref (C 3))
  NotNow : mg "NotNow" = some (.ref (C 4))
  NoRow : mg "NoRow" = some (.ref (C 5))
  NoDrain : mg "NoDrain" = some (.ref (C 6))
  NoDrops : mg "NoDrops" = some (.ref (C 7))
  NoAgain : mg "NoAgain" = some (.ref (C 8))
  NoNumber : mg "NoNumber" = some (.ref (C 9))
  NoLinks : mg "NoLinks" = some (.ref (C 10))
  NoMouths : mg "NoMouths" = some (.ref (C 11))
  NoWord : mg "NoWord" = some (.ref (C 12))
  NotAlike : mg "NotAlike" = some (.ref (C 13))
  NoFault : mg "NoFault" = some (.ref (C 14))
  NoSeen : mg "NoSeen" = some (.ref (C 15))
  NoHands : mg "NoHands" = some (.ref (C 16))
  NoDeed : mg "NoDeed" = some (.ref (C 17))
  NoLine : mg "NoLine" = some (.ref (C 18))
  NoText : mg "NoText" = some (.ref (C 19))
  TooMany : mg "TooMany" = some (.ref (C 20))
/-- of which of them an error of class D is one -/
structure EF (K : PySem.W.Frag) (C : Nat → Addr) (D : Addr) (i : Nat) : Prop where
  ec : ExcC K D
  ve : PySem.W.kitOne K (.ref D) (.type "ValueError") = some true
  is : ∀ j, j < 21 → PySem.W.kitOne K (.ref D) (.ref (C j)) = some (decide (j = i))
structure Bi4 (mg : Str → Option Value) : Prop where
  ValueError : mg "ValueError" = none
def words21 : List V := [.str "board", .str "stand", .str "moment", .str "wheel", .str "now", .str "row", .str "drain", .str "drops", .str "again", .str "number", .str "links", .str "mouths", .str "word", .str "alike", .str "fault", .str "seen", .str "hands", .str "deed", .str "line", .str "text", .str "many"]
def wordAt : Nat → Str
  | 0 => "board" | 1 => "stand" | 2 => "moment" | 3 => "wheel" | 4 => "now" | 5 => "row" | 6 => "drain" | 7 => "drops" | 8 => "again" | 9 => "number" | 10 => "links" | 11 => "mouths" | 12 => "word" | 13 => "alike" | 14 => "fault" | 15 => "seen" | 16 => "hands" | 17 => "deed" | 18 => "line" | 19 => "text" | _ => "many"
def marks (i : Nat) : List V := (List.range 21).map fun j => V.bl (decide (j = i))
theorem marks_flat (i : Nat) : (marks i).all flatV = true := by
  rw [List.all_eq_true]
  intro v hv
  obtain ⟨j, _, rfl⟩ := List.mem_map.mp hv
  rfl
theorem marks_one : ∀ i, i < 21 → (marks i).countP (fun z => eqV z (.bl true)) = 1 := by decide +kernel
theorem marks_at {i : Nat} (h : i < 21) : (marks i)[i]? = some (.bl true) := by
  unfold marks
  rw [List.getElem?_map, List.getElem?_range h]
  show some (V.bl (decide (i = i))) = _
  rw [decide_eq_true rfl]
theorem marks_no {i m : Nat} {z : V} (h : m < i) (e : (marks i)[m]? = some z) : eqV z (.bl true) = false := by
  unfold marks at e
  rw [List.getElem?_map] at e
  cases q : (List.range 21)[m]? with
  | none => rw [q] at e; cases e
  | some j =>
    rw [q] at e
    cases e
    have : j = m := by
      have := List.getElem?_eq_some_iff.mp q
      obtain ⟨h1, h2⟩ := this
      rw [List.getElem_range] at h2
      omega
    subst this
    have : decide (j = i) = false := decide_eq_false (by omega)
    show eqV (.bl (decide (j = i))) (.bl true) = false
    rw [this]
    rfl
theorem words_at : ∀ i, i < 21 → words21[i]? = some (.str (wordAt i)) := by
  intro i h
  match i, h with
  | 0, _ | 1, _ | 2, _ | 3, _ | 4, _ | 5, _ | 6, _ | 7, _ | 8, _ | 9, _ | 10, _ | 11, _ | 12, _ | 13, _ | 14, _ | 15, _ | 16, _ | 17, _ | 18, _ | 19, _ | 20, _ => rfl
  | n + 21, h => omega
theorem word_ne : ∀ i, i < 19 → wordAt i ≠ "many" ∧ wordAt i ≠ "text" := by
  intro i h
  match i, h with
  | 0, _ | 1, _ | 2, _ | 3, _ | 4, _ | 5, _ | 6, _ | 7, _ | 8, _ | 9, _ | 10, _ | 11, _ | 12, _ | 13, _ | 14, _ | 15, _ | 16, _ | 17, _ | 18, _ => exact ⟨by decide, by decide⟩
  | n + 19, h => omega
/-- the tuple of one word -/
def spWord (K : PySem.W.Frag) (C : Nat → Addr) (a : Addr) (cls : Value) (d : Option Addr) (H : Hp) (Q : VK) : Prop :=
  ∃ (D : Addr) (i : Nat), cls = .ref D ∧ d = none ∧ i < 19 ∧ EF K C D i ∧ ∀ p H', Same H H' → H' p = some (.tup [.str (wordAt i)]) → Q (.ref p) H'
def lamQ (x : Str) : Str := x ++ ".<locals>." ++ "<lambda>"
theorem qual_cx {CX : CXT} {P : Program} {w : World} {K : PySem.W.Frag} {mg : Str → Option Value} {base : Heap} {N : List Str} {q : Str} {sc : Scope} {f : Addr} {cd : Value} {A : Around} {outer : List Env} {s : Shared} {H : Hp} {E : XK} : (cxOf CX P w K mg base N q sc f cd A outer s H E).nox.env.qual ++ "<lambda>" = lamQ q := rfl
/-! ### the end's facts, one after the other -/
theorem tab_in {K : PySem.W.Frag} {x : Str} {f c T : Addr} {fd : FuncData} {oc e : Value} {od dd : Option Addr} {sl sl' : Array (Option Value)} {vs : Array Value} (a : PySem.W.nsIn K mainGlobals x = some (some (.ref f))) (l : K.lookup f = some ⟨oc, od, .func fd, sl⟩) (hc : fd.code = .ref c) (lc : K.lookup c = some ⟨e, dd, .fields vs, sl'⟩) (hv : vs[11]? = some (.ref T)) : PySem.W.tabIn K x = some (c, T) := by
  unfold PySem.W.tabIn
  rw [a]
  dsimp only
  rw [l]
  dsimp only
  rw [hc]
  dsimp only
  rw [lc]
  dsimp only
  rw [hv]
theorem law_cut {G0 : Prop} {K : PySem.W.Frag} {mg : Str → Option Value} {h : Heap} {q : Program} {x : Str} {st : Stmt} {ps : List Str} {f c T : Addr} {od an dd : Option Addr} {sl sl' : Array (Option Value)} {oc kV dc pm ct e : Value} {vs : Array Value} {rec : DefRec} (X : K.In h) (G : h.Ns mainGlobals mg)
    (tabs : ∀ (y : Str) (e : DefRec) (c T : Addr), (recsOf q).find? (fun e => e.name == y) = some e → PySem.W.tabIn K y = some (c, T) → PySem.W.CodeHd h c T ∧ h.get? T = some { cls := .none, data := .fields #[] })
    (a : PySem.W.nsIn K mainGlobals x = some (some (.ref f))) (l : K.lookup f = some ⟨oc, od, .func (PySem.W.fnOf x x (defArgs st) (defBody st) (defScope st) .none kV dc pm an (.ref c) ct), sl⟩) (cc : PySem.W.codeIn K (.ref c) x = true) (k : PySem.W.keepIn K (.ref f) = true)
    (hb : ∀ (kV doc pm : Value) (an : Option Addr) (cdv ct : Value) (us : List Value), us.length = ps.length → bindArgs (PySem.W.fnOf x x (defArgs st) (defBody st) (defScope st) .none kV doc pm an cdv ct) ⟨us, []⟩ = pure (ps.zip us))
    (lc : K.lookup c = some ⟨e, dd, .fields vs, sl'⟩) (hv : vs[11]? = some (.ref T)) (nT : K.lookup T = none) (r : (recsOf q).find? (fun e => e.name == x) = some rec)
    (z : ∀ (f : Addr) (fd : FuncData), Fun K x x st f fd → mg x = some (.ref f) → Binds K fd ps [] → fd.code = .ref c → K.lookup T = none → PySem.W.CodeHd h c T → h.get? T = some { cls := .none, data := .fields #[] } → G0) : G0 := by
  have t := tab_in a l rfl lc hv
  obtain ⟨h1, h2⟩ := tabs x rec c T r t
  exact z f _ (fun_mk l cc k) (PySem.W.mg_of X G a) ((fun_mk l cc k).binds hb) rfl nT h1 h2
theorem cls_cut {G0 : Prop} {K : PySem.W.Frag} {mg : Str → Option Value} {h : Heap} {c0 c1 c2 c3 c4 c5 c6 c7 c8 c9 c10 c11 c12 c13 c14 c15 c16 c17 c18 c19 c20 cM : Addr} (X : K.In h) (G : h.Ns mainGlobals mg)
    (a0 : PySem.W.nsIn K mainGlobals "NoBoard" = some (some (.ref c0))) (a1 : PySem.W.nsIn K mainGlobals "NoStand" = some (some (.ref c1))) (a2 : PySem.W.nsIn K mainGlobals "NoMoment" = some (some (.ref c2))) (a3 : PySem.W.nsIn K mainGlobals "NoWheel" = some (some (.ref c3)))
    (a4 : PySem.W.nsIn K mainGlobals "NotNow" = some (some (.ref c4))) (a5 : PySem.W.nsIn K mainGlobals "NoRow" = some (some (.ref c5))) (a6 : PySem.W.nsIn K mainGlobals "NoDrain" = some (some (.ref c6))) (a7 : PySem.W.nsIn K mainGlobals "NoDrops" = some (some (.ref c7)))
    (a8 : PySem.W.nsIn K mainGlobals "NoAgain" = some (some (.ref c8))) (a9 : PySem.W.nsIn K mainGlobals "NoNumber" = some (some (.ref c9))) (a10 : PySem.W.nsIn K mainGlobals "NoLinks" = some (some (.ref c10))) (a11 : PySem.W.nsIn K mainGlobals "NoMouths" = some (some (.ref c11)))
    (a12 : PySem.W.nsIn K mainGlobals "NoWord" = some (some (.ref c12))) (a13 : PySem.W.nsIn K mainGlobals "NotAlike" = some (some (.ref c13))) (a14 : PySem.W.nsIn K mainGlobals "NoFault" = some (some (.ref c14))) (a15 : PySem.W.nsIn K mainGlobals "NoSeen" = some (some (.ref c15)))
    (a16 : PySem.W.nsIn K mainGlobals "NoHands" = some (some (.ref c16))) (a17 : PySem.W.nsIn K mainGlobals "NoDeed" = some (some (.ref c17))) (a18 : PySem.W.nsIn K mainGlobals "NoLine" = some (some (.ref c18))) (a19 : PySem.W.nsIn K mainGlobals "NoText" = some (some (.ref c19)))
    (a20 : PySem.W.nsIn K mainGlobals "TooMany" = some (some (.ref c20))) (aM : PySem.W.nsIn K mainGlobals "MarbleError" = some (some (.ref cM)))
    (z : Cls21 mg (fun j => [c0, c1, c2, c3, c4, c5, c6, c7, c8, c9, c10, c11, c12, c13, c14, c15, c16, c17, c18, c19, c20].getD j 0) → mg "NoBoard" = some (.ref c0) → mg "NoStand" = some (.ref c1) → mg "NoMoment" = some (.ref c2) → mg "NoWheel" = some (.ref c3) → mg "NotNow" = some (.ref c4) → mg "NoRow" = some (.ref c5) → mg "NoDrain" = some (.ref c6) → mg "NoDrops" = some (.ref c7) → mg "NoAgain" = some (.ref c8) → mg "NoNumber" = some (.ref c9) → mg "NoLinks" = some (.ref c10) → mg "NoMouths" = some (.ref c11) → mg "NoWord" = some (.ref c12) → mg "NotAlike" = some (.ref c13) → mg "NoFault" = some (.ref c14) → mg "NoSeen" = some (.ref c15) → mg "NoHands" = some (.ref c16) → mg "NoDeed" = some (.ref c17) → mg "NoLine" = some (.ref c18) → mg "NoText" = some (.ref c19) → mg "TooMany" = some (.ref c20) → mg "MarbleError" = some (.ref cM) → G0) : G0 :=
  z ⟨PySem.W.mg_of X G a0, PySem.W.mg_of X G a1, PySem.W.mg_of X G a2, PySem.W.mg_of X G a3, PySem.W.mg_of X G a4, PySem.W.mg_of X G a5, PySem.W.mg_of X G a6, PySem.W.mg_of X G a7, PySem.W.mg_of X G a8, PySem.W.mg_of X G a9, PySem.W.mg_of X G a10, PySem.W.mg_of X G a11, PySem.W.mg_of X G a12, PySem.W.mg_of X G a13, PySem.W.mg_of X G a14, PySem.W.mg_of X G a15, PySem.W.mg_of X G a16, PySem.W.mg_of X G a17, PySem.W.mg_of X G a18, PySem.W.mg_of X G a19, PySem.W.mg_of X G a20⟩ (PySem.W.mg_of X G a0) (PySem.W.mg_of X G a1) (PySem.W.mg_of X G a2) (PySem.W.mg_of X G a3) (PySem.W.mg_of X G a4) (PySem.W.mg_of X G a5) (PySem.W.mg_of X G a6) (PySem.W.mg_of X G a7) (PySem.W.mg_of X G a8) (PySem.W.mg_of X G a9) (PySem.W.mg_of X G a10) (PySem.W.mg_of X G a11) (PySem.W.mg_of X G a12) (PySem.W.mg_of X G a13) (PySem.W.mg_of X G a14) (PySem.W.mg_of X G a15) (PySem.W.mg_of X G a16) (PySem.W.mg_of X G a17) (PySem.W.mg_of X G a18) (PySem.W.mg_of X G a19) (PySem.W.mg_of X G a20) (PySem.W.mg_of X G aM)
/-- what is known of the class at place i of them, its address d -/
theorem err_cut {G0 : Prop} {K : PySem.W.Frag} {h : Heap} {mg : Str → Option Value} {x : Str} {c0 c1 c2 c3 c4 c5 c6 c7 c8 c9 c10 c11 c12 c13 c14 c15 c16 c17 c18 c19 c20 cM d : Addr} (X : K.In h) (i : Nat)
    (h0 : mg "NoBoard" = some (.ref c0)) (h1 : mg "NoStand" = some (.ref c1)) (h2 : mg "NoMoment" = some (.ref c2)) (h3 : mg "NoWheel" = some (.ref c3)) (h4 : mg "NotNow" = some (.ref c4)) (h5 : mg "NoRow" = some (.ref c5)) (h6 : mg "NoDrain" = some (.ref c6)) (h7 : mg "NoDrops" = some (.ref c7)) (h8 : mg "NoAgain" = some (.ref c8)) (h9 : mg "NoNumber" = some (.ref c9)) (h10 : mg "NoLinks" = some (.ref c10)) (h11 : mg "NoMouths" = some (.ref c11)) (h12 : mg "NoWord" = some (.ref c12)) (h13 : mg "NotAlike" = some (.ref c13)) (h14 : mg "NoFault" = some (.ref c14)) (h15 : mg "NoSeen" = some (.ref c15)) (h16 : mg "NoHands" = some (.ref c16)) (h17 : mg "NoDeed" = some (.ref c17)) (h18 : mg "NoLine" = some (.ref c18)) (h19 : mg "NoText" = some (.ref c19)) (h20 : mg "TooMany" = some (.ref c20)) (hM : mg "MarbleError" = some (.ref cM)) (g : mg x = some (.ref d))
    (kC : PySem.W.keepIn K (.ref d) = true) (ex : PySem.W.excIn K d veTail "ValueError.__new__" = true) (sb : PySem.W.subIn K (.ref d) (.type "BaseException") = some true) (ty : PySem.W.typeIn K (.ref d) = some (.type "type"))
    (e1 : PySem.W.findIn K (.ref d) "__getattribute__" = some (some (.builtin "BaseException.__getattribute__"))) (e2 : PySem.W.findIn K (.ref d) "__getattr__" = some none) (e3 : PySem.W.hasDictIn K d = true) (e4 : PySem.W.findIn K (.ref d) "__class__" = some (some (.builtin "object.__class__")))
    (e5 : PySem.W.specialIn K (.builtin "object.__class__") "__get__" = some (some (.builtin "getset_descriptor.__get__"))) (e6 : PySem.W.takesIn K (.builtin "object.__class__") = some true) (e7 : PySem.W.mroIn K d (.type "object") = some true) (ve : PySem.W.kitOne K (.ref d) (.type "ValueError") = some true) (xm : PySem.W.exmOne K (.ref d) (.ref cM) = some true)
    (k0 : PySem.W.kitOne K (.ref d) (.ref c0) = some (decide (0 = i))) (k1 : PySem.W.kitOne K (.ref d) (.ref c1) = some (decide (1 = i))) (k2 : PySem.W.kitOne K (.ref d) (.ref c2) = some (decide (2 = i))) (k3 : PySem.W.kitOne K (.ref d) (.ref c3) = some (decide (3 = i))) (k4 : PySem.W.kitOne K (.ref d) (.ref c4) = some (decide (4 = i))) (k5 : PySem.W.kitOne K (.ref d) (.ref c5) = some (decide (5 = i))) (k6 : PySem.W.kitOne K (.ref d) (.ref c6) = some (decide (6 = i))) (k7 : PySem.W.kitOne K (.ref d) (.ref c7) = some (decide (7 = i))) (k8 : PySem.W.kitOne K (.ref d) (.ref c8) = some (decide (8 = i))) (k9 : PySem.W.kitOne K (.ref d) (.ref c9) = some (decide (9 = i))) (k10 : PySem.W.kitOne K (.ref d) (.ref c10) = some (decide (10 = i))) (k11 : PySem.W.kitOne K (.ref d) (.ref c11) = some (decide (11 = i))) (k12 : PySem.W.kitOne K (.ref d) (.ref c12) = some (decide (12 = i))) (k13 : PySem.W.kitOne K (.ref d) (.ref c13) = some (decide (13 = i))) (k14 : PySem.W.kitOne K (.ref d) (.ref c14) = some (decide (14 = i))) (k15 : PySem.W.kitOne K (.ref d) (.ref c15) = some (decide (15 = i))) (k16 : PySem.W.kitOne K (.ref d) (.ref c16) = some (decide (16 = i))) (k17 : PySem.W.kitOne K (.ref d) (.ref c17) = some (decide (17 = i))) (k18 : PySem.W.kitOne K (.ref d) (.ref c18) = some (decide (18 = i))) (k19 : PySem.W.kitOne K (.ref d) (.ref c19) = some (decide (19 = i))) (k20 : PySem.W.kitOne K (.ref d) (.ref c20) = some (decide (20 = i)))
    (z : Err K mg x d → EF K (fun j => [c0, c1, c2, c3, c4, c5, c6, c7, c8, c9, c10, c11, c12, c13, c14, c15, c16, c17, c18, c19, c20].getD j 0) d i → PySem.W.exmOne K (.ref d) (.ref cM) = some true → G0) : G0 := by
  refine z ⟨g, kC, ex, sb, ty⟩ ⟨⟨e1, e2, sb, e3, e4, e5, e6, e7⟩, ve, fun j hj => ?_⟩ xm
  match j, hj with
  | 0, _ => exact k0
  | 1, _ => exact k1
  | 2, _ => exact k2
  | 3, _ => exact k3
  | 4, _ => exact k4
  | 5, _ => exact k5
  | 6, _ => exact k6
  | 7, _ => exact k7
  | 8, _ => exact k8
  | 9, _ => exact k9
  | 10, _ => exact k10
  | 11, _ => exact k11
  | 12, _ => exact k12
  | 13, _ => exact k13
  | 14, _ => exact k14
  | 15, _ => exact k15
  | 16, _ => exact k16
  | 17, _ => exact k17
  | 18, _ => exact k18
  | 19, _ => exact k19
  | 20, _ => exact k20
  | n + 21, h => omega
theorem pss_nev {X : Cx} {ss : List Stmt} : PSs X ss (fun _ _ _ => False) := ⟨fun _ _ _ _ _ _ h => h.elim⟩
end HX

set_option maxRecDepth 100000
set_option maxHeartbeats 2000000
namespace HX
open PySem PySem.Spec PyProof.Rows L2
/-! ### tuples known to the last: cut, put together, turned about, written -/
section
variable {X : Cx}
theorem laidF {pins : List (Addr × Obj)} {σ : L2.St} {H : Hp} {s : Shared} {ys : List V} {its : List Value} {Q : VK} (I : Inv X pins σ H s) (hz : ys.length ≤ sizeLine) (r : Vals ys its) (q : ∀ p o, H p = none → o.dict = none → Q (.ref p) (upd H p (.frz o (.tup ys)))) :
    EP X pins σ Q (.ref s.heap.objs.size) { s with heap := s.heap.push { cls := .type "tuple", data := .seq its.toArray } } := by
  have I2 : Inv X pins σ (upd H s.heap.objs.size (.frz { cls := .type "tuple", data := .seq its.toArray } (.tup ys))) { s with heap := s.heap.push { cls := .type "tuple", data := .seq its.toArray } } :=
    I.laid (t' := s.toks) (fun b o e => Heap.get?_push_of_some _ e) (Nat.le_refl _) (show ObjOk X.prog X.w _ _ _ (.frz _ (.tup ys)) from ⟨Heap.get?_push_size _ rfl, hz, its, r, IsTup.new _ _⟩)
  exact ⟨.ref s.heap.objs.size, _, I2, rfl, q _ _ (I.hok.fresh (Nat.le_refl _)) rfl⟩
def rSlF (K : PySem.W.Frag) : V → Option Int → Option Int → Hp → VK → Prop := fun x lo hi H Q => ∃ a xs, x = .ref a ∧ SqT K H a xs ∧ (HT.sIx xs.length 0 lo = 0 ∧ HT.sIx xs.length xs.length hi = xs.length → Q (.ref a) H) ∧
  (¬ (HT.sIx xs.length 0 lo = 0 ∧ HT.sIx xs.length xs.length hi = xs.length) → ∀ p o, H p = none → o.dict = none → Q (.ref p) (upd H p (.frz o (.tup (cutV xs lo hi)))))
theorem sl_tupF : SlR X (rSlF X.K) := by
  intro pins s σ H x v vl vu lo hi sl Q I rx hs pl pu h
  obtain ⟨a, xs, rfl, hx, q1, q2⟩ := h
  cases rx
  obtain ⟨its, r, ht, hz⟩ := I.tuple hx
  have hn : its.toArray.size = xs.length := by rw [List.size_toArray]; exact r.length.symm
  refine ⟨"tuple", _, PyProof.Rows.slot_tuple_getitem.lookup, ht.typeIs, ?_⟩
  by_cases hw : HT.sIx xs.length 0 lo = 0 ∧ HT.sIx xs.length xs.length hi = xs.length
  · exact getItem_tuple_whole ht hs pl pu (by rw [hn]; exact hw) ⟨.ref a, H, I, rfl, q1 hw⟩
  · refine HT.getItem_tuple_cut ht hs pl pu (by rw [hn]; exact hw) ?_ (by rw [hn]; exact hz)
    rw [hn]
    exact laidF I (Nat.le_trans (cutV_length xs lo hi) hz) ((r.drop (HT.sIx xs.length 0 lo)).take (HT.sIx xs.length xs.length hi - HT.sIx xs.length 0 lo)) (q2 hw)
def rCatF (K : PySem.W.Frag) : R2 := fun x y H Q => ∃ a b xs ys, x = .ref a ∧ y = .ref b ∧ SqT K H a xs ∧ SqT K H b ys ∧ xs.length + ys.length ≤ sizeLine ∧
  (xs = [] → Q (.ref b) H) ∧ (xs ≠ [] → ys = [] → Q (.ref a) H) ∧ (xs ≠ [] → ys ≠ [] → ∀ p o, H p = none → o.dict = none → Q (.ref p) (upd H p (.frz o (.tup (xs ++ ys)))))
theorem op_catF : OpR X (binaryOp .Add) (rCatF X.K) := by
  intro pins s σ H x y v u Q I rx ry h
  obtain ⟨a, b, xs, ys, rfl, rfl, ha, hb, hz, q0, q1, q2⟩ := h
  cases rx
  cases ry
  obtain ⟨i1, r1, p1, _⟩ := I.tuple ha
  obtain ⟨i2, r2, p2, _⟩ := I.tuple hb
  by_cases hx : xs = []
  · subst hx
    cases r1
    exact cat_tup0 p1 p2 ⟨.ref b, H, I, rfl, q0 rfl⟩
  · refine HT.cat_tup p1 p2 (fun z => hx (r1.nil_iff.mp z)) (fun z => ⟨.ref a, H, I, rfl, q1 hx (r2.nil_iff.mp z)⟩) (fun z => ?_) (by rw [← r1.length, ← r2.length]; exact hz)
    exact laidF I (by rw [List.length_append]; exact hz) (r1.append r2) (q2 hx (fun w => z (r2.nil_iff.mpr w)))
def tTupF (t : TA) : TE := fun σ H Q => t σ H fun xs H1 => xs.length ≤ sizeLine ∧ ∀ p o, H1 p = none → o.dict = none → Q (.ref p) (upd H1 p (.frz o (.tup xs)))
theorem pe_tupF {es : List Expr} {t : TA} {x1} {pos : Pos} (h : PA X es t) : PE X (.Tuple es x1 pos) (tTupF t) := by
  refine ⟨fun pins s σ H Q I hq => ?_⟩
  refine wpAny_Tuple_spliced (thn (h.run pos pins s σ H _ I hq) fun us s1 ⟨xs, H1, I1, r, z, q⟩ => ⟨by rw [← r.length]; exact z, ?_⟩)
  exact laidF I1 z r q
def tRevF (K : PySem.W.Frag) (te : TE) : TE := fun σ H Q => te σ H fun x H1 => ∃ a xs, x = .ref a ∧ SqT K H1 a xs ∧ ∀ p o, H1 p = none → o.dict = none → Q (.ref p) (upd H1 p (.frz o (.tup xs.reverse)))
theorem pe_revF {e : Expr} {te : TE} {k : Nat} {p1 p2 p3 pos : Pos} (he : PE X e te) : PE X (.Subscript e (.Slice none none (some (.UnaryOp .USub (.Constant (.int 1) k p1) p2)) p3) pos) (tRevF X.K te) := by
  refine ⟨fun pins s σ H Q I h => ?_⟩
  refine Subscript_ (thn (he.run pins s σ H _ I h) fun v s1 ⟨x, H1, I1, r1, q1⟩ => ?_)
  obtain ⟨a, xs, ex, hx, q⟩ := q1
  subst ex
  cases r1
  have hst : PO X (some (.UnaryOp .USub (.Constant (.int 1) k p1) p2)) (tPart (tUn (rU fun i => .int (-i)) (tC (.int 1)))) := po_some (pe_un un_neg pe_int)
  refine wpAny_Slice (thn (po_none.run pins s1 σ H1 (fun o H2 => o = none ∧ H2 = H1) I1 ⟨rfl, rfl⟩) fun vl s2 ⟨l, H2, I2, pl, el, e2⟩ => ?_)
  subst el e2
  refine thn (po_none.run pins s2 σ H2 (fun o H3 => o = none ∧ H3 = H2) I2 ⟨rfl, rfl⟩) fun vu s3 ⟨u, H3, I3, pu, eu, e3⟩ => ?_
  subst eu e3
  refine thn (hst.run pins s3 σ H3 (fun o H4 => o = some (-1) ∧ H4 = H3) I3 ⟨1, rfl, -1, rfl, rfl, rfl⟩) fun vs s4 ⟨o, H4, I4, ps, eo, e4⟩ => ?_
  subst eo e4
  have I5 : Inv X pins σ H4 { s4 with heap := s4.heap.push { cls := .type "slice", data := .fields #[vl, vu, vs] } } := I4.kept (t' := s4.toks) fun b ob q => Heap.get?_push_of_some _ q
  obtain ⟨its, r, ht, hz⟩ := I5.tuple hx
  have hlen := r.length
  show wpAny (model X.prog X.w) X.A (subscriptTail e (.Slice none none (some (.UnaryOp .USub (.Constant (.int 1) k p1) p2)) p3) (.ref a) (.ref s4.heap.objs.size)) (EP X pins σ Q) X.xe { s4 with heap := s4.heap.push { cls := .type "slice", data := .fields #[vl, vu, vs] } }
  refine tail_any (ops := [.ref a, .ref s4.heap.objs.size]) ht.typeIs (PyProof.Rows.slot_tuple_getitem.lookup) ?_ (by with_unfolding_all rfl)
  refine getItem_tuple_rev ht (Heap.IsSliceOf.new _ vl vu vs) pl pu ps ?_ (by omega)
  exact laidF I5 (by rw [List.length_reverse]; exact hz) r.reverse q
end
/-! rows by these -/
theorem rowV_inj : ∀ (a b : List Nat), rowV a = rowV b → a = b
  | [], [], _ => rfl
  | [], _ :: _, h => by cases h
  | _ :: _, [], h => by cases h
  | x :: a, y :: b, h => by
    have h1 : V.int (x : Int) = V.int (y : Int) := (List.cons.inj h).1
    have h2 := V.int.inj h1
    rw [show x = y by omega, rowV_inj a b (List.cons.inj h).2]
theorem rowV_app (a b : List Nat) : rowV (a ++ b) = rowV a ++ rowV b := by
  unfold rowV
  rw [List.map_append]
theorem RowF.sq {K : PySem.W.Frag} {H : Hp} {r : Addr} {row : List Nat} (h : RowF H r row) : SqT K H r (rowV row) := RowAt.sq (.inr h)
theorem rd_sliceF {K : PySem.W.Frag} {H : Hp} {Q : VK} {r : Addr} {row : List Nat} {lo hi : Option Int} {row' : List Nat} (hx : RowF H r row) (hc : cutV (rowV row) lo hi = rowV row') (q : ∀ p H', Same H H' → RowF H' p row' → Q (.ref p) H') : rSlF K (.ref r) lo hi H Q := by
  refine ⟨r, rowV row, rfl, hx.sq, fun h => q r H (Same.refl H) ?_, fun _ p o hp od => q p _ (Same.new hp) ⟨o, od, by rw [upd_same, hc]⟩⟩
  have : rowV row' = rowV row := by
    rw [← hc]
    unfold cutV
    rw [h.1, h.2, List.drop_zero, Nat.sub_zero, List.take_length]
  rw [rowV_inj _ _ this]
  exact hx
theorem rd_catF {K : PySem.W.Frag} {H : Hp} {Q : VK} {a b : Addr} {xs ys : List Nat} (hx : RowF H a xs) (hy : RowF H b ys) (hz : xs.length + ys.length ≤ 1000) (q : ∀ p H', Same H H' → RowF H' p (xs ++ ys) → Q (.ref p) H') : rCatF K (.ref a) (.ref b) H Q := by
  have ln : ∀ l : List Nat, (rowV l).length = l.length := fun l => List.length_map ..
  refine ⟨a, b, rowV xs, rowV ys, rfl, rfl, hx.sq, hy.sq, by rw [ln, ln]; exact Nat.le_of_lt (small1000 hz), fun e => q b H (Same.refl H) ?_, fun _ e => q a H (Same.refl H) ?_, fun _ _ p o hp od => q p _ (Same.new hp) ⟨o, od, by rw [upd_same, rowV_app]⟩⟩
  · rw [rowV_inj xs [] e]
    exact hy
  · rw [rowV_inj ys [] e, List.append_nil]
    exact hx
end HX

set_option maxRecDepth 100000
set_option maxHeartbeats 2000000
namespace HX
open PySem PySem.Spec PyProof.Rows L2 L2H LamX
/-! ### repr(x), x of numbers, truths, texts, lists and tuples, whichever way known -/
def rReprP (K : PySem.W.Frag) : List V → Hp → VK → Prop := fun xs H Q => ∃ (v : V) (d : PyData), xs = [v] ∧ Dp K H v d ∧ d.hasDict = false ∧ Gd 16000000 100 d ∧ Q (.str d.shown) H
theorem call_reprP {X : Cx} (en : EntX X) (hu : X.A.units + 150 < cLine) : CallR X (.builtin "repr") (rReprP X.K) := by
  intro pins s σ H xs us Q I r h
  obtain ⟨v, d, rfl, hd, nd, hg, q⟩ := h
  obtain ⟨u, rfl, rv⟩ := vals1 r
  obtain ⟨as, hr⟩ := Dp.reads I d v u hd rv
  obtain ⟨z1, z2⟩ := shown_le (by decide) d hg.iw
  have hs : d.shown.length ≤ sizeLine := Nat.le_trans z1 (Nat.le_trans hg.wn (by decide))
  have hsm : d.hasDict = true → sysModules ∉ as := fun z => by rw [nd] at z; cases z
  have hdp := hg.dp
  cases hr with
  | none => exact PySem.P.repr_of_none ⟨.str _, H, I.tok _, ⟨_, rfl⟩, by simpa only [PyData.shown] using q⟩
  | bool b => exact PySem.P.repr_of_bool ⟨.str _, H, I.tok _, ⟨_, rfl⟩, by simpa only [PyData.shown] using q⟩
  | int i t => exact PySem.P.repr_of_int (by simpa [PyData.showable] using z2) ⟨.str _, H, I.tok _, ⟨_, rfl⟩, by simpa only [PyData.shown] using q⟩
  | str x t => exact PySem.P.repr_of_str ⟨.str _, H, I.tok _, ⟨_, rfl⟩, by simpa only [PyData.shown] using q⟩ (by simpa only [PyData.shown] using hs)
  | list a1 a2 a3 a4 => exact repr_of_reads' (.list a1 a2 a3 a4) z2 hsm en.gu (by omega) (fun _ _ e => e) (fun h' u' tk k => ⟨.str _, H, I.kept (t' := tk) k, ⟨_, rfl⟩, q⟩) hs
  | tuple a1 a2 a3 a4 => exact repr_of_reads' (.tuple a1 a2 a3 a4) z2 hsm en.gu (by omega) (fun _ _ e => e) (fun h' u' tk k => ⟨.str _, H, I.kept (t' := tk) k, ⟨_, rfl⟩, q⟩) hs
  | dict a1 a2 a3 a4 a5 => exact repr_of_reads' (.dict a1 a2 a3 a4 a5) z2 hsm en.gu (by omega) (fun _ _ e => e) (fun h' u' tk k => ⟨.str _, H, I.kept (t' := tk) k, ⟨_, rfl⟩, q⟩) hs
/-! ### a def whose code object is known -/
def DefC (K : PySem.W.Frag) (mg : Str → Option Value) (x : Str) (st : Stmt) (ps : List Str) (c : Addr) : Prop := ∃ (f : Addr) (fd : FuncData), Fun K x x st f fd ∧ mg x = some (.ref f) ∧ Binds K fd ps [] ∧ fd.code = .ref c
theorem DefC.okG {P : Program} {w : World} {K : PySem.W.Frag} {mg : Str → Option Value} {base : Heap} {k : Nat} {x : Str} {ps : List Str} {sp : Sp} {st : Stmt} {N : List Str} {c : Addr} (D : DefC K mg x st ps c) (S : FnScope N ps (defScope st)) (len : ∀ vs H Q E, sp vs H Q E → vs.length = ps.length)
    (hbody : ∀ (f : Addr) (A : Around) (outer : List Env) (s : Shared) (H : Hp) (vs : List V) (Q : VK) (E : XK), Ent A s H → Room k (A.deeper (envOfC x (defScope st) s.heap.objs.size f (.ref c))) → sp vs H Q E →
      ∃ t, PSs (cxOf CX0 P w K mg base N x (defScope st) f (.ref c) A outer s H E).nox (defBody st) t ∧ t { nx := fun _ H' => Q .non H', rt := Q } (start N vs) H) : CalG P w K mg base (k + 1) x ps sp := by
  obtain ⟨f, fd, F, hm, hb, hc⟩ := D
  exact ⟨f, fd, Fun.okGC F hc S len (hbody f), hm, F.kp, hb⟩
/-! ### a comprehension within a comprehension -/
def relabelS (scope sc : Scope) : Scope := { scope with names := scope.names.map fun (n, k) => if (k == .free && sc.kind == .function && sc.names.lookup n == some .cell) then (n, .cell) else (n, k) }
/-! ### all but the pen and tables stays -/
def KX (pn : Addr) (H H' : Hp) : Prop := ∀ b o, H b = some o → b ≠ pn → (∀ ps, o ≠ .tbl ps) → H' b = some o
theorem KX.refl (pn : Addr) (H : Hp) : KX pn H H := fun _ _ h _ _ => h
theorem KX.trans {pn : Addr} {H H1 H2 : Hp} (a : KX pn H H1) (b : KX pn H1 H2) : KX pn H H2 := fun c o h n t => b c o (a c o h n t) n t
theorem KX.kp {pn : Addr} {H H1 : Hp} (a : Kp (· = pn) H H1) : KX pn H H1 := fun c o h n _ => a c o h n
theorem KX.ext {pn : Addr} {H H1 : Hp} (a : ExtN H H1) : KX pn H H1 := fun c o h _ t => a c o h t
theorem KX.seq {K : PySem.W.Frag} {pn : Addr} {H H' : Hp} {a : Addr} {xs : List V} (k : KX pn H H') (n : H pn = none) (h : SqL K H a xs) : SqL K H' a xs := by
  rcases h with (h | ⟨o, h⟩) | h
  · exact .inl (.inl (k _ _ h (ne_of_none h n) fun _ z => nomatch z))
  · exact .inl (.inr ⟨o, k _ _ h (ne_of_none h n) fun _ z => nomatch z⟩)
  · exact .inr h
theorem RowF.extN {H H' : Hp} {r : Addr} {row : List Nat} (h : RowF H r row) (k : ExtN H H') : RowF H' r row := by
  obtain ⟨o, d, e⟩ := h
  exact ⟨o, d, k _ _ e fun _ z => nomatch z⟩
end HX
namespace HX
open PySem PySem.Spec PyProof.Rows L2
theorem pi_tupK {X : Cx} {K : PySem.W.Frag} {tg e : Expr} {te : TE} (he : PE X e te) (hK : X.K = K := by rfl) : PI X tg e (iTup K te) := by
  subst hK
  exact pi_tup he
def lcScB : List Stmt → Scope
  | _ :: .Assign _ (.Call _ [.ListComp _ _ sc _] _ _) _ :: _ => sc
  | _ => ⟨.function, [], false, false, []⟩
end HX

set_option maxRecDepth 100000
set_option maxHeartbeats 1000000
/-! HX20: tuple * 1. -/
namespace HX
open PySem PySem.Spec PyProof.Rows L2
theorem tuple_mul1 (l : Addr) (items : Array Value) (n : Nat) (dd : Option Addr) (sl : Array (Option Value)) (u : Tok) :
    Meets (Builtin.«tuple.__mul__» ⟨[.ref l, .int 1 u], []⟩) (fun _ R s => s.heap.get? l = some { cls := .type "tuple", dict := dd, data := .seq items n, slots := sl } ∧ R (.ok (.ret (Value.ref l))) s) :=
  .of_wp fun prog w A R s h => by
    obtain ⟨hp, g, d, tk, os⟩ := s
    obtain ⟨hl, h⟩ := h
    have f1 := AutoSeq1.idx_int
    have c0 : (decide ((1 : Int) < -(2 ^ 63)) || decide ((1 : Int) ≥ 2 ^ 63)) = false := by decide
    have c1 : (items.isEmpty || (1 : Int) == 1) = true := by
      rw [show ((1 : Int) == 1) = true from rfl, Bool.or_true]
    wp_walk using wpAny_loadPart' hl
    repeat (first
      | (refine wpAny_ite_false (decide_eq_false (by rw [c0]; exact Bool.false_ne_true)) ?_; wp_walk using wpAny_loadPart' hl)
      | (refine wpAny_ite_true (decide_eq_true (by rw [c1])) ?_; wp_walk using wpAny_loadPart' hl)
      | (refine wpAny_ite_true (decide_eq_true rfl) ?_; wp_walk using wpAny_loadPart' hl))
    exact ⟨_, rfl, h⟩
/-- a tuple once or twice -/
def rRep12 (K : PySem.W.Frag) : R2 := fun x y H Q => ∃ l k xs, x = .ref l ∧ y = .int k ∧ SqT K H l xs ∧ ((k = 1 ∧ Q (.ref l) H) ∨ (xs ≠ [] ∧ k = 2 ∧ xs.length ≤ 1000 ∧ ∀ p, H p = none → Q (.ref p) (upd H p (.tup (xs ++ xs)))))
theorem op_rep12 {X : Cx} : OpR X (binaryOp .Mult) (rRep12 X.K) := by
  intro pins s σ H x y v u Q I rx ry h
  obtain ⟨l, k, xs, rfl, rfl, hT, h⟩ := h
  rcases h with ⟨rfl, q⟩ | ⟨hne, rfl, hz, q⟩
  · cases rx
    obtain ⟨t, rfl⟩ := ry
    obtain ⟨its, r, ⟨⟨cls, dd, data, sl⟩, ho, hc, n, hd⟩, hs⟩ := I.tuple hT
    simp only at hc hd
    subst hc hd
    exact wpAny_binaryOp_repeat_ref (T := "tuple") (U := "int") (by decide) ⟨_, ho, rfl⟩ (fun s' => typeIs_int s' 1 t) noFill_tuple_mul F.fills_int_mul F.slot_int_rmul repeat_tuple F.slot_int_index.lookup
      (call_meets F.slot_int_rmul (typeIs_int s 1 t) F.entry_int_rmul (F.args_int_rmul_2 _ _) (int_rmul_tuple 1 t l its.toArray n dd sl)
        ⟨ho, rfl, ⟨_, ho, rfl⟩, call_meets F.slot_tuple_mul ⟨_, ho, rfl⟩ F.entry_tuple_mul (F.args_tuple_mul_2 _ _) (tuple_mul1 l its.toArray n dd sl t) ⟨ho, .ref l, H, I, rfl, q⟩⟩)
  · refine op_repT pins s σ H _ _ v u Q I rx ry ⟨l, 2, xs, rfl, rfl, hT, hne, by decide, by decide, hz, fun p hp => ?_⟩
    have e : (List.replicate (2 : Int).toNat xs).flatten = xs ++ xs := by
      show xs ++ (xs ++ []) = xs ++ xs
      rw [List.append_nil]
    rw [e]
    exact q p hp
theorem op_rep12K {X : Cx} {K : PySem.W.Frag} (h : X.K = K := by rfl) : OpR X (binaryOp .Mult) (rRep12 K) := by
  subst h
  exact op_rep12
end HX

set_option maxRecDepth 100000
set_option maxHeartbeats 1000000
/-! QX1: values as trees, a memory of cells, what a piece of code makes of them (results), and the readings by such functions -/
namespace QX
open PySem PySem.Spec PyProof.Rows L2 HX
/-- a value: data by what it holds; ref: a list that may be changed, by its number in the memory; scr: the script -/
inductive D where
  | non | bl (b : Bool) | int (i : Int) | str (x : Str) | tup (ds : List D) | lst (ds : List D) | dct (ks : List Key) (ds : List D) | scr (ns : List Int) | ref (n : Nat) | adr (v : V)
inductive Cell where
  | lst (ds : List D)
abbrev Mem := List Cell
abbrev Sa := List (Option D)
def FzT (H : Hp) (a : Addr) (xs : List V) : Prop := ∃ o : Obj, o.dict = none ∧ H a = some (.frz o (.tup xs))
def ScrAt (K : PySem.W.Frag) (ρ : List Addr) (H : Hp) (a : Addr) (ns : List Int) : Prop :=
  (Rd H a (.lst (ns.map V.int)) ∧ a ∉ ρ) ∨ ∃ (o : Obj) (its : Array Value) (n : Nat), K.lookup a = some o ∧ o.cls = .type "list" ∧ o.dict = none ∧ o.data = .seq its n ∧ its.size ≤ sizeLine ∧ Vals (ns.map V.int) its.toList
mutual
inductive Rep (K : PySem.W.Frag) (ρ : List Addr) (H : Hp) : V → D → Prop
  | non : Rep K ρ H .non .non
  | bl (b : Bool) : Rep K ρ H (.bl b) (.bl b)
  | int (i : Int) : Rep K ρ H (.int i) (.int i)
  | str (x : Str) : Rep K ρ H (.str x) (.str x)
  | tup {a : Addr} {xs : List V} {ds : List D} : FzT H a xs → a ∉ ρ → RepA K ρ H xs ds → Rep K ρ H (.ref a) (.tup ds)
  | lst {a : Addr} {xs : List V} {ds : List D} : H a = some (.lst xs) → a ∉ ρ → RepA K ρ H xs ds → Rep K ρ H (.ref a) (.lst ds)
  | dct {a : Addr} {kvs : List (Key × V)} {ks : List Key} {ds : List D} : H a = some (.dK kvs) → a ∉ ρ → ks = kvs.map (·.1) → RepA K ρ H (kvs.map (·.2)) ds → Rep K ρ H (.ref a) (.dct ks ds)
  | scr {a : Addr} {ns : List Int} : ScrAt K ρ H a ns → Rep K ρ H (.ref a) (.scr ns)
  | ref {a : Addr} {n : Nat} : ρ[n]? = some a → Rep K ρ H (.ref a) (.ref n)
  | adr (v : V) : Rep K ρ H v (.adr v)
inductive RepA (K : PySem.W.Frag) (ρ : List Addr) (H : Hp) : List V → List D → Prop
  | nil : RepA K ρ H [] []
  | cons {v : V} {vs : List V} {d : D} {ds : List D} : Rep K ρ H v d → RepA K ρ H vs ds → RepA K ρ H (v :: vs) (d :: ds)
end
/-- what stays from (ρ, H) to (ρ', H') -/
structure Ext (ρ : List Addr) (H : Hp) (ρ' : List Addr) (H' : Hp) : Prop where
  pre : ∃ more, ρ' = ρ ++ more ∧ ∀ a ∈ more, H a = none
  keep : ∀ a o, H a = some o → a ∉ ρ → (∀ ps, o ≠ .tbl ps) → H' a = some o
  live : ∀ a, H a ≠ none → H' a ≠ none
theorem Ext.refl (ρ : List Addr) (H : Hp) : Ext ρ H ρ H := ⟨⟨[], by simp, by simp⟩, fun _ _ h _ _ => h, fun _ h => h⟩
theorem Ext.notin {ρ ρ' : List Addr} {H H' : Hp} (e : Ext ρ H ρ' H') {a : Addr} (n : a ∉ ρ) (h : H a ≠ none) : a ∉ ρ' := by
  obtain ⟨more, rfl, hm⟩ := e.pre
  intro z
  rcases List.mem_append.mp z with z | z
  · exact n z
  · exact h (hm a z)
theorem Ext.trans {ρ ρ1 ρ2 : List Addr} {H H1 H2 : Hp} (a : Ext ρ H ρ1 H1) (b : Ext ρ1 H1 ρ2 H2) : Ext ρ H ρ2 H2 := by
  refine ⟨?_, fun x o h n t => ?_, fun x h => b.live x (a.live x h)⟩
  · obtain ⟨m1, rfl, h1⟩ := a.pre
    obtain ⟨m2, rfl, h2⟩ := b.pre
    refine ⟨m1 ++ m2, by rw [List.append_assoc], fun x hx => ?_⟩
    rcases List.mem_append.mp hx with z | z
    · exact h1 x z
    · have := h2 x z
      cases e : H x with
      | none => rfl
      | some o => exact absurd this (a.live x (by rw [e]; exact fun z => nomatch z))
  · exact b.keep x o (a.keep x o h n t) (a.notin n (by rw [h]; exact fun z => nomatch z)) t
theorem Ext.at {ρ ρ' : List Addr} {H H' : Hp} (e : Ext ρ H ρ' H') {n : Nat} {a : Addr} (h : ρ[n]? = some a) : ρ'[n]? = some a := by
  obtain ⟨more, rfl, hm⟩ := e.pre
  have := (List.getElem?_eq_some_iff.mp h).1
  rw [List.getElem?_append_left this]
  exact h
theorem FzT.ext {ρ ρ' : List Addr} {H H' : Hp} {a : Addr} {xs : List V} (e : Ext ρ H ρ' H') (h : FzT H a xs) (n : a ∉ ρ) : FzT H' a xs ∧ a ∉ ρ' := by
  obtain ⟨o, h1, h2⟩ := h
  exact ⟨⟨o, h1, e.keep _ _ h2 n fun _ z => nomatch z⟩, e.notin n (by rw [h2]; exact fun z => nomatch z)⟩
theorem ScrAt.ext {K : PySem.W.Frag} {ρ ρ' : List Addr} {H H' : Hp} {a : Addr} {ns : List Int} (e : Ext ρ H ρ' H') (h : ScrAt K ρ H a ns) : ScrAt K ρ' H' a ns := by
  rcases h with ⟨h | ⟨o, h⟩, n⟩ | h
  · exact .inl ⟨.inl (e.keep _ _ h n fun _ z => nomatch z), e.notin n (by rw [h]; exact fun z => nomatch z)⟩
  · exact .inl ⟨.inr ⟨o, e.keep _ _ h n fun _ z => nomatch z⟩, e.notin n (by rw [h]; exact fun z => nomatch z)⟩
  · exact .inr h
mutual
theorem Rep.mono {K : PySem.W.Frag} {ρ ρ' : List Addr} {H H' : Hp} (e : Ext ρ H ρ' H') : ∀ (d : D) (v : V), Rep K ρ H v d → Rep K ρ' H' v d
  | .non, _, h => by cases h; exact .non
  | .bl b, _, h => by cases h; exact .bl b
  | .int i, _, h => by cases h; exact .int i
  | .str x, _, h => by cases h; exact .str x
  | .tup ds, _, h => by
    cases h with
    | tup f n ha => exact .tup (f.ext e n).1 (f.ext e n).2 (RepA.mono e ds _ ha)
  | .lst ds, _, h => by
    cases h with
    | lst f n ha => exact .lst (e.keep _ _ f n fun _ z => nomatch z) (e.notin n (by rw [f]; exact fun z => nomatch z)) (RepA.mono e ds _ ha)
  | .dct ks ds, _, h => by
    cases h with
    | dct f n hk ha => exact .dct (e.keep _ _ f n fun _ z => nomatch z) (e.notin n (by rw [f]; exact fun z => nomatch z)) hk (RepA.mono e ds _ ha)
  | .scr ns, _, h => by
    cases h with
    | scr f => exact .scr (f.ext e)
  | .ref n, _, h => by
    cases h with
    | ref f => exact .ref (e.at f)
  | .adr v, _, h => by cases h; exact .adr v
theorem RepA.mono {K : PySem.W.Frag} {ρ ρ' : List Addr} {H H' : Hp} (e : Ext ρ H ρ' H') : ∀ (ds : List D) (vs : List V), RepA K ρ H vs ds → RepA K ρ' H' vs ds
  | [], _, h => by cases h; exact .nil
  | d :: ds, _, h => by
    cases h with
    | cons h1 h2 => exact .cons (Rep.mono e d _ h1) (RepA.mono e ds _ h2)
end
section
variable {K : PySem.W.Frag} {ρ : List Addr} {H : Hp}
theorem RepA.len : ∀ {vs : List V} {ds : List D}, RepA K ρ H vs ds → vs.length = ds.length
  | _, _, .nil => rfl
  | _, _, .cons _ t => by rw [List.length_cons, List.length_cons, RepA.len t]
theorem RepA.get : ∀ {vs : List V} {ds : List D} {i : Nat} {v : V}, RepA K ρ H vs ds → vs[i]? = some v → ∃ d, ds[i]? = some d ∧ Rep K ρ H v d
  | _, _, _, _, .nil, e => by simp at e
  | _, _, 0, _, .cons h _, e => ⟨_, rfl, by simp at e; exact e ▸ h⟩
  | _, _, i + 1, _, .cons _ t, e => by
    obtain ⟨d, h1, h2⟩ := RepA.get (i := i) t (by simpa using e)
    exact ⟨d, by simpa using h1, h2⟩
theorem RepA.at : ∀ {vs : List V} {ds : List D} {i : Nat} {d : D}, RepA K ρ H vs ds → ds[i]? = some d → ∃ v, vs[i]? = some v ∧ Rep K ρ H v d
  | _, _, _, _, .nil, e => by simp at e
  | _, _, 0, _, .cons h _, e => ⟨_, rfl, by simp at e; exact e ▸ h⟩
  | _, _, i + 1, _, .cons _ t, e => by
    obtain ⟨d, h1, h2⟩ := RepA.at (i := i) t (by simpa using e)
    exact ⟨d, by simpa using h1, h2⟩
theorem RepA.append : ∀ {vs us : List V} {ds es : List D}, RepA K ρ H vs ds → RepA K ρ H us es → RepA K ρ H (vs ++ us) (ds ++ es)
  | _, _, _, _, .nil, s => s
  | _, _, _, _, .cons r t, s => .cons r (RepA.append t s)
theorem RepA.take : ∀ {vs : List V} {ds : List D} (n : Nat), RepA K ρ H vs ds → RepA K ρ H (vs.take n) (ds.take n)
  | _, _, 0, _ => .nil
  | _, _, _ + 1, .nil => .nil
  | _, _, n + 1, .cons r t => .cons r (RepA.take n t)
theorem RepA.drop : ∀ {vs : List V} {ds : List D} (n : Nat), RepA K ρ H vs ds → RepA K ρ H (vs.drop n) (ds.drop n)
  | _, _, 0, r => r
  | _, _, _ + 1, .nil => .nil
  | _, _, n + 1, .cons _ t => RepA.drop n t
theorem RepA.reverse : ∀ {vs : List V} {ds : List D}, RepA K ρ H vs ds → RepA K ρ H vs.reverse ds.reverse
  | _, _, .nil => .nil
  | _, _, .cons r t => by
    rw [List.reverse_cons, List.reverse_cons]
    exact RepA.append (RepA.reverse t) (.cons r .nil)
theorem RepA.set {v : V} {d : D} (r : Rep K ρ H v d) : ∀ {vs : List V} {ds : List D} (i : Nat), RepA K ρ H vs ds → RepA K ρ H (vs.set i v) (ds.set i d)
  | _, _, _, .nil => .nil
  | _, _, 0, .cons _ t => .cons r t
  | _, _, i + 1, .cons q t => .cons q (RepA.set r i t)
theorem RepA.eraseIdx : ∀ {vs : List V} {ds : List D} (i : Nat), RepA K ρ H vs ds → RepA K ρ H (vs.eraseIdx i) (ds.eraseIdx i)
  | _, _, _, .nil => .nil
  | _, _, 0, .cons _ t => t
  | _, _, i + 1, .cons q t => .cons q (RepA.eraseIdx i t)
theorem RepA.dropLast {vs : List V} {ds : List D} (h : RepA K ρ H vs ds) : RepA K ρ H vs.dropLast ds.dropLast := by
  rw [List.dropLast_eq_take, List.dropLast_eq_take, h.len]
  exact h.take _
theorem RepA.rep {vs : List V} {ds : List D} (h : RepA K ρ H vs ds) : ∀ n : Nat, RepA K ρ H (List.replicate n vs).flatten (List.replicate n ds).flatten
  | 0 => .nil
  | n + 1 => by
    rw [List.replicate_succ, List.replicate_succ, List.flatten_cons, List.flatten_cons]
    exact h.append (RepA.rep h n)
theorem RepA.ints : ∀ (ns : List Int), RepA K ρ H (ns.map V.int) (ns.map D.int)
  | [] => .nil
  | n :: ns => .cons (.int n) (RepA.ints ns)
end
/-! ### what is fixed: the written part, tables of code objects, the classes of errors -/
structure Sc where
  K : PySem.W.Frag
  T : List (Addr × Str)
  C : Nat → Addr
def CellOk (K : PySem.W.Frag) (ρ : List Addr) (H : Hp) (a : Addr) : Cell → Prop
  | .lst ds => ∃ xs, H a = some (.lst xs) ∧ RepA K ρ H xs ds
structure MemOk (S : Sc) (ρ : List Addr) (H : Hp) (M : Mem) : Prop where
  len : ρ.length = M.length
  nd : ρ.Nodup
  cell : ∀ (n : Nat) (a : Addr) (c : Cell), ρ[n]? = some a → M[n]? = some c → CellOk S.K ρ H a c
  tab : LamX.Tabs S.T H
theorem CellOk.some {K : PySem.W.Frag} {ρ : List Addr} {H : Hp} {a : Addr} {c : Cell} (h : CellOk K ρ H a c) : H a ≠ none := by
  cases c with
  | lst ds => obtain ⟨xs, e, _⟩ := h; rw [e]; exact fun z => nomatch z
theorem CellOk.ext {K : PySem.W.Frag} {ρ ρ' : List Addr} {H H' : Hp} {a : Addr} {c : Cell} (h : CellOk K ρ H a c) (e : Ext ρ H ρ' H') (k : H' a = H a) : CellOk K ρ' H' a c := by
  cases c with
  | lst ds => obtain ⟨xs, e1, r⟩ := h; exact ⟨xs, k.trans e1, RepA.mono e _ _ r⟩
section
variable {S : Sc} {ρ : List Addr} {H : Hp} {M : Mem}
theorem MemOk.at (m : MemOk S ρ H M) {n : Nat} {a : Addr} (h : ρ[n]? = some a) : ∃ c, M[n]? = some c ∧ CellOk S.K ρ H a c := by
  have hn := (List.getElem?_eq_some_iff.mp h).1
  rw [m.len] at hn
  exact ⟨_, List.getElem?_eq_getElem hn, m.cell n a _ h (List.getElem?_eq_getElem hn)⟩
theorem MemOk.addr (m : MemOk S ρ H M) {n : Nat} {c : Cell} (h : M[n]? = some c) : ∃ a, ρ[n]? = some a ∧ CellOk S.K ρ H a c := by
  have hn := (List.getElem?_eq_some_iff.mp h).1
  rw [← m.len] at hn
  exact ⟨_, List.getElem?_eq_getElem hn, m.cell n _ c (List.getElem?_eq_getElem hn) h⟩
theorem MemOk.there (m : MemOk S ρ H M) {a : Addr} (h : a ∈ ρ) : H a ≠ none := by
  obtain ⟨n, hn, e⟩ := List.getElem_of_mem h
  obtain ⟨c, _, ok⟩ := m.at (n := n) (a := a) (by rw [List.getElem?_eq_getElem hn, e])
  exact ok.some
theorem MemOk.new (m : MemOk S ρ H M) {p : Addr} (h : H p = none) : p ∉ ρ := fun z => m.there z h
end
/-- from (ρ, H) to (ρ', H'), where the memory is M -/
def Stp (S : Sc) (ρ : List Addr) (H : Hp) (ρ' : List Addr) (H' : Hp) (M : Mem) : Prop := Ext ρ H ρ' H' ∧ MemOk S ρ' H' M
section
variable {S : Sc} {ρ : List Addr} {H : Hp} {M : Mem}
theorem Stp.refl (m : MemOk S ρ H M) : Stp S ρ H ρ H M := ⟨Ext.refl ρ H, m⟩
theorem Ext.fresh {p : Addr} {o : HO} (h : H p = none) : Ext ρ H ρ (upd H p o) := by
  refine ⟨⟨[], by simp, by simp⟩, fun a u e _ _ => by rw [upd_ne (ne_of_none e h)]; exact e, fun a e => ?_⟩
  by_cases ha : a = p
  · rw [ha, upd_same]; exact fun z => nomatch z
  · rw [upd_ne ha]; exact e
/-- a new thing that nobody changes -/
theorem Stp.fresh (m : MemOk S ρ H M) {p : Addr} {o : HO} (h : H p = none) : Stp S ρ H ρ (upd H p o) M := by
  have e : Ext ρ H ρ (upd H p o) := Ext.fresh h
  refine ⟨e, m.len, m.nd, fun n a c h1 h2 => ?_, m.tab.ext fun b u q => by rw [upd_ne (ne_of_none q h)]; exact q⟩
  have ok := m.cell n a c h1 h2
  refine ok.ext e (upd_ne ?_)
  intro z
  exact ok.some (by rw [z]; exact h)
/-- a new list that may be changed -/
theorem Stp.alloc (m : MemOk S ρ H M) {p : Addr} {xs : List V} {ds : List D} (h : H p = none) (r : RepA S.K ρ H xs ds) : Stp S ρ H (ρ ++ [p]) (upd H p (.lst xs)) (M ++ [.lst ds]) := by
  have e : Ext ρ H (ρ ++ [p]) (upd H p (.lst xs)) := by
    refine ⟨⟨[p], rfl, fun a ha => ?_⟩, (Ext.fresh (ρ := ρ) h).keep, (Ext.fresh (ρ := ρ) h).live⟩
    rw [List.mem_singleton.mp ha]
    exact h
  refine ⟨e, ?_, ?_, fun n a c h1 h2 => ?_, m.tab.ext fun b u q => by rw [upd_ne (ne_of_none q h)]; exact q⟩
  · rw [List.length_append, List.length_append, m.len]
    rfl
  · refine List.nodup_append.mpr ⟨m.nd, by simp, ?_⟩
    intro a ha b hb
    rw [List.mem_singleton.mp hb]
    rintro rfl
    exact m.new h ha
  · by_cases hn : n < ρ.length
    · rw [List.getElem?_append_left hn] at h1
      rw [List.getElem?_append_left (by rw [← m.len]; exact hn)] at h2
      have ok := m.cell n a c h1 h2
      refine ok.ext e (upd_ne ?_)
      intro z
      exact ok.some (by rw [z]; exact h)
    · rw [List.getElem?_append_right (by omega)] at h1
      rw [List.getElem?_append_right (by rw [← m.len]; omega)] at h2
      have e0 : n - ρ.length = 0 := by
        have := (List.getElem?_eq_some_iff.mp h1).1
        simp at this
        omega
      rw [← m.len] at h2
      rw [e0] at h1 h2
      simp at h1 h2
      subst h1 h2
      exact ⟨xs, upd_same, RepA.mono e _ _ r⟩
/-- a list of the memory is changed -/
theorem Stp.put (m : MemOk S ρ H M) {n : Nat} {a : Addr} {ds0 : List D} {xs : List V} {ds : List D} (h : ρ[n]? = some a) (h2 : M[n]? = some (.lst ds0)) (r : RepA S.K ρ H xs ds) : Stp S ρ H ρ (upd H a (.lst xs)) (M.set n (.lst ds)) := by
  obtain ⟨ys, ey, _⟩ := m.cell n a _ h h2
  have ha : a ∈ ρ := List.mem_of_getElem? h
  have e : Ext ρ H ρ (upd H a (.lst xs)) := by
    refine ⟨⟨[], by simp, by simp⟩, fun b u q nb _ => by rw [upd_ne (fun z => nb (by rw [z]; exact ha))]; exact q, fun b q => ?_⟩
    by_cases hb : b = a
    · rw [hb, upd_same]; exact fun z => nomatch z
    · rw [upd_ne hb]; exact q
  refine ⟨e, by rw [List.length_set]; exact m.len, m.nd, fun k b c h1 h3 => ?_, HX.Tabs.kp m.tab ey (Kp.put rfl)⟩
  by_cases hk : k = n
  · subst hk
    rw [h] at h1
    cases h1
    rw [List.getElem?_set_self (List.getElem?_eq_some_iff.mp h2).1] at h3
    cases h3
    exact ⟨xs, upd_same, RepA.mono e _ _ r⟩
  · rw [List.getElem?_set_ne (Ne.symm hk)] at h3
    have ok := m.cell k b c h1 h3
    refine ok.ext e (upd_ne ?_)
    intro z
    subst z
    exact hk ((List.getElem?_inj (List.getElem?_eq_some_iff.mp h1).1 m.nd).mp (h1.trans h.symm))
end
/-! ### results -/
inductive Res (α : Type) where
  | ok (x : α) (M : Mem) | exc (c : Nat) (fs : List (Str × D)) (M : Mem) | bad
def Res.bind {α β : Type} : Res α → (α → Mem → Res β) → Res β
  | .ok x M, k => k x M
  | .exc c fs M, _ => .exc c fs M
  | .bad, _ => .bad
abbrev F (α : Type) := Sa → Mem → Res α
/-- the own dict of an error -/
def XRep (K : PySem.W.Frag) (ρ : List Addr) (H : Hp) : Option Addr → List (Str × D) → Prop
  | none, fs => fs = []
  | some a, fs => a ∉ ρ ∧ ∃ vs, H a = some (.xd vs) ∧ vs.map (·.1) = fs.map (·.1) ∧ RepA K ρ H (vs.map (·.2)) (fs.map (·.2)) ∧ fs ≠ []
def Post {α β : Type} (S : Sc) (W : WX) (R : List Addr → Hp → β → α → Prop) (σ : L2.St) (ρ : List Addr) (H : Hp) (Q : β → Hp → Prop) : Res α → Prop
  | .ok x M => ∀ ρ' H' v, Stp S ρ H ρ' H' M → R ρ' H' v x → Q v H'
  | .exc c fs M => ∀ ρ' H' d, Stp S ρ H ρ' H' M → XRep S.K ρ' H' d fs → W (.ref (S.C c)) d σ H'
  | .bad => False
def RepSt (K : PySem.W.Frag) (ρ : List Addr) (H : Hp) (σ : L2.St) (σa : Sa) : Prop := σ.length = σa.length ∧ ∀ (i : Nat) (d : D), σa[i]? = some (some d) → ∃ v, σ[i]? = some (some v) ∧ Rep K ρ H v d
def tOf {α β : Type} (S : Sc) (W : WX) (R : List Addr → Hp → β → α → Prop) (f : F α) : L2.St → Hp → (β → Hp → Prop) → Prop := fun σ H Q => ∃ ρ M σa, MemOk S ρ H M ∧ RepSt S.K ρ H σ σa ∧ Post S W R σ ρ H Q (f σa M)
theorem RepSt.mono {K : PySem.W.Frag} {ρ ρ' : List Addr} {H H' : Hp} {σ : L2.St} {σa : Sa} (h : RepSt K ρ H σ σa) (e : Ext ρ H ρ' H') : RepSt K ρ' H' σ σa := ⟨h.1, fun i d q => let ⟨v, h1, h2⟩ := h.2 i d q; ⟨v, h1, Rep.mono e _ _ h2⟩⟩
section
variable {α β γ δ : Type} {S : Sc} {W : WX} {R : List Addr → Hp → β → α → Prop} {R2 : List Addr → Hp → δ → γ → Prop} {σ : L2.St} {σa : Sa} {ρ ρ' : List Addr} {H H' : Hp} {M : Mem}
theorem Post.mono {Q : β → Hp → Prop} {r : Res α} (h : Post S W R σ ρ H Q r) (e : Ext ρ H ρ' H') : Post S W R σ ρ' H' Q r := by
  cases r with
  | ok x M => exact fun ρ2 H2 v st => h ρ2 H2 v ⟨e.trans st.1, st.2⟩
  | exc c fs M => exact fun ρ2 H2 d st => h ρ2 H2 d ⟨e.trans st.1, st.2⟩
  | bad => exact h
/-- a part's function, and what goes on with it -/
theorem use {f : F α} {k : α → Mem → Res γ} {Q : β → Hp → Prop} {Q2 : δ → Hp → Prop} (mo : MemOk S ρ H M) (rs : RepSt S.K ρ H σ σa) (h : Post S W R2 σ ρ H Q2 ((f σa M).bind k))
    (c : ∀ x M1 ρ1 H1 v, Stp S ρ H ρ1 H1 M1 → R ρ1 H1 v x → RepSt S.K ρ1 H1 σ σa → Post S W R2 σ ρ1 H1 Q2 (k x M1) → Q v H1) : tOf S W R f σ H Q := by
  refine ⟨ρ, M, σa, mo, rs, ?_⟩
  cases e : f σa M with
  | ok x M1 =>
    rw [e] at h
    intro ρ1 H1 v st r
    exact c x M1 ρ1 H1 v st r (rs.mono st.1) (Post.mono h st.1)
  | exc c2 fs M1 => rw [e] at h; exact h
  | bad => rw [e] at h; exact h
end
/-! ### the judgements by such functions -/
section
variable {X : Cx}
theorem PE.imp {e : Expr} {t t' : TE} (h : PE X e t) (w : ∀ σ H Q, t' σ H Q → t σ H Q) : PE X e t' := ⟨fun pins s σ H Q I q => h.run pins s σ H Q I (w σ H Q q)⟩
theorem PT.imp {e : Expr} {t t' : TT} (h : PT X e t) (w : ∀ σ H Q, t' σ H Q → t σ H Q) : PT X e t' := ⟨fun pins s σ H Q I q => h.run pins s σ H Q I (w σ H Q q)⟩
theorem PW.imp {e : Expr} {t t' : TT} (h : PW X e t) (w : ∀ σ H Q, t' σ H Q → t σ H Q) : PW X e t' := ⟨fun wh pins s σ H Q I q => h.run wh pins s σ H Q I (w σ H Q q)⟩
theorem PA.imp {es : List Expr} {t t' : TA} (h : PA X es t) (w : ∀ σ H Q, t' σ H Q → t σ H Q) : PA X es t' := ⟨fun pos pins s σ H Q I q => h.run pos pins s σ H Q I (w σ H Q q)⟩
theorem PS.imp {st : Stmt} {t t' : TS} (h : PS X st t) (w : ∀ D σ H, t' D σ H → t D σ H) : PS X st t' := ⟨fun pins s σ H D I q => h.run pins s σ H D I (w D σ H q)⟩
theorem PSs.imp {st : List Stmt} {t t' : TS} (h : PSs X st t) (w : ∀ D σ H, t' D σ H → t D σ H) : PSs X st t' := ⟨fun pins s σ H D I q => h.run pins s σ H D I (w D σ H q)⟩
theorem PI.imp {tg e : Expr} {t t' : TI} (h : PI X tg e t) (w : ∀ σ H R, t' σ H R → t σ H R) : PI X tg e t' := ⟨fun pins s σ H R I q => h.run pins s σ H R I (w σ H R q)⟩
end
abbrev QE (S : Sc) (W : WX) (X : Cx) (e : Expr) (f : F D) : Prop := PE X e (tOf S W (Rep S.K) f)
def REq {α : Type} : List Addr → Hp → α → α → Prop := fun _ _ a b => a = b
abbrev QT (S : Sc) (W : WX) (X : Cx) (e : Expr) (f : F Bool) : Prop := PT X e (tOf S W REq f)
abbrev QW (S : Sc) (W : WX) (X : Cx) (e : Expr) (f : F Bool) : Prop := PW X e (tOf S W REq f)
abbrev QA (S : Sc) (W : WX) (X : Cx) (es : List Expr) (f : F (List D)) : Prop := PA X es (tOf S W (RepA S.K) f)
end QX

set_option maxRecDepth 100000
set_option maxHeartbeats 1000000
/-! QX2: expressions -/
namespace QX
open PySem PySem.Spec PyProof.Rows L2 HX
section
variable {X : Cx} {S : Sc} {W : WX} {e a b c : Expr} {pos : Pos}
def fVar (i : Nat) : F D := fun σ M => match σ[i]? with | some (some d) => .ok d M | _ => .bad
def fC (d : D) : F D := fun _ M => .ok d M
theorem qe_var {i : Nat} (h : PE X e (tVar i)) : QE S W X e (fVar i) := PE.imp h fun σ H Q ⟨ρ, M, σa, mo, rs, p⟩ => by
  unfold fVar at p
  split at p
  · rename_i d hd
    obtain ⟨v, e1, r⟩ := rs.2 _ _ hd
    exact ⟨v, e1, p ρ H v (Stp.refl mo) r⟩
  · exact p.elim
theorem qe_c {v : V} {d : D} (h : PE X e (tC v)) (r : ∀ K ρ H, Rep K ρ H v d) : QE S W X e (fC d) := PE.imp h fun σ H Q ⟨ρ, M, σa, mo, rs, p⟩ => p ρ H v (Stp.refl mo) (r _ _ _)
theorem qe_int {i j pos} : QE S W X (.Constant (.int i) j pos) (fC (.int i)) := qe_c pe_int fun _ _ _ => .int i
theorem qe_bl {i j pos} : QE S W X (.Constant (.bool i) j pos) (fC (.bl i)) := qe_c pe_bl fun _ _ _ => .bl i
theorem qe_non {j pos} : QE S W X (.Constant .none j pos) (fC .non) := qe_c pe_non fun _ _ _ => .non
theorem qe_str {i j pos} : QE S W X (.Constant (.str i) j pos) (fC (.str i)) := qe_c pe_str fun _ _ _ => .str i
theorem qe_gint {x : Str} {i : Int} (h : PE X e (tC (.int i))) : QE S W X e (fC (.int i)) := qe_c h fun _ _ _ => .int i
theorem qe_adr {v : V} (h : PE X e (tC v)) : QE S W X e (fC (.adr v)) := qe_c h fun _ _ _ => .adr v
/-! ### two values -/
def fBin (g : D → D → Mem → Res D) (fa fb : F D) : F D := fun σ M => (fa σ M).bind fun x M1 => (fb σ M1).bind fun y M2 => g x y M2
def OpQ (S : Sc) (r : R2) (g : D → D → Mem → Res D) : Prop := ∀ (W : WX) (σ : L2.St) (ρ : List Addr) (H : Hp) (M : Mem) (x y : V) (dx dy : D) (Q : VK), MemOk S ρ H M → Rep S.K ρ H x dx → Rep S.K ρ H y dy → Post S W (Rep S.K) σ ρ H Q (g dx dy M) → r x y H Q
theorem bin_imp {r : R2} {g : D → D → Mem → Res D} {fa fb : F D} (hq : OpQ S r g) {σ : L2.St} {H : Hp} {Q : VK} (h : tOf S W (Rep S.K) (fBin g fa fb) σ H Q) : tOp r (tOf S W (Rep S.K) fa) (tOf S W (Rep S.K) fb) σ H Q := by
  obtain ⟨ρ, M, σa, mo, rs, p⟩ := h
  exact use mo rs p fun x M1 ρ1 H1 v st1 r1 rs1 p1 => use st1.2 rs1 p1 fun y M2 ρ2 H2 u st2 r2 rs2 p2 => hq _ _ _ _ _ _ _ _ _ _ st2.2 (Rep.mono st2.1 _ _ r1) r2 p2
variable {fa fb fc : F D}
theorem qe_bin {op : Operator} {r : R2} {g : D → D → Mem → Res D} (ho : OpR X (binaryOp op) r) (hq : OpQ S r g) (ha : QE S W X a fa) (hb : QE S W X b fb) : QE S W X (.BinOp a op b pos) (fBin g fa fb) :=
  PE.imp (pe_op ho ha hb) fun _ _ _ h => bin_imp hq h
theorem qe_cmp {op : CmpOp} {r : R2} {g : D → D → Mem → Res D} (ho : OpR X (compareOp op) r) (hq : OpQ S r g) (ha : QE S W X a fa) (hb : QE S W X b fb) (hm : behindInMarks op b = false) : QE S W X (.Compare a [op] [b] pos) (fBin g fa fb) :=
  PE.imp (pe_cmpR ho ha hb hm) fun _ _ _ h => bin_imp hq h
def fTest (f : F D) : F Bool := fun σ M => (f σ M).bind fun d M1 => match d with | .bl b => .ok b M1 | _ => .bad
theorem test_imp {f : F D} {σ : L2.St} {H : Hp} {Q : Bool → Hp → Prop} (h : tOf S W REq (fTest f) σ H Q) : tOf S W (Rep S.K) f σ H fun x H' => ∃ k, x = .bl k ∧ Q k H' := by
  obtain ⟨ρ, M, σa, mo, rs, p⟩ := h
  refine use mo rs p fun x M1 ρ1 H1 v st1 r1 rs1 p1 => ?_
  cases x with
  | bl b =>
    cases r1
    exact ⟨b, rfl, p1 ρ1 H1 b (Stp.refl st1.2) rfl⟩
  | _ => exact False.elim p1
theorem qt_cmp {op : CmpOp} {r : R2} {g : D → D → Mem → Res D} (ho : OpR X (compareOp op) r) (hq : OpQ S r g) (ha : QE S W X a fa) (hb : QE S W X b fb) (hm : behindInMarks op b = false) : QT S W X (.Compare a [op] [b] pos) (fTest (fBin g fa fb)) :=
  PT.imp (pt_cmpR ho ha hb hm) fun _ _ _ h => bin_imp hq (test_imp h)
theorem qt_val (h : QE S W X a fa) (he : ∀ whole, isTrue a X.env whole = (do let v ← whole; standAt a.pos; holding [v] (truthy v)) := by intro _; rfl) : QT S W X a (fTest fa) := PT.imp (pt_val h he) fun _ _ _ h => test_imp h
/-! a <= b <= c -/
def fChain (g g' : D → D → Mem → Res D) (fa fb fc : F D) : F D := fun σ M => (fa σ M).bind fun x M1 => (fb σ M1).bind fun y M2 => (g x y M2).bind fun z M3 => match z with
  | .bl true => (fc σ M3).bind fun w M4 => g' y w M4
  | .bl false => .ok (.bl false) M3
  | _ => .bad
/-- the memory and the heap as they were -/
def Flat (g : D → D → Mem → Res D) : Prop := ∀ x y M, (∃ b, g x y M = .ok (.bl b) M) ∨ g x y M = .bad
theorem chain_imp {r r' : R2} {g g' : D → D → Mem → Res D} (hf : Flat g) (hq : OpQ S r g) (hq' : OpQ S r' g') {σ : L2.St} {H : Hp} {Q : VK} (h : tOf S W (Rep S.K) (fChain g g' fa fb fc) σ H Q) : tChain r r' (tOf S W (Rep S.K) fa) (tOf S W (Rep S.K) fb) (tOf S W (Rep S.K) fc) σ H Q := by
  obtain ⟨ρ, M, σa, mo, rs, p⟩ := h
  refine use mo rs p fun x M1 ρ1 H1 v st1 r1 rs1 p1 => use st1.2 rs1 p1 fun y M2 ρ2 H2 u st2 r2 rs2 p2 => ?_
  refine hq W σ ρ2 H2 M2 _ _ _ _ _ st2.2 (Rep.mono st2.1 _ _ r1) r2 ?_
  rcases hf x y M2 with ⟨k, e⟩ | e
  · rw [e] at p2 ⊢
    intro ρ3 H3 w st3 r3
    cases r3
    refine ⟨k, rfl, ?_⟩
    have p3 := Post.mono p2 st3.1
    cases k with
    | false => exact p3 ρ3 H3 _ (Stp.refl st3.2) (.bl false)
    | true =>
      refine use st3.2 (rs2.mono st3.1) p3 fun z M4 ρ4 H4 w' st4 r4 rs4 p4 => ?_
      exact hq' W σ ρ4 H4 M4 _ _ _ _ _ st4.2 (Rep.mono (st3.1.trans st4.1) _ _ r2) r4 p4
  · rw [e] at p2
    exact p2.elim
theorem qe_chain {op op' : CmpOp} {r r' : R2} {g g' : D → D → Mem → Res D} (ho : OpR X (compareOp op) r) (ho' : OpR X (compareOp op') r') (hf : Flat g) (hq : OpQ S r g) (hq' : OpQ S r' g') (ha : QE S W X a fa) (hb : QE S W X b fb) (hc : QE S W X c fc)
    (hm : lastMarks [op, op'] [b, c] = false := by with_unfolding_all rfl) : QE S W X (.Compare a [op, op'] [b, c] pos) (fChain g g' fa fb fc) := PE.imp (pe_chain ho ho' ha hb hc hm) fun _ _ _ h => chain_imp hf hq hq' h
theorem qt_chain {op op' : CmpOp} {r r' : R2} {g g' : D → D → Mem → Res D} (ho : OpR X (compareOp op) r) (ho' : OpR X (compareOp op') r') (hf : Flat g) (hq : OpQ S r g) (hq' : OpQ S r' g') (ha : QE S W X a fa) (hb : QE S W X b fb) (hc : QE S W X c fc)
    (hm : lastMarks [op, op'] [b, c] = false := by with_unfolding_all rfl) : QT S W X (.Compare a [op, op'] [b, c] pos) (fTest (fChain g g' fa fb fc)) := PT.imp (pt_chain ho ho' ha hb hc hm) fun _ _ _ h => chain_imp hf hq hq' (test_imp h)
/-! ### and, or, not, if -/
variable {ga gb : F Bool} {rest : List Expr}
def fAndT (ga gb : F Bool) : F Bool := fun σ M => (ga σ M).bind fun c M1 => if c = true then gb σ M1 else .ok false M1
def fOrT (ga gb : F Bool) : F Bool := fun σ M => (ga σ M).bind fun c M1 => if c = true then .ok true M1 else gb σ M1
def fNotT (ga : F Bool) : F Bool := fun σ M => (ga σ M).bind fun c M1 => .ok (!c) M1
theorem qw_and1 (ha : QT S W X a ga) : QW S W X (.BoolOp .And [a] pos) ga := pw_and1 ha
theorem qw_or1 (ha : QT S W X a ga) : QW S W X (.BoolOp .Or [a] pos) ga := pw_or1 ha
theorem qw_and (ha : QT S W X a ga) (hb : QW S W X (.BoolOp .And (b :: rest) pos) gb) : QW S W X (.BoolOp .And (a :: b :: rest) pos) (fAndT ga gb) := PW.imp (pw_and ha hb) fun σ H Q ⟨ρ, M, σa, mo, rs, p⟩ => by
  refine use mo rs p fun x M1 ρ1 H1 v st1 r1 rs1 p1 => ?_
  cases (show v = x from r1)
  cases x with
  | true => exact ⟨ρ1, M1, σa, st1.2, rs1, p1⟩
  | false => exact p1 ρ1 H1 _ (Stp.refl st1.2) rfl
theorem qw_or (ha : QT S W X a ga) (hb : QW S W X (.BoolOp .Or (b :: rest) pos) gb) : QW S W X (.BoolOp .Or (a :: b :: rest) pos) (fOrT ga gb) := PW.imp (pw_or ha hb) fun σ H Q ⟨ρ, M, σa, mo, rs, p⟩ => by
  refine use mo rs p fun x M1 ρ1 H1 v st1 r1 rs1 p1 => ?_
  cases (show v = x from r1)
  cases x with
  | false => exact ⟨ρ1, M1, σa, st1.2, rs1, p1⟩
  | true => exact p1 ρ1 H1 _ (Stp.refl st1.2) rfl
theorem qt_pw (h : QW S W X a ga) : QT S W X a ga := PW.pt h
theorem qt_not (ha : QT S W X a ga) : QT S W X (.UnaryOp .Not a pos) (fNotT ga) := PT.imp (pt_not ha) fun σ H Q ⟨ρ, M, σa, mo, rs, p⟩ => by
  refine use mo rs p fun x M1 ρ1 H1 v st1 r1 rs1 p1 => ?_
  cases (show v = x from r1)
  exact p1 ρ1 H1 _ (Stp.refl st1.2) rfl
def fAnd (fa fb : F D) : F D := fun σ M => (fa σ M).bind fun x M1 => match x with | .bl true => fb σ M1 | .bl false => .ok (.bl false) M1 | _ => .bad
def fOr (fa fb : F D) : F D := fun σ M => (fa σ M).bind fun x M1 => match x with | .bl true => .ok (.bl true) M1 | .bl false => fb σ M1 | _ => .bad
def fNot (fa : F D) : F D := fun σ M => (fa σ M).bind fun x M1 => match x with | .bl b => .ok (.bl (!b)) M1 | _ => .bad
theorem qe_one {op} (h : QE S W X a fa) : QE S W X (.BoolOp op [a] pos) fa := pe_one h
theorem qe_and (ha : QE S W X a fa) (hb : QE S W X (.BoolOp .And (b :: rest) pos) fb) : QE S W X (.BoolOp .And (a :: b :: rest) pos) (fAnd fa fb) := PE.imp (pe_and ha hb) fun σ H Q ⟨ρ, M, σa, mo, rs, p⟩ => by
  refine use mo rs p fun x M1 ρ1 H1 v st1 r1 rs1 p1 => ?_
  cases x with
  | bl k =>
    cases r1
    refine ⟨k, rfl, ?_⟩
    cases k with
    | true => exact ⟨ρ1, M1, σa, st1.2, rs1, p1⟩
    | false => exact p1 ρ1 H1 _ (Stp.refl st1.2) (.bl false)
  | _ => exact False.elim p1
theorem qe_or (ha : QE S W X a fa) (hb : QE S W X (.BoolOp .Or (b :: rest) pos) fb) : QE S W X (.BoolOp .Or (a :: b :: rest) pos) (fOr fa fb) := PE.imp (pe_or ha hb) fun σ H Q ⟨ρ, M, σa, mo, rs, p⟩ => by
  refine use mo rs p fun x M1 ρ1 H1 v st1 r1 rs1 p1 => ?_
  cases x with
  | bl k =>
    cases r1
    refine ⟨k, rfl, ?_⟩
    cases k with
    | false => exact ⟨ρ1, M1, σa, st1.2, rs1, p1⟩
    | true => exact p1 ρ1 H1 _ (Stp.refl st1.2) (.bl true)
  | _ => exact False.elim p1
theorem qe_not (ha : QE S W X a fa) : QE S W X (.UnaryOp .Not a pos) (fNot fa) := PE.imp (pe_not ha) fun σ H Q ⟨ρ, M, σa, mo, rs, p⟩ => by
  refine use mo rs p fun x M1 ρ1 H1 v st1 r1 rs1 p1 => ?_
  cases x with
  | bl k =>
    cases r1
    exact ⟨k, rfl, p1 ρ1 H1 _ (Stp.refl st1.2) (.bl _)⟩
  | _ => exact False.elim p1
def fIf (g : F Bool) (fa fb : F D) : F D := fun σ M => (g σ M).bind fun c M1 => if c = true then fa σ M1 else fb σ M1
theorem qe_if (hc : QT S W X c ga) (ha : QE S W X a fa) (hb : QE S W X b fb) : QE S W X (.IfExp c a b pos) (fIf ga fa fb) := PE.imp (pe_ifExp hc ha hb) fun σ H Q ⟨ρ, M, σa, mo, rs, p⟩ => by
  refine use mo rs p fun x M1 ρ1 H1 v st1 r1 rs1 p1 => ?_
  cases (show v = x from r1)
  cases x with
  | true => exact ⟨ρ1, M1, σa, st1.2, rs1, p1⟩
  | false => exact ⟨ρ1, M1, σa, st1.2, rs1, p1⟩
/-! ### arguments, displays -/
variable {es : List Expr} {fs : F (List D)}
def fNil : F (List D) := fun _ M => .ok [] M
def fCons (fa : F D) (fs : F (List D)) : F (List D) := fun σ M => (fa σ M).bind fun x M1 => (fs σ M1).bind fun xs M2 => .ok (x :: xs) M2
theorem qa_nil : QA S W X [] fNil := PA.imp pa_nil fun σ H Q ⟨ρ, M, σa, mo, rs, p⟩ => p ρ H [] (Stp.refl mo) .nil
theorem qa_cons (ha : QE S W X e fa) (hr : QA S W X es fs) (hs : starEach (e :: es) X.env = (false, eval e X.env) :: starEach es X.env := by rfl) : QA S W X (e :: es) (fCons fa fs) := PA.imp (pa_cons ha hr hs) fun σ H Q ⟨ρ, M, σa, mo, rs, p⟩ =>
  use mo rs p fun x M1 ρ1 H1 v st1 r1 rs1 p1 => use st1.2 rs1 p1 fun y M2 ρ2 H2 u st2 r2 rs2 p2 => p2 ρ2 H2 _ (Stp.refl st2.2) (.cons (Rep.mono st2.1 _ _ r1) r2)
abbrev few (n : Nat) : Bool := Nat.ble n 16777216
theorem few_ok {n : Nat} (h : few n = true) : n ≤ sizeLine := by rw [sizeLine_eq]; exact Nat.le_of_ble_eq_true h
theorem ok_few {n : Nat} (h : n ≤ sizeLine) : few n = true := by rw [sizeLine_eq] at h; exact Nat.ble_eq_true_of_le h
def fTup (fs : F (List D)) : F D := fun σ M => (fs σ M).bind fun ds M1 => if few ds.length = true then .ok (.tup ds) M1 else .bad
def fLst (fs : F (List D)) : F D := fun σ M => (fs σ M).bind fun ds M1 => if few ds.length = true then .ok (.lst ds) M1 else .bad
def fNew (fs : F (List D)) : F D := fun σ M => (fs σ M).bind fun ds M1 => if few ds.length = true then .ok (.ref M1.length) (M1 ++ [.lst ds]) else .bad
theorem rep_tup {ρ : List Addr} {H : Hp} {M : Mem} {p : Addr} {o : Obj} {xs : List V} {ds : List D} (m : MemOk S ρ H M) (h : H p = none) (ho : o.dict = none) (r : RepA S.K ρ H xs ds) : Rep S.K ρ (upd H p (.frz o (.tup xs))) (.ref p) (.tup ds) :=
  .tup ⟨o, ho, upd_same⟩ (m.new h) (RepA.mono (Ext.fresh h) _ _ r)
theorem rep_lst {ρ : List Addr} {H : Hp} {M : Mem} {p : Addr} {xs : List V} {ds : List D} (m : MemOk S ρ H M) (h : H p = none) (r : RepA S.K ρ H xs ds) : Rep S.K ρ (upd H p (.lst xs)) (.ref p) (.lst ds) :=
  .lst upd_same (m.new h) (RepA.mono (Ext.fresh h) _ _ r)
theorem rep_new {ρ : List Addr} {H H' : Hp} {M : Mem} {p : Addr} (m : MemOk S ρ H M) : Rep S.K (ρ ++ [p]) H' (.ref p) (.ref M.length) := by
  refine .ref ?_
  rw [← m.len, List.getElem?_append_right (Nat.le_refl _), Nat.sub_self]
  rfl
theorem qe_tup {x1} (h : QA S W X es fs) : QE S W X (.Tuple es x1 pos) (fTup fs) := PE.imp (pe_tupF h) fun σ H Q ⟨ρ, M, σa, mo, rs, p⟩ => by
  refine use mo rs p fun ds M1 ρ1 H1 vs st1 r1 rs1 p1 => ?_
  split at p1
  · rename_i hf
    exact ⟨by rw [r1.len]; exact few_ok hf, fun q o hq ho => p1 ρ1 _ _ (Stp.fresh st1.2 hq) (rep_tup st1.2 hq ho r1)⟩
  · exact p1.elim
theorem qe_lst (h : QA S W X es fs) : QE S W X (.List es pos) (fLst fs) := PE.imp (pe_lst h) fun σ H Q ⟨ρ, M, σa, mo, rs, p⟩ => by
  refine use mo rs p fun ds M1 ρ1 H1 vs st1 r1 rs1 p1 => ?_
  split at p1
  · rename_i hf
    exact ⟨by rw [r1.len]; exact few_ok hf, fun q hq => p1 ρ1 _ _ (Stp.fresh st1.2 hq) (rep_lst st1.2 hq r1)⟩
  · exact p1.elim
theorem qe_new (h : QA S W X es fs) : QE S W X (.List es pos) (fNew fs) := PE.imp (pe_lst h) fun σ H Q ⟨ρ, M, σa, mo, rs, p⟩ => by
  refine use mo rs p fun ds M1 ρ1 H1 vs st1 r1 rs1 p1 => ?_
  split at p1
  · rename_i hf
    exact ⟨by rw [r1.len]; exact few_ok hf, fun q hq => p1 (ρ1 ++ [q]) _ _ (Stp.alloc st1.2 hq r1) (rep_new st1.2)⟩
  · exact p1.elim
end
/-! ### lists and tuples that are read -/
def listOf (M : Mem) : D → Option (List D)
  | .lst ds => some ds
  | .ref n => match M[n]? with | some (.lst ds) => some ds | none => none
  | _ => none
def seqOf (M : Mem) : D → Option (List D)
  | .tup ds => some ds
  | .scr ns => some (ns.map .int)
  | d => listOf M d
section
variable {S : Sc} {ρ : List Addr} {H : Hp} {M : Mem} {v : V} {d : D} {ds : List D}
theorem list_of (m : MemOk S ρ H M) (r : Rep S.K ρ H v d) (h : listOf M d = some ds) : ∃ a xs, v = .ref a ∧ H a = some (.lst xs) ∧ RepA S.K ρ H xs ds := by
  cases r with
  | lst e n ra => cases h; exact ⟨_, _, rfl, e, ra⟩
  | ref e =>
    rename_i a n
    unfold listOf at h
    dsimp only at h
    split at h
    · rename_i ds' hm
      cases h
      obtain ⟨xs, e1, ra⟩ := m.cell n a _ e hm
      exact ⟨a, xs, rfl, e1, ra⟩
    · cases h
  | _ => cases h
theorem scr_sq {K : PySem.W.Frag} {a : Addr} {ns : List Int} (h : ScrAt K ρ H a ns) : SqL K H a (ns.map V.int) := by
  rcases h with ⟨h, _⟩ | h
  · exact .inl h
  · exact .inr h
theorem seq_of (m : MemOk S ρ H M) (r : Rep S.K ρ H v d) (h : seqOf M d = some ds) : ∃ a xs, v = .ref a ∧ (SqL S.K H a xs ∨ SqT S.K H a xs) ∧ RepA S.K ρ H xs ds := by
  cases r with
  | tup f n ra =>
    cases h
    obtain ⟨o, _, e⟩ := f
    exact ⟨_, _, rfl, .inr (.inl (.inr ⟨o, e⟩)), ra⟩
  | scr f =>
    cases h
    exact ⟨_, _, rfl, .inl (scr_sq f), RepA.ints _⟩
  | lst e n ra => cases h; exact ⟨_, _, rfl, .inl (SqL.of e), ra⟩
  | ref e =>
    obtain ⟨a, xs, e0, e1, ra⟩ := list_of m (.ref e) h
    exact ⟨a, xs, e0, .inl (SqL.of e1), ra⟩
  | _ => cases h
theorem tup_of (r : Rep S.K ρ H v (.tup ds)) : ∃ a xs, v = .ref a ∧ SqT S.K H a xs ∧ RepA S.K ρ H xs ds ∧ FzT H a xs ∧ a ∉ ρ := by
  cases r with
  | tup f n ra =>
    obtain ⟨o, h1, e⟩ := id f
    exact ⟨_, _, rfl, .inl (.inr ⟨o, e⟩), ra, f, n⟩
theorem RepA.atI {xs : List V} {i : Int} (r : RepA S.K ρ H xs ds) (h : L2.atI ds i = some d) : ∃ v, L2.atI xs i = some v ∧ Rep S.K ρ H v d := by
  unfold L2.atI at h ⊢
  rw [r.len]
  cases e : ixN ds.length i with
  | none => rw [e] at h; cases h
  | some j => rw [e] at h; exact r.at h
end
/-! ### o[i] -/
def gIx : D → D → Mem → Res D
  | .str z, .int i, M => if few z.length = true then match atI z.cps.toList i with | some c => .ok (.str ⟨#[c]⟩) M | none => .bad else .bad
  | d, .int i, M => match seqOf M d with | some ds => (match atI ds i with | some d => .ok d M | none => .bad) | none => .bad
  | _, _, _ => .bad
theorem oq_ix {S : Sc} : OpQ S (rIx S.K) gIx := by
  intro W σ ρ H M x y dx dy Q mo rx ry p
  unfold gIx at p
  split at p
  · cases rx
    cases ry
    split at p
    · rename_i hf
      split at p
      · rename_i c hc
        exact .inr (.inr ⟨_, _, c, rfl, rfl, few_ok hf, hc, p ρ H _ (Stp.refl mo) (.str _)⟩)
      · exact p.elim
    · exact p.elim
  · cases ry
    split at p
    · rename_i ds hs
      split at p
      · rename_i d hd
        obtain ⟨a, xs, rfl, hq, ra⟩ := seq_of mo rx hs
        obtain ⟨v, hv, rv⟩ := ra.atI hd
        rcases hq with hq | hq
        · exact .inl ⟨a, xs, _, v, rfl, rfl, hq, hv, p ρ H v (Stp.refl mo) rv⟩
        · exact .inr (.inl ⟨a, xs, _, v, rfl, rfl, hq, hv, p ρ H v (Stp.refl mo) rv⟩)
      · exact p.elim
    · exact p.elim
  · exact p.elim
theorem qe_ix {X : Cx} {S : Sc} {W : WX} {a b : Expr} {pos : Pos} {fa fb : F D} (hk : X.K = S.K) (ha : QE S W X a fa) (hb : QE S W X b fb) (hs : PlainIx b := by exact fun _ _ => rfl) : QE S W X (.Subscript a b pos) (fBin gIx fa fb) := by
  have h : IxR X (rIx S.K) := hk ▸ ix_seq
  exact PE.imp (pe_ix h ha hb hs) fun _ _ _ h => bin_imp oq_ix h
/-! ### slices -/
section
variable {X : Cx} {S : Sc} {W : WX} {e : Expr} {lo hi : Option Expr} {p2 pos : Pos} {fe : F D} {fl fh : F (Option Int)}
abbrev QO (S : Sc) (W : WX) (X : Cx) (e : Option Expr) (f : F (Option Int)) : Prop := PO X e (tOf S W REq f)
theorem PO.imp {e : Option Expr} {t t' : TO} (h : PO X e t) (w : ∀ σ H Q, t' σ H Q → t σ H Q) : PO X e t' := ⟨fun pins s σ H Q I q => h.run pins s σ H Q I (w σ H Q q)⟩
def fNoPart : F (Option Int) := fun _ M => .ok none M
def fPart (f : F D) : F (Option Int) := fun σ M => (f σ M).bind fun d M1 => match d with | .int i => .ok (some i) M1 | _ => .bad
theorem qo_none : QO S W X none fNoPart := PO.imp po_none fun σ H Q ⟨ρ, M, σa, mo, rs, p⟩ => p ρ H none (Stp.refl mo) rfl
theorem qo_some (h : QE S W X e fe) : QO S W X (some e) (fPart fe) := PO.imp (po_some h) fun σ H Q ⟨ρ, M, σa, mo, rs, p⟩ => by
  refine use mo rs p fun x M1 ρ1 H1 v st1 r1 rs1 p1 => ?_
  cases x with
  | int i =>
    cases r1
    exact ⟨i, rfl, p1 ρ1 H1 _ (Stp.refl st1.2) rfl⟩
  | _ => exact False.elim p1
def cutD (ds : List D) (lo hi : Option Int) : List D := (ds.drop (HT.sIx ds.length 0 lo)).take (HT.sIx ds.length ds.length hi - HT.sIx ds.length 0 lo)
theorem RepA.cut {K : PySem.W.Frag} {ρ : List Addr} {H : Hp} {xs : List V} {ds : List D} (r : RepA K ρ H xs ds) (lo hi : Option Int) : RepA K ρ H (cutV xs lo hi) (cutD ds lo hi) := by
  unfold cutV cutD
  rw [r.len]
  exact (r.drop _).take _
theorem cutV_whole {xs : List V} {lo hi : Option Int} (h : HT.sIx xs.length 0 lo = 0 ∧ HT.sIx xs.length xs.length hi = xs.length) : cutV xs lo hi = xs := by
  unfold cutV
  rw [h.1, h.2]
  simp
def gSl (d : D) (lo hi : Option Int) (M : Mem) : Res D := match d with
  | .tup ds => .ok (.tup (cutD ds lo hi)) M
  | d => match listOf M d with | some ds => .ok (.lst (cutD ds lo hi)) M | none => .bad
def fSl (fe : F D) (fl fh : F (Option Int)) : F D := fun σ M => (fe σ M).bind fun d M1 => (fl σ M1).bind fun l M2 => (fh σ M2).bind fun h M3 => gSl d l h M3
theorem qe_sl (hk : X.K = S.K) (he : QE S W X e fe) (hl : QO S W X lo fl) (hh : QO S W X hi fh) : QE S W X (.Subscript e (.Slice lo hi none p2) pos) (fSl fe fl fh) := by
  have h : SlR X (fun x lo hi H Q => rSlF S.K x lo hi H Q ∨ rSlL S.K x lo hi H Q) := (hk ▸ sl_tupF : SlR X (rSlF S.K)).or (hk ▸ sl_list : SlR X (rSlL S.K))
  refine PE.imp (pe_slice h he hl hh) fun σ H Q ⟨ρ, M, σa, mo, rs, p⟩ => ?_
  refine use mo rs p fun d M1 ρ1 H1 v st1 r1 rs1 p1 => use st1.2 rs1 p1 fun l M2 ρ2 H2 l' st2 r2 rs2 p2 => use st2.2 rs2 p2 fun u M3 ρ3 H3 u' st3 r3 rs3 p3 => ?_
  cases (show l' = l from r2)
  cases (show u' = u from r3)
  have r := Rep.mono (st2.1.trans st3.1) _ _ r1
  have mo3 := st3.2
  unfold gSl at p3
  split at p3
  · obtain ⟨a, xs, rfl, hq, ra, hf, na⟩ := tup_of r
    refine .inl ⟨a, xs, rfl, hq, fun hw => ?_, fun _ q o hq ho => p3 ρ3 _ _ (Stp.fresh mo3 hq) (rep_tup mo3 hq ho (ra.cut _ _))⟩
    have rc := ra.cut l u
    rw [cutV_whole hw] at rc
    exact p3 ρ3 H3 _ (Stp.refl mo3) (.tup hf na rc)
  · split at p3
    · rename_i ds hs
      obtain ⟨a, xs, rfl, e1, ra⟩ := list_of mo3 r hs
      exact .inr ⟨a, xs, rfl, SqL.of e1, fun q hq => p3 ρ3 _ _ (Stp.fresh mo3 hq) (rep_lst mo3 hq (ra.cut _ _))⟩
    · exact p3.elim
end
end QX

set_option maxRecDepth 100000
set_option maxHeartbeats 1000000
/-! QX3: what is walked; comprehensions; targets -/
namespace QX
open PySem PySem.Spec PyProof.Rows L2 HX
/-! ### likeness of values -/
mutual
def D.beq : D → D → Bool
  | .non, .non => true
  | .bl a, .bl b => a == b
  | .int a, .int b => a == b
  | .str a, .str b => decide (a = b)
  | .tup a, .tup b => D.beqA a b
  | .lst a, .lst b => D.beqA a b
  | .dct k a, .dct l b => decide (k = l) && D.beqA a b
  | .scr a, .scr b => decide (a = b)
  | .ref a, .ref b => a == b
  | .adr a, .adr b => decide (a = b)
  | _, _ => false
def D.beqA : List D → List D → Bool
  | [], [] => true
  | a :: as, b :: bs => D.beq a b && D.beqA as bs
  | _, _ => false
end
mutual
theorem D.beq_eq : ∀ (a b : D), D.beq a b = true → a = b
  | .non, b, h => by cases b <;> first | rfl | (simp [D.beq] at h)
  | .bl a, b, h => by cases b <;> first | (simp [D.beq] at h; done) | (simp [D.beq] at h; rw [h])
  | .int a, b, h => by cases b <;> first | (simp [D.beq] at h; done) | (simp [D.beq] at h; rw [h])
  | .str a, b, h => by cases b <;> first | (simp [D.beq] at h; done) | (simp [D.beq] at h; rw [h])
  | .tup a, b, h => by cases b <;> first | (simp [D.beq] at h; done) | (simp only [D.beq] at h; rw [D.beqA_eq _ _ h])
  | .lst a, b, h => by cases b <;> first | (simp [D.beq] at h; done) | (simp only [D.beq] at h; rw [D.beqA_eq _ _ h])
  | .dct k a, b, h => by cases b <;> first | (simp [D.beq] at h; done) | (simp only [D.beq, Bool.and_eq_true, decide_eq_true_eq] at h; rw [h.1, D.beqA_eq _ _ h.2])
  | .scr a, b, h => by cases b <;> first | (simp [D.beq] at h; done) | (simp [D.beq] at h; rw [h])
  | .ref a, b, h => by cases b <;> first | (simp [D.beq] at h; done) | (simp [D.beq] at h; rw [h])
  | .adr a, b, h => by cases b <;> first | (simp [D.beq] at h; done) | (simp [D.beq] at h; rw [h])
theorem D.beqA_eq : ∀ (as bs : List D), D.beqA as bs = true → as = bs
  | [], b, h => by cases b <;> first | rfl | (simp [D.beqA] at h)
  | a :: as, b, h => by
    cases b with
    | nil => simp [D.beqA] at h
    | cons b bs =>
      simp only [D.beqA, Bool.and_eq_true] at h
      rw [D.beq_eq _ _ h.1, D.beqA_eq _ _ h.2]
end
mutual
theorem D.beq_refl : ∀ (a : D), D.beq a a = true
  | .non => rfl
  | .bl a => by simp [D.beq]
  | .int a => by simp [D.beq]
  | .str a => by simp [D.beq]
  | .tup a => by simp only [D.beq]; exact D.beqA_refl a
  | .lst a => by simp only [D.beq]; exact D.beqA_refl a
  | .dct k a => by simp [D.beq, D.beqA_refl a]
  | .scr a => by simp [D.beq]
  | .ref a => by simp [D.beq]
  | .adr a => by simp [D.beq]
theorem D.beqA_refl : ∀ (as : List D), D.beqA as as = true
  | [] => rfl
  | a :: as => by simp [D.beqA, D.beq_refl a, D.beqA_refl as]
end
/-! ### items -/
inductive Im where
  | d (d : D) | pr (ds : List D)
def RepI (K : PySem.W.Frag) (ρ : List Addr) (H : Hp) (v : V) : Im → Prop
  | .d d => Rep K ρ H v d
  | .pr ds => ∃ a xs, v = .ref a ∧ SqT K H a xs ∧ RepA K ρ H xs ds
structure Ita where
  items : List Im
  chk : Mem → Bool
structure ItaOk (S : Sc) (ρ : List Addr) (H : Hp) (J : It) (it : Ita) : Prop where
  go : ∀ ρ' H' M' i, Ext ρ H ρ' H' → MemOk S ρ' H' M' → it.chk M' = true → i < it.items.length → J.go i H'
  stop : ∀ ρ' H' M', Ext ρ H ρ' H' → MemOk S ρ' H' M' → it.chk M' = true → J.stop it.items.length H'
  yld : ∀ ρ' H' M' i x H2, Ext ρ H ρ' H' → MemOk S ρ' H' M' → it.chk M' = true → i < it.items.length → J.yld i H' x H2 → ∃ im, it.items[i]? = some im ∧ Stp S ρ' H' ρ' H2 M' ∧ RepI S.K ρ' H2 x im
theorem ItaOk.mono {S : Sc} {ρ ρ' : List Addr} {H H' : Hp} {J : It} {it : Ita} (h : ItaOk S ρ H J it) (e : Ext ρ H ρ' H') : ItaOk S ρ' H' J it :=
  ⟨fun ρ2 H2 M i e2 => h.go ρ2 H2 M i (e.trans e2), fun ρ2 H2 M e2 => h.stop ρ2 H2 M (e.trans e2), fun ρ2 H2 M i x H3 e2 => h.yld ρ2 H2 M i x H3 (e.trans e2)⟩
abbrev QI (S : Sc) (W : WX) (X : Cx) (tg e : Expr) (f : F Ita) : Prop := PI X tg e (tOf S W (fun ρ H J it => ItaOk S ρ H J it) f)
/-- a list or a tuple that is walked: its items, and that it is as it was -/
def chkOf (n : Nat) (ds : List D) : Mem → Bool := fun M => match M[n]? with | some (.lst es) => D.beqA es ds | none => false
def seqI (M : Mem) : D → Option (List D × (Mem → Bool))
  | .tup ds => some (ds, fun _ => true)
  | .lst ds => some (ds, fun _ => true)
  | .scr ns => some (ns.map .int, fun _ => true)
  | .ref n => match M[n]? with | some (.lst ds) => some (ds, chkOf n ds) | none => none
  | _ => none
def SeqIOk (S : Sc) (ρ : List Addr) (H : Hp) (k : Ki) (a : Addr) (ds : List D) (chk : Mem → Bool) : Prop :=
  ∀ ρ' H' M', Ext ρ H ρ' H' → MemOk S ρ' H' M' → chk M' = true → ∃ xs, SqK S.K H' k a xs ∧ RepA S.K ρ' H' xs ds
theorem seqI_ok {S : Sc} {ρ : List Addr} {H : Hp} {M : Mem} {v : V} {d : D} {ds : List D} {chk : Mem → Bool} (m : MemOk S ρ H M) (r : Rep S.K ρ H v d) (h : seqI M d = some (ds, chk)) :
    ∃ k a xs, v = .ref a ∧ SqK S.K H k a xs ∧ SeqIOk S ρ H k a ds chk := by
  cases r with
  | tup f n ra =>
    cases h
    obtain ⟨o, h1, e⟩ := id f
    refine ⟨.t, _, _, rfl, .inl (.inr ⟨o, e⟩), fun ρ' H' M' ex mo _ => ⟨_, .inl (.inr ⟨o, ex.keep _ _ e n fun _ z => nomatch z⟩), RepA.mono ex _ _ ra⟩⟩
  | lst e n ra =>
    cases h
    exact ⟨.l, _, _, rfl, SqL.of e, fun ρ' H' M' ex mo _ => ⟨_, SqL.of (ex.keep _ _ e n fun _ z => nomatch z), RepA.mono ex _ _ ra⟩⟩
  | scr f =>
    cases h
    exact ⟨.l, _, _, rfl, scr_sq f, fun ρ' H' M' ex mo _ => ⟨_, scr_sq (f.ext ex), RepA.ints _⟩⟩
  | ref e =>
    rename_i a n
    unfold seqI at h
    dsimp only at h
    split at h
    · rename_i ds' hm
      cases h
      obtain ⟨xs, e1, ra⟩ := m.cell n a _ e hm
      refine ⟨.l, a, xs, rfl, SqL.of e1, fun ρ' H' M' ex mo hc => ?_⟩
      unfold chkOf at hc
      split at hc
      · rename_i es he
        obtain rfl := D.beqA_eq _ _ hc
        obtain ⟨ys, e2, rb⟩ := mo.cell n a _ (ex.at e) he
        exact ⟨ys, SqL.of e2, rb⟩
      · cases hc
    · cases h
  | _ => cases h
section
variable {X : Cx} {S : Sc} {W : WX} {tg e e2 e3 : Expr} {pos p tpos : Pos} {fe : F D} {fs : F (List D)}
theorem PI.or {t t' : TI} (h : PI X tg e t) (h' : PI X tg e t') : PI X tg e (fun σ H R => t σ H R ∨ t' σ H R) := ⟨fun pins s σ H R I q => q.elim (h.run pins s σ H R I) (h'.run pins s σ H R I)⟩
/-- over a list or a tuple -/
def gIter (d : D) (M : Mem) : Res Ita := match seqI M d with | some (ds, chk) => .ok ⟨ds.map .d, chk⟩ M | none => .bad
def fIter (fe : F D) : F Ita := fun σ M => (fe σ M).bind gIter
def ItK (K : PySem.W.Frag) (a : Addr) : Ki → It
  | .l => Itl K a
  | .t => Itt K a
def iSeq (K : PySem.W.Frag) (tl : TE) : TI := fun σ H R => tl σ H fun x H1 => ∃ k a xs, x = .ref a ∧ SqK K H1 k a xs ∧ R (ItK K a k) H1
theorem pi_seq {l : Expr} {tl : TE} (hl : PE X l tl) : PI X tg l (iSeq X.K tl) := by
  refine ⟨fun pins s σ H R I h => ?_⟩
  refine thn (hl.run pins s σ H _ I h) fun v s1 ⟨x, H1, I1, r1, q1⟩ => ?_
  obtain ⟨k, a, xs, e, hq, q⟩ := q1
  subst e
  cases r1
  cases k with
  | l =>
    obtain ⟨its, rv, p, hz⟩ := I1.list hq
    refine wpAny_pyIter_list p.isList ?_
    refine ⟨s1.heap.objs.size, [s1.heap.objs.size], _, _, H1, rfl, I1.kept (t' := s1.toks) fun b o e => Heap.get?_push_of_some _ e, turn_list a _, ⟨_, Heap.get?_push_size _ rfl, rfl, rfl⟩, fun b hb => ?_, q⟩
    have e : b = s1.heap.objs.size := by simpa using hb
    subst e
    exact I1.fpOk (Nat.le_refl _) (I1.hok.fresh (Nat.le_refl _))
  | t =>
    obtain ⟨its, rv, p, hz⟩ := I1.tuple hq
    refine wpAny_pyIter_tuple (show s1.heap.IsTuple a its.toArray from p) ?_
    refine ⟨s1.heap.objs.size, [s1.heap.objs.size], _, _, H1, rfl, I1.kept (t' := s1.toks) fun b o e => Heap.get?_push_of_some _ e, turn_tuple a _, ⟨_, Heap.get?_push_size _ rfl, rfl, rfl⟩, fun b hb => ?_, q⟩
    have e : b = s1.heap.objs.size := by simpa using hb
    subst e
    exact I1.fpOk (Nat.le_refl _) (I1.hok.fresh (Nat.le_refl _))
theorem at_of {S : Sc} {ρ : List Addr} {H : Hp} {xs : List V} {ds : List D} {i : Nat} (r : RepA S.K ρ H xs ds) (h : i < ds.length) : ∃ v d, xs[i]? = some v ∧ ds[i]? = some d ∧ Rep S.K ρ H v d := by
  obtain ⟨v, h1, h2⟩ := r.at (List.getElem?_eq_getElem h)
  exact ⟨v, _, h1, List.getElem?_eq_getElem h, h2⟩
theorem ok_iter {ρ : List Addr} {H : Hp} {k : Ki} {a : Addr} {ds : List D} {chk : Mem → Bool} (s : SeqIOk S ρ H k a ds chk) : ItaOk S ρ H (ItK S.K a k) ⟨ds.map .d, chk⟩ := by
  refine ⟨fun ρ' H' M' i ex mo hc hi => ?_, fun ρ' H' M' ex mo hc => ?_, fun ρ' H' M' i x H2 ex mo hc hi y => ?_⟩
  all_goals obtain ⟨xs, hq, ra⟩ := s ρ' H' M' ex mo hc
  · rw [List.length_map] at hi
    obtain ⟨v, d, h1, h2, _⟩ := at_of ra hi
    cases k with
    | l => exact ⟨xs, v, hq, h1⟩
    | t => exact ⟨xs, v, hq, h1⟩
  · show (ItK S.K a k).stop (ds.map Im.d).length H'
    rw [List.length_map, ← ra.len]
    cases k with
    | l => exact ⟨xs, hq, Nat.le_refl _⟩
    | t => exact ⟨xs, hq, Nat.le_refl _⟩
  · rw [List.length_map] at hi
    obtain ⟨v, d, h1, h2, rv⟩ := at_of ra hi
    have e : (ds.map Im.d)[i]? = some (.d d) := by rw [List.getElem?_map, h2]; rfl
    cases k with
    | l =>
      obtain ⟨rfl, y2⟩ := y
      obtain rfl := Option.some.inj ((y2 xs hq).symm.trans h1)
      exact ⟨_, e, Stp.refl mo, rv⟩
    | t =>
      obtain ⟨rfl, y2⟩ := y
      obtain rfl := Option.some.inj ((y2 xs hq).symm.trans h1)
      exact ⟨_, e, Stp.refl mo, rv⟩
theorem qi_seq (hk : X.K = S.K) (he : QE S W X e fe) : QI S W X tg e (fIter fe) := by
  have h : PI X tg e (iSeq S.K (tOf S W (Rep S.K) fe)) := by
    have h := pi_seq (tg := tg) he
    rw [hk] at h
    exact h
  refine PI.imp h fun σ H R ⟨ρ, M, σa, mo, rs, p⟩ => ?_
  refine use mo rs p fun d M1 ρ1 H1 v st1 r1 rs1 p1 => ?_
  unfold gIter at p1
  split at p1
  · rename_i ds chk hs
    obtain ⟨k, a, xs, rfl, hq, ok⟩ := seqI_ok st1.2 r1 hs
    exact ⟨k, a, xs, rfl, hq, p1 ρ1 H1 _ (Stp.refl st1.2) (ok_iter ok)⟩
  · exact p1.elim
/-! ### range -/
def nums (lo : Int) : Nat → List Im
  | 0 => []
  | n + 1 => .d (.int lo) :: nums (lo + 1) n
theorem nums_len : ∀ (n : Nat) (lo : Int), (nums lo n).length = n
  | 0, _ => rfl
  | n + 1, lo => by rw [nums, List.length_cons, nums_len n]
theorem nums_at : ∀ (n : Nat) (lo : Int) (i : Nat), i < n → (nums lo n)[i]? = some (.d (.int (lo + i)))
  | n + 1, lo, 0, _ => by simp [nums]
  | n + 1, lo, i + 1, h => by
    rw [nums, List.getElem?_cons_succ, nums_at n (lo + 1) i (by omega)]
    congr 3
    omega
theorem ok_range {ρ : List Addr} {H : Hp} {lo : Int} {n : Nat} : ItaOk S ρ H (Itr lo n) ⟨nums lo n, fun _ => true⟩ := by
  refine ⟨fun ρ' H' M' i ex mo hc hi => ?_, fun ρ' H' M' ex mo hc => ?_, fun ρ' H' M' i x H2 ex mo hc hi y => ?_⟩
  · rw [nums_len] at hi; exact hi
  · exact Nat.le_of_eq (nums_len n lo).symm
  · rw [nums_len] at hi
    obtain ⟨rfl, rfl⟩ := y
    exact ⟨_, nums_at n lo i hi, Stp.refl mo, .int _⟩
abbrev mid (i : Int) : Bool := decide (-4611686018427387904 ≤ i) && decide (i < 4611686018427387904)
theorem mid_ok {i : Int} (h : mid i = true) : -(2 ^ 62) ≤ i ∧ i < 2 ^ 62 := by
  rw [Bool.and_eq_true, decide_eq_true_eq, decide_eq_true_eq] at h
  exact ⟨by omega, by omega⟩
def gRange1 : List D → Mem → Res Ita
  | [.int j], M => if mid j = true then .ok ⟨nums 0 j.toNat, fun _ => true⟩ M else .bad
  | _, _ => .bad
def gRange2 : List D → Mem → Res Ita
  | [.int i, .int j], M => if (mid i && mid j) = true then .ok ⟨nums i (j - i).toNat, fun _ => true⟩ M else .bad
  | _, _ => .bad
def fIt (g : List D → Mem → Res Ita) (fs : F (List D)) : F Ita := fun σ M => (fs σ M).bind g
theorem RepA.one {K : PySem.W.Frag} {ρ : List Addr} {H : Hp} {vs : List V} {d : D} (r : RepA K ρ H vs [d]) : ∃ v, vs = [v] ∧ Rep K ρ H v d := by
  cases r with
  | cons h t => cases t; exact ⟨_, rfl, h⟩
theorem RepA.two {K : PySem.W.Frag} {ρ : List Addr} {H : Hp} {vs : List V} {d d2 : D} (r : RepA K ρ H vs [d, d2]) : ∃ v v2, vs = [v, v2] ∧ Rep K ρ H v d ∧ Rep K ρ H v2 d2 := by
  cases r with
  | cons h t =>
    obtain ⟨v, rfl, h2⟩ := RepA.one t
    exact ⟨_, _, rfl, h, h2⟩
theorem RepA.three {K : PySem.W.Frag} {ρ : List Addr} {H : Hp} {vs : List V} {d d2 d3 : D} (r : RepA K ρ H vs [d, d2, d3]) : ∃ v v2 v3, vs = [v, v2, v3] ∧ Rep K ρ H v d ∧ Rep K ρ H v2 d2 ∧ Rep K ρ H v3 d3 := by
  cases r with
  | cons h t =>
    obtain ⟨v, v2, rfl, h2, h3⟩ := RepA.two t
    exact ⟨_, _, _, rfl, h, h2, h3⟩
theorem qi_range1 (hg : Gl X "range") (hm : X.mg "range" = none) (ha : QA S W X [e] fs) (hs : starEach [e] X.env = [(false, eval e X.env)] := by rfl) : QI S W X tg (.Call (.Name "range" p) [e] [] pos) (fIt gRange1 fs) := by
  refine PI.imp (pi_range1 hg hm ha hs) fun σ H R ⟨ρ, M, σa, mo, rs, p⟩ => ?_
  refine use mo rs p fun ds M1 ρ1 H1 vs st1 r1 rs1 p1 => ?_
  unfold gRange1 at p1
  split at p1
  · obtain ⟨v, rfl, rv⟩ := RepA.one r1
    cases rv
    split at p1
    · rename_i hm
      exact ⟨_, rfl, (mid_ok hm).1, (mid_ok hm).2, p1 ρ1 H1 _ (Stp.refl st1.2) ok_range⟩
    · exact p1.elim
  · exact p1.elim
theorem qi_range2 (hg : Gl X "range") (hm : X.mg "range" = none) (ha : QA S W X [e, e2] fs) (hs : starEach [e, e2] X.env = [(false, eval e X.env), (false, eval e2 X.env)] := by rfl) (hs2 : starEach [e2] X.env = [(false, eval e2 X.env)] := by rfl) : QI S W X tg (.Call (.Name "range" p) [e, e2] [] pos) (fIt gRange2 fs) := by
  refine PI.imp (pi_range2 hg hm ha hs hs2) fun σ H R ⟨ρ, M, σa, mo, rs, p⟩ => ?_
  refine use mo rs p fun ds M1 ρ1 H1 vs st1 r1 rs1 p1 => ?_
  unfold gRange2 at p1
  split at p1
  · obtain ⟨v, v2, rfl, rv, rv2⟩ := RepA.two r1
    cases rv
    cases rv2
    split at p1
    · rename_i hm
      rw [Bool.and_eq_true] at hm
      exact ⟨_, _, rfl, ⟨(mid_ok hm.1).1, (mid_ok hm.1).2, (mid_ok hm.2).1, (mid_ok hm.2).2⟩, p1 ρ1 H1 _ (Stp.refl st1.2) ok_range⟩
    · exact p1.elim
  · exact p1.elim
/-! ### zip, enumerate -/
def zip2 : List D → List D → List Im
  | a :: as, b :: bs => .pr [a, b] :: zip2 as bs
  | _, _ => []
def zip3 : List D → List D → List D → List Im
  | a :: as, b :: bs, c :: cs => .pr [a, b, c] :: zip3 as bs cs
  | _, _, _ => []
def enumI (i : Int) : List D → List Im
  | [] => []
  | a :: as => .pr [.int i, a] :: enumI (i + 1) as
theorem zip2_len : ∀ (as bs : List D), (zip2 as bs).length = min as.length bs.length
  | [], bs => by simp [zip2]
  | a :: as, [] => by simp [zip2]
  | a :: as, b :: bs => by simp only [zip2, List.length_cons, zip2_len as bs]; omega
theorem zip2_at : ∀ (as bs : List D) (i : Nat) (a b : D), as[i]? = some a → bs[i]? = some b → (zip2 as bs)[i]? = some (.pr [a, b])
  | x :: as, y :: bs, 0, a, b, h1, h2 => by simp at h1 h2; simp [zip2, h1, h2]
  | x :: as, y :: bs, i + 1, a, b, h1, h2 => by
    rw [zip2, List.getElem?_cons_succ]
    exact zip2_at as bs i a b (by simpa using h1) (by simpa using h2)
  | [], _, _, _, _, h, _ => by simp at h
  | _ :: _, [], _, _, _, _, h => by simp at h
theorem zip3_len : ∀ (as bs cs : List D), (zip3 as bs cs).length = min (min as.length bs.length) cs.length
  | [], bs, cs => by simp [zip3]
  | a :: as, [], cs => by simp [zip3]
  | a :: as, b :: bs, [] => by simp [zip3]
  | a :: as, b :: bs, c :: cs => by simp only [zip3, List.length_cons, zip3_len as bs cs]; omega
theorem zip3_at : ∀ (as bs cs : List D) (i : Nat) (a b c : D), as[i]? = some a → bs[i]? = some b → cs[i]? = some c → (zip3 as bs cs)[i]? = some (.pr [a, b, c])
  | x :: as, y :: bs, z :: cs, 0, a, b, c, h1, h2, h3 => by simp at h1 h2 h3; simp [zip3, h1, h2, h3]
  | x :: as, y :: bs, z :: cs, i + 1, a, b, c, h1, h2, h3 => by
    rw [zip3, List.getElem?_cons_succ]
    exact zip3_at as bs cs i a b c (by simpa using h1) (by simpa using h2) (by simpa using h3)
  | [], _, _, _, _, _, _, h, _, _ => by simp at h
  | _ :: _, [], _, _, _, _, _, _, h, _ => by simp at h
  | _ :: _, _ :: _, [], _, _, _, _, _, _, h => by simp at h
theorem enum_len : ∀ (as : List D) (i : Int), (enumI i as).length = as.length
  | [], _ => rfl
  | a :: as, i => by simp only [enumI, List.length_cons, enum_len as]
theorem enum_at : ∀ (as : List D) (k : Int) (i : Nat) (a : D), as[i]? = some a → (enumI k as)[i]? = some (.pr [.int (k + i), a])
  | x :: as, k, 0, a, h => by simp at h; simp [enumI, h]
  | x :: as, k, i + 1, a, h => by
    rw [enumI, List.getElem?_cons_succ, enum_at as (k + 1) i a (by simpa using h)]
    congr 4
    omega
  | [], _, _, _, h => by simp at h
def gZip2 : List D → Mem → Res Ita
  | [a, b], M => match seqI M a, seqI M b with | some (x, c), some (y, c') => .ok ⟨zip2 x y, fun M => c M && c' M⟩ M | _, _ => .bad
  | _, _ => .bad
def gZip3 : List D → Mem → Res Ita
  | [a, b, c], M => match seqI M a, seqI M b, seqI M c with | some (x, c1), some (y, c2), some (z, c3) => .ok ⟨zip3 x y z, fun M => c1 M && (c2 M && c3 M)⟩ M | _, _, _ => .bad
  | _, _ => .bad
def gEnum : List D → Mem → Res Ita
  | [a], M => match seqI M a with | some (x, c) => .ok ⟨enumI 0 x, c⟩ M | none => .bad
  | _, _ => .bad
theorem pair_ok {ρ : List Addr} {H : Hp} {M : Mem} {U : Addr} {xs : List V} {ds : List D} (mo : MemOk S ρ H M) (h : H U = none) (r : RepA S.K ρ H xs ds) : Stp S ρ H ρ (upd H U (.tup xs)) M ∧ RepI S.K ρ (upd H U (.tup xs)) (.ref U) (.pr ds) :=
  ⟨Stp.fresh mo h, U, xs, rfl, SqT.of upd_same, RepA.mono (Ext.fresh h) _ _ r⟩
theorem qi_zip2 {elts : List Expr} {kk : Nat} (hk : X.K = S.K) (hg : Gl X "zip") (hm : X.mg "zip" = none) (ha : QA S W X [e, e2] fs) (hs : starEach [e, e2] X.env = (false, eval e X.env) :: starEach [e2] X.env := by rfl) (hpl : (backTo pos (starEach [e2] X.env)).any (·.1) = false := by rfl) :
    QI S W X (.Tuple elts kk tpos) (.Call (.Name "zip" p) [e, e2] [] pos) (fIt gZip2 fs) := by
  have h : PI X (.Tuple elts kk tpos) (.Call (.Name "zip" p) [e, e2] [] pos) (iZip2 S.K (tOf S W (RepA S.K) fs)) := by
    have h := pi_zip2 (elts := elts) (kk := kk) (tpos := tpos) (p := p) hg hm ha hs hpl
    rw [hk] at h
    exact h
  refine PI.imp h fun σ H R ⟨ρ, M, σa, mo, rs, p⟩ => ?_
  refine use mo rs p fun ds M1 ρ1 H1 vs st1 r1 rs1 p1 => ?_
  unfold gZip2 at p1
  split at p1
  · obtain ⟨v, v2, rfl, rv, rv2⟩ := RepA.two r1
    split at p1
    · rename_i x c y c' h1 h2
      obtain ⟨k1, a1, xs1, rfl, q1, ok1⟩ := seqI_ok st1.2 rv h1
      obtain ⟨k2, a2, xs2, rfl, q2, ok2⟩ := seqI_ok st1.2 rv2 h2
      refine ⟨k1, a1, k2, a2, xs1, xs2, rfl, q1, q2, p1 ρ1 H1 _ (Stp.refl st1.2) ?_⟩
      refine ⟨fun ρ' H' M' i ex mo hc hi => ?_, fun ρ' H' M' ex mo hc => ?_, fun ρ' H' M' i z H2 ex mo hc hi w => ?_⟩
      all_goals (dsimp only at hc; rw [Bool.and_eq_true] at hc; obtain ⟨ys1, e1, ra1⟩ := ok1 ρ' H' M' ex mo hc.1; obtain ⟨ys2, e2, ra2⟩ := ok2 ρ' H' M' ex mo hc.2)
      · dsimp only at hi
        rw [zip2_len] at hi
        obtain ⟨v1, d1, g1, g1', _⟩ := at_of ra1 (show i < x.length by omega)
        obtain ⟨v2, d2, g2, g2', _⟩ := at_of ra2 (show i < y.length by omega)
        exact ⟨ys1, ys2, v1, v2, e1, e2, g1, g2⟩
      · refine ⟨ys1, ys2, e1, e2, ?_⟩
        dsimp only
        rw [zip2_len, ra1.len, ra2.len]
      · dsimp only at hi ⊢
        rw [zip2_len] at hi
        obtain ⟨v1, d1, g1, g1', rr1⟩ := at_of ra1 (show i < x.length by omega)
        obtain ⟨v2, d2, g2, g2', rr2⟩ := at_of ra2 (show i < y.length by omega)
        obtain ⟨U, u1, u2, rfl, hU, rfl, w1, w2⟩ := w
        obtain rfl := Option.some.inj ((w1 ys1 e1).symm.trans g1)
        obtain rfl := Option.some.inj ((w2 ys2 e2).symm.trans g2)
        exact ⟨_, zip2_at _ _ _ _ _ g1' g2', pair_ok mo hU (.cons rr1 (.cons rr2 .nil))⟩
    · exact p1.elim
  · exact p1.elim
theorem qi_zip3 {elts : List Expr} {kk : Nat} (hk : X.K = S.K) (hg : Gl X "zip") (hm : X.mg "zip" = none) (ha : QA S W X [e, e2, e3] fs) (hs : starEach [e, e2, e3] X.env = (false, eval e X.env) :: starEach [e2, e3] X.env := by rfl) (hpl : (backTo pos (starEach [e2, e3] X.env)).any (·.1) = false := by rfl) :
    QI S W X (.Tuple elts kk tpos) (.Call (.Name "zip" p) [e, e2, e3] [] pos) (fIt gZip3 fs) := by
  have h : PI X (.Tuple elts kk tpos) (.Call (.Name "zip" p) [e, e2, e3] [] pos) (iZip3 S.K (tOf S W (RepA S.K) fs)) := by
    have h := pi_zip3 (elts := elts) (kk := kk) (tpos := tpos) (p := p) hg hm ha hs hpl
    rw [hk] at h
    exact h
  refine PI.imp h fun σ H R ⟨ρ, M, σa, mo, rs, p⟩ => ?_
  refine use mo rs p fun ds M1 ρ1 H1 vs st1 r1 rs1 p1 => ?_
  unfold gZip3 at p1
  split at p1
  · obtain ⟨v, v2, v3, rfl, rv, rv2, rv3⟩ := RepA.three r1
    split at p1
    · rename_i x c y c' z c'' h1 h2 h3
      obtain ⟨k1, a1, xs1, rfl, q1, ok1⟩ := seqI_ok st1.2 rv h1
      obtain ⟨k2, a2, xs2, rfl, q2, ok2⟩ := seqI_ok st1.2 rv2 h2
      obtain ⟨k3, a3, xs3, rfl, q3, ok3⟩ := seqI_ok st1.2 rv3 h3
      refine ⟨k1, a1, k2, a2, k3, a3, xs1, xs2, xs3, rfl, q1, q2, q3, p1 ρ1 H1 _ (Stp.refl st1.2) ?_⟩
      refine ⟨fun ρ' H' M' i ex mo hc hi => ?_, fun ρ' H' M' ex mo hc => ?_, fun ρ' H' M' i u H2 ex mo hc hi w => ?_⟩
      all_goals (dsimp only at hc; rw [Bool.and_eq_true, Bool.and_eq_true] at hc; obtain ⟨ys1, e1, ra1⟩ := ok1 ρ' H' M' ex mo hc.1; obtain ⟨ys2, e2, ra2⟩ := ok2 ρ' H' M' ex mo hc.2.1; obtain ⟨ys3, e3, ra3⟩ := ok3 ρ' H' M' ex mo hc.2.2)
      · dsimp only at hi
        rw [zip3_len] at hi
        obtain ⟨v1, d1, g1, g1', _⟩ := at_of ra1 (show i < x.length by omega)
        obtain ⟨v2, d2, g2, g2', _⟩ := at_of ra2 (show i < y.length by omega)
        obtain ⟨v3, d3, g3, g3', _⟩ := at_of ra3 (show i < z.length by omega)
        exact ⟨ys1, ys2, ys3, v1, v2, v3, e1, e2, e3, g1, g2, g3⟩
      · refine ⟨ys1, ys2, ys3, e1, e2, e3, ?_⟩
        dsimp only
        rw [zip3_len, ra1.len, ra2.len, ra3.len]
      · dsimp only at hi ⊢
        rw [zip3_len] at hi
        obtain ⟨v1, d1, g1, g1', rr1⟩ := at_of ra1 (show i < x.length by omega)
        obtain ⟨v2, d2, g2, g2', rr2⟩ := at_of ra2 (show i < y.length by omega)
        obtain ⟨v3, d3, g3, g3', rr3⟩ := at_of ra3 (show i < z.length by omega)
        obtain ⟨U, u1, u2, u3, rfl, hU, rfl, w1, w2, w3⟩ := w
        obtain rfl := Option.some.inj ((w1 ys1 e1).symm.trans g1)
        obtain rfl := Option.some.inj ((w2 ys2 e2).symm.trans g2)
        obtain rfl := Option.some.inj ((w3 ys3 e3).symm.trans g3)
        exact ⟨_, zip3_at _ _ _ _ _ _ _ g1' g2' g3', pair_ok mo hU (.cons rr1 (.cons rr2 (.cons rr3 .nil)))⟩
    · exact p1.elim
  · exact p1.elim
theorem qi_enum {elts : List Expr} {kk : Nat} (hk : X.K = S.K) (hg : Gl X "enumerate") (hm : X.mg "enumerate" = none) (ha : QA S W X [e] fs) (hs : starEach [e] X.env = [(false, eval e X.env)] := by rfl) :
    QI S W X (.Tuple elts kk tpos) (.Call (.Name "enumerate" p) [e] [] pos) (fIt gEnum fs) := by
  have h : PI X (.Tuple elts kk tpos) (.Call (.Name "enumerate" p) [e] [] pos) (iEnumK S.K (tOf S W (RepA S.K) fs)) := by
    have h := pi_enumT (elts := elts) (kk := kk) (tpos := tpos) (p := p) (pos := pos) hg hm ha hs
    rw [hk] at h
    exact h
  refine PI.imp h fun σ H R ⟨ρ, M, σa, mo, rs, p⟩ => ?_
  refine use mo rs p fun ds M1 ρ1 H1 vs st1 r1 rs1 p1 => ?_
  unfold gEnum at p1
  split at p1
  · obtain ⟨v, rfl, rv⟩ := RepA.one r1
    split at p1
    · rename_i x c h1
      obtain ⟨k1, a1, xs1, rfl, q1, ok1⟩ := seqI_ok st1.2 rv h1
      refine ⟨k1, a1, xs1, rfl, q1, p1 ρ1 H1 _ (Stp.refl st1.2) ?_⟩
      refine ⟨fun ρ' H' M' i ex mo hc hi => ?_, fun ρ' H' M' ex mo hc => ?_, fun ρ' H' M' i z H2 ex mo hc hi w => ?_⟩
      all_goals obtain ⟨ys1, e1, ra1⟩ := ok1 ρ' H' M' ex mo hc
      · dsimp only at hi
        rw [enum_len] at hi
        obtain ⟨v1, d1, g1, g1', _⟩ := at_of ra1 hi
        exact ⟨ys1, v1, e1, g1⟩
      · refine ⟨ys1, e1, ?_⟩
        dsimp only
        rw [enum_len, ra1.len]
      · dsimp only at hi ⊢
        rw [enum_len] at hi
        obtain ⟨v1, d1, g1, g1', rr1⟩ := at_of ra1 hi
        obtain ⟨U, u1, rfl, hU, rfl, w1⟩ := w
        obtain rfl := Option.some.inj ((w1 ys1 e1).symm.trans g1)
        refine ⟨_, enum_at _ _ _ _ g1', pair_ok mo hU (.cons ?_ (.cons rr1 .nil))⟩
        rw [Int.zero_add]
        exact .int _
    · exact p1.elim
  · exact p1.elim
end
end QX

set_option maxRecDepth 100000
set_option maxHeartbeats 1000000
/-! QX4: cells that nobody holds any more are forgotten; targets; comprehensions -/
namespace QX
open PySem PySem.Spec PyProof.Rows L2 HX
mutual
/-- all cells that it names are below n -/
def D.und (n : Nat) : D → Bool
  | .tup ds => D.undA n ds
  | .lst ds => D.undA n ds
  | .dct _ ds => D.undA n ds
  | .ref m => Nat.blt m n
  | _ => true
def D.undA (n : Nat) : List D → Bool
  | [] => true
  | d :: ds => D.und n d && D.undA n ds
end
def Cell.und (n : Nat) : Cell → Bool
  | .lst ds => D.undA n ds
def closed (n : Nat) (M : Mem) : Bool := (M.take n).all (Cell.und n)
def resL (g : D → Option D) : List D → Option (List D)
  | [] => some []
  | d :: ds => match g d, resL g ds with | some a, some b => some (a :: b) | _, _ => none
/-- the cells from n on, by what they hold -/
def D.res : Nat → Nat → Mem → D → Option D
  | 0, n, _, d => if d.und n = true then some d else none
  | k + 1, n, M, d => if d.und n = true then some d else match d with
    | .tup ds => (resL (D.res k n M) ds).map .tup
    | .lst ds => (resL (D.res k n M) ds).map .lst
    | .ref m => (match M[m]? with | some (.lst ds) => (resL (D.res k n M) ds).map .lst | none => none)
    | _ => none
def trimR (n : Nat) : Res D → Res D
  | .ok d M => if Nat.ble M.length n = true then .ok d M else (match D.res 5 n M d with | some d' => if closed n M = true then .ok d' (M.take n) else .bad | none => .bad)
  | .exc c fs M => if Nat.ble M.length n = true then .exc c fs M else if (fs.all (fun p => p.2.und n) && closed n M) = true then .exc c fs (M.take n) else .bad
  | .bad => .bad
section
variable {K : PySem.W.Frag} {ρ more : List Addr} {H : Hp}
mutual
theorem Rep.down : ∀ (d : D) (v : V), d.und ρ.length = true → Rep K (ρ ++ more) H v d → Rep K ρ H v d
  | .non, _, _, h => by cases h; exact .non
  | .bl b, _, _, h => by cases h; exact .bl b
  | .int i, _, _, h => by cases h; exact .int i
  | .str x, _, _, h => by cases h; exact .str x
  | .tup ds, _, b, h => by
    cases h with
    | tup f n ha => exact .tup f (fun z => n (List.mem_append_left _ z)) (RepA.down ds _ (by simpa only [D.und] using b) ha)
  | .lst ds, _, b, h => by
    cases h with
    | lst f n ha => exact .lst f (fun z => n (List.mem_append_left _ z)) (RepA.down ds _ (by simpa only [D.und] using b) ha)
  | .dct ks ds, _, b, h => by
    cases h with
    | dct f n hk ha => exact .dct f (fun z => n (List.mem_append_left _ z)) hk (RepA.down ds _ (by simpa only [D.und] using b) ha)
  | .scr ns, _, _, h => by
    cases h with
    | scr f => exact .scr (f.imp (fun ⟨a, n⟩ => ⟨a, fun z => n (List.mem_append_left _ z)⟩) id)
  | .ref n, _, b, h => by
    cases h with
    | ref f =>
      have hn : n < ρ.length := by simpa only [D.und, Nat.blt_eq] using b
      rw [List.getElem?_append_left hn] at f
      exact .ref f
  | .adr v, _, _, h => by cases h; exact .adr v
theorem RepA.down : ∀ (ds : List D) (vs : List V), D.undA ρ.length ds = true → RepA K (ρ ++ more) H vs ds → RepA K ρ H vs ds
  | [], _, _, h => by cases h; exact .nil
  | d :: ds, _, b, h => by
    simp only [D.undA, Bool.and_eq_true] at b
    cases h with
    | cons h1 h2 => exact .cons (Rep.down d _ b.1 h1) (RepA.down ds _ b.2 h2)
end
theorem resL_ok {g : D → Option D} (hg : ∀ d d' v, g d = some d' → Rep K (ρ ++ more) H v d → Rep K ρ H v d') : ∀ (ds ds' : List D) (vs : List V), resL g ds = some ds' → RepA K (ρ ++ more) H vs ds → RepA K ρ H vs ds'
  | [], ds', vs, h, r => by
    cases h
    cases r
    exact .nil
  | d :: ds, ds', vs, h, r => by
    cases r with
    | cons r1 r2 =>
      unfold resL at h
      split at h
      · rename_i a b h1 h2
        cases h
        exact .cons (hg _ _ _ h1 r1) (resL_ok hg ds _ _ h2 r2)
      · cases h
theorem res_ok {S : Sc} {M : Mem} (mo : MemOk S (ρ ++ more) H M) : ∀ (k : Nat) (d d' : D) (v : V), D.res k ρ.length M d = some d' → Rep S.K (ρ ++ more) H v d → Rep S.K ρ H v d'
  | 0, d, d', v, h, r => by
    unfold D.res at h
    split at h
    · cases h
      exact Rep.down d v (by assumption) r
    · cases h
  | k + 1, d, d', v, h, r => by
    unfold D.res at h
    split at h
    · cases h
      exact Rep.down d v (by assumption) r
    · rename_i hb
      have ih := res_ok mo k
      split at h
      · rename_i ds
        cases e : resL (D.res k ρ.length M) ds with
        | none => rw [e] at h; cases h
        | some es =>
          rw [e] at h
          cases h
          cases r with
          | tup f n ha => exact .tup f (fun z => n (List.mem_append_left _ z)) (resL_ok (fun a b c => ih a b c) ds es _ e ha)
      · rename_i ds
        cases e : resL (D.res k ρ.length M) ds with
        | none => rw [e] at h; cases h
        | some es =>
          rw [e] at h
          cases h
          cases r with
          | lst f n ha => exact .lst f (fun z => n (List.mem_append_left _ z)) (resL_ok (fun a b c => ih a b c) ds es _ e ha)
      · rename_i m
        split at h
        · rename_i ds hm
          cases e : resL (D.res k ρ.length M) ds with
          | none => rw [e] at h; cases h
          | some es =>
            rw [e] at h
            cases h
            cases r with
            | ref f =>
              obtain ⟨xs, e1, ra⟩ := mo.cell _ _ _ f hm
              refine .lst e1 (fun z => ?_) (resL_ok (fun a b c => ih a b c) ds es _ e ra)
              have hge : ρ.length ≤ m := by
                simp only [D.und, Nat.blt_eq] at hb
                omega
              rw [List.getElem?_append_right hge] at f
              exact (List.nodup_append.mp mo.nd).2.2 _ z _ (List.mem_of_getElem? f) rfl
        · cases h
      · cases h
theorem mem_down {S : Sc} {M : Mem} (mo : MemOk S (ρ ++ more) H M) (hc : closed ρ.length M = true) : MemOk S ρ H (M.take ρ.length) := by
  have hl : ρ.length ≤ M.length := by
    have := mo.len
    rw [List.length_append] at this
    omega
  refine ⟨by rw [List.length_take]; omega, (List.nodup_append.mp mo.nd).1, fun n a c h1 h2 => ?_, mo.tab⟩
  have hn := (List.getElem?_eq_some_iff.mp h1).1
  rw [List.getElem?_take, if_pos hn] at h2
  have ok := mo.cell n a c (by rw [List.getElem?_append_left hn]; exact h1) h2
  have hb : Cell.und ρ.length c = true := by
    unfold closed at hc
    rw [List.all_eq_true] at hc
    refine hc c (List.mem_of_getElem? (i := n) ?_)
    rw [List.getElem?_take, if_pos hn]
    exact h2
  cases c with
  | lst ds =>
    obtain ⟨xs, e, ra⟩ := ok
    exact ⟨xs, e, RepA.down ds _ hb ra⟩
end
section
variable {S : Sc} {W : WX} {σ : L2.St} {ρ : List Addr} {H : Hp} {M : Mem} {Q : VK}
theorem Post.trim {r : Res D} (mo : MemOk S ρ H M) (h : Post S W (Rep S.K) σ ρ H Q (trimR M.length r)) : Post S W (Rep S.K) σ ρ H Q r := by
  rw [← mo.len] at h
  cases r with
  | ok d M' =>
    unfold trimR at h
    dsimp only at h
    split at h
    · exact h
    split at h
    · rename_i d' hd
      split at h
      · rename_i hc
        intro ρ' H' v st rv
        obtain ⟨e, m'⟩ := st
        obtain ⟨more, rfl, hm⟩ := e.pre
        exact h ρ H' v ⟨⟨⟨[], by simp, by simp⟩, e.keep, e.live⟩, mem_down m' hc⟩ (res_ok m' 5 d d' v hd rv)
      · exact h.elim
    · exact h.elim
  | exc c fs M' =>
    unfold trimR at h
    dsimp only at h
    split at h
    · exact h
    split at h
    · rename_i hc
      rw [Bool.and_eq_true] at hc
      intro ρ' H' d st rx
      obtain ⟨e, m'⟩ := st
      obtain ⟨more, rfl, hm⟩ := e.pre
      refine h ρ H' d ⟨⟨⟨[], by simp, by simp⟩, e.keep, e.live⟩, mem_down m' hc.2⟩ ?_
      cases d with
      | none => exact rx
      | some a =>
        obtain ⟨n1, vs, e1, e2, e3, e4⟩ := rx
        refine ⟨fun z => n1 (List.mem_append_left _ z), vs, e1, e2, RepA.down _ _ ?_ e3, e4⟩
        have ha := hc.1
        clear hc e1 e2 e3 e4 h m'
        induction fs with
        | nil => rfl
        | cons p fs ih =>
          rw [List.all_cons, Bool.and_eq_true] at ha
          rw [List.map_cons, D.undA, ha.1, ih ha.2]
          rfl
    · exact h.elim
  | bad => exact h
def fTrim (f : F D) : F D := fun σ M => trimR M.length (f σ M)
theorem qe_trim {X : Cx} {e : Expr} {f : F D} (h : QE S W X e f) : QE S W X e (fTrim f) := PE.imp h fun σ H Q ⟨ρ, M, σa, mo, rs, p⟩ => ⟨ρ, M, σa, mo, rs, Post.trim mo p⟩
end
/-! ### targets -/
inductive Tg where
  | name (i : Nat) | tup (is : List Nat)
def setAll : Sa → List Nat → List D → Sa
  | σ, i :: is, d :: ds => setAll (σ.set i (some d)) is ds
  | σ, _, _ => σ
def Tg.put : Tg → Im → Sa → Option Sa
  | .name i, .d d, σ => some (σ.set i (some d))
  | .tup is, .d (.tup ds), σ => if ds.length == is.length then some (setAll σ is ds) else none
  | .tup is, .pr ds, σ => if ds.length == is.length then some (setAll σ is ds) else none
  | _, _, _ => none
def Tg.slots : Tg → List Nat
  | .name i => [i]
  | .tup is => is
def gNames : List Nat → TGs
  | [] => gNil
  | i :: is => gCons (gName i) (gNames is)
def gOf (K : PySem.W.Frag) : Tg → TG
  | .name i => gName i
  | .tup is => gTup K is.length (gNames is)
theorem wipe_get (σ : L2.St) : ∀ (vs : List Nat) (j : Nat), (wipe σ vs)[j]? = if j ∈ vs then σ[j]?.map (fun _ => none) else σ[j]?
  | [], j => by simp [wipe]
  | v :: vs, j => by
    rw [wipe, List.getElem?_set]
    have hl := wipe_length σ vs
    by_cases h : v = j
    · subst h
      rw [if_pos rfl, if_pos List.mem_cons_self, hl]
      by_cases hv : v < σ.length
      · rw [if_pos hv, List.getElem?_eq_getElem hv]; rfl
      · rw [if_neg hv, List.getElem?_eq_none (by omega)]; rfl
    · rw [if_neg h, wipe_get σ vs j]
      by_cases hm : j ∈ vs
      · rw [if_pos hm, if_pos (List.mem_cons_of_mem _ hm)]
      · rw [if_neg hm, if_neg (fun z => (List.mem_cons.mp z).elim (fun e => h e.symm) hm)]
theorem wipe_set {σ : L2.St} {i : Nat} {x : Option V} {vs : List Nat} (h : i ∈ vs) : wipe (σ.set i x) vs = wipe σ vs := by
  refine List.ext_getElem? fun j => ?_
  rw [wipe_get, wipe_get]
  by_cases hj : j ∈ vs
  · rw [if_pos hj, if_pos hj, List.getElem?_set]
    by_cases e : i = j
    · subst e
      rw [if_pos rfl]
      by_cases hl : i < σ.length
      · rw [if_pos hl, List.getElem?_eq_getElem hl]; rfl
      · rw [if_neg hl, List.getElem?_eq_none (by omega)]
    · rw [if_neg e]
  · rw [if_neg hj, if_neg hj, List.getElem?_set_ne (fun e => hj (by rw [← e]; exact h))]
def wipeA (σ : Sa) : List Nat → Sa
  | [] => σ
  | v :: vs => (wipeA σ vs).set v none
theorem RepSt.forget {K : PySem.W.Frag} {ρ : List Addr} {H : Hp} {σ : L2.St} {σa : Sa} (h : RepSt K ρ H σ σa) (i : Nat) : RepSt K ρ H (σ.set i none) (σa.set i none) := by
  refine ⟨by rw [List.length_set, List.length_set]; exact h.1, fun j d e => ?_⟩
  by_cases hj : i = j
  · subst hj
    by_cases hl : i < σa.length
    · rw [List.getElem?_set_self hl] at e; cases e
    · rw [List.getElem?_eq_none (by rw [List.length_set]; omega)] at e; cases e
  · rw [List.getElem?_set_ne hj] at e ⊢
    exact h.2 j d e
theorem RepSt.wipe {K : PySem.W.Frag} {ρ : List Addr} {H : Hp} {σ : L2.St} {σa : Sa} (h : RepSt K ρ H σ σa) : ∀ vs : List Nat, RepSt K ρ H (L2.wipe σ vs) (wipeA σa vs)
  | [] => h
  | v :: vs => (RepSt.wipe h vs).forget v
theorem RepSt.set {K : PySem.W.Frag} {ρ : List Addr} {H : Hp} {σ : L2.St} {σa : Sa} {v : V} {d : D} (h : RepSt K ρ H σ σa) (i : Nat) (r : Rep K ρ H v d) : RepSt K ρ H (σ.set i (some v)) (σa.set i (some d)) := by
  refine ⟨by rw [List.length_set, List.length_set]; exact h.1, fun j d' e => ?_⟩
  by_cases hj : i = j
  · subst hj
    by_cases hl : i < σa.length
    · rw [List.getElem?_set_self hl] at e
      cases e
      exact ⟨v, List.getElem?_set_self (by rw [h.1]; exact hl), r⟩
    · rw [List.getElem?_eq_none (by rw [List.length_set]; omega)] at e; cases e
  · rw [List.getElem?_set_ne hj] at e ⊢
    exact h.2 j d' e
theorem names_ok {K : PySem.W.Frag} {ρ : List Addr} {H : Hp} {Q : L2.St → Hp → Prop} : ∀ (is : List Nat) (xs : List V) (ds : List D) (σ : L2.St) (σa : Sa), RepA K ρ H xs ds → ds.length = is.length → RepSt K ρ H σ σa →
    (∀ σ', RepSt K ρ H σ' (setAll σa is ds) → (∀ vs : List Nat, (∀ i ∈ is, i ∈ vs) → wipe σ' vs = wipe σ vs) → Q σ' H) → gNames is xs σ H Q
  | [], _, _, σ, σa, .nil, _, rs, q => ⟨rfl, q σ rs fun _ _ => rfl⟩
  | [], _, _, _, _, .cons _ _, hl, _, _ => by simp at hl
  | i :: is, _, _, _, _, .nil, hl, _, _ => by simp at hl
  | i :: is, _, _, σ, σa, .cons r1 r2, hl, rs, q => by
    refine ⟨_, _, rfl, ?_⟩
    refine names_ok is _ _ _ _ r2 (by simpa using hl) (rs.set i r1) fun σ' rs' w' => q σ' rs' fun vs hvs => ?_
    rw [w' vs fun j hj => hvs j (List.mem_cons_of_mem _ hj), wipe_set (hvs i List.mem_cons_self)]
theorem put_ok {S : Sc} {ρ : List Addr} {H : Hp} {Q : L2.St → Hp → Prop} {t : Tg} {v : V} {im : Im} {σ : L2.St} {σa σa' : Sa} (rs : RepSt S.K ρ H σ σa) (ri : RepI S.K ρ H v im) (h : t.put im σa = some σa')
    (q : ∀ σ', RepSt S.K ρ H σ' σa' → (∀ vs : List Nat, (∀ i ∈ t.slots, i ∈ vs) → wipe σ' vs = wipe σ vs) → Q σ' H) : gOf S.K t v σ H Q := by
  unfold Tg.put at h
  split at h
  · cases h
    exact q _ (rs.set _ ri) fun vs hvs => wipe_set (hvs _ (by simp [Tg.slots]))
  · rename_i is ds
    split at h
    · rename_i hl
      cases h
      obtain ⟨a, xs, rfl, hq, ra, _, _⟩ := tup_of ri
      have hl' : ds.length = is.length := by simpa using hl
      exact ⟨a, xs, rfl, hq, by rw [ra.len]; exact hl', names_ok is xs ds _ _ ra hl' rs q⟩
    · cases h
  · rename_i is ds
    split at h
    · rename_i hl
      cases h
      obtain ⟨a, xs, rfl, hq, ra⟩ := ri
      have hl' : ds.length = is.length := by simpa using hl
      exact ⟨a, xs, rfl, hq, by rw [ra.len]; exact hl', names_ok is xs ds _ _ ra hl' rs q⟩
    · cases h
  · cases h
abbrev QG (S : Sc) (X : Cx) (tg : Expr) (t : Tg) : Prop := PG X tg (gOf S.K t)
/-! ### comprehensions -/
def Res.nox {α : Type} : Res α → Res α
  | .exc _ _ _ => .bad
  | r => r
def compL (t : Tg) (c : F Bool) (e : F D) (chk : Mem → Bool) (σ : Sa) (n : Nat) : List Im → Mem → Res Unit
  | [], M => if chk M = true then .ok () M else .bad
  | im :: ims, M => if chk M = true then (match t.put im σ with
      | none => .bad
      | some σ1 => (c σ1 M).nox.bind fun b M1 => if b = true then (e σ1 M1).nox.bind fun d M2 => (match M2[n]? with
          | some (.lst acc) => if Nat.blt acc.length 16777216 = true then compL t c e chk σ n ims (M2.set n (.lst (acc ++ [d]))) else .bad
          | none => .bad) else compL t c e chk σ n ims M1) else .bad
def fCompC (fi : F Ita) (vs : List Nat) (t : Tg) (c : F Bool) (e : F D) : F D := fun σ M => (fi σ M).bind fun it M1 => (compL t c e it.chk (wipeA σ vs) M1.length it.items (M1 ++ [.lst []])).bind fun _ M2 => .ok (.ref M1.length) M2
abbrev W0 : WX := fun _ _ _ _ => False
def fYes : F Bool := fun _ M => .ok true M
theorem nox_use {α β : Type} {S : Sc} {R : List Addr → Hp → β → α → Prop} {f : F α} {σ : L2.St} {σa : Sa} {ρ : List Addr} {H : Hp} {M : Mem} {Q : β → Hp → Prop} (mo : MemOk S ρ H M) (rs : RepSt S.K ρ H σ σa) {γ : Type} {k : α → Mem → Res γ} {P : Res γ → Prop} (hb : P .bad → False)
    (h : P ((f σa M).nox.bind k)) (c : ∀ x M1 ρ1 H1 v, Stp S ρ H ρ1 H1 M1 → R ρ1 H1 v x → P (k x M1) → Q v H1) : tOf S W0 R f σ H Q := by
  refine ⟨ρ, M, σa, mo, rs, ?_⟩
  cases e : f σa M with
  | ok x M1 =>
    rw [e] at h
    exact fun ρ1 H1 v st r => c x M1 ρ1 H1 v st r h
  | exc c2 fs M1 => rw [e] at h; exact (hb h).elim
  | bad => rw [e] at h; exact (hb h).elim
section
variable {X : Cx} {S : Sc} {W : WX}
theorem lc_imp {fi : F Ita} {vs : List Nat} {t : Tg} {c : F Bool} {e : F D} (ht : ∀ i ∈ t.slots, i ∈ vs) {σ : L2.St} {H : Hp} {Q : VK} (h : tOf S W (Rep S.K) (fCompC fi vs t c e) σ H Q) :
    tLc (tOf S W (fun ρ H J it => ItaOk S ρ H J it) fi) (gOf S.K t) (tOf S W0 REq c) (tOf S W0 (Rep S.K) e) vs σ H Q := by
  obtain ⟨ρ, M, σa, mo, rs, p⟩ := h
  refine use mo rs p fun it M1 ρ1 H1 J st1 ok rs1 p1 => ?_
  intro D hD
  have sA : Stp S ρ1 H1 (ρ1 ++ [D]) (upd H1 D (.lst [])) (M1 ++ [.lst []]) := Stp.alloc st1.2 hD .nil
  have hl1 := st1.2.len
  have atn : ∀ {ρ2 : List Addr} {H2 : Hp}, Ext (ρ1 ++ [D]) (upd H1 D (.lst [])) ρ2 H2 → ρ2[M1.length]? = some D := fun e => e.at (by
    rw [List.getElem?_append_right (by omega), hl1, Nat.sub_self]
    rfl)
  refine ⟨fun i m Hc => m = it.items.length - i ∧ i ≤ it.items.length ∧ ∃ ρc Mc, Stp S (ρ1 ++ [D]) (upd H1 D (.lst [])) ρc Hc Mc ∧ Post S W (Rep S.K) σ ρ1 H1 Q ((compL t c e it.chk (wipeA σa vs) M1.length (it.items.drop i) Mc).bind fun _ M2 => .ok (.ref M1.length) M2),
    ⟨_, rfl, Nat.zero_le _, ρ1 ++ [D], M1 ++ [.lst []], Stp.refl sA.2, by rw [List.drop_zero]; exact p1⟩, ?_⟩
  rintro i m Hc ⟨rfl, hi, ρc, Mc, stc, pc⟩
  have ex1 : Ext ρ1 H1 ρc Hc := sA.1.trans stc.1
  by_cases hlt : i < it.items.length
  · have hdrop : it.items.drop i = it.items[i] :: it.items.drop (i + 1) := List.drop_eq_getElem_cons hlt
    rw [hdrop] at pc
    unfold compL at pc
    by_cases hc : it.chk Mc = true
    · rw [if_pos hc] at pc
      refine .inr ⟨ok.go ρc Hc Mc i ex1 stc.2 hc hlt, fun H' => ∃ ρc' Mc', Stp S (ρ1 ++ [D]) (upd H1 D (.lst [])) ρc' H' Mc' ∧ Post S W (Rep S.K) σ ρ1 H1 Q ((compL t c e it.chk (wipeA σa vs) M1.length (it.items.drop (i + 1)) Mc').bind fun _ M2 => .ok (.ref M1.length) M2),
        fun H' ⟨ρc', Mc', a, b⟩ => ⟨_, by omega, rfl, hlt, ρc', Mc', a, b⟩, fun x H2 y => ?_⟩
      obtain ⟨im, him, st2, ri⟩ := ok.yld ρc Hc Mc i x H2 ex1 stc.2 hc hlt y
      have e0 : it.items[i] = im := by
        rw [List.getElem?_eq_getElem hlt] at him
        exact Option.some.inj him
      rw [e0] at pc
      split at pc
      · exact pc.elim
      · rename_i σ1 hput
        have rsw : RepSt S.K ρc H2 (wipe σ vs) (wipeA σa vs) := (rs1.mono (ex1.trans st2.1)).wipe vs
        refine put_ok rsw ri hput fun σ' rs' hw => ⟨?_, ?_⟩
        · have := hw vs ht
          rw [this]
          refine List.ext_getElem? fun j => ?_
          rw [wipe_get, wipe_get]
          by_cases hj : j ∈ vs
          · rw [if_pos hj, if_pos hj]
            cases σ[j]? <;> rfl
          · rw [if_neg hj, if_neg hj]
        · have stc2 : Stp S (ρ1 ++ [D]) (upd H1 D (.lst [])) ρc H2 Mc := ⟨stc.1.trans st2.1, st2.2⟩
          refine nox_use (P := fun r => Post S W (Rep S.K) σ ρ1 H1 Q (r.bind fun _ M2 => .ok (.ref M1.length) M2)) stc2.2 rs' (fun z => z) pc fun b M3 ρ3 H3 b' st3 rb p3 => ?_
          cases (show b' = b from rb)
          cases b with
          | false => exact ⟨ρ3, M3, ⟨stc2.1.trans st3.1, st3.2⟩, p3⟩
          | true =>
            refine nox_use (P := fun r => Post S W (Rep S.K) σ ρ1 H1 Q (r.bind fun _ M2 => .ok (.ref M1.length) M2)) st3.2 (rs'.mono st3.1) (fun z => z) p3 fun d M4 ρ4 H4 v st4 rv p4 => ?_
            have ex4 := stc2.1.trans (st3.1.trans st4.1)
            have hD4 := atn ex4
            split at p4
            · rename_i acc hacc
              obtain ⟨xs, e1, ra⟩ := st4.2.cell _ _ _ hD4 hacc
              split at p4
              · rename_i hsz
                refine ⟨xs, e1, ?_, ρ4, _, ?_, p4⟩
                · rw [ra.len, sizeLine_eq]
                  simpa [Nat.blt_eq] using hsz
                · have sp := Stp.put st4.2 hD4 hacc (ra.append (.cons rv .nil))
                  exact ⟨ex4.trans sp.1, sp.2⟩
              · exact p4.elim
            · exact p4.elim
    · rw [if_neg hc] at pc
      exact pc.elim
  · have e : i = it.items.length := by omega
    subst e
    rw [List.drop_length] at pc
    unfold compL at pc
    by_cases hc : it.chk Mc = true
    · rw [if_pos hc] at pc
      refine .inl ⟨ok.stop ρc Hc Mc ex1 stc.2 hc, ?_⟩
      exact pc ρc Hc (.ref D) ⟨ex1, stc.2⟩ (.ref (atn stc.1))
    · rw [if_neg hc] at pc
      exact pc.elim
variable {elt tg iter : Expr} {ifs : List Expr} {scope : Scope} {own : List (Str × Nat)} {pos : Pos} {fi : F Ita} {t : Tg} {c : F Bool} {e : F D}
abbrev QTs (S : Sc) (W : WX) (X : Cx) (es : List Expr) (f : F Bool) : Prop := PTs X es (tOf S W REq f)
theorem PTs.imp {es : List Expr} {t t' : TT} (h : PTs X es t) (w : ∀ σ H Q, t' σ H Q → t σ H Q) : PTs X es t' := ⟨fun pins s σ H Q I q => h.run pins s σ H Q I (w σ H Q q)⟩
theorem qts_nil : QTs S W X [] fYes := PTs.imp pts_nil fun σ H Q ⟨ρ, M, σa, mo, rs, p⟩ => p ρ H true (Stp.refl mo) rfl
theorem qts_one {a : Expr} {g : F Bool} (h : QT S W X a g) : QTs S W X [a] g := pts_one h
theorem qe_lcC (hc : X.calm = true) (hN : X.N.Nodup) (hi : QI S W X tg iter fi) (ok : BlkOk X.N X.env.scope scope own)
    (hg : ∀ (s : Shared) (H : Hp) (C : Addr) (cl : List (Str × Addr)) (fp : List Addr), QG S (X.blk s H scope (compEnvC scope cl C X.env) fp) tg t) (ht : ∀ (s : Shared) (H : Hp) (C : Addr) (cl : List (Str × Addr)) (fp : List Addr), QTs S W0 (X.blk s H scope (compEnvC scope cl C X.env) fp) ifs c)
    (he : ∀ (s : Shared) (H : Hp) (C : Addr) (cl : List (Str × Addr)) (fp : List Addr), QE S W0 (X.blk s H scope (compEnvC scope cl C X.env) fp) elt e) (hsl : ∀ i ∈ t.slots, i ∈ own.map (·.2) := by decide) (hs : ∀ x, foldedSetIterable iter X.env x = pure x := by intro _; rfl) :
    QE S W X (.ListComp elt [⟨tg, iter, ifs, 0⟩] scope pos) (fCompC fi (own.map (·.2)) t c e) := PE.imp (pe_lc hc hN hi ok hg ht he hs) fun _ _ _ h => lc_imp hsl h
theorem qe_lc (hc : X.calm = true) (hN : X.N.Nodup) (hi : QI S W X tg iter fi) (ok : BlkOk X.N X.env.scope scope own)
    (hg : ∀ (s : Shared) (H : Hp) (C : Addr) (cl : List (Str × Addr)) (fp : List Addr), QG S (X.blk s H scope (compEnvC scope cl C X.env) fp) tg t) (ht : ∀ (s : Shared) (H : Hp) (C : Addr) (cl : List (Str × Addr)) (fp : List Addr), QTs S W0 (X.blk s H scope (compEnvC scope cl C X.env) fp) ifs c)
    (he : ∀ (s : Shared) (H : Hp) (C : Addr) (cl : List (Str × Addr)) (fp : List Addr), QE S W0 (X.blk s H scope (compEnvC scope cl C X.env) fp) elt e) (hsl : ∀ i ∈ t.slots, i ∈ own.map (·.2) := by decide) (hs : ∀ x, foldedSetIterable iter X.env x = pure x := by intro _; rfl) :
    QE S W X (.ListComp elt [⟨tg, iter, ifs, 0⟩] scope pos) (fTrim (fCompC fi (own.map (·.2)) t c e)) := qe_trim (qe_lcC hc hN hi ok hg ht he hsl hs)
end
end QX

set_option maxRecDepth 100000
set_option maxHeartbeats 1000000
/-! QX5: statements; defs -/
namespace QX
open PySem PySem.Spec PyProof.Rows L2 HX
inductive Fl where
  | nx (σ : Sa) | rt (d : D) | bk (σ : Sa) | ct (σ : Sa)
inductive RS where
  | ok (f : Fl) (M : Mem) | exc (c : Nat) (fs : List (Str × D)) (σ : Sa) (M : Mem) | bad
abbrev FS := Sa → Mem → RS
def Res.bindS {α : Type} (r : Res α) (σ : Sa) (k : α → Mem → RS) : RS := match r with
  | .ok x M => k x M
  | .exc c fs M => .exc c fs σ M
  | .bad => .bad
def PostS (S : Sc) (W : WX) (ρ : List Addr) (H : Hp) (E : Ends) : RS → Prop
  | .ok (.nx σa) M => ∀ ρ' H' σ, Stp S ρ H ρ' H' M → RepSt S.K ρ' H' σ σa → E.nx σ H'
  | .ok (.rt d) M => ∀ ρ' H' v, Stp S ρ H ρ' H' M → Rep S.K ρ' H' v d → E.rt v H'
  | .ok (.bk σa) M => ∀ ρ' H' σ, Stp S ρ H ρ' H' M → RepSt S.K ρ' H' σ σa → E.bk σ H'
  | .ok (.ct σa) M => ∀ ρ' H' σ, Stp S ρ H ρ' H' M → RepSt S.K ρ' H' σ σa → E.ct σ H'
  | .exc c fs σa M => ∀ ρ' H' σ d, Stp S ρ H ρ' H' M → RepSt S.K ρ' H' σ σa → XRep S.K ρ' H' d fs → W (.ref (S.C c)) d σ H'
  | .bad => False
def tOfS (S : Sc) (W : WX) (f : FS) : TS := fun E σ H => ∃ ρ M σa, MemOk S ρ H M ∧ RepSt S.K ρ H σ σa ∧ PostS S W ρ H E (f σa M)
abbrev QS (S : Sc) (W : WX) (X : Cx) (st : Stmt) (f : FS) : Prop := PS X st (tOfS S W f)
abbrev QSs (S : Sc) (W : WX) (X : Cx) (st : List Stmt) (f : FS) : Prop := PSs X st (tOfS S W f)
section
variable {S : Sc} {W : WX} {ρ ρ' : List Addr} {H H' : Hp} {E : Ends}
theorem PostS.mono {r : RS} (h : PostS S W ρ H E r) (e : Ext ρ H ρ' H') : PostS S W ρ' H' E r := by
  cases r with
  | ok f M =>
    cases f with
    | nx σ => exact fun ρ2 H2 v st => h ρ2 H2 v ⟨e.trans st.1, st.2⟩
    | rt d => exact fun ρ2 H2 v st => h ρ2 H2 v ⟨e.trans st.1, st.2⟩
    | bk σ => exact fun ρ2 H2 v st => h ρ2 H2 v ⟨e.trans st.1, st.2⟩
    | ct σ => exact fun ρ2 H2 v st => h ρ2 H2 v ⟨e.trans st.1, st.2⟩
  | exc c fs σ M => exact fun ρ2 H2 σ d st => h ρ2 H2 σ d ⟨e.trans st.1, st.2⟩
  | bad => exact h
theorem useS {α β : Type} {R : List Addr → Hp → β → α → Prop} {σ : L2.St} {σa : Sa} {M : Mem} {f : F α} {k : α → Mem → RS} {Q : β → Hp → Prop} (mo : MemOk S ρ H M) (rs : RepSt S.K ρ H σ σa) (h : PostS S W ρ H E ((f σa M).bindS σa k))
    (c : ∀ x M1 ρ1 H1 v, Stp S ρ H ρ1 H1 M1 → R ρ1 H1 v x → RepSt S.K ρ1 H1 σ σa → PostS S W ρ1 H1 E (k x M1) → Q v H1) : tOf S W R f σ H Q := by
  refine ⟨ρ, M, σa, mo, rs, ?_⟩
  cases e : f σa M with
  | ok x M1 =>
    rw [e] at h
    intro ρ1 H1 v st r
    exact c x M1 ρ1 H1 v st r (rs.mono st.1) (PostS.mono h st.1)
  | exc c2 fs M1 =>
    rw [e] at h
    exact fun ρ1 H1 d st xr => h ρ1 H1 σ d st (rs.mono st.1) xr
  | bad => rw [e] at h; exact h
theorem useB {α β : Type} {R : List Addr → Hp → β → α → Prop} {σ : L2.St} {σa : Sa} {M : Mem} {f : F α} {k : α → Mem → RS} {Q : β → Hp → Prop} (ex : Ext ρ H ρ' H') (mo : MemOk S ρ' H' M) (rs : RepSt S.K ρ' H' σ σa) (h : PostS S W ρ H E ((f σa M).bindS σa k))
    (c : ∀ x M1 ρ1 H1 v, Stp S ρ' H' ρ1 H1 M1 → R ρ1 H1 v x → RepSt S.K ρ1 H1 σ σa → PostS S W ρ H E (k x M1) → Q v H1) : tOf S W R f σ H' Q := by
  refine ⟨ρ', M, σa, mo, rs, ?_⟩
  cases e : f σa M with
  | ok x M1 =>
    rw [e] at h
    intro ρ1 H1 v st r
    exact c x M1 ρ1 H1 v st r (rs.mono st.1) h
  | exc c2 fs M1 =>
    rw [e] at h
    exact fun ρ1 H1 d st xr => h ρ1 H1 σ d ⟨ex.trans st.1, st.2⟩ (rs.mono st.1) xr
  | bad => rw [e] at h; exact h
variable {X : Cx} {st : Stmt} {rest : List Stmt} {e : Expr} {pos : Pos} {fe : F D} {s1 s2 : FS} {g : F Bool}
def sNext : FS := fun σ M => .ok (.nx σ) M
def sRet (f : F D) : FS := fun σ M => (f σ M).bindS σ fun d M1 => .ok (.rt d) M1
def sRetN : FS := fun σ M => .ok (.rt .non) M
def sExpr (f : F D) : FS := fun σ M => (f σ M).bindS σ fun _ M1 => .ok (.nx σ) M1
def sSet (i : Nat) (f : F D) : FS := fun σ M => (f σ M).bindS σ fun d M1 => .ok (.nx (σ.set i (some d))) M1
def sAsg (f : F D) (t : Tg) : FS := fun σ M => (f σ M).bindS σ fun d M1 => match t.put (.d d) σ with | some σ1 => .ok (.nx σ1) M1 | none => .bad
def sPar (i j : Nat) (fs : F (List D)) : FS := fun σ M => (fs σ M).bindS σ fun ds M1 => match ds with | [a, b] => .ok (.nx ((σ.set i (some a)).set j (some b))) M1 | _ => .bad
def sIf (g : F Bool) (s1 s2 : FS) : FS := fun σ M => (g σ M).bindS σ fun c M1 => if c = true then s1 σ M1 else s2 σ M1
def sSeq (s1 s2 : FS) : FS := fun σ M => match s1 σ M with | .ok (.nx σ1) M1 => s2 σ1 M1 | r => r
def sBreak : FS := fun σ M => .ok (.bk σ) M
def sCont : FS := fun σ M => .ok (.ct σ) M
def sRaise (c : Nat) : FS := fun σ M => .exc c [] σ M
def sNever : FS := fun _ _ => .bad
theorem qss_nil : QSs S W X [] sNext := PSs.imp pss_nil fun E σ H ⟨ρ, M, σa, mo, rs, p⟩ => p ρ H σ (Stp.refl mo) rs
theorem qss_one (h : QS S W X st s1) : QSs S W X [st] s1 := pss_one h
theorem qss_cons (h1 : QS S W X st s1) (h2 : QSs S W X rest s2) : QSs S W X (st :: rest) (sSeq s1 s2) := PSs.imp (pss_cons h1 h2) fun E σ H ⟨ρ, M, σa, mo, rs, p⟩ => by
  refine ⟨ρ, M, σa, mo, rs, ?_⟩
  unfold sSeq at p
  cases e : s1 σa M with
  | ok f M1 =>
    rw [e] at p
    cases f with
    | nx σ1 => exact fun ρ1 H1 σ' st rs' => ⟨ρ1, M1, σ1, st.2, rs', PostS.mono p st.1⟩
    | rt d => exact p
    | bk σ1 => exact p
    | ct σ1 => exact p
  | exc c fs σ1 M1 => rw [e] at p; exact p
  | bad => rw [e] at p; exact p
theorem qs_pass : QS S W X (.Pass pos) sNext := PS.imp ps_pass fun E σ H ⟨ρ, M, σa, mo, rs, p⟩ => p ρ H σ (Stp.refl mo) rs
theorem qs_doc {x j pos pos'} : QS S W X (.Expr (.Constant (.str x) j pos) pos') sNext := PS.imp ps_doc fun E σ H ⟨ρ, M, σa, mo, rs, p⟩ => p ρ H σ (Stp.refl mo) rs
theorem qs_break : QS S W X (.Break pos) sBreak := PS.imp ps_break fun E σ H ⟨ρ, M, σa, mo, rs, p⟩ => p ρ H σ (Stp.refl mo) rs
theorem qs_cont : QS S W X (.Continue pos) sCont := PS.imp ps_continue fun E σ H ⟨ρ, M, σa, mo, rs, p⟩ => p ρ H σ (Stp.refl mo) rs
theorem qs_never : QS S W X st sNever := PS.imp ps_never fun E σ H ⟨ρ, M, σa, mo, rs, p⟩ => p.elim
theorem qs_ret (h : QE S W X e fe) : QS S W X (.Return (some e) pos) (sRet fe) := PS.imp (ps_ret h) fun E σ H ⟨ρ, M, σa, mo, rs, p⟩ => useS mo rs p fun x M1 ρ1 H1 v st1 r1 rs1 p1 => p1 ρ1 H1 v (Stp.refl st1.2) r1
theorem qs_retN : QS S W X (.Return none pos) sRetN := PS.imp ps_retN fun E σ H ⟨ρ, M, σa, mo, rs, p⟩ => p ρ H .non (Stp.refl mo) .non
theorem qs_expr (h : QE S W X e fe) (hs : swapsWith e none pos.line X.env = pure false := by rfl) : QS S W X (.Expr e pos) (sExpr fe) := PS.imp (ps_expr h hs) fun E σ H ⟨ρ, M, σa, mo, rs, p⟩ => useS mo rs p fun x M1 ρ1 H1 v st1 r1 rs1 p1 => p1 ρ1 H1 σ (Stp.refl st1.2) rs1
theorem asg_imp {i : Nat} {E : Ends} {σ : L2.St} {H : Hp} (h : tOfS S W (sSet i fe) E σ H) : tAsg (tOf S W (Rep S.K) fe) (gName i) E σ H := by
  obtain ⟨ρ, M, σa, mo, rs, p⟩ := h
  exact useS mo rs p fun x M1 ρ1 H1 v st1 r1 rs1 p1 => p1 ρ1 H1 _ (Stp.refl st1.2) (rs1.set i r1)
theorem qs_set {i : Nat} {x : Str} {pos' : Pos} (hN : X.N.Nodup) (hi : X.N[i]? = some x) (hx : Loc X.env.scope x) (he : QE S W X e fe) (hs : swapsWith e (some (.Name x pos')) pos.line X.env = pure false := by rfl) (hf : X.fn x = true ∨ X.env.scope.names.lookup x = some .local := by first | exact .inl rfl | exact .inr rfl | assumption) :
    QS S W X (.Assign [.Name x pos'] e pos) (sSet i fe) := PS.imp (ps_set hN hi hx he hs hf) fun _ _ _ h => asg_imp h
theorem qs_asg {tg : Expr} {t : Tg} (he : QE S W X e fe) (hg : QG S X tg t) (hs : swapsWithSole [tg] e pos.line X.env = pure false := by rfl) (hw : swappedStores [tg] e X.env = pure none := by rfl)
    (h1 : (assignEach [tg] X.env).map (·.2) = [assign tg X.env] := by rfl) : QS S W X (.Assign [tg] e pos) (sAsg fe t) := PS.imp (ps_asg he hg hs hw h1) fun E σ H ⟨ρ, M, σa, mo, rs, p⟩ => by
  refine useS mo rs p fun x M1 ρ1 H1 v st1 r1 rs1 p1 => ?_
  split at p1
  · rename_i σ1 hp
    exact put_ok (im := .d x) rs1 r1 hp fun σ' rs' _ => p1 ρ1 H1 σ' (Stp.refl st1.2) rs'
  · exact p1.elim
theorem qs_par {i j : Nat} {x y : Str} {a b : Expr} {fs : F (List D)} {px py pt : Pos} {kt k2 pt2} (hc : X.calm = true) (hN : X.N.Nodup) (hi : X.N[i]? = some x) (hj : X.N[j]? = some y) (hij : i ≠ j)
    (hx : X.env.scope.names.lookup x = some .local) (hy : X.env.scope.names.lookup y = some .local) (ha : QA S W X [a, b] fs)
    (hw : swappedStores [.Tuple [.Name x px, .Name y py] kt pt] (.Tuple [a, b] k2 pt2) X.env = pure (some [x, y]))
    (hs : swapsWithSole [.Tuple [.Name x px, .Name y py] kt pt] (.Tuple [a, b] k2 pt2) pos.line X.env = pure false := by rfl) :
    QS S W X (.Assign [.Tuple [.Name x px, .Name y py] kt pt] (.Tuple [a, b] k2 pt2) pos) (sPar i j fs) := PS.imp (ps_par hc hN hi hj hij hx hy ha hw hs) fun E σ H ⟨ρ, M, σa, mo, rs, p⟩ => by
  refine useS mo rs p fun ds M1 ρ1 H1 vs st1 r1 rs1 p1 => ?_
  split at p1
  · obtain ⟨v, w, rfl, rv, rw'⟩ := RepA.two r1
    exact ⟨v, w, rfl, p1 ρ1 H1 _ (Stp.refl st1.2) ((rs1.set i rv).set j rw')⟩
  · exact p1.elim
theorem qs_if {c : Expr} {a b : List Stmt} (hc : QT S W X c g) (ha : QSs S W X a s1) (hb : QSs S W X b s2) : QS S W X (.If c a b pos) (sIf g s1 s2) := PS.imp (ps_if hc ha hb) fun E σ H ⟨ρ, M, σa, mo, rs, p⟩ => by
  refine useS mo rs p fun x M1 ρ1 H1 v st1 r1 rs1 p1 => ?_
  cases (show v = x from r1)
  cases x with
  | true => exact ⟨ρ1, M1, σa, st1.2, rs1, p1⟩
  | false => exact ⟨ρ1, M1, σa, st1.2, rs1, p1⟩
theorem qs_err {x : Str} {n : Nat} {p pos pos2 : Pos} (R : Err X.K X.mg x (S.C n)) (tk : Takes X W) (hc : X.calm = true := by rfl) (hg : Gl X x := by rfl) (hdb : (x == ("__debug__" : Str)) = false := by decide) :
    QS S W X (.Raise (some (.Call (.Name x p) [] [] pos)) none pos2) (sRaise n) := PS.imp (ps_err R tk hc hg hdb) fun E σ H ⟨ρ, M, σa, mo, rs, p⟩ => p ρ H σ none (Stp.refl mo) rs rfl
/-! ### loops -/
def keepS (n : Nat) : Option D → Option D
  | some d => if d.und n = true then some d else none
  | none => none
def gc (n : Nat) (σ : Sa) (M : Mem) : Sa × Mem := if Nat.ble M.length n = true then (σ, M) else if closed n M = true then (σ.map (keepS n), M.take n) else (σ, M)
theorem gc_ok {ρ0 : List Addr} {H0 : Hp} {M : Mem} {σ : L2.St} {σa : Sa} (e : Ext ρ0 H0 ρ H) (mo : MemOk S ρ H M) (rs : RepSt S.K ρ H σ σa) : ∃ ρ', Stp S ρ0 H0 ρ' H (gc ρ0.length σa M).2 ∧ RepSt S.K ρ' H σ (gc ρ0.length σa M).1 := by
  unfold gc
  split
  · exact ⟨ρ, ⟨e, mo⟩, rs⟩
  · split
    · rename_i hc
      obtain ⟨more, rfl, hm⟩ := e.pre
      refine ⟨ρ0, ⟨⟨⟨[], by simp, by simp⟩, e.keep, e.live⟩, mem_down mo hc⟩, by rw [List.length_map]; exact rs.1, fun i d h => ?_⟩
      rw [List.getElem?_map] at h
      cases q : σa[i]? with
      | none => rw [q] at h; cases h
      | some o =>
        rw [q] at h
        cases o with
        | none => cases h
        | some d' =>
          have h' : keepS ρ0.length (some d') = some d := Option.some.inj h
          have h2 : (if d'.und ρ0.length = true then some d' else none) = some d := h'
          by_cases hb : d'.und ρ0.length = true
          · rw [if_pos hb] at h2
            cases h2
            obtain ⟨v, h1, h2⟩ := rs.2 i d q
            exact ⟨v, h1, Rep.down d v hb h2⟩
          · rw [if_neg hb] at h2
            cases h2
    · exact ⟨ρ, ⟨e, mo⟩, rs⟩
def forL (t : Tg) (b : FS) (chk : Mem → Bool) (n : Nat) : List Im → FS
  | [], σ, M => if chk M = true then .ok (.nx σ) M else .bad
  | im :: ims, σ, M => if chk M = true then (match t.put im σ with
      | none => .bad
      | some σ1 => (match b σ1 M with
        | .ok (.nx σ2) M2 => forL t b chk n ims (gc n σ2 M2).1 (gc n σ2 M2).2
        | .ok (.ct σ2) M2 => forL t b chk n ims (gc n σ2 M2).1 (gc n σ2 M2).2
        | .ok (.bk σ2) M2 => .ok (.nx σ2) M2
        | .ok (.rt d) M2 => .ok (.rt d) M2
        | .exc c fs σ2 M2 => .exc c fs σ2 M2
        | .bad => .bad)) else .bad
def sFor (fi : F Ita) (t : Tg) (b : FS) : FS := fun σ M => (fi σ M).bindS σ fun it M1 => forL t b it.chk M1.length it.items σ M1
theorem qs_for {iter tg : Expr} {body : List Stmt} {fi : F Ita} {t : Tg} {b : FS} {pos : Pos} (hp : PassesOwn (model X.prog X.w) X.A X.env X.xe) (hc : X.calm = true) (hi : QI S W X tg iter fi) (hg : QG S X tg t) (hb : QSs S W X body b)
    (hs : ∀ x, foldedSetIterable iter X.env x = pure x := by intro _; rfl) : QS S W X (.For tg iter body [] pos) (sFor fi t b) := PS.imp (ps_for hp hc hi hg hb hs) fun E σ H ⟨ρ, M, σa, mo, rs, p⟩ => by
  refine useS mo rs p fun it M1 ρ1 H1 J st1 ok rs1 p1 => ?_
  rw [← st1.2.len] at p1
  refine ⟨fun i m σ H => m = it.items.length - i ∧ i ≤ it.items.length ∧ ∃ ρc Mc σc, Stp S ρ1 H1 ρc H Mc ∧ RepSt S.K ρc H σ σc ∧ PostS S W ρ1 H1 E (forL t b it.chk ρ1.length (it.items.drop i) σc Mc),
    ⟨_, rfl, Nat.zero_le _, ρ1, M1, σa, Stp.refl st1.2, rs1, by rw [List.drop_zero]; exact p1⟩, ?_⟩
  rintro i m σ' Hc ⟨rfl, hi, ρc, Mc, σc, stc, rsc, pc⟩
  by_cases hlt : i < it.items.length
  · rw [List.drop_eq_getElem_cons hlt] at pc
    unfold forL at pc
    by_cases hc : it.chk Mc = true
    · rw [if_pos hc] at pc
      refine .inr ⟨ok.go ρc Hc Mc i stc.1 stc.2 hc hlt, fun σ' H' => ∃ ρc' Mc' σc', Stp S ρ1 H1 ρc' H' Mc' ∧ RepSt S.K ρc' H' σ' σc' ∧ PostS S W ρ1 H1 E (forL t b it.chk ρ1.length (it.items.drop (i + 1)) σc' Mc'),
        fun σ' H' ⟨ρc', Mc', σc', a1, a2, a3⟩ => ⟨_, by omega, rfl, hlt, ρc', Mc', σc', a1, a2, a3⟩, fun x H2 y => ?_⟩
      obtain ⟨im, him, st2, ri⟩ := ok.yld ρc Hc Mc i x H2 stc.1 stc.2 hc hlt y
      have e0 : it.items[i] = im := by
        rw [List.getElem?_eq_getElem hlt] at him
        exact Option.some.inj him
      rw [e0] at pc
      split at pc
      · exact pc.elim
      · rename_i σ1 hput
        refine put_ok (rsc.mono st2.1) ri hput fun σ2 rs2 _ => ⟨ρc, Mc, σ1, st2.2, rs2, ?_⟩
        have ex2 := stc.1.trans st2.1
        have go : ∀ {σ3 : Sa} {M3 : Mem}, PostS S W ρ1 H1 E (forL t b it.chk ρ1.length (it.items.drop (i + 1)) (gc ρ1.length σ3 M3).1 (gc ρ1.length σ3 M3).2) → ∀ ρ' H' σ', Stp S ρc H2 ρ' H' M3 → RepSt S.K ρ' H' σ' σ3 → ∃ ρc' Mc' σc', Stp S ρ1 H1 ρc' H' Mc' ∧ RepSt S.K ρc' H' σ' σc' ∧ PostS S W ρ1 H1 E (forL t b it.chk ρ1.length (it.items.drop (i + 1)) σc' Mc') := by
          intro σ3 M3 p3 ρ' H' σ' st' rs'
          obtain ⟨ρ4, a1, a2⟩ := gc_ok (ex2.trans st'.1) st'.2 rs'
          exact ⟨ρ4, _, _, a1, a2, p3⟩
        cases e : b σ1 Mc with
        | ok f M3 =>
          rw [e] at pc
          cases f with
          | nx σ3 => exact go pc
          | ct σ3 => exact go pc
          | bk σ3 => exact (PostS.mono pc ex2 : PostS S W ρc H2 E (.ok (.nx σ3) M3))
          | rt d => exact (PostS.mono pc ex2 : PostS S W ρc H2 E (.ok (.rt d) M3))
        | exc c fs σ3 M3 => rw [e] at pc; exact (PostS.mono pc ex2 : PostS S W ρc H2 E (.exc c fs σ3 M3))
        | bad => rw [e] at pc; exact pc
    · rw [if_neg hc] at pc
      exact pc.elim
  · have e : i = it.items.length := by omega
    subst e
    rw [List.drop_length] at pc
    unfold forL at pc
    by_cases hc : it.chk Mc = true
    · rw [if_pos hc] at pc
      exact .inl ⟨ok.stop ρc Hc Mc stc.1 stc.2 hc, pc ρc Hc σ' stc rsc⟩
    · rw [if_neg hc] at pc
      exact pc.elim
def whileL (c : F Bool) (b : FS) (n : Nat) : Nat → FS
  | 0, _, _ => .bad
  | k + 1, σ, M => (c σ M).bindS σ fun t M1 => if t = true then (match b σ M1 with
        | .ok (.nx σ2) M2 => whileL c b n k (gc n σ2 M2).1 (gc n σ2 M2).2
        | .ok (.ct σ2) M2 => whileL c b n k (gc n σ2 M2).1 (gc n σ2 M2).2
        | .ok (.bk σ2) M2 => .ok (.nx σ2) M2
        | .ok (.rt d) M2 => .ok (.rt d) M2
        | .exc c fs σ2 M2 => .exc c fs σ2 M2
        | .bad => .bad) else .ok (.nx σ) M1
def sWhile (fu : Nat) (c : F Bool) (b : FS) : FS := fun σ M => whileL c b M.length fu σ M
theorem qs_while {c : Expr} {body : List Stmt} {g : F Bool} {b : FS} {pos : Pos} (fu : Nat) (hp : PassesOwn (model X.prog X.w) X.A X.env X.xe) (hc : QT S W X c g) (hb : QSs S W X body b) : QS S W X (.While c body [] pos) (sWhile fu g b) := PS.imp (ps_while hp hc hb) fun E σ H ⟨ρ, M, σa, mo, rs, p⟩ => by
  unfold sWhile at p
  rw [← mo.len] at p
  refine ⟨fun m σ' H' => ∃ ρc Mc σc, Stp S ρ H ρc H' Mc ∧ RepSt S.K ρc H' σ' σc ∧ PostS S W ρ H E (whileL g b ρ.length m σc Mc), ⟨fu, ρ, M, σa, Stp.refl mo, rs, p⟩, ?_⟩
  rintro m σ' Hc ⟨ρc, Mc, σc, stc, rsc, pc⟩
  cases m with
  | zero => exact pc.elim
  | succ k =>
    unfold whileL at pc
    refine useB (E := E) stc.1 stc.2 rsc pc fun t M1 ρ1 H1 t' st1 rt rs1 p1 => ?_
    cases (show t' = t from rt)
    have ex1 := stc.1.trans st1.1
    cases t with
    | false =>
      rw [if_neg (by decide)] at p1
      rw [if_neg (by decide)]
      exact p1 ρ1 H1 σ' ⟨ex1, st1.2⟩ rs1
    | true =>
      rw [if_pos rfl] at p1
      rw [if_pos rfl]
      refine ⟨fun σ' H' => ∃ ρc Mc σc, Stp S ρ H ρc H' Mc ∧ RepSt S.K ρc H' σ' σc ∧ PostS S W ρ H E (whileL g b ρ.length k σc Mc), fun σ' H' h => ⟨k, Nat.lt_succ_self k, h⟩, ρ1, M1, σc, st1.2, rs1, ?_⟩
      have go : ∀ {σ3 : Sa} {M3 : Mem}, PostS S W ρ H E (whileL g b ρ.length k (gc ρ.length σ3 M3).1 (gc ρ.length σ3 M3).2) → ∀ ρ' H' σ', Stp S ρ1 H1 ρ' H' M3 → RepSt S.K ρ' H' σ' σ3 → ∃ ρc Mc σc, Stp S ρ H ρc H' Mc ∧ RepSt S.K ρc H' σ' σc ∧ PostS S W ρ H E (whileL g b ρ.length k σc Mc) := by
        intro σ3 M3 p3 ρ' H' σ' st' rs'
        obtain ⟨ρ4, a1, a2⟩ := gc_ok (ex1.trans st'.1) st'.2 rs'
        exact ⟨ρ4, _, _, a1, a2, p3⟩
      cases e : b σc M1 with
      | ok f M3 =>
        rw [e] at p1
        cases f with
        | nx σ3 => exact go p1
        | ct σ3 => exact go p1
        | bk σ3 => exact (PostS.mono p1 ex1 : PostS S W ρ1 H1 E (.ok (.nx σ3) M3))
        | rt d => exact (PostS.mono p1 ex1 : PostS S W ρ1 H1 E (.ok (.rt d) M3))
      | exc c fs σ3 M3 => rw [e] at p1; exact (PostS.mono p1 ex1 : PostS S W ρ1 H1 E (.exc c fs σ3 M3))
      | bad => rw [e] at p1; exact p1
/-! ### xs[i] = v, x += e, xs[i] += e -/
def gSetIx (o i v : D) (M : Mem) : Option Mem := match o, i with
  | .ref n, .int k => (match M[n]? with | some (.lst ds) => (match ixN ds.length k with | some j => some (M.set n (.lst (ds.set j v))) | none => none) | none => none)
  | _, _ => none
theorem set_ok {M M2 : Mem} {o i v : D} {vo vi vv : V} {Q : Hp → Prop} (mo : MemOk S ρ H M) (ro : Rep S.K ρ H vo o) (ri : Rep S.K ρ H vi i) (rv : Rep S.K ρ H vv v) (h : gSetIx o i v M = some M2) (q : ∀ H', Stp S ρ H ρ H' M2 → Q H') : rSetL vo vi vv H Q := by
  unfold gSetIx at h
  split at h
  · split at h
    · rename_i ds hm
      split at h
      · rename_i j hj
        cases h
        cases ri
        cases ro with
        | ref e =>
          obtain ⟨xs, e1, ra⟩ := mo.cell _ _ _ e hm
          exact ⟨_, xs, _, j, rfl, rfl, e1, by rw [ra.len]; exact hj, q _ (Stp.put mo e hm (ra.set rv j))⟩
      · cases h
    · cases h
  · cases h
def sSetIx (fo fi fv : F D) : FS := fun σ M => (fv σ M).bindS σ fun v M1 => (fo σ M1).bindS σ fun o M2 => (fi σ M2).bindS σ fun i M3 => match gSetIx o i v M3 with | some M4 => .ok (.nx σ) M4 | none => .bad
theorem qs_setIx {o i e : Expr} {fo fi fv : F D} {pos pos' : Pos} (ho : QE S W X o fo) (hi : QE S W X i fi) (he : QE S W X e fv)
    (ha : ∀ v, assign (.Subscript o i pos') X.env v = (do
      let ov ← holding [v] (eval o X.env)
      let iv ← holding [v, ov] (eval i X.env)
      standAt pos'
      holding [v, ov, iv] (setItem ov iv v)
      release [v, ov, iv] []) := by intro _; rfl) (hs : swapsWithSole [.Subscript o i pos'] e pos.line X.env = pure false := by rfl) (hw : swappedStores [.Subscript o i pos'] e X.env = pure none := by rfl)
    (h1 : (assignEach [.Subscript o i pos'] X.env).map (·.2) = [assign (.Subscript o i pos') X.env] := by rfl) : QS S W X (.Assign [.Subscript o i pos'] e pos) (sSetIx fo fi fv) :=
  PS.imp (ps_asg he (pg_sub ho hi set_list ha) hs hw h1) fun E σ H ⟨ρ, M, σa, mo, rs, p⟩ => by
  refine useS mo rs p fun x M1 ρ1 H1 v st1 r1 rs1 p1 => useS st1.2 rs1 p1 fun x2 M2 ρ2 H2 v2 st2 r2 rs2 p2 => useS st2.2 rs2 p2 fun x3 M3 ρ3 H3 v3 st3 r3 rs3 p3 => ?_
  split at p3
  · rename_i M4 h4
    exact set_ok st3.2 (Rep.mono st3.1 _ _ r2) r3 (Rep.mono (st2.1.trans st3.1) _ _ r1) h4 fun H' st4 => p3 ρ3 H' σ st4 (rs3.mono st4.1)
  · exact p3.elim
def gAug (sub : Bool) : D → D → Option D
  | .int i, .int j => some (.int (if sub = true then i - j else i + j))
  | _, _ => none
def IpQ (S : Sc) (ti : TIp) (g : D → D → Option D) : Prop := ∀ (ρ : List Addr) (H : Hp) (x y : V) (dx dy d : D) (Q : VK), Rep S.K ρ H x dx → Rep S.K ρ H y dy → g dx dy = some d → (∀ v, Rep S.K ρ H v d → Q v H) → ti x y H Q
theorem ipq_add : IpQ S (ipI fun i j => i + j) (gAug false) := by
  intro ρ H x y dx dy d Q rx ry h q
  unfold gAug at h
  split at h
  · cases h; cases rx; cases ry
    exact ⟨_, _, rfl, rfl, q _ (.int _)⟩
  · cases h
theorem ipq_sub : IpQ S (ipI fun i j => i - j) (gAug true) := by
  intro ρ H x y dx dy d Q rx ry h q
  unfold gAug at h
  split at h
  · cases h; cases rx; cases ry
    exact ⟨_, _, rfl, rfl, q _ (.int _)⟩
  · cases h
def sAug (i : Nat) (g : D → D → Option D) (f : F D) : FS := fun σ M => (fVar i σ M).bindS σ fun x M0 => (f σ M0).bindS σ fun y M1 => match g x y with | some z => .ok (.nx (σ.set i (some z))) M1 | none => .bad
theorem qs_aug {i : Nat} {x : Str} {op : Operator} {ti : TIp} {g : D → D → Option D} {pos' : Pos} (hN : X.N.Nodup) (hi : X.N[i]? = some x) (hx : Loc X.env.scope x) (he : QE S W X e fe) (ho : PIp X op ti) (hq : IpQ S ti g) (hf : X.fn x = true ∨ X.env.scope.names.lookup x = some .local := by first | exact .inl rfl | exact .inr rfl | assumption) :
    QS S W X (.AugAssign (.Name x pos') op e pos) (sAug i g fe) := PS.imp (ps_aug hN hi hx he ho hf) fun E σ H ⟨ρ, M, σa, mo, rs, p⟩ => by
  unfold sAug fVar at p
  cases q : σa[i]? with
  | none => rw [q] at p; exact p.elim
  | some o =>
    cases o with
    | none => rw [q] at p; exact p.elim
    | some d =>
      rw [q] at p
      obtain ⟨v, h1, r⟩ := rs.2 i d q
      refine ⟨v, h1, useS mo rs p fun y M1 ρ1 H1 vy st1 r1 rs1 p1 => ?_⟩
      split at p1
      · rename_i z hz
        exact hq ρ1 H1 v vy d y z _ (Rep.mono st1.1 _ _ r) r1 hz fun w rw' => p1 ρ1 H1 _ (Stp.refl st1.2) (rs1.set i rw')
      · exact p1.elim
def gGetN (o i : D) (M : Mem) : Option D := match i with
  | .int k => if decide (0 ≤ k) = true then (match listOf M o with | some ds => ds[k.toNat]? | none => none) else none
  | _ => none
def sAugIx (fo fi fe : F D) (g : D → D → Option D) : FS := fun σ M => (fo σ M).bindS σ fun o M1 => (fi σ M1).bindS σ fun i M2 => match gGetN o i M2 with
  | some x => (fe σ M2).bindS σ fun y M3 => (match g x y with | some z => (match gSetIx o i z M3 with | some M4 => .ok (.nx σ) M4 | none => .bad) | none => .bad)
  | none => .bad
theorem qs_augIx {o i e : Expr} {fo fi fe : F D} {op : Operator} {ti : TIp} {g : D → D → Option D} {tpos pos : Pos} (hk : X.K = S.K) (ho : QE S W X o fo) (hi : QE S W X i fi) (he : QE S W X e fe) (hp : PIp X op ti) (hq : IpQ S ti g)
    (ha : ∀ ov iv new, augStore i ov iv new = (do holding [new, ov, iv] (setItem ov iv new); release [new, ov, iv] []; pure .next) := by intros; rfl) : QS S W X (.AugAssign (.Subscript o i tpos) op e pos) (sAugIx fo fi fe g) := by
  have hg : PGet X (rGetL S.K) := hk ▸ get_list
  refine PS.imp (ps_augS ho hi hg he hp set_list ha) fun E σ H ⟨ρ, M, σa, mo, rs, p⟩ => ?_
  refine useS mo rs p fun xo M1 ρ1 H1 vo st1 r1 rs1 p1 => useS st1.2 rs1 p1 fun xi M2 ρ2 H2 vi st2 r2 rs2 p2 => ?_
  split at p2
  · rename_i x hx
    unfold gGetN at hx
    split at hx
    · rename_i k
      split at hx
      · rename_i hk0
        split at hx
        · rename_i ds hl
          cases r2
          obtain ⟨a, xs, rfl, e1, ra⟩ := list_of st2.2 (Rep.mono st2.1 _ _ r1) hl
          obtain ⟨v, hv, rv⟩ := ra.at hx
          have hk1 : (0 : Int) ≤ k := of_decide_eq_true hk0
          refine ⟨a, xs, k.toNat, v, rfl, by rw [Int.toNat_of_nonneg hk1], SqL.of e1, hv, ?_⟩
          refine useS st2.2 rs2 p2 fun y M3 ρ3 H3 vy st3 r3 rs3 p3 => ?_
          split at p3
          · rename_i z hz
            split at p3
            · rename_i M4 h4
              refine hq ρ3 H3 v vy x y z _ (Rep.mono st3.1 _ _ rv) r3 hz fun w rw' => ?_
              exact set_ok st3.2 (Rep.mono (st2.1.trans st3.1) _ _ r1) (.int k) rw' h4 fun H' st4 => p3 ρ3 H' σ st4 (rs3.mono st4.1)
            · exact p3.elim
          · exact p3.elim
        · cases hx
      · cases hx
    · cases hx
  · exact p2.elim
end
/-! ### defs -/
def startA (n : Nat) (ds : List D) : Sa := ds.map some ++ List.replicate (n - ds.length) none
def runD (n k : Nat) (b : FS) (ds : List D) (M : Mem) : Res D := if ds.length == k then (match b (startA n ds) M with
  | .ok (.rt d) M1 => .ok d M1
  | .ok (.nx _) M1 => .ok .non M1
  | .exc c fs _ M1 => .exc c fs M1
  | _ => .bad) else .bad
def runT (n k : Nat) (b : FS) (ds : List D) (M : Mem) : Res D := trimR M.length (runD n k b ds M)
def spM (S : Sc) (n : Nat) (m : List D → Mem → Res D) : Sp := fun vs H Q E => vs.length = n ∧ ∃ ρ M ds, MemOk S ρ H M ∧ RepA S.K ρ H vs ds ∧ Post S (fun cls d _ H => E cls d H) (Rep S.K) [] ρ H Q (m ds M)
abbrev CalQ (S : Sc) (P : Program) (w : World) (mg : Str → Option Value) (base : Heap) (k : Nat) (x : Str) (ps : List Str) (m : List D → Mem → Res D) : Prop := CalX P w S.K mg base k x ps (spM S ps.length m)
theorem rep_start {K : PySem.W.Frag} {ρ : List Addr} {H : Hp} {N : List Str} {vs : List V} {ds : List D} (r : RepA K ρ H vs ds) : RepSt K ρ H (start N vs) (startA N.length ds) := by
  refine ⟨?_, fun i d h => ?_⟩
  · unfold L2.start startA
    rw [List.length_append, List.length_append, List.length_map, List.length_map, List.length_replicate, List.length_replicate, r.len]
  · unfold startA at h
    unfold L2.start
    by_cases hi : i < ds.length
    · rw [List.getElem?_append_left (by rw [List.length_map]; exact hi), List.getElem?_map] at h
      rw [List.getElem?_append_left (by rw [List.length_map, r.len]; exact hi), List.getElem?_map]
      cases q : ds[i]? with
      | none => rw [q] at h; cases h
      | some d' =>
        rw [q] at h
        cases h
        obtain ⟨v, h1, h2⟩ := r.at q
        exact ⟨v, by rw [h1]; rfl, h2⟩
    · rw [List.getElem?_append_right (by rw [List.length_map]; omega), List.length_map, List.getElem?_replicate] at h
      split at h
      · cases h
      · cases h
section
variable {S : Sc} {P : Program} {w : World} {mg : Str → Option Value} {base : Heap} {k : Nat} {x : Str} {ps N : List Str} {st : Stmt} {b : FS}
theorem Def.okQ (T : HX.Def S.K mg x st ps) (sc : FnScope N ps (defScope st))
    (hb : ∀ (f : Addr) (cdv : Value) (A : Around) (outer : List Env) (s : Shared) (H : Hp) (E : XK), Room k (A.deeper (envOfC x (defScope st) s.heap.objs.size f cdv)) → Takes (cxOf (L2.CX P w) P w S.K mg base N x (defScope st) f cdv A outer s H E) (fun cls d _ H => E cls d H) →
      PassesOwn (model P w) (cxOf (L2.CX P w) P w S.K mg base N x (defScope st) f cdv A outer s H E).A (cxOf (L2.CX P w) P w S.K mg base N x (defScope st) f cdv A outer s H E).env (cxOf (L2.CX P w) P w S.K mg base N x (defScope st) f cdv A outer s H E).xe →
      QSs S (fun cls d _ H => E cls d H) (cxOf (L2.CX P w) P w S.K mg base N x (defScope st) f cdv A outer s H E) (defBody st) b) : CalQ S P w mg base (k + 1) x ps (runD N.length ps.length b) := by
  refine HX.Def.okX T sc (fun vs H Q E h => h.1) fun f cdv A outer s H vs Q E hr h tk => ⟨_, hb f cdv A outer s H E hr tk (passes_of (X := cxOf (L2.CX P w) P w S.K mg base N x (defScope st) f cdv A outer s H E) rfl), ?_⟩
  obtain ⟨hl, ρ, M, ds, mo, ra, p⟩ := h
  refine ⟨ρ, M, _, mo, rep_start ra, ?_⟩
  unfold runD at p
  split at p
  · cases e : b (startA N.length ds) M with
    | ok fl M1 =>
      rw [e] at p
      cases fl with
      | rt d => exact p
      | nx σ => exact fun ρ' H' _ st' _ => p ρ' H' .non st' .non
      | bk σ => exact p.elim
      | ct σ => exact p.elim
    | exc c fs σ M1 => rw [e] at p; exact fun ρ' H' _ d st' _ xr => p ρ' H' d st' xr
    | bad => rw [e] at p; exact p
  · exact p.elim
/-- another function, alike wherever it is told -/
theorem CalQ.imp {m m' : List D → Mem → Res D} (c : CalQ S P w mg base k x ps m) (h : ∀ (W : WX) (ρ : List Addr) (H : Hp) (Q : VK) (vs : List V) (ds : List D) (M : Mem), MemOk S ρ H M → RepA S.K ρ H vs ds → Post S W (Rep S.K) [] ρ H Q (m' ds M) → Post S W (Rep S.K) [] ρ H Q (m ds M)) : CalQ S P w mg base k x ps m' := by
  obtain ⟨f, fd, F, a1, a2, a3⟩ := c
  exact ⟨f, fd, F.imp fun vs H Q E ⟨hl, ρ, M, ds, mo, ra, p⟩ => ⟨hl, ρ, M, ds, mo, ra, h _ _ _ _ _ _ _ mo ra p⟩, a1, a2, a3⟩
theorem CalQ.trim {m : List D → Mem → Res D} (c : CalQ S P w mg base k x ps m) : CalQ S P w mg base k x ps (fun ds M => trimR M.length (m ds M)) := CalQ.imp c fun _ _ _ _ _ _ _ mo _ p => Post.trim mo p
end
theorem len_nil : ∀ σ M ds M1, fNil σ M = .ok ds M1 → ds.length = 0 := fun σ M ds M1 h => by cases h; rfl
theorem len_cons {fa : F D} {fs : F (List D)} {n : Nat} (h : ∀ σ M ds M1, fs σ M = .ok ds M1 → ds.length = n) : ∀ σ M ds M1, fCons fa fs σ M = .ok ds M1 → ds.length = n + 1 := fun σ M ds M1 e => by
  unfold fCons at e
  cases q : fa σ M with
  | ok x M2 =>
    rw [q] at e
    dsimp only [Res.bind] at e
    cases q2 : fs σ M2 with
    | ok xs M3 =>
      rw [q2] at e
      cases e
      rw [List.length_cons, h _ _ _ _ q2]
    | exc c f2 M3 => rw [q2] at e; cases e
    | bad => rw [q2] at e; cases e
  | exc c f2 M3 => rw [q] at e; cases e
  | bad => rw [q] at e; cases e
def fCall (m : List D → Mem → Res D) (fs : F (List D)) : F D := fun σ M => (fs σ M).bind m
theorem qe_call {X : Cx} {S : Sc} {W : WX} {k : Nat} {x : Str} {ps : List Str} {m : List D → Mem → Res D} {p pos : Pos} {e : Expr} {es : List Expr} {fs : F (List D)} (tk : Takes X W) (hk : X.K = S.K) (c : CalQ S X.prog X.w X.mg X.base k x ps m) (hr : Room k X.A) (hg : Gl X x) (ha : QA S W X (e :: es) fs) (hn : ∀ σ M ds M1, fs σ M = .ok ds M1 → ds.length = ps.length) (hdb : (x == ("__debug__" : Str)) = false := by decide)
    (he : starEach (e :: es) X.env = (false, eval e X.env) :: starEach es X.env := by rfl) (hpl : (backTo pos (starEach es X.env)).any (·.1) = false := by rfl) : QE S W X (.Call (.Name x p) (e :: es) [] pos) (fCall m fs) := by
  have c' : CalX X.prog X.w X.K X.mg X.base k x ps (spM S ps.length m) := by rw [hk]; exact c
  refine PE.imp (pe_calX tk c' hr hg ha hdb he hpl) fun σ H Q ⟨ρ, M, σa, mo, rs, p⟩ => ?_
  refine ⟨ρ, M, σa, mo, rs, ?_⟩
  unfold fCall at p
  cases e0 : fs σa M with
  | ok ds M1 =>
    rw [e0] at p
    intro ρ1 H1 vs st1 r1
    refine ⟨by rw [r1.len]; exact hn _ _ _ _ e0, ρ1, M1, ds, st1.2, r1, ?_⟩
    have p1 := Post.mono p st1.1
    cases e1 : m ds M1 with
    | ok d M2 => dsimp only [Res.bind] at p1; rw [e1] at p1; exact p1
    | exc c fs M2 => dsimp only [Res.bind] at p1; rw [e1] at p1; exact p1
    | bad => dsimp only [Res.bind] at p1; rw [e1] at p1; exact p1
  | exc c fs M1 => rw [e0] at p; exact p
  | bad => rw [e0] at p; exact p
end QX

set_option maxRecDepth 100000
set_option maxHeartbeats 2000000
/-! QX6: operators and built-ins by such functions -/
namespace QX
open PySem PySem.Spec PyProof.Rows L2 HX
/-! ### a tuple so many times, known to the last -/
theorem tuple_mulS (l : Addr) (items : Array Value) (n : Nat) (dd : Option Addr) (sl : Array (Option Value)) (x : Int) (u : Tok) (c0 : (decide (x < -(2 ^ 63)) || decide (x ≥ 2 ^ 63)) = false) (c1 : (items.isEmpty || x == 1) = true) :
    Meets (Builtin.«tuple.__mul__» ⟨[.ref l, .int x u], []⟩) (fun _ R s => s.heap.get? l = some { cls := .type "tuple", dict := dd, data := .seq items n, slots := sl } ∧ R (.ok (.ret (Value.ref l))) s) :=
  .of_wp fun prog w A R s h => by
    obtain ⟨hp, g, d, tk, os⟩ := s
    obtain ⟨hl, h⟩ := h
    have f1 := AutoSeq1.idx_int
    wp_walk using wpAny_loadPart' hl
    repeat (first
      | (refine wpAny_ite_false (decide_eq_false (by rw [c0]; exact Bool.false_ne_true)) ?_; wp_walk using wpAny_loadPart' hl)
      | (refine wpAny_ite_true (decide_eq_true (by rw [c1])) ?_; wp_walk using wpAny_loadPart' hl)
      | (refine wpAny_ite_true (decide_eq_true rfl) ?_; wp_walk using wpAny_loadPart' hl))
    exact ⟨_, rfl, h⟩
theorem tuple_mul0 (l : Addr) (items : Array Value) (n : Nat) (dd : Option Addr) (sl : Array (Option Value)) (x : Int) (u : Tok) (c0 : (decide (x < -(2 ^ 63)) || decide (x ≥ 2 ^ 63)) = false) (c1 : (items.isEmpty || x == 1) = false) (c2 : (decide (x ≤ 0) || items.isEmpty) = true) :
    Meets (Builtin.«tuple.__mul__» ⟨[.ref l, .int x u], []⟩) (fun _ R s => s.heap.get? l = some { cls := .type "tuple", dict := dd, data := .seq items n, slots := sl } ∧
      R (.ok (.ret (Value.ref s.heap.objs.size))) { s with heap := s.heap.push { cls := Value.type "tuple", data := Data.seq #[] }, toks := s.toks }) :=
  .of_wp fun prog w A R s h => by
    obtain ⟨hp, g, d, tk, os⟩ := s
    obtain ⟨hl, h⟩ := h
    have f1 := AutoSeq1.idx_int
    wp_walk using wpAny_loadPart' hl
    repeat (first
      | (refine wpAny_ite_false (decide_eq_false (by rw [c0]; exact Bool.false_ne_true)) ?_; wp_walk using wpAny_loadPart' hl)
      | (refine wpAny_ite_false (decide_eq_false (by rw [c1]; exact Bool.false_ne_true)) ?_; wp_walk using wpAny_loadPart' hl)
      | (refine wpAny_ite_true (decide_eq_true (by rw [c2])) ?_; wp_walk using wpAny_loadPart' hl)
      | (refine wpAny_ite_false (decide_eq_false (Nat.not_lt.mpr (by show 0 ≤ sizeLine; exact Nat.zero_le _))) ?_; wp_walk using wpAny_loadPart' hl))
    exact ⟨_, rfl, h⟩
section
variable {X : Cx}
def rRepF (K : PySem.W.Frag) : R2 := fun x y H Q => ∃ l k xs, x = .ref l ∧ y = .int k ∧ SqT K H l xs ∧ -1000 ≤ k ∧ k ≤ 1000 ∧ xs.length ≤ 1000 ∧ ((xs = [] ∨ k = 1) → Q (.ref l) H) ∧ (xs ≠ [] → k ≠ 1 → ∀ p o, H p = none → o.dict = none → Q (.ref p) (upd H p (.frz o (.tup (List.replicate k.toNat xs).flatten))))
theorem op_repF : OpR X (binaryOp .Mult) (rRepF X.K) := by
  intro pins s σ H x y v u Q I rx ry h
  obtain ⟨l, k, xs, rfl, rfl, hT, h1, h2, hz, q1, q2⟩ := h
  cases rx
  obtain ⟨t, rfl⟩ := ry
  obtain ⟨its, r, ⟨⟨cls, dd, data, sl⟩, ho, hc, n, hd⟩, hs⟩ := I.tuple hT
  simp only at hc hd
  subst hc hd
  have hle : its.length = xs.length := r.length.symm
  have c0 : (decide (k < -(2 ^ 63)) || decide (k ≥ 2 ^ 63)) = false := by
    rw [decide_eq_false (by omega), decide_eq_false (by omega)] <;> rfl
  by_cases hs1 : xs = [] ∨ k = 1
  · have c1 : (its.toArray.isEmpty || k == 1) = true := by
      rcases hs1 with e | e
      · rw [e] at hle
        have : its = [] := List.eq_nil_of_length_eq_zero hle
        rw [this]
        rfl
      · rw [e, show ((1 : Int) == 1) = true from rfl, Bool.or_true]
    exact wpAny_binaryOp_repeat_ref (T := "tuple") (U := "int") (by decide) ⟨_, ho, rfl⟩ (fun s' => typeIs_int s' k t) noFill_tuple_mul F.fills_int_mul F.slot_int_rmul repeat_tuple F.slot_int_index.lookup
      (call_meets F.slot_int_rmul (typeIs_int s k t) F.entry_int_rmul (F.args_int_rmul_2 _ _) (int_rmul_tuple k t l its.toArray n dd sl)
        ⟨ho, rfl, ⟨_, ho, rfl⟩, call_meets F.slot_tuple_mul ⟨_, ho, rfl⟩ F.entry_tuple_mul (F.args_tuple_mul_2 _ _) (tuple_mulS l its.toArray n dd sl k t c0 c1) ⟨ho, .ref l, H, I, rfl, q1 hs1⟩⟩)
  · have hne : xs ≠ [] := fun e => hs1 (.inl e)
    have hk1 : k ≠ 1 := fun e => hs1 (.inr e)
    have hn : its ≠ [] := fun e => hne (by
      rw [e] at hle
      exact List.eq_nil_of_length_eq_zero hle.symm)
    have hi : its.toArray.isEmpty = false := by
      cases its with
      | nil => exact absurd rfl hn
      | cons a b => rfl
    have c1 : (its.toArray.isEmpty || k == 1) = false := by
      rw [hi, Bool.false_or]
      exact beq_eq_false_iff_ne.mpr hk1
    by_cases hk0 : k ≤ 0
    · have c2 : (decide (k ≤ 0) || its.toArray.isEmpty) = true := by rw [decide_eq_true hk0]; rfl
      refine wpAny_binaryOp_repeat_ref (T := "tuple") (U := "int") (by decide) ⟨_, ho, rfl⟩ (fun s' => typeIs_int s' k t) noFill_tuple_mul F.fills_int_mul F.slot_int_rmul repeat_tuple F.slot_int_index.lookup
        (call_meets F.slot_int_rmul (typeIs_int s k t) F.entry_int_rmul (F.args_int_rmul_2 _ _) (int_rmul_tuple k t l its.toArray n dd sl)
          ⟨ho, rfl, ⟨_, ho, rfl⟩, call_meets F.slot_tuple_mul ⟨_, ho, rfl⟩ F.entry_tuple_mul (F.args_tuple_mul_2 _ _) (tuple_mul0 l its.toArray n dd sl k t c0 c1 c2) ⟨ho, ?_⟩⟩)
      have e0 : (List.replicate k.toNat xs).flatten = [] := by
        rw [show k.toNat = 0 by omega]
        rfl
      rw [e0] at q2
      exact laidF (its := []) I (Nat.zero_le _) .nil (q2 hne hk1)
    · have hsz0 : its.toArray.size = xs.length := by rw [List.size_toArray, hle]
      have hm : ((its.toArray.size : Nat) : Int) * k ≤ 1000000 := by
        rw [hsz0]
        have a1 : ((xs.length : Nat) : Int) * k ≤ 1000 * k := Int.mul_le_mul_of_nonneg_right (by omega) (by omega)
        omega
      have flen : (List.replicate k.toNat its).flatten.length ≤ sizeLine := by
        rw [PyProof.Rows.lm_len_rep_flat, hle, sizeLine_eq]
        have a1 : k.toNat * xs.length ≤ 1000 * 1000 := Nat.mul_le_mul (by omega) hz
        omega
      have c2 : (decide (k ≤ 0) || its.toArray.isEmpty) = false := by
        rw [hi, Bool.or_false]
        exact decide_eq_false hk0
      have c4 : Builtin.Tuple.tupleTooMany (((its.toArray.size : Nat) : Int) * k) = false := by
        unfold Builtin.Tuple.tupleTooMany
        rw [sizeLine_eq]
        exact decide_eq_false (by omega)
      refine wpAny_binaryOp_repeat_ref (T := "tuple") (U := "int") (by decide) ⟨_, ho, rfl⟩ (fun s' => typeIs_int s' k t) noFill_tuple_mul F.fills_int_mul F.slot_int_rmul repeat_tuple F.slot_int_index.lookup
        (call_meets F.slot_int_rmul (typeIs_int s k t) F.entry_int_rmul (F.args_int_rmul_2 _ _) (int_rmul_tuple k t l its.toArray n dd sl)
          ⟨ho, rfl, ⟨_, ho, rfl⟩, call_meets F.slot_tuple_mul ⟨_, ho, rfl⟩ F.entry_tuple_mul (F.args_tuple_mul_2 _ _) (tuple_mulW l its.toArray n dd sl k t c0 c1 c2 (by omega) c4 (by rw [size_rep, List.size_toArray]; exact flen)) ⟨ho, ?_⟩⟩)
      rw [size_rep]
      refine laidF I ?_ (r.rep k.toNat) (q2 hne hk1)
      rw [PyProof.Rows.lm_len_rep_flat, sizeLine_eq]
      have a1 : k.toNat * xs.length ≤ 1000 * 1000 := Nat.mul_le_mul (by omega) hz
      omega
end
/-! ### the operators -/
section
variable {S : Sc} {X : Cx}
def gAdd : D → D → Mem → Res D
  | .int i, .int j, M => .ok (.int (i + j)) M
  | .str a, .str b, M => if few (a.length + b.length) = true then .ok (.str (a ++ b)) M else .bad
  | .tup a, .tup b, M => if few (a.length + b.length) = true then .ok (.tup (a ++ b)) M else .bad
  | x, y, M => match listOf M x, listOf M y with | some a, some b => if few (a.length + b.length) = true then .ok (.lst (a ++ b)) M else .bad | _, _ => .bad
def rAddA (K : PySem.W.Frag) : R2 := fun x y H Q => (∃ i j, x = .int i ∧ y = .int j ∧ Q (.int (i + j)) H) ∨ (∃ i j, x = .str i ∧ y = .str j ∧ i.length + j.length ≤ sizeLine ∧ Q (.str (i ++ j)) H) ∨ rCatF K x y H Q ∨ rCat x y H Q
theorem op_addA : OpR X (binaryOp .Add) (rAddA X.K) := op_add.or (op_add_str.or (op_catF.or op_cat))
theorem rep_cat {ρ : List Addr} {H : Hp} {M : Mem} {a b : Addr} {xs ys : List V} {as bs : List D} {W : WX} {σ : L2.St} {Q : VK} (mo : MemOk S ρ H M) (fa : FzT H a xs) (na : a ∉ ρ) (ra : RepA S.K ρ H xs as) (fb : FzT H b ys) (nb : b ∉ ρ) (rb : RepA S.K ρ H ys bs) (hz : few (as.length + bs.length) = true) (p : Post S W (Rep S.K) σ ρ H Q (.ok (.tup (as ++ bs)) M)) : rCatF S.K (.ref a) (.ref b) H Q := by
  obtain ⟨oa, ha, ea⟩ := id fa
  obtain ⟨ob, hb, eb⟩ := id fb
  refine ⟨a, b, xs, ys, rfl, rfl, .inl (.inr ⟨oa, ea⟩), .inl (.inr ⟨ob, eb⟩), by rw [ra.len, rb.len]; exact few_ok hz, fun e => ?_, fun _ e => ?_, fun _ _ q o hq ho => p ρ _ _ (Stp.fresh mo hq) (rep_tup mo hq ho (ra.append rb))⟩
  · subst e
    cases ra
    exact p ρ H _ (Stp.refl mo) (.tup fb nb rb)
  · subst e
    cases rb
    rw [List.append_nil] at p
    exact p ρ H _ (Stp.refl mo) (.tup fa na ra)
theorem oq_add : OpQ S (rAddA S.K) gAdd := by
  intro W σ ρ H M x y dx dy Q mo rx ry p
  unfold gAdd at p
  split at p
  · cases rx; cases ry
    exact .inl ⟨_, _, rfl, rfl, p ρ H _ (Stp.refl mo) (.int _)⟩
  · split at p
    · rename_i hf
      cases rx; cases ry
      exact .inr (.inl ⟨_, _, rfl, rfl, few_ok hf, p ρ H _ (Stp.refl mo) (.str _)⟩)
    · exact p.elim
  · split at p
    · rename_i hf
      cases rx with
      | tup fa na ra =>
        cases ry with
        | tup fb nb rb => exact .inr (.inr (.inl (rep_cat mo fa na ra fb nb rb hf p)))
    · exact p.elim
  · split at p
    · rename_i a b h1 h2
      split at p
      · rename_i hf
        obtain ⟨l, xs, rfl, e1, ra⟩ := list_of mo rx h1
        obtain ⟨l2, ys, rfl, e2, rb⟩ := list_of mo ry h2
        exact .inr (.inr (.inr ⟨l, l2, xs, ys, rfl, rfl, e1, e2, by rw [ra.len, rb.len]; exact few_ok hf, fun q hq => p ρ _ _ (Stp.fresh mo hq) (rep_lst mo hq (ra.append rb))⟩))
      · exact p.elim
    · exact p.elim
def gSub : D → D → Mem → Res D
  | .int i, .int j, M => .ok (.int (i - j)) M
  | _, _, _ => .bad
theorem oq_sub : OpQ S (rI0 fun i j => .int (i - j)) gSub := by
  intro W σ ρ H M x y dx dy Q mo rx ry p
  unfold gSub at p
  split at p
  · cases rx; cases ry
    exact ⟨_, _, rfl, rfl, p ρ H _ (Stp.refl mo) (.int _)⟩
  · exact p.elim
def mulOk (i j : Int) : Bool := Nat.blt (i.natAbs.log2 + j.natAbs.log2) 1000000
abbrev thou (k : Int) : Bool := decide (-1000 ≤ k) && decide (k ≤ 1000)
def gMul : D → D → Mem → Res D
  | .int i, .int j, M => if mulOk i j = true then .ok (.int (i * j)) M else .bad
  | .tup a, .int k, M => if (thou k && Nat.ble a.length 1000) = true then .ok (.tup (List.replicate k.toNat a).flatten) M else .bad
  | x, .int k, M => match listOf M x with | some a => if (thou k && Nat.ble a.length 1000) = true then .ok (.lst (List.replicate k.toNat a).flatten) M else .bad | none => .bad
  | _, _, _ => .bad
def rMulA (K : PySem.W.Frag) : R2 := fun x y H Q => rI CMulW (fun i j => .int (i * j)) x y H Q ∨ rRepF K x y H Q ∨ rRep x y H Q
theorem op_mulA : OpR X (binaryOp .Mult) (rMulA X.K) := op_mulW.or (op_repF.or op_rep)
theorem thou_ok {k : Int} {n : Nat} (h : (thou k && Nat.ble n 1000) = true) : -1000 ≤ k ∧ k ≤ 1000 ∧ n ≤ 1000 := by
  rw [Bool.and_eq_true, Bool.and_eq_true, decide_eq_true_eq, decide_eq_true_eq] at h
  exact ⟨h.1.1, h.1.2, Nat.le_of_ble_eq_true h.2⟩
theorem oq_mul : OpQ S (rMulA S.K) gMul := by
  intro W σ ρ H M x y dx dy Q mo rx ry p
  unfold gMul at p
  split at p
  · split at p
    · rename_i hm
      cases rx; cases ry
      exact .inl ⟨_, _, rfl, rfl, (show CMulW _ _ from by unfold CMulW; simpa [mulOk, Nat.blt_eq] using hm), p ρ H _ (Stp.refl mo) (.int _)⟩
    · exact p.elim
  · split at p
    · rename_i hm
      obtain ⟨h1, h2, h3⟩ := thou_ok hm
      cases ry
      cases rx with
      | tup fa na ra =>
        obtain ⟨oa, ha, ea⟩ := id fa
        refine .inr (.inl ⟨_, _, _, rfl, rfl, .inl (.inr ⟨oa, ea⟩), h1, h2, by rw [ra.len]; exact h3, fun e => ?_, fun _ _ q o hq ho => p ρ _ _ (Stp.fresh mo hq) (rep_tup mo hq ho (ra.rep _))⟩)
        refine p ρ H _ (Stp.refl mo) (.tup fa na ?_)
        rcases e with e | e
        · subst e
          cases ra
          have : ∀ n : Nat, (List.replicate n ([] : List D)).flatten = [] := fun n => by simp
          rw [this]
          exact .nil
        · subst e
          show RepA S.K ρ H _ (List.replicate 1 _).flatten
          rw [show (List.replicate 1 _).flatten = (_ : List D) ++ [] from rfl, List.append_nil]
          exact ra
    · exact p.elim
  · split at p
    · rename_i a h1
      split at p
      · rename_i hm
        obtain ⟨g1, g2, g3⟩ := thou_ok hm
        cases ry
        obtain ⟨l, xs, rfl, e1, ra⟩ := list_of mo rx h1
        refine .inr (.inr ⟨l, _, xs, rfl, rfl, e1, by omega, by omega, ?_, fun q hq => p ρ _ _ (Stp.fresh mo hq) (rep_lst mo hq (ra.rep _))⟩)
        rw [ra.len, sizeLine_eq]
        have a0 : ∀ k : Int, k ≤ 1000 → a.length * k.toNat ≤ 1000 * 1000 := fun k hk => Nat.mul_le_mul g3 (by omega)
        have a1 := a0 _ g2
        omega
      · exact p.elim
    · exact p.elim
  · exact p.elim
def gMod : D → D → Mem → Res D
  | .int i, .int j, M => if decide (0 < j) = true then .ok (.int (i % j)) M else .bad
  | _, _, _ => .bad
theorem oq_mod : OpQ S (rI (fun _ j => 0 < j) fun i j => .int (i % j)) gMod := by
  intro W σ ρ H M x y dx dy Q mo rx ry p
  unfold gMod at p
  split at p
  · split at p
    · rename_i hm
      cases rx; cases ry
      exact ⟨_, _, rfl, rfl, of_decide_eq_true hm, p ρ H _ (Stp.refl mo) (.int _)⟩
    · exact p.elim
  · exact p.elim
def gFdiv : D → D → Mem → Res D
  | .int i, .int j, M => if (decide (0 < j) && Nat.blt j.natAbs.log2 9000) = true then .ok (.int (i / j)) M else .bad
  | _, _, _ => .bad
theorem oq_fdiv : OpQ S (rI CDivW fun i j => .int (i / j)) gFdiv := by
  intro W σ ρ H M x y dx dy Q mo rx ry p
  unfold gFdiv at p
  split at p
  · split at p
    · rename_i hm
      rw [Bool.and_eq_true, decide_eq_true_eq, Nat.blt_eq] at hm
      cases rx; cases ry
      exact ⟨_, _, rfl, rfl, hm, p ρ H _ (Stp.refl mo) (.int _)⟩
    · exact p.elim
  · exact p.elim
def gPow : D → D → Mem → Res D
  | .int i, .int j, M => if (decide (0 ≤ j) && decide (j ≤ 1000000) && Nat.blt i.natAbs 18446744073709551616) = true then .ok (.int (i ^ j.toNat)) M else .bad
  | _, _, _ => .bad
theorem oq_pow : OpQ S (rI CPow fun i j => .int (i ^ j.toNat)) gPow := by
  intro W σ ρ H M x y dx dy Q mo rx ry p
  unfold gPow at p
  split at p
  · split at p
    · rename_i hm
      rw [Bool.and_eq_true, Bool.and_eq_true, decide_eq_true_eq, decide_eq_true_eq, Nat.blt_eq] at hm
      cases rx; cases ry
      exact ⟨_, _, rfl, rfl, ⟨hm.1.1, hm.1.2, by have := hm.2; omega⟩, p ρ H _ (Stp.refl mo) (.int _)⟩
    · exact p.elim
  · exact p.elim
def gCmp (f : Int → Int → Bool) : D → D → Mem → Res D
  | .int i, .int j, M => .ok (.bl (f i j)) M
  | _, _, _ => .bad
theorem oq_cmp (f : Int → Int → Bool) : OpQ S (rI0 fun i j => .bl (f i j)) (gCmp f) := by
  intro W σ ρ H M x y dx dy Q mo rx ry p
  unfold gCmp at p
  split at p
  · cases rx; cases ry
    exact ⟨_, _, rfl, rfl, p ρ H _ (Stp.refl mo) (.bl _)⟩
  · exact p.elim
theorem flat_cmp (f : Int → Int → Bool) : Flat (gCmp f) := by
  intro x y M
  unfold gCmp
  split
  · exact .inl ⟨_, rfl⟩
  · exact .inr rfl
def gIsN (neg : Bool) : D → D → Mem → Res D
  | .adr _, _, _ => .bad
  | .non, .non, M => .ok (.bl (!neg)) M
  | _, .non, M => .ok (.bl neg) M
  | _, _, _ => .bad
theorem not_non {K : PySem.W.Frag} {ρ : List Addr} {H : Hp} {x : V} {d : D} (r : Rep K ρ H x d) (h1 : d ≠ .non) (h2 : ∀ v, d ≠ .adr v) : x ≠ .non := by
  intro e
  subst e
  cases r with
  | non => exact h1 rfl
  | adr => exact h2 _ rfl
theorem oq_isN : OpQ S (fun x y H Q => y = .non ∧ Q (.bl (decide (x = .non))) H) (gIsN false) := by
  intro W σ ρ H M x y dx dy Q mo rx ry p
  unfold gIsN at p
  split at p
  · exact p.elim
  · cases rx; cases ry
    exact ⟨rfl, p ρ H _ (Stp.refl mo) (.bl _)⟩
  · rename_i h1 h2
    cases ry
    refine ⟨rfl, ?_⟩
    rw [decide_eq_false (not_non rx (fun e => h2 e) h1)]
    exact p ρ H _ (Stp.refl mo) (.bl _)
  · exact p.elim
theorem oq_notN : OpQ S (fun x y H Q => y = .non ∧ Q (.bl (!decide (x = .non))) H) (gIsN true) := by
  intro W σ ρ H M x y dx dy Q mo rx ry p
  unfold gIsN at p
  split at p
  · exact p.elim
  · cases rx; cases ry
    exact ⟨rfl, p ρ H _ (Stp.refl mo) (.bl _)⟩
  · rename_i h1 h2
    cases ry
    refine ⟨rfl, ?_⟩
    rw [decide_eq_false (not_non rx (fun e => h2 e) h1)]
    exact p ρ H _ (Stp.refl mo) (.bl _)
  · exact p.elim
/-! ### likeness of data -/
mutual
def D.py : D → Option PyData
  | .non => some .none
  | .bl b => some (.bool b)
  | .int i => some (.int i)
  | .str x => some (.str x)
  | .tup ds => (match D.pyA ds with | some ps => some (.tuple ps) | none => none)
  | .lst ds => (match D.pyA ds with | some ps => some (.list ps) | none => none)
  | _ => none
def D.pyA : List D → Option (List PyData)
  | [] => some []
  | d :: ds => (match D.py d, D.pyA ds with | some p, some ps => some (p :: ps) | _, _ => none)
end
def toPy (M : Mem) : D → Option PyData
  | .ref n => (match M[n]? with | some (.lst ds) => (match D.pyA ds with | some ps => some (.list ps) | none => none) | none => none)
  | d => D.py d
mutual
theorem py_dp {K : PySem.W.Frag} {ρ : List Addr} {H : Hp} : ∀ (d : D) (v : V) (p : PyData), Rep K ρ H v d → D.py d = some p → Dp K H v p
  | .non, _, _, r, h => by cases r; cases h; exact .non
  | .bl b, _, _, r, h => by cases r; cases h; exact .bl b
  | .int i, _, _, r, h => by cases r; cases h; exact .int i
  | .str x, _, _, r, h => by cases r; cases h; exact .str x
  | .tup ds, _, _, r, h => by
    unfold D.py at h
    split at h
    · rename_i ps e
      cases h
      cases r with
      | tup f n ra =>
        obtain ⟨o, _, e1⟩ := f
        exact .tup (.inl (.inr ⟨o, e1⟩)) (pyA_dp ds _ _ ra e)
    · cases h
  | .lst ds, _, _, r, h => by
    unfold D.py at h
    split at h
    · rename_i ps e
      cases h
      cases r with
      | lst f n ra => exact .lst (SqL.of f) (pyA_dp ds _ _ ra e)
    · cases h
  | .dct _ _, _, _, _, h => by cases h
  | .scr _, _, _, _, h => by cases h
  | .ref _, _, _, _, h => by cases h
  | .adr _, _, _, _, h => by cases h
theorem pyA_dp {K : PySem.W.Frag} {ρ : List Addr} {H : Hp} : ∀ (ds : List D) (vs : List V) (ps : List PyData), RepA K ρ H vs ds → D.pyA ds = some ps → DpAll K H vs ps
  | [], _, _, r, h => by cases r; cases h; exact .nil
  | d :: ds, _, _, r, h => by
    unfold D.pyA at h
    split at h
    · rename_i p ps e1 e2
      cases h
      cases r with
      | cons r1 r2 => exact .cons (py_dp d _ _ r1 e1) (pyA_dp ds _ _ r2 e2)
    · cases h
end
theorem toPy_dp {ρ : List Addr} {H : Hp} {M : Mem} {d : D} {v : V} {p : PyData} (mo : MemOk S ρ H M) (r : Rep S.K ρ H v d) (h : toPy M d = some p) : Dp S.K H v p := by
  unfold toPy at h
  split at h
  · split at h
    · rename_i ds hm
      split at h
      · rename_i ps e
        cases h
        cases r with
        | ref f =>
          obtain ⟨xs, e1, ra⟩ := mo.cell _ _ _ f hm
          exact .lst (SqL.of e1) (pyA_dp ds _ _ ra e)
      · cases h
    · cases h
  · exact py_dp _ _ _ r h
def gEq (neg : Bool) (x y : D) (M : Mem) : Res D := match toPy M x, toPy M y with
  | some a, some b => if (SeqAt.shaped a && SeqAt.shaped b) = true then .ok (.bl (if neg = true then !PyData.eqv a b else PyData.eqv a b)) M else .bad
  | _, _ => .bad
theorem oq_eq : OpQ S (rEqD S.K) (gEq false) := by
  intro W σ ρ H M x y dx dy Q mo rx ry p
  unfold gEq at p
  split at p
  · rename_i a b h1 h2
    split at p
    · rename_i hs
      rw [Bool.and_eq_true] at hs
      exact ⟨a, b, toPy_dp mo rx h1, toPy_dp mo ry h2, hs.1, hs.2, p ρ H _ (Stp.refl mo) (.bl _)⟩
    · exact p.elim
  · exact p.elim
theorem oq_ne : OpQ S (rNeD S.K) (gEq true) := by
  intro W σ ρ H M x y dx dy Q mo rx ry p
  unfold gEq at p
  split at p
  · rename_i a b h1 h2
    split at p
    · rename_i hs
      rw [Bool.and_eq_true] at hs
      exact ⟨a, b, toPy_dp mo rx h1, toPy_dp mo ry h2, hs.1, hs.2, p ρ H _ (Stp.refl mo) (.bl _)⟩
    · exact p.elim
  · exact p.elim
def gNeg : D → Mem → Res D
  | .int i, M => .ok (.int (-i)) M
  | _, _ => .bad
def fUn (g : D → Mem → Res D) (f : F D) : F D := fun σ M => (f σ M).bind g
theorem qe_neg {W : WX} {a : Expr} {pos : Pos} {fa : F D} (ha : QE S W X a fa) : QE S W X (.UnaryOp .USub a pos) (fUn gNeg fa) := PE.imp (pe_un un_neg ha) fun σ H Q ⟨ρ, M, σa, mo, rs, p⟩ => by
  refine use mo rs p fun x M1 ρ1 H1 v st1 r1 rs1 p1 => ?_
  cases x with
  | int i => cases r1; exact ⟨i, rfl, p1 ρ1 H1 _ (Stp.refl st1.2) (.int _)⟩
  | _ => exact False.elim p1
end
/-! ### calls of built-ins -/
section
variable {S : Sc} {X : Cx} {W : WX}
def CallQ (S : Sc) (r : List V → Hp → VK → Prop) (g : List D → Mem → Res D) : Prop := ∀ (W : WX) (σ : L2.St) (ρ : List Addr) (H : Hp) (M : Mem) (xs : List V) (ds : List D) (Q : VK), MemOk S ρ H M → RepA S.K ρ H xs ds → Post S W (Rep S.K) σ ρ H Q (g ds M) → r xs H Q
theorem cb_imp {r : List V → Hp → VK → Prop} {g : List D → Mem → Res D} {fs : F (List D)} (hq : CallQ S r g) {σ : L2.St} {H : Hp} {Q : VK} (h : tOf S W (Rep S.K) (fCall g fs) σ H Q) : tCB r (tOf S W (RepA S.K) fs) σ H Q := by
  obtain ⟨ρ, M, σa, mo, rs, p⟩ := h
  exact use mo rs p fun ds M1 ρ1 H1 vs st1 r1 rs1 p1 => hq _ _ _ _ _ _ _ _ st1.2 r1 p1
variable {e : Expr} {es : List Expr} {fs : F (List D)} {x : Str} {p pos : Pos}
theorem qe_callB {id : String} {r : List V → Hp → VK → Prop} {g : List D → Mem → Res D} (hc : CallR X (.builtin id) r) (hq : CallQ S r g) (hg : Gl X x) (hm : X.mg x = none) (hv : bootBuiltins x = some (.builtin id)) (ha : QA S W X (e :: es) fs) (hn : x ≠ "__name__" := by decide) (hdb : (x == ("__debug__" : Str)) = false := by decide)
    (he : starEach (e :: es) X.env = (false, eval e X.env) :: starEach es X.env := by rfl) (hpl : (backTo pos (starEach es X.env)).any (·.1) = false := by rfl) : QE S W X (.Call (.Name x p) (e :: es) [] pos) (fCall g fs) := PE.imp (pe_callB hc hg hm hv ha hn hdb he hpl) fun _ _ _ h => cb_imp hq h
theorem qe_callTy {id : String} {r : List V → Hp → VK → Prop} {g : List D → Mem → Res D} (hc : CallR X (.type id) r) (hq : CallQ S r g) (hg : Gl X x) (hm : X.mg x = none) (hv : bootBuiltins x = some (.type id)) (ha : QA S W X (e :: es) fs) (hn : x ≠ "__name__" := by decide) (hdb : (x == ("__debug__" : Str)) = false := by decide)
    (he : starEach (e :: es) X.env = (false, eval e X.env) :: starEach es X.env := by rfl) (hpl : (backTo pos (starEach es X.env)).any (·.1) = false := by rfl) : QE S W X (.Call (.Name x p) (e :: es) [] pos) (fCall g fs) := PE.imp (pe_callTy hc hg hm hv ha hn hdb he hpl) fun _ _ _ h => cb_imp hq h
end
end QX

set_option maxRecDepth 100000
set_option maxHeartbeats 2000000
/-! QX7: built-ins and methods -/
namespace QX
open PySem PySem.Spec PyProof.Rows L2 HX
section
variable {S : Sc} {X : Cx} {W : WX}
/-! ### isinstance -/
inductive Ty where
  | none | bool | int | str | tuple | list | dict
  deriving DecidableEq
def Ty.name : Ty → String
  | .none => "NoneType" | .bool => "bool" | .int => "int" | .str => "str" | .tuple => "tuple" | .list => "list" | .dict => "dict"
def D.ty : D → Option Ty
  | .non => some .none
  | .bl _ => some .bool
  | .int _ => some .int
  | .str _ => some .str
  | .tup _ => some .tuple
  | .lst _ => some .list
  | .dct _ _ => some .dict
  | .ref _ => some .list
  | .scr _ => none
  | .adr _ => none
/-- of a built-in class -/
def Ty.is (t c : Ty) : Bool := decide (t = c) || (decide (t = .bool) && decide (c = .int))
theorem kit_is : ∀ t c : Ty, c ≠ .none → kitB t.name c.name = some (t.is c) := by
  intro t c h
  cases c with
  | none => exact absurd rfl h
  | _ => cases t <;> decide +kernel
theorem ty_ok {ρ : List Addr} {H : Hp} {M : Mem} {v : V} {d : D} {t : Ty} (mo : MemOk S ρ H M) (r : Rep S.K ρ H v d) (h : d.ty = some t) : TyX S.K H v (.type t.name) := by
  cases r with
  | non => cases h; exact .base .non
  | bl b => cases h; exact .base (.bl b)
  | int i => cases h; exact .base (.int i)
  | str x => cases h; exact .base (.str x)
  | tup f n ra =>
    cases h
    obtain ⟨o, _, e⟩ := f
    exact .fTuple e
  | lst e n ra => cases h; exact .base (.lst e)
  | dct e n hk ra => cases h; exact .base (.dK e)
  | scr f => cases h
  | ref f =>
    cases h
    obtain ⟨c, hc, ok⟩ := mo.at f
    cases c with
    | lst ds =>
      obtain ⟨xs, e, _⟩ := ok
      exact .base (.lst e)
  | adr v => cases h
/-- isinstance(x, c), c a built-in class that is written -/
def gIsi (c : Ty) : List D → Mem → Res D
  | [d, .adr (.ty n)], M => if n = c.name then (match d.ty with | some t => .ok (.bl (t.is c)) M | none => .bad) else .bad
  | _, _ => .bad
theorem cq_isi (c : Ty) (hc : c ≠ .none) : CallQ S (rIsi S.K) (gIsi c) := by
  intro W σ ρ H M xs ds Q mo ra p
  unfold gIsi at p
  split at p
  · split at p
    · rename_i hn
      split at p
      · rename_i t ht
        obtain ⟨v, v2, rfl, r1, r2⟩ := RepA.two ra
        cases r2
        subst hn
        exact ⟨v, _, _, _, _, rfl, .ty _, ty_ok mo r1 ht, kit_ty (kit_is t c hc), p ρ H _ (Stp.refl mo) (.bl _)⟩
      · exact p.elim
    · exact p.elim
  · exact p.elim
/-! ### len -/
def gLen : List D → Mem → Res D
  | [.str z], M => if few z.length = true then .ok (.int z.length) M else .bad
  | [d], M => (match seqOf M d with | some ds => .ok (.int ds.length) M | none => .bad)
  | _, _ => .bad
def rLenA (K : PySem.W.Frag) : List V → Hp → VK → Prop := fun xs H Q => (∃ p ys, xs = [.ref p] ∧ (SqL K H p ys ∨ SqT K H p ys) ∧ Q (.int ys.length) H) ∨ ∃ z, xs = [.str z] ∧ z.length ≤ sizeLine ∧ Q (.int z.length) H
theorem call_lenA : CallR X (.builtin "len") (rLenA X.K) := call_len_seq.or call_len_str
theorem cq_len : CallQ S (rLenA S.K) gLen := by
  intro W σ ρ H M xs ds Q mo ra p
  unfold gLen at p
  split at p
  · split at p
    · rename_i hf
      obtain ⟨v, rfl, r⟩ := RepA.one ra
      cases r
      exact .inr ⟨_, rfl, few_ok hf, p ρ H _ (Stp.refl mo) (.int _)⟩
    · exact p.elim
  · split at p
    · rename_i ds hs
      obtain ⟨v, rfl, r⟩ := RepA.one ra
      obtain ⟨a, ys, rfl, hq, rb⟩ := seq_of mo r hs
      refine .inl ⟨a, ys, rfl, hq, ?_⟩
      rw [rb.len]
      exact p ρ H _ (Stp.refl mo) (.int _)
    · exact p.elim
  · exact p.elim
/-! ### all, any, sum, max, min of a list -/
def blsOf : List D → Option (List Bool)
  | [] => some []
  | .bl b :: ds => (match blsOf ds with | some bs => some (b :: bs) | none => none)
  | _ => none
def intsOf : List D → Option (List Int)
  | [] => some []
  | .int b :: ds => (match intsOf ds with | some bs => some (b :: bs) | none => none)
  | _ => none
theorem bls_ok {K : PySem.W.Frag} {ρ : List Addr} {H : Hp} : ∀ (ds : List D) (xs : List V) (bs : List Bool), RepA K ρ H xs ds → blsOf ds = some bs → xs = bs.map V.bl
  | [], _, _, r, h => by cases r; cases h; rfl
  | d :: ds, _, bs, r, h => by
    cases r with
    | cons r1 r2 =>
      cases d with
      | bl b =>
        unfold blsOf at h
        split at h
        · rename_i bs' e
          cases h
          cases r1
          rw [List.map_cons, bls_ok ds _ _ r2 e]
        · cases h
      | _ => cases h
theorem ints_ok {K : PySem.W.Frag} {ρ : List Addr} {H : Hp} : ∀ (ds : List D) (xs : List V) (bs : List Int), RepA K ρ H xs ds → intsOf ds = some bs → xs = bs.map V.int
  | [], _, _, r, h => by cases r; cases h; rfl
  | d :: ds, _, bs, r, h => by
    cases r with
    | cons r1 r2 =>
      cases d with
      | int b =>
        unfold intsOf at h
        split at h
        · rename_i bs' e
          cases h
          cases r1
          rw [List.map_cons, ints_ok ds _ _ r2 e]
        · cases h
      | _ => cases h
def gAll : List D → Mem → Res D
  | [d], M => (match listOf M d with | some ds => (match blsOf ds with | some bs => .ok (.bl (bs.all id)) M | none => .bad) | none => .bad)
  | _, _ => .bad
def gAny : List D → Mem → Res D
  | [d], M => (match listOf M d with | some ds => (match blsOf ds with | some bs => .ok (.bl (bs.any id)) M | none => .bad) | none => .bad)
  | _, _ => .bad
theorem cq_all : CallQ S (rAll S.K) gAll := by
  intro W σ ρ H M xs ds Q mo ra p
  unfold gAll at p
  split at p
  · split at p
    · rename_i es hl
      split at p
      · rename_i bs hb
        obtain ⟨v, rfl, r⟩ := RepA.one ra
        obtain ⟨a, ys, rfl, e, rb⟩ := list_of mo r hl
        rw [bls_ok es ys bs rb hb] at e
        exact ⟨a, bs, rfl, SqL.of e, p ρ H _ (Stp.refl mo) (.bl _)⟩
      · exact p.elim
    · exact p.elim
  · exact p.elim
theorem cq_any : CallQ S (rAny S.K) gAny := by
  intro W σ ρ H M xs ds Q mo ra p
  unfold gAny at p
  split at p
  · split at p
    · rename_i es hl
      split at p
      · rename_i bs hb
        obtain ⟨v, rfl, r⟩ := RepA.one ra
        obtain ⟨a, ys, rfl, e, rb⟩ := list_of mo r hl
        rw [bls_ok es ys bs rb hb] at e
        exact ⟨a, bs, rfl, SqL.of e, p ρ H _ (Stp.refl mo) (.bl _)⟩
      · exact p.elim
    · exact p.elim
  · exact p.elim
def gSum : List D → Mem → Res D
  | [.tup ds], M => (match intsOf ds with | some ns => .ok (.int ns.sum) M | none => .bad)
  | [d], M => (match listOf M d with | some ds => (match intsOf ds with | some ns => .ok (.int ns.sum) M | none => .bad) | none => .bad)
  | _, _ => .bad
def rSumA (K : PySem.W.Frag) : List V → Hp → VK → Prop := fun xs H Q => rSum K xs H Q ∨ rSumT K xs H Q
theorem cr_sumA (hc : X.calm = true) : CallR X (.builtin "sum") (rSumA X.K) := (cr_sum hc).or (cr_sumT hc)
theorem cq_sum : CallQ S (rSumA S.K) gSum := by
  intro W σ ρ H M xs ds Q mo ra p
  unfold gSum at p
  split at p
  · rename_i es
    split at p
    · rename_i ns hb
      obtain ⟨v, rfl, r⟩ := RepA.one ra
      obtain ⟨a, ys, rfl, hq, rb, _, _⟩ := tup_of r
      rw [ints_ok es ys ns rb hb] at hq
      exact .inr ⟨a, ns, rfl, hq, p ρ H _ (Stp.refl mo) (.int _)⟩
    · exact p.elim
  · split at p
    · rename_i es hl
      split at p
      · rename_i ns hb
        obtain ⟨v, rfl, r⟩ := RepA.one ra
        obtain ⟨a, ys, rfl, e, rb⟩ := list_of mo r hl
        rw [ints_ok es ys ns rb hb] at e
        exact .inl ⟨a, ns, rfl, SqL.of e, p ρ H _ (Stp.refl mo) (.int _)⟩
      · exact p.elim
    · exact p.elim
  · exact p.elim
def gMax2 : List D → Mem → Res D
  | [.int i, .int j], M => .ok (.int (if j > i then j else i)) M
  | _, _ => .bad
def gMin2 : List D → Mem → Res D
  | [.int i, .int j], M => .ok (.int (if j < i then j else i)) M
  | _, _ => .bad
theorem cq_max2 : CallQ S (fun xs H Q => ∃ i j, xs = [.int i, .int j] ∧ Q (.int (if j > i then j else i)) H) gMax2 := by
  intro W σ ρ H M xs ds Q mo ra p
  unfold gMax2 at p
  split at p
  · obtain ⟨v, v2, rfl, r1, r2⟩ := RepA.two ra
    cases r1; cases r2
    exact ⟨_, _, rfl, p ρ H _ (Stp.refl mo) (.int _)⟩
  · exact p.elim
theorem cq_min2 : CallQ S (fun xs H Q => ∃ i j, xs = [.int i, .int j] ∧ Q (.int (if j < i then j else i)) H) gMin2 := by
  intro W σ ρ H M xs ds Q mo ra p
  unfold gMin2 at p
  split at p
  · obtain ⟨v, v2, rfl, r1, r2⟩ := RepA.two ra
    cases r1; cases r2
    exact ⟨_, _, rfl, p ρ H _ (Stp.refl mo) (.int _)⟩
  · exact p.elim
/-! ### tuple, list, int -/
def gTuple : List D → Mem → Res D
  | [.tup ds], M => .ok (.tup ds) M
  | [d], M => (match listOf M d with | some ds => .ok (.tup ds) M | none => .bad)
  | _, _ => .bad
def rTupleA (K : PySem.W.Frag) : List V → Hp → VK → Prop := fun xs H Q => (∃ p ys, xs = [.ref p] ∧ SqL K H p ys ∧ ∀ l o, H l = none → o.dict = none → Q (.ref l) (upd H l (.frz o (.tup ys)))) ∨ ∃ a ys, xs = [.ref a] ∧ SqT K H a ys ∧ Q (.ref a) H
theorem call_tupleA : CallR X (.type "tuple") (rTupleA X.K) := call_tuple_frz.or call_tupleT
theorem cq_tuple : CallQ S (rTupleA S.K) gTuple := by
  intro W σ ρ H M xs ds Q mo ra p
  unfold gTuple at p
  split at p
  · obtain ⟨v, rfl, r⟩ := RepA.one ra
    have r' := r
    obtain ⟨a, ys, rfl, hq, rb, _, _⟩ := tup_of r
    exact .inr ⟨a, ys, rfl, hq, p ρ H _ (Stp.refl mo) r'⟩
  · split at p
    · rename_i es hl
      obtain ⟨v, rfl, r⟩ := RepA.one ra
      obtain ⟨a, ys, rfl, e, rb⟩ := list_of mo r hl
      exact .inl ⟨a, ys, rfl, SqL.of e, fun q o hq ho => p ρ _ _ (Stp.fresh mo hq) (rep_tup mo hq ho rb)⟩
    · exact p.elim
  · exact p.elim
def gList : List D → Mem → Res D
  | [d], M => (match seqOf M d with | some ds => .ok (.lst ds) M | none => .bad)
  | _, _ => .bad
def gListC : List D → Mem → Res D
  | [d], M => (match seqOf M d with | some ds => .ok (.ref M.length) (M ++ [.lst ds]) | none => .bad)
  | _, _ => .bad
def rListA (K : PySem.W.Frag) : List V → Hp → VK → Prop := fun xs H Q => ∃ p ys, xs = [.ref p] ∧ (SqL K H p ys ∨ SqT K H p ys) ∧ ∀ l, H l = none → Q (.ref l) (upd H l (.lst ys))
theorem call_listA : CallR X (.type "list") (rListA X.K) := call_list_of
theorem cq_list : CallQ S (rListA S.K) gList := by
  intro W σ ρ H M xs ds Q mo ra p
  unfold gList at p
  split at p
  · split at p
    · rename_i es hl
      obtain ⟨v, rfl, r⟩ := RepA.one ra
      obtain ⟨a, ys, rfl, hq, rb⟩ := seq_of mo r hl
      exact ⟨a, ys, rfl, hq, fun q hq => p ρ _ _ (Stp.fresh mo hq) (rep_lst mo hq rb)⟩
    · exact p.elim
  · exact p.elim
theorem cq_listC : CallQ S (rListA S.K) gListC := by
  intro W σ ρ H M xs ds Q mo ra p
  unfold gListC at p
  split at p
  · split at p
    · rename_i es hl
      obtain ⟨v, rfl, r⟩ := RepA.one ra
      obtain ⟨a, ys, rfl, hq, rb⟩ := seq_of mo r hl
      exact ⟨a, ys, rfl, hq, fun q hq => p (ρ ++ [q]) _ _ (Stp.alloc mo hq rb) (rep_new mo)⟩
    · exact p.elim
  · exact p.elim
def gInt : List D → Mem → Res D
  | [.int i], M => .ok (.int i) M
  | [.bl b], M => .ok (.int (if b then 1 else 0)) M
  | _, _ => .bad
theorem cq_int : CallQ S (fun xs H Q => (∃ i, xs = [.int i] ∧ Q (.int i) H) ∨ ∃ k, xs = [.bl k] ∧ Q (.int (if k then 1 else 0)) H) gInt := by
  intro W σ ρ H M xs ds Q mo ra p
  unfold gInt at p
  split at p
  · obtain ⟨v, rfl, r⟩ := RepA.one ra
    cases r
    exact .inl ⟨_, rfl, p ρ H _ (Stp.refl mo) (.int _)⟩
  · obtain ⟨v, rfl, r⟩ := RepA.one ra
    cases r
    exact .inr ⟨_, rfl, p ρ H _ (Stp.refl mo) (.int _)⟩
  · exact p.elim
/-! ### list(range(..)) -/
def numsD (lo : Int) : Nat → List D
  | 0 => []
  | n + 1 => .int lo :: numsD (lo + 1) n
theorem numsD_eq : ∀ (n : Nat) (lo : Int), numsD lo n = (List.range n).map fun i : Nat => D.int (lo + i)
  | 0, _ => rfl
  | n + 1, lo => by
    rw [numsD, numsD_eq n, List.range_succ_eq_map, List.map_cons, List.map_map]
    congr 1
    · simp
    · refine List.map_congr_left fun i _ => ?_
      simp only [Function.comp]
      congr 1
      omega
def rgOk (a b : Int) : Bool := mid a && mid b && Nat.ble (b - a).toNat 16777216
def fListRg (c : Bool) (fa : F D) (fb : F D) : F D := fun σ M => (fa σ M).bind fun x M1 => (fb σ M1).bind fun y M2 => match x, y with
  | .int a, .int b => if rgOk a b = true then (if c = true then .ok (.ref M2.length) (M2 ++ [.lst (numsD a (b - a).toNat)]) else .ok (.lst (numsD a (b - a).toNat)) M2) else .bad
  | _, _ => .bad
def fListRg1 (c : Bool) (fb : F D) : F D := fun σ M => (fb σ M).bind fun y M2 => match y with
  | .int b => if rgOk 0 b = true then (if c = true then .ok (.ref M2.length) (M2 ++ [.lst (numsD 0 (b - 0).toNat)]) else .ok (.lst (numsD 0 (b - 0).toNat)) M2) else .bad
  | _ => .bad
theorem rg_ok {a b : Int} (h : rgOk a b = true) : RgOk a b := by
  unfold rgOk at h
  rw [Bool.and_eq_true, Bool.and_eq_true] at h
  exact ⟨(mid_ok h.1.1).1, (mid_ok h.1.1).2, (mid_ok h.1.2).1, (mid_ok h.1.2).2, Nat.le_of_ble_eq_true h.2⟩
theorem rep_rg {K : PySem.W.Frag} {ρ : List Addr} {H : Hp} (a b : Int) : RepA K ρ H (rgV a b) (numsD a (b - a).toNat) := by
  rw [numsD_eq]
  unfold rgV
  generalize (b - a).toNat = n
  have : ∀ l : List Nat, RepA K ρ H (l.map fun i : Nat => V.int (a + i)) (l.map fun i : Nat => D.int (a + i)) := by
    intro l
    induction l with
    | nil => exact .nil
    | cons x l ih => exact .cons (.int _) ih
  exact this _
variable {a b : Expr} {fa fb : F D} {p p2 pos pos2 : Pos}
theorem rg_fin {c : Bool} {ρ : List Addr} {H : Hp} {M : Mem} {x y : Int} {σ : L2.St} {Q : VK} (mo : MemOk S ρ H M) (p1 : Post S W (Rep S.K) σ ρ H Q (if rgOk x y = true then (if c = true then .ok (.ref M.length) (M ++ [.lst (numsD x (y - x).toNat)]) else .ok (.lst (numsD x (y - x).toNat)) M) else .bad)) : RgOk x y ∧ ∀ q, H q = none → Q (.ref q) (upd H q (.lst (rgV x y))) := by
  split at p1
  · rename_i ho
    refine ⟨rg_ok ho, fun q hq => ?_⟩
    cases c with
    | true => exact p1 (ρ ++ [q]) _ _ (Stp.alloc mo hq (rep_rg x y)) (rep_new mo)
    | false => exact p1 ρ _ _ (Stp.fresh mo hq) (rep_lst mo hq (rep_rg x y))
  · exact p1.elim
theorem qe_listRg1 (c : Bool) (hc : X.calm = true) (hg : Gl X "list") (hm : X.mg "list" = none) (hg2 : Gl X "range") (hm2 : X.mg "range" = none) (ha : QE S W X a fa) (na : starEach [a] X.env = (false, eval a X.env) :: starEach [] X.env := by rfl)
    (nb : starEach [.Call (.Name "range" p) [a] [] pos] X.env = (false, eval (.Call (.Name "range" p) [a] [] pos) X.env) :: starEach [] X.env := by rfl) : QE S W X (.Call (.Name "list" p2) [.Call (.Name "range" p) [a] [] pos] [] pos2) (fListRg1 c fa) := by
  refine PE.imp (pe_listRg hc hg hm (prg_1 hg2 hm2 ha na) nb) fun σ H Q ⟨ρ, M, σa, mo, rs, p⟩ => ?_
  refine use mo rs p fun x M1 ρ1 H1 v st1 r1 rs1 p1 => ?_
  cases x with
  | int i =>
    cases r1
    exact ⟨i, rfl, rg_fin st1.2 p1⟩
  | _ => exact False.elim p1
theorem qe_listRg2 (c : Bool) (hc : X.calm = true) (hg : Gl X "list") (hm : X.mg "list" = none) (hg2 : Gl X "range") (hm2 : X.mg "range" = none) (ha : QE S W X a fa) (hb : QE S W X b fb) (na : starEach [a, b] X.env = (false, eval a X.env) :: starEach [b] X.env := by rfl)
    (nb : starEach [b] X.env = (false, eval b X.env) :: starEach [] X.env := by rfl) (hp : (backTo pos (starEach [b] X.env)).any (·.1) = false := by rfl)
    (nc : starEach [.Call (.Name "range" p) [a, b] [] pos] X.env = (false, eval (.Call (.Name "range" p) [a, b] [] pos) X.env) :: starEach [] X.env := by rfl) : QE S W X (.Call (.Name "list" p2) [.Call (.Name "range" p) [a, b] [] pos] [] pos2) (fListRg c fa fb) := by
  refine PE.imp (pe_listRg hc hg hm (prg_2 hg2 hm2 ha hb na nb hp) nc) fun σ H Q ⟨ρ, M, σa, mo, rs, p⟩ => ?_
  refine use mo rs p fun x M1 ρ1 H1 v st1 r1 rs1 p1 => use st1.2 rs1 p1 fun y M2 ρ2 H2 u st2 r2 rs2 p2 => ?_
  split at p2
  · cases r1; cases r2
    exact ⟨_, _, rfl, rfl, rg_fin st2.2 p2⟩
  · exact False.elim p2
/-! ### methods -/
def MtQ (S : Sc) (r : V → List V → Hp → VK → Prop) (g : D → List D → Mem → Res D) : Prop := ∀ (W : WX) (σ : L2.St) (ρ : List Addr) (H : Hp) (M : Mem) (x : V) (d : D) (xs : List V) (ds : List D) (Q : VK), MemOk S ρ H M → Rep S.K ρ H x d → RepA S.K ρ H xs ds → Post S W (Rep S.K) σ ρ H Q (g d ds M) → r x xs H Q
def isL (M : Mem) (d : D) : Bool := (listOf M d).isSome
/-- a list's method -/
def fMeth (g : D → List D → Mem → Res D) (fo : F D) (fs : F (List D)) : F D := fun σ M => (fo σ M).bind fun d M1 => if isL M1 d = true then (fs σ M1).bind fun ds M2 => g d ds M2 else .bad
variable {o e : Expr} {es : List Expr} {fo : F D} {fs : F (List D)} {name : Str} {id : String} {apos cpos : Pos} {r : V → List V → Hp → VK → Prop} {g : D → List D → Mem → Res D}
theorem isL_ty {ρ : List Addr} {H : Hp} {M : Mem} {v : V} {d : D} (mo : MemOk S ρ H M) (r : Rep S.K ρ H v d) (h : isL M d = true) : tyV S.K "list" v H := by
  unfold isL at h
  obtain ⟨ds, e⟩ := Option.isSome_iff_exists.mp h
  obtain ⟨a, xs, rfl, e1, _⟩ := list_of mo r e
  exact .inl ⟨rfl, xs, SqL.of e1⟩
theorem qe_bm (hk : X.K = S.K) (pa : PlainAttrs "list") (slot : Slot "list" name id) (hty : typeOf (.builtin id) = pure (.type "method_descriptor")) (hm : MtR X id r) (hq : MtQ S r g) (ho : QE S W X o fo) (ha : QA S W X (e :: es) fs)
    (hbase : attributeBase o name X.env (eval o X.env) = eval o X.env := by rfl)
    (hfew : ((backTo cpos (starEach (e :: es) X.env)).all (fun x => !x.1) && (backToKw cpos (keywordEach [] X.env)).all (fun x => x.1.isSome)
      && decide ((e :: es).length + ([] : List Keyword).length + (if ([] : List Keyword).isEmpty then 0 else 1) < 30)) = true := by rfl)
    (hline : (apos.endLine == cpos.line) = true := by rfl) (hs : starEach (e :: es) X.env = (false, eval e X.env) :: starEach es X.env := by rfl) (hplain : (backTo cpos (starEach es X.env)).any (·.1) = false := by rfl) :
    QE S W X (.Call (.Attribute o name apos) (e :: es) [] cpos) (fMeth g fo fs) := by
  have h := pe_bm pa slot hty hm ho ha hbase hfew hline hs hplain
  rw [hk] at h
  refine PE.imp h fun σ H Q ⟨ρ, M, σa, mo, rs, p⟩ => ?_
  refine use mo rs p fun d M1 ρ1 H1 v st1 r1 rs1 p1 => ?_
  split at p1
  · rename_i hl
    refine ⟨isL_ty st1.2 r1 hl, use st1.2 rs1 p1 fun ds M2 ρ2 H2 vs st2 r2 rs2 p2 => hq _ _ _ _ _ _ _ _ _ _ st2.2 (Rep.mono st2.1 _ _ r1) r2 p2⟩
  · exact p1.elim
theorem qe_bm0 (hk : X.K = S.K) (pa : PlainAttrs "list") (slot : Slot "list" name id) (hty : typeOf (.builtin id) = pure (.type "method_descriptor")) (hm : MtR X id r) (hq : MtQ S r g) (ho : QE S W X o fo)
    (hbase : attributeBase o name X.env (eval o X.env) = eval o X.env := by rfl) (hline : (apos.endLine == cpos.line) = true := by rfl) : QE S W X (.Call (.Attribute o name apos) [] [] cpos) (fMeth g fo fNil) := by
  have h := pe_bm0 pa slot hty hm ho hbase hline
  rw [hk] at h
  refine PE.imp h fun σ H Q ⟨ρ, M, σa, mo, rs, p⟩ => ?_
  refine use mo rs p fun d M1 ρ1 H1 v st1 r1 rs1 p1 => ?_
  split at p1
  · rename_i hl
    exact ⟨isL_ty st1.2 r1 hl, hq _ _ _ _ _ _ _ _ _ _ st1.2 r1 .nil p1⟩
  · exact p1.elim
def gAppend : D → List D → Mem → Res D
  | .ref n, [d], M => (match M[n]? with | some (.lst ds) => if Nat.blt ds.length 16777216 = true then .ok .non (M.set n (.lst (ds ++ [d]))) else .bad | none => .bad)
  | _, _, _ => .bad
theorem mq_append : MtQ S rAppend gAppend := by
  intro W σ ρ H M x d xs ds Q mo rx ra p
  unfold gAppend at p
  split at p
  · split at p
    · rename_i es hm
      split at p
      · rename_i hf
        obtain ⟨v, rfl, r⟩ := RepA.one ra
        cases rx with
        | ref f =>
          obtain ⟨ys, e, rb⟩ := mo.cell _ _ _ f hm
          refine ⟨_, ys, v, rfl, rfl, e, ?_, p ρ _ _ (Stp.put mo f hm (rb.append (.cons r .nil))) .non⟩
          rw [rb.len, sizeLine_eq]
          simpa [Nat.blt_eq] using hf
      · exact p.elim
    · exact p.elim
  · exact p.elim
def gPop : D → List D → Mem → Res D
  | .ref n, [], M => (match M[n]? with | some (.lst ds) => (match ds[ds.length - 1]? with | some d => .ok d (M.set n (.lst ds.dropLast)) | none => .bad) | none => .bad)
  | _, _, _ => .bad
theorem mq_pop : MtQ S rPop gPop := by
  intro W σ ρ H M x d xs ds Q mo rx ra p
  unfold gPop at p
  split at p
  · split at p
    · rename_i es hm
      split at p
      · rename_i d hd
        cases ra
        cases rx with
        | ref f =>
          obtain ⟨ys, e, rb⟩ := mo.cell _ _ _ f hm
          obtain ⟨v, hv, rv⟩ := rb.at hd
          rw [← rb.len] at hv
          have sp := Stp.put mo f hm rb.dropLast
          exact ⟨_, ys, v, rfl, rfl, e, hv, p ρ _ _ sp (Rep.mono sp.1 _ _ rv)⟩
      · exact p.elim
    · exact p.elim
  · exact p.elim
def gPopAt : D → List D → Mem → Res D
  | .ref n, [.int i], M => (match M[n]? with | some (.lst ds) => (match seqIndex? i ds.length with | some k => (match ds[k]? with | some d => if mid i = true then .ok d (M.set n (.lst (ds.eraseIdx k))) else .bad | none => .bad) | none => .bad) | none => .bad)
  | _, _, _ => .bad
theorem mq_popAt : MtQ S rPopAt gPopAt := by
  intro W σ ρ H M x d xs ds Q mo rx ra p
  unfold gPopAt at p
  split at p
  · split at p
    · rename_i es hm
      split at p
      · rename_i k hk
        split at p
        · rename_i d hd
          split at p
          · rename_i hmid
            obtain ⟨vi, rfl, ri⟩ := RepA.one ra
            cases ri
            cases rx with
            | ref f =>
              obtain ⟨ys, e, rb⟩ := mo.cell _ _ _ f hm
              obtain ⟨v, hv, rv⟩ := rb.at hd
              have sp := Stp.put mo f hm (rb.eraseIdx k)
              have hb := mid_ok hmid
              exact ⟨_, ys, _, k, v, rfl, rfl, e, by omega, by omega, by rw [rb.len]; exact hk, hv, p ρ _ _ sp (Rep.mono sp.1 _ _ rv)⟩
          · exact p.elim
        · exact p.elim
      · exact p.elim
    · exact p.elim
  · exact p.elim
def gExtend : D → List D → Mem → Res D
  | .ref n, [d], M => (match M[n]?, listOf M d with | some (.lst ds), some es => if few (ds.length + es.length) = true then .ok .non (M.set n (.lst (ds ++ es))) else .bad | _, _ => .bad)
  | _, _, _ => .bad
theorem mq_extend : MtQ S rExtend gExtend := by
  intro W σ ρ H M x d xs ds Q mo rx ra p
  unfold gExtend at p
  split at p
  · split at p
    · rename_i es fs hm hl
      split at p
      · rename_i hf
        obtain ⟨v, rfl, r⟩ := RepA.one ra
        obtain ⟨a2, zs, rfl, e2, rz⟩ := list_of mo r hl
        cases rx with
        | ref f =>
          obtain ⟨ys, e, rb⟩ := mo.cell _ _ _ f hm
          exact ⟨_, a2, ys, zs, rfl, rfl, e, e2, by rw [rb.len, rz.len]; exact few_ok hf, p ρ _ _ (Stp.put mo f hm (rb.append rz)) .non⟩
      · exact p.elim
    · exact p.elim
  · exact p.elim
end
end QX

set_option maxRecDepth 100000
set_option maxHeartbeats 2000000
/-! QX8: name = [..]; counts, places; texts of values; the law -/
namespace QX
open PySem PySem.Spec PyProof.Rows L2 HX
section
variable {X : Cx} {S : Sc} {W : WX}
/-! ### name = [..] on one line -/
section
variable {i : Nat} {y : Str} {py : Pos} {elt tg iter : Expr} {ifs : List Expr} {scope : Scope} {own : List (Str × Nat)} {pos spos : Pos} {fi : F Ita} {t : Tg} {c : F Bool} {e : F D}
theorem setLc_imp {f : F D} {tt : TE} (h : ∀ σ H Q, tOf S W (Rep S.K) f σ H Q → tt σ H Q) {E : Ends} {σ : L2.St} {H : Hp} (q : tOfS S W (sSet i f) E σ H) : tAsg tt (gName i) E σ H := h _ _ _ (asg_imp q)
theorem qs_setLcC (hc : X.calm = true) (hN : X.N.Nodup) (hy : X.N[i]? = some y) (hyl : X.env.scope.names.lookup y = some .local)
    (hsw : swapsWith (.ListComp elt [⟨tg, iter, ifs, 0⟩] scope pos) (some (.Name y py)) spos.line X.env = pure true) (hi : QI S W X tg iter fi) (ok : BlkOk X.N X.env.scope scope own)
    (hg : ∀ (s : Shared) (H : Hp) (C : Addr) (cl : List (Str × Addr)) (fp : List Addr), QG S (X.blk s H scope (compEnvC scope cl C X.env) fp) tg t) (ht : ∀ (s : Shared) (H : Hp) (C : Addr) (cl : List (Str × Addr)) (fp : List Addr), QTs S W0 (X.blk s H scope (compEnvC scope cl C X.env) fp) ifs c)
    (he : ∀ (s : Shared) (H : Hp) (C : Addr) (cl : List (Str × Addr)) (fp : List Addr), QE S W0 (X.blk s H scope (compEnvC scope cl C X.env) fp) elt e) (hsl : ∀ i ∈ t.slots, i ∈ own.map (·.2) := by decide) (hs : ∀ x, foldedSetIterable iter X.env x = pure x := by intro _; rfl) :
    QS S W X (.Assign [.Name y py] (.ListComp elt [⟨tg, iter, ifs, 0⟩] scope pos) spos) (sSet i (fCompC fi (own.map (·.2)) t c e)) := PS.imp (ps_setLc hc hN hy hyl hsw hi ok hg ht he hs) fun _ _ _ h => setLc_imp (fun _ _ _ q => lc_imp hsl q) h
theorem qs_setLc (hc : X.calm = true) (hN : X.N.Nodup) (hy : X.N[i]? = some y) (hyl : X.env.scope.names.lookup y = some .local)
    (hsw : swapsWith (.ListComp elt [⟨tg, iter, ifs, 0⟩] scope pos) (some (.Name y py)) spos.line X.env = pure true) (hi : QI S W X tg iter fi) (ok : BlkOk X.N X.env.scope scope own)
    (hg : ∀ (s : Shared) (H : Hp) (C : Addr) (cl : List (Str × Addr)) (fp : List Addr), QG S (X.blk s H scope (compEnvC scope cl C X.env) fp) tg t) (ht : ∀ (s : Shared) (H : Hp) (C : Addr) (cl : List (Str × Addr)) (fp : List Addr), QTs S W0 (X.blk s H scope (compEnvC scope cl C X.env) fp) ifs c)
    (he : ∀ (s : Shared) (H : Hp) (C : Addr) (cl : List (Str × Addr)) (fp : List Addr), QE S W0 (X.blk s H scope (compEnvC scope cl C X.env) fp) elt e) (hsl : ∀ i ∈ t.slots, i ∈ own.map (·.2) := by decide) (hs : ∀ x, foldedSetIterable iter X.env x = pure x := by intro _; rfl) :
    QS S W X (.Assign [.Name y py] (.ListComp elt [⟨tg, iter, ifs, 0⟩] scope pos) spos) (sSet i (fTrim (fCompC fi (own.map (·.2)) t c e))) :=
  PS.imp (ps_setLc hc hN hy hyl hsw hi ok hg ht he hs) fun _ _ _ h => setLc_imp (fun σ H Q ⟨ρ, M, σa, mo, rs, p⟩ => lc_imp hsl ⟨ρ, M, σa, mo, rs, Post.trim mo p⟩) h
end
/-! ### counts and places of flat items -/
def D.flat : D → Option V
  | .non => some .non
  | .bl b => some (.bl b)
  | .int i => some (.int i)
  | .str x => some (.str x)
  | _ => none
def flats : List D → Option (List V)
  | [] => some []
  | d :: ds => (match d.flat, flats ds with | some v, some vs => some (v :: vs) | _, _ => none)
theorem flat_ok {K : PySem.W.Frag} {ρ : List Addr} {H : Hp} {d : D} {v w : V} (r : Rep K ρ H v d) (h : d.flat = some w) : v = w ∧ flatV w = true := by
  cases r with
  | non => cases h; exact ⟨rfl, rfl⟩
  | bl b => cases h; exact ⟨rfl, rfl⟩
  | int i => cases h; exact ⟨rfl, rfl⟩
  | str x => cases h; exact ⟨rfl, rfl⟩
  | _ => cases h
theorem flats_ok {K : PySem.W.Frag} {ρ : List Addr} {H : Hp} : ∀ (ds : List D) (vs ws : List V), RepA K ρ H vs ds → flats ds = some ws → vs = ws ∧ ws.all flatV = true
  | [], _, _, r, h => by cases r; cases h; exact ⟨rfl, rfl⟩
  | d :: ds, _, _, r, h => by
    unfold flats at h
    split at h
    · rename_i v vs e1 e2
      cases h
      cases r with
      | cons r1 r2 =>
        obtain ⟨rfl, f1⟩ := flat_ok r1 e1
        obtain ⟨rfl, f2⟩ := flats_ok ds _ _ r2 e2
        exact ⟨rfl, by rw [List.all_cons, f1, f2]; rfl⟩
    · cases h
def gCount : D → List D → Mem → Res D
  | x, [y], M => (match listOf M x, y.flat with | some ds, some v => (match flats ds with | some vs => .ok (.int ((vs.countP fun z => eqV z v : Nat) : Int)) M | none => .bad) | _, _ => .bad)
  | _, _, _ => .bad
theorem mq_count : MtQ S (rCntF S.K) gCount := by
  intro W σ ρ H M x d xs ds Q mo rx ra p
  unfold gCount at p
  split at p
  · split at p
    · rename_i es v h1 h2
      split at p
      · rename_i vs h3
        obtain ⟨u, rfl, r⟩ := RepA.one ra
        obtain ⟨a, ys, rfl, e, rb⟩ := list_of mo rx h1
        obtain ⟨rfl, f1⟩ := flat_ok r h2
        obtain ⟨rfl, f2⟩ := flats_ok es _ _ rb h3
        exact ⟨a, ys, u, rfl, rfl, SqL.of e, f1, f2, p ρ H _ (Stp.refl mo) (.int _)⟩
      · exact p.elim
    · exact p.elim
  · exact p.elim
/-- of a tuple -/
def rCntTF (K : PySem.W.Frag) : V → List V → Hp → VK → Prop := fun x xs H Q => ∃ (a : Addr) (ys : List V) (y : V), x = V.ref a ∧ xs = [y] ∧ SqT K H a ys ∧ flatV y = true ∧ ys.all flatV = true ∧ Q (.int ((ys.countP fun z => eqV z y : Nat) : Int)) H
theorem mt_tcountF : MtR X "tuple.count" (rCntTF X.K) := by
  intro pins s σ H x xs v us Q I rx rxs h
  obtain ⟨a, ys, y, rfl, rfl, hs, fy, fys, q⟩ := h
  cases rx
  obtain ⟨u, rfl, ru⟩ := rxs.one
  obtain ⟨its, rv, ⟨⟨cls, dd, data, sl⟩, ho, hc, n, hd⟩, hlen⟩ := I.tuple hs
  simp only at hc hd
  subst hc hd
  refine call_meets PySem.F.slot_tuple_count ⟨_, ho, rfl⟩ PySem.F.entry_tuple_count (PySem.F.args_tuple_count_2 _ _) (SeqAt.tuple_countAt a its.toArray n dd sl u (eqU y)) ⟨ho, fun z hz => mem_eqAt ru fy rv fys z (by simpa using hz), ?_⟩
  refine ⟨.int ((ys.countP fun z => eqV z y : Nat) : Int), H, I.tok _, ⟨s.toks, ?_⟩, q⟩
  show Value.int ((its.toArray.toList.countP (eqU y) : Nat) : Int) s.toks = _
  rw [show its.toArray.toList = its from rfl, countP_flat rv fys]
def gCountT (x : D) (ds : List D) (M : Mem) : Res D := match x, ds with
  | .tup es, [y] => (match y.flat, flats es with | some v, some vs => .ok (.int ((vs.countP fun z => eqV z v : Nat) : Int)) M | _, _ => .bad)
  | _, _ => .bad
def fCountT (fo : F D) (fs : F (List D)) : F D := fun σ M => (fo σ M).bind fun d M1 => match d with | .tup es => (fs σ M1).bind fun ds M2 => gCountT (.tup es) ds M2 | _ => .bad
variable {o e : Expr} {es : List Expr} {fo : F D} {fs : F (List D)} {apos cpos : Pos}
theorem qe_countT (hk : X.K = S.K) (ho : QE S W X o fo) (ha : QA S W X (e :: es) fs)
    (hbase : attributeBase o "count" X.env (eval o X.env) = eval o X.env := by rfl)
    (hfew : ((backTo cpos (starEach (e :: es) X.env)).all (fun x => !x.1) && (backToKw cpos (keywordEach [] X.env)).all (fun x => x.1.isSome)
      && decide ((e :: es).length + ([] : List Keyword).length + (if ([] : List Keyword).isEmpty then 0 else 1) < 30)) = true := by rfl)
    (hline : (apos.endLine == cpos.line) = true := by rfl) (hs : starEach (e :: es) X.env = (false, eval e X.env) :: starEach es X.env := by rfl) (hplain : (backTo cpos (starEach es X.env)).any (·.1) = false := by rfl) :
    QE S W X (.Call (.Attribute o "count" apos) (e :: es) [] cpos) (fCountT fo fs) := by
  have hm : MtR X "tuple.count" (rCntTF S.K) := hk ▸ mt_tcountF
  refine PE.imp (pe_bmT PySem.F.plainAttrs_tuple PySem.F.slot_tuple_count PySem.F.type_tuple_count hm ho ha hbase hfew hline hs hplain) fun σ H Q ⟨ρ, M, σa, mo, rs, p⟩ => ?_
  refine use mo rs p fun d M1 ρ1 H1 v st1 r1 rs1 p1 => ?_
  cases d with
  | tup ds =>
    obtain ⟨a, xs, rfl, hq, ra, ⟨ob, hd, ho⟩, na⟩ := tup_of r1
    refine ⟨⟨a, ob, xs, rfl, ho, hd⟩, use st1.2 rs1 p1 fun ys M2 ρ2 H2 vs st2 r2 rs2 p2 => ?_⟩
    unfold gCountT at p2
    split at p2
    · rename_i es' y heq
      cases heq
      split at p2
      · rename_i u us h1 h2
        obtain ⟨w, rfl, rw'⟩ := RepA.one r2
        obtain ⟨rfl, f1⟩ := flat_ok rw' h1
        have r3 := Rep.mono st2.1 _ _ r1
        obtain ⟨a', xs', e', hq', ra', _, _⟩ := tup_of r3
        cases e'
        obtain ⟨rfl, f2⟩ := flats_ok _ _ _ ra' h2
        exact ⟨a, xs', w, rfl, rfl, hq', f1, f2, p2 ρ2 H2 _ (Stp.refl st2.2) (.int _)⟩
      · exact p2.elim
    · exact p2.elim
  | _ => exact False.elim p1
/-! ### xs.index(y), flat -/
def findV (y : V) : List V → Nat → Option Nat
  | [], _ => none
  | z :: zs, n => if eqV z y = true then some n else findV y zs (n + 1)
theorem findV_ok (y : V) : ∀ (zs : List V) (n j : Nat), findV y zs n = some j → ∃ i z, j = n + i ∧ zs[i]? = some z ∧ eqV z y = true ∧ ∀ (m : Nat) (z' : V), m < i → zs[m]? = some z' → eqV z' y = false
  | [], _, _, h => by cases h
  | z :: zs, n, j, h => by
    unfold findV at h
    split at h
    · rename_i e
      cases h
      exact ⟨0, z, rfl, rfl, e, fun m z' hm => absurd hm (Nat.not_lt_zero _)⟩
    · rename_i e
      obtain ⟨i, z1, h1, h2, h3, h4⟩ := findV_ok y zs (n + 1) j h
      refine ⟨i + 1, z1, by omega, by simpa using h2, h3, fun m z' hm hz => ?_⟩
      cases m with
      | zero =>
        simp at hz
        rw [← hz]
        simpa using e
      | succ m => exact h4 m z' (by omega) (by simpa using hz)
def gIndex : D → List D → Mem → Res D
  | x, [y], M => (match listOf M x, y.flat with | some ds, some v => (match flats ds with | some vs => (match findV v vs 0 with | some j => .ok (.int (j : Int)) M | none => .bad) | none => .bad) | _, _ => .bad)
  | _, _, _ => .bad
theorem mq_index : MtQ S (rIndex S.K) gIndex := by
  intro W σ ρ H M x d xs ds Q mo rx ra p
  unfold gIndex at p
  split at p
  · split at p
    · rename_i es v h1 h2
      split at p
      · rename_i vs h3
        split at p
        · rename_i j hj
          obtain ⟨u, rfl, r⟩ := RepA.one ra
          obtain ⟨a, ys, rfl, e, rb⟩ := list_of mo rx h1
          obtain ⟨rfl, f1⟩ := flat_ok r h2
          obtain ⟨rfl, f2⟩ := flats_ok es _ _ rb h3
          obtain ⟨i, z, e0, g1, g2, g3⟩ := findV_ok u ys 0 j hj
          rw [Nat.zero_add] at e0
          subst e0
          exact ⟨a, ys, u, j, z, rfl, rfl, SqL.of e, f1, f2, g1, g2, g3, p ρ H _ (Stp.refl mo) (.int _)⟩
        · exact p.elim
      · exact p.elim
    · exact p.elim
  · exact p.elim
/-! ### truth of a value -/
def gTru (d : D) (M : Mem) : Res Bool := match d with
  | .non => .ok false M
  | .bl b => .ok b M
  | .int i => .ok (i != 0) M
  | d => match seqOf M d with | some ds => .ok (!ds.isEmpty) M | none => .bad
def fTru (f : F D) : F Bool := fun σ M => (f σ M).bind gTru
theorem isEmpty_rep {K : PySem.W.Frag} {ρ : List Addr} {H : Hp} {xs : List V} {ds : List D} (r : RepA K ρ H xs ds) : ds.isEmpty = xs.isEmpty := by cases r <;> rfl
theorem qt_tru {a : Expr} {fa : F D} (hk : X.K = S.K) (ha : QE S W X a fa) (he : ∀ whole, isTrue a X.env whole = (do let v ← whole; standAt a.pos; holding [v] (truthy v)) := by intro _; rfl) : QT S W X a (fTru fa) := by
  have h := pt_truth ha he
  rw [hk] at h
  refine PT.imp h fun σ H Q ⟨ρ, M, σa, mo, rs, p⟩ => ?_
  refine use mo rs p fun d M1 ρ1 H1 v st1 r1 rs1 p1 => ?_
  unfold gTru at p1
  split at p1
  · cases r1; exact ⟨false, rfl, p1 ρ1 H1 _ (Stp.refl st1.2) rfl⟩
  · cases r1; exact ⟨_, rfl, p1 ρ1 H1 _ (Stp.refl st1.2) rfl⟩
  · cases r1; exact ⟨_, rfl, p1 ρ1 H1 _ (Stp.refl st1.2) rfl⟩
  · split at p1
    · rename_i ds hs
      obtain ⟨a, xs, rfl, hq, ra⟩ := seq_of st1.2 r1 hs
      rw [isEmpty_rep ra] at p1
      rcases hq with hq | hq
      · exact ⟨_, .inl ⟨xs, hq, rfl⟩, p1 ρ1 H1 _ (Stp.refl st1.2) rfl⟩
      · exact ⟨_, .inr (.inl ⟨xs, hq, rfl⟩), p1 ρ1 H1 _ (Stp.refl st1.2) rfl⟩
    · exact p1.elim
/-! ### repr -/
mutual
def withinB : PyData → Bool
  | .int i => decide (-2000000000000 ≤ i) && decide (i ≤ 2000000000000)
  | .list ds => withinBA ds
  | .tuple ds => withinBA ds
  | .dict _ => false
  | _ => true
def withinBA : List PyData → Bool
  | [] => true
  | d :: ds => withinB d && withinBA ds
end
mutual
theorem within_ok : ∀ d : PyData, withinB d = true → within 2000000000000 d
  | .none, _ => by simp [within]
  | .bool _, _ => by simp [within]
  | .int i, h => by simpa [withinB, within] using h
  | .str _, _ => by simp [within]
  | .list ds, h => by simp only [within]; exact withinA_ok ds (by simpa only [withinB] using h)
  | .tuple ds, h => by simp only [within]; exact withinA_ok ds (by simpa only [withinB] using h)
  | .dict _, h => by simp [withinB] at h
theorem withinA_ok : ∀ ds : List PyData, withinBA ds = true → withinAll 2000000000000 ds
  | [], _ => by simp [withinAll]
  | d :: ds, h => by
    simp only [withinBA, Bool.and_eq_true] at h
    simp only [withinAll]
    exact ⟨within_ok d h.1, withinA_ok ds h.2⟩
end
def okRepr (p : PyData) : Bool := withinB p && Nat.ble (wt p) 16000000 && Nat.ble p.depth 100 && !p.hasDict
def gRepr : List D → Mem → Res D
  | [d], M => (match toPy M d with | some p => if okRepr p = true then .ok (.str p.shown) M else .bad | none => .bad)
  | _, _ => .bad
theorem cq_repr : CallQ S (rReprP S.K) gRepr := by
  intro W σ ρ H M xs ds Q mo ra p
  unfold gRepr at p
  split at p
  · split at p
    · rename_i d hd
      split at p
      · rename_i ho
        unfold okRepr at ho
        simp only [Bool.and_eq_true, Bool.not_eq_true'] at ho
        obtain ⟨v, rfl, r⟩ := RepA.one ra
        exact ⟨v, d, rfl, toPy_dp mo r hd, ho.2, ⟨within_ok d ho.1.1.1, Nat.le_of_ble_eq_true ho.1.1.2, Nat.le_of_ble_eq_true ho.1.2⟩, p ρ H _ (Stp.refl mo) (.str _)⟩
      · exact p.elim
    · exact p.elim
  · exact p.elim
end
/-! ### where a comprehension stands -/
def kidE : Expr → List Expr
  | .BoolOp _ vs _ => vs
  | .BinOp l _ r _ => [l, r]
  | .UnaryOp _ x _ => [x]
  | .Lambda _ b _ _ => [b]
  | .IfExp t b o _ => [t, b, o]
  | .ListComp e gs _ _ => e :: gs.flatMap fun g => g.iter :: g.ifs
  | .Compare l _ cs _ => l :: cs
  | .Call f as ks _ => f :: as ++ ks.map (·.value)
  | .Attribute v _ _ => [v]
  | .Subscript v s _ => [v, s]
  | .List es _ => es
  | .Tuple es _ _ => es
  | .Slice a b c _ => a.toList ++ b.toList ++ c.toList
  | .Starred v _ => [v]
  | _ => []
def kidX : Stmt → List Expr
  | .Return (some v) _ => [v]
  | .Assign _ v _ => [v]
  | .AugAssign _ _ v _ => [v]
  | .For _ it _ _ _ => [it]
  | .While t _ _ _ => [t]
  | .If t _ _ _ => [t]
  | .Expr v _ => [v]
  | .Raise (some v) _ _ => [v]
  | _ => []
def kidS : Stmt → List Stmt
  | .For _ _ b o _ => b ++ o
  | .While _ b o _ => b ++ o
  | .If _ b o _ => b ++ o
  | _ => []
def noE : Expr := .Constant .none 0 default
def noS : Stmt := .Pass default
def eAt : List Nat → Expr → Expr
  | [], e => e
  | i :: p, e => eAt p ((kidE e).getD i noE)
def sAt : List Nat → List Stmt → Stmt
  | [], _ => noS
  | [i], b => b.getD i noS
  | i :: p, b => sAt p (kidS (b.getD i noS))
def lcSc : Expr → Scope
  | .ListComp _ _ sc _ => sc
  | .Lambda _ _ sc _ => sc
  | _ => ⟨.function, [], false, false, []⟩
def lcAt (b : List Stmt) (p q : List Nat) : Scope := match q with
  | i :: q => lcSc (eAt q ((kidX (sAt p b)).getD i noE))
  | [] => ⟨.function, [], false, false, []⟩
/-! ### a def that makes texts of values; the law -/
def spG (S : Sc) (n : Nat) (m : List D → Mem → Res D) : Sp := fun vs H Q _ => vs.length = n ∧ ∃ ρ M ds, MemOk S ρ H M ∧ RepA S.K ρ H vs ds ∧ Post S W0 (Rep S.K) [] ρ H Q (m ds M)
abbrev CalGQ (S : Sc) (P : Program) (w : World) (mg : Str → Option Value) (base : Heap) (k : Nat) (x : Str) (ps : List Str) (m : List D → Mem → Res D) : Prop := CalG P w S.K mg base k x ps (spG S ps.length m)
theorem run_start {S : Sc} {N : List Str} {k : Nat} {b : FS} {vs : List V} {H : Hp} {Q : VK} {ρ : List Addr} {M : Mem} {ds : List D} (mo : MemOk S ρ H M) (ra : RepA S.K ρ H vs ds) (p : Post S W0 (Rep S.K) [] ρ H Q (runD N.length k b ds M)) :
    tOfS S W0 b { nx := fun _ H' => Q .non H', rt := Q } (L2.start N vs) H := by
  refine ⟨ρ, M, _, mo, rep_start ra, ?_⟩
  unfold runD at p
  split at p
  · cases e : b (startA N.length ds) M with
    | ok fl M1 =>
      rw [e] at p
      cases fl with
      | rt d => exact p
      | nx σ => exact fun ρ' H' _ st' _ => p ρ' H' .non st' .non
      | bk σ => exact p.elim
      | ct σ => exact p.elim
    | exc c fs σ M1 => rw [e] at p; exact fun ρ' H' _ d st' _ xr => p ρ' H' d st' xr
    | bad => rw [e] at p; exact p
  · exact p.elim
section
variable {S : Sc} {P : Program} {w : World} {mg : Str → Option Value} {base : Heap} {k : Nat} {x : Str} {ps N : List Str} {st : Stmt} {b : FS}
theorem Def.okGQ (T : HX.Def S.K mg x st ps) (sc : FnScope N ps (defScope st))
    (hb : ∀ (f : Addr) (cdv : Value) (A : Around) (outer : List Env) (s : Shared) (H : Hp) (E : XK), Ent A s H → Room k (A.deeper (envOfC x (defScope st) s.heap.objs.size f cdv)) → QSs S W0 (cxOf CX0 P w S.K mg base N x (defScope st) f cdv A outer s H E).nox (defBody st) b) : CalGQ S P w mg base (k + 1) x ps (runD N.length ps.length b) := by
  refine HX.Def.okG T sc (fun vs H Q E h => h.1) fun f cdv A outer s H vs Q E en hr h => ⟨_, hb f cdv A outer s H E en hr, ?_⟩
  obtain ⟨hl, ρ, M, ds, mo, ra, p⟩ := h
  exact run_start mo ra p
theorem Fun.okGQ {f : Addr} {fd : FuncData} (F : Fun S.K x x st f fd) (sc : FnScope N ps (defScope st))
    (hb : ∀ (cdv : Value) (A : Around) (outer : List Env) (s : Shared) (H : Hp) (E : XK), Ent A s H → Room k (A.deeper (envOfC x (defScope st) s.heap.objs.size f cdv)) → QSs S W0 (cxOf CX0 P w S.K mg base N x (defScope st) f cdv A outer s H E).nox (defBody st) b) : FnG P w S.K mg base (k + 1) f fd ps (spG S ps.length (runD N.length ps.length b)) := by
  refine HX.Fun.okG F sc (fun vs H Q E h => h.1) fun cdv A outer s H vs Q E en hr h => ⟨_, hb cdv A outer s H E en hr, ?_⟩
  obtain ⟨hl, ρ, M, ds, mo, ra, p⟩ := h
  exact run_start mo ra p
end
theorem qe_callG {X : Cx} {S : Sc} {k : Nat} {x : Str} {ps : List Str} {m : List D → Mem → Res D} {p pos : Pos} {e : Expr} {es : List Expr} {fs : F (List D)} (en : EntX X) (hk : X.K = S.K) (c : CalGQ S X.prog X.w X.mg X.base k x ps m) (hr : Room k X.A) (hg : Gl X x) (ha : QA S W0 X (e :: es) fs) (hn : ∀ σ M ds M1, fs σ M = .ok ds M1 → ds.length = ps.length) (hdb : (x == ("__debug__" : Str)) = false := by decide)
    (he : starEach (e :: es) X.env = (false, eval e X.env) :: starEach es X.env := by rfl) (hpl : (backTo pos (starEach es X.env)).any (·.1) = false := by rfl) : QE S W0 X (.Call (.Name x p) (e :: es) [] pos) (fCall m fs) := by
  have c' : CalG X.prog X.w X.K X.mg X.base k x ps (spG S ps.length m) := by rw [hk]; exact c
  refine PE.imp (pe_calG en c' hr hg ha hdb he hpl) fun σ H Q ⟨ρ, M, σa, mo, rs, p⟩ => ?_
  refine ⟨ρ, M, σa, mo, rs, ?_⟩
  unfold fCall at p
  cases e0 : fs σa M with
  | ok ds M1 =>
    rw [e0] at p
    intro ρ1 H1 vs st1 r1
    rw [List.append_nil]
    refine ⟨by rw [r1.len]; exact hn _ _ _ _ e0, ρ1, M1, ds, st1.2, r1, ?_⟩
    have p1 := Post.mono p st1.1
    cases e1 : m ds M1 with
    | ok d M2 => dsimp only [Res.bind] at p1; rw [e1] at p1; exact p1
    | exc c fs M2 => dsimp only [Res.bind] at p1; rw [e1] at p1; exact p1
    | bad => dsimp only [Res.bind] at p1; rw [e1] at p1; exact p1
  | exc c fs M1 => rw [e0] at p; exact p
  | bad => rw [e0] at p; exact p
/-- the law's promise at the script -/
theorem law_sp {S : Sc} {H : Hp} {a : Addr} {ns : List Int} {m : List D → Mem → Res D} (hT : LamX.Tabs S.T H) (hS : SqL S.K H a (ns.map V.int)) (h : ∃ M, m [.scr ns] [] = .ok (.bl true) M) : spG S 1 m [.ref a] H (fun v _ => v = .bl true) fun _ _ _ => False := by
  obtain ⟨M, e⟩ := h
  refine ⟨rfl, [], [], [.scr ns], ⟨rfl, List.nodup_nil, fun n a c h => by simp at h, hT⟩, .cons (.scr ?_) .nil, ?_⟩
  · rcases hS with h | h
    · exact .inl ⟨h, by simp⟩
    · exact .inr h
  · rw [e]
    intro ρ' H' v st r
    cases r
    rfl
/-! ### comparisons by name -/
abbrev cLt (i j : Int) : Bool := decide (i < j)
abbrev cLe (i j : Int) : Bool := decide (i ≤ j)
abbrev cGt (i j : Int) : Bool := decide (j < i)
abbrev cGe (i j : Int) : Bool := decide (j ≤ i)
end QX
namespace QX
open PySem PySem.Spec PyProof.Rows L2 HX
theorem CalGQ.trim {S : Sc} {P : Program} {w : World} {mg : Str → Option Value} {base : Heap} {k : Nat} {x : Str} {ps : List Str} {m : List D → Mem → Res D} (c : CalGQ S P w mg base k x ps m) : CalGQ S P w mg base k x ps (fun ds M => trimR M.length (m ds M)) := by
  obtain ⟨f, fd, F, a1, a2, a3⟩ := c
  exact ⟨f, fd, ⟨fun vs H Q E h => h.1, fun A outer s H args us vs Q E en hr e0 hb rv h => F.run A outer s H args us vs Q E en hr e0 hb rv (by
    obtain ⟨hl, ρ, M, ds, mo, ra, p⟩ := h
    exact ⟨hl, ρ, M, ds, mo, ra, Post.trim mo p⟩)⟩, a1, a2, a3⟩
/-- the end of a law row -/
theorem law_tg {l : PySem.W.OpenLaw} {w : World} {S : Sc} {k n : Nat} {x : Str} {mg : Str → Option Value} {fa : Addr} {h : Heap} {fd : FuncData} {m : List D → Mem → Res D} (hT : S.T = [])
    (hb : ∀ (s : Shared) (u : Value), S.K.In s.heap → BindsTo s fd ⟨[u], []⟩ [(x, u)]) (hF : ∀ base : Heap, FnG l.prog w S.K mg base k fa fd [x] (spG S 1 m))
    (hm : ∀ ns : List Int, ns.length ≤ n → ∃ M, m [.scr ns] [] = .ok (.bl true) M) : LawTG l w S.K k n x mg fa h :=
  ⟨fd, [], spG S 1 m, fun p hp => by simp at hp, fun p hp => by simp at hp, fun p hp => by simp at hp, hb, fun H a ns hl _ hS => law_sp (by rw [hT]; exact fun p hp => by simp at hp) hS (hm ns hl), fun base _ _ _ => hF base⟩
theorem err_mk {G0 : Prop} {K : PySem.W.Frag} {h : Heap} {mg : Str → Option Value} {x : Str} {d : Addr} (X : K.In h) (G : h.Ns mainGlobals mg) (a : PySem.W.nsIn K mainGlobals x = some (some (.ref d))) (kC : PySem.W.keepIn K (.ref d) = true) (ex : PySem.W.excIn K d veTail "ValueError.__new__" = true) (sb : PySem.W.subIn K (.ref d) (.type "BaseException") = some true) (ty : PySem.W.typeIn K (.ref d) = some (.type "type"))
    (z : ∀ C, Err K mg x C → G0) : G0 := z d ⟨PySem.W.mg_of X G a, kC, ex, sb, ty⟩
end QX

set_option maxRecDepth 100000
set_option maxHeartbeats 2000000
/-! QX9: names = [..] -/
namespace QX
open PySem PySem.Spec PyProof.Rows L2 HX
def sAsgL (f : F D) (is : List Nat) : FS := fun σ M => (f σ M).bindS σ fun d M1 => match listOf M1 d with | some ds => if ds.length == is.length then .ok (.nx (setAll σ is ds)) M1 else .bad | none => .bad
section
variable {X : Cx} {S : Sc} {W : WX} {e : Expr} {fe : F D} {pos : Pos}
theorem qs_asgL {tg : Expr} {is : List Nat} {n : Nat} (hk : X.K = S.K) (he : QE S W X e fe) (hg : PG X tg (gLst X.K n (gNames is))) (hn : n = is.length := by rfl) (hs : swapsWithSole [tg] e pos.line X.env = pure false := by rfl) (hw : swappedStores [tg] e X.env = pure none := by rfl)
    (h1 : (assignEach [tg] X.env).map (·.2) = [assign tg X.env] := by rfl) : QS S W X (.Assign [tg] e pos) (sAsgL fe is) := PS.imp (ps_asg he hg hs hw h1) fun E σ H ⟨ρ, M, σa, mo, rs, p⟩ => by
  refine useS mo rs p fun x M1 ρ1 H1 v st1 r1 rs1 p1 => ?_
  split at p1
  · rename_i ds hd
    split at p1
    · rename_i hl
      have hl' : ds.length = is.length := by simpa using hl
      obtain ⟨a, xs, rfl, e1, ra⟩ := list_of st1.2 r1 hd
      rw [hk]
      exact ⟨a, xs, rfl, SqL.of e1, by rw [ra.len, hl', hn], names_ok is xs ds _ _ ra hl' rs1 fun σ' rs' _ => p1 ρ1 H1 σ' (Stp.refl st1.2) rs'⟩
    · exact p1.elim
  · exact p1.elim
end
/-! ### new lists by * and + -/
section
variable {S : Sc}
def gMulC : D → D → Mem → Res D
  | x, .int k, M => match listOf M x with | some a => if (thou k && Nat.ble a.length 1000) = true then .ok (.ref M.length) (M ++ [.lst (List.replicate k.toNat a).flatten]) else .bad | none => .bad
  | _, _, _ => .bad
theorem oq_mulC : OpQ S (rMulA S.K) gMulC := by
  intro W σ ρ H M x y dx dy Q mo rx ry p
  unfold gMulC at p
  split at p
  · split at p
    · rename_i a h1
      split at p
      · rename_i hm
        obtain ⟨g1, g2, g3⟩ := thou_ok hm
        cases ry
        obtain ⟨l, xs, rfl, e1, ra⟩ := list_of mo rx h1
        refine .inr (.inr ⟨l, _, xs, rfl, rfl, e1, by omega, by omega, ?_, fun q hq => p (ρ ++ [q]) _ _ (Stp.alloc mo hq (ra.rep _)) (rep_new mo)⟩)
        rw [ra.len, sizeLine_eq]
        have a0 : ∀ k : Int, k ≤ 1000 → a.length * k.toNat ≤ 1000 * 1000 := fun k hk => Nat.mul_le_mul g3 (by omega)
        have a1 := a0 _ g2
        omega
      · exact p.elim
    · exact p.elim
  · exact p.elim
def gAddC (x y : D) (M : Mem) : Res D := match listOf M x, listOf M y with | some a, some b => if few (a.length + b.length) = true then .ok (.ref M.length) (M ++ [.lst (a ++ b)]) else .bad | _, _ => .bad
theorem oq_addC : OpQ S (rAddA S.K) gAddC := by
  intro W σ ρ H M x y dx dy Q mo rx ry p
  unfold gAddC at p
  split at p
  · rename_i a b h1 h2
    split at p
    · rename_i hf
      obtain ⟨l, xs, rfl, e1, ra⟩ := list_of mo rx h1
      obtain ⟨l2, ys, rfl, e2, rb⟩ := list_of mo ry h2
      exact .inr (.inr (.inr ⟨l, l2, xs, ys, rfl, rfl, e1, e2, by rw [ra.len, rb.len]; exact few_ok hf, fun q hq => p (ρ ++ [q]) _ _ (Stp.alloc mo hq (ra.append rb)) (rep_new mo)⟩))
    · exact p.elim
  · exact p.elim
end
/-! ### is True -/
section
variable {S : Sc}
def gIsB (neg : Bool) : D → D → Mem → Res D
  | .bl a, .bl b, M => .ok (.bl (if neg = true then !decide (a = b) else decide (a = b))) M
  | _, _, _ => .bad
theorem oq_isB : OpQ S (fun x y H Q => ∃ a b, x = .bl a ∧ y = .bl b ∧ Q (.bl (decide (a = b))) H) (gIsB false) := by
  intro W σ ρ H M x y dx dy Q mo rx ry p
  unfold gIsB at p
  split at p
  · cases rx; cases ry
    exact ⟨_, _, rfl, rfl, p ρ H _ (Stp.refl mo) (.bl _)⟩
  · exact p.elim
theorem oq_notB : OpQ S (fun x y H Q => ∃ a b, x = .bl a ∧ y = .bl b ∧ Q (.bl (!decide (a = b))) H) (gIsB true) := by
  intro W σ ρ H M x y dx dy Q mo rx ry p
  unfold gIsB at p
  split at p
  · cases rx; cases ry
    exact ⟨_, _, rfl, rfl, p ρ H _ (Stp.refl mo) (.bl _)⟩
  · exact p.elim
@[simp] theorem gIsB_bl {neg a b : Bool} {M : Mem} : gIsB neg (.bl a) (.bl b) M = .ok (.bl (if neg = true then !decide (a = b) else decide (a = b))) M := rfl
end
@[simp] theorem ev_asgL {f : F D} {is : List Nat} {σ : Sa} {M : Mem} : sAsgL f is σ M = (f σ M).bindS σ fun d M1 => match listOf M1 d with | some ds => if ds.length == is.length then .ok (.nx (setAll σ is ds)) M1 else .bad | none => .bad := rfl
end QX

set_option maxRecDepth 100000
set_option maxHeartbeats 2000000
/-! QX10: abs -/
namespace QX
open PySem PySem.Spec PyProof.Rows L2 HX
structure Bi5 (mg : Str → Option Value) : Prop where
  abs_ : mg "abs" = none
  divmod_ : mg "divmod" = none
  any_ : mg "any" = none
section
variable {S : Sc}
def gAbs : List D → Mem → Res D
  | [.int i], M => .ok (.int (if i < 0 then -i else i)) M
  | _, _ => .bad
theorem cq_abs : CallQ S (fun xs H Q => ∃ i, xs = [.int i] ∧ Q (.int (if i < 0 then -i else i)) H) gAbs := by
  intro W σ ρ H M xs ds Q mo ra p
  unfold gAbs at p
  split at p
  · obtain ⟨v, rfl, r⟩ := RepA.one ra
    cases r
    exact ⟨_, rfl, p ρ H _ (Stp.refl mo) (.int _)⟩
  · exact p.elim
@[simp] theorem gAbs_int {i : Int} {M : Mem} : gAbs [.int i] M = .ok (.int (if i < 0 then -i else i)) M := rfl
end
end QX

set_option maxRecDepth 100000
set_option maxHeartbeats 2000000
/-! QX11: max and min of a list or a tuple of numbers; defs with one keyword-only parameter that has a default -/
namespace QX
open PySem PySem.Spec PyProof.Rows L2 HX
/-! ### max, min -/
def mxI : List Int → Int
  | [] => 0
  | x :: xs => xs.foldl (fun a b => if b > a then b else a) x
def mnI : List Int → Int
  | [] => 0
  | x :: xs => xs.foldl (fun a b => if b < a then b else a) x
theorem mx_fold : ∀ (xs : List Int) (x : Int), (xs.foldl (fun a b => if b > a then b else a) x ∈ x :: xs) ∧ ∀ y ∈ x :: xs, y ≤ xs.foldl (fun a b => if b > a then b else a) x
  | [], x => ⟨List.mem_cons_self, fun y h => by
      rw [List.mem_singleton.mp h]
      exact Int.le_refl _⟩
  | z :: xs, x => by
    rw [List.foldl_cons]
    obtain ⟨h1, h2⟩ := mx_fold xs (if z > x then z else x)
    refine ⟨?_, fun y hy => ?_⟩
    · rcases List.mem_cons.mp h1 with e | e
      · rw [e]
        split
        · exact List.mem_cons_of_mem _ List.mem_cons_self
        · exact List.mem_cons_self
      · exact List.mem_cons_of_mem _ (List.mem_cons_of_mem _ e)
    · have h0 := h2 (if z > x then z else x) List.mem_cons_self
      rcases List.mem_cons.mp hy with e | e
      · refine Int.le_trans ?_ h0
        rw [e]
        split <;> omega
      · rcases List.mem_cons.mp e with e | e
        · refine Int.le_trans ?_ h0
          rw [e]
          split <;> omega
        · exact h2 y (List.mem_cons_of_mem _ e)
theorem mn_fold : ∀ (xs : List Int) (x : Int), (xs.foldl (fun a b => if b < a then b else a) x ∈ x :: xs) ∧ ∀ y ∈ x :: xs, xs.foldl (fun a b => if b < a then b else a) x ≤ y
  | [], x => ⟨List.mem_cons_self, fun y h => by
      rw [List.mem_singleton.mp h]
      exact Int.le_refl _⟩
  | z :: xs, x => by
    rw [List.foldl_cons]
    obtain ⟨h1, h2⟩ := mn_fold xs (if z < x then z else x)
    refine ⟨?_, fun y hy => ?_⟩
    · rcases List.mem_cons.mp h1 with e | e
      · rw [e]
        split
        · exact List.mem_cons_of_mem _ List.mem_cons_self
        · exact List.mem_cons_self
      · exact List.mem_cons_of_mem _ (List.mem_cons_of_mem _ e)
    · have h0 := h2 (if z < x then z else x) List.mem_cons_self
      rcases List.mem_cons.mp hy with e | e
      · refine Int.le_trans h0 ?_
        rw [e]
        split <;> omega
      · rcases List.mem_cons.mp e with e | e
        · refine Int.le_trans h0 ?_
          rw [e]
          split <;> omega
        · exact h2 y (List.mem_cons_of_mem _ e)
theorem mxI_mem {ns : List Int} (h : ns ≠ []) : mxI ns ∈ ns := by
  cases ns with
  | nil => exact absurd rfl h
  | cons x xs => exact (mx_fold xs x).1
theorem mxI_le {ns : List Int} {y : Int} (h : y ∈ ns) : y ≤ mxI ns := by
  cases ns with
  | nil => cases h
  | cons x xs => exact (mx_fold xs x).2 y h
theorem mnI_mem {ns : List Int} (h : ns ≠ []) : mnI ns ∈ ns := by
  cases ns with
  | nil => exact absurd rfl h
  | cons x xs => exact (mn_fold xs x).1
theorem mnI_le {ns : List Int} {y : Int} (h : y ∈ ns) : mnI ns ≤ y := by
  cases ns with
  | nil => cases h
  | cons x xs => exact (mn_fold xs x).2 y h
section
variable {prog : Program} {w : World} {A : Around} {E : Value → Shared → Prop} {s : Shared} {l : Addr} {xs : Array (Int × Tok)}
theorem max_intTup {Q : Value → Shared → Prop} (hh : A.handled = none) (hl : s.heap.IsTuple l (intItems xs)) (hne : 0 < xs.size)
    (h : ∀ v h' tk, (intItems xs)[argBest (fun i j => decide (numAt xs i > numAt xs j)) (xs.size - 1)]? = some v → (∀ b o, s.heap.get? b = some o → h'.get? b = some o) → Q v { s with heap := h', toks := tk }) :
    wpAny (model prog w) A (call (.builtin "max") [.ref l]) Q E s := by
  obtain ⟨o, ho, hc, n, hd⟩ := id hl
  have hne' : l ≠ s.heap.objs.size := Nat.ne_of_lt (Heap.lt_size ho)
  refine call_max_walk (wpAny_pyIter_tuple hl ?_)
  refine ⟨s.heap.objs.size, _, _, _, _, _, _, rfl, Walks.tuple (A := A.in1) hh s.heap.objs.size l hne' (intItems xs), ⟨⟨_, Heap.get?_push_size _ rfl, rfl, rfl⟩, hl.push _⟩, fun b hb => ?_, by simpa [intItems] using hne, CmpOf.ints_gt (numAt xs) (fun _ _ => intItems_at), fun v h' tk hP hk => ?_⟩
  · rcases List.mem_cons.mp hb with rfl | hb
    · exact Heap.lt_size (Heap.get?_push_size _ rfl)
    · obtain rfl := List.mem_singleton.mp hb
      exact Heap.lt_size (Heap.get?_push_of_some _ ho)
  · exact h v h' tk (by simpa [intItems] using hP) fun b o e => hk b o (fun hb => absurd (Heap.lt_size e) ((List.mem_singleton.mp hb) ▸ Nat.lt_irrefl _)) (Heap.get?_push_of_some _ e)
theorem min_intTup {Q : Value → Shared → Prop} (hh : A.handled = none) (hl : s.heap.IsTuple l (intItems xs)) (hne : 0 < xs.size)
    (h : ∀ v h' tk, (intItems xs)[argBest (fun i j => decide (numAt xs i < numAt xs j)) (xs.size - 1)]? = some v → (∀ b o, s.heap.get? b = some o → h'.get? b = some o) → Q v { s with heap := h', toks := tk }) :
    wpAny (model prog w) A (call (.builtin "min") [.ref l]) Q E s := by
  obtain ⟨o, ho, hc, n, hd⟩ := id hl
  have hne' : l ≠ s.heap.objs.size := Nat.ne_of_lt (Heap.lt_size ho)
  refine call_min_walk (wpAny_pyIter_tuple hl ?_)
  refine ⟨s.heap.objs.size, _, _, _, _, _, _, rfl, Walks.tuple (A := A.in1) hh s.heap.objs.size l hne' (intItems xs), ⟨⟨_, Heap.get?_push_size _ rfl, rfl, rfl⟩, hl.push _⟩, fun b hb => ?_, by simpa [intItems] using hne, CmpOf.ints_lt (numAt xs) (fun _ _ => intItems_at), fun v h' tk hP hk => ?_⟩
  · rcases List.mem_cons.mp hb with rfl | hb
    · exact Heap.lt_size (Heap.get?_push_size _ rfl)
    · obtain rfl := List.mem_singleton.mp hb
      exact Heap.lt_size (Heap.get?_push_of_some _ ho)
  · exact h v h' tk (by simpa [intItems] using hP) fun b o e => hk b o (fun hb => absurd (Heap.lt_size e) ((List.mem_singleton.mp hb) ▸ Nat.lt_irrefl _)) (Heap.get?_push_of_some _ e)
end
section
variable {X : Cx} {S : Sc}
def rMaxT (K : PySem.W.Frag) : List V → Hp → VK → Prop := fun vs H Q => ∃ (a : Addr) (ns : List Int), vs = [V.ref a] ∧ SqT K H a (ns.map V.int) ∧ 0 < ns.length ∧ ∀ m, m ∈ ns → (∀ y, y ∈ ns → y ≤ m) → Q (.int m) H
def rMinT (K : PySem.W.Frag) : List V → Hp → VK → Prop := fun vs H Q => ∃ (a : Addr) (ns : List Int), vs = [V.ref a] ∧ SqT K H a (ns.map V.int) ∧ 0 < ns.length ∧ ∀ m, m ∈ ns → (∀ y, y ∈ ns → m ≤ y) → Q (.int m) H
theorem cr_maxT (hc : X.calm = true) : CallR X (.builtin "max") (rMaxT X.K) := by
  intro pins s σ H vs us Q I r h
  obtain ⟨a, ns, rfl, hs, hne, q⟩ := h
  obtain ⟨its, rv, hl, _⟩ := I.tuple hs
  obtain ⟨u, rfl, ru⟩ := vals1 r
  cases ru
  have hi := ints_of_vals rv
  obtain ⟨xs, e⟩ := hi.allInts.items
  have hn : numsOf (intItems xs).toList = ns := by rw [← e]; exact hi.numsOf
  rw [nums_intItems] at hn
  subst hn
  rw [e] at hl
  have hsz : 0 < xs.size := by simpa using hne
  refine max_intTup (I.ok.hd hc) hl hsz fun v h' tk hv hk => ?_
  obtain ⟨t, rfl⟩ := intItems_at hv
  obtain ⟨h1, h2⟩ := argBest_gt (numAt xs) (xs.size - 1)
  refine ⟨.int _, H, I.kept hk, ⟨_, rfl⟩, q _ ?_ fun a ha => ?_⟩
  · rw [numAt_eq]; exact PySem.getD_mem (by rw [List.length_map, Array.length_toList]; omega)
  · obtain ⟨j, hj, rfl⟩ := mem_getD ha
    rw [List.length_map, Array.length_toList] at hj
    rw [← numAt_eq]; exact h2 j (by omega)
theorem cr_minT (hc : X.calm = true) : CallR X (.builtin "min") (rMinT X.K) := by
  intro pins s σ H vs us Q I r h
  obtain ⟨a, ns, rfl, hs, hne, q⟩ := h
  obtain ⟨its, rv, hl, _⟩ := I.tuple hs
  obtain ⟨u, rfl, ru⟩ := vals1 r
  cases ru
  have hi := ints_of_vals rv
  obtain ⟨xs, e⟩ := hi.allInts.items
  have hn : numsOf (intItems xs).toList = ns := by rw [← e]; exact hi.numsOf
  rw [nums_intItems] at hn
  subst hn
  rw [e] at hl
  have hsz : 0 < xs.size := by simpa using hne
  refine min_intTup (I.ok.hd hc) hl hsz fun v h' tk hv hk => ?_
  obtain ⟨t, rfl⟩ := intItems_at hv
  obtain ⟨h1, h2⟩ := argBest_lt (numAt xs) (xs.size - 1)
  refine ⟨.int _, H, I.kept hk, ⟨_, rfl⟩, q _ ?_ fun a ha => ?_⟩
  · rw [numAt_eq]; exact PySem.getD_mem (by rw [List.length_map, Array.length_toList]; omega)
  · obtain ⟨j, hj, rfl⟩ := mem_getD ha
    rw [List.length_map, Array.length_toList] at hj
    rw [← numAt_eq]; exact h2 j (by omega)
def gMx (f : List Int → Int) : List D → Mem → Res D
  | [d], M => (match seqOf M d with | some ds => (match intsOf ds with | some (n :: ns) => .ok (.int (f (n :: ns))) M | _ => .bad) | none => .bad)
  | _, _ => .bad
def rMaxA (K : PySem.W.Frag) : List V → Hp → VK → Prop := fun xs H Q => rMax K xs H Q ∨ rMaxT K xs H Q
def rMinA (K : PySem.W.Frag) : List V → Hp → VK → Prop := fun xs H Q => rMin K xs H Q ∨ rMinT K xs H Q
theorem cr_maxA (hc : X.calm = true) : CallR X (.builtin "max") (rMaxA X.K) := (cr_max hc).or (cr_maxT hc)
theorem cr_minA (hc : X.calm = true) : CallR X (.builtin "min") (rMinA X.K) := (cr_min hc).or (cr_minT hc)
theorem cq_max : CallQ S (rMaxA S.K) (gMx mxI) := by
  intro W σ ρ H M xs ds Q mo ra p
  unfold gMx at p
  split at p
  · split at p
    · rename_i es hl
      split at p
      · rename_i n ns hb
        obtain ⟨v, rfl, r⟩ := RepA.one ra
        obtain ⟨a, ys, rfl, e, rb⟩ := seq_of mo r hl
        rw [ints_ok es ys _ rb hb] at e
        have fin : ∀ m, m ∈ n :: ns → (∀ y, y ∈ n :: ns → y ≤ m) → Q (.int m) H := fun m h1 h2 => by
          have : m = mxI (n :: ns) := Int.le_antisymm (mxI_le h1) (h2 _ (mxI_mem (List.cons_ne_nil _ _)))
          rw [this]
          exact p ρ H _ (Stp.refl mo) (.int _)
        rcases e with e | e
        · exact .inl ⟨a, _, rfl, e, Nat.succ_pos _, fin⟩
        · exact .inr ⟨a, _, rfl, e, Nat.succ_pos _, fin⟩
      · exact p.elim
    · exact p.elim
  · exact p.elim
theorem cq_min : CallQ S (rMinA S.K) (gMx mnI) := by
  intro W σ ρ H M xs ds Q mo ra p
  unfold gMx at p
  split at p
  · split at p
    · rename_i es hl
      split at p
      · rename_i n ns hb
        obtain ⟨v, rfl, r⟩ := RepA.one ra
        obtain ⟨a, ys, rfl, e, rb⟩ := seq_of mo r hl
        rw [ints_ok es ys _ rb hb] at e
        have fin : ∀ m, m ∈ n :: ns → (∀ y, y ∈ n :: ns → m ≤ y) → Q (.int m) H := fun m h1 h2 => by
          have : m = mnI (n :: ns) := Int.le_antisymm (h2 _ (mnI_mem (List.cons_ne_nil _ _))) (mnI_le h1)
          rw [this]
          exact p ρ H _ (Stp.refl mo) (.int _)
        rcases e with e | e
        · exact .inl ⟨a, _, rfl, e, Nat.succ_pos _, fin⟩
        · exact .inr ⟨a, _, rfl, e, Nat.succ_pos _, fin⟩
      · exact p.elim
    · exact p.elim
  · exact p.elim
end
end QX

set_option maxRecDepth 100000
set_option maxHeartbeats 2000000
/-! QX12: calls by keywords, defs with defaults -/
namespace QX
open PySem PySem.Spec PyProof.Rows L2 HX
def pk {α : Type} : List Nat → List α → List α
  | [], _ => []
  | i :: is, l => match l[i]? with | some a => a :: pk is l | none => pk is l
theorem RepA.pk {K : PySem.W.Frag} {ρ : List Addr} {H : Hp} {vs : List V} {ds : List D} (r : RepA K ρ H vs ds) : ∀ is : List Nat, RepA K ρ H (QX.pk is vs) (QX.pk is ds)
  | [] => .nil
  | i :: is => by
    unfold QX.pk
    cases e : vs[i]? with
    | some v =>
      obtain ⟨d, h1, h2⟩ := r.get e
      rw [h1]
      exact .cons h2 (RepA.pk r is)
    | none =>
      have : ds[i]? = none := by
        rw [List.getElem?_eq_none_iff] at e ⊢
        rw [← r.len]
        exact e
      rw [this]
      exact RepA.pk r is
theorem vals_get : ∀ {vs : List V} {us : List Value} {i : Nat} {v : V}, Vals vs us → vs[i]? = some v → ∃ u, us[i]? = some u ∧ RelV v u
  | _, _, _, _, .nil, e => by simp at e
  | _, _, 0, _, .cons h _, e => ⟨_, rfl, by simp at e; exact e ▸ h⟩
  | _, _, i + 1, _, .cons _ t, e => by
    obtain ⟨u, h1, h2⟩ := vals_get (i := i) t (by simpa using e)
    exact ⟨u, by simpa using h1, h2⟩
theorem vals_pk {vs : List V} {us : List Value} (r : Vals vs us) : ∀ is : List Nat, Vals (pk is vs) (pk is us)
  | [] => .nil
  | i :: is => by
    unfold pk
    cases e : vs[i]? with
    | some v =>
      obtain ⟨d, h1, h2⟩ := vals_get r e
      rw [h1]
      exact .cons h2 (vals_pk r is)
    | none =>
      have : us[i]? = none := by
        rw [List.getElem?_eq_none_iff] at e ⊢
        rw [← r.length]
        exact e
      rw [this]
      exact vals_pk r is
abbrev FunDS (K : PySem.W.Frag) (x : Str) (st : Stmt) (dvs : List V) (kws : List (Str × V)) (f : Addr) (fd : FuncData) : Prop := FunD K x x (defArgs st) (defBody st) (defScope st) dvs kws f fd
/-- a def of the text, with its defaults -/
def DefD (K : PySem.W.Frag) (mg : Str → Option Value) (x : Str) (st : Stmt) (dvs : List V) (kws : List (Str × V)) : Prop := ∃ (f : Addr) (fd : FuncData), FunDS K x st dvs kws f fd ∧ mg x = some (.ref f)
/-- a def that keeps to its mirror, with its defaults -/
def CalDQ (S : Sc) (P : Program) (w : World) (mg : Str → Option Value) (base : Heap) (k : Nat) (x : Str) (st : Stmt) (dvs : List V) (kws : List (Str × V)) (ps : List Str) (m : List D → Mem → Res D) : Prop :=
  ∃ (f : Addr) (fd : FuncData), FnOk P w S.K mg base (L2.CX P w) k f fd ps (spM S ps.length m) ∧ mg x = some (.ref f) ∧ FunDS S.K x st dvs kws f fd
section
variable {S : Sc} {P : Program} {w : World} {mg : Str → Option Value} {base : Heap} {j k : Nat} {x : Str} {ps N : List Str} {st : Stmt} {b : FS} {dvs : List V} {kws : List (Str × V)} {m m' : List D → Mem → Res D}
theorem CalDQ.mono (c : CalDQ S P w mg base j x st dvs kws ps m) (h : j ≤ k) : CalDQ S P w mg base k x st dvs kws ps m := by
  obtain ⟨f, fd, F, a, d⟩ := c
  exact ⟨f, fd, F.mono h, a, d⟩
theorem CalDQ.imp (c : CalDQ S P w mg base k x st dvs kws ps m) (h : ∀ (W : WX) (ρ : List Addr) (H : Hp) (Q : VK) (vs : List V) (ds : List D) (M : Mem), MemOk S ρ H M → RepA S.K ρ H vs ds → Post S W (Rep S.K) [] ρ H Q (m' ds M) → Post S W (Rep S.K) [] ρ H Q (m ds M)) : CalDQ S P w mg base k x st dvs kws ps m' := by
  obtain ⟨f, fd, F, a1, a2⟩ := c
  exact ⟨f, fd, F.imp fun vs H Q E ⟨hl, ρ, M, ds, mo, ra, p⟩ => ⟨hl, ρ, M, ds, mo, ra, h _ _ _ _ _ _ _ mo ra p⟩, a1, a2⟩
theorem CalDQ.trim (c : CalDQ S P w mg base k x st dvs kws ps m) : CalDQ S P w mg base k x st dvs kws ps (fun ds M => trimR M.length (m ds M)) := CalDQ.imp c fun _ _ _ _ _ _ _ mo _ p => Post.trim mo p
theorem CalDQ.cal (c : CalDQ S P w mg base k x st [] [] ps m) (h : ∀ (kV doc pm : Value) (an : Option Addr) (cdv ct : Value) (us : List Value), us.length = ps.length → bindArgs (PySem.W.fnOf x x (defArgs st) (defBody st) (defScope st) .none kV doc pm an cdv ct) ⟨us, []⟩ = pure (ps.zip us)) : CalQ S P w mg base k x ps m := by
  obtain ⟨f, fd, F, a1, a2⟩ := c
  exact ⟨f, fd, F, a1, a2.kp, a2.bindsN h⟩
theorem DefD.okQ (T : DefD S.K mg x st dvs kws) (sc : FnScope N ps (defScope st))
    (hb : ∀ (f : Addr) (cdv : Value) (A : Around) (outer : List Env) (s : Shared) (H : Hp) (E : XK), Room k (A.deeper (envOfC x (defScope st) s.heap.objs.size f cdv)) → Takes (cxOf (L2.CX P w) P w S.K mg base N x (defScope st) f cdv A outer s H E) (fun cls d _ H => E cls d H) →
      PassesOwn (model P w) (cxOf (L2.CX P w) P w S.K mg base N x (defScope st) f cdv A outer s H E).A (cxOf (L2.CX P w) P w S.K mg base N x (defScope st) f cdv A outer s H E).env (cxOf (L2.CX P w) P w S.K mg base N x (defScope st) f cdv A outer s H E).xe →
      QSs S (fun cls d _ H => E cls d H) (cxOf (L2.CX P w) P w S.K mg base N x (defScope st) f cdv A outer s H E) (defBody st) b) : CalDQ S P w mg base (k + 1) x st dvs kws ps (runD N.length ps.length b) := by
  obtain ⟨f, fd, F, hm⟩ := T
  refine ⟨f, fd, FunD.ok F sc (fun vs H Q E h => h.1) fun cdv A outer s H vs Q E hr h => ⟨_, hb f cdv A outer s H E hr (takes_of rfl rfl rfl rfl) (passes_of (X := cxOf (L2.CX P w) P w S.K mg base N x (defScope st) f cdv A outer s H E) rfl), ?_⟩, hm, F⟩
  obtain ⟨hl, ρ, M, ds, mo, ra, p⟩ := h
  refine ⟨ρ, M, _, mo, rep_start ra, ?_⟩
  unfold runD at p
  split at p
  · cases e : b (startA N.length ds) M with
    | ok fl M1 =>
      rw [e] at p
      cases fl with
      | rt d => exact p
      | nx σ => exact fun ρ' H' _ st' _ => p ρ' H' .non st' .non
      | bk σ => exact p.elim
      | ct σ => exact p.elim
    | exc c fs σ M1 => rw [e] at p; exact fun ρ' H' _ d st' _ xr => p ρ' H' d st' xr
    | bad => rw [e] at p; exact p
  · exact p.elim
end
abbrev QK (S : Sc) (W : WX) (X : Cx) (es : List Keyword) (f : F (List D)) : Prop := PK X es (tOf S W (RepA S.K) f)
section
variable {X : Cx} {S : Sc} {W : WX} {k : Nat} {x : Str} {ps ks : List Str} {m : List D → Mem → Res D} {p pos kpos : Pos} {e : Expr} {es : List Expr} {kws : List Keyword} {fs fk : F (List D)} {fe : F D} {st : Stmt} {dvs : List V} {kds : List (Str × V)} {nm : Option Str}
theorem PK.imp {es : List Keyword} {t t' : TA} (h : PK X es t) (w : ∀ σ H Q, t' σ H Q → t σ H Q) : PK X es t' := ⟨fun pos pins s σ H Q I q => h.run pos pins s σ H Q I (w σ H Q q)⟩
theorem qk_nil : QK S W X [] fNil := PK.imp pk_nil fun σ H Q ⟨ρ, M, σa, mo, rs, p⟩ => p ρ H [] (Stp.refl mo) .nil
theorem qk_cons (ha : QE S W X e fe) (hr : QK S W X kws fk) : QK S W X (⟨nm, e, kpos⟩ :: kws) (fCons fe fk) := PK.imp (pk_cons ha hr) fun σ H Q ⟨ρ, M, σa, mo, rs, p⟩ =>
  use mo rs p fun x M1 ρ1 H1 v st1 r1 rs1 p1 => use st1.2 rs1 p1 fun y M2 ρ2 H2 u st2 r2 rs2 p2 => p2 ρ2 H2 _ (Stp.refl st2.2) (.cons (Rep.mono st2.1 _ _ r1) r2)
/-- what is called, put into the order of the parameters -/
def fCallK (m : List D → Mem → Res D) (is : List Nat) (fs fk : F (List D)) : F D := fun σ M => (fs σ M).bind fun ds M1 => (fk σ M1).bind fun es M2 => m (pk is (ds ++ es)) M2
theorem post_use {α : Type} {R : List Addr → Hp → V → D → Prop} {σ : L2.St} {σa : Sa} {ρ : List Addr} {H : Hp} {M : Mem} {Q : VK} {f : F (List D)} {g : List D → Mem → Res D} (h : Post S W R σ ρ H Q ((f σa M).bind g)) (Q2 : List V → Hp → Prop)
    (c : ∀ ds M1 ρ1 H1 vs, f σa M = .ok ds M1 → Stp S ρ H ρ1 H1 M1 → RepA S.K ρ1 H1 vs ds → Post S W R σ ρ1 H1 Q (g ds M1) → Q2 vs H1) : Post S W (RepA S.K) σ ρ H Q2 (f σa M) := by
  cases e0 : f σa M with
  | ok ds M1 =>
    rw [e0] at h
    exact fun ρ1 H1 vs st1 r1 => c ds M1 ρ1 H1 vs e0 st1 r1 (Post.mono h st1.1)
  | exc c fs M1 => rw [e0] at h; exact h
  | bad => rw [e0] at h; exact h
theorem qe_callD {dvs' : List V} {dds : List D} (tk : Takes X W) (hk : X.K = S.K) (c : CalDQ S X.prog X.w X.mg X.base k x st dvs kds ps m) (hr : Room k X.A) (hg : Gl X x) (hd : ∀ ρ H, RepA S.K ρ H dvs' dds) (hb : ∀ f fd, FunDS S.K x st dvs kds f fd → ∃ ds, Vals dvs' ds ∧ Binds S.K fd ps ds)
    (ha : QA S W X (e :: es) fs) (hn : ∀ σ M ds M1, fs σ M = .ok ds M1 → ds.length + dds.length = ps.length) (hdb : (x == ("__debug__" : Str)) = false := by decide)
    (he : starEach (e :: es) X.env = (false, eval e X.env) :: starEach es X.env := by rfl) (hpl : (backTo pos (starEach es X.env)).any (·.1) = false := by rfl) : QE S W X (.Call (.Name x p) (e :: es) [] pos) (fCall (fun ds M => m (ds ++ dds) M) fs) := by
  obtain ⟨f, fd, F, hm, T⟩ := c
  obtain ⟨ds0, v0, b0⟩ := hb f fd T
  have kp := T.kp
  rw [← hk] at F b0 kp
  refine PE.imp (pe_callSD F hr hg hm kp b0 v0 (passAt tk) ha hdb he hpl) fun σ H Q ⟨ρ, M, σa, mo, rs, p⟩ => ⟨ρ, M, σa, mo, rs, ?_⟩
  refine post_use (α := D) p _ fun ds M1 ρ1 H1 vs e0 st1 r1 p1 => ?_
  have r2 : RepA S.K ρ1 H1 (vs ++ dvs') (ds ++ dds) := r1.append (hd ρ1 H1)
  refine ⟨?_, ρ1, M1, _, st1.2, r2, ?_⟩
  · rw [r2.len, List.length_append]
    exact hn _ _ _ _ e0
  · cases e1 : m (ds ++ dds) M1 with
    | ok d M2 => rw [e1] at p1; exact p1
    | exc c fs M2 => rw [e1] at p1; exact p1
    | bad => rw [e1] at p1; exact p1
theorem run_kw {CX : CXT} {n : Nat} {f : Addr} {fd : FuncData} {sp : Sp} {E : L2.St → XK} {g : List Value → List Value → List Value} {gV : List V → List V → List V} {pins : List (Addr × Obj)} {σ : L2.St} {H : Hp} {s : Shared} {Q : VK} {us ws : List Value} {vs zs : List V} (F : FnOk X.prog X.w X.K X.mg X.base CX k f fd ps sp) (hr : Room k X.A) (hb : KBn X.K fd ps n ks g gV)
    (hx : PassesAt CX X σ (E σ)) (I : Inv X pins σ H s) (r : Vals vs us) (rz : Vals zs ws) (l1 : vs.length = n) (l2 : zs.length = ks.length) (h : sp (gV vs zs) H Q (E σ)) : wpAny (model X.prog X.w) X.A (call (.ref f) us (ks.zip ws)) (EP X pins σ Q) X.xe s := by
  have hv := hb.rel r rz
  have n1 : us.length = n := r.length.symm.trans l1
  have n2 : ws.length = ks.length := rz.length.symm.trans l2
  refine wpAny_call (codeAny_mono (F.run X.A X.stack s H ⟨us, ks.zip ws⟩ _ _ Q (E σ) hr I.env0 (hb.to s us ws I.kIn n1 n2) hv h) fun rr s' hq => ?_)
  match rr, hq with
  | .error e, hq => exact hx pins H s e s' I hq
  | .ok (.ret u), hq => exact I.after hq
  | .ok .next, hq => exact hq.elim
  | .ok .brk, hq => exact hq.elim
  | .ok .cont, hq => exact hq.elim
theorem qe_callKw {n : Nat} {is : List Nat} (tk : Takes X W) (hk : X.K = S.K) (c : CalDQ S X.prog X.w X.mg X.base k x st dvs kds ps m) (hr : Room k X.A) (hg : Gl X x) (hb : ∀ f fd, FunDS S.K x st dvs kds f fd → ∃ g, KBn S.K fd ps n ks g fun vs zs => pk is (vs ++ zs))
    (ha : QA S W X (e :: es) fs) (hkw : QK S W X kws fk) (hn : ∀ σ M ds M1, fs σ M = .ok ds M1 → ds.length = n) (hn2 : ∀ σ M ds M1, fk σ M = .ok ds M1 → ds.length = ks.length) (hp : ∀ l : List D, l.length = n + ks.length → (pk is l).length = ps.length)
    (hall : (backToKw pos (keywordEach kws X.env)).all (·.1.isSome) = true := by rfl) (hks : (backToKw pos (keywordEach kws X.env)).filterMap (·.1) = ks := by rfl) (hdb : (x == ("__debug__" : Str)) = false := by decide)
    (he : starEach (e :: es) X.env = (false, eval e X.env) :: starEach es X.env := by rfl) (hpl : ((backTo pos (starEach (e :: es) X.env)).any (·.1) || (backToKw pos (keywordEach kws X.env)).any (·.1.isNone)) = false := by rfl) :
    QE S W X (.Call (.Name x p) (e :: es) kws pos) (fCallK m is fs fk) := by
  obtain ⟨f, fd, F, hm, T⟩ := c
  obtain ⟨g, b0⟩ := hb f fd T
  have kp := T.kp
  rw [← hk] at F b0 kp
  refine ⟨fun pins s σ H Q I ⟨ρ, M, σa, mo, rs, h⟩ => wpAny_Call_Name_kw (ld_glob I hg hm ?_ hdb)⟩
  refine PySem.W.callWith_KW (h₀ := X.base) I.ok.mod.kin kp hall ?_ hpl he
  have ht : tOf S W (RepA S.K) fs σ H (fun vs H1 => tOf S W (RepA S.K) fk σ H1 fun zs H2 => vs.length = n ∧ zs.length = ks.length ∧ spM S ps.length m (pk is (vs ++ zs)) H2 Q (WE W σ)) := by
    refine ⟨ρ, M, σa, mo, rs, post_use (α := D) h _ fun ds M1 ρ1 H1 vs e0 st1 r1 p1 => ⟨ρ1, M1, σa, st1.2, rs.mono st1.1, post_use (α := D) p1 _ fun es M2 ρ2 H2 zs e1 st2 r2 p2 => ?_⟩⟩
    have r3 : RepA S.K ρ2 H2 (vs ++ zs) (ds ++ es) := (RepA.mono st2.1 _ _ r1).append r2
    refine ⟨by rw [r1.len]; exact hn _ _ _ _ e0, by rw [r2.len]; exact hn2 _ _ _ _ e1, ?_, ρ2, M2, _, st2.2, r3.pk is, ?_⟩
    · rw [(r3.pk is).len]
      exact hp _ (by rw [List.length_append, hn _ _ _ _ e0, hn2 _ _ _ _ e1])
    · cases e2 : m (pk is (ds ++ es)) M2 with
      | ok d M3 => rw [e2] at p2; exact p2
      | exc c fs M3 => rw [e2] at p2; exact p2
      | bad => rw [e2] at p2; exact p2
  refine thn (ha.run pos pins s σ H _ I ht) fun us s1 ⟨vs, H1, I1, r, q⟩ => thn (hkw.run pos pins s1 σ H1 _ I1 q) fun ws s2 ⟨zs, H2, I2, rz, l1, l2, q2⟩ => ⟨I2.kIn, ?_⟩
  rw [hks]
  exact run_kw F hr b0 (passAt tk σ) I2 r rz l1 l2 q2
theorem qe_callKw0 {is : List Nat} (tk : Takes X W) (hk : X.K = S.K) (c : CalDQ S X.prog X.w X.mg X.base k x st dvs kds ps m) (hr : Room k X.A) (hg : Gl X x) (hb : ∀ f fd, FunDS S.K x st dvs kds f fd → ∃ g, KBn S.K fd ps 0 ks g fun vs zs => pk is (vs ++ zs))
    (hkw : QK S W X kws fk) (hn2 : ∀ σ M ds M1, fk σ M = .ok ds M1 → ds.length = ks.length) (hp : ∀ l : List D, l.length = ks.length → (pk is l).length = ps.length)
    (hall : (backToKw pos (keywordEach kws X.env)).all (·.1.isSome) = true := by rfl) (hks : (backToKw pos (keywordEach kws X.env)).filterMap (·.1) = ks := by rfl) (hdb : (x == ("__debug__" : Str)) = false := by decide)
    (hpl : ((backTo pos (starEach [] X.env)).any (·.1) || (backToKw pos (keywordEach kws X.env)).any (·.1.isNone)) = false := by rfl) :
    QE S W X (.Call (.Name x p) [] kws pos) (fCallK m is fNil fk) := by
  obtain ⟨f, fd, F, hm, T⟩ := c
  obtain ⟨g, b0⟩ := hb f fd T
  have kp := T.kp
  rw [← hk] at F b0 kp
  refine ⟨fun pins s σ H Q I ⟨ρ, M, σa, mo, rs, h⟩ => wpAny_Call_Name_kw (ld_glob I hg hm ?_ hdb)⟩
  refine PySem.W.callWith_KW0 (h₀ := X.base) I.ok.mod.kin kp hall ?_ hpl
  have ht : tOf S W (RepA S.K) fk σ H (fun zs H2 => zs.length = ks.length ∧ spM S ps.length m (pk is ([] ++ zs)) H2 Q (WE W σ)) := by
    have h' : Post S W (Rep S.K) σ ρ H Q ((fk σa M).bind fun es M2 => m (pk is ([] ++ es)) M2) := h
    refine ⟨ρ, M, σa, mo, rs, post_use (α := D) h' _ fun es M2 ρ2 H2 zs e1 st2 r2 p2 => ?_⟩
    refine ⟨by rw [r2.len]; exact hn2 _ _ _ _ e1, ?_, ρ2, M2, _, st2.2, r2.pk is, ?_⟩
    · rw [List.nil_append, (r2.pk is).len]
      exact hp _ (hn2 _ _ _ _ e1)
    · rw [List.nil_append] at p2
      cases e2 : m (pk is es) M2 with
      | ok d M3 => rw [e2] at p2; exact p2
      | exc c fs M3 => rw [e2] at p2; exact p2
      | bad => rw [e2] at p2; exact p2
  refine thn (hkw.run pos pins s σ H _ I ht) fun ws s2 ⟨zs, H2, I2, rz, l2, q2⟩ => ⟨I2.kIn, ?_⟩
  rw [hks]
  exact run_kw (us := []) (vs := []) F hr b0 (passAt tk σ) I2 .nil rz rfl l2 q2
end
/-- all parameters are told, some of them by their names -/
theorem kb_all {K : PySem.W.Frag} {x : Str} {st : Stmt} {kws : List (Str × V)} {f : Addr} {fd : FuncData} {ps : List Str} (F : FunDS K x st [] kws f fd) (n : Nat) (ks : List Str) (is : List Nat)
    (h : ∀ (kV doc pm : Value) (an : Option Addr) (cdv ct : Value) (us ws : List Value), us.length = n → ws.length = ks.length → bindArgs (PySem.W.fnOf x x (defArgs st) (defBody st) (defScope st) .none kV doc pm an cdv ct) ⟨us, ks.zip ws⟩ = pure (ps.zip (pk is (us ++ ws)))) :
    ∃ g, KBn K fd ps n ks g fun vs zs => pk is (vs ++ zs) := by
  obtain ⟨oc, od, dV, kV, doc, pm, an, cdv, ct, osl, rfl, lk, hcd, hD, hK⟩ := F.ex
  rcases hD with ⟨_, rfl⟩ | ⟨e, _⟩
  · exact ⟨fun us ws => pk is (us ++ ws), fun s us ws _ l1 l2 => .of_eq (h kV doc pm an cdv ct us ws l1 l2), fun r1 r2 => vals_pk (r1.append r2) is⟩
  · exact absurd rfl e
theorem defD_cut {C : Prop} {K : PySem.W.Frag} {mg : Str → Option Value} {h : Heap} {x : Str} {st : Stmt} {kws : List (Str × V)} {dvs : List V} {f : Addr} {od an : Option Addr} {sl : Array (Option Value)} {oc dV kV dc pm cd ct : Value} (X : K.In h) (G : h.Ns mainGlobals mg)
    (a : PySem.W.nsIn K mainGlobals x = some (some (.ref f))) (l : K.lookup f = some ⟨oc, od, .func (PySem.W.fnOf x x (defArgs st) (defBody st) (defScope st) dV kV dc pm an cd ct), sl⟩) (c : PySem.W.codeIn K cd x = true) (k : PySem.W.keepIn K (.ref f) = true)
    (d1 : DflV K dV dvs) (d2 : KwdV K kV kws) (z : DefD K mg x st dvs kws → C) : C := z ⟨f, _, ⟨⟨_, _, _, _, _, _, _, _, _, _, rfl, l, c, d1, d2⟩, k⟩, PySem.W.mg_of X G a⟩
@[simp] theorem ev_callK {m : List D → Mem → Res D} {is : List Nat} {fs fk : F (List D)} {σ : Sa} {M : Mem} : fCallK m is fs fk σ M = (fs σ M).bind fun ds M1 => (fk σ M1).bind fun es M2 => m (pk is (ds ++ es)) M2 := rfl
end QX
namespace QX
open PySem PySem.Spec PyProof.Rows L2 HX
theorem kwd_one {K : PySem.W.Frag} {A : Addr} {x : Str} {i : Int} {t : Tok} (h : PySem.W.nsIn K A x = some (some (.int i t))) : KwdV K (.ref A) [(x, V.int i)] := .inr ⟨A, rfl, fun q hq => by
  rw [List.mem_singleton.mp hq]
  exact ⟨_, h, ⟨t, rfl⟩⟩⟩
end QX

set_option maxRecDepth 100000
set_option maxHeartbeats 1000000
/-! QY1: what the mirrors tell, by plain reasoning -/
namespace QX
open PySem PySem.Spec PyProof.Rows L2 HX
/-! ### memories whose cells name none beyond -/
def Wf (M : Mem) : Prop := ∀ c ∈ M, Cell.und M.length c = true
mutual
theorem und_mono {n m : Nat} (h : n ≤ m) : ∀ d : D, d.und n = true → d.und m = true
  | .non, _ => rfl
  | .bl _, _ => rfl
  | .int _, _ => rfl
  | .str _, _ => rfl
  | .tup ds, e => by simp only [D.und] at e ⊢; exact undA_mono h ds e
  | .lst ds, e => by simp only [D.und] at e ⊢; exact undA_mono h ds e
  | .dct _ ds, e => by simp only [D.und] at e ⊢; exact undA_mono h ds e
  | .scr _, _ => rfl
  | .ref k, e => by simp only [D.und, Nat.blt_eq] at e ⊢; omega
  | .adr _, _ => rfl
theorem undA_mono {n m : Nat} (h : n ≤ m) : ∀ ds : List D, D.undA n ds = true → D.undA m ds = true
  | [], _ => rfl
  | d :: ds, e => by
    simp only [D.undA, Bool.and_eq_true] at e ⊢
    exact ⟨und_mono h d e.1, undA_mono h ds e.2⟩
end
theorem cund_mono {n m : Nat} (h : n ≤ m) {c : Cell} (e : Cell.und n c = true) : Cell.und m c = true := by
  cases c with
  | lst ds => exact undA_mono h ds e
theorem undA_iff {n : Nat} : ∀ {ds : List D}, D.undA n ds = true ↔ ∀ d ∈ ds, d.und n = true
  | [] => by simp [D.undA]
  | d :: ds => by simp only [D.undA, Bool.and_eq_true, undA_iff (ds := ds), List.mem_cons, forall_eq_or_imp]
theorem undA_append {n : Nat} {xs ys : List D} : D.undA n (xs ++ ys) = true ↔ D.undA n xs = true ∧ D.undA n ys = true := by
  simp only [undA_iff, List.mem_append]
  exact ⟨fun h => ⟨fun d hd => h d (.inl hd), fun d hd => h d (.inr hd)⟩, fun h d hd => hd.elim (h.1 d) (h.2 d)⟩
theorem Wf.nil : Wf [] := fun c h => by simp at h
theorem Wf.push {M : Mem} {c : Cell} (h : Wf M) (hc : Cell.und (M.length + 1) c = true) : Wf (M ++ [c]) := by
  intro x hx
  rw [List.length_append, List.length_singleton]
  rcases List.mem_append.mp hx with z | z
  · exact cund_mono (Nat.le_succ _) (h x z)
  · rw [List.mem_singleton.mp z]; exact hc
theorem Wf.set {M : Mem} {c : Cell} {p : Nat} (h : Wf M) (hc : Cell.und M.length c = true) : Wf (M.set p c) := by
  intro x hx
  rw [List.length_set]
  rcases List.mem_or_eq_of_mem_set hx with z | z
  · exact h x z
  · rw [z]; exact hc
theorem closed_app {M g : Mem} {n : Nat} (hn : M.length = n) (h : Wf M) : closed n (M ++ g) = true := by
  unfold closed
  rw [← hn, List.take_left, List.all_eq_true]
  exact h
theorem res_und {k n : Nat} {M : Mem} {d : D} (h : d.und n = true) : D.res k n M d = some d := by
  cases k <;> simp only [D.res, h, if_true]
theorem resL_und {k n : Nat} {M : Mem} : ∀ {ds : List D}, D.undA n ds = true → resL (D.res k n M) ds = some ds
  | [], _ => rfl
  | d :: ds, h => by
    simp only [D.undA, Bool.and_eq_true] at h
    simp only [resL, res_und h.1, resL_und h.2]
theorem trim_app {M g : Mem} {n : Nat} {d : D} (hn : M.length = n) (h : Wf M) (hd : d.und n = true) : trimR n (.ok d (M ++ g)) = .ok d M := by
  unfold trimR
  by_cases hg : g = []
  · subst hg
    rw [List.append_nil]
    dsimp only
    rw [hn, if_pos (by simp)]
  · have hl : 0 < g.length := List.length_pos_iff.mpr hg
    have hb : Nat.ble (M ++ g).length n = false := by
      rw [List.length_append, hn]
      cases e : Nat.ble (n + g.length) n with
      | false => rfl
      | true => have := Nat.le_of_ble_eq_true e; omega
    simp only [hb, Bool.false_eq_true, if_false, res_und hd, closed_app hn h, if_true]
    rw [← hn, List.take_left]
theorem trim_id {M : Mem} {n : Nat} {d : D} (hn : M.length = n) : trimR n (.ok d M) = .ok d M := by
  unfold trimR
  dsimp only
  rw [hn, if_pos (by simp)]
theorem trim_exc {M : Mem} {n c : Nat} {fs : List (Str × D)} (hn : M.length = n) : trimR n (.exc c fs M) = .exc c fs M := by
  unfold trimR
  dsimp only
  rw [hn, if_pos (by simp)]
/-- the new list, and nothing else, is kept -/
theorem trim_ref {M g : Mem} {n : Nat} {ds : List D} (hn : M.length = n) (h : Wf M) (hd : D.undA n ds = true) : trimR n (.ok (.ref n) (M ++ .lst ds :: g)) = .ok (.lst ds) M := by
  unfold trimR
  have hb : Nat.ble (M ++ Cell.lst ds :: g).length n = false := by
    rw [List.length_append, hn, List.length_cons]
    cases e : Nat.ble (n + (g.length + 1)) n with
    | false => rfl
    | true => have := Nat.le_of_ble_eq_true e; omega
  have hu : D.und n (.ref n) = false := by
    simp only [D.und]
    cases e : Nat.blt n n with
    | false => rfl
    | true => rw [Nat.blt_eq] at e; omega
  have hm : (M ++ Cell.lst ds :: g)[n]? = some (.lst ds) := by
    rw [List.getElem?_append_right (by omega), hn, Nat.sub_self]
    rfl
  have hr : D.res 5 n (M ++ Cell.lst ds :: g) (.ref n) = some (.lst ds) := by
    rw [D.res, hu]
    simp only [Bool.false_eq_true, if_false]
    rw [hm]
    simp only [resL_und hd, Option.map_some]
  simp only [hb, Bool.false_eq_true, if_false, hr, closed_app hn h, if_true]
  rw [← hn, List.take_left]
/-! ### comprehensions -/
theorem comp_loop {t : Tg} {c : F Bool} {e : F D} {chk : Mem → Bool} {σ : Sa} {n : Nat} (Iv : Nat → List D → Mem → Prop) : ∀ (items : List Im) (i : Nat) (acc : List D) (M : Mem), acc.length + items.length ≤ 1000000 →
    (∀ j acc M im, items[j - i]? = some im → i ≤ j → Iv j acc M → chk M = true ∧ ∃ σ1, t.put im σ = some σ1 ∧ ((∃ M1, c σ1 M = .ok false M1 ∧ Iv (j + 1) acc M1) ∨ ∃ M1 d M2, c σ1 M = .ok true M1 ∧ e σ1 M1 = .ok d M2 ∧ M2[n]? = some (.lst acc) ∧ Iv (j + 1) (acc ++ [d]) (M2.set n (.lst (acc ++ [d]))))) →
    (∀ acc M, Iv (i + items.length) acc M → chk M = true) → Iv i acc M → ∃ acc' M', compL t c e chk σ n items M = .ok () M' ∧ Iv (i + items.length) acc' M' ∧ acc'.length ≤ acc.length + items.length
  | [], i, acc, M, _, _, hf, h0 => ⟨acc, M, by unfold compL; rw [if_pos (hf acc M h0)], h0, by simp⟩
  | im :: ims, i, acc, M, hl, hs, hf, h0 => by
    obtain ⟨hc, σ1, h1, h2⟩ := hs i acc M im (by rw [Nat.sub_self]; rfl) (Nat.le_refl _) h0
    have e0 : i + (im :: ims).length = (i + 1) + ims.length := by rw [List.length_cons]; omega
    have step : ∀ j acc M im', ims[j - (i + 1)]? = some im' → i + 1 ≤ j → Iv j acc M → chk M = true ∧ ∃ σ1, t.put im' σ = some σ1 ∧ ((∃ M1, c σ1 M = .ok false M1 ∧ Iv (j + 1) acc M1) ∨ ∃ M1 d M2, c σ1 M = .ok true M1 ∧ e σ1 M1 = .ok d M2 ∧ M2[n]? = some (.lst acc) ∧ Iv (j + 1) (acc ++ [d]) (M2.set n (.lst (acc ++ [d])))) := by
      intro j acc M im' hj hij
      refine hs j acc M im' ?_ (by omega)
      rw [show j - i = (j - (i + 1)) + 1 by omega, List.getElem?_cons_succ]
      exact hj
    rw [e0]
    rw [List.length_cons] at hl
    rcases h2 with ⟨M1, g1, g2⟩ | ⟨M1, d, M2, g1, g2, g3, g4⟩
    · obtain ⟨acc', M', a1, a2, a3⟩ := comp_loop Iv ims (i + 1) acc M1 (by omega) step (fun acc M h => hf acc M (by rw [e0]; exact h)) g2
      refine ⟨acc', M', ?_, a2, by rw [List.length_cons]; omega⟩
      unfold compL
      rw [if_pos hc, h1]
      simp only [g1, Res.nox, Res.bind, Bool.false_eq_true, if_false]
      exact a1
    · obtain ⟨acc', M', a1, a2, a3⟩ := comp_loop Iv ims (i + 1) (acc ++ [d]) (M2.set n (.lst (acc ++ [d]))) (by rw [List.length_append, List.length_singleton]; omega) step (fun acc M h => hf acc M (by rw [e0]; exact h)) g4
      rw [List.length_append, List.length_singleton] at a3
      refine ⟨acc', M', ?_, a2, by rw [List.length_cons]; omega⟩
      unfold compL
      rw [if_pos hc, h1]
      have hb : Nat.blt acc.length 16777216 = true := by rw [Nat.blt_eq]; omega
      simp only [g1, g2, g3, hb, Res.nox, Res.bind, if_true]
      exact a1
/-- a comprehension whose parts turn nothing -/
theorem comp_pure {fi : F Ita} {vs : List Nat} {t : Tg} {e : F D} {σ : Sa} {M : Mem} {it : Ita} (f : Im → D) (hi : fi σ M = .ok it M) (hc : ∀ M', it.chk M' = true) (hw : Wf M) (hl : it.items.length ≤ 1000000)
    (he : ∀ im ∈ it.items, (f im).und M.length = true ∧ ∃ σ1, t.put im (wipeA σ vs) = some σ1 ∧ ∀ M', Wf M' → M.length < M'.length → e σ1 M' = .ok (f im) M') : fTrim (fCompC fi vs t fYes e) σ M = .ok (.lst (it.items.map f)) M := by
  unfold fTrim fCompC
  rw [hi]
  dsimp only [Res.bind]
  have step : ∀ j acc M2 im, it.items[j - 0]? = some im → 0 ≤ j → (acc = (it.items.take j).map f ∧ M2 = M ++ [.lst acc]) → it.chk M2 = true ∧ ∃ σ1, t.put im (wipeA σ vs) = some σ1 ∧ ((∃ M1, fYes σ1 M2 = .ok false M1 ∧ (acc = (it.items.take (j + 1)).map f ∧ M1 = M ++ [.lst acc])) ∨ ∃ M1 d M3, fYes σ1 M2 = .ok true M1 ∧ e σ1 M1 = .ok d M3 ∧ M3[M.length]? = some (.lst acc) ∧ (acc ++ [d] = (it.items.take (j + 1)).map f ∧ M3.set M.length (.lst (acc ++ [d])) = M ++ [.lst (acc ++ [d])])) := by
    intro j acc M2 im hj _ ⟨ha, hM⟩
    subst hM
    rw [Nat.sub_zero] at hj
    have him := List.mem_of_getElem? hj
    obtain ⟨hu, σ1, hp, hev⟩ := he im him
    have hacc : D.undA M.length acc = true := by
      rw [ha, undA_iff]
      intro d hd
      obtain ⟨im', him', rfl⟩ := List.mem_map.mp hd
      exact (he im' (List.mem_of_mem_take him')).1
    refine ⟨hc _, σ1, hp, .inr ⟨_, f im, _, rfl, hev _ (hw.push (undA_mono (Nat.le_succ _) _ hacc)) (by simp), ?_, ?_, ?_⟩⟩
    · rw [List.getElem?_append_right (Nat.le_refl _), Nat.sub_self]; rfl
    · rw [ha, List.take_add_one, hj, List.map_append]; rfl
    · rw [List.set_append_right _ _ (Nat.le_refl _), Nat.sub_self]; rfl
  obtain ⟨acc', M', h1, ⟨h2, h3⟩, _⟩ := comp_loop (t := t) (c := fYes) (e := e) (chk := it.chk) (σ := wipeA σ vs) (n := M.length) (fun j acc M2 => acc = (it.items.take j).map f ∧ M2 = M ++ [.lst acc]) it.items 0 [] (M ++ [.lst []]) (by simpa using hl) step (fun acc M2 _ => hc M2) ⟨by simp, rfl⟩
  subst h3
  rw [h1]
  dsimp only
  rw [Nat.zero_add, List.take_length] at h2
  rw [h2]
  refine trim_ref (g := []) rfl hw ?_
  rw [undA_iff]
  intro d hd
  obtain ⟨im, him, rfl⟩ := List.mem_map.mp hd
  exact (he im him).1
/-! ### loops -/
theorem for_loop {t : Tg} {b : FS} {chk : Mem → Bool} {n : Nat} (Iv : Nat → Sa → Mem → Prop) : ∀ (items : List Im) (i : Nat) (σ : Sa) (M : Mem),
    (∀ j σ M im, items[j - i]? = some im → i ≤ j → Iv j σ M → chk M = true ∧ ∃ σ1, t.put im σ = some σ1 ∧ ∃ σ2 M2, (b σ1 M = .ok (.nx σ2) M2 ∨ b σ1 M = .ok (.ct σ2) M2) ∧ Iv (j + 1) (gc n σ2 M2).1 (gc n σ2 M2).2) →
    (∀ σ M, Iv (i + items.length) σ M → chk M = true) → Iv i σ M → ∃ σ' M', forL t b chk n items σ M = .ok (.nx σ') M' ∧ Iv (i + items.length) σ' M'
  | [], i, σ, M, _, hf, h0 => ⟨σ, M, by unfold forL; rw [if_pos (hf σ M h0)], h0⟩
  | im :: ims, i, σ, M, hs, hf, h0 => by
    obtain ⟨hc, σ1, h1, σ2, M2, h2, h3⟩ := hs i σ M im (by rw [Nat.sub_self]; rfl) (Nat.le_refl _) h0
    have e0 : i + (im :: ims).length = (i + 1) + ims.length := by rw [List.length_cons]; omega
    obtain ⟨σ', M', a1, a2⟩ := for_loop Iv ims (i + 1) _ _ (fun j σ M im' hj hij => hs j σ M im' (by
      rw [show j - i = (j - (i + 1)) + 1 by omega, List.getElem?_cons_succ]
      exact hj) (by omega)) (fun σ M h => hf σ M (by rw [e0]; exact h)) h3
    refine ⟨σ', M', ?_, by rw [e0]; exact a2⟩
    unfold forL
    rw [if_pos hc, h1]
    dsimp only
    rcases h2 with h2 | h2 <;> (rw [h2]; exact a1)
theorem gc_same {n : Nat} {σ : Sa} {M : Mem} (h : M.length = n) : gc n σ M = (σ, M) := by
  unfold gc
  rw [h]
  simp
theorem gc_app {n : Nat} {σ : Sa} {M g : Mem} (h : M.length = n) (hw : Wf M) (hg : g ≠ []) : gc n σ (M ++ g) = (σ.map (keepS n), M) := by
  unfold gc
  have hl : 0 < g.length := List.length_pos_iff.mpr hg
  have hb : Nat.ble (M ++ g).length n = false := by
    rw [List.length_append, h]
    cases e : Nat.ble (n + g.length) n with
    | false => rfl
    | true => have := Nat.le_of_ble_eq_true e; omega
  simp only [hb, Bool.false_eq_true, if_false, closed_app h hw, if_true]
  rw [← h, List.take_left]
end QX

set_option maxRecDepth 100000
set_option maxHeartbeats 1000000
/-! QY2: how the functions go, step by step -/
namespace QX
open PySem PySem.Spec PyProof.Rows L2 HX
section
variable {α β : Type} {σ : Sa} {M : Mem} {fa fb fc : F D} {ga gb : F Bool} {fs : F (List D)} {g g' : D → D → Mem → Res D} {s1 s2 : FS}
@[simp] theorem bind_ok {x : α} {k : α → Mem → Res β} : (Res.ok x M).bind k = k x M := rfl
@[simp] theorem bind_exc {c : Nat} {f : List (Str × D)} {k : α → Mem → Res β} : (Res.exc c f M : Res α).bind k = .exc c f M := rfl
@[simp] theorem bind_bad {k : α → Mem → Res β} : (Res.bad : Res α).bind k = .bad := rfl
@[simp] theorem bindS_ok {x : α} {k : α → Mem → RS} : (Res.ok x M).bindS σ k = k x M := rfl
@[simp] theorem bindS_exc {c : Nat} {f : List (Str × D)} {k : α → Mem → RS} : (Res.exc c f M : Res α).bindS σ k = .exc c f σ M := rfl
@[simp] theorem bindS_bad {k : α → Mem → RS} : (Res.bad : Res α).bindS σ k = .bad := rfl
@[simp] theorem ev_var {i : Nat} : fVar i σ M = match σ[i]? with | some (some d) => .ok d M | _ => .bad := rfl
@[simp] theorem ev_c {d : D} : fC d σ M = .ok d M := rfl
@[simp] theorem ev_bin : fBin g fa fb σ M = (fa σ M).bind fun x M1 => (fb σ M1).bind fun y M2 => g x y M2 := rfl
@[simp] theorem ev_test : fTest fa σ M = (fa σ M).bind fun d M1 => match d with | .bl b => .ok b M1 | _ => .bad := rfl
@[simp] theorem ev_chain : fChain g g' fa fb fc σ M = (fa σ M).bind fun x M1 => (fb σ M1).bind fun y M2 => (g x y M2).bind fun z M3 => match z with | .bl true => (fc σ M3).bind fun w M4 => g' y w M4 | .bl false => .ok (.bl false) M3 | _ => .bad := rfl
@[simp] theorem ev_andT : fAndT ga gb σ M = (ga σ M).bind fun c M1 => if c = true then gb σ M1 else .ok false M1 := rfl
@[simp] theorem ev_orT : fOrT ga gb σ M = (ga σ M).bind fun c M1 => if c = true then .ok true M1 else gb σ M1 := rfl
@[simp] theorem ev_notT : fNotT ga σ M = (ga σ M).bind fun c M1 => .ok (!c) M1 := rfl
@[simp] theorem ev_and : fAnd fa fb σ M = (fa σ M).bind fun x M1 => match x with | .bl true => fb σ M1 | .bl false => .ok (.bl false) M1 | _ => .bad := rfl
@[simp] theorem ev_or : fOr fa fb σ M = (fa σ M).bind fun x M1 => match x with | .bl true => .ok (.bl true) M1 | .bl false => fb σ M1 | _ => .bad := rfl
@[simp] theorem ev_not : fNot fa σ M = (fa σ M).bind fun x M1 => match x with | .bl b => .ok (.bl (!b)) M1 | _ => .bad := rfl
@[simp] theorem ev_if : fIf ga fa fb σ M = (ga σ M).bind fun c M1 => if c = true then fa σ M1 else fb σ M1 := rfl
@[simp] theorem ev_nil : fNil σ M = .ok [] M := rfl
@[simp] theorem ev_cons : fCons fa fs σ M = (fa σ M).bind fun x M1 => (fs σ M1).bind fun xs M2 => .ok (x :: xs) M2 := rfl
@[simp] theorem ev_tup : fTup fs σ M = (fs σ M).bind fun ds M1 => if few ds.length = true then .ok (.tup ds) M1 else .bad := rfl
@[simp] theorem ev_lst : fLst fs σ M = (fs σ M).bind fun ds M1 => if few ds.length = true then .ok (.lst ds) M1 else .bad := rfl
@[simp] theorem ev_new : fNew fs σ M = (fs σ M).bind fun ds M1 => if few ds.length = true then .ok (.ref M1.length) (M1 ++ [.lst ds]) else .bad := rfl
@[simp] theorem ev_nopart : fNoPart σ M = .ok none M := rfl
@[simp] theorem ev_part : fPart fa σ M = (fa σ M).bind fun d M1 => match d with | .int i => .ok (some i) M1 | _ => .bad := rfl
@[simp] theorem ev_sl {fl fh : F (Option Int)} : fSl fa fl fh σ M = (fa σ M).bind fun d M1 => (fl σ M1).bind fun l M2 => (fh σ M2).bind fun h M3 => gSl d l h M3 := rfl
@[simp] theorem ev_iter : fIter fa σ M = (fa σ M).bind gIter := rfl
@[simp] theorem ev_it {q : List D → Mem → Res Ita} : fIt q fs σ M = (fs σ M).bind q := rfl
@[simp] theorem ev_call {m : List D → Mem → Res D} : fCall m fs σ M = (fs σ M).bind m := rfl
@[simp] theorem ev_un {q : D → Mem → Res D} : fUn q fa σ M = (fa σ M).bind q := rfl
@[simp] theorem ev_meth {q : D → List D → Mem → Res D} : fMeth q fa fs σ M = (fa σ M).bind fun d M1 => if isL M1 d = true then (fs σ M1).bind fun ds M2 => q d ds M2 else .bad := rfl
@[simp] theorem ev_countT : fCountT fa fs σ M = (fa σ M).bind fun d M1 => match d with | .tup es => (fs σ M1).bind fun ds M2 => gCountT (.tup es) ds M2 | _ => .bad := rfl
@[simp] theorem ev_tru : fTru fa σ M = (fa σ M).bind gTru := rfl
@[simp] theorem ev_next : sNext σ M = .ok (.nx σ) M := rfl
@[simp] theorem ev_ret : sRet fa σ M = (fa σ M).bindS σ fun d M1 => .ok (.rt d) M1 := rfl
@[simp] theorem ev_retN : sRetN σ M = .ok (.rt .non) M := rfl
@[simp] theorem ev_expr : sExpr fa σ M = (fa σ M).bindS σ fun _ M1 => .ok (.nx σ) M1 := rfl
@[simp] theorem ev_set {i : Nat} : sSet i fa σ M = (fa σ M).bindS σ fun d M1 => .ok (.nx (σ.set i (some d))) M1 := rfl
@[simp] theorem ev_asg {t : Tg} : sAsg fa t σ M = (fa σ M).bindS σ fun d M1 => match t.put (.d d) σ with | some σ1 => .ok (.nx σ1) M1 | none => .bad := rfl
@[simp] theorem ev_par {i j : Nat} : sPar i j fs σ M = (fs σ M).bindS σ fun ds M1 => match ds with | [a, b] => .ok (.nx ((σ.set i (some a)).set j (some b))) M1 | _ => .bad := rfl
@[simp] theorem ev_sif : sIf ga s1 s2 σ M = (ga σ M).bindS σ fun c M1 => if c = true then s1 σ M1 else s2 σ M1 := rfl
@[simp] theorem ev_seq : sSeq s1 s2 σ M = match s1 σ M with | .ok (.nx σ1) M1 => s2 σ1 M1 | r => r := rfl
@[simp] theorem ev_break : sBreak σ M = .ok (.bk σ) M := rfl
@[simp] theorem ev_cont : sCont σ M = .ok (.ct σ) M := rfl
@[simp] theorem ev_raise {c : Nat} : sRaise c σ M = .exc c [] σ M := rfl
@[simp] theorem ev_never : sNever σ M = .bad := rfl
@[simp] theorem ev_for {fi : F Ita} {t : Tg} : sFor fi t s1 σ M = (fi σ M).bindS σ fun it M1 => forL t s1 it.chk M1.length it.items σ M1 := rfl
@[simp] theorem ev_setIx : sSetIx fa fb fc σ M = (fc σ M).bindS σ fun v M1 => (fa σ M1).bindS σ fun o M2 => (fb σ M2).bindS σ fun i M3 => match gSetIx o i v M3 with | some M4 => .ok (.nx σ) M4 | none => .bad := rfl
@[simp] theorem ev_aug {i : Nat} {q : D → D → Option D} : sAug i q fa σ M = (fVar i σ M).bindS σ fun x M0 => (fa σ M0).bindS σ fun y M1 => match q x y with | some z => .ok (.nx (σ.set i (some z))) M1 | none => .bad := rfl
@[simp] theorem ev_augIx {q : D → D → Option D} : sAugIx fa fb fc q σ M = (fa σ M).bindS σ fun o M1 => (fb σ M1).bindS σ fun i M2 => match gGetN o i M2 with
  | some x => (fc σ M2).bindS σ fun y M3 => (match q x y with | some z => (match gSetIx o i z M3 with | some M4 => .ok (.nx σ) M4 | none => .bad) | none => .bad)
  | none => .bad := rfl
@[simp] theorem ev_listRg {c : Bool} : fListRg c fa fb σ M = (fa σ M).bind fun x M1 => (fb σ M1).bind fun y M2 => match x, y with
  | .int a, .int b => if rgOk a b = true then (if c = true then .ok (.ref M2.length) (M2 ++ [.lst (numsD a (b - a).toNat)]) else .ok (.lst (numsD a (b - a).toNat)) M2) else .bad
  | _, _ => .bad := rfl
@[simp] theorem ev_listRg1 {c : Bool} : fListRg1 c fb σ M = (fb σ M).bind fun y M2 => match y with
  | .int b => if rgOk 0 b = true then (if c = true then .ok (.ref M2.length) (M2 ++ [.lst (numsD 0 (b - 0).toNat)]) else .ok (.lst (numsD 0 (b - 0).toNat)) M2) else .bad
  | _ => .bad := rfl
end
/-! ### values -/
section
variable {M : Mem} {ds es : List D} {i j : Int} {n : Nat} {a b : Str} {p q : Bool}
@[simp] theorem seqOf_tup : seqOf M (.tup ds) = some ds := rfl
@[simp] theorem seqOf_lst : seqOf M (.lst ds) = some ds := rfl
@[simp] theorem seqOf_scr {ns : List Int} : seqOf M (.scr ns) = some (ns.map .int) := rfl
@[simp] theorem seqOf_ref : seqOf M (.ref n) = match M[n]? with | some (.lst ds) => some ds | none => none := rfl
@[simp] theorem listOf_lst : listOf M (.lst ds) = some ds := rfl
@[simp] theorem listOf_ref : listOf M (.ref n) = match M[n]? with | some (.lst ds) => some ds | none => none := rfl
@[simp] theorem listOf_tup : listOf M (.tup ds) = none := rfl
@[simp] theorem isL_lst : isL M (.lst ds) = true := rfl
@[simp] theorem isL_ref : isL M (.ref n) = (match M[n]? with | some (.lst ds) => some ds | none => none : Option (List D)).isSome := rfl
@[simp] theorem gIx_tup : gIx (.tup ds) (.int i) M = match atI ds i with | some d => .ok d M | none => .bad := rfl
@[simp] theorem gIx_lst : gIx (.lst ds) (.int i) M = match atI ds i with | some d => .ok d M | none => .bad := rfl
@[simp] theorem gIx_scr {ns : List Int} : gIx (.scr ns) (.int i) M = match atI (ns.map D.int) i with | some d => .ok d M | none => .bad := rfl
theorem gIx_ref (h : M[n]? = some (.lst ds)) : gIx (.ref n) (.int i) M = match atI ds i with | some d => .ok d M | none => .bad := by
  have e : seqOf M (.ref n) = some ds := by rw [seqOf_ref, h]
  show (match seqOf M (.ref n) with | some ds => (match atI ds i with | some d => Res.ok d M | none => Res.bad) | none => Res.bad) = _
  rw [e]
@[simp] theorem gAdd_int : gAdd (.int i) (.int j) M = .ok (.int (i + j)) M := rfl
@[simp] theorem gAdd_tup : gAdd (.tup ds) (.tup es) M = if few (ds.length + es.length) = true then .ok (.tup (ds ++ es)) M else .bad := rfl
@[simp] theorem gAdd_lst : gAdd (.lst ds) (.lst es) M = if few (ds.length + es.length) = true then .ok (.lst (ds ++ es)) M else .bad := rfl
@[simp] theorem gAdd_str : gAdd (.str a) (.str b) M = if few (a.length + b.length) = true then .ok (.str (a ++ b)) M else .bad := rfl
@[simp] theorem gSub_int : gSub (.int i) (.int j) M = .ok (.int (i - j)) M := rfl
@[simp] theorem gMul_int : gMul (.int i) (.int j) M = if mulOk i j = true then .ok (.int (i * j)) M else .bad := rfl
@[simp] theorem gMul_tup : gMul (.tup ds) (.int i) M = if (thou i && Nat.ble ds.length 1000) = true then .ok (.tup (List.replicate i.toNat ds).flatten) M else .bad := rfl
@[simp] theorem gMul_lst : gMul (.lst ds) (.int i) M = if (thou i && Nat.ble ds.length 1000) = true then .ok (.lst (List.replicate i.toNat ds).flatten) M else .bad := rfl
@[simp] theorem gMod_int : gMod (.int i) (.int j) M = if decide (0 < j) = true then .ok (.int (i % j)) M else .bad := rfl
@[simp] theorem gFdiv_int : gFdiv (.int i) (.int j) M = if (decide (0 < j) && Nat.blt j.natAbs.log2 9000) = true then .ok (.int (i / j)) M else .bad := rfl
@[simp] theorem gCmp_int {f : Int → Int → Bool} : gCmp f (.int i) (.int j) M = .ok (.bl (f i j)) M := rfl
@[simp] theorem gNeg_int : gNeg (.int i) M = .ok (.int (-i)) M := rfl
@[simp] theorem gLen_tup : gLen [.tup ds] M = .ok (.int ds.length) M := rfl
@[simp] theorem gLen_lst : gLen [.lst ds] M = .ok (.int ds.length) M := rfl
@[simp] theorem gLen_scr {ns : List Int} : gLen [.scr ns] M = .ok (.int ns.length) M := by
  show Res.ok (D.int ((ns.map D.int).length : Nat)) M = _
  rw [List.length_map]
theorem gLen_ref (h : M[n]? = some (.lst ds)) : gLen [.ref n] M = .ok (.int ds.length) M := by
  show (match (match M[n]? with | some (.lst ds) => some ds | none => none : Option (List D)) with | some ds => Res.ok (D.int ds.length) M | none => .bad) = _
  rw [h]
@[simp] theorem gTuple_tup : gTuple [.tup ds] M = .ok (.tup ds) M := rfl
@[simp] theorem gTuple_lst : gTuple [.lst ds] M = .ok (.tup ds) M := rfl
theorem gTuple_ref (h : M[n]? = some (.lst ds)) : gTuple [.ref n] M = .ok (.tup ds) M := by
  show (match (match M[n]? with | some (.lst ds) => some ds | none => none : Option (List D)) with | some ds => Res.ok (D.tup ds) M | none => .bad) = _
  rw [h]
@[simp] theorem gList_tup : gList [.tup ds] M = .ok (.lst ds) M := rfl
@[simp] theorem gList_lst : gList [.lst ds] M = .ok (.lst ds) M := rfl
@[simp] theorem gListC_tup : gListC [.tup ds] M = .ok (.ref M.length) (M ++ [.lst ds]) := rfl
@[simp] theorem gListC_lst : gListC [.lst ds] M = .ok (.ref M.length) (M ++ [.lst ds]) := rfl
@[simp] theorem gMax2_int : gMax2 [.int i, .int j] M = .ok (.int (if j > i then j else i)) M := rfl
@[simp] theorem gMin2_int : gMin2 [.int i, .int j] M = .ok (.int (if j < i then j else i)) M := rfl
@[simp] theorem gIter_tup : gIter (.tup ds) M = .ok ⟨ds.map .d, fun _ => true⟩ M := rfl
@[simp] theorem gIter_lst : gIter (.lst ds) M = .ok ⟨ds.map .d, fun _ => true⟩ M := rfl
@[simp] theorem gRange1_int : gRange1 [.int j] M = if mid j = true then .ok ⟨nums 0 j.toNat, fun _ => true⟩ M else .bad := rfl
@[simp] theorem gRange2_int : gRange2 [.int i, .int j] M = if (mid i && mid j) = true then .ok ⟨nums i (j - i).toNat, fun _ => true⟩ M else .bad := rfl
@[simp] theorem gIsN_non {b : Bool} : gIsN b .non .non M = .ok (.bl (!b)) M := rfl
@[simp] theorem gIsN_int {b : Bool} : gIsN b (.int i) .non M = .ok (.bl b) M := rfl
@[simp] theorem gIsN_tup {b : Bool} : gIsN b (.tup ds) .non M = .ok (.bl b) M := rfl
@[simp] theorem gInt_int : gInt [.int i] M = .ok (.int i) M := rfl
@[simp] theorem gInt_bl : gInt [.bl p] M = .ok (.int (if p then 1 else 0)) M := rfl
theorem gAppend_ref {d : D} (h : M[n]? = some (.lst ds)) (hl : ds.length < 16777216) : gAppend (.ref n) [d] M = .ok .non (M.set n (.lst (ds ++ [d]))) := by
  show (match M[n]? with | some (.lst ds) => if Nat.blt ds.length 16777216 = true then Res.ok D.non (M.set n (.lst (ds ++ [d]))) else Res.bad | none => Res.bad) = _
  rw [h]
  dsimp only
  rw [if_pos (by rw [Nat.blt_eq]; exact hl)]
@[simp] theorem put_name {i : Nat} {d : D} {σ : Sa} : (Tg.name i).put (.d d) σ = some (σ.set i (some d)) := rfl
@[simp] theorem put_tup {is : List Nat} {σ : Sa} : (Tg.tup is).put (.d (.tup ds)) σ = if ds.length == is.length then some (setAll σ is ds) else none := rfl
@[simp] theorem put_pr {is : List Nat} {σ : Sa} : (Tg.tup is).put (.pr ds) σ = if ds.length == is.length then some (setAll σ is ds) else none := rfl
theorem atI_nn {α : Type} {xs : List α} {k : Int} (h : 0 ≤ k) : atI xs k = xs[k.toNat]? := by
  unfold atI ixN
  rw [if_pos h]
  by_cases hl : k < (xs.length : Int)
  · rw [if_pos hl]; rfl
  · rw [if_neg hl]
    exact (List.getElem?_eq_none (by omega)).symm
@[simp] theorem atI_0 {α : Type} {x : α} {xs : List α} : atI (x :: xs) 0 = some x := by rw [atI_nn (by decide)]; rfl
@[simp] theorem atI_1 {α : Type} {x y : α} {xs : List α} : atI (x :: y :: xs) 1 = some y := by rw [atI_nn (by decide)]; rfl
@[simp] theorem atI_2 {α : Type} {x y z : α} {xs : List α} : atI (x :: y :: z :: xs) 2 = some z := by rw [atI_nn (by decide)]; rfl
@[simp] theorem gEq_int {b : Bool} : gEq b (.int i) (.int j) M = .ok (.bl (if b = true then !decide (i = j) else decide (i = j))) M := by
  have e : PyData.eqv (.int i) (.int j) = decide (i = j) := by
    simp [PyData.eqv]
    try rfl
  show (if (SeqAt.shaped (.int i) && SeqAt.shaped (.int j)) = true then Res.ok (D.bl (if b = true then !PyData.eqv (.int i) (.int j) else PyData.eqv (.int i) (.int j))) M else Res.bad) = _
  rw [e]
  rfl
end
/-! ### by parts -/
section
variable {σ σ1 : Sa} {M M1 M2 : Mem} {fa fb : F D} {ga gb : F Bool} {s1 s2 : FS} {p q : Bool} {d : D}
theorem and_ev (ha : fa σ M = .ok (.bl p) M) (hb : p = true → fb σ M = .ok (.bl q) M) : fAnd fa fb σ M = .ok (.bl (p && q)) M := by
  rw [ev_and, ha]
  cases p with
  | false => rfl
  | true => exact hb rfl
theorem or_ev (ha : ga σ M = .ok p M) (hb : p = false → gb σ M = .ok q M) : fOrT ga gb σ M = .ok (p || q) M := by
  rw [ev_orT, ha]
  cases p with
  | true => rfl
  | false => exact hb rfl
theorem andT_ev (ha : ga σ M = .ok p M) (hb : p = true → gb σ M = .ok q M) : fAndT ga gb σ M = .ok (p && q) M := by
  rw [ev_andT, ha]
  cases p with
  | false => rfl
  | true => exact hb rfl
theorem not_ev (ha : ga σ M = .ok p M) : fNotT ga σ M = .ok (!p) M := by rw [ev_notT, ha]; rfl
theorem test_ev (ha : fa σ M = .ok (.bl p) M1) : fTest fa σ M = .ok p M1 := by rw [ev_test, ha]; rfl
theorem sif_ev (ha : ga σ M = .ok p M1) : sIf ga s1 s2 σ M = if p = true then s1 σ M1 else s2 σ M1 := by rw [ev_sif, ha]; rfl
theorem seq_nx (h : s1 σ M = .ok (.nx σ1) M1) : sSeq s1 s2 σ M = s2 σ1 M1 := by rw [ev_seq, h]
theorem seq_rt (h : s1 σ M = .ok (.rt d) M1) : sSeq s1 s2 σ M = .ok (.rt d) M1 := by rw [ev_seq, h]
theorem seq_exc {c : Nat} {fs : List (Str × D)} (h : s1 σ M = .exc c fs σ1 M1) : sSeq s1 s2 σ M = .exc c fs σ1 M1 := by rw [ev_seq, h]
theorem set_ev {i : Nat} (h : fa σ M = .ok d M1) : sSet i fa σ M = .ok (.nx (σ.set i (some d))) M1 := by rw [ev_set, h]; rfl
theorem ret_ev (h : fa σ M = .ok d M1) : sRet fa σ M = .ok (.rt d) M1 := by rw [ev_ret, h]; rfl
theorem expr_ev (h : fa σ M = .ok d M1) : sExpr fa σ M = .ok (.nx σ) M1 := by rw [ev_expr, h]; rfl
theorem asg_ev {t : Tg} (h : fa σ M = .ok d M1) (ht : t.put (.d d) σ = some σ1) : sAsg fa t σ M = .ok (.nx σ1) M1 := by rw [ev_asg, h]; simp only [bindS_ok, ht]
theorem call_ev {m : List D → Mem → Res D} {fs : F (List D)} {ds : List D} (h : fs σ M = .ok ds M1) : fCall m fs σ M = m ds M1 := by rw [ev_call, h]; rfl
end
/-! ### a def's run -/
theorem run_rt {n k : Nat} {b : FS} {ds : List D} {M M1 : Mem} {d : D} (hl : ds.length = k) (h : b (startA n ds) M = .ok (.rt d) M1) : runT n k b ds M = trimR M.length (.ok d M1) := by
  unfold runT runD
  rw [h]
  simp [hl]
theorem run_nx {n k : Nat} {b : FS} {ds : List D} {M M1 : Mem} {σ : Sa} (hl : ds.length = k) (h : b (startA n ds) M = .ok (.nx σ) M1) : runT n k b ds M = trimR M.length (.ok .non M1) := by
  unfold runT runD
  rw [h]
  simp [hl]
theorem run_exc {n k c : Nat} {b : FS} {ds : List D} {M M1 : Mem} {σ : Sa} {fs : List (Str × D)} (hl : ds.length = k) (h : b (startA n ds) M = .exc c fs σ M1) : runT n k b ds M = trimR M.length (.exc c fs M1) := by
  unfold runT runD
  rw [h]
  simp [hl]
end QX

set_option maxRecDepth 100000
set_option maxHeartbeats 1000000
namespace QX
open PySem
/- has_parts -/
def b_has_parts : FS :=
  (sRet (fAnd (fCall (gIsi .tuple) (fCons (fVar 0) (fCons (fC (.adr (.ty "tuple"))) fNil))) (fChain (gCmp cLe) (gCmp cLe) (fVar 1) (fCall gLen (fCons (fVar 0) fNil)) (fVar 2))))
def m_has_parts : List D → Mem → Res D := runT 3 3 b_has_parts

/- is_whole -/
def b_is_whole : FS :=
  (sRet (fAnd (fCall (gIsi .int) (fCons (fVar 0) (fCons (fC (.adr (.ty "int"))) fNil))) (fNot (fCall (gIsi .bool) (fCons (fVar 0) (fCons (fC (.adr (.ty "bool"))) fNil))))))
def m_is_whole : List D → Mem → Res D := runT 1 1 b_is_whole

/- is_within -/
def b_is_within : FS :=
  (sRet (fAnd (fCall m_is_whole (fCons (fVar 0) fNil)) (fChain (gCmp cLe) (gCmp cLe) (fVar 1) (fVar 0) (fVar 2))))
def m_is_within : List D → Mem → Res D := runT 3 3 b_is_within

/- is_step -/
def b_is_step : FS :=
  (sRet (fAnd (fCall m_has_parts (fCons (fVar 0) (fCons (fC (.int 0)) (fCons (fC (.int 3)) fNil)))) (fCall gAll (fCons (fTrim (fCompC (fIter (fVar 0)) [2] (.name 2) fYes (fCall m_is_within (fCons (fVar 2) (fCons (fC (.int 0)) (fCons (fBin gSub (fVar 1) (fC (.int 1))) fNil)))))) fNil))))
def m_is_step : List D → Mem → Res D := runT 3 2 b_is_step

/- is_wheel -/
def b_is_wheel : FS :=
  (sRet (fAnd (fCall m_has_parts (fCons (fVar 0) (fCons (fC (.int 1)) (fCons (fC (.int 4)) fNil)))) (fCall gAll (fCons (fTrim (fCompC (fIter (fVar 0)) [2] (.name 2) fYes (fCall m_is_step (fCons (fVar 2) (fCons (fVar 1) fNil))))) fNil))))
def m_is_wheel : List D → Mem → Res D := runT 3 2 b_is_wheel

/- is_board -/
def b_is_board : FS :=
  (sSeq (sIf (fNotT (fTest (fCall m_has_parts (fCons (fVar 0) (fCons (fC (.int 2)) (fCons (fC (.int 2)) fNil))))))
  (sRet (fC (.bl false)))
  sNext)
  (sSeq (sAsg (fVar 0) (.tup [1, 2]))
  (sSeq (sIf (fOrT (fNotT (fTest (fCall m_has_parts (fCons (fVar 1) (fCons (fC (.int 1)) (fCons (fC (.int 6)) fNil)))))) (fNotT (fTest (fCall m_is_within (fCons (fVar 2) (fCons (fC (.int 0)) (fCons (fC (.int 4)) fNil)))))))
  (sRet (fC (.bl false)))
  sNext)
  (sSeq (sSet 3 (fBin gAdd (fCall gLen (fCons (fVar 1) fNil)) (fVar 2)))
  (sRet (fCall gAll (fCons (fTrim (fCompC (fIter (fVar 1)) [4] (.name 4) fYes (fCall m_is_wheel (fCons (fVar 4) (fCons (fVar 3) fNil))))) fNil)))))))
def m_is_board : List D → Mem → Res D := runT 5 1 b_is_board

/- need_board -/
def b_need_board : FS :=
  (sIf (fNotT (fTest (fCall m_is_board (fCons (fVar 0) fNil))))
  (sRaise 0)
  sNext)
def m_need_board : List D → Mem → Res D := runT 1 1 b_need_board

/- is_wheel_number -/
def b_is_wheel_number : FS :=
  (sRet (fCall m_is_within (fCons (fVar 1) (fCons (fC (.int 0)) (fCons (fBin gSub (fCall gLen (fCons (fBin gIx (fVar 0) (fC (.int 0))) fNil)) (fC (.int 1))) fNil)))))
def m_is_wheel_number : List D → Mem → Res D := runT 2 2 b_is_wheel_number

/- _law_cell_at -/
def b_law_cell_at_e50a56 : FS :=
  (sSeq (sIf (fTest (fBin (gCmp cLt) (fVar 1) (fCall gLen (fCons (fVar 0) fNil))))
  (sRet (fBin gIx (fVar 0) (fVar 1)))
  sNext)
  (sRet (fC (.int 0))))
def m_law_cell_at_e50a56 : List D → Mem → Res D := runT 2 2 b_law_cell_at_e50a56

/- _law_pen -/
def b_law_pen_579b16 : FS :=
  (sRet (fNew (fCons (fCall gMax2 (fCons (fC (.int 0)) (fCons (fBin gSub (fVar 0) (fBin gPow (fC (.int 10)) (fC (.int 18)))) fNil))) (fCons (fBin gMod (fVar 0) (fC (.int 1000000007))) (fCons (fC (.int 0)) fNil)))))
def m_law_pen_579b16 : List D → Mem → Res D := runD 1 1 b_law_pen_579b16

/- _law_draw -/
def b_law_draw_321cf4 : FS :=
  (sSeq (sIf (fTest (fBin (gCmp cGt) (fBin gIx (fVar 0) (fC (.int 0))) (fC (.int 0))))
  (sSeq (sSet 2 (fBin gMod (fBin gIx (fVar 0) (fC (.int 0))) (fVar 1)))
  (sSeq (sSetIx (fVar 0) (fC (.int 0)) (fBin gFdiv (fBin gIx (fVar 0) (fC (.int 0))) (fVar 1)))
  (sRet (fVar 2))))
  sNext)
  (sSeq (sSetIx (fVar 0) (fC (.int 2)) (fBin gAdd (fBin gIx (fVar 0) (fC (.int 2))) (fC (.int 1))))
  (sSeq (sSet 3 (fBin gMod (fBin gMul (fBin gAdd (fBin gIx (fVar 0) (fC (.int 1))) (fBin gMul (fC (.int 17)) (fBin gIx (fVar 0) (fC (.int 2))))) (fBin gAdd (fC (.int 69621)) (fBin gMul (fC (.int 2)) (fBin gIx (fVar 0) (fC (.int 2)))))) (fC (.int 2147483647))))
  (sSeq (sSet 3 (fBin gMod (fBin gAdd (fBin gAdd (fBin gMul (fVar 3) (fVar 3)) (fBin gMul (fC (.int 40503)) (fBin gIx (fVar 0) (fC (.int 2))))) (fC (.int 5))) (fC (.int 2147483629))))
  (sRet (fBin gMod (fBin gFdiv (fBin gMod (fBin gMul (fVar 3) (fC (.int 48271))) (fC (.int 2147483647))) (fC (.int 32))) (fVar 1)))))))
def m_law_draw_321cf4 : List D → Mem → Res D := runT 4 2 b_law_draw_321cf4

/- _law_any_board -/
def b_law_any_board_7df546 : FS :=
  (sSeq (sAsg (fTup (fCons (fBin gAdd (fC (.int 1)) (fCall m_law_draw_321cf4 (fCons (fVar 0) (fCons (fVar 1) fNil)))) (fCons (fCall m_law_draw_321cf4 (fCons (fVar 0) (fCons (fBin gAdd (fVar 2) (fC (.int 1))) fNil))) fNil))) (.tup [3, 2]))
  (sSeq (sSet 4 (fNew fNil))
  (sSeq (sFor (fIt gRange1 (fCons (fVar 3) fNil)) (.name 5)
  (sSeq (sSet 6 (fNew fNil))
  (sSeq (sFor (fIt gRange1 (fCons (fBin gAdd (fC (.int 1)) (fCall m_law_draw_321cf4 (fCons (fVar 0) (fCons (fC (.int 4)) fNil)))) fNil)) (.name 7)
  (sSeq (sSet 8 (fTrim (fCompC (fIt gRange1 (fCons (fBin gIx (fLst (fCons (fC (.int 1)) (fCons (fC (.int 1)) (fCons (fC (.int 2)) (fCons (fC (.int 0)) (fCons (fC (.int 3)) fNil)))))) (fCall m_law_draw_321cf4 (fCons (fVar 0) (fCons (fC (.int 5)) fNil)))) fNil)) [9] (.name 9) fYes (fCall m_law_draw_321cf4 (fCons (fVar 0) (fCons (fBin gAdd (fVar 3) (fVar 2)) fNil))))))
  (sExpr (fMeth gAppend (fVar 6) (fCons (fCall gTuple (fCons (fTrim (fCompC (fIter (fVar 8)) [10] (.name 10) fYes (fIf (fAndT (fTest (fBin (gCmp cGt) (fVar 2) (fC (.int 0)))) (fTest (fBin (gEq false) (fCall m_law_draw_321cf4 (fCons (fVar 0) (fCons (fC (.int 3)) fNil))) (fC (.int 0))))) (fBin gAdd (fVar 3) (fBin gMod (fVar 10) (fVar 2))) (fVar 10)))) fNil)) fNil)))))
  (sExpr (fMeth gAppend (fVar 4) (fCons (fCall gTuple (fCons (fVar 6) fNil)) fNil))))))
  (sRet (fTup (fCons (fCall gTuple (fCons (fVar 4) fNil)) (fCons (fVar 2) fNil)))))))
def m_law_any_board_7df546 : List D → Mem → Res D := runT 11 3 b_law_any_board_7df546

/- need_few -/
def b_need_few : FS :=
  (sIf (fTest (fBin (gCmp cGt) (fVar 0) (fVar 1)))
  sNever
  sNext)
def m_need_few : List D → Mem → Res D := runT 2 2 b_need_few

/- renumbered -/
def b_renumbered : FS :=
  (sRet (fCall gTuple (fCons (fTrim (fCompC (fIter (fVar 0)) [2] (.name 2) fYes (fCall gTuple (fCons (fTrim (fCompC (fIter (fVar 2)) [3] (.name 3) fYes (fCall gTuple (fCons (fTrim (fCompC (fIter (fVar 3)) [4] (.name 4) fYes (fBin gIx (fVar 1) (fVar 4)))) fNil)))) fNil)))) fNil)))
def m_renumbered : List D → Mem → Res D := runT 5 2 b_renumbered

/- are_links -/
def b_are_links : FS :=
  (sSeq (sSet 3 (fBin gIx (fVar 0) (fC (.int 1))))
  (sRet (fAnd (fCall m_has_parts (fCons (fVar 2) (fCons (fVar 3) (fCons (fVar 3) fNil)))) (fCall gAll (fCons (fTrim (fCompC (fIter (fVar 2)) [4] (.name 4) fYes (fOr (fBin (gIsN false) (fVar 4) (fC .non)) (fCall m_is_wheel_number (fCons (fVar 1) (fCons (fVar 4) fNil)))))) fNil)))))
def m_are_links : List D → Mem → Res D := runT 5 3 b_are_links

/- ends_of_first -/
def b_ends_of_first : FS :=
  (sSeq (sSet 3 (fCall gLen (fCons (fBin gIx (fVar 0) (fC (.int 0))) fNil)))
  (sSeq (sSet 4 (fBin gAdd (fVar 3) (fCall gLen (fCons (fBin gIx (fVar 1) (fC (.int 0))) fNil))))
  (sSeq (sSet 5 (fListRg1 true (fVar 3)))
  (sSeq (sFor (fIter (fVar 2)) (.name 6)
  (sIf (fTest (fBin (gIsN false) (fVar 6) (fC .non)))
  (sSeq (sExpr (fMeth gAppend (fVar 5) (fCons (fVar 4) fNil)))
  (sAug 4 (gAug false) (fC (.int 1))))
  (sExpr (fMeth gAppend (fVar 5) (fCons (fBin gAdd (fVar 3) (fVar 6)) fNil)))))
  (sRet (fVar 5))))))
def m_ends_of_first : List D → Mem → Res D := runT 7 3 b_ends_of_first

/- ends_of_second -/
def b_ends_of_second : FS :=
  (sSeq (sSet 3 (fCall gLen (fCons (fBin gIx (fVar 0) (fC (.int 0))) fNil)))
  (sSeq (sSet 4 (fBin gAdd (fBin gAdd (fVar 3) (fCall gLen (fCons (fBin gIx (fVar 1) (fC (.int 0))) fNil))) (fCountT (fVar 2) (fCons (fC .non) fNil))))
  (sRet (fBin gAdd (fListRg false (fVar 3) (fBin gAdd (fVar 3) (fCall gLen (fCons (fBin gIx (fVar 1) (fC (.int 0))) fNil)))) (fListRg false (fVar 4) (fBin gAdd (fVar 4) (fBin gIx (fVar 1) (fC (.int 1)))))))))
def m_ends_of_second : List D → Mem → Res D := runT 5 3 b_ends_of_second

/- joined -/
def b_joined : FS :=
  (sSeq (sExpr (fCall m_need_board (fCons (fVar 0) fNil)))
  (sSeq (sExpr (fCall m_need_board (fCons (fVar 1) fNil)))
  (sSeq (sIf (fNotT (fTest (fCall m_are_links (fCons (fVar 0) (fCons (fVar 1) (fCons (fVar 2) fNil))))))
  (sRaise 10)
  sNext)
  (sSeq (sSet 3 (fBin gAdd (fCountT (fVar 2) (fCons (fC .non) fNil)) (fBin gIx (fVar 1) (fC (.int 1)))))
  (sSeq (sExpr (fCall m_need_few (fCons (fBin gAdd (fCall gLen (fCons (fBin gIx (fVar 0) (fC (.int 0))) fNil)) (fCall gLen (fCons (fBin gIx (fVar 1) (fC (.int 0))) fNil))) (fCons (fC (.int 6)) fNil))))
  (sSeq (sExpr (fCall m_need_few (fCons (fVar 3) (fCons (fC (.int 4)) fNil))))
  (sSeq (sSet 4 (fCall m_renumbered (fCons (fBin gIx (fVar 0) (fC (.int 0))) (fCons (fCall m_ends_of_first (fCons (fVar 0) (fCons (fVar 1) (fCons (fVar 2) fNil)))) fNil))))
  (sSeq (sSet 5 (fCall m_renumbered (fCons (fBin gIx (fVar 1) (fC (.int 0))) (fCons (fCall m_ends_of_second (fCons (fVar 0) (fCons (fVar 1) (fCons (fVar 2) fNil)))) fNil))))
  (sRet (fTup (fCons (fBin gAdd (fVar 4) (fVar 5)) (fCons (fVar 3) fNil))))))))))))
def m_joined : List D → Mem → Res D := runT 6 3 b_joined
end QX

set_option maxRecDepth 100000
set_option maxHeartbeats 1000000
namespace QX
open PySem
/- is_stand -/
def b_is_stand : FS :=
  (sSeq (sExpr (fCall m_need_board (fCons (fVar 0) fNil)))
  (sSeq (sSet 2 (fBin gIx (fVar 0) (fC (.int 0))))
  (sSeq (sIf (fNotT (fTest (fCall m_has_parts (fCons (fVar 1) (fCons (fCall gLen (fCons (fVar 2) fNil)) (fCons (fCall gLen (fCons (fVar 2) fNil)) fNil))))))
  (sRet (fC (.bl false)))
  sNext)
  (sRet (fCall gAll (fCons (fTrim (fCompC (fIt gZip2 (fCons (fVar 1) (fCons (fVar 2) fNil))) [3, 4] (.tup [3, 4]) fYes (fCall m_is_within (fCons (fVar 3) (fCons (fC (.int 0)) (fCons (fBin gSub (fCall gLen (fCons (fVar 4) fNil)) (fC (.int 1))) fNil)))))) fNil))))))
def m_is_stand : List D → Mem → Res D := runT 5 2 b_is_stand

/- are_marbles -/
def b_are_marbles : FS :=
  (sRet (fAnd (fCall m_has_parts (fCons (fVar 0) (fCons (fVar 1) (fCons (fVar 1) fNil)))) (fCall gAll (fCons (fTrim (fCompC (fIter (fVar 0)) [2] (.name 2) fYes (fAnd (fCall m_is_whole (fCons (fVar 2) fNil)) (fBin (gCmp cGe) (fVar 2) (fC (.int 0)))))) fNil))))
def m_are_marbles : List D → Mem → Res D := runT 3 2 b_are_marbles

/- is_moment -/
def b_is_moment : FS :=
  (sSeq (sExpr (fCall m_need_board (fCons (fVar 0) fNil)))
  (sSeq (sIf (fNotT (fTest (fCall m_has_parts (fCons (fVar 1) (fCons (fC (.int 3)) (fCons (fC (.int 3)) fNil))))))
  (sRet (fC (.bl false)))
  sNext)
  (sSeq (sAsg (fVar 0) (.tup [2, 3]))
  (sSeq (sAsg (fVar 1) (.tup [4, 5, 6]))
  (sRet (fAnd (fCall m_is_stand (fCons (fVar 0) (fCons (fVar 4) fNil))) (fAnd (fCall m_are_marbles (fCons (fVar 5) (fCons (fCall gLen (fCons (fVar 2) fNil)) fNil))) (fCall m_are_marbles (fCons (fVar 6) (fCons (fVar 3) fNil))))))))))
def m_is_moment : List D → Mem → Res D := runT 7 2 b_is_moment

/- need_moment -/
def b_need_moment : FS :=
  (sIf (fNotT (fTest (fCall m_is_moment (fCons (fVar 0) (fCons (fVar 1) fNil)))))
  (sRaise 2)
  sNext)
def m_need_moment : List D → Mem → Res D := runT 2 2 b_need_moment

/- loosened -/
def b_loosened : FS :=
  (sSeq (sAsg (fVar 0) (.tup [1, 2, 3]))
  (sRet (fTup (fCons (fCall gListC (fCons (fVar 1) fNil)) (fCons (fCall gListC (fCons (fVar 2) fNil)) (fCons (fCall gListC (fCons (fVar 3) fNil)) fNil))))))
def m_loosened : List D → Mem → Res D := runD 4 1 b_loosened

/- fastened -/
def b_fastened : FS :=
  (sRet (fTup (fCons (fCall gTuple (fCons (fVar 0) fNil)) (fCons (fCall gTuple (fCons (fVar 1) fNil)) (fCons (fCall gTuple (fCons (fVar 2) fNil)) fNil)))))
def m_fastened : List D → Mem → Res D := runT 3 3 b_fastened

/- handle_marble -/
def b_handle_marble : FS :=
  (sSeq (sSet 3 (fBin gIx (fVar 0) (fC (.int 0))))
  (sSeq (sAsg (fVar 1) (.tup [4, 5, 6]))
  (sSeq (sSet 7 (fBin gIx (fVar 4) (fVar 2)))
  (sSeq (sAugIx (fVar 5) (fVar 2) (fC (.int 1)) (gAug true))
  (sSeq (sFor (fIter (fBin gIx (fBin gIx (fVar 3) (fVar 2)) (fVar 7))) (.name 8)
  (sIf (fTest (fBin (gCmp cLt) (fVar 8) (fCall gLen (fCons (fVar 3) fNil))))
  (sAugIx (fVar 5) (fVar 8) (fC (.int 1)) (gAug false))
  (sAugIx (fVar 6) (fBin gSub (fVar 8) (fCall gLen (fCons (fVar 3) fNil))) (fC (.int 1)) (gAug false))))
  (sSetIx (fVar 4) (fVar 2) (fBin gMod (fBin gAdd (fVar 7) (fC (.int 1))) (fCall gLen (fCons (fBin gIx (fVar 3) (fVar 2)) fNil)))))))))
def m_handle_marble : List D → Mem → Res D := runT 9 3 b_handle_marble

/- is_row -/
def b_is_row : FS :=
  (sRet (fAnd (fCall (gIsi .tuple) (fCons (fVar 1) (fCons (fC (.adr (.ty "tuple"))) fNil))) (fCall gAll (fCons (fTrim (fCompC (fIter (fVar 1)) [2] (.name 2) fYes (fCall m_is_wheel_number (fCons (fVar 0) (fCons (fVar 2) fNil))))) fNil))))
def m_is_row : List D → Mem → Res D := runT 3 2 b_is_row

/- need_row -/
def b_need_row : FS :=
  (sIf (fNotT (fTest (fCall m_is_row (fCons (fVar 0) (fCons (fVar 1) fNil)))))
  (sRaise 5)
  sNext)
def m_need_row : List D → Mem → Res D := runT 2 2 b_need_row

/- walked -/
def b_walked : FS :=
  (sSeq (sAsg (fCall m_loosened (fCons (fVar 1) fNil)) (.tup [3, 4, 5]))
  (sSeq (sFor (fIt gEnum (fCons (fVar 2) fNil)) (.tup [6, 7])
  (sSeq (sIf (fTest (fBin (gEq false) (fBin gIx (fVar 4) (fVar 7)) (fC (.int 0))))
  (sRet (fTup (fCons (fVar 6) (fCons (fCall m_fastened (fCons (fVar 3) (fCons (fVar 4) (fCons (fVar 5) fNil)))) fNil))))
  sNext)
  (sExpr (fCall m_handle_marble (fCons (fVar 0) (fCons (fTup (fCons (fVar 3) (fCons (fVar 4) (fCons (fVar 5) fNil)))) (fCons (fVar 7) fNil)))))))
  (sRet (fTup (fCons (fC .non) (fCons (fCall m_fastened (fCons (fVar 3) (fCons (fVar 4) (fCons (fVar 5) fNil)))) fNil))))))
def m_walked : List D → Mem → Res D := runT 8 3 b_walked

/- first_wrong -/
def b_first_wrong : FS :=
  (sSeq (sExpr (fCall m_need_moment (fCons (fVar 0) (fCons (fVar 1) fNil))))
  (sSeq (sExpr (fCall m_need_row (fCons (fVar 0) (fCons (fVar 2) fNil))))
  (sRet (fBin gIx (fCall m_walked (fCons (fVar 0) (fCons (fVar 1) (fCons (fVar 2) fNil)))) (fC (.int 0))))))
def m_first_wrong : List D → Mem → Res D := runT 3 3 b_first_wrong

/- behind -/
def b_behind : FS :=
  (sSeq (sExpr (fCall m_need_moment (fCons (fVar 0) (fCons (fVar 1) fNil))))
  (sSeq (sExpr (fCall m_need_row (fCons (fVar 0) (fCons (fVar 2) fNil))))
  (sSeq (sAsg (fCall m_walked (fCons (fVar 0) (fCons (fVar 1) (fCons (fVar 2) fNil)))) (.tup [3, 4]))
  (sSeq (sIf (fTest (fBin (gIsN true) (fVar 3) (fC .non)))
  (sRaise 5)
  sNext)
  (sRet (fVar 4))))))
def m_behind : List D → Mem → Res D := runT 5 3 b_behind

/- _law_pick -/
def b_law_pick_03ff2a : FS :=
  (sRet (fBin gIx (fVar 1) (fCall m_law_draw_321cf4 (fCons (fVar 0) (fCons (fCall gLen (fCons (fVar 1) fNil)) fNil)))))
def m_law_pick_03ff2a : List D → Mem → Res D := runT 2 2 b_law_pick_03ff2a

/- _law_board -/
def b_law_board_049704 : FS :=
  (sSeq (sPar 2 3 (fCons (fBin gAdd (fC (.int 1)) (fCall m_law_draw_321cf4 (fCons (fVar 0) (fCons (fVar 1) fNil)))) (fCons (fCall m_law_draw_321cf4 (fCons (fVar 0) (fCons (fC (.int 4)) fNil))) fNil)))
  (sSeq (sSet 4 (fNew fNil))
  (sSeq (sFor (fIt gRange1 (fCons (fVar 2) fNil)) (.name 5)
  (sSeq (sSet 6 (fNew fNil))
  (sSeq (sFor (fIt gRange1 (fCons (fBin gAdd (fC (.int 1)) (fCall m_law_draw_321cf4 (fCons (fVar 0) (fCons (fC (.int 4)) fNil)))) fNil)) (.name 7)
  (sSeq (sSet 8 (fNew fNil))
  (sSeq (sFor (fIt gRange1 (fCons (fBin gIx (fLst (fCons (fC (.int 0)) (fCons (fC (.int 1)) (fCons (fC (.int 1)) (fCons (fC (.int 2)) (fCons (fC (.int 3)) fNil)))))) (fCall m_law_draw_321cf4 (fCons (fVar 0) (fCons (fC (.int 5)) fNil)))) fNil)) (.name 9)
  (sSeq (sSet 10 (fIf (fTest (fBin (gCmp cGt) (fCall m_law_draw_321cf4 (fCons (fVar 0) (fCons (fC (.int 4)) fNil))) (fC (.int 0)))) (fBin gAdd (fBin gAdd (fVar 5) (fC (.int 1))) (fCall m_law_draw_321cf4 (fCons (fVar 0) (fCons (fC (.int 3)) fNil)))) (fCall m_law_draw_321cf4 (fCons (fVar 0) (fCons (fBin gAdd (fVar 2) (fVar 3)) fNil)))))
  (sExpr (fMeth gAppend (fVar 8) (fCons (fCall gMin2 (fCons (fVar 10) (fCons (fCall gMax2 (fCons (fC (.int 0)) (fCons (fBin gSub (fBin gAdd (fVar 2) (fVar 3)) (fC (.int 1))) fNil))) fNil))) fNil)))))
  (sExpr (fMeth gAppend (fVar 6) (fCons (fCall gTuple (fCons (fVar 8) fNil)) fNil))))))
  (sExpr (fMeth gAppend (fVar 4) (fCons (fCall gTuple (fCons (fVar 6) fNil)) fNil))))))
  (sRet (fTup (fCons (fCall gTuple (fCons (fVar 4) fNil)) (fCons (fVar 3) fNil)))))))
def m_law_board_049704 : List D → Mem → Res D := runT 11 2 b_law_board_049704

/- _law_moment -/
def b_law_moment_271a78 : FS :=
  (sSeq (sSet 3 (fCall gTuple (fCons (fTrim (fCompC (fIter (fBin gIx (fVar 1) (fC (.int 0)))) [5] (.name 5) fYes (fCall m_law_draw_321cf4 (fCons (fVar 0) (fCons (fCall gLen (fCons (fVar 5) fNil)) fNil))))) fNil)))
  (sSeq (sSet 4 (fCall gTuple (fCons (fTrim (fCompC (fIter (fBin gIx (fVar 1) (fC (.int 0)))) [5] (.name 5) fYes (fBin gIx (fLst (fCons (fC (.int 0)) (fCons (fC (.int 1)) (fCons (fCall m_law_draw_321cf4 (fCons (fVar 0) (fCons (fBin gAdd (fVar 2) (fC (.int 1))) fNil))) fNil)))) (fCall m_law_draw_321cf4 (fCons (fVar 0) (fCons (fC (.int 3)) fNil)))))) fNil)))
  (sRet (fTup (fCons (fVar 3) (fCons (fVar 4) (fCons (fCall gTuple (fCons (fTrim (fCompC (fIt gRange1 (fCons (fBin gIx (fVar 1) (fC (.int 1))) fNil)) [6] (.name 6) fYes (fCall m_law_draw_321cf4 (fCons (fVar 0) (fCons (fC (.int 3)) fNil))))) fNil)) fNil)))))))
def m_law_moment_271a78 : List D → Mem → Res D := runT 7 3 b_law_moment_271a78

/- _law_handle -/
def b_law_handle_699149 : FS :=
  (sSeq (sAsg (fVar 0) (.tup [3, 4]))
  (sSeq (sAsgL (fCompC (fIter (fVar 1)) [9] (.name 9) fYes (fCall gListC (fCons (fVar 9) fNil))) [5, 6, 7])
  (sSeq (sSetIx (fVar 6) (fVar 2) (fBin gSub (fBin gIx (fVar 6) (fVar 2)) (fC (.int 1))))
  (sSeq (sFor (fIter (fBin gIx (fBin gIx (fVar 3) (fVar 2)) (fBin gIx (fVar 5) (fVar 2)))) (.name 8)
  (sIf (fTest (fBin (gCmp cGe) (fVar 8) (fCall gLen (fCons (fVar 3) fNil))))
  (sSetIx (fVar 7) (fBin gSub (fVar 8) (fCall gLen (fCons (fVar 3) fNil))) (fBin gAdd (fBin gIx (fVar 7) (fBin gSub (fVar 8) (fCall gLen (fCons (fVar 3) fNil)))) (fC (.int 1))))
  (sSetIx (fVar 6) (fVar 8) (fBin gAdd (fBin gIx (fVar 6) (fVar 8)) (fC (.int 1))))))
  (sSeq (sSetIx (fVar 5) (fVar 2) (fBin gAdd (fBin gIx (fVar 5) (fVar 2)) (fC (.int 1))))
  (sSeq (sIf (fTest (fBin (gEq false) (fBin gIx (fVar 5) (fVar 2)) (fCall gLen (fCons (fBin gIx (fVar 3) (fVar 2)) fNil))))
  (sSetIx (fVar 5) (fVar 2) (fC (.int 0)))
  sNext)
  (sRet (fTup (fCons (fCall gTuple (fCons (fVar 5) fNil)) (fCons (fCall gTuple (fCons (fVar 6) fNil)) (fCons (fCall gTuple (fCons (fVar 7) fNil)) fNil)))))))))))
def m_law_handle_699149 : List D → Mem → Res D := runT 10 3 b_law_handle_699149

/- _law_ready -/
def b_law_ready_29f393 : FS :=
  (sRet (fTrim (fCompC (fIt gEnum (fCons (fBin gIx (fVar 0) (fC (.int 1))) fNil)) [1, 2] (.tup [1, 2]) (fTest (fBin (gCmp cGt) (fVar 2) (fC (.int 0)))) (fVar 1))))
def m_law_ready_29f393 : List D → Mem → Res D := runT 3 1 b_law_ready_29f393

/- _law_let_row -/
def b_law_let_row_b47afa : FS :=
  (sSeq (sSet 4 (fNew fNil))
  (sSeq (sFor (fIt gRange1 (fCons (fVar 3) fNil)) (.name 5)
  (sSeq (sSet 6 (fCall m_law_ready_29f393 (fCons (fVar 2) fNil)))
  (sIf (fTest (fBin (gEq true) (fVar 6) (fLst fNil)))
  (sSeq (sExpr (fMeth gAppend (fVar 4) (fCons (fCall m_law_pick_03ff2a (fCons (fVar 0) (fCons (fVar 6) fNil))) fNil)))
  (sSet 2 (fCall m_law_handle_699149 (fCons (fVar 1) (fCons (fVar 2) (fCons (fBin gIx (fVar 4) (fUn gNeg (fC (.int 1)))) fNil))))))
  sNext)))
  (sRet (fTup (fCons (fCall gTuple (fCons (fVar 4) fNil)) (fCons (fVar 2) fNil))))))
def m_law_let_row_b47afa : List D → Mem → Res D := runT 7 4 b_law_let_row_b47afa
end QX

set_option maxRecDepth 100000
set_option maxHeartbeats 1000000
namespace QX
open PySem
/- _law_mixed -/
def b_law_mixed_84cada : FS :=
  (sSeq (sSet 2 (fCall gListC (fCons (fVar 1) fNil)))
  (sRet (fTrim (fCompC (fIter (fVar 1)) [3] (.name 3) fYes (fMeth gPopAt (fVar 2) (fCons (fCall m_law_draw_321cf4 (fCons (fVar 0) (fCons (fCall gLen (fCons (fVar 2) fNil)) fNil))) fNil))))))
def m_law_mixed_84cada : List D → Mem → Res D := runT 4 2 b_law_mixed_84cada

/- _law_ends -/
def b_law_ends_55b70f : FS :=
  (sSeq (sSet 1 (fNew fNil))
  (sSeq (sFor (fIter (fVar 0)) (.name 2)
  (sExpr (fMeth gExtend (fVar 1) (fCons (fCall gList (fCons (fVar 2) fNil)) fNil))))
  (sRet (fVar 1))))
def m_law_ends_55b70f : List D → Mem → Res D := runT 3 1 b_law_ends_55b70f

/- _law_table -/
def b_law_table_77c86a : FS :=
  (sSeq (sAsg (fTup (fCons (fBin gIx (fVar 0) (fC (.int 0))) (fCons (fNew fNil) fNil))) (.tup [1, 2]))
  (sSeq (sFor (fIt gEnum (fCons (fVar 1) fNil)) (.tup [3, 4])
  (sSeq (sSet 5 (fBin gMulC (fLst (fCons (fC (.int 0)) fNil)) (fCall gLen (fCons (fVar 1) fNil))))
  (sSeq (sSetIx (fVar 5) (fVar 3) (fCall gLen (fCons (fVar 4) fNil)))
  (sSeq (sFor (fIter (fTrim (fCompC (fIter (fCall m_law_ends_55b70f (fCons (fVar 4) fNil))) [6] (.name 6) (fTest (fBin (gCmp cLt) (fVar 6) (fCall gLen (fCons (fVar 1) fNil)))) (fVar 6)))) (.name 6)
  (sSetIx (fVar 5) (fVar 6) (fBin gSub (fBin gIx (fVar 5) (fVar 6)) (fC (.int 1)))))
  (sExpr (fMeth gAppend (fVar 2) (fCons (fVar 5) fNil)))))))
  (sRet (fVar 2))))
def m_law_table_77c86a : List D → Mem → Res D := runD 7 1 b_law_table_77c86a

/- _law_falls -/
def b_law_falls_be901f : FS :=
  (sSeq (sAsg (fTup (fCons (fCall m_law_table_77c86a (fCons (fVar 0) fNil)) (fCons (fC (.int 1)) fNil))) (.tup [1, 2]))
  (sSeq (sFor (fIt gRange1 (fCons (fCall gLen (fCons (fVar 1) fNil)) fNil)) (.name 3)
  (sSeq (sSet 4 (fBin gIx (fBin gIx (fVar 1) (fVar 3)) (fVar 3)))
  (sSeq (sIf (fTest (fBin (gCmp cLe) (fVar 4) (fC (.int 0))))
  (sRet (fC (.bl false)))
  sNext)
  (sSeq (sFor (fIt gRange2 (fCons (fBin gAdd (fVar 3) (fC (.int 1))) (fCons (fCall gLen (fCons (fVar 1) fNil)) fNil))) (.name 5)
  (sSeq (sSet 6 (fBin gIx (fBin gIx (fVar 1) (fVar 5)) (fVar 3)))
  (sSetIx (fVar 1) (fVar 5) (fTrim (fCompC (fIt gZip2 (fCons (fBin gIx (fVar 1) (fVar 3)) (fCons (fBin gIx (fVar 1) (fVar 5)) fNil))) [7, 8] (.tup [7, 8]) fYes (fBin gFdiv (fBin gSub (fBin gMul (fVar 8) (fVar 4)) (fBin gMul (fVar 7) (fVar 6))) (fVar 2)))))))
  (sSet 2 (fVar 4))))))
  (sRet (fC (.bl true)))))
def m_law_falls_be901f : List D → Mem → Res D := runT 9 1 b_law_falls_be901f

/- _law_without -/
def b_law_without_7f3b33 : FS :=
  (sSeq (sSet 3 (fCall gListC (fCons (fBin gIx (fVar 0) (fC (.int 0))) fNil)))
  (sSeq (sSetIx (fVar 3) (fVar 1) (fBin gAdd (fBin gAdd (fSl (fBin gIx (fVar 3) (fVar 1)) fNoPart (fPart (fVar 2))) (fTup (fCons (fTup fNil) fNil))) (fSl (fBin gIx (fVar 3) (fVar 1)) (fPart (fBin gAdd (fVar 2) (fC (.int 1)))) fNoPart)))
  (sRet (fTup (fCons (fCall gTuple (fCons (fVar 3) fNil)) (fCons (fBin gIx (fVar 0) (fC (.int 1))) fNil))))))
def m_law_without_7f3b33 : List D → Mem → Res D := runT 4 3 b_law_without_7f3b33

/- _law_drained -/
def b_law_drained_b440a9 : FS :=
  (sSeq (sSet 2 (fLst fNil))
  (sSeq (sFor (fIt gEnum (fCons (fBin gIx (fVar 1) (fC (.int 0))) fNil)) (.tup [3, 4])
  (sSet 2 (fBin gAdd (fVar 2) (fTrim (fCompC (fIt gRange1 (fCons (fCall gLen (fCons (fVar 4) fNil)) fNil)) [5] (.name 5) fYes (fTup (fCons (fVar 3) (fCons (fVar 5) fNil))))))))
  (sSeq (sFor (fIter (fCall m_law_mixed_84cada (fCons (fVar 0) (fCons (fVar 2) fNil)))) (.tup [3, 5])
  (sIf (fNotT (fTest (fCall m_law_falls_be901f (fCons (fVar 1) fNil))))
  (sSet 1 (fCall m_law_without_7f3b33 (fCons (fVar 1) (fCons (fVar 3) (fCons (fVar 5) fNil)))))
  sNext))
  (sRet (fVar 1)))))
def m_law_drained_b440a9 : List D → Mem → Res D := runT 6 2 b_law_drained_b440a9

/- _law_board -/
def b_law_board_8f2c56 : FS :=
  (sRet (fCall m_law_drained_b440a9 (fCons (fVar 0) (fCons (fCall m_law_any_board_7df546 (fCons (fVar 0) (fCons (fVar 1) (fCons (fVar 2) fNil)))) fNil))))
def m_law_board_8f2c56 : List D → Mem → Res D := runT 3 3 b_law_board_8f2c56

/- _law_stand -/
def b_law_stand_d4b1d3 : FS :=
  (sRet (fCall gTuple (fCons (fTrim (fCompC (fIter (fBin gIx (fVar 1) (fC (.int 0)))) [2] (.name 2) fYes (fCall m_law_draw_321cf4 (fCons (fVar 0) (fCons (fCall gLen (fCons (fVar 2) fNil)) fNil))))) fNil)))
def m_law_stand_d4b1d3 : List D → Mem → Res D := runT 3 2 b_law_stand_d4b1d3

/- _law_moment -/
def b_law_moment_bfcba9 : FS :=
  (sSeq (sSet 3 (fCall gTuple (fCons (fTrim (fCompC (fIter (fBin gIx (fVar 1) (fC (.int 0)))) [4] (.name 4) fYes (fCall m_law_draw_321cf4 (fCons (fVar 0) (fCons (fBin gAdd (fVar 2) (fC (.int 1))) fNil))))) fNil)))
  (sRet (fTup (fCons (fCall m_law_stand_d4b1d3 (fCons (fVar 0) (fCons (fVar 1) fNil))) (fCons (fVar 3) (fCons (fCall gTuple (fCons (fTrim (fCompC (fIt gRange1 (fCons (fBin gIx (fVar 1) (fC (.int 1))) fNil)) [5] (.name 5) fYes (fCall m_law_draw_321cf4 (fCons (fVar 0) (fCons (fC (.int 4)) fNil))))) fNil)) fNil))))))
def m_law_moment_bfcba9 : List D → Mem → Res D := runT 6 3 b_law_moment_bfcba9

/- _law_handled -/
def b_law_handled_e2124e : FS :=
  (sSeq (sPar 3 4 (fCons (fCall gListC (fCons (fBin gIx (fVar 1) (fC (.int 0))) fNil)) (fCons (fCall gListC (fCons (fBin gAdd (fBin gIx (fVar 1) (fC (.int 1))) (fBin gIx (fVar 1) (fC (.int 2)))) fNil)) fNil)))
  (sSeq (sSetIx (fVar 4) (fVar 2) (fBin gSub (fBin gIx (fVar 4) (fVar 2)) (fC (.int 1))))
  (sSeq (sFor (fIter (fBin gIx (fBin gIx (fBin gIx (fVar 0) (fC (.int 0))) (fVar 2)) (fBin gIx (fVar 3) (fVar 2)))) (.name 5)
  (sSetIx (fVar 4) (fVar 5) (fBin gAdd (fBin gIx (fVar 4) (fVar 5)) (fC (.int 1)))))
  (sSeq (sSetIx (fVar 3) (fVar 2) (fBin gMod (fBin gAdd (fBin gIx (fVar 3) (fVar 2)) (fC (.int 1))) (fCall gLen (fCons (fBin gIx (fBin gIx (fVar 0) (fC (.int 0))) (fVar 2)) fNil))))
  (sRet (fTup (fCons (fCall gTuple (fCons (fVar 3) fNil)) (fCons (fCall gTuple (fCons (fSl (fVar 4) fNoPart (fPart (fCall gLen (fCons (fVar 3) fNil)))) fNil)) (fCons (fCall gTuple (fCons (fSl (fVar 4) (fPart (fCall gLen (fCons (fVar 3) fNil))) fNoPart) fNil)) fNil)))))))))
def m_law_handled_e2124e : List D → Mem → Res D := runT 6 3 b_law_handled_e2124e

/- handle_beat -/
def b_handle_beat : FS :=
  (sSeq (sSet 3 (fCall gTuple (fCons (fSl (fTrim (fCompC (fIt gEnum (fCons (fBin gIx (fVar 1) (fC (.int 1))) fNil)) [4, 5] (.tup [4, 5]) (fTest (fBin (gCmp cGt) (fVar 5) (fC (.int 0)))) (fVar 4))) fNoPart (fPart (fVar 2))) fNil)))
  (sSeq (sFor (fIter (fVar 3)) (.name 4)
  (sExpr (fCall m_handle_marble (fCons (fVar 0) (fCons (fVar 1) (fCons (fVar 4) fNil))))))
  (sRet (fVar 3))))
def m_handle_beat : List D → Mem → Res D := runT 6 3 b_handle_beat

/- need_hands -/
def b_need_hands : FS :=
  (sIf (fNotT (fTest (fCall m_is_within (fCons (fVar 0) (fCons (fC (.int 1)) (fCons (fC (.int 6)) fNil))))))
  (sRaise 16)
  sNext)
def m_need_hands : List D → Mem → Res D := runT 1 1 b_need_hands

/- rows_of -/
def b_rows_of (fu : Nat) : FS :=
  (sSeq (sExpr (fCall m_need_moment (fCons (fVar 0) (fCons (fVar 1) fNil))))
  (sSeq (sIf (fNotT (fTest (fCall m_is_within (fCons (fVar 2) (fCons (fC (.int 0)) (fCons (fC (.int 500)) fNil))))))
  (sRaise 9)
  sNext)
  (sSeq (sExpr (fCall m_need_hands (fCons (fVar 3) fNil)))
  (sSeq (sAsg (fCall m_loosened (fCons (fVar 1) fNil)) (.tup [4, 5, 6]))
  (sSeq (sSet 7 (fNew fNil))
  (sSeq (sWhile fu (fAndT (fTest (fBin (gCmp cLt) (fCall gLen (fCons (fVar 7) fNil)) (fVar 2))) (fTest (fBin (gCmp cGt) (fCall (gMx mxI) (fCons (fVar 5) fNil)) (fC (.int 0)))))
  (sExpr (fMeth gAppend (fVar 7) (fCons (fCall m_handle_beat (fCons (fVar 0) (fCons (fTup (fCons (fVar 4) (fCons (fVar 5) (fCons (fVar 6) fNil)))) (fCons (fVar 3) fNil)))) fNil))))
  (sRet (fCall gTuple (fCons (fVar 7) fNil)))))))))
def m_rows_of (fu : Nat) : List D → Mem → Res D := runT 8 4 (b_rows_of fu)

/- _law_rows -/
def b_law_rows_5da548 (fu : Nat) : FS :=
  (sSeq (sSet 4 (fNew fNil))
  (sSeq (sWhile fu (fAndT (fTest (fBin (gCmp cLt) (fCall gLen (fCons (fVar 4) fNil)) (fVar 3))) (fTest (fBin (gCmp cGt) (fCall (gMx mxI) (fCons (fBin gIx (fVar 1) (fC (.int 1))) fNil)) (fC (.int 0)))))
  (sSeq (sSet 5 (fSl (fTrim (fCompC (fIt gEnum (fCons (fBin gIx (fVar 1) (fC (.int 1))) fNil)) [6, 7] (.tup [6, 7]) (fTest (fBin (gCmp cGt) (fVar 7) (fC (.int 0)))) (fVar 6))) fNoPart (fPart (fVar 2))))
  (sSeq (sFor (fIter (fVar 5)) (.name 6)
  (sSet 1 (fCall m_law_handled_e2124e (fCons (fVar 0) (fCons (fVar 1) (fCons (fVar 6) fNil))))))
  (sExpr (fMeth gAppend (fVar 4) (fCons (fCall gTuple (fCons (fVar 5) fNil)) fNil))))))
  (sRet (fTup (fCons (fVar 4) (fCons (fVar 1) fNil))))))
def m_law_rows_5da548 (fu : Nat) : List D → Mem → Res D := runT 8 4 (b_law_rows_5da548 fu)
end QX

set_option maxRecDepth 100000
set_option maxHeartbeats 1000000
/-! QZ1: boards, draws -/
namespace QX
open PySem PySem.Spec PyProof.Rows L2 HX
def isW : D → Bool
  | .int _ => true
  | _ => false
/-- data without cells, script, opaque things: every law's things -/
def D.ok : D → Bool
  | .scr _ => false
  | .adr _ => false
  | _ => true
theorem m_is_whole_eq {d : D} {M : Mem} (h : d.ok = true) : m_is_whole [d] M = .ok (.bl (isW d)) M := by
  refine (run_rt (d := .bl (isW d)) (M1 := M) rfl ?_).trans (trim_id rfl)
  cases d <;> first | (cases h; done) | (simp [b_is_whole, startA, gIsi, D.ty, Ty.name, Ty.is, isW])
def inB (a b : Int) : D → Bool
  | .int i => decide (a ≤ i) && decide (i ≤ b)
  | _ => false
theorem m_is_within_eq {d : D} {a b : Int} {M : Mem} (h : d.ok = true) : m_is_within [d, .int a, .int b] M = .ok (.bl (inB a b d)) M := by
  refine (run_rt (d := .bl (inB a b d)) (M1 := M) rfl ?_).trans (trim_id rfl)
  cases d with
  | int i =>
    by_cases h1 : a ≤ i <;> simp [b_is_within, startA, m_is_whole_eq h, isW, inB, cLe, h1]
  | scr _ => cases h
  | adr _ => cases h
  | _ => simp [b_is_within, startA, m_is_whole_eq h, isW, inB]
def partsB (a b : Int) : D → Bool
  | .tup ds => decide (a ≤ (ds.length : Int)) && decide ((ds.length : Int) ≤ b)
  | _ => false
theorem m_has_parts_eq {d : D} {a b : Int} {M : Mem} (h : d.ok = true) : m_has_parts [d, .int a, .int b] M = .ok (.bl (partsB a b d)) M := by
  refine (run_rt (d := .bl (partsB a b d)) (M1 := M) rfl ?_).trans (trim_id rfl)
  cases d with
  | tup ds =>
    by_cases h1 : a ≤ (ds.length : Int) <;> simp [b_has_parts, startA, gIsi, D.ty, Ty.name, Ty.is, partsB, cLe, h1]
  | scr _ => cases h
  | adr _ => cases h
  | _ => simp [b_has_parts, startA, gIsi, D.ty, Ty.name, Ty.is, partsB]
/-! ### truths of all parts -/
theorem blsOf_map {α : Type} (f : α → Bool) : ∀ xs : List α, blsOf (xs.map fun x => D.bl (f x)) = some (xs.map f)
  | [] => rfl
  | x :: xs => by
    show (match blsOf (xs.map fun x => D.bl (f x)) with | some bs => some (f x :: bs) | none => none) = _
    rw [blsOf_map f xs]
    rfl
theorem gAll_map {α : Type} {M : Mem} (f : α → Bool) (xs : List α) : gAll [.lst (xs.map fun x => D.bl (f x))] M = .ok (.bl (xs.all f)) M := by
  show (match blsOf (xs.map fun x => D.bl (f x)) with | some bs => Res.ok (D.bl (bs.all id)) M | none => .bad) = _
  rw [blsOf_map]
  dsimp only
  rw [List.all_map]
  rfl
theorem run_pure {n k : Nat} {f : F D} {ds : List D} {M : Mem} {d : D} (hl : ds.length = k) (h : f (startA n ds) M = .ok d M) : runT n k (sRet f) ds M = .ok d M :=
  (run_rt hl (by rw [ev_ret, h]; rfl)).trans (trim_id rfl)
/-- all([e for x in t]) of truths that turn nothing -/
theorem all_comp {fa : F D} {vs : List Nat} {i : Nat} {e : F D} {σ : Sa} {M : Mem} {ds : List D} (f : D → Bool) (ha : fa σ M = .ok (.tup ds) M) (hw : Wf M) (hl : ds.length ≤ 1000000)
    (he : ∀ d ∈ ds, ∀ M', Wf M' → M.length < M'.length → e ((wipeA σ vs).set i (some d)) M' = .ok (.bl (f d)) M') : fCall gAll (fCons (fTrim (fCompC (fIter fa) vs (.name i) fYes e)) fNil) σ M = .ok (.bl (ds.all f)) M := by
  have h := comp_pure (fi := fIter fa) (vs := vs) (t := .name i) (e := e) (σ := σ) (M := M) (it := ⟨ds.map .d, fun _ => true⟩) (fun im => match im with | .d d => .bl (f d) | .pr _ => .non) (by rw [ev_iter, ha]; rfl) (fun _ => rfl) hw (by simpa using hl) (fun im him => by
    obtain ⟨d, hd, rfl⟩ := List.mem_map.mp him
    exact ⟨rfl, _, rfl, fun M' w1 w2 => he d hd M' w1 w2⟩)
  rw [ev_call, ev_cons, h]
  dsimp only [bind_ok, ev_nil]
  rw [List.map_map]
  exact gAll_map f ds
def okA (ds : List D) : Bool := ds.all D.ok
mutual
/-- no script, no opaque thing at any depth -/
def D.dok : D → Bool
  | .scr _ => false
  | .adr _ => false
  | .tup ds => D.dokA ds
  | .lst ds => D.dokA ds
  | .dct _ ds => D.dokA ds
  | _ => true
def D.dokA : List D → Bool
  | [] => true
  | d :: ds => D.dok d && D.dokA ds
end
theorem dok_ok {d : D} (h : d.dok = true) : d.ok = true := by cases d <;> first | rfl | (simp [D.dok] at h)
theorem dokA_mem : ∀ {ds : List D}, D.dokA ds = true → ∀ d ∈ ds, d.dok = true
  | [], _, d, hd => by simp at hd
  | x :: xs, h, d, hd => by
    simp only [D.dokA, Bool.and_eq_true] at h
    rcases List.mem_cons.mp hd with rfl | z
    · exact h.1
    · exact dokA_mem h.2 d z
def stepB (n : Int) : D → Bool
  | .tup ds => partsB 0 3 (.tup ds) && ds.all (inB 0 (n - 1))
  | _ => false
theorem partsB_len {a b : Int} {ds : List D} (h : partsB a b (.tup ds) = true) : (ds.length : Int) ≤ b := by
  simp only [partsB, Bool.and_eq_true, decide_eq_true_eq] at h
  exact h.2
theorem partsB_not {a b : Int} {d : D} (h : ∀ ds, d ≠ .tup ds) : partsB a b d = false := by
  cases d <;> first | rfl | exact absurd rfl (h _)
theorem m_is_step_eq {d : D} {n : Int} {M : Mem} (h : d.dok = true) (hw : Wf M) : m_is_step [d, .int n] M = .ok (.bl (stepB n d)) M := by
  refine run_pure rfl ?_
  have h1 : fCall m_has_parts (fCons (fVar 0) (fCons (fC (.int 0)) (fCons (fC (.int 3)) fNil))) (startA 3 [d, .int n]) M = .ok (.bl (partsB 0 3 d)) M := by simp [startA, m_has_parts_eq (dok_ok h)]
  cases d with
  | tup ds =>
    refine and_ev h1 fun hp => ?_
    have hl := partsB_len hp
    exact all_comp (inB 0 (n - 1)) rfl hw (by omega) (fun d hd M' _ _ => by
      simp [wipeA, startA, m_is_within_eq (dok_ok (dokA_mem (by simpa only [D.dok] using h) d hd))])
  | _ =>
    rw [partsB_not (fun _ z => by cases z)] at h1
    exact and_ev (q := false) h1 fun hp => by cases hp
def wheelB (n : Int) : D → Bool
  | .tup ds => partsB 1 4 (.tup ds) && ds.all (stepB n)
  | _ => false
theorem m_is_wheel_eq {d : D} {n : Int} {M : Mem} (h : d.dok = true) (hw : Wf M) : m_is_wheel [d, .int n] M = .ok (.bl (wheelB n d)) M := by
  refine run_pure rfl ?_
  have h1 : fCall m_has_parts (fCons (fVar 0) (fCons (fC (.int 1)) (fCons (fC (.int 4)) fNil))) (startA 3 [d, .int n]) M = .ok (.bl (partsB 1 4 d)) M := by simp [startA, m_has_parts_eq (dok_ok h)]
  cases d with
  | tup ds =>
    refine and_ev h1 fun hp => ?_
    have hl := partsB_len hp
    exact all_comp (stepB n) rfl hw (by omega) (fun d hd M' w' _ => by
      simp [wipeA, startA, m_is_step_eq (dokA_mem (by simpa only [D.dok] using h) d hd) w'])
  | _ =>
    rw [partsB_not (fun _ z => by cases z)] at h1
    exact and_ev (q := false) h1 fun hp => by cases hp
def wheelsB (w c : D) : Bool := match w, c with
  | .tup ws, .int k => ws.all (wheelB ((ws.length : Int) + k))
  | _, _ => false
def boardB : D → Bool
  | .tup [w, c] => partsB 1 6 w && (inB 0 4 c && wheelsB w c)
  | _ => false
theorem m_is_board_eq {d : D} {M : Mem} (h : d.dok = true) (hw : Wf M) : m_is_board [d] M = .ok (.bl (boardB d)) M := by
  have hd := dok_ok h
  refine (run_rt (d := .bl (boardB d)) (M1 := M) rfl ?_).trans (trim_id rfl)
  unfold b_is_board
  have h1 : fNotT (fTest (fCall m_has_parts (fCons (fVar 0) (fCons (fC (.int 2)) (fCons (fC (.int 2)) fNil))))) (startA 5 [d]) M = .ok (!partsB 2 2 d) M := not_ev (test_ev (by simp [startA, m_has_parts_eq hd]))
  have s1 := sif_ev (s1 := sRet (fC (.bl false))) (s2 := sNext) h1
  cases hp : partsB 2 2 d with
  | false =>
    rw [hp] at s1
    have : boardB d = false := by
      cases d with
      | tup ds =>
        match ds with
        | [] => rfl
        | [_] => rfl
        | [a, b] => simp [partsB] at hp
        | _ :: _ :: _ :: _ => rfl
      | _ => rfl
    rw [this]
    exact seq_rt s1
  | true =>
    rw [hp] at s1
    refine (seq_nx s1).trans ?_
    cases d with
    | tup ds =>
      match ds, hp with
      | [], hp => simp [partsB] at hp
      | [_], hp => simp [partsB] at hp
      | _ :: _ :: _ :: _, hp => simp [partsB] at hp; omega
      | [w, c], _ =>
        simp only [D.dok, D.dokA, Bool.and_eq_true] at h
        obtain ⟨hw1, hc1, _⟩ := h
        refine (seq_nx (σ1 := [some (.tup [w, c]), some w, some c, none, none]) (asg_ev rfl rfl)).trans ?_
        have h2 : fOrT (fNotT (fTest (fCall m_has_parts (fCons (fVar 1) (fCons (fC (.int 1)) (fCons (fC (.int 6)) fNil)))))) (fNotT (fTest (fCall m_is_within (fCons (fVar 2) (fCons (fC (.int 0)) (fCons (fC (.int 4)) fNil)))))) [some (.tup [w, c]), some w, some c, none, none] M = .ok (!partsB 1 6 w || !inB 0 4 c) M :=
          or_ev (not_ev (test_ev (by simp [m_has_parts_eq (dok_ok hw1)]))) fun _ => not_ev (test_ev (by simp [m_is_within_eq (dok_ok hc1)]))
        have s2 := sif_ev (s1 := sRet (fC (.bl false))) (s2 := sNext) h2
        cases hp2 : (!partsB 1 6 w || !inB 0 4 c) with
        | true =>
          rw [hp2] at s2
          have : boardB (.tup [w, c]) = false := by
            rw [Bool.or_eq_true, Bool.not_eq_true', Bool.not_eq_true'] at hp2
            rcases hp2 with z | z <;> simp [boardB, z]
          rw [this]
          exact seq_rt s2
        | false =>
          rw [hp2] at s2
          rw [Bool.or_eq_false_iff, Bool.not_eq_false', Bool.not_eq_false'] at hp2
          refine (seq_nx s2).trans ?_
          cases w with
          | tup ws =>
            cases c with
            | int k =>
              refine (seq_nx (set_ev (M1 := M) (d := .int ((ws.length : Int) + k)) (by simp))).trans (ret_ev ?_)
              have hl := partsB_len hp2.1
              rw [all_comp (wheelB ((ws.length : Int) + k)) (ds := ws) rfl hw (by omega) (fun d hd M' w' _ => by
                simp [wipeA, m_is_wheel_eq (dokA_mem (by simpa only [D.dok] using hw1) d hd) w'])]
              simp [boardB, wheelsB, hp2]
            | _ => simp [inB] at hp2
          | _ => simp [partsB] at hp2
    | _ => simp [partsB] at hp
/-! ### boards as they are drawn -/
def stepT (es : List Int) : D := .tup (es.map .int)
def wheelT (w : List (List Int)) : D := .tup (w.map stepT)
def wheelsT (ws : List (List (List Int))) : D := .tup (ws.map wheelT)
def boardT (ws : List (List (List Int))) (c : Int) : D := .tup [wheelsT ws, .int c]
theorem und_step {n : Nat} (es : List Int) : (stepT es).und n = true := by
  simp only [stepT, D.und]
  rw [undA_iff]
  intro d hd
  obtain ⟨e, _, rfl⟩ := List.mem_map.mp hd
  rfl
theorem und_wheel {n : Nat} (w : List (List Int)) : (wheelT w).und n = true := by
  simp only [wheelT, D.und]
  rw [undA_iff]
  intro d hd
  obtain ⟨e, _, rfl⟩ := List.mem_map.mp hd
  exact und_step e
theorem und_wheels {n : Nat} (ws : List (List (List Int))) : (wheelsT ws).und n = true := by
  simp only [wheelsT, D.und]
  rw [undA_iff]
  intro d hd
  obtain ⟨e, _, rfl⟩ := List.mem_map.mp hd
  exact und_wheel e
theorem und_board {n : Nat} (ws : List (List (List Int))) (c : Int) : (boardT ws c).und n = true := by
  simp [boardT, D.und, D.undA, und_wheels]
theorem dokA_iff : ∀ {ds : List D}, D.dokA ds = true ↔ ∀ d ∈ ds, d.dok = true
  | [] => by simp [D.dokA]
  | d :: ds => by simp only [D.dokA, Bool.and_eq_true, dokA_iff (ds := ds), List.mem_cons, forall_eq_or_imp]
theorem dok_step (es : List Int) : (stepT es).dok = true := by
  simp only [stepT, D.dok]
  rw [dokA_iff]
  intro d hd
  obtain ⟨e, _, rfl⟩ := List.mem_map.mp hd
  rfl
theorem dok_wheel (w : List (List Int)) : (wheelT w).dok = true := by
  simp only [wheelT, D.dok]
  rw [dokA_iff]
  intro d hd
  obtain ⟨e, _, rfl⟩ := List.mem_map.mp hd
  exact dok_step e
theorem dok_wheels (ws : List (List (List Int))) : (wheelsT ws).dok = true := by
  simp only [wheelsT, D.dok]
  rw [dokA_iff]
  intro d hd
  obtain ⟨e, _, rfl⟩ := List.mem_map.mp hd
  exact dok_wheel e
theorem dok_board (ws : List (List (List Int))) (c : Int) : (boardT ws c).dok = true := by
  simp [boardT, D.dok, D.dokA, dok_wheels]
theorem stepB_ok {n : Int} {es : List Int} (h : EndsOk n es) : stepB n (stepT es) = true := by
  obtain ⟨h1, h2⟩ := h
  simp only [stepB, stepT, partsB, Bool.and_eq_true, decide_eq_true_eq, List.length_map, List.all_eq_true]
  refine ⟨⟨by omega, by omega⟩, fun d hd => ?_⟩
  obtain ⟨e, he, rfl⟩ := List.mem_map.mp hd
  have := h2 e he
  simp only [inB, Bool.and_eq_true, decide_eq_true_eq]
  omega
theorem wheelB_ok {n : Int} {w : List (List Int)} (h : WheelOk n w) : wheelB n (wheelT w) = true := by
  obtain ⟨h1, h2, h3⟩ := h
  simp only [wheelB, wheelT, partsB, Bool.and_eq_true, decide_eq_true_eq, List.length_map, List.all_eq_true]
  refine ⟨⟨by omega, by omega⟩, fun d hd => ?_⟩
  obtain ⟨e, he, rfl⟩ := List.mem_map.mp hd
  exact stepB_ok (h3 e he)
theorem boardB_ok {ws : List (List (List Int))} {c : Int} (h : BoardOk ws c) : boardB (boardT ws c) = true := by
  have h1 := h.w1
  have h2 := h.w6
  have h3 := h.c0
  have h4 := h.c4
  simp only [boardB, boardT, wheelsB, wheelsT, partsB, inB, Bool.and_eq_true, decide_eq_true_eq, List.length_map, List.all_eq_true]
  refine ⟨⟨by omega, by omega⟩, ⟨by omega, by omega⟩, fun d hd => ?_⟩
  obtain ⟨e, he, rfl⟩ := List.mem_map.mp hd
  exact wheelB_ok (h.wheels e he)
theorem m_need_board_eq {ws : List (List (List Int))} {c : Int} {M : Mem} (h : BoardOk ws c) (hw : Wf M) : m_need_board [boardT ws c] M = .ok .non M := by
  refine (run_nx (M1 := M) (σ := startA 1 [boardT ws c]) rfl ?_).trans (trim_id rfl)
  refine (sif_ev (p := false) (not_ev (p := true) (test_ev ?_))).trans rfl
  rw [call_ev (ds := [boardT ws c]) (M1 := M) rfl, m_is_board_eq (dok_board ws c) hw, boardB_ok h]
end QX

set_option maxRecDepth 100000
set_option maxHeartbeats 1000000
/-! QZ2: cells, pens, draws; a drawn board -/
namespace QX
open PySem PySem.Spec PyProof.Rows L2 HX
theorem m_cell_at_eq {ns : List Int} {k : Nat} {M : Mem} : m_law_cell_at_e50a56 [.scr ns, .int k] M = .ok (.int (ns.getD k 0)) M := by
  have h1 : fTest (fBin (gCmp cLt) (fVar 1) (fCall gLen (fCons (fVar 0) fNil))) (startA 2 [.scr ns, .int k]) M = .ok (decide ((k : Int) < ns.length)) M := by simp [startA]
  by_cases hk : k < ns.length
  · refine (run_rt (M1 := M) (d := .int (ns.getD k 0)) rfl (seq_rt ((sif_ev h1).trans ?_))).trans (trim_id rfl)
    rw [if_pos (by simpa using hk)]
    refine ret_ev ?_
    have e : atI (ns.map D.int) (k : Int) = some (.int (ns.getD k 0)) := by
      rw [atI_nn (by omega), List.getElem?_map, Int.toNat_natCast, List.getD_eq_getElem?_getD, List.getElem?_eq_getElem hk]
      rfl
    simp [startA, e]
  · refine (run_rt (M1 := M) (d := .int (ns.getD k 0)) rfl ((seq_nx ((sif_ev h1).trans (if_neg (by simpa using hk)))).trans ?_)).trans (trim_id rfl)
    rw [List.getD_eq_getElem?_getD, List.getElem?_eq_none (by omega)]
    rfl
/-! ### the pen: how many draws it still has -/
def penC (a b c : Int) : Cell := .lst [.int a, .int b, .int c]
def PenOk (k : Nat) : Cell → Prop
  | .lst ds => ∃ a b c : Int, ds = [.int a, .int b, .int c] ∧ 0 ≤ b ∧ b < 1000000007 ∧ 0 ≤ c ∧ c + k ≤ 1000000000
theorem PenOk.und {k n : Nat} {x : Cell} (h : PenOk k x) : Cell.und n x = true := by
  cases x with
  | lst ds =>
    obtain ⟨a, b, c, rfl, _⟩ := h
    rfl
theorem PenOk.less {j k : Nat} {x : Cell} (h : PenOk k x) (hj : j ≤ k) : PenOk j x := by
  cases x with
  | lst ds =>
    obtain ⟨a, b, c, e, h1, h2, h3, h4⟩ := h
    exact ⟨a, b, c, e, h1, h2, h3, by omega⟩
theorem m_pen_eq {c : Int} {M : Mem} : ∃ x, m_law_pen_579b16 [.int c] M = .ok (.ref M.length) (M ++ [x]) ∧ PenOk 1000000000 x := by
  have h10 : gPow (.int 10) (.int 18) M = .ok (.int 1000000000000000000) M := by
    have : (10 : Int) ^ (18 : Int).toNat = 1000000000000000000 := by decide +kernel
    have e : (decide ((0 : Int) ≤ 18) && decide ((18 : Int) ≤ 1000000) && Nat.blt (10 : Int).natAbs 18446744073709551616) = true := by decide +kernel
    show (if (decide ((0 : Int) ≤ 18) && decide ((18 : Int) ≤ 1000000) && Nat.blt (10 : Int).natAbs 18446744073709551616) = true then Res.ok (D.int ((10 : Int) ^ (18 : Int).toNat)) M else Res.bad) = _
    rw [if_pos e, this]
  refine ⟨.lst [.int (if c - 1000000000000000000 > 0 then c - 1000000000000000000 else 0), .int (c % 1000000007), .int 0], ?_, _, _, _, rfl, by omega, by omega, by omega, by omega⟩
  unfold m_law_pen_579b16 runD b_law_pen_579b16
  simp [startA, h10]
/-- small factors -/
theorem mulOk_small {i j : Int} (hi : i.natAbs < 2 ^ 64) (hj : j.natAbs < 2 ^ 64) : mulOk i j = true := by
  unfold mulOk
  rw [Nat.blt_eq]
  have a := PySem.Flt.log2_lt_of (by decide : 0 < 64) hi
  have b := PySem.Flt.log2_lt_of (by decide : 0 < 64) hj
  omega
theorem m_draw_eq {p k : Nat} {n : Int} {M : Mem} {x : Cell} (hx : M[p]? = some x) (ho : PenOk (k + 1) x) (h1 : 1 ≤ n) (h2 : n ≤ 1000000000) : ∃ z x', m_law_draw_321cf4 [.ref p, .int n] M = .ok (.int z) (M.set p x') ∧ 0 ≤ z ∧ z < n ∧ PenOk k x' := by
  cases x with
  | lst ds =>
    obtain ⟨a, b, c, rfl, b0, b1, c0, c1⟩ := ho
    have hp : p < M.length := (List.getElem?_eq_some_iff.mp hx).1
    have g0 : gIx (.ref p) (.int 0) M = .ok (.int a) M := by rw [gIx_ref hx]; simp
    by_cases ha : 0 < a
    · refine ⟨a % n, .lst [.int (a / n), .int b, .int c], ?_, Int.emod_nonneg _ (by omega), Int.emod_lt_of_pos _ (by omega), _, _, _, rfl, b0, b1, c0, by omega⟩
      refine (run_rt (M1 := M.set p (.lst [.int (a / n), .int b, .int c])) (d := .int (a % n)) rfl (seq_rt ((sif_ev (p := true) (M1 := M) (test_ev ?_)).trans ((if_pos rfl).trans ?_)))).trans (trim_id (by simp))
      · simp [startA, g0, cGt, ha]
      · have hlog : n.natAbs.log2 < 9000 := Nat.lt_of_lt_of_le (PySem.Flt.log2_lt_of (by decide : 0 < 64) (by omega)) (by decide)
        have hb : Nat.blt n.natAbs.log2 9000 = true := by rw [Nat.blt_eq]; exact hlog
        refine (seq_nx (set_ev (M1 := M) (d := .int (a % n)) ?_)).trans ((seq_nx (σ1 := [some (.ref p), some (.int n), some (.int (a % n)), none]) (M1 := M.set p (.lst [.int (a / n), .int b, .int c])) ?_).trans (ret_ev ?_))
        · simp [startA, g0, show 0 < n by omega]
        · simp [startA, g0, show 0 < n by omega, hb, gSetIx, hx, ixN]
        · simp [startA]
    · have hM : ∀ d : D, (M.set p (.lst [.int a, .int b, d]))[p]? = some (.lst [.int a, .int b, d]) := fun d => List.getElem?_set_self hp
      have g1 : gIx (.ref p) (.int 2) M = .ok (.int c) M := by rw [gIx_ref hx]; simp
      let M1 := M.set p (.lst [.int a, .int b, .int (c + 1)])
      have e1 : gIx (.ref p) (.int 1) M1 = .ok (.int b) M1 := by rw [gIx_ref (hM _)]; simp; rfl
      have e2 : gIx (.ref p) (.int 2) M1 = .ok (.int (c + 1)) M1 := by rw [gIx_ref (hM _)]; simp; rfl
      let s1 := (b + 17 * (c + 1)) * (69621 + 2 * (c + 1)) % 2147483647
      let s2 := (s1 * s1 + 40503 * (c + 1) + 5) % 2147483629
      have a1 : 0 ≤ s1 ∧ s1 < 2147483647 := ⟨Int.emod_nonneg _ (by decide), Int.emod_lt_of_pos _ (by decide)⟩
      have a2 : 0 ≤ s2 ∧ s2 < 2147483629 := ⟨Int.emod_nonneg _ (by decide), Int.emod_lt_of_pos _ (by decide)⟩
      refine ⟨s2 * 48271 % 2147483647 / 32 % n, .lst [.int a, .int b, .int (c + 1)], ?_, Int.emod_nonneg _ (by omega), Int.emod_lt_of_pos _ (by omega), _, _, _, rfl, b0, b1, by omega, by omega⟩
      refine (run_rt (M1 := M1) (d := .int (s2 * 48271 % 2147483647 / 32 % n)) rfl ((seq_nx ((sif_ev (p := false) (M1 := M) (test_ev ?_)).trans (if_neg (by decide)))).trans ?_)).trans (trim_id (by simp [M1]))
      · simp [startA, g0, cGt, ha]
      · refine (seq_nx (M1 := M1) (σ1 := startA 4 [.ref p, .int n]) ?_).trans ((seq_nx (set_ev (M1 := M1) (d := .int s1) ?_)).trans ((seq_nx (set_ev (M1 := M1) (d := .int s2) ?_)).trans (ret_ev ?_)))
        · simp [startA, g1, gSetIx, hx, ixN, M1]
        · have m1 : mulOk 17 (c + 1) = true := mulOk_small (by omega) (by omega)
          have m2 : mulOk 2 (c + 1) = true := mulOk_small (by omega) (by omega)
          have m3 : mulOk (b + 17 * (c + 1)) (69621 + 2 * (c + 1)) = true := mulOk_small (by omega) (by omega)
          simp [startA, e1, e2, m1, m2, m3, s1]
        · have m1 : mulOk s1 s1 = true := mulOk_small (by omega) (by omega)
          have m2 : mulOk 40503 (c + 1) = true := mulOk_small (by omega) (by omega)
          simp [startA, e1, e2, m1, m2, s2]
        · have m1 : mulOk s2 48271 = true := mulOk_small (by omega) (by omega)
          have hb : Nat.log2 32 < 9000 := by decide +kernel
          simp [startA, m1, hb, show 0 < n by omega]
end QX

set_option maxRecDepth 100000
set_option maxHeartbeats 1000000
/-! QZ3: comprehensions and loops that draw -/
namespace QX
open PySem PySem.Spec PyProof.Rows L2 HX
section
variable {M0 g : Mem} {p k : Nat} {x : Cell}
theorem pen_at (hp : p < M0.length) : (M0.set p x ++ g)[p]? = some x := by
  rw [List.getElem?_append_left (by rw [List.length_set]; exact hp), List.getElem?_set_self hp]
theorem pen_set {y : Cell} (hp : p < M0.length) : (M0.set p x ++ g).set p y = M0.set p y ++ g := by
  rw [List.set_append_left _ _ (by rw [List.length_set]; exact hp), List.set_set]
theorem draw_in {n : Int} (hp : p < M0.length) (ho : PenOk (k + 1) x) (h1 : 1 ≤ n) (h2 : n ≤ 1000000000) :
    ∃ z x', m_law_draw_321cf4 [.ref p, .int n] (M0.set p x ++ g) = .ok (.int z) (M0.set p x' ++ g) ∧ 0 ≤ z ∧ z < n ∧ PenOk k x' := by
  obtain ⟨z, x', e, h3, h4, h5⟩ := m_draw_eq (pen_at (g := g) hp) ho h1 h2
  rw [pen_set hp] at e
  exact ⟨z, x', e, h3, h4, h5⟩
theorem wf_set {y : Cell} (h : Wf M0) (hy : PenOk k y) : Wf (M0.set p y) := h.set hy.und
theorem wf_app {c : Cell} (h : Wf (M0 ++ g)) (hc : Cell.und (M0 ++ g).length c = true) : Wf (M0 ++ (g ++ [c])) := by
  rw [← List.append_assoc]
  exact h.push (cund_mono (Nat.le_succ _) hc)
theorem wf_pen {y z : Cell} {j : Nat} (h : Wf (M0.set p y ++ g)) (hz : PenOk j z) : Wf (M0.set p z ++ g) := by
  intro c hc
  have hl : (M0.set p z ++ g).length = (M0.set p y ++ g).length := by simp
  rw [hl]
  rcases List.mem_append.mp hc with q | q
  · by_cases hp : p < M0.length
    · rcases List.mem_or_eq_of_mem_set q with w | w
      · -- c of M0, perhaps the one that stood at p
        obtain ⟨i, hi, e⟩ := List.getElem_of_mem q
        rw [List.length_set] at hi
        by_cases hip : p = i
        · subst hip
          rw [List.getElem_set_self] at e
          rw [← e]
          exact hz.und
        · rw [List.getElem_set_ne hip] at e
          refine h c (List.mem_append_left _ ?_)
          rw [← e]
          have : (M0.set p y)[i]'(by rw [List.length_set]; exact hi) = M0[i] := List.getElem_set_ne hip _
          rw [← this]
          exact List.getElem_mem _
      · rw [w]; exact hz.und
    · rw [List.set_eq_of_length_le (by omega)] at q
      refine h c (List.mem_append_left _ ?_)
      rw [List.set_eq_of_length_le (by omega)]
      exact q
  · exact h c (List.mem_append_right _ q)
/-- [e for x in ..] where e draws at most b times -/
theorem comp_pen {fi : F Ita} {vs : List Nat} {t : Tg} {e : F D} {σ : Sa} {it : Ita} {x1 : Cell} {b : Nat} (R : Im → D → Prop) (hp : p < M0.length) (hi : fi σ (M0.set p x ++ g) = .ok it (M0.set p x1 ++ g)) (hc : ∀ M', it.chk M' = true) (hw : Wf (M0.set p x ++ g)) (hl : it.items.length ≤ 1000000)
    (ho : PenOk (k + b * it.items.length) x1) (hR : ∀ im d n, R im d → d.und n = true)
    (he : ∀ im ∈ it.items, ∀ (j : Nat) (y : Cell) (g' : Mem), PenOk (j + b) y → Wf (M0.set p y ++ g') → ∃ σ1, t.put im (wipeA σ vs) = some σ1 ∧ ∃ d y', e σ1 (M0.set p y ++ g') = .ok d (M0.set p y' ++ g') ∧ R im d ∧ PenOk j y') :
    ∃ ds x2, fTrim (fCompC fi vs t fYes e) σ (M0.set p x ++ g) = .ok (.lst ds) (M0.set p x2 ++ g) ∧ ds.length = it.items.length ∧ (∀ (i : Nat) (im : Im) (d : D), it.items[i]? = some im → ds[i]? = some d → R im d) ∧ PenOk k x2 := by
  let Iv : Nat → List D → Mem → Prop := fun j acc M2 => ∃ y, M2 = M0.set p y ++ (g ++ [.lst acc]) ∧ acc.length = j ∧ (∀ (i : Nat) (im : Im) (d : D), it.items[i]? = some im → acc[i]? = some d → R im d) ∧ j ≤ it.items.length ∧ PenOk (k + b * (it.items.length - j)) y
  have step : ∀ j acc M2 im, it.items[j - 0]? = some im → 0 ≤ j → Iv j acc M2 → it.chk M2 = true ∧ ∃ σ1, t.put im (wipeA σ vs) = some σ1 ∧ ((∃ M1, fYes σ1 M2 = .ok false M1 ∧ Iv (j + 1) acc M1) ∨ ∃ M1 d M3, fYes σ1 M2 = .ok true M1 ∧ e σ1 M1 = .ok d M3 ∧ M3[(M0.set p x1 ++ g).length]? = some (.lst acc) ∧ Iv (j + 1) (acc ++ [d]) (M3.set (M0.set p x1 ++ g).length (.lst (acc ++ [d])))) := by
    rintro j acc M2 im hj _ ⟨y, rfl, ha, hr, hjl, hy⟩
    rw [Nat.sub_zero] at hj
    have him := List.mem_of_getElem? hj
    have hlt : j < it.items.length := (List.getElem?_eq_some_iff.mp hj).1
    have hacc : D.undA (M0.set p y ++ g).length acc = true := by
      rw [undA_iff]
      intro d hd
      obtain ⟨i, hi, rfl⟩ := List.getElem_of_mem hd
      exact hR _ _ _ (hr i _ _ (List.getElem?_eq_getElem (by omega)) (List.getElem?_eq_getElem hi))
    have hy' : PenOk ((k + b * (it.items.length - (j + 1))) + b) y := by
      have e1 : it.items.length - j = (it.items.length - (j + 1)) + 1 := by omega
      rw [e1, Nat.mul_add, Nat.mul_one, ← Nat.add_assoc] at hy
      exact hy
    have hwf : Wf (M0.set p y ++ (g ++ [.lst acc])) := wf_app (wf_pen hw hy) hacc
    obtain ⟨σ1, h1, d, y', h2, h3, h4⟩ := he im him _ y (g ++ [.lst acc]) hy' hwf
    have hn : (M0.set p x1 ++ g).length = (M0.set p y' ++ g).length := by simp
    refine ⟨hc _, σ1, h1, .inr ⟨_, d, _, rfl, h2, ?_, y', ?_, by rw [List.length_append, ha]; rfl, fun i im' d' hi hd => ?_, hlt, h4⟩⟩
    · rw [hn, ← List.append_assoc, List.getElem?_append_right (Nat.le_refl _), Nat.sub_self]; rfl
    · rw [hn, ← List.append_assoc, List.set_append_right _ _ (Nat.le_refl _), Nat.sub_self, List.append_assoc]; rfl
    · by_cases hij : i < acc.length
      · rw [List.getElem?_append_left hij] at hd
        exact hr i im' d' hi hd
      · rw [List.getElem?_append_right (by omega)] at hd
        have : i - acc.length = 0 := by
          have := (List.getElem?_eq_some_iff.mp hd).1
          simp at this
          omega
        rw [this] at hd
        simp at hd
        have e2 : i = j := by omega
        subst e2
        rw [hj] at hi
        cases hi
        rw [← hd]
        exact h3
  obtain ⟨acc', M', h1, ⟨y, h2, h3, h4, _, h6⟩, _⟩ := comp_loop (t := t) (c := fYes) (e := e) (chk := it.chk) (σ := wipeA σ vs) (n := (M0.set p x1 ++ g).length) Iv it.items 0 [] ((M0.set p x1 ++ g) ++ [.lst []]) (by simpa using hl) step (fun acc M2 _ => hc M2) ⟨x1, by rw [List.append_assoc], rfl, fun i im d _ hd => by simp at hd, Nat.zero_le _, by rw [Nat.sub_zero]; exact ho⟩
  rw [Nat.zero_add] at h3 h6
  rw [Nat.sub_self, Nat.mul_zero, Nat.add_zero] at h6
  refine ⟨acc', y, ?_, h3, h4, h6⟩
  unfold fTrim fCompC
  rw [hi]
  simp only [bind_ok]
  rw [h1]
  simp only [bind_ok]
  rw [h2, ← List.append_assoc]
  have hn : (M0.set p y ++ g).length = (M0.set p x ++ g).length := by simp
  have hn1 : (M0.set p x1 ++ g).length = (M0.set p x ++ g).length := by simp
  rw [hn1]
  refine trim_ref (g := []) hn (wf_pen hw h6) ?_
  rw [undA_iff]
  intro d hd
  obtain ⟨i, hi, rfl⟩ := List.getElem_of_mem hd
  exact hR _ _ _ (h4 i _ _ (List.getElem?_eq_getElem (by omega)) (List.getElem?_eq_getElem hi))
end
theorem for_nums {b : FS} {n m i : Nat} {σ : Sa} {M : Mem} (Iv : Nat → Sa → Mem → Prop) (h0 : Iv 0 σ M) (step : ∀ j σ M, j < m → Iv j σ M → ∃ σ2 M2, (b (σ.set i (some (.int (j : Int)))) M = .ok (.nx σ2) M2 ∨ b (σ.set i (some (.int (j : Int)))) M = .ok (.ct σ2) M2) ∧ Iv (j + 1) (gc n σ2 M2).1 (gc n σ2 M2).2) :
    ∃ σ' M', forL (.name i) b (fun _ => true) n (nums 0 m) σ M = .ok (.nx σ') M' ∧ Iv m σ' M' := by
  obtain ⟨σ', M', h1, h2⟩ := for_loop (t := .name i) (b := b) (chk := fun _ => true) (n := n) Iv (nums 0 m) 0 σ M (fun j σ M im hj _ hv => by
    rw [Nat.sub_zero] at hj
    have hlt : j < m := by
      have := (List.getElem?_eq_some_iff.mp hj).1
      rw [nums_len] at this
      exact this
    rw [nums_at m 0 j hlt] at hj
    cases hj
    obtain ⟨σ2, M2, h1, h2⟩ := step j σ M hlt hv
    refine ⟨rfl, _, rfl, σ2, M2, ?_, h2⟩
    rw [Int.zero_add]
    exact h1) (fun _ _ _ => rfl) h0
  rw [Nat.zero_add, nums_len] at h2
  exact ⟨σ', M', h1, h2⟩
theorem for_items {b : FS} {n i : Nat} {σ : Sa} {M : Mem} {ds : List D} (Iv : Nat → Sa → Mem → Prop) (h0 : Iv 0 σ M) (step : ∀ j σ M d, ds[j]? = some d → Iv j σ M → ∃ σ2 M2, (b (σ.set i (some d)) M = .ok (.nx σ2) M2 ∨ b (σ.set i (some d)) M = .ok (.ct σ2) M2) ∧ Iv (j + 1) (gc n σ2 M2).1 (gc n σ2 M2).2) :
    ∃ σ' M', forL (.name i) b (fun _ => true) n (ds.map .d) σ M = .ok (.nx σ') M' ∧ Iv ds.length σ' M' := by
  obtain ⟨σ', M', h1, h2⟩ := for_loop (t := .name i) (b := b) (chk := fun _ => true) (n := n) Iv (ds.map .d) 0 σ M (fun j σ M im hj _ hv => by
    rw [Nat.sub_zero, List.getElem?_map] at hj
    cases q : ds[j]? with
    | none => rw [q] at hj; cases hj
    | some d =>
      rw [q] at hj
      cases hj
      obtain ⟨σ2, M2, h1, h2⟩ := step j σ M d q hv
      exact ⟨rfl, _, rfl, σ2, M2, h1, h2⟩) (fun _ _ _ => rfl) h0
  rw [Nat.zero_add, List.length_map] at h2
  exact ⟨σ', M', h1, h2⟩
/-- the slots that are known -/
def Has (σ : Sa) (n : Nat) (l : List (Nat × D)) : Prop := σ.length = n ∧ ∀ q ∈ l, σ[q.1]? = some (some q.2)
theorem Has.at {σ : Sa} {n : Nat} {l : List (Nat × D)} (h : Has σ n l) {i : Nat} {d : D} (hm : (i, d) ∈ l) : σ[i]? = some (some d) := h.2 _ hm
theorem Has.set {σ : Sa} {n : Nat} {l : List (Nat × D)} (h : Has σ n l) {i : Nat} {o : Option D} (hi : ∀ q ∈ l, q.1 ≠ i) : Has (σ.set i o) n l :=
  ⟨by rw [List.length_set]; exact h.1, fun q hq => by rw [List.getElem?_set_ne (Ne.symm (hi q hq))]; exact h.2 q hq⟩
theorem Has.put {σ : Sa} {n : Nat} {l : List (Nat × D)} (h : Has σ n l) {i : Nat} {d : D} (hn : i < n) (hi : ∀ q ∈ l, q.1 ≠ i) : Has (σ.set i (some d)) n ((i, d) :: l) := by
  refine ⟨by rw [List.length_set]; exact h.1, fun q hq => ?_⟩
  rcases List.mem_cons.mp hq with rfl | hq
  · exact List.getElem?_set_self (by rw [h.1]; exact hn)
  · rw [List.getElem?_set_ne (Ne.symm (hi q hq))]
    exact h.2 q hq
theorem Has.keep {σ : Sa} {n m : Nat} {l : List (Nat × D)} (h : Has σ n l) (hu : ∀ q ∈ l, q.2.und m = true) : Has (σ.map (keepS m)) n l := by
  refine ⟨by rw [List.length_map]; exact h.1, fun q hq => ?_⟩
  rw [List.getElem?_map, h.2 q hq]
  show some (keepS m (some q.2)) = _
  unfold keepS
  dsimp only
  rw [if_pos (hu q hq)]
theorem Has.sub {σ : Sa} {n : Nat} {l l' : List (Nat × D)} (h : Has σ n l) (hs : ∀ q ∈ l', q ∈ l) : Has σ n l' := ⟨h.1, fun q hq => h.2 q (hs q hq)⟩
end QX

set_option maxRecDepth 100000
set_option maxHeartbeats 1000000
/-! QZ4: any drawn board -/
namespace QX
open PySem PySem.Spec PyProof.Rows L2 HX
theorem map_of {ds : List D} (P : Int → Prop) (h : ∀ d ∈ ds, ∃ z, d = .int z ∧ P z) : ∃ zs : List Int, ds = zs.map .int ∧ ∀ z ∈ zs, P z := by
  induction ds with
  | nil => exact ⟨[], rfl, fun z hz => by simp at hz⟩
  | cons d ds ih =>
    obtain ⟨z, rfl, hz⟩ := h d List.mem_cons_self
    obtain ⟨zs, rfl, hzs⟩ := ih fun d hd => h d (List.mem_cons_of_mem _ hd)
    refine ⟨z :: zs, rfl, fun y hy => ?_⟩
    rcases List.mem_cons.mp hy with rfl | hy
    · exact hz
    · exact hzs y hy
theorem last_at {A : Mem} {c : Cell} {n : Nat} (h : A.length = n) : (A ++ [c])[n]? = some c := by
  rw [List.getElem?_append_right (by omega), h, Nat.sub_self]; rfl
theorem append_last {A : Mem} {ds : List D} {d : D} {n : Nat} (h : A.length = n) (hl : ds.length < 16777216) : gAppend (.ref n) [d] (A ++ [.lst ds]) = .ok .non (A ++ [.lst (ds ++ [d])]) := by
  rw [gAppend_ref (last_at h) hl, List.set_append_right _ _ (by omega), h, Nat.sub_self]; rfl
theorem isL_last {A : Mem} {ds : List D} {n : Nat} (h : A.length = n) : isL (A ++ [.lst ds]) (.ref n) = true := by
  rw [isL_ref, last_at h]; rfl
section
variable {M0 g : Mem} {p k : Nat} {x : Cell} {σ : Sa} {many cups : Int}
theorem any_ends (hp : p < M0.length) (hw : Wf (M0.set p x ++ g)) (hl : σ.length = 11) (h0 : σ[0]? = some (some (.ref p))) (h2 : σ[2]? = some (some (.int cups))) (h3 : σ[3]? = some (some (.int many))) (hm : 1 ≤ many) (hm6 : many ≤ 6) (hc : 0 ≤ cups) (hc4 : cups ≤ 4) (ho : PenOk (k + 4) x) :
    ∃ zs x', fTrim (fCompC (fIt gRange1 (fCons (fBin gIx (fLst (fCons (fC (.int 1)) (fCons (fC (.int 1)) (fCons (fC (.int 2)) (fCons (fC (.int 0)) (fCons (fC (.int 3)) fNil)))))) (fCall m_law_draw_321cf4 (fCons (fVar 0) (fCons (fC (.int 5)) fNil)))) fNil)) [9] (.name 9) fYes (fCall m_law_draw_321cf4 (fCons (fVar 0) (fCons (fBin gAdd (fVar 3) (fVar 2)) fNil)))) σ (M0.set p x ++ g) = .ok (.lst (zs.map .int)) (M0.set p x' ++ g) ∧ EndsOk (many + cups) zs ∧ PenOk k x' := by
  obtain ⟨z, x1, e1, z0, z5, o1⟩ := draw_in (g := g) (k := k + 3) (n := 5) hp ho (by decide) (by decide)
  have hi : ∃ m : Nat, m ≤ 3 ∧ fIt gRange1 (fCons (fBin gIx (fLst (fCons (fC (.int 1)) (fCons (fC (.int 1)) (fCons (fC (.int 2)) (fCons (fC (.int 0)) (fCons (fC (.int 3)) fNil)))))) (fCall m_law_draw_321cf4 (fCons (fVar 0) (fCons (fC (.int 5)) fNil)))) fNil) σ (M0.set p x ++ g) = .ok ⟨nums 0 m, fun _ => true⟩ (M0.set p x1 ++ g) := by
    have hz : z = 0 ∨ z = 1 ∨ z = 2 ∨ z = 3 ∨ z = 4 := by omega
    have at_ : ∀ n : Int, gIx (.lst [.int 1, .int 1, .int 2, .int 0, .int 3]) (.int z) (M0.set p x1 ++ g) = .ok (.int n) (M0.set p x1 ++ g) → mid n = true → fIt gRange1 (fCons (fBin gIx (fLst (fCons (fC (.int 1)) (fCons (fC (.int 1)) (fCons (fC (.int 2)) (fCons (fC (.int 0)) (fCons (fC (.int 3)) fNil)))))) (fCall m_law_draw_321cf4 (fCons (fVar 0) (fCons (fC (.int 5)) fNil)))) fNil) σ (M0.set p x ++ g) = .ok ⟨nums 0 n.toNat, fun _ => true⟩ (M0.set p x1 ++ g) := by
      intro n hn hmid
      have hf : few 5 = true := by decide
      simp only [ev_it, ev_cons, ev_bin, ev_lst, ev_c, ev_nil, bind_ok, List.length_cons, List.length_nil, Nat.zero_add, Nat.reduceAdd, hf, if_true, ev_call, ev_var, h0, e1, hn, gRange1_int, hmid]
    rcases hz with rfl | rfl | rfl | rfl | rfl
    · exact ⟨1, by decide, at_ 1 rfl rfl⟩
    · exact ⟨1, by decide, at_ 1 rfl rfl⟩
    · exact ⟨2, by decide, at_ 2 rfl rfl⟩
    · exact ⟨0, by decide, at_ 0 rfl rfl⟩
    · exact ⟨3, by decide, at_ 3 rfl rfl⟩
  obtain ⟨m, hm3, hi⟩ := hi
  obtain ⟨ds, x2, c1, c2, c3, c4⟩ := comp_pen (k := k) (b := 1) (R := fun _ d => ∃ z, d = D.int z ∧ 0 ≤ z ∧ z < many + cups) (t := .name 9) (vs := [9]) (e := fCall m_law_draw_321cf4 (fCons (fVar 0) (fCons (fBin gAdd (fVar 3) (fVar 2)) fNil))) hp hi (fun _ => rfl) hw (by rw [nums_len]; omega) (by rw [nums_len]; exact o1.less (by omega)) (fun im d n h => by obtain ⟨z, rfl, _⟩ := h; rfl) (fun im him j y g' oy wy => by
    obtain ⟨i, hi, rfl⟩ := List.getElem_of_mem him
    have hlt : i < m := by rw [nums_len] at hi; exact hi
    have e := nums_at m 0 i hlt
    rw [List.getElem?_eq_getElem hi] at e
    rw [Option.some.inj e]
    refine ⟨_, rfl, ?_⟩
    obtain ⟨z, y', e2, q1, q2, q3⟩ := draw_in (g := g') (k := j) (n := many + cups) hp oy (by omega) (by omega)
    refine ⟨.int z, y', ?_, ⟨z, rfl, q1, q2⟩, q3⟩
    simp only [wipeA]
    simp [h0, h2, h3, e2])
  obtain ⟨zs, rfl, hz⟩ := map_of (fun z => 0 ≤ z ∧ z < many + cups) (ds := ds) (fun d hd => by
    obtain ⟨i, hi, rfl⟩ := List.getElem_of_mem hd
    exact c3 i _ _ (List.getElem?_eq_getElem (by omega)) (List.getElem?_eq_getElem hi))
  refine ⟨zs, x2, c1, ⟨?_, hz⟩, c4⟩
  rw [List.length_map] at c2
  dsimp only at c2
  rw [nums_len] at c2
  omega
theorem any_cups {zs : List Int} (hp : p < M0.length) (hw : Wf (M0.set p x ++ g)) (hl : σ.length = 11) (h0 : σ[0]? = some (some (.ref p))) (h2 : σ[2]? = some (some (.int cups))) (h3 : σ[3]? = some (some (.int many))) (h8 : σ[8]? = some (some (.lst (zs.map .int)))) (hm : 1 ≤ many) (hm6 : many ≤ 6) (hc : 0 ≤ cups) (hc4 : cups ≤ 4) (hz : EndsOk (many + cups) zs) (ho : PenOk (k + 3) x) :
    ∃ ys x', fTrim (fCompC (fIter (fVar 8)) [10] (.name 10) fYes (fIf (fAndT (fTest (fBin (gCmp cGt) (fVar 2) (fC (.int 0)))) (fTest (fBin (gEq false) (fCall m_law_draw_321cf4 (fCons (fVar 0) (fCons (fC (.int 3)) fNil))) (fC (.int 0))))) (fBin gAdd (fVar 3) (fBin gMod (fVar 10) (fVar 2))) (fVar 10))) σ (M0.set p x ++ g) = .ok (.lst (ys.map .int)) (M0.set p x' ++ g) ∧ EndsOk (many + cups) ys ∧ PenOk k x' := by
  have hl3 := hz.1
  have hi : fIter (fVar 8) σ (M0.set p x ++ g) = .ok ⟨(zs.map D.int).map .d, fun _ => true⟩ (M0.set p x ++ g) := by simp only [ev_iter, ev_var, h8, bind_ok, gIter_lst]
  obtain ⟨ds, x2, c1, c2, c3, c4⟩ := comp_pen (k := k) (b := 1) (R := fun _ d => ∃ z, d = D.int z ∧ 0 ≤ z ∧ z < many + cups) (t := .name 10) (vs := [10]) (e := fIf (fAndT (fTest (fBin (gCmp cGt) (fVar 2) (fC (.int 0)))) (fTest (fBin (gEq false) (fCall m_law_draw_321cf4 (fCons (fVar 0) (fCons (fC (.int 3)) fNil))) (fC (.int 0))))) (fBin gAdd (fVar 3) (fBin gMod (fVar 10) (fVar 2))) (fVar 10)) hp hi (fun _ => rfl) hw (by simp; omega) (by simp only [List.length_map]; exact ho.less (by omega)) (fun im d n h => by obtain ⟨z, rfl, _⟩ := h; rfl) (fun im him j y g' oy wy => by
    obtain ⟨d, hd, rfl⟩ := List.mem_map.mp him
    obtain ⟨e, he, rfl⟩ := List.mem_map.mp hd
    have he2 := hz.2 e he
    refine ⟨_, rfl, ?_⟩
    have k10 : ((wipeA σ [10]).set 10 (some (D.int e)))[10]? = some (some (.int e)) := List.getElem?_set_self (by simp [wipeA, hl])
    have k0 : ((wipeA σ [10]).set 10 (some (D.int e)))[0]? = some (some (.ref p)) := by simp [wipeA, h0]
    have k2 : ((wipeA σ [10]).set 10 (some (D.int e)))[2]? = some (some (.int cups)) := by simp [wipeA, h2]
    have k3 : ((wipeA σ [10]).set 10 (some (D.int e)))[3]? = some (some (.int many)) := by simp [wipeA, h3]
    generalize (wipeA σ [10]).set 10 (some (D.int e)) = σ1 at k10 k0 k2 k3
    by_cases hc0 : 0 < cups
    · obtain ⟨z, y', e2, q1, q2, q3⟩ := draw_in (g := g') (k := j) (n := 3) hp oy (by decide) (by decide)
      by_cases hz0 : z = 0
      · refine ⟨.int (many + e % cups), y', ?_, ⟨_, rfl, ?_, ?_⟩, q3⟩
        · subst hz0
          simp [k0, k2, k3, k10, e2, cGt, hc0]
        · have := Int.emod_nonneg e (show cups ≠ 0 by omega); omega
        · have := Int.emod_lt_of_pos e hc0; omega
      · refine ⟨.int e, y', ?_, ⟨_, rfl, he2.1, he2.2⟩, q3⟩
        simp [k0, k2, k3, k10, e2, cGt, hc0, hz0]
    · refine ⟨.int e, y, ?_, ⟨_, rfl, he2.1, he2.2⟩, oy.less (by omega)⟩
      simp [k0, k2, k3, k10, cGt, hc0])
  obtain ⟨ys, rfl, hy⟩ := map_of (fun z => 0 ≤ z ∧ z < many + cups) (ds := ds) (fun d hd => by
    obtain ⟨i, hi, rfl⟩ := List.getElem_of_mem hd
    exact c3 i _ _ (List.getElem?_eq_getElem (by omega)) (List.getElem?_eq_getElem hi))
  refine ⟨ys, x2, c1, ⟨?_, hy⟩, c4⟩
  simp only [List.length_map] at c2
  omega
end
end QX

set_option maxRecDepth 100000
set_option maxHeartbeats 1000000
/-! QZ5: any drawn board, its loops -/
namespace QX
open PySem PySem.Spec PyProof.Rows L2 HX
section
variable {M0 : Mem} {p k : Nat} {x : Cell} {many cups : Int}
def stepFS : FS := (sSeq (sSet 8 (fTrim (fCompC (fIt gRange1 (fCons (fBin gIx (fLst (fCons (fC (.int 1)) (fCons (fC (.int 1)) (fCons (fC (.int 2)) (fCons (fC (.int 0)) (fCons (fC (.int 3)) fNil)))))) (fCall m_law_draw_321cf4 (fCons (fVar 0) (fCons (fC (.int 5)) fNil)))) fNil)) [9] (.name 9) fYes (fCall m_law_draw_321cf4 (fCons (fVar 0) (fCons (fBin gAdd (fVar 3) (fVar 2)) fNil))))))
  (sExpr (fMeth gAppend (fVar 6) (fCons (fCall gTuple (fCons (fTrim (fCompC (fIter (fVar 8)) [10] (.name 10) fYes (fIf (fAndT (fTest (fBin (gCmp cGt) (fVar 2) (fC (.int 0)))) (fTest (fBin (gEq false) (fCall m_law_draw_321cf4 (fCons (fVar 0) (fCons (fC (.int 3)) fNil))) (fC (.int 0))))) (fBin gAdd (fVar 3) (fBin gMod (fVar 10) (fVar 2))) (fVar 10)))) fNil)) fNil))))
abbrev anyL (p : Nat) (cups many : Int) (n : Nat) : List (Nat × D) := [(0, .ref p), (2, .int cups), (3, .int many), (4, .ref n)]
theorem any_one {A : Mem} {ss : List D} {σ : Sa} (hp : p < M0.length) (hA : A = M0.set p x ++ [g]) (hs : Has σ 11 ((6, .ref (M0.length + 1)) :: anyL p cups many M0.length)) (hw : Wf (A ++ [.lst ss])) (hl : ss.length < 1000) (hm : 1 ≤ many) (hm6 : many ≤ 6) (hc : 0 ≤ cups) (hc4 : cups ≤ 4) (ho : PenOk (k + 7) x) :
    ∃ es x' σ', stepFS σ (A ++ [.lst ss]) = .ok (.nx σ') (M0.set p x' ++ [g] ++ [.lst (ss ++ [stepT es])]) ∧ EndsOk (many + cups) es ∧ PenOk k x' ∧ Has σ' 11 ((6, .ref (M0.length + 1)) :: anyL p cups many M0.length) := by
  subst hA
  have h0 := hs.at (i := 0) (d := .ref p) (by simp)
  have h2 := hs.at (i := 2) (d := .int cups) (by simp)
  have h3 := hs.at (i := 3) (d := .int many) (by simp)
  rw [List.append_assoc] at hw ⊢
  obtain ⟨zs, x1, e1, z1, o1⟩ := any_ends (k := k + 3) hp hw hs.1 h0 h2 h3 hm hm6 hc hc4 ho
  have hs1 : Has (σ.set 8 (some (.lst (zs.map .int)))) 11 ((8, .lst (zs.map .int)) :: (6, .ref (M0.length + 1)) :: anyL p cups many M0.length) := hs.put (by decide) (by simp)
  have w1 := wf_pen hw o1
  obtain ⟨ys, x2, e2, z2, o2⟩ := any_cups (k := k) hp w1 hs1.1 (hs1.at (i := 0) (d := .ref p) (by simp)) (hs1.at (i := 2) (d := .int cups) (by simp)) (hs1.at (i := 3) (d := .int many) (by simp)) (hs1.at (i := 8) (d := .lst (zs.map .int)) (by simp)) hm hm6 hc hc4 z1 o1
  have h6 := hs1.at (i := 6) (d := .ref (M0.length + 1)) (by simp)
  refine ⟨ys, x2, _, ?_, z2, o2, hs1.sub (by simp)⟩
  refine (seq_nx (set_ev e1)).trans (expr_ev (d := .non) ?_)
  have hn : (M0.set p x1 ++ [g]).length = M0.length + 1 := by simp
  have hn2 : (M0.set p x2 ++ [g]).length = M0.length + 1 := by simp
  have il : isL (M0.set p x1 ++ ([g] ++ [.lst ss])) (.ref (M0.length + 1)) = true := by
    rw [← List.append_assoc]
    exact isL_last hn
  rw [ev_meth, ev_var, h6]
  simp only [bind_ok, il, if_true, ev_cons, ev_call, ev_nil]
  rw [e2]
  simp only [bind_ok, gTuple_lst]
  rw [← List.append_assoc, append_last hn2 (by omega)]
  rfl
theorem undA_map {α : Type} {n : Nat} {f : α → D} (h : ∀ a, (f a).und n = true) (xs : List α) : D.undA n (xs.map f) = true := by
  rw [undA_iff]
  intro d hd
  obtain ⟨a, _, rfl⟩ := List.mem_map.mp hd
  exact h a
theorem und_anyL {p n m : Nat} {cups many : Int} (hp : p < m) (hn : n < m) : ∀ q ∈ anyL p cups many n, q.2.und m = true := by
  intro q hq
  simp only [anyL, List.mem_cons, List.mem_nil_iff, or_false] at hq
  rcases hq with rfl | rfl | rfl | rfl
  · simpa [D.und, Nat.blt_eq] using hp
  · rfl
  · rfl
  · simpa [D.und, Nat.blt_eq] using hn
def wheelFS : FS := (sSeq (sSet 6 (fNew fNil))
  (sSeq (sFor (fIt gRange1 (fCons (fBin gAdd (fC (.int 1)) (fCall m_law_draw_321cf4 (fCons (fVar 0) (fCons (fC (.int 4)) fNil)))) fNil)) (.name 7)
  stepFS)
  (sExpr (fMeth gAppend (fVar 4) (fCons (fCall gTuple (fCons (fVar 6) fNil)) fNil)))))
theorem any_wheel {ws : List (List (List Int))} {σ : Sa} (hp : p < M0.length) (hs : Has σ 11 (anyL p cups many M0.length)) (hw : Wf M0) (hl : ws.length < 1000) (hm : 1 ≤ many) (hm6 : many ≤ 6) (hc : 0 ≤ cups) (hc4 : cups ≤ 4) (ho : PenOk (k + 29) x) :
    ∃ w x' σ' e, wheelFS σ (M0.set p x ++ [.lst (ws.map wheelT)]) = .ok (.nx σ') (M0.set p x' ++ [.lst ((ws ++ [w]).map wheelT)] ++ [e]) ∧ WheelOk (many + cups) w ∧ PenOk k x' ∧ Has σ' 11 (anyL p cups many M0.length) := by
  have wW : ∀ (y : Cell) (j : Nat) (ds : List D) (us : List (List (List Int))), PenOk j y → (∀ n, D.undA n ds = true) → Wf (M0.set p y ++ [.lst (us.map wheelT)] ++ [.lst ds]) := by
    intro y j ds us oy hd
    refine Wf.push ?_ (hd _)
    exact Wf.push (wf_set hw oy) (undA_map (fun a => und_wheel a) us)
  have h0 := hs.at (i := 0) (d := .ref p) (by simp)
  obtain ⟨z, x1, e1, z0, z4, o1⟩ := draw_in (g := [.lst (ws.map wheelT), .lst []]) (k := k + 28) (n := 4) hp ho (by decide) (by decide)
  have hs1 : Has (σ.set 6 (some (.ref (M0.length + 1)))) 11 ((6, .ref (M0.length + 1)) :: anyL p cups many M0.length) := hs.put (by decide) (by simp)
  have f1 : sSet 6 (fNew fNil) σ (M0.set p x ++ [.lst (ws.map wheelT)]) = .ok (.nx (σ.set 6 (some (.ref (M0.length + 1))))) (M0.set p x ++ [.lst (ws.map wheelT), .lst []]) := by
    refine set_ev ?_
    have : few 0 = true := by decide
    simp [this]
  have h0' := hs1.at (i := 0) (d := .ref p) (by simp)
  generalize σ.set 6 (some (D.ref (M0.length + 1))) = σ1 at hs1 f1 h0'
  have hmid : mid (1 + z) = true := by
    simp only [mid, Bool.and_eq_true, decide_eq_true_eq]
    omega
  have fi : fIt gRange1 (fCons (fBin gAdd (fC (.int 1)) (fCall m_law_draw_321cf4 (fCons (fVar 0) (fCons (fC (.int 4)) fNil)))) fNil) σ1 (M0.set p x ++ [.lst (ws.map wheelT), .lst []]) = .ok ⟨nums 0 (1 + z).toNat, fun _ => true⟩ (M0.set p x1 ++ [.lst (ws.map wheelT), .lst []]) := by
    simp only [ev_it, ev_cons, ev_bin, ev_c, ev_call, ev_var, h0', ev_nil, bind_ok, e1, gAdd_int, gRange1_int, hmid, if_true]
  obtain ⟨σ2, M2, f2, ss, y, rfl, v1, v2, v3, v4⟩ := for_nums (b := stepFS) (n := (M0.set p x1 ++ [Cell.lst (ws.map wheelT), .lst []]).length) (m := (1 + z).toNat) (i := 7) (σ := σ1) (M := M0.set p x1 ++ [.lst (ws.map wheelT), .lst []])
    (fun j σ M => ∃ ss y, M = M0.set p y ++ [.lst (ws.map wheelT)] ++ [.lst (ss.map stepT)] ∧ ss.length = j ∧ (∀ s ∈ ss, EndsOk (many + cups) s) ∧ PenOk (k + 7 * ((1 + z).toNat - j)) y ∧ Has σ 11 ((6, .ref (M0.length + 1)) :: anyL p cups many M0.length))
    ⟨[], x1, by simp, rfl, fun s h => by simp at h, o1.less (by omega), hs1⟩ (fun j σ M hj hv => by
      obtain ⟨ss, y, rfl, u1, u2, u3, u4⟩ := hv
      have e3 : (1 + z).toNat - j = ((1 + z).toNat - (j + 1)) + 1 := by omega
      have oy : PenOk ((k + 7 * ((1 + z).toNat - (j + 1))) + 7) y := by
        rw [e3, Nat.mul_add, Nat.mul_one, ← Nat.add_assoc] at u3
        exact u3
      obtain ⟨es, x', σ', g1, g2, g3, g4⟩ := any_one (g := .lst (ws.map wheelT)) (ss := ss.map stepT) (σ := σ.set 7 (some (.int (j : Int)))) hp rfl (u4.set (by simp)) (wW y _ _ ws u3 (fun n => undA_map (fun a => und_step a) ss)) (by rw [List.length_map]; omega) hm hm6 hc hc4 oy
      refine ⟨σ', _, .inl g1, ?_⟩
      rw [gc_same (by simp)]
      refine ⟨ss ++ [es], x', by rw [List.map_append]; rfl, by rw [List.length_append, u1]; rfl, fun s hs => ?_, g3, g4⟩
      rcases List.mem_append.mp hs with q | q
      · exact u2 s q
      · rw [List.mem_singleton.mp q]; exact g2)
  rw [Nat.sub_self, Nat.mul_zero, Nat.add_zero] at v3
  have h4 := v4.at (i := 4) (d := .ref M0.length) (by simp)
  have h6 := v4.at (i := 6) (d := .ref (M0.length + 1)) (by simp)
  refine ⟨ss, y, σ2, .lst (ss.map stepT), ?_, ⟨by omega, by omega, v2⟩, v3, v4.sub (by simp)⟩
  refine (seq_nx f1).trans ((seq_nx (σ1 := σ2) (M1 := M0.set p y ++ [.lst (ws.map wheelT)] ++ [.lst (ss.map stepT)]) ?_).trans (expr_ev (d := .non) ?_))
  · rw [ev_for, fi]
    exact f2
  · have a4 : (M0.set p y ++ [.lst (ws.map wheelT)] ++ [.lst (ss.map stepT)])[M0.length]? = some (.lst (ws.map wheelT)) := by
      rw [List.append_assoc, List.getElem?_append_right (by simp)]
      simp
    have a6 : (M0.set p y ++ [.lst (ws.map wheelT)] ++ [.lst (ss.map stepT)])[M0.length + 1]? = some (.lst (ss.map stepT)) := last_at (by simp)
    have il : isL (M0.set p y ++ [.lst (ws.map wheelT)] ++ [.lst (ss.map stepT)]) (.ref M0.length) = true := by rw [isL_ref, a4]; rfl
    rw [ev_meth, ev_var, h4]
    simp only [bind_ok, il, if_true, ev_cons, ev_call, ev_nil, ev_var, h6]
    rw [gTuple_ref a6]
    simp only [bind_ok]
    rw [gAppend_ref a4 (by rw [List.length_map]; omega)]
    congr 1
    rw [List.append_assoc, List.set_append_right _ _ (by simp)]
    simp [wheelT]
def boardFS : FS := (sSeq (sAsg (fTup (fCons (fBin gAdd (fC (.int 1)) (fCall m_law_draw_321cf4 (fCons (fVar 0) (fCons (fVar 1) fNil)))) (fCons (fCall m_law_draw_321cf4 (fCons (fVar 0) (fCons (fBin gAdd (fVar 2) (fC (.int 1))) fNil))) fNil))) (.tup [3, 2]))
  (sSeq (sSet 4 (fNew fNil))
  (sSeq (sFor (fIt gRange1 (fCons (fVar 3) fNil)) (.name 5)
  wheelFS)
  (sRet (fTup (fCons (fCall gTuple (fCons (fVar 4) fNil)) (fCons (fVar 2) fNil)))))))
theorem any_board_body : b_law_any_board_7df546 = boardFS := rfl
theorem m_any_board_eq {M : Mem} {most cm : Int} (hx : M[p]? = some x) (hw : Wf M) (ho : PenOk (k + 200) x) (h1 : 1 ≤ most) (h6 : most ≤ 6) (hc0 : 0 ≤ cm) (hc4 : cm ≤ 4) :
    ∃ ws c x', m_law_any_board_7df546 [.ref p, .int most, .int cm] M = .ok (boardT ws c) (M.set p x') ∧ BoardOk ws c ∧ (ws.length : Int) ≤ most ∧ c ≤ cm ∧ PenOk k x' := by
  have hp : p < M.length := (List.getElem?_eq_some_iff.mp hx).1
  have hM : M = M.set p x ++ [] := by
    rw [List.append_nil]
    refine List.ext_getElem? fun i => ?_
    by_cases hi : p = i
    · subst hi; rw [List.getElem?_set_self hp, hx]
    · rw [List.getElem?_set_ne hi]
  obtain ⟨z1, x1, d1, a1, a2, o1⟩ := draw_in (M0 := M) (g := []) (k := k + 199) (n := most) hp ho h1 (by omega)
  obtain ⟨z2, x2, d2, b1, b2, o2⟩ := draw_in (M0 := M) (g := []) (k := k + 198) (n := cm + 1) hp o1 (by omega) (by omega)
  have hf2 : few 2 = true := by decide
  have hf0 : few 0 = true := by decide
  have s1 : sAsg (fTup (fCons (fBin gAdd (fC (.int 1)) (fCall m_law_draw_321cf4 (fCons (fVar 0) (fCons (fVar 1) fNil)))) (fCons (fCall m_law_draw_321cf4 (fCons (fVar 0) (fCons (fBin gAdd (fVar 2) (fC (.int 1))) fNil))) fNil))) (.tup [3, 2]) (startA 11 [.ref p, .int most, .int cm]) M = .ok (.nx [some (.ref p), some (.int most), some (.int z2), some (.int (1 + z1)), none, none, none, none, none, none, none]) (M.set p x2) := by
    refine asg_ev (d := .tup [.int (1 + z1), .int z2]) ?_ rfl
    rw [List.append_nil] at d1 d2
    have hM' : M = M.set p x := by rw [List.append_nil] at hM; exact hM
    rw [← hM', List.append_nil] at d1
    rw [List.append_nil] at d2
    simp [startA, d1, d2, hf2]
  have hs : Has [some (D.ref p), some (.int most), some (.int z2), some (.int (1 + z1)), some (.ref M.length), none, none, none, none, none, none] 11 (anyL p z2 (1 + z1) M.length) := by
    refine ⟨rfl, fun q hq => ?_⟩
    simp only [anyL, List.mem_cons, List.mem_nil_iff, or_false] at hq
    rcases hq with rfl | rfl | rfl | rfl <;> rfl
  have hmid : mid (1 + z1) = true := by
    simp only [mid, Bool.and_eq_true, decide_eq_true_eq]
    omega
  obtain ⟨σ2, M2, f2, ws, y, rfl, v1, v2, v3, v4⟩ := for_nums (b := wheelFS) (n := (M.set p x2 ++ [Cell.lst []]).length) (m := (1 + z1).toNat) (i := 5) (σ := [some (D.ref p), some (.int most), some (.int z2), some (.int (1 + z1)), some (.ref M.length), none, none, none, none, none, none]) (M := M.set p x2 ++ [.lst []])
    (fun j σ N => ∃ ws y, N = M.set p y ++ [.lst (ws.map wheelT)] ∧ ws.length = j ∧ (∀ w ∈ ws, WheelOk ((1 + z1) + z2) w) ∧ PenOk (k + 29 * ((1 + z1).toNat - j)) y ∧ Has σ 11 (anyL p z2 (1 + z1) M.length))
    ⟨[], x2, rfl, rfl, fun s h => by simp at h, o2.less (by omega), hs⟩ (fun j σ N hj hv => by
      obtain ⟨ws, y, rfl, u1, u2, u3, u4⟩ := hv
      have e3 : (1 + z1).toNat - j = ((1 + z1).toNat - (j + 1)) + 1 := by omega
      have oy : PenOk ((k + 29 * ((1 + z1).toNat - (j + 1))) + 29) y := by
        rw [e3, Nat.mul_add, Nat.mul_one, ← Nat.add_assoc] at u3
        exact u3
      obtain ⟨w, x', σ', e, g1, g2, g3, g4⟩ := any_wheel (ws := ws) (σ := σ.set 5 (some (.int (j : Int)))) hp (u4.set (by simp)) hw (by omega) (by omega) (by omega) (by omega) (by omega) oy
      refine ⟨σ', _, .inl g1, ?_⟩
      have hn : (M.set p x' ++ [Cell.lst ((ws ++ [w]).map wheelT)]).length = (M.set p x2 ++ [Cell.lst []]).length := by simp
      rw [gc_app hn (Wf.push (wf_set hw g3) (undA_map (fun a => und_wheel a) _)) (by simp)]
      refine ⟨ws ++ [w], x', rfl, by rw [List.length_append, u1]; rfl, fun s hs => ?_, g3, g4.keep (und_anyL (by simp; omega) (by simp))⟩
      rcases List.mem_append.mp hs with q | q
      · exact u2 s q
      · rw [List.mem_singleton.mp q]; exact g2)
  rw [Nat.sub_self, Nat.mul_zero, Nat.add_zero] at v3
  have h4 := v4.at (i := 4) (d := .ref M.length) (by simp)
  have h2 := v4.at (i := 2) (d := .int z2) (by simp)
  refine ⟨ws, z2, y, ?_, ⟨by omega, by omega, by omega, by omega, fun w hw' => ?_⟩, by omega, by omega, v3⟩
  · refine (run_rt (M1 := M.set p y ++ [.lst (ws.map wheelT)]) (d := boardT ws z2) rfl ?_).trans (trim_app (by simp) (wf_set hw v3) (und_board ws z2))
    rw [any_board_body]
    refine (seq_nx s1).trans ((seq_nx (σ1 := [some (.ref p), some (.int most), some (.int z2), some (.int (1 + z1)), some (.ref M.length), none, none, none, none, none, none]) (M1 := M.set p x2 ++ [.lst []]) ?_).trans ((seq_nx (σ1 := σ2) (M1 := M.set p y ++ [.lst (ws.map wheelT)]) ?_).trans (ret_ev ?_)))
    · simp [hf0]
    · rw [ev_for]
      have : fIt gRange1 (fCons (fVar 3) fNil) [some (.ref p), some (.int most), some (.int z2), some (.int (1 + z1)), some (.ref M.length), none, none, none, none, none, none] (M.set p x2 ++ [.lst []]) = .ok ⟨nums 0 (1 + z1).toNat, fun _ => true⟩ (M.set p x2 ++ [.lst []]) := by
        simp only [ev_it, ev_cons, ev_var, ev_nil, List.getElem?_cons_succ, List.getElem?_cons_zero, bind_ok, gRange1_int, hmid, if_true]
      rw [this]
      exact f2
    · have a4 : (M.set p y ++ [.lst (ws.map wheelT)])[M.length]? = some (.lst (ws.map wheelT)) := last_at (by simp)
      simp only [ev_tup, ev_cons, ev_call, ev_nil, ev_var, h4, h2, bind_ok]
      rw [gTuple_ref a4]
      simp only [bind_ok, List.length_cons, List.length_nil, Nat.zero_add, Nat.reduceAdd, hf2, if_true]
      rfl
  · have := v2 w hw'
    have e : ((ws.length : Nat) : Int) + z2 = 1 + z1 + z2 := by omega
    rw [e]
    exact this
end
end QX

set_option maxRecDepth 100000
set_option maxHeartbeats 1000000
/-! QZ6: boards joined -/
namespace QX
open PySem PySem.Spec PyProof.Rows L2 HX
/-- tuple([e for x in t]), e turning nothing -/
theorem tup_comp {fa : F D} {vs : List Nat} {i : Nat} {e : F D} {σ : Sa} {M : Mem} {ds : List D} (f : D → D) (ha : fa σ M = .ok (.tup ds) M) (hw : Wf M) (hl : ds.length ≤ 1000000) (hu : ∀ d ∈ ds, (f d).und M.length = true)
    (he : ∀ d ∈ ds, ∀ M', Wf M' → M.length < M'.length → e ((wipeA σ vs).set i (some d)) M' = .ok (f d) M') : fCall gTuple (fCons (fTrim (fCompC (fIter fa) vs (.name i) fYes e)) fNil) σ M = .ok (.tup (ds.map f)) M := by
  have h := comp_pure (fi := fIter fa) (vs := vs) (t := .name i) (e := e) (σ := σ) (M := M) (it := ⟨ds.map .d, fun _ => true⟩) (fun im => match im with | .d d => f d | .pr _ => .non) (by rw [ev_iter, ha]; rfl) (fun _ => rfl) hw (by simpa using hl) (fun im him => by
    obtain ⟨d, hd, rfl⟩ := List.mem_map.mp him
    exact ⟨hu d hd, _, rfl, fun M' w1 w2 => he d hd M' w1 w2⟩)
  rw [ev_call, ev_cons, h]
  simp only [bind_ok, ev_nil, List.map_map, gTuple_lst]
  rfl
/-! ### links -/
def linkT : Option Int → D
  | none => .non
  | some i => .int i
def linksT (ls : List (Option Int)) : D := .tup (ls.map linkT)
def nones (ls : List (Option Int)) : Nat := (ls.filter (·.isNone)).length
def LinksOk (n : Int) (ls : List (Option Int)) : Prop := ∀ l ∈ ls, ∀ i, l = some i → 0 ≤ i ∧ i < n
/-- the numbers of the cups of the first board -/
def cupsNum (w : Int) : Int → List (Option Int) → List Int
  | _, [] => []
  | c, none :: ls => c :: cupsNum w (c + 1) ls
  | c, some l :: ls => (w + l) :: cupsNum w c ls
theorem cupsNum_len (w : Int) : ∀ (ls : List (Option Int)) (c : Int), (cupsNum w c ls).length = ls.length
  | [], _ => rfl
  | none :: ls, c => by simp only [cupsNum, List.length_cons, cupsNum_len w ls]
  | some l :: ls, c => by simp only [cupsNum, List.length_cons, cupsNum_len w ls]
theorem cupsNum_at (w : Int) : ∀ (ls : List (Option Int)) (c : Int) (i : Nat) (l : Option Int), ls[i]? = some l → (cupsNum w c ls)[i]? = some (match l with | none => c + nones (ls.take i) | some j => w + j)
  | [], _, _, _, h => by simp at h
  | none :: ls, c, 0, l, h => by simp at h; subst h; simp [cupsNum, nones]
  | some k :: ls, c, 0, l, h => by simp at h; subst h; simp [cupsNum]
  | none :: ls, c, i + 1, l, h => by
    rw [cupsNum, List.getElem?_cons_succ, cupsNum_at w ls (c + 1) i l (by simpa using h)]
    cases l with
    | none => simp [nones]; omega
    | some j => rfl
  | some k :: ls, c, i + 1, l, h => by
    rw [cupsNum, List.getElem?_cons_succ, cupsNum_at w ls c i l (by simpa using h)]
    cases l with
    | none => simp [nones]
    | some j => rfl
def upTo (lo : Int) : Nat → List Int
  | 0 => []
  | n + 1 => lo :: upTo (lo + 1) n
theorem upTo_len : ∀ (n : Nat) (lo : Int), (upTo lo n).length = n
  | 0, _ => rfl
  | n + 1, lo => by simp only [upTo, List.length_cons, upTo_len n]
theorem upTo_at : ∀ (n : Nat) (lo : Int) (i : Nat), i < n → (upTo lo n)[i]? = some (lo + i)
  | n + 1, lo, 0, _ => by simp [upTo]
  | n + 1, lo, i + 1, h => by
    rw [upTo, List.getElem?_cons_succ, upTo_at n (lo + 1) i (by omega)]
    congr 1
    omega
theorem numsD_up : ∀ (n : Nat) (lo : Int), numsD lo n = (upTo lo n).map .int
  | 0, _ => rfl
  | n + 1, lo => by simp only [numsD, upTo, List.map_cons, numsD_up n]
def firstNum (w1 w2 : Nat) (ls : List (Option Int)) : List Int := upTo 0 w1 ++ cupsNum w1 (w1 + w2) ls
def secNum (w1 w2 k c2 : Nat) : List Int := upTo w1 w2 ++ upTo (w1 + w2 + k) c2
def renumW (f : List Int) (ws : List (List (List Int))) : List (List (List Int)) := ws.map fun w => w.map fun s => s.map fun e => f.getD e.toNat 0
section
variable {M : Mem}
theorem m_renumbered_eq {ws : List (List (List Int))} {f : List Int} {n : Int} (hw : Wf M) (hl : ws.length ≤ 1000) (ho : ∀ w ∈ ws, WheelOk n w) (hn : n ≤ f.length) : m_renumbered [wheelsT ws, .lst (f.map .int)] M = .ok (wheelsT (renumW f ws)) M := by
  have hget : ∀ e : Int, 0 ≤ e → e < n → atI (f.map D.int) e = some (.int (f.getD e.toNat 0)) := by
    intro e h0 h1
    have hlt : e.toNat < f.length := by omega
    rw [atI_nn h0, List.getElem?_map, List.getD_eq_getElem?_getD, List.getElem?_eq_getElem hlt]
    rfl
  -- the function on data
  let g0 : D → D := fun d => match d with | .int e => .int (f.getD e.toNat 0) | d => d
  let g1 : D → D := fun d => match d with | .tup es => .tup (es.map g0) | d => d
  let g2 : D → D := fun d => match d with | .tup ss => .tup (ss.map g1) | d => d
  have e1 : ∀ s : List Int, g1 (stepT s) = stepT (s.map fun e => f.getD e.toNat 0) := by
    intro s
    show D.tup ((s.map D.int).map g0) = _
    rw [List.map_map]
    unfold stepT
    rw [List.map_map]
    rfl
  have e2 : ∀ w : List (List Int), g2 (wheelT w) = wheelT (w.map fun s => s.map fun e => f.getD e.toNat 0) := by
    intro w
    show D.tup ((w.map stepT).map g1) = _
    rw [List.map_map]
    unfold wheelT
    rw [List.map_map]
    congr 1
    exact List.map_congr_left fun s _ => e1 s
  have e3 : (ws.map wheelT).map g2 = (renumW f ws).map wheelT := by
    unfold renumW
    rw [List.map_map, List.map_map]
    exact List.map_congr_left fun w _ => e2 w
  refine run_pure rfl ?_
  have main := tup_comp (fa := fVar 0) (vs := [2]) (i := 2) (σ := startA 5 [wheelsT ws, .lst (f.map .int)]) (M := M) (ds := ws.map wheelT) g2 (e := fCall gTuple (fCons (fTrim (fCompC (fIter (fVar 2)) [3] (.name 3) fYes (fCall gTuple (fCons (fTrim (fCompC (fIter (fVar 3)) [4] (.name 4) fYes (fBin gIx (fVar 1) (fVar 4)))) fNil)))) fNil)) rfl hw (by rw [List.length_map]; omega) (fun d hd => by
      obtain ⟨w, _, rfl⟩ := List.mem_map.mp hd
      rw [e2]
      exact und_wheel _) (fun d hd M1 w1 _ => by
      obtain ⟨w, hwm, rfl⟩ := List.mem_map.mp hd
      obtain ⟨l1, l4, hs⟩ := ho w hwm
      refine tup_comp (ds := w.map stepT) g1 rfl w1 (by rw [List.length_map]; omega) (fun d hd => ?_) (fun d hd M2 w2 _ => ?_)
      · obtain ⟨s, _, rfl⟩ := List.mem_map.mp hd
        rw [e1]
        exact und_step _
      · obtain ⟨s, hsm, rfl⟩ := List.mem_map.mp hd
        obtain ⟨s3, sr⟩ := hs s hsm
        refine tup_comp (ds := s.map D.int) g0 rfl w2 (by rw [List.length_map]; omega) (fun d hd => ?_) (fun d hd M3 w3 _ => ?_)
        · obtain ⟨e, _, rfl⟩ := List.mem_map.mp hd
          rfl
        · obtain ⟨e, he, rfl⟩ := List.mem_map.mp hd
          obtain ⟨r0, r1⟩ := sr e he
          simp [startA, wipeA, hget e r0 r1, g0])
  rw [e3] at main
  exact main
theorem m_need_few_eq {a b : Int} (h : a ≤ b) : m_need_few [.int a, .int b] M = .ok .non M := by
  refine (run_nx (M1 := M) (σ := startA 2 [.int a, .int b]) rfl ?_).trans (trim_id rfl)
  refine (sif_ev (p := false) (M1 := M) (test_ev ?_)).trans rfl
  simp [startA, cGt, show ¬ b < a by omega]
theorem board_0 {ws : List (List (List Int))} {c : Int} : gIx (boardT ws c) (.int 0) M = .ok (wheelsT ws) M := by simp [boardT]
theorem board_1 {ws : List (List (List Int))} {c : Int} : gIx (boardT ws c) (.int 1) M = .ok (.int c) M := by simp [boardT]
theorem wheels_len {ws : List (List (List Int))} : gLen [wheelsT ws] M = .ok (.int ws.length) M := by simp [wheelsT]
theorem m_is_wheel_number_eq {ws : List (List (List Int))} {c : Int} {d : D} (h : d.ok = true) : m_is_wheel_number [boardT ws c, d] M = .ok (.bl (inB 0 ((ws.length : Int) - 1) d)) M := by
  refine run_pure rfl ?_
  simp [startA, board_0, wheels_len, m_is_within_eq h]
theorem dok_link (l : Option Int) : (linkT l).dok = true := by cases l <;> rfl
theorem m_are_links_eq {ws1 ws2 : List (List (List Int))} {c2 : Int} {ls : List (Option Int)} (hw : Wf M) (hl : ls.length ≤ 4) (h : LinksOk ws2.length ls) : m_are_links [boardT ws1 (ls.length : Nat), boardT ws2 c2, linksT ls] M = .ok (.bl true) M := by
  refine (run_rt (M1 := M) (d := .bl true) rfl ?_).trans (trim_id rfl)
  refine (seq_nx (set_ev (M1 := M) (d := .int (ls.length : Nat)) (by simp [startA, board_1]))).trans (ret_ev ?_)
  refine and_ev (p := true) (q := true) ?_ fun _ => ?_
  · have : (linksT ls).ok = true := rfl
    simp [startA, m_has_parts_eq this]
    simp [linksT, partsB]
  · have := all_comp (fa := fVar 2) (vs := [4]) (i := 4) (ds := ls.map linkT) (σ := (startA 5 [boardT ws1 (ls.length : Nat), boardT ws2 c2, linksT ls]).set 3 (some (.int (ls.length : Nat)))) (M := M) (fun _ => true) (e := fOr (fBin (gIsN false) (fVar 4) (fC .non)) (fCall m_is_wheel_number (fCons (fVar 1) (fCons (fVar 4) fNil)))) rfl hw (by rw [List.length_map]; omega) (fun d hd M' w' _ => by
      obtain ⟨l, hl, rfl⟩ := List.mem_map.mp hd
      cases l with
      | none => simp [startA, wipeA, linkT]
      | some i =>
        obtain ⟨h0, h1⟩ := h _ hl i rfl
        simp [startA, wipeA, linkT, m_is_wheel_number_eq (show (D.int i).ok = true from rfl), inB, h0]
        omega)
    rw [this]
    simp
theorem nones_append (as bs : List (Option Int)) : nones (as ++ bs) = nones as + nones bs := by simp [nones, List.filter_append]
theorem flats_links : ∀ ls : List (Option Int), ∃ vs, flats (ls.map linkT) = some vs ∧ (vs.countP fun z => eqV z .non) = nones ls
  | [] => ⟨[], rfl, rfl⟩
  | none :: ls => by
    obtain ⟨vs, h1, h2⟩ := flats_links ls
    refine ⟨.non :: vs, ?_, ?_⟩
    · simp only [List.map_cons, linkT, flats, D.flat, h1]
    · rw [List.countP_cons, h2]
      simp [eqV, nones]
  | some i :: ls => by
    obtain ⟨vs, h1, h2⟩ := flats_links ls
    refine ⟨.int i :: vs, ?_, ?_⟩
    · simp only [List.map_cons, linkT, flats, D.flat, h1]
    · rw [List.countP_cons, h2]
      simp [eqV, nones]
theorem count_links {σ : Sa} {i : Nat} {ls : List (Option Int)} (h : σ[i]? = some (some (linksT ls))) : fCountT (fVar i) (fCons (fC .non) fNil) σ M = .ok (.int (nones ls : Nat)) M := by
  obtain ⟨vs, h1, h2⟩ := flats_links ls
  simp only [ev_countT, ev_var, h, bind_ok, linksT, ev_cons, ev_c, ev_nil]
  simp only [gCountT, D.flat, h1, h2]
theorem mid_small {n : Int} (h0 : -1000 ≤ n) (h1 : n ≤ 1000) : mid n = true := by
  simp only [mid, Bool.and_eq_true, decide_eq_true_eq]
  omega
theorem rgOk_small {a b : Int} (h0 : 0 ≤ a) (h1 : a ≤ 1000) (h2 : 0 ≤ b) (h3 : b ≤ 1000) : rgOk a b = true := by
  unfold rgOk
  rw [mid_small (by omega) (by omega), mid_small (by omega) (by omega)]
  simp
  omega
end
end QX

set_option maxRecDepth 100000
set_option maxHeartbeats 1000000
/-! QZ7: boards joined, the ends -/
namespace QX
open PySem PySem.Spec PyProof.Rows L2 HX
section
variable {M : Mem}
def efFS : FS := (sIf (fTest (fBin (gIsN false) (fVar 6) (fC .non)))
  (sSeq (sExpr (fMeth gAppend (fVar 5) (fCons (fVar 4) fNil)))
  (sAug 4 (gAug false) (fC (.int 1))))
  (sExpr (fMeth gAppend (fVar 5) (fCons (fBin gAdd (fVar 3) (fVar 6)) fNil))))
theorem ends_of_first_body : b_ends_of_first = (sSeq (sSet 3 (fCall gLen (fCons (fBin gIx (fVar 0) (fC (.int 0))) fNil)))
  (sSeq (sSet 4 (fBin gAdd (fVar 3) (fCall gLen (fCons (fBin gIx (fVar 1) (fC (.int 0))) fNil))))
  (sSeq (sSet 5 (fListRg1 true (fVar 3)))
  (sSeq (sFor (fIter (fVar 2)) (.name 6) efFS)
  (sRet (fVar 5)))))) := rfl
theorem ef_none {σ1 : Sa} {n1 : Nat} {c : Int} {acc : List Int} (ha : acc.length ≤ 100) (hs : Has σ1 7 [(6, .non), (3, .int n1), (4, .int c), (5, .ref M.length)]) :
    efFS σ1 (M ++ [.lst (acc.map D.int)]) = .ok (.nx (σ1.set 4 (some (.int (c + 1))))) (M ++ [.lst ((acc ++ [c]).map D.int)]) := by
  have k6 := hs.at (i := 6) (d := .non) (by simp)
  have k4 := hs.at (i := 4) (d := .int c) (by simp)
  have k5 := hs.at (i := 5) (d := .ref M.length) (by simp)
  have il : isL (M ++ [.lst (acc.map D.int)]) (.ref M.length) = true := isL_last rfl
  have ap : gAppend (.ref M.length) [.int c] (M ++ [.lst (acc.map D.int)]) = .ok .non (M ++ [.lst (acc.map D.int ++ [.int c])]) := append_last rfl (by rw [List.length_map]; omega)
  refine (sif_ev (p := true) (M1 := M ++ [.lst (acc.map D.int)]) (test_ev (by simp [k6]))).trans ((if_pos rfl).trans ((seq_nx (σ1 := σ1) (M1 := M ++ [.lst ((acc ++ [c]).map D.int)]) (expr_ev (d := .non) ?_)).trans ?_))
  · simp only [ev_meth, ev_var, k5, bind_ok, il, if_true, ev_cons, k4, ev_nil, ap]
    simp
  · simp [k4, gAug]
theorem ef_some {σ1 : Sa} {n1 : Nat} {c i : Int} {acc : List Int} (ha : acc.length ≤ 100) (hs : Has σ1 7 [(6, .int i), (3, .int n1), (4, .int c), (5, .ref M.length)]) :
    efFS σ1 (M ++ [.lst (acc.map D.int)]) = .ok (.nx σ1) (M ++ [.lst ((acc ++ [(n1 : Int) + i]).map D.int)]) := by
  have k6 := hs.at (i := 6) (d := .int i) (by simp)
  have k3 := hs.at (i := 3) (d := .int n1) (by simp)
  have k5 := hs.at (i := 5) (d := .ref M.length) (by simp)
  have il : isL (M ++ [.lst (acc.map D.int)]) (.ref M.length) = true := isL_last rfl
  have ap : gAppend (.ref M.length) [.int (n1 + i)] (M ++ [.lst (acc.map D.int)]) = .ok .non (M ++ [.lst (acc.map D.int ++ [.int (n1 + i)])]) := append_last rfl (by rw [List.length_map]; omega)
  refine (sif_ev (p := false) (M1 := M ++ [.lst (acc.map D.int)]) (test_ev (by simp [k6]))).trans ((if_neg (by decide)).trans (expr_ev (d := .non) ?_))
  simp only [ev_meth, ev_var, k5, bind_ok, il, if_true, ev_cons, ev_bin, k3, k6, gAdd_int, ev_nil, ap]
  simp
theorem ends_loop {σ0 : Sa} {ls : List (Option Int)} {n1 n2 : Nat} (h1 : n1 ≤ 6) (hl : ls.length ≤ 4) (h0 : Has σ0 7 [(3, .int n1), (4, .int (n1 + n2)), (5, .ref M.length)]) :
    ∃ σ2, forL (.name 6) efFS (fun _ => true) (M ++ [Cell.lst (numsD 0 n1)]).length ((ls.map linkT).map .d) σ0 (M ++ [.lst (numsD 0 n1)]) = .ok (.nx σ2) (M ++ [.lst ((firstNum n1 n2 ls).map .int)]) ∧ σ2[5]? = some (some (.ref M.length)) := by
  obtain ⟨σ2, M2, f2, acc, rest, rfl, v1, v2, v3⟩ := for_items (b := efFS) (n := (M ++ [Cell.lst (numsD 0 n1)]).length) (i := 6) (σ := σ0) (M := M ++ [.lst (numsD 0 n1)]) (ds := ls.map linkT)
    (fun j σ N => ∃ (acc : List Int) (c : Int), N = M ++ [.lst (acc.map .int)] ∧ acc.length = n1 + j ∧ firstNum n1 n2 ls = acc ++ cupsNum n1 c (ls.drop j) ∧ Has σ 7 [(3, .int n1), (4, .int c), (5, .ref M.length)])
    ⟨upTo 0 n1, n1 + n2, by rw [numsD_up], by rw [upTo_len]; rfl, by rw [List.drop_zero]; rfl, h0⟩ (fun j σ N d hd hv => by
      obtain ⟨acc, c, rfl, u1, u2, u3⟩ := hv
      rw [List.getElem?_map] at hd
      cases q : ls[j]? with
      | none => rw [q] at hd; cases hd
      | some l =>
        rw [q] at hd
        cases hd
        have hj : j < ls.length := (List.getElem?_eq_some_iff.mp q).1
        have hdrop : ls.drop j = l :: ls.drop (j + 1) := by
          rw [List.drop_eq_getElem_cons hj]
          congr 1
          rw [List.getElem?_eq_getElem hj] at q
          exact Option.some.inj q
        have hs : Has (σ.set 6 (some (linkT l))) 7 ((6, linkT l) :: [(3, .int n1), (4, .int c), (5, .ref M.length)]) := u3.put (by decide) (by simp)
        generalize σ.set 6 (some (linkT l)) = σ1 at hs
        cases l with
        | none =>
          refine ⟨_, _, .inl (ef_none (by omega) hs), ?_⟩
          rw [gc_same (by simp)]
          refine ⟨acc ++ [c], c + 1, rfl, by rw [List.length_append, u1]; rfl, ?_, ?_⟩
          · rw [u2, hdrop, cupsNum, List.append_assoc]; rfl
          · have h7 : Has σ1 7 [(3, .int n1), (5, .ref M.length)] := hs.sub (by simp)
            exact (h7.put (i := 4) (d := .int (c + 1)) (by decide) (by simp)).sub (by simp)
        | some i =>
          refine ⟨_, _, .inl (ef_some (by omega) hs), ?_⟩
          rw [gc_same (by simp)]
          refine ⟨acc ++ [(n1 : Int) + i], c, rfl, by rw [List.length_append, u1]; rfl, ?_, hs.sub (by simp)⟩
          rw [u2, hdrop, cupsNum, List.append_assoc]; rfl)
  rw [List.length_map] at v1 v2
  rw [List.drop_length, cupsNum, List.append_nil] at v2
  rw [v2]
  exact ⟨σ2, f2, v3.at (i := 5) (d := .ref M.length) (by simp)⟩
theorem bin_ev {g : D → D → Mem → Res D} {fa fb : F D} {σ : Sa} {M1 M2 : Mem} {a b : D} (ha : fa σ M = .ok a M1) (hb : fb σ M1 = .ok b M2) : fBin g fa fb σ M = g a b M2 := by
  rw [ev_bin, ha, bind_ok, hb, bind_ok]
theorem listRg1_own {fb : F D} {σ : Sa} {b : Int} {n : Nat} (hr : rgOk 0 b = true) (h : fb σ M = .ok (.int b) M) (hn : (b - 0).toNat = n) : fListRg1 true fb σ M = .ok (.ref M.length) (M ++ [.lst (numsD 0 n)]) := by
  subst hn
  rw [ev_listRg1, h, bind_ok]
  exact (if_pos hr).trans (if_pos rfl)
theorem listRg_val {fa fb : F D} {σ : Sa} {a b : Int} {n : Nat} (hr : rgOk a b = true) (ha : fa σ M = .ok (.int a) M) (h : fb σ M = .ok (.int b) M) (hn : (b - a).toNat = n) : fListRg false fa fb σ M = .ok (.lst (numsD a n)) M := by
  subst hn
  rw [ev_listRg, ha, bind_ok, h, bind_ok]
  exact (if_pos hr).trans (if_neg (by decide))
theorem m_ends_of_first_eq {ws1 ws2 : List (List (List Int))} {c1 c2 : Int} {ls : List (Option Int)} (hw : Wf M) (h1 : ws1.length ≤ 6) (hl : ls.length ≤ 4) : m_ends_of_first [boardT ws1 c1, boardT ws2 c2, linksT ls] M = .ok (.lst ((firstNum ws1.length ws2.length ls).map .int)) M := by
  obtain ⟨σ2, f2, h5⟩ := ends_loop (M := M) (σ0 := [some (boardT ws1 c1), some (boardT ws2 c2), some (linksT ls), some (.int ws1.length), some (.int (ws1.length + ws2.length)), some (.ref M.length), none]) (ls := ls) (n1 := ws1.length) (n2 := ws2.length) h1 hl ⟨rfl, fun q hq => by
      simp only [List.mem_cons, List.mem_nil_iff, or_false] at hq
      rcases hq with rfl | rfl | rfl <;> rfl⟩
  have s1 : sSet 3 (fCall gLen (fCons (fBin gIx (fVar 0) (fC (.int 0))) fNil)) [some (boardT ws1 c1), some (boardT ws2 c2), some (linksT ls), none, none, none, none] M = .ok (.nx [some (boardT ws1 c1), some (boardT ws2 c2), some (linksT ls), some (.int ws1.length), none, none, none]) M := set_ev (by simp [board_0, wheels_len])
  have s2 : sSet 4 (fBin gAdd (fVar 3) (fCall gLen (fCons (fBin gIx (fVar 1) (fC (.int 0))) fNil))) [some (boardT ws1 c1), some (boardT ws2 c2), some (linksT ls), some (.int ws1.length), none, none, none] M = .ok (.nx [some (boardT ws1 c1), some (boardT ws2 c2), some (linksT ls), some (.int ws1.length), some (.int (ws1.length + ws2.length)), none, none]) M := set_ev (by simp [board_0, wheels_len])
  have s3 : sSet 5 (fListRg1 true (fVar 3)) [some (boardT ws1 c1), some (boardT ws2 c2), some (linksT ls), some (.int ws1.length), some (.int (ws1.length + ws2.length)), none, none] M = .ok (.nx [some (boardT ws1 c1), some (boardT ws2 c2), some (linksT ls), some (.int ws1.length), some (.int (ws1.length + ws2.length)), some (.ref M.length), none]) (M ++ [.lst (numsD 0 ws1.length)]) :=
    set_ev (listRg1_own (b := ws1.length) (rgOk_small (by omega) (by omega) (by omega) (by omega)) (by simp) (by omega))
  have fi : fIter (fVar 2) [some (boardT ws1 c1), some (boardT ws2 c2), some (linksT ls), some (.int ws1.length), some (.int (ws1.length + ws2.length)), some (.ref M.length), none] (M ++ [.lst (numsD 0 ws1.length)]) = .ok ⟨(ls.map linkT).map .d, fun _ => true⟩ (M ++ [.lst (numsD 0 ws1.length)]) := rfl
  generalize [some (boardT ws1 c1), some (boardT ws2 c2), some (linksT ls), some (.int ws1.length), some (.int (ws1.length + ws2.length)), some (.ref M.length), none] = σ1 at s3 f2 fi
  have sb : b_ends_of_first (startA 7 [boardT ws1 c1, boardT ws2 c2, linksT ls]) M = .ok (.rt (.ref M.length)) (M ++ [.lst ((firstNum ws1.length ws2.length ls).map .int)]) := by
    rw [ends_of_first_body]
    refine (seq_nx s1).trans ((seq_nx s2).trans ((seq_nx s3).trans ((seq_nx (σ1 := σ2) (M1 := M ++ [.lst ((firstNum ws1.length ws2.length ls).map .int)]) ?_).trans (ret_ev (by simp [h5])))))
    rw [ev_for, fi]
    exact f2
  have := run_rt (n := 7) (k := 3) rfl sb
  unfold m_ends_of_first
  rw [this]
  exact trim_ref (g := []) rfl hw (undA_map (fun _ => rfl) _)
theorem m_ends_of_second_eq {ws1 ws2 : List (List (List Int))} {c1 : Int} {c2 : Nat} {ls : List (Option Int)} (h1 : ws1.length ≤ 6) (h2 : ws2.length ≤ 6) (hl : ls.length ≤ 4) (hc : c2 ≤ 4) : m_ends_of_second [boardT ws1 c1, boardT ws2 c2, linksT ls] M = .ok (.lst ((secNum ws1.length ws2.length (nones ls) c2).map .int)) M := by
  have hn : nones ls ≤ ls.length := by unfold nones; exact List.length_filter_le _ _
  have s1 : sSet 3 (fCall gLen (fCons (fBin gIx (fVar 0) (fC (.int 0))) fNil)) [some (boardT ws1 c1), some (boardT ws2 c2), some (linksT ls), none, none] M = .ok (.nx [some (boardT ws1 c1), some (boardT ws2 c2), some (linksT ls), some (.int ws1.length), none]) M := set_ev (by simp [board_0, wheels_len])
  have s2 : sSet 4 (fBin gAdd (fBin gAdd (fVar 3) (fCall gLen (fCons (fBin gIx (fVar 1) (fC (.int 0))) fNil))) (fCountT (fVar 2) (fCons (fC .non) fNil))) [some (boardT ws1 c1), some (boardT ws2 c2), some (linksT ls), some (.int ws1.length), none] M = .ok (.nx [some (boardT ws1 c1), some (boardT ws2 c2), some (linksT ls), some (.int ws1.length), some (.int (ws1.length + ws2.length + nones ls))]) M := by
    refine set_ev (d := .int (ws1.length + ws2.length + nones ls)) ?_
    have hc := count_links (M := M) (σ := [some (boardT ws1 c1), some (boardT ws2 c2), some (linksT ls), some (.int ws1.length), none]) (i := 2) (ls := ls) rfl
    exact (bin_ev (a := .int (ws1.length + ws2.length)) (by simp [board_0, wheels_len]) hc).trans (by simp)
  have e1 : fListRg false (fVar 3) (fBin gAdd (fVar 3) (fCall gLen (fCons (fBin gIx (fVar 1) (fC (.int 0))) fNil))) [some (boardT ws1 c1), some (boardT ws2 c2), some (linksT ls), some (.int ws1.length), some (.int (ws1.length + ws2.length + nones ls))] M = .ok (.lst (numsD ws1.length ws2.length)) M :=
    listRg_val (a := ws1.length) (b := ws1.length + ws2.length) (rgOk_small (by omega) (by omega) (by omega) (by omega)) (by simp) (by simp [board_0, wheels_len]) (by omega)
  have e2 : fListRg false (fVar 4) (fBin gAdd (fVar 4) (fBin gIx (fVar 1) (fC (.int 1)))) [some (boardT ws1 c1), some (boardT ws2 c2), some (linksT ls), some (.int ws1.length), some (.int (ws1.length + ws2.length + nones ls))] M = .ok (.lst (numsD (ws1.length + ws2.length + nones ls) c2)) M :=
    listRg_val (a := ws1.length + ws2.length + nones ls) (b := ws1.length + ws2.length + nones ls + c2) (rgOk_small (by omega) (by omega) (by omega) (by omega)) (by simp) (by simp [board_1]) (by omega)
  have hf : few (ws2.length + c2) = true := ok_few (by rw [sizeLine_eq]; omega)
  have sb : b_ends_of_second (startA 5 [boardT ws1 c1, boardT ws2 c2, linksT ls]) M = .ok (.rt (.lst ((secNum ws1.length ws2.length (nones ls) c2).map .int))) M := by
    refine (seq_nx s1).trans ((seq_nx s2).trans (ret_ev ?_))
    rw [bin_ev e1 e2, numsD_up, numsD_up, secNum, List.map_append]
    rw [gAdd_lst, List.length_map, List.length_map, upTo_len, upTo_len]
    exact if_pos hf
  exact (run_rt (n := 5) (k := 3) rfl sb).trans (trim_id rfl)
end
end QX

set_option maxRecDepth 100000
set_option maxHeartbeats 1000000
/-! QZ8: loops that build lists, comprehensions with a test -/
namespace QX
open PySem PySem.Spec PyProof.Rows L2 HX
/-- a comprehension with a test, its parts turning nothing -/
theorem comp_filt {fi : F Ita} {vs : List Nat} {t : Tg} {c : F Bool} {e : F D} {σ : Sa} {M : Mem} {it : Ita} (p : Im → Bool) (f : Im → D) (hi : fi σ M = .ok it M) (hc : ∀ M', it.chk M' = true) (hw : Wf M) (hl : it.items.length ≤ 1000000)
    (he : ∀ im ∈ it.items, (f im).und M.length = true ∧ ∃ σ1, t.put im (wipeA σ vs) = some σ1 ∧ ∀ M', Wf M' → M.length < M'.length → c σ1 M' = .ok (p im) M' ∧ (p im = true → e σ1 M' = .ok (f im) M')) : fTrim (fCompC fi vs t c e) σ M = .ok (.lst ((it.items.filter p).map f)) M := by
  unfold fTrim fCompC
  rw [hi]
  dsimp only [Res.bind]
  have hund : ∀ j, D.undA M.length (((it.items.take j).filter p).map f) = true := by
    intro j
    rw [undA_iff]
    intro d hd
    obtain ⟨im', him', rfl⟩ := List.mem_map.mp hd
    exact (he im' (List.mem_of_mem_take (List.mem_filter.mp him').1)).1
  obtain ⟨acc', M', h1, ⟨h2, h3⟩, _⟩ := comp_loop (t := t) (c := c) (e := e) (chk := it.chk) (σ := wipeA σ vs) (n := M.length) (fun j acc M2 => acc = ((it.items.take j).filter p).map f ∧ M2 = M ++ [.lst acc]) it.items 0 [] (M ++ [.lst []]) (by simpa using hl) (fun j acc M2 im hj _ hv => by
    obtain ⟨ha, hM⟩ := hv
    subst hM
    rw [Nat.sub_zero] at hj
    have him := List.mem_of_getElem? hj
    obtain ⟨hu, σ1, hp, hev⟩ := he im him
    have hacc : D.undA M.length acc = true := by rw [ha]; exact hund j
    obtain ⟨hq, hr⟩ := hev (M ++ [.lst acc]) (hw.push (undA_mono (Nat.le_succ _) _ hacc)) (by simp)
    refine ⟨hc _, σ1, hp, ?_⟩
    have ht : it.items.take (j + 1) = it.items.take j ++ [im] := by rw [List.take_add_one, hj]; rfl
    cases q : p im with
    | false =>
      refine .inl ⟨_, by rw [hq, q], ?_, rfl⟩
      rw [ht, List.filter_append, List.map_append, ← ha]
      simp [q]
    | true =>
      refine .inr ⟨_, f im, _, by rw [hq, q], hr q, ?_, ?_, ?_⟩
      · rw [List.getElem?_append_right (Nat.le_refl _), Nat.sub_self]; rfl
      · rw [ht, List.filter_append, List.map_append, ← ha]
        simp [q]
      · rw [List.set_append_right _ _ (Nat.le_refl _), Nat.sub_self]; rfl) (fun acc M2 _ => hc M2) ⟨by simp, rfl⟩
  subst h3
  rw [h1]
  dsimp only
  rw [Nat.zero_add, List.take_length] at h2
  rw [h2]
  refine trim_ref (g := []) rfl hw ?_
  have := hund it.items.length
  rw [List.take_length] at this
  exact this
/-- a loop that adds one item to the last cell each time -/
theorem for_map {b : FS} {i N : Nat} {σ : Sa} {A : Mem} {ds acc0 : List D} (l : List (Nat × D)) (f : D → D) (hA : Wf A) (hN : i < N) (hi : ∀ q ∈ l, q.1 ≠ i) (hs : Has σ N l) (hl : ∀ q ∈ l, q.2.und (A.length + 1) = true) (h0 : ∀ n, D.undA n acc0 = true) (hf : ∀ d ∈ ds, ∀ n, (f d).und n = true) (hc : acc0.length + ds.length ≤ 1000)
    (step : ∀ (σ : Sa) (acc : List D) (d : D), d ∈ ds → acc.length ≤ 1000 → (∀ n, D.undA n acc = true) → Has σ N ((i, d) :: l) → ∃ σ' g, b σ (A ++ [.lst acc]) = .ok (.nx σ') (A ++ [.lst (acc ++ [f d])] ++ g) ∧ Has σ' N l) :
    ∃ σ', forL (.name i) b (fun _ => true) (A.length + 1) (ds.map .d) σ (A ++ [.lst acc0]) = .ok (.nx σ') (A ++ [.lst (acc0 ++ ds.map f)]) ∧ Has σ' N l := by
  have hu : ∀ j n, D.undA n (acc0 ++ (ds.take j).map f) = true := by
    intro j n
    rw [undA_append]
    refine ⟨h0 n, ?_⟩
    rw [undA_iff]
    intro d hd
    obtain ⟨d', hd', rfl⟩ := List.mem_map.mp hd
    exact hf d' (List.mem_of_mem_take hd') n
  obtain ⟨σ', M', f1, rfl, f3⟩ := for_items (b := b) (n := A.length + 1) (i := i) (σ := σ) (M := A ++ [.lst acc0]) (ds := ds) (fun j σ M => M = A ++ [.lst (acc0 ++ (ds.take j).map f)] ∧ Has σ N l) ⟨by simp, hs⟩ (fun j σ M d hd hv => by
    obtain ⟨rfl, hs⟩ := hv
    have hj : j < ds.length := (List.getElem?_eq_some_iff.mp hd).1
    obtain ⟨σ', g, g1, g2⟩ := step (σ.set i (some d)) (acc0 ++ (ds.take j).map f) d (List.mem_of_getElem? hd) (by rw [List.length_append, List.length_map, List.length_take]; omega) (hu j) (hs.put hN hi)
    refine ⟨σ', _, .inl g1, ?_⟩
    have e : acc0 ++ (ds.take j).map f ++ [f d] = acc0 ++ (ds.take (j + 1)).map f := by
      rw [List.take_add_one, hd, List.map_append, List.append_assoc]; rfl
    rw [e]
    have hln : (A ++ [Cell.lst (acc0 ++ (ds.take (j + 1)).map f)]).length = A.length + 1 := by simp
    by_cases hg : g = []
    · subst hg
      rw [List.append_nil, gc_same hln]
      exact ⟨rfl, g2⟩
    · rw [gc_app hln (hA.push (hu _ _)) hg]
      exact ⟨rfl, g2.keep hl⟩)
  refine ⟨σ', ?_, f3⟩
  rw [f1, List.take_length]
/-- outer.append(tuple(inner)) -/
theorem app_tuple {a b N : Nat} {σ : Sa} {A : Mem} {acc es : List D} (ha : σ[a]? = some (some (.ref A.length))) (hb : σ[b]? = some (some (.ref (A.length + 1)))) (hl : acc.length ≤ 1000) :
    sExpr (fMeth gAppend (fVar a) (fCons (fCall gTuple (fCons (fVar b) fNil)) fNil)) σ (A ++ [.lst acc] ++ [.lst es]) = .ok (.nx σ) (A ++ [.lst (acc ++ [.tup es])] ++ [.lst es]) := by
  refine expr_ev (d := .non) ?_
  have a4 : (A ++ [.lst acc] ++ [.lst es])[A.length]? = some (.lst acc) := by
    rw [List.append_assoc, List.getElem?_append_right (Nat.le_refl _)]
    simp
  have a6 : (A ++ [.lst acc] ++ [.lst es])[A.length + 1]? = some (.lst es) := last_at (by simp)
  have il : isL (A ++ [.lst acc] ++ [.lst es]) (.ref A.length) = true := by rw [isL_ref, a4]; rfl
  rw [ev_meth, ev_var, ha]
  simp only [bind_ok, il, if_true, ev_cons, ev_call, ev_nil, ev_var, hb]
  rw [gTuple_ref a6]
  simp only [bind_ok]
  rw [gAppend_ref a4 (by omega)]
  congr 1
  rw [List.append_assoc, List.set_append_right _ _ (Nat.le_refl _)]
  simp
/-- inner = []; for x in ..: ..; outer.append(tuple(inner)) -/
theorem nest {fi : F Ita} {b : FS} {a c i N : Nat} {σ : Sa} {A : Mem} {ds acc : List D} (l : List (Nat × D)) (f : D → D) (hA : Wf A) (hN : i < N) (hcN : c < N) (hi : ∀ q ∈ l, q.1 ≠ i) (hci : c ≠ i) (hc : ∀ q ∈ l, q.1 ≠ c) (hs : Has σ N l) (ha : (a, D.ref A.length) ∈ l) (hl : ∀ q ∈ l, q.2.und (A.length + 1) = true) (h0 : ∀ n, D.undA n acc = true) (hal : acc.length ≤ 1000) (hf : ∀ d ∈ ds, ∀ n, (f d).und n = true) (hd : ds.length ≤ 1000)
    (hfi : ∀ σ M, Has σ N ((c, .ref (A.length + 1)) :: l) → fi σ M = .ok ⟨ds.map .d, fun _ => true⟩ M)
    (step : ∀ (σ : Sa) (es : List D) (d : D), d ∈ ds → es.length ≤ 1000 → (∀ n, D.undA n es = true) → Has σ N ((i, d) :: (c, .ref (A.length + 1)) :: l) → ∃ σ' g, b σ (A ++ [.lst acc] ++ [.lst es]) = .ok (.nx σ') (A ++ [.lst acc] ++ [.lst (es ++ [f d])] ++ g) ∧ Has σ' N ((c, .ref (A.length + 1)) :: l)) :
    ∃ σ', (sSeq (sSet c (fNew fNil)) (sSeq (sFor fi (.name i) b) (sExpr (fMeth gAppend (fVar a) (fCons (fCall gTuple (fCons (fVar c) fNil)) fNil))))) σ (A ++ [.lst acc]) = .ok (.nx σ') (A ++ [.lst (acc ++ [.tup (ds.map f)])] ++ [.lst (ds.map f)]) ∧ Has σ' N l := by
  have hf0 : few 0 = true := by decide
  have hln : (A ++ [Cell.lst acc]).length = A.length + 1 := by simp
  have s1 : sSet c (fNew fNil) σ (A ++ [.lst acc]) = .ok (.nx (σ.set c (some (.ref (A.length + 1))))) (A ++ [.lst acc] ++ [.lst []]) := by
    refine set_ev ?_
    simp [hf0]
  have hs1 : Has (σ.set c (some (.ref (A.length + 1)))) N ((c, .ref (A.length + 1)) :: l) := hs.put hcN hc
  generalize σ.set c (some (D.ref (A.length + 1))) = σ1 at s1 hs1
  obtain ⟨σ2, f2, hs2⟩ := for_map (b := b) (i := i) (N := N) (σ := σ1) (A := A ++ [.lst acc]) (ds := ds) (acc0 := []) ((c, .ref (A.length + 1)) :: l) f (Wf.push (c := .lst acc) hA (h0 _)) hN (fun q hq => by
      rcases List.mem_cons.mp hq with rfl | hq
      · exact hci
      · exact hi q hq) hs1 (fun q hq => by
      rw [hln]
      rcases List.mem_cons.mp hq with rfl | hq
      · simp [D.und, Nat.blt_eq]
      · exact und_mono (by omega) _ (hl q hq)) (fun _ => rfl) hf (by simpa using hd) step
  rw [hln, List.nil_append] at f2
  refine ⟨σ2, ?_, hs2.sub fun q hq => List.mem_cons_of_mem _ hq⟩
  refine (seq_nx s1).trans ((seq_nx (σ1 := σ2) (M1 := A ++ [.lst acc] ++ [.lst (ds.map f)]) ?_).trans (app_tuple (N := N) (hs2.at (List.mem_cons_of_mem _ ha)) (hs2.at (List.mem_cons_self ..)) hal))
  rw [ev_for, hfi _ _ hs1]
  simp only [bindS_ok]
  have hl2 : (A ++ [Cell.lst acc] ++ [Cell.lst []]).length = A.length + 1 + 1 := by simp
  rw [hl2]
  exact f2
end QX

set_option maxRecDepth 100000
set_option maxHeartbeats 1000000
/-! QZ9: boards joined, whole -/
namespace QX
open PySem PySem.Spec PyProof.Rows L2 HX
section
variable {M : Mem} {ws1 ws2 : List (List (List Int))} {ls : List (Option Int)} {c2 : Nat}
theorem firstNum_len (n1 n2 : Nat) (ls : List (Option Int)) : (firstNum n1 n2 ls).length = n1 + ls.length := by
  unfold firstNum
  rw [List.length_append, upTo_len, cupsNum_len]
theorem secNum_len (n1 n2 k c : Nat) : (secNum n1 n2 k c).length = n2 + c := by
  unfold secNum
  rw [List.length_append, upTo_len, upTo_len]
def joinW (ws1 ws2 : List (List (List Int))) (ls : List (Option Int)) (c2 : Nat) : List (List (List Int)) := renumW (firstNum ws1.length ws2.length ls) ws1 ++ renumW (secNum ws1.length ws2.length (nones ls) c2) ws2
theorem nones_le (ls : List (Option Int)) : nones ls ≤ ls.length := by unfold nones; exact List.length_filter_le _ _
theorem gAdd_tup_ok {ds es : List D} (h : ds.length + es.length ≤ 1000) : gAdd (.tup ds) (.tup es) M = .ok (.tup (ds ++ es)) M := by
  rw [gAdd_tup, if_pos (ok_few (by rw [sizeLine_eq]; omega))]
theorem gAdd_wheels {a b : List (List (List Int))} (h : a.length + b.length ≤ 1000) : gAdd (wheelsT a) (wheelsT b) M = .ok (wheelsT (a ++ b)) M := by
  unfold wheelsT
  rw [List.map_append]
  exact gAdd_tup_ok (by rw [List.length_map, List.length_map]; exact h)
theorem tup2_ev {fa fb : F D} {σ : Sa} {M1 M2 : Mem} {a b : D} (ha : fa σ M = .ok a M1) (hb : fb σ M1 = .ok b M2) : fTup (fCons fa (fCons fb fNil)) σ M = .ok (.tup [a, b]) M2 := by
  have hf2 : few 2 = true := by decide
  simp [ha, hb, hf2]
theorem renumW_len {f : List Int} {ws : List (List (List Int))} : (renumW f ws).length = ws.length := by unfold renumW; exact List.length_map ..
theorem m_joined_eq (hw : Wf M) (b1 : BoardOk ws1 (ls.length : Nat)) (b2 : BoardOk ws2 (c2 : Nat)) (hlk : LinksOk ws2.length ls) (h6 : ws1.length + ws2.length ≤ 6) (h4 : nones ls + c2 ≤ 4) :
    m_joined [boardT ws1 (ls.length : Nat), boardT ws2 (c2 : Nat), linksT ls] M = .ok (boardT (joinW ws1 ws2 ls c2) (nones ls + c2 : Nat)) M := by
  have hl4 : ls.length ≤ 4 := by have := b1.c4; omega
  have hc4 : c2 ≤ 4 := by have := b2.c4; omega
  have w1 := b1.w6
  have w2 := b2.w6
  have e1 := m_need_board_eq b1 hw
  have e2 := m_need_board_eq b2 hw
  have e3 := m_are_links_eq (ws1 := ws1) (c2 := (c2 : Nat)) hw hl4 hlk
  have e4 := m_ends_of_first_eq (ws1 := ws1) (ws2 := ws2) (c1 := (ls.length : Nat)) (c2 := (c2 : Nat)) (ls := ls) hw w1 hl4
  have e5 := m_ends_of_second_eq (M := M) (ws1 := ws1) (ws2 := ws2) (c1 := (ls.length : Nat)) (c2 := c2) (ls := ls) w1 w2 hl4 hc4
  have e6 := m_renumbered_eq (M := M) (ws := ws1) (f := firstNum ws1.length ws2.length ls) (n := (ws1.length : Int) + (ls.length : Nat)) hw (by omega) b1.wheels (by rw [firstNum_len]; omega)
  have e7 := m_renumbered_eq (M := M) (ws := ws2) (f := secNum ws1.length ws2.length (nones ls) c2) (n := (ws2.length : Int) + (c2 : Nat)) hw (by omega) b2.wheels (by rw [secNum_len]; omega)
  have e8 := m_need_few_eq (M := M) (a := (ws1.length : Int) + ws2.length) (b := 6) (by omega)
  have e9 := m_need_few_eq (M := M) (a := (nones ls : Int) + c2) (b := 4) (by omega)
  generalize hA : boardT ws1 (ls.length : Nat) = A at *
  generalize hB : boardT ws2 (c2 : Nat) = B at *
  generalize hL : linksT ls = L at *
  have A0 : ∀ {M : Mem}, gIx A (.int 0) M = .ok (wheelsT ws1) M := by intro M; rw [← hA]; exact board_0
  have B0 : ∀ {M : Mem}, gIx B (.int 0) M = .ok (wheelsT ws2) M := by intro M; rw [← hB]; exact board_0
  have B1 : ∀ {M : Mem}, gIx B (.int 1) M = .ok (.int (c2 : Nat)) M := by intro M; rw [← hB]; exact board_1
  have s1 : sExpr (fCall m_need_board (fCons (fVar 0) fNil)) [some A, some B, some L, none, none, none] M = .ok (.nx [some A, some B, some L, none, none, none]) M := by as_aux_lemma => exact expr_ev (d := .non) (by simp [e1])
  have s2 : sExpr (fCall m_need_board (fCons (fVar 1) fNil)) [some A, some B, some L, none, none, none] M = .ok (.nx [some A, some B, some L, none, none, none]) M := by as_aux_lemma => exact expr_ev (d := .non) (by simp [e2])
  have s3 : sIf (fNotT (fTest (fCall m_are_links (fCons (fVar 0) (fCons (fVar 1) (fCons (fVar 2) fNil)))))) (sRaise 10) sNext [some A, some B, some L, none, none, none] M = .ok (.nx [some A, some B, some L, none, none, none]) M := by as_aux_lemma =>
    exact
    (sif_ev (p := false) (not_ev (p := true) (test_ev (by simp [e3])))).trans rfl
  have s4 : sSet 3 (fBin gAdd (fCountT (fVar 2) (fCons (fC .non) fNil)) (fBin gIx (fVar 1) (fC (.int 1)))) [some A, some B, some L, none, none, none] M = .ok (.nx [some A, some B, some L, some (.int (nones ls + c2)), none, none]) M := by as_aux_lemma =>
    exact
    set_ev ((bin_ev (M1 := M) (M2 := M) (a := .int (nones ls : Nat)) (b := .int (c2 : Nat)) (count_links (ls := ls) (by rw [← hL]; rfl)) (by simp [B1])).trans (by simp))
  have s5 : sExpr (fCall m_need_few (fCons (fBin gAdd (fCall gLen (fCons (fBin gIx (fVar 0) (fC (.int 0))) fNil)) (fCall gLen (fCons (fBin gIx (fVar 1) (fC (.int 0))) fNil))) (fCons (fC (.int 6)) fNil))) [some A, some B, some L, some (.int (nones ls + c2)), none, none] M = .ok (.nx [some A, some B, some L, some (.int (nones ls + c2)), none, none]) M := by as_aux_lemma => exact expr_ev (d := .non) (by simp [A0, B0, wheels_len, e8])
  have s6 : sExpr (fCall m_need_few (fCons (fVar 3) (fCons (fC (.int 4)) fNil))) [some A, some B, some L, some (.int (nones ls + c2)), none, none] M = .ok (.nx [some A, some B, some L, some (.int (nones ls + c2)), none, none]) M := by as_aux_lemma => exact expr_ev (d := .non) (by simp [e9])
  have s7 : sSet 4 (fCall m_renumbered (fCons (fBin gIx (fVar 0) (fC (.int 0))) (fCons (fCall m_ends_of_first (fCons (fVar 0) (fCons (fVar 1) (fCons (fVar 2) fNil)))) fNil))) [some A, some B, some L, some (.int (nones ls + c2)), none, none] M = .ok (.nx [some A, some B, some L, some (.int (nones ls + c2)), some (wheelsT (renumW (firstNum ws1.length ws2.length ls) ws1)), none]) M := by as_aux_lemma => exact set_ev (by simp [A0, e4, e6])
  have s8 : sSet 5 (fCall m_renumbered (fCons (fBin gIx (fVar 1) (fC (.int 0))) (fCons (fCall m_ends_of_second (fCons (fVar 0) (fCons (fVar 1) (fCons (fVar 2) fNil)))) fNil))) [some A, some B, some L, some (.int (nones ls + c2)), some (wheelsT (renumW (firstNum ws1.length ws2.length ls) ws1)), none] M = .ok (.nx [some A, some B, some L, some (.int (nones ls + c2)), some (wheelsT (renumW (firstNum ws1.length ws2.length ls) ws1)), some (wheelsT (renumW (secNum ws1.length ws2.length (nones ls) c2) ws2))]) M := by as_aux_lemma => exact set_ev (by simp [B0, e5, e7])
  have s9 : sRet (fTup (fCons (fBin gAdd (fVar 4) (fVar 5)) (fCons (fVar 3) fNil))) [some A, some B, some L, some (.int (nones ls + c2)), some (wheelsT (renumW (firstNum ws1.length ws2.length ls) ws1)), some (wheelsT (renumW (secNum ws1.length ws2.length (nones ls) c2) ws2))] M = .ok (.rt (boardT (joinW ws1 ws2 ls c2) (nones ls + c2 : Nat))) M := by
    have e : (((nones ls + c2 : Nat)) : Int) = (nones ls : Int) + c2 := by omega
    rw [boardT, e]
    refine ret_ev (tup2_ev (M1 := M) ((bin_ev (M1 := M) (M2 := M) (a := wheelsT (renumW (firstNum ws1.length ws2.length ls) ws1)) (b := wheelsT (renumW (secNum ws1.length ws2.length (nones ls) c2) ws2)) (by simp) (by simp)).trans (gAdd_wheels ?_)) (by simp))
    rw [renumW_len, renumW_len]
    omega
  have sb : b_joined (startA 6 [A, B, L]) M = .ok (.rt (boardT (joinW ws1 ws2 ls c2) (nones ls + c2 : Nat))) M := by as_aux_lemma => exact (seq_nx s1).trans ((seq_nx s2).trans ((seq_nx s3).trans ((seq_nx s4).trans ((seq_nx s5).trans ((seq_nx s6).trans ((seq_nx s7).trans ((seq_nx s8).trans s9)))))))
  exact (run_rt (n := 6) (k := 3) rfl sb).trans (trim_id rfl)
end
end QX

set_option maxRecDepth 100000
set_option maxHeartbeats 1000000
/-! QZ10: what repr gives of small plain data -/
namespace QX
open PySem PySem.Spec PyProof PyProof.Rows L2 HX
def RP (d : D) (w h : Nat) : Prop := ∃ p, D.py d = some p ∧ withinB p = true ∧ wt p ≤ w ∧ p.depth ≤ h ∧ p.hasDict = false ∧ ∀ k, 1114112 ≤ k → k ∉ p.shown.cps.toList
theorem RP.int {i : Int} (h0 : -2000000000000 ≤ i) (h1 : i ≤ 2000000000000) : RP (.int i) 130 1 :=
  ⟨.int i, rfl, by simp [withinB, h0, h1], by simp [wt], by simp [PyData.depth], by simp [PyData.hasDict], fun k hk => shown_int_free' ⟨by omega, by omega⟩ i⟩
theorem RP.non : RP .non 130 1 :=
  ⟨.none, rfl, by simp [withinB], by simp [wt], by simp [PyData.depth], by simp [PyData.hasDict], fun k hk => by
    rw [PyData.shown_none]
    have e : (("None" : String) : Str).cps.toList = [78, 111, 110, 101] := by decide
    rw [e]; intro hm; simp only [List.mem_cons, List.not_mem_nil, or_false] at hm
    rcases hm with h | h | h | h <;> omega⟩
theorem RP.mono {d : D} {w h w' h' : Nat} (r : RP d w h) (hw : w ≤ w') (hh : h ≤ h') : RP d w' h' := by
  obtain ⟨p, a, b, c, e, f, g⟩ := r
  exact ⟨p, a, b, by omega, by omega, f, g⟩
theorem rp_all {w h : Nat} : ∀ ds : List D, (∀ d ∈ ds, RP d w h) → ∃ ps, D.pyA ds = some ps ∧ withinBA ps = true ∧ wtAll ps ≤ ds.length * (w + 2) ∧ PyData.depthAll ps ≤ h ∧ PyData.hasDictAll ps = false ∧ ∀ k, 1114112 ≤ k → ∀ p ∈ ps, k ∉ p.shown.cps.toList
  | [], _ => ⟨[], by simp [D.pyA], by simp [withinBA], by simp [wtAll], by simp [PyData.depthAll], by simp [PyData.hasDictAll], fun k _ p hp => by simp at hp⟩
  | d :: ds, hd => by
    obtain ⟨p, a, b, c, e, f, g⟩ := hd d (by simp)
    obtain ⟨ps, a', b', c', e', f', g'⟩ := rp_all ds fun x hx => hd x (by simp [hx])
    refine ⟨p :: ps, by simp only [D.pyA, a, a'], by simp [withinBA, b, b'], ?_, ?_, by simp [PyData.hasDictAll, f, f'], fun k hk q hq => ?_⟩
    · simp only [wtAll, List.length_cons, Nat.add_mul, Nat.one_mul]; omega
    · simp only [PyData.depthAll]; omega
    · rcases List.mem_cons.mp hq with rfl | hq
      · exact g k hk
      · exact g' k hk q hq
theorem RP.tup {ds : List D} {w h n : Nat} (hd : ∀ d ∈ ds, RP d w h) (hn : ds.length ≤ n) : RP (.tup ds) (3 + n * (w + 2)) (h + 1) := by
  obtain ⟨ps, a', b', c', e', f', g'⟩ := rp_all ds hd
  refine ⟨.tuple ps, by simp only [D.py, a'], by simp [withinB, b'], ?_, ?_, by simp [PyData.hasDict, f'], fun k hk => ?_⟩
  · have : ds.length * (w + 2) ≤ n * (w + 2) := Nat.mul_le_mul_right _ hn
    simp only [wt]; omega
  · simp only [PyData.depth]; omega
  · simp only [PyData.shown, tupleText]
    rw [mem_cps_append, mem_cps_append, signs_lparen, mem_join, signs_tuple_end, signs_sep]
    rintro ((hm | (⟨t, ht, hc⟩ | ⟨_, hm⟩)) | hm)
    · simp at hm; omega
    · exact shownAll_free (g' k hk) t ht hc
    · simp at hm; omega
    · split at hm
      · simp at hm; omega
      · simp at hm; omega
theorem strOk_free {x : Str} (h : ∀ k, 1114112 ≤ k → k ∉ x.cps.toList) : SeqAt.shaped (.str x) = true := by
  have : PyData.strOk x = true := by
    unfold PyData.strOk
    rw [Array.all_eq_true_iff_forall_mem]
    intro k hk
    by_cases hlt : k < 1114112
    · simpa using hlt
    · exact absurd (by simpa using hk) (h k (by omega))
  simp [SeqAt.shaped, PyData.canLay0, PyData.depth, this]
theorem RP.repr {d : D} {w h : Nat} (r : RP d w h) (hw : w ≤ 16000000) (hh : h ≤ 100) : ∃ x, SeqAt.shaped (.str x) = true ∧ ∀ M, gRepr [d] M = .ok (.str x) M := by
  obtain ⟨p, a, b, c, e, f, g⟩ := r
  refine ⟨p.shown, strOk_free g, fun M => ?_⟩
  have ht : toPy M d = some p := by
    cases d with
    | ref n => simp [D.py] at a
    | _ => exact a
  have ho : okRepr p = true := by
    unfold okRepr
    simp only [Bool.and_eq_true, Nat.ble_eq, Bool.not_eq_true', b, f, and_true, true_and]
    exact ⟨by omega, by omega⟩
  simp only [gRepr, ht]
  exact if_pos ho
theorem gNe_str {x : Str} {M : Mem} (h : SeqAt.shaped (.str x) = true) : gEq true (.str x) (.str x) M = .ok (.bl false) M := by
  have e : PyData.eqv (.str x) (.str x) = true := by simp [PyData.eqv]
  have e2 : (SeqAt.shaped (.str x) && SeqAt.shaped (.str x)) = true := by rw [h]; rfl
  show (if (SeqAt.shaped (.str x) && SeqAt.shaped (.str x)) = true then Res.ok (D.bl (if true = true then !PyData.eqv (.str x) (.str x) else PyData.eqv (.str x) (.str x))) M else Res.bad) = _
  rw [if_pos e2, e]
  rfl
/-! ### boards -/
theorem RP.step {n : Int} {s : List Int} (h : EndsOk n s) (hn : n ≤ 1000) : RP (stepT s) 400 2 := by
  refine (RP.tup (w := 130) (h := 1) (n := 3) (fun d hd => ?_) (by rw [List.length_map]; exact h.1)).mono (by omega) (by omega)
  obtain ⟨e, he, rfl⟩ := List.mem_map.mp hd
  have := h.2 e he
  exact RP.int (by omega) (by omega)
theorem RP.wheel {n : Int} {w : List (List Int)} (h : WheelOk n w) (hn : n ≤ 1000) : RP (wheelT w) 2000 3 := by
  refine (RP.tup (w := 400) (h := 2) (n := 4) (fun d hd => ?_) (by rw [List.length_map]; exact h.2.1)).mono (by omega) (by omega)
  obtain ⟨e, he, rfl⟩ := List.mem_map.mp hd
  exact RP.step (h.2.2 e he) hn
theorem RP.board {n : Int} {ws : List (List (List Int))} {c : Int} (h : ∀ w ∈ ws, WheelOk n w) (hn : n ≤ 1000) (hl : ws.length ≤ 20) (h0 : 0 ≤ c) (h1 : c ≤ 1000) : RP (boardT ws c) 100000 5 := by
  refine (RP.tup (w := 41000) (h := 4) (n := 2) (fun d hd => ?_) (by simp)).mono (by omega) (by omega)
  simp only [List.mem_cons, List.mem_nil_iff, or_false] at hd
  rcases hd with rfl | rfl
  · refine (RP.tup (w := 2000) (h := 3) (n := 20) (fun d hd => ?_) (by rw [List.length_map]; exact hl)).mono (by omega) (by omega)
    obtain ⟨e, he, rfl⟩ := List.mem_map.mp hd
    exact RP.wheel (h e he) hn
  · exact (RP.int (by omega) (by omega)).mono (by omega) (by omega)
theorem RP.links {n : Int} {ls : List (Option Int)} (h : LinksOk n ls) (hn : n ≤ 1000) (hl : ls.length ≤ 20) : RP (linksT ls) 3000 2 := by
  refine (RP.tup (w := 130) (h := 1) (n := 20) (fun d hd => ?_) (by rw [List.length_map]; exact hl)).mono (by omega) (by omega)
  obtain ⟨l, hm, rfl⟩ := List.mem_map.mp hd
  cases l with
  | none => exact RP.non
  | some i =>
    have := h _ hm i rfl
    exact RP.int (by omega) (by omega)
end QX

set_option maxRecDepth 100000
set_option maxHeartbeats 1000000
/-! QZ11: moments known -/
namespace QX
open PySem PySem.Spec PyProof.Rows L2 HX
section
variable {M : Mem} {p k : Nat} {x : Cell} {σ : Sa}
theorem tup3_ev {fa fb fc : F D} {M1 M2 M3 : Mem} {a b c : D} (ha : fa σ M = .ok a M1) (hb : fb σ M1 = .ok b M2) (hc : fc σ M2 = .ok c M3) : fTup (fCons fa (fCons fb (fCons fc fNil))) σ M = .ok (.tup [a, b, c]) M3 := by
  have hf2 : few 3 = true := by decide
  simp [ha, hb, hc, hf2]
theorem par_ev {fa fb : F D} {i j : Nat} {M1 M2 : Mem} {a b : D} (ha : fa σ M = .ok a M1) (hb : fb σ M1 = .ok b M2) : sPar i j (fCons fa (fCons fb fNil)) σ M = .ok (.nx ((σ.set i (some a)).set j (some b))) M2 := by
  simp [ha, hb]
theorem call1_ev {m : List D → Mem → Res D} {fa : F D} {M1 : Mem} {a : D} (ha : fa σ M = .ok a M1) : fCall m (fCons fa fNil) σ M = m [a] M1 := call_ev (by simp [ha])
theorem call3_ev {m : List D → Mem → Res D} {fa fb fc : F D} {M1 M2 M3 : Mem} {a b c : D} (ha : fa σ M = .ok a M1) (hb : fb σ M1 = .ok b M2) (hc : fc σ M2 = .ok c M3) : fCall m (fCons fa (fCons fb (fCons fc fNil))) σ M = m [a, b, c] M3 := call_ev (by simp [ha, hb, hc])
theorem var_ev {i : Nat} {d : D} (h : σ[i]? = some (some d)) : fVar i σ M = .ok d M := by rw [ev_var, h]
theorem for_of {fi : F Ita} {i : Nat} {b : FS} {items : List Im} {M1 : Mem} {r : RS} (h : fi σ M = .ok ⟨items, fun _ => true⟩ M1) (hf : forL (.name i) b (fun _ => true) M1.length items σ M1 = r) : sFor fi (.name i) b σ M = r := by
  rw [ev_for, h]
  exact hf
theorem lst3_ev {fa fb fc : F D} {M1 M2 M3 : Mem} {a b c : D} (ha : fa σ M = .ok a M1) (hb : fb σ M1 = .ok b M2) (hc : fc σ M2 = .ok c M3) : fLst (fCons fa (fCons fb (fCons fc fNil))) σ M = .ok (.lst [a, b, c]) M3 := by
  have hf2 : few 3 = true := by decide
  simp [ha, hb, hc, hf2]
theorem tup1_ev {fa : F D} {M1 : Mem} {a : D} (ha : fa σ M = .ok a M1) : fTup (fCons fa fNil) σ M = .ok (.tup [a]) M1 := by
  have hf2 : few 1 = true := by decide
  simp [ha, hf2]
theorem choose_map {α : Type} {f : α → D} {P : α → Prop} : ∀ ds : List D, (∀ d ∈ ds, ∃ a, d = f a ∧ P a) → ∃ as : List α, ds = as.map f ∧ ∀ a ∈ as, P a
  | [], _ => ⟨[], rfl, fun a h => by simp at h⟩
  | d :: ds, h => by
    obtain ⟨a, rfl, pa⟩ := h d (by simp)
    obtain ⟨as, rfl, ps⟩ := choose_map ds fun x hx => h x (by simp [hx])
    exact ⟨a :: as, rfl, fun b hb => by
      rcases List.mem_cons.mp hb with rfl | hb
      · exact pa
      · exact ps b hb⟩
theorem set_self {M : Mem} {x : Cell} (hx : M[p]? = some x) : M.set p x = M := by
  have hp : p < M.length := (List.getElem?_eq_some_iff.mp hx).1
  refine List.ext_getElem? fun i => ?_
  by_cases hi : p = i
  · subst hi; rw [List.getElem?_set_self hp, hx]
  · rw [List.getElem?_set_ne hi]
theorem range1_ev {fa : F D} {j : Int} {M1 : Mem} {n : Nat} (h : fa σ M = .ok (.int j) M1) (h0 : -1000 ≤ j) (h1 : j ≤ 1000) (hn : j.toNat = n) : fIt gRange1 (fCons fa fNil) σ M = .ok ⟨nums 0 n, fun _ => true⟩ M1 := by
  subst hn
  have hm := mid_small h0 h1
  rw [ev_it, ev_cons, h, bind_ok, ev_nil, bind_ok, bind_ok, gRange1_int]
  exact if_pos hm
theorem call2_ev {m : List D → Mem → Res D} {fa fb : F D} {M1 M2 : Mem} {a b : D} (ha : fa σ M = .ok a M1) (hb : fb σ M1 = .ok b M2) : fCall m (fCons fa (fCons fb fNil)) σ M = m [a, b] M2 := call_ev (by simp [ha, hb])
end
theorem all_it {fi : F Ita} {vs : List Nat} {t : Tg} {e : F D} {σ : Sa} {M : Mem} {it : Ita} (f : Im → Bool) (hi : fi σ M = .ok it M) (hc : ∀ M', it.chk M' = true) (hw : Wf M) (hl : it.items.length ≤ 1000000)
    (he : ∀ im ∈ it.items, ∃ σ1, t.put im (wipeA σ vs) = some σ1 ∧ ∀ M', Wf M' → M.length < M'.length → e σ1 M' = .ok (.bl (f im)) M') : fCall gAll (fCons (fTrim (fCompC fi vs t fYes e)) fNil) σ M = .ok (.bl (it.items.all f)) M := by
  have h := comp_pure (fi := fi) (vs := vs) (t := t) (e := e) (σ := σ) (M := M) (it := it) (fun im => .bl (f im)) hi hc hw hl (fun im him => ⟨rfl, he im him⟩)
  rw [ev_call, ev_cons, h]
  simp only [bind_ok, ev_nil]
  exact gAll_map f it.items
def moT (m : Mo) : D := .tup [stepT m.st, stepT m.wt, stepT m.hd]
theorem und_mo {n : Nat} (m : Mo) : (moT m).und n = true := by
  simp [moT, D.und, D.undA, und_step]
variable {M : Mem} {ws : List (List (List Int))} {c : Int} {m : Mo} {σ : Sa}
theorem ok_stepT (s : List Int) : (stepT s).ok = true := rfl
theorem parts_step {a b : Int} (s : List Int) : partsB a b (stepT s) = (decide (a ≤ (s.length : Int)) && decide ((s.length : Int) ≤ b)) := by
  simp [partsB, stepT]
theorem m_are_marbles_eq {xs : List Int} {n : Nat} (hw : Wf M) (hl : xs.length = n) (hs : n ≤ 1000) (h0 : ∀ x ∈ xs, 0 ≤ x) : m_are_marbles [stepT xs, .int n] M = .ok (.bl true) M := by
  refine run_pure rfl ?_
  refine and_ev (p := true) (q := true) ?_ fun _ => ?_
  · refine (call3_ev (var_ev rfl) (var_ev rfl) (var_ev rfl)).trans ?_
    rw [m_has_parts_eq (ok_stepT xs), parts_step]
    simp [hl]
  · have := all_comp (fa := fVar 0) (vs := [2]) (i := 2) (ds := xs.map D.int) (σ := startA 3 [stepT xs, .int n]) (M := M) (fun _ => true) (e := (fAnd (fCall m_is_whole (fCons (fVar 2) fNil)) (fBin (gCmp cGe) (fVar 2) (fC (.int 0))))) rfl hw (by rw [List.length_map]; omega) (fun d hd M' w' _ => by
      obtain ⟨x, hx, rfl⟩ := List.mem_map.mp hd
      have := h0 x hx
      simp [startA, wipeA, m_is_whole_eq (show (D.int x).ok = true from rfl), isW, cGe, this])
    rw [this]
    simp
theorem zip_sw : ∀ (st : List Int) (ws : List (List (List Int))) (im : Im), im ∈ zip2 (st.map D.int) (ws.map wheelT) → ∃ (i : Nat) (s : Int) (w : List (List Int)), st[i]? = some s ∧ ws[i]? = some w ∧ im = .pr [.int s, wheelT w]
  | [], ws, im, h => by simp [zip2] at h
  | s :: st, [], im, h => by simp [zip2] at h
  | s :: st, w :: ws, im, h => by
    simp only [List.map_cons, zip2, List.mem_cons] at h
    rcases h with rfl | h
    · exact ⟨0, s, w, rfl, rfl, rfl⟩
    · obtain ⟨i, a, b, h1, h2, h3⟩ := zip_sw st ws im h
      exact ⟨i + 1, a, b, by simpa using h1, by simpa using h2, h3⟩
theorem zip_len : ∀ (as bs : List D), (zip2 as bs).length ≤ as.length
  | [], bs => by simp [zip2]
  | a :: as, [] => by simp [zip2]
  | a :: as, b :: bs => by
    have := zip_len as bs
    simp only [zip2, List.length_cons]
    omega
theorem m_is_stand_eq (hw : Wf M) (hb : BoardOk ws c) {st : List Int} (hl : st.length = ws.length) (hr : ∀ (i : Nat) (s : Int) (w : List (List Int)), st[i]? = some s → ws[i]? = some w → 0 ≤ s ∧ s < (w.length : Int)) : m_is_stand [boardT ws c, stepT st] M = .ok (.bl true) M := by
  have h6 := hb.w6
  have e1 := m_need_board_eq hb hw
  have s1 : sExpr (fCall m_need_board (fCons (fVar 0) fNil)) [some (boardT ws c), some (stepT st), none, none, none] M = .ok (.nx [some (boardT ws c), some (stepT st), none, none, none]) M := by
    as_aux_lemma => exact expr_ev (d := .non) ((call1_ev (var_ev rfl)).trans e1)
  have s2 : sSet 2 (fBin gIx (fVar 0) (fC (.int 0))) [some (boardT ws c), some (stepT st), none, none, none] M = .ok (.nx [some (boardT ws c), some (stepT st), some (wheelsT ws), none, none]) M := by
    as_aux_lemma => exact set_ev ((bin_ev (M2 := M) (b := .int 0) (var_ev rfl) rfl).trans board_0)
  have s3 : sIf (fNotT (fTest (fCall m_has_parts (fCons (fVar 1) (fCons (fCall gLen (fCons (fVar 2) fNil)) (fCons (fCall gLen (fCons (fVar 2) fNil)) fNil)))))) (sRet (fC (.bl false))) sNext [some (boardT ws c), some (stepT st), some (wheelsT ws), none, none] M = .ok (.nx [some (boardT ws c), some (stepT st), some (wheelsT ws), none, none]) M := by
    as_aux_lemma =>
      refine (sif_ev (p := false) (not_ev (p := true) (test_ev ?_))).trans rfl
      refine (call3_ev (var_ev rfl) ((call1_ev (var_ev rfl)).trans wheels_len) ((call1_ev (var_ev rfl)).trans wheels_len)).trans ?_
      rw [m_has_parts_eq (ok_stepT st), parts_step]
      simp [hl]
  have e4 := all_it (fi := fIt gZip2 (fCons (fVar 1) (fCons (fVar 2) fNil))) (vs := [3, 4]) (t := .tup [3, 4]) (e := (fCall m_is_within (fCons (fVar 3) (fCons (fC (.int 0)) (fCons (fBin gSub (fCall gLen (fCons (fVar 4) fNil)) (fC (.int 1))) fNil))))) (σ := [some (boardT ws c), some (stepT st), some (wheelsT ws), none, none]) (M := M) (it := ⟨zip2 (st.map D.int) (ws.map wheelT), fun _ => true⟩) (fun _ => true) (by simp [gZip2, seqI, stepT, wheelsT]) (fun _ => rfl) hw (by have := zip_len (st.map D.int) (ws.map wheelT); rw [List.length_map] at this; dsimp only; omega) (fun im him => by
      obtain ⟨i, s, w, h1, h2, rfl⟩ := zip_sw st ws im him
      obtain ⟨r0, r1⟩ := hr i s w h1 h2
      refine ⟨_, rfl, fun M' _ _ => ?_⟩
      simp [wipeA, setAll, m_is_within_eq (show (D.int s).ok = true from rfl), inB, wheelT, r0]
      omega)
  have sb : b_is_stand (startA 5 [boardT ws c, stepT st]) M = .ok (.rt (.bl true)) M := by
    as_aux_lemma =>
      refine (seq_nx s1).trans ((seq_nx s2).trans ((seq_nx s3).trans (ret_ev ?_)))
      rw [e4]
      simp
  exact (run_rt (n := 5) (k := 2) rfl sb).trans (trim_id rfl)
theorem m_is_moment_eq (hw : Wf M) (hb : BoardOk ws c) (hm : MoOk ws c m) : m_is_moment [boardT ws c, moT m] M = .ok (.bl true) M := by
  have h6 := hb.w6
  have h4 := hb.c4
  have hl := hm.hl
  have e1 := m_need_board_eq hb hw
  have e2 := m_is_stand_eq hw hb hm.sl hm.sr
  have e3 := m_are_marbles_eq (M := M) hw hm.wl (by omega) hm.wn
  have e5 := m_are_marbles_eq (M := M) (xs := m.hd) hw rfl (by omega) hm.hn
  rw [hl] at e5
  have s1 : sExpr (fCall m_need_board (fCons (fVar 0) fNil)) [some (boardT ws c), some (moT m), none, none, none, none, none] M = .ok (.nx [some (boardT ws c), some (moT m), none, none, none, none, none]) M := by
    as_aux_lemma => exact expr_ev (d := .non) ((call1_ev (var_ev rfl)).trans e1)
  have s2 : sIf (fNotT (fTest (fCall m_has_parts (fCons (fVar 1) (fCons (fC (.int 3)) (fCons (fC (.int 3)) fNil)))))) (sRet (fC (.bl false))) sNext [some (boardT ws c), some (moT m), none, none, none, none, none] M = .ok (.nx [some (boardT ws c), some (moT m), none, none, none, none, none]) M := by
    as_aux_lemma =>
      refine (sif_ev (p := false) (not_ev (p := true) (test_ev ?_))).trans rfl
      refine (call3_ev (var_ev rfl) rfl rfl).trans ?_
      rw [m_has_parts_eq (show (moT m).ok = true from rfl)]
      rfl
  have s3 : sAsg (fVar 0) (.tup [2, 3]) [some (boardT ws c), some (moT m), none, none, none, none, none] M = .ok (.nx [some (boardT ws c), some (moT m), some (wheelsT ws), some (.int c), none, none, none]) M := by
    as_aux_lemma => exact asg_ev (d := boardT ws c) (var_ev rfl) rfl
  have s4 : sAsg (fVar 1) (.tup [4, 5, 6]) [some (boardT ws c), some (moT m), some (wheelsT ws), some (.int c), none, none, none] M = .ok (.nx [some (boardT ws c), some (moT m), some (wheelsT ws), some (.int c), some (stepT m.st), some (stepT m.wt), some (stepT m.hd)]) M := by
    as_aux_lemma => exact asg_ev (d := moT m) (var_ev rfl) rfl
  have sb : b_is_moment (startA 7 [boardT ws c, moT m]) M = .ok (.rt (.bl true)) M := by
    as_aux_lemma =>
      refine (seq_nx s1).trans ((seq_nx s2).trans ((seq_nx s3).trans ((seq_nx s4).trans (ret_ev ?_))))
      refine and_ev (p := true) (q := true) ((call2_ev (var_ev rfl) (var_ev rfl)).trans e2) fun _ => ?_
      exact and_ev (p := true) (q := true) ((call2_ev (var_ev rfl) ((call1_ev (var_ev rfl)).trans wheels_len)).trans e3) fun _ => (call2_ev (var_ev rfl) (var_ev rfl)).trans e5
  exact (run_rt (n := 7) (k := 2) rfl sb).trans (trim_id rfl)
theorem m_need_moment_eq (hw : Wf M) (hb : BoardOk ws c) (hm : MoOk ws c m) : m_need_moment [boardT ws c, moT m] M = .ok .non M := by
  have e := m_is_moment_eq hw hb hm
  refine (run_nx (M1 := M) (σ := startA 2 [boardT ws c, moT m]) rfl ?_).trans (trim_id rfl)
  exact (sif_ev (p := false) (not_ev (p := true) (test_ev ((call2_ev (var_ev rfl) (var_ev rfl)).trans e)))).trans rfl
def rowT (row : List Nat) : D := .tup (row.map fun i : Nat => D.int (i : Int))
theorem m_need_row_eq {row : List Nat} (hw : Wf M) (hb : BoardOk ws c) (hl : row.length ≤ 100000) (hr : ∀ i ∈ row, i < ws.length) : m_need_row [boardT ws c, rowT row] M = .ok .non M := by
  have e : m_is_row [boardT ws c, rowT row] M = .ok (.bl true) M := by
    refine run_pure rfl ?_
    refine and_ev (p := true) (q := true) ?_ fun _ => ?_
    · simp [startA, rowT, gIsi, D.ty, Ty.name, Ty.is]
    · have := all_comp (fa := fVar 1) (vs := [2]) (i := 2) (ds := row.map fun i : Nat => D.int (i : Int)) (σ := startA 3 [boardT ws c, rowT row]) (M := M) (fun _ => true) (e := (fCall m_is_wheel_number (fCons (fVar 0) (fCons (fVar 2) fNil)))) rfl hw (by rw [List.length_map]; omega) (fun d hd M' w' _ => by
        obtain ⟨x, hx, rfl⟩ := List.mem_map.mp hd
        have := hr x hx
        refine (call2_ev (var_ev rfl) (var_ev rfl)).trans ?_
        rw [m_is_wheel_number_eq (show (D.int (x : Int)).ok = true from rfl)]
        simp [inB]
        omega)
      rw [this]
      simp
  refine (run_nx (M1 := M) (σ := startA 2 [boardT ws c, rowT row]) rfl ?_).trans (trim_id rfl)
  exact (sif_ev (p := false) (not_ev (p := true) (test_ev ((call2_ev (var_ev rfl) (var_ev rfl)).trans e)))).trans rfl
end QX

set_option maxRecDepth 100000
set_option maxHeartbeats 1000000
/-! QZ12: a marble handled -/
namespace QX
open PySem PySem.Spec PyProof.Rows L2 HX
def mem3 (A : Mem) (st wt hd : List Int) (g : Mem) : Mem := A ++ ([Cell.lst (st.map D.int), .lst (wt.map D.int), .lst (hd.map D.int)] ++ g)
variable {A g M : Mem} {st wt hd : List Int} {σ : Sa} {ws : List (List (List Int))} {c : Int} {m : Mo}
theorem mem3_len : (mem3 A st wt hd g).length = A.length + 3 + g.length := by simp [mem3]; omega
theorem mem3_0 : (mem3 A st wt hd g)[A.length]? = some (.lst (st.map D.int)) := by
  unfold mem3; rw [List.getElem?_append_right (Nat.le_refl _), Nat.sub_self]; rfl
theorem mem3_1 : (mem3 A st wt hd g)[A.length + 1]? = some (.lst (wt.map D.int)) := by
  unfold mem3; rw [List.getElem?_append_right (by omega), Nat.add_sub_cancel_left]; rfl
theorem mem3_2 : (mem3 A st wt hd g)[A.length + 2]? = some (.lst (hd.map D.int)) := by
  unfold mem3; rw [List.getElem?_append_right (by omega), Nat.add_sub_cancel_left]; rfl
theorem mem3_s0 {x : List Int} : (mem3 A st wt hd g).set A.length (.lst (x.map D.int)) = mem3 A x wt hd g := by
  unfold mem3; rw [List.set_append_right _ _ (Nat.le_refl _), Nat.sub_self]; rfl
theorem mem3_s1 {x : List Int} : (mem3 A st wt hd g).set (A.length + 1) (.lst (x.map D.int)) = mem3 A st x hd g := by
  unfold mem3; rw [List.set_append_right _ _ (by omega), Nat.add_sub_cancel_left]; rfl
theorem mem3_s2 {x : List Int} : (mem3 A st wt hd g).set (A.length + 2) (.lst (x.map D.int)) = mem3 A st wt x g := by
  unfold mem3; rw [List.set_append_right _ _ (by omega), Nat.add_sub_cancel_left]; rfl
theorem wf_mem3 (h : Wf A) : Wf (mem3 A st wt hd []) := by
  have u : ∀ n (x : List Int), Cell.und n (.lst (x.map D.int)) = true := fun n x => undA_map (fun _ => rfl) x
  have := Wf.push (Wf.push (Wf.push h (u _ st)) (u _ wt)) (u _ hd)
  simpa [mem3] using this
/-- xs[i] of a list in a cell -/
theorem ixCell {n i : Nat} {xs : List Int} (h : M[n]? = some (.lst (xs.map D.int))) (hi : i < xs.length) : gIx (.ref n) (.int (i : Int)) M = .ok (.int (xs.getD i 0)) M := by
  have e : atI (xs.map D.int) (i : Int) = some (.int (xs.getD i 0)) := by
    rw [atI_nn (by omega), Int.toNat_natCast, List.getElem?_map, List.getD_eq_getElem?_getD, List.getElem?_eq_getElem hi]
    rfl
  rw [gIx_ref h, e]
theorem setCell {n i : Nat} {xs : List Int} {z : Int} (h : M[n]? = some (.lst (xs.map D.int))) (hi : i < xs.length) : gSetIx (.ref n) (.int (i : Int)) (.int z) M = some (M.set n (.lst ((xs.set i z).map D.int))) := by
  have hx : ixN (xs.map D.int).length (i : Int) = some i := ixN_nat (by rw [List.length_map]; exact hi)
  simp only [gSetIx, h, hx, List.map_set]
theorem getCell {n i : Nat} {xs : List Int} (h : M[n]? = some (.lst (xs.map D.int))) (hi : i < xs.length) : gGetN (.ref n) (.int (i : Int)) M = some (.int (xs.getD i 0)) := by
  have e : decide ((0 : Int) ≤ (i : Int)) = true := by rw [decide_eq_true_eq]; omega
  simp only [gGetN, e, if_true, listOf, h, Int.toNat_natCast, List.getElem?_map, List.getD_eq_getElem?_getD, List.getElem?_eq_getElem hi]
  rfl
theorem aug_ev {fo fi : F D} {n i : Nat} {xs : List Int} {sub : Bool} (ho : fo σ M = .ok (.ref n) M) (hi : fi σ M = .ok (.int (i : Int)) M) (h : M[n]? = some (.lst (xs.map D.int))) (hl : i < xs.length) :
    sAugIx fo fi (fC (.int 1)) (gAug sub) σ M = .ok (.nx σ) (M.set n (.lst ((bump xs i (if sub = true then -1 else 1)).map D.int))) := by
  rw [ev_augIx, ho, bindS_ok, hi, bindS_ok, getCell h hl]
  simp only [ev_c, bindS_ok, gAug]
  have e : (if sub = true then xs.getD i 0 - 1 else xs.getD i 0 + 1) = xs.getD i 0 + (if sub = true then -1 else 1) := by cases sub <;> rfl
  rw [e, setCell h hl]
  rfl
theorem setIx_ev {fo fi fv : F D} {n i : Nat} {xs : List Int} {z : Int} (hv : fv σ M = .ok (.int z) M) (ho : fo σ M = .ok (.ref n) M) (hi : fi σ M = .ok (.int (i : Int)) M) (h : M[n]? = some (.lst (xs.map D.int))) (hl : i < xs.length) :
    sSetIx fo fi fv σ M = .ok (.nx σ) (M.set n (.lst ((xs.set i z).map D.int))) := by
  rw [ev_setIx, hv, bindS_ok, ho, bindS_ok, hi, bindS_ok, setCell h hl]
theorem wheel_at {i : Nat} (hi : i < ws.length) : gIx (wheelsT ws) (.int (i : Int)) M = .ok (wheelT (ws.getD i [])) M := by
  have : atI (ws.map wheelT) (i : Int) = some (wheelT (ws.getD i [])) := by
    rw [atI_nn (by omega), Int.toNat_natCast, List.getElem?_map, List.getD_eq_getElem?_getD, List.getElem?_eq_getElem hi]; rfl
  unfold wheelsT
  simp [this]
theorem wheel_len (w : List (List Int)) : gLen [wheelT w] M = .ok (.int w.length) M := by simp [wheelT]
theorem step_at {i : Int} {w : List (List Int)} (h0 : 0 ≤ i) (hi : i < w.length) : gIx (wheelT w) (.int i) M = .ok (stepT (w.getD i.toNat [])) M := by
  have : atI (w.map stepT) i = some (stepT (w.getD i.toNat [])) := by
    rw [atI_nn h0, List.getElem?_map, List.getD_eq_getElem?_getD, List.getElem?_eq_getElem (by omega)]; rfl
  unfold wheelT
  simp [this]
theorem m_loosened_eq : m_loosened [moT m] M = .ok (.tup [.ref M.length, .ref (M.length + 1), .ref (M.length + 2)]) (mem3 M m.st m.wt m.hd []) := by
  have lc : ∀ (M : Mem) (x : List Int), gListC [stepT x] M = .ok (.ref M.length) (M ++ [.lst (x.map D.int)]) := fun M x => rfl
  have s1 : sAsg (fVar 0) (.tup [1, 2, 3]) [some (moT m), none, none, none] M = .ok (.nx [some (moT m), some (stepT m.st), some (stepT m.wt), some (stepT m.hd)]) M := by
    as_aux_lemma => exact asg_ev (d := moT m) (var_ev rfl) rfl
  have e3 := tup3_ev (σ := [some (moT m), some (stepT m.st), some (stepT m.wt), some (stepT m.hd)]) ((call1_ev (m := gListC) (fa := fVar 1) (M := M) (var_ev rfl)).trans (lc M m.st)) ((call1_ev (m := gListC) (fa := fVar 2) (var_ev rfl)).trans (lc _ m.wt)) ((call1_ev (m := gListC) (fa := fVar 3) (var_ev rfl)).trans (lc _ m.hd))
  have l1 : (M ++ [Cell.lst (m.st.map D.int)]).length = M.length + 1 := by simp
  have l2 : (M ++ [Cell.lst (m.st.map D.int)] ++ [Cell.lst (m.wt.map D.int)]).length = M.length + 2 := by simp
  have hmem : M ++ [Cell.lst (m.st.map D.int)] ++ [Cell.lst (m.wt.map D.int)] ++ [Cell.lst (m.hd.map D.int)] = mem3 M m.st m.wt m.hd [] := by simp [mem3]
  rw [l1, l2, hmem] at e3
  have sb : b_loosened (startA 4 [moT m]) M = .ok (.rt (.tup [.ref M.length, .ref (M.length + 1), .ref (M.length + 2)])) (mem3 M m.st m.wt m.hd []) := by
    as_aux_lemma => exact (seq_nx s1).trans (ret_ev e3)
  unfold m_loosened runD
  rw [sb]
  rfl
theorem m_fastened_eq {N : Mem} (hn : N = mem3 A m.st m.wt m.hd g) : m_fastened [.ref A.length, .ref (A.length + 1), .ref (A.length + 2)] N = .ok (moT m) N := by
  subst hn
  refine run_pure rfl ?_
  exact tup3_ev ((call1_ev (var_ev rfl)).trans (gTuple_ref mem3_0)) ((call1_ev (var_ev rfl)).trans (gTuple_ref mem3_1)) ((call1_ev (var_ev rfl)).trans (gTuple_ref mem3_2))
/-! ### one marble -/
def hmFS : FS := (sIf (fTest (fBin (gCmp cLt) (fVar 8) (fCall gLen (fCons (fVar 3) fNil))))
  (sAugIx (fVar 5) (fVar 8) (fC (.int 1)) (gAug false))
  (sAugIx (fVar 6) (fBin gSub (fVar 8) (fCall gLen (fCons (fVar 3) fNil))) (fC (.int 1)) (gAug false)))
theorem handle_marble_body : b_handle_marble = (sSeq (sSet 3 (fBin gIx (fVar 0) (fC (.int 0))))
  (sSeq (sAsg (fVar 1) (.tup [4, 5, 6]))
  (sSeq (sSet 7 (fBin gIx (fVar 4) (fVar 2)))
  (sSeq (sAugIx (fVar 5) (fVar 2) (fC (.int 1)) (gAug true))
  (sSeq (sFor (fIter (fBin gIx (fBin gIx (fVar 3) (fVar 2)) (fVar 7))) (.name 8) hmFS)
  (sSetIx (fVar 4) (fVar 2) (fBin gMod (fBin gAdd (fVar 7) (fC (.int 1))) (fCall gLen (fCons (fBin gIx (fVar 3) (fVar 2)) fNil))))))))) := rfl
theorem hm_loop {n : Nat} {es : List Int} {l : List (Nat × D)} (hs : Has σ 9 l) (h3 : (3, wheelsT ws) ∈ l) (h5 : (5, D.ref (A.length + 1)) ∈ l) (h6 : (6, D.ref (A.length + 2)) ∈ l) (h8 : ∀ q ∈ l, q.1 ≠ 8) (hwt : wt.length = ws.length) (he : ∀ e ∈ es, 0 ≤ e ∧ e < ws.length + hd.length) (hn : n = A.length + 3 + g.length) :
    ∃ σ', forL (.name 8) hmFS (fun _ => true) n ((es.map D.int).map .d) σ (mem3 A st wt hd g) = .ok (.nx σ') (mem3 A st (es.foldl (sendM ws.length) (wt, hd)).1 (es.foldl (sendM ws.length) (wt, hd)).2 g) ∧ Has σ' 9 l := by
  obtain ⟨σ', M', f1, ⟨p, rfl, p1, p2, p3⟩, f3⟩ := for_items (b := hmFS) (n := n) (i := 8) (σ := σ) (M := mem3 A st wt hd g) (ds := es.map D.int) (fun j σ N => (∃ p : List Int × List Int, N = mem3 A st p.1 p.2 g ∧ p = (es.take j).foldl (sendM ws.length) (wt, hd) ∧ p.1.length = ws.length ∧ p.2.length = hd.length) ∧ Has σ 9 l) ⟨⟨(wt, hd), rfl, rfl, hwt, rfl⟩, hs⟩ (fun j σ N d hd' hv => by
    obtain ⟨⟨p, rfl, p1, p2, p3⟩, hs⟩ := hv
    rw [List.getElem?_map] at hd'
    cases q : es[j]? with
    | none => rw [q] at hd'; cases hd'
    | some e =>
      rw [q] at hd'
      cases hd'
      obtain ⟨e0, e1⟩ := he e (List.mem_of_getElem? q)
      have htake : (es.take (j + 1)).foldl (sendM ws.length) (wt, hd) = sendM ws.length p e := by
        rw [List.take_add_one, q, List.foldl_append, ← p1]; rfl
      have hs' : Has (σ.set 8 (some (.int e))) 9 ((8, .int e) :: l) := hs.put (by decide) h8
      generalize σ.set 8 (some (D.int e)) = σ1 at hs'
      have k8 := hs'.at (i := 8) (d := .int e) (by simp)
      have k3 := hs'.at (List.mem_cons_of_mem _ h3)
      have k5 := hs'.at (List.mem_cons_of_mem _ h5)
      have k6 := hs'.at (List.mem_cons_of_mem _ h6)
      have len3 : ∀ M : Mem, fCall gLen (fCons (fVar 3) fNil) σ1 M = .ok (.int ws.length) M := fun M => (call1_ev (var_ev k3)).trans wheels_len
      by_cases hlt : e < ws.length
      · have hsend : sendM ws.length p e = (bump p.1 e.toNat 1, p.2) := by unfold sendM; rw [if_pos hlt]
        refine ⟨σ1, mem3 A st (bump p.1 e.toNat 1) p.2 g, .inl ?_, ?_⟩
        · refine (sif_ev (p := true) (M1 := mem3 A st p.1 p.2 g) (test_ev ((bin_ev (var_ev k8) (len3 _)).trans (by simp [cLt, hlt])))).trans ((if_pos rfl).trans ?_)
          refine (aug_ev (n := A.length + 1) (i := e.toNat) (xs := p.1) (sub := false) (var_ev k5) ((var_ev k8).trans (by rw [Int.toNat_of_nonneg e0])) mem3_1 (by omega)).trans ?_
          rw [mem3_s1]; rfl
        · rw [gc_same (by rw [mem3_len, hn])]
          exact ⟨⟨(bump p.1 e.toNat 1, p.2), rfl, by rw [htake, hsend], by rw [← p2]; exact bump_len, p3⟩, hs'.sub fun q hq => List.mem_cons_of_mem _ hq⟩
      · have hsend : sendM ws.length p e = (p.1, bump p.2 (e - ws.length).toNat 1) := by unfold sendM; rw [if_neg hlt]
        refine ⟨σ1, mem3 A st p.1 (bump p.2 (e - ws.length).toNat 1) g, .inl ?_, ?_⟩
        · refine (sif_ev (p := false) (M1 := mem3 A st p.1 p.2 g) (test_ev ((bin_ev (var_ev k8) (len3 _)).trans (by simp [cLt, hlt])))).trans ((if_neg (by decide)).trans ?_)
          refine (aug_ev (n := A.length + 2) (i := (e - ws.length).toNat) (xs := p.2) (sub := false) (var_ev k6) (((bin_ev (var_ev k8) (len3 _)).trans gSub_int).trans (by rw [Int.toNat_of_nonneg (by omega)])) mem3_2 (by omega)).trans ?_
          rw [mem3_s2]; rfl
        · rw [gc_same (by rw [mem3_len, hn])]
          exact ⟨⟨(p.1, bump p.2 (e - ws.length).toNat 1), rfl, by rw [htake, hsend], p2, by rw [← p3]; exact bump_len⟩, hs'.sub fun q hq => List.mem_cons_of_mem _ hq⟩)
  refine ⟨σ', ?_, f3⟩
  rw [List.length_map, List.take_length] at p1
  rw [f1, p1]
theorem m_handle_marble_eq {N : Mem} {w : Nat} (hN : N = mem3 A m.st m.wt m.hd g) (hb : BoardOk ws c) (hm : MoF ws c m) (hw : w < ws.length) (hW : Wf N) :
    m_handle_marble [boardT ws c, .tup [.ref A.length, .ref (A.length + 1), .ref (A.length + 2)], .int (w : Int)] N = .ok .non (mem3 A (handleM ws m w).st (handleM ws m w).wt (handleM ws m w).hd g) := by
  subst hN
  have wlt : w < m.wt.length := by rw [hm.wl]; exact hw
  have slt : w < m.st.length := by rw [hm.sl]; exact hw
  have hx : ws[w]? = some (ws.getD w []) := by rw [List.getD_eq_getElem?_getD, List.getElem?_eq_getElem hw]; rfl
  have hsx : m.st[w]? = some (m.st.getD w 0) := by rw [List.getD_eq_getElem?_getD, List.getElem?_eq_getElem slt]; rfl
  obtain ⟨r0, r1⟩ := hm.sr w _ _ hsx hx
  obtain ⟨v1, v4, vs⟩ := hb.wheels (ws.getD w []) (List.mem_of_getElem? hx)
  have hin : endsAt ws m.st w ∈ ws.getD w [] := by
    unfold endsAt
    rw [List.getD_eq_getElem?_getD (l := ws.getD w []), List.getElem?_eq_getElem (by omega)]
    exact List.getElem_mem _
  obtain ⟨e3, er⟩ := vs _ hin
  generalize hP : D.tup [.ref A.length, .ref (A.length + 1), .ref (A.length + 2)] = P
  have s1 : sSet 3 (fBin gIx (fVar 0) (fC (.int 0))) [some (boardT ws c), some P, some (.int (w : Int)), none, none, none, none, none, none] (mem3 A m.st m.wt m.hd g) = .ok (.nx [some (boardT ws c), some P, some (.int (w : Int)), some (wheelsT ws), none, none, none, none, none]) (mem3 A m.st m.wt m.hd g) := by
    as_aux_lemma => exact set_ev ((bin_ev (b := .int 0) (var_ev rfl) rfl).trans board_0)
  have s2 : sAsg (fVar 1) (.tup [4, 5, 6]) [some (boardT ws c), some P, some (.int (w : Int)), some (wheelsT ws), none, none, none, none, none] (mem3 A m.st m.wt m.hd g) = .ok (.nx [some (boardT ws c), some P, some (.int (w : Int)), some (wheelsT ws), some (.ref A.length), some (.ref (A.length + 1)), some (.ref (A.length + 2)), none, none]) (mem3 A m.st m.wt m.hd g) := by
    as_aux_lemma => exact asg_ev (d := P) (var_ev rfl) (by rw [← hP]; rfl)
  have s3 : sSet 7 (fBin gIx (fVar 4) (fVar 2)) [some (boardT ws c), some P, some (.int (w : Int)), some (wheelsT ws), some (.ref A.length), some (.ref (A.length + 1)), some (.ref (A.length + 2)), none, none] (mem3 A m.st m.wt m.hd g) = .ok (.nx [some (boardT ws c), some P, some (.int (w : Int)), some (wheelsT ws), some (.ref A.length), some (.ref (A.length + 1)), some (.ref (A.length + 2)), some (.int (m.st.getD w 0)), none]) (mem3 A m.st m.wt m.hd g) := by
    as_aux_lemma => exact set_ev ((bin_ev (var_ev rfl) (var_ev rfl)).trans (ixCell mem3_0 slt))
  have hs : Has [some (boardT ws c), some P, some (.int (w : Int)), some (wheelsT ws), some (.ref A.length), some (.ref (A.length + 1)), some (.ref (A.length + 2)), some (.int (m.st.getD w 0)), none] 9 [(2, .int (w : Int)), (3, wheelsT ws), (4, .ref A.length), (5, .ref (A.length + 1)), (6, .ref (A.length + 2)), (7, .int (m.st.getD w 0))] := by
    refine ⟨rfl, fun q hq => ?_⟩
    simp only [List.mem_cons, List.mem_nil_iff, or_false] at hq
    rcases hq with rfl | rfl | rfl | rfl | rfl | rfl <;> rfl
  generalize [some (boardT ws c), some P, some (.int (w : Int)), some (wheelsT ws), some (.ref A.length), some (.ref (A.length + 1)), some (.ref (A.length + 2)), some (.int (m.st.getD w 0)), none] = σ3 at s3 hs
  have s4 : sAugIx (fVar 5) (fVar 2) (fC (.int 1)) (gAug true) σ3 (mem3 A m.st m.wt m.hd g) = .ok (.nx σ3) (mem3 A m.st (bump m.wt w (-1)) m.hd g) := by
    as_aux_lemma =>
      refine (aug_ev (var_ev (hs.at (i := 5) (d := .ref (A.length + 1)) (by simp))) (var_ev (hs.at (i := 2) (d := .int (w : Int)) (by simp))) mem3_1 wlt).trans ?_
      rw [mem3_s1]; rfl
  obtain ⟨σ4, f4, hs4⟩ := hm_loop (A := A) (g := g) (st := m.st) (wt := bump m.wt w (-1)) (hd := m.hd) (ws := ws) (n := A.length + 3 + g.length) (es := endsAt ws m.st w) hs (by simp) (by simp) (by simp) (by simp) (by rw [bump_len, hm.wl]) (fun e he => by
    have := er e he
    have := hm.hl
    omega) rfl
  have s5 : sFor (fIter (fBin gIx (fBin gIx (fVar 3) (fVar 2)) (fVar 7))) (.name 8) hmFS σ3 (mem3 A m.st (bump m.wt w (-1)) m.hd g) = .ok (.nx σ4) (mem3 A m.st (sentM ws m w).1 (sentM ws m w).2 g) := by
    as_aux_lemma =>
      have hi : fIter (fBin gIx (fBin gIx (fVar 3) (fVar 2)) (fVar 7)) σ3 (mem3 A m.st (bump m.wt w (-1)) m.hd g) = .ok ⟨((endsAt ws m.st w).map D.int).map .d, fun _ => true⟩ (mem3 A m.st (bump m.wt w (-1)) m.hd g) := by
        rw [ev_iter, bin_ev ((bin_ev (var_ev (hs.at (i := 3) (d := wheelsT ws) (by simp))) (var_ev (hs.at (i := 2) (d := .int (w : Int)) (by simp)))).trans (wheel_at hw)) (var_ev (hs.at (i := 7) (d := .int (m.st.getD w 0)) (by simp))), step_at r0 r1]
        rfl
      refine for_of hi ?_
      rw [mem3_len]
      exact f4
  have s6 : sSetIx (fVar 4) (fVar 2) (fBin gMod (fBin gAdd (fVar 7) (fC (.int 1))) (fCall gLen (fCons (fBin gIx (fVar 3) (fVar 2)) fNil))) σ4 (mem3 A m.st (sentM ws m w).1 (sentM ws m w).2 g) = .ok (.nx σ4) (mem3 A (handleM ws m w).st (handleM ws m w).wt (handleM ws m w).hd g) := by
    as_aux_lemma =>
      have k7 := hs4.at (i := 7) (d := .int (m.st.getD w 0)) (by simp)
      have k3 := hs4.at (i := 3) (d := wheelsT ws) (by simp)
      have k2 := hs4.at (i := 2) (d := .int (w : Int)) (by simp)
      have k4 := hs4.at (i := 4) (d := .ref A.length) (by simp)
      have ev : fBin gMod (fBin gAdd (fVar 7) (fC (.int 1))) (fCall gLen (fCons (fBin gIx (fVar 3) (fVar 2)) fNil)) σ4 (mem3 A m.st (sentM ws m w).1 (sentM ws m w).2 g) = .ok (.int ((m.st.getD w 0 + 1) % ((ws.getD w []).length : Int))) (mem3 A m.st (sentM ws m w).1 (sentM ws m w).2 g) := by
        refine (bin_ev (a := .int (m.st.getD w 0 + 1)) (b := .int (ws.getD w []).length) ((bin_ev (fb := fC (.int 1)) (b := .int 1) (var_ev k7) rfl).trans gAdd_int) ((call1_ev ((bin_ev (var_ev k3) (var_ev k2)).trans (wheel_at hw))).trans (wheel_len _))).trans ?_
        rw [gMod_int]
        exact if_pos (by rw [decide_eq_true_eq]; omega)
      refine (setIx_ev ev (var_ev k4) (var_ev k2) mem3_0 slt).trans ?_
      rw [mem3_s0]; rfl
  have sb : b_handle_marble (startA 9 [boardT ws c, P, .int (w : Int)]) (mem3 A m.st m.wt m.hd g) = .ok (.nx σ4) (mem3 A (handleM ws m w).st (handleM ws m w).wt (handleM ws m w).hd g) := by
    as_aux_lemma =>
      rw [handle_marble_body]
      exact (seq_nx s1).trans ((seq_nx s2).trans ((seq_nx s3).trans ((seq_nx s4).trans ((seq_nx s5).trans s6))))
  refine (run_nx (n := 9) (k := 3) rfl sb).trans (trim_id ?_)
  rw [mem3_len, mem3_len]
end QX

set_option maxRecDepth 100000
set_option maxHeartbeats 1000000
/-! QZ13: rows walked -/
namespace QX
open PySem PySem.Spec PyProof.Rows L2 HX
/-- as far as the row is let -/
def walkM (ws : List (List (List Int))) : Nat → Mo → List Nat → Option Nat × Mo
  | _, m, [] => (none, m)
  | i, m, n :: r => if m.wt.getD n 0 = 0 then (some i, m) else walkM ws (i + 1) (handleM ws m n) r
def placeD : Option Nat → D
  | none => .non
  | some i => .int (i : Int)
variable {M : Mem} {σ : Sa} {ws : List (List (List Int))} {c : Int} {m : Mo}
def wkFS : FS := (sSeq (sIf (fTest (fBin (gEq false) (fBin gIx (fVar 4) (fVar 7)) (fC (.int 0))))
  (sRet (fTup (fCons (fVar 6) (fCons (fCall m_fastened (fCons (fVar 3) (fCons (fVar 4) (fCons (fVar 5) fNil)))) fNil))))
  sNext)
  (sExpr (fCall m_handle_marble (fCons (fVar 0) (fCons (fTup (fCons (fVar 3) (fCons (fVar 4) (fCons (fVar 5) fNil)))) (fCons (fVar 7) fNil))))))
theorem walked_body : b_walked = (sSeq (sAsg (fCall m_loosened (fCons (fVar 1) fNil)) (.tup [3, 4, 5]))
  (sSeq (sFor (fIt gEnum (fCons (fVar 2) fNil)) (.tup [6, 7]) wkFS)
  (sRet (fTup (fCons (fC .non) (fCons (fCall m_fastened (fCons (fVar 3) (fCons (fVar 4) (fCons (fVar 5) fNil)))) fNil)))))) := rfl
abbrev wkL (ws : List (List (List Int))) (c : Int) (n : Nat) : List (Nat × D) := [(0, boardT ws c), (3, .ref n), (4, .ref (n + 1)), (5, .ref (n + 2))]
theorem wk_loop (hW : Wf M) (hb : BoardOk ws c) : ∀ (row : List Nat) (i : Nat) (m : Mo) (σ : Sa), (∀ w ∈ row, w < ws.length) → MoOk ws c m → Has σ 8 (wkL ws c M.length) →
    (∃ σ' m', walkM ws i m row = (none, m') ∧ MoOk ws c m' ∧ forL (.tup [6, 7]) wkFS (fun _ => true) (M.length + 3) (enumI i (row.map fun n : Nat => D.int (n : Int))) σ (mem3 M m.st m.wt m.hd []) = .ok (.nx σ') (mem3 M m'.st m'.wt m'.hd []) ∧ Has σ' 8 (wkL ws c M.length)) ∨
    (∃ j m', walkM ws i m row = (some j, m') ∧ MoOk ws c m' ∧ forL (.tup [6, 7]) wkFS (fun _ => true) (M.length + 3) (enumI i (row.map fun n : Nat => D.int (n : Int))) σ (mem3 M m.st m.wt m.hd []) = .ok (.rt (.tup [.int (j : Int), moT m'])) (mem3 M m'.st m'.wt m'.hd []))
  | [], i, m, σ, _, hm, hs => .inl ⟨σ, m, rfl, hm, rfl, hs⟩
  | w :: row, i, m, σ, hr, hm, hs => by
    have hw := hr w (by simp)
    have wlt : w < m.wt.length := by rw [hm.wl]; exact hw
    have hput : Tg.put (.tup [6, 7]) (.pr [.int (i : Int), .int (w : Int)]) σ = some ((σ.set 6 (some (.int (i : Int)))).set 7 (some (.int (w : Int)))) := rfl
    have hs1 : Has ((σ.set 6 (some (.int (i : Int)))).set 7 (some (.int (w : Int)))) 8 ((7, .int (w : Int)) :: (6, .int (i : Int)) :: wkL ws c M.length) := (hs.put (by decide) (by simp)).put (by decide) (by simp)
    generalize (σ.set 6 (some (D.int (i : Int)))).set 7 (some (D.int (w : Int))) = σ1 at hput hs1
    have k0 := hs1.at (i := 0) (d := boardT ws c) (by simp)
    have k3 := hs1.at (i := 3) (d := .ref M.length) (by simp)
    have k4 := hs1.at (i := 4) (d := .ref (M.length + 1)) (by simp)
    have k5 := hs1.at (i := 5) (d := .ref (M.length + 2)) (by simp)
    have k6 := hs1.at (i := 6) (d := .int (i : Int)) (by simp)
    have k7 := hs1.at (i := 7) (d := .int (w : Int)) (by simp)
    have test : fTest (fBin (gEq false) (fBin gIx (fVar 4) (fVar 7)) (fC (.int 0))) σ1 (mem3 M m.st m.wt m.hd []) = .ok (decide (m.wt.getD w 0 = 0)) (mem3 M m.st m.wt m.hd []) := by
      refine test_ev ((bin_ev (fb := fC (.int 0)) (b := .int 0) ((bin_ev (var_ev k4) (var_ev k7)).trans (ixCell mem3_1 wlt)) rfl).trans ?_)
      rw [gEq_int]
      rfl
    have eL : enumI (i : Int) ((w :: row).map fun n : Nat => D.int (n : Int)) = .pr [.int (i : Int), .int (w : Int)] :: enumI ((i + 1 : Nat) : Int) (row.map fun n : Nat => D.int (n : Int)) := rfl
    by_cases hz : m.wt.getD w 0 = 0
    · refine .inr ⟨i, m, if_pos hz, hm, ?_⟩
      have hb1 : wkFS σ1 (mem3 M m.st m.wt m.hd []) = .ok (.rt (.tup [.int (i : Int), moT m])) (mem3 M m.st m.wt m.hd []) := by
        refine seq_rt ((sif_ev test).trans ?_)
        rw [if_pos (by rw [decide_eq_true_eq]; exact hz)]
        exact ret_ev (tup2_ev (var_ev k6) ((call3_ev (var_ev k3) (var_ev k4) (var_ev k5)).trans (m_fastened_eq rfl)))
      rw [eL]
      unfold forL
      rw [if_pos rfl, hput]
      dsimp only
      rw [hb1]
    · have hpos : 0 < m.wt.getD w 0 := by have := getD_nn (i := w) hm.wn; omega
      have hm2 := hm.handle (w := w) (fun x hx => (hb.wheels x hx).1) hpos
      have hb1 : wkFS σ1 (mem3 M m.st m.wt m.hd []) = .ok (.nx σ1) (mem3 M (handleM ws m w).st (handleM ws m w).wt (handleM ws m w).hd []) := by
        refine (seq_nx (σ1 := σ1) ((sif_ev test).trans ?_)).trans (expr_ev (d := .non) ((call3_ev (var_ev k0) (tup3_ev (var_ev k3) (var_ev k4) (var_ev k5)) (var_ev k7)).trans (m_handle_marble_eq rfl hb hm.toMoF hw (wf_mem3 hW))))
        rw [if_neg (by rw [decide_eq_true_eq]; exact hz)]
        rfl
      have hgc : gc (M.length + 3) σ1 (mem3 M (handleM ws m w).st (handleM ws m w).wt (handleM ws m w).hd []) = (σ1, mem3 M (handleM ws m w).st (handleM ws m w).wt (handleM ws m w).hd []) := gc_same (by rw [mem3_len]; rfl)
      have hgo : walkM ws i m (w :: row) = walkM ws (i + 1) (handleM ws m w) row := if_neg hz
      have ef : forL (.tup [6, 7]) wkFS (fun _ => true) (M.length + 3) (enumI i ((w :: row).map fun n : Nat => D.int (n : Int))) σ (mem3 M m.st m.wt m.hd []) = forL (.tup [6, 7]) wkFS (fun _ => true) (M.length + 3) (enumI ((i + 1 : Nat) : Int) (row.map fun n : Nat => D.int (n : Int))) σ1 (mem3 M (handleM ws m w).st (handleM ws m w).wt (handleM ws m w).hd []) := by
        rw [eL]
        conv => lhs; unfold forL
        rw [if_pos rfl, hput]
        dsimp only
        rw [hb1]
        dsimp only
        rw [hgc]
      rw [hgo, ef]
      exact wk_loop hW hb row (i + 1) (handleM ws m w) σ1 (fun x hx => hr x (by simp [hx])) hm2 (hs1.sub fun q hq => List.mem_cons_of_mem _ (List.mem_cons_of_mem _ hq))
theorem walkM_ok (hb : BoardOk ws c) : ∀ (row : List Nat) (i : Nat) (m : Mo), (∀ w ∈ row, w < ws.length) → MoOk ws c m → MoOk ws c (walkM ws i m row).2
  | [], i, m, _, hm => hm
  | w :: row, i, m, hr, hm => by
    by_cases hz : m.wt.getD w 0 = 0
    · rw [show walkM ws i m (w :: row) = (some i, m) from if_pos hz]; exact hm
    · rw [show walkM ws i m (w :: row) = walkM ws (i + 1) (handleM ws m w) row from if_neg hz]
      have hpos : 0 < m.wt.getD w 0 := by have := getD_nn (i := w) hm.wn; omega
      exact walkM_ok hb row (i + 1) _ (fun x hx => hr x (by simp [hx])) (hm.handle (w := w) (fun x hx => (hb.wheels x hx).1) hpos)
theorem m_walked_eq {row : List Nat} (hW : Wf M) (hb : BoardOk ws c) (hm : MoOk ws c m) (hr : ∀ w ∈ row, w < ws.length) :
    m_walked [boardT ws c, moT m, rowT row] M = .ok (.tup [placeD (walkM ws 0 m row).1, moT (walkM ws 0 m row).2]) M := by
  have s1 : sAsg (fCall m_loosened (fCons (fVar 1) fNil)) (.tup [3, 4, 5]) [some (boardT ws c), some (moT m), some (rowT row), none, none, none, none, none] M = .ok (.nx [some (boardT ws c), some (moT m), some (rowT row), some (.ref M.length), some (.ref (M.length + 1)), some (.ref (M.length + 2)), none, none]) (mem3 M m.st m.wt m.hd []) := by
    as_aux_lemma => exact asg_ev ((call1_ev (var_ev rfl)).trans m_loosened_eq) rfl
  have hi : fIt gEnum (fCons (fVar 2) fNil) [some (boardT ws c), some (moT m), some (rowT row), some (.ref M.length), some (.ref (M.length + 1)), some (.ref (M.length + 2)), none, none] (mem3 M m.st m.wt m.hd []) = .ok ⟨enumI 0 (row.map fun n : Nat => D.int (n : Int)), fun _ => true⟩ (mem3 M m.st m.wt m.hd []) := rfl
  have hs : Has [some (boardT ws c), some (moT m), some (rowT row), some (.ref M.length), some (.ref (M.length + 1)), some (.ref (M.length + 2)), none, none] 8 (wkL ws c M.length) := by
    refine ⟨rfl, fun q hq => ?_⟩
    simp only [wkL, List.mem_cons, List.mem_nil_iff, or_false] at hq
    rcases hq with rfl | rfl | rfl | rfl <;> rfl
  generalize [some (boardT ws c), some (moT m), some (rowT row), some (.ref M.length), some (.ref (M.length + 1)), some (.ref (M.length + 2)), none, none] = σ1 at s1 hi hs
  have hu : ∀ (o : Option Nat) (m' : Mo) (n : Nat), (D.tup [placeD o, moT m']).und n = true := fun o m' n => by
    cases o <;> simp [D.und, D.undA, placeD, und_mo]
  have hl3 : (mem3 M m.st m.wt m.hd []).length = M.length + 3 := by rw [mem3_len]; rfl
  rcases wk_loop (M := M) hW hb row 0 m σ1 hr hm hs with ⟨σ', m', w1, w2, f, hs'⟩ | ⟨j, m', w1, w2, f⟩
  · rw [w1]
    have k3 := hs'.at (i := 3) (d := .ref M.length) (by simp)
    have k4 := hs'.at (i := 4) (d := .ref (M.length + 1)) (by simp)
    have k5 := hs'.at (i := 5) (d := .ref (M.length + 2)) (by simp)
    have s2 : sFor (fIt gEnum (fCons (fVar 2) fNil)) (.tup [6, 7]) wkFS σ1 (mem3 M m.st m.wt m.hd []) = .ok (.nx σ') (mem3 M m'.st m'.wt m'.hd []) := by
      as_aux_lemma =>
        rw [ev_for, hi]
        simp only [bindS_ok]
        rw [hl3]
        exact f
    have sb : b_walked (startA 8 [boardT ws c, moT m, rowT row]) M = .ok (.rt (.tup [placeD none, moT m'])) (mem3 M m'.st m'.wt m'.hd []) := by
      as_aux_lemma =>
        rw [walked_body]
        exact (seq_nx s1).trans ((seq_nx s2).trans (ret_ev (tup2_ev (M1 := mem3 M m'.st m'.wt m'.hd []) rfl ((call3_ev (var_ev k3) (var_ev k4) (var_ev k5)).trans (m_fastened_eq rfl)))))
    exact (run_rt (n := 8) (k := 3) rfl sb).trans (trim_app rfl hW (hu none m' _))
  · rw [w1]
    have s2 : sFor (fIt gEnum (fCons (fVar 2) fNil)) (.tup [6, 7]) wkFS σ1 (mem3 M m.st m.wt m.hd []) = .ok (.rt (.tup [.int (j : Int), moT m'])) (mem3 M m'.st m'.wt m'.hd []) := by
      as_aux_lemma =>
        rw [ev_for, hi]
        simp only [bindS_ok]
        rw [hl3]
        exact f
    have sb : b_walked (startA 8 [boardT ws c, moT m, rowT row]) M = .ok (.rt (.tup [placeD (some j), moT m'])) (mem3 M m'.st m'.wt m'.hd []) := by
      as_aux_lemma =>
        rw [walked_body]
        exact (seq_nx s1).trans (seq_rt s2)
    exact (run_rt (n := 8) (k := 3) rfl sb).trans (trim_app rfl hW (hu (some j) m' _))
theorem m_first_wrong_eq {row : List Nat} (hW : Wf M) (hb : BoardOk ws c) (hm : MoOk ws c m) (hl : row.length ≤ 100000) (hr : ∀ w ∈ row, w < ws.length) :
    m_first_wrong [boardT ws c, moT m, rowT row] M = .ok (placeD (walkM ws 0 m row).1) M := by
  have s1 : sExpr (fCall m_need_moment (fCons (fVar 0) (fCons (fVar 1) fNil))) [some (boardT ws c), some (moT m), some (rowT row)] M = .ok (.nx [some (boardT ws c), some (moT m), some (rowT row)]) M := by
    as_aux_lemma => exact expr_ev (d := .non) ((call2_ev (var_ev rfl) (var_ev rfl)).trans (m_need_moment_eq hW hb hm))
  have s2 : sExpr (fCall m_need_row (fCons (fVar 0) (fCons (fVar 2) fNil))) [some (boardT ws c), some (moT m), some (rowT row)] M = .ok (.nx [some (boardT ws c), some (moT m), some (rowT row)]) M := by
    as_aux_lemma => exact expr_ev (d := .non) ((call2_ev (var_ev rfl) (var_ev rfl)).trans (m_need_row_eq hW hb hl hr))
  have sb : b_first_wrong (startA 3 [boardT ws c, moT m, rowT row]) M = .ok (.rt (placeD (walkM ws 0 m row).1)) M := by
    as_aux_lemma =>
      refine (seq_nx s1).trans ((seq_nx s2).trans (ret_ev ?_))
      exact (bin_ev (fb := fC (.int 0)) (b := .int 0) ((call3_ev (var_ev rfl) (var_ev rfl) (var_ev rfl)).trans (m_walked_eq hW hb hm hr)) rfl).trans (by simp)
  exact (run_rt (n := 3) (k := 3) rfl sb).trans (trim_id rfl)
theorem m_behind_eq {row : List Nat} {m' : Mo} (hW : Wf M) (hb : BoardOk ws c) (hm : MoOk ws c m) (hl : row.length ≤ 100000) (hr : ∀ w ∈ row, w < ws.length) (hn : walkM ws 0 m row = (none, m')) :
    m_behind [boardT ws c, moT m, rowT row] M = .ok (moT m') M := by
  have e := m_walked_eq hW hb hm hr
  rw [hn] at e
  have s1 : sExpr (fCall m_need_moment (fCons (fVar 0) (fCons (fVar 1) fNil))) [some (boardT ws c), some (moT m), some (rowT row), none, none] M = .ok (.nx [some (boardT ws c), some (moT m), some (rowT row), none, none]) M := by
    as_aux_lemma => exact expr_ev (d := .non) ((call2_ev (var_ev rfl) (var_ev rfl)).trans (m_need_moment_eq hW hb hm))
  have s2 : sExpr (fCall m_need_row (fCons (fVar 0) (fCons (fVar 2) fNil))) [some (boardT ws c), some (moT m), some (rowT row), none, none] M = .ok (.nx [some (boardT ws c), some (moT m), some (rowT row), none, none]) M := by
    as_aux_lemma => exact expr_ev (d := .non) ((call2_ev (var_ev rfl) (var_ev rfl)).trans (m_need_row_eq hW hb hl hr))
  have s3 : sAsg (fCall m_walked (fCons (fVar 0) (fCons (fVar 1) (fCons (fVar 2) fNil)))) (.tup [3, 4]) [some (boardT ws c), some (moT m), some (rowT row), none, none] M = .ok (.nx [some (boardT ws c), some (moT m), some (rowT row), some .non, some (moT m')]) M := by
    as_aux_lemma => exact asg_ev ((call3_ev (var_ev rfl) (var_ev rfl) (var_ev rfl)).trans e) rfl
  have sb : b_behind (startA 5 [boardT ws c, moT m, rowT row]) M = .ok (.rt (moT m')) M := by
    as_aux_lemma =>
      refine (seq_nx s1).trans ((seq_nx s2).trans ((seq_nx s3).trans ((seq_nx (σ1 := [some (boardT ws c), some (moT m), some (rowT row), some .non, some (moT m')]) (M1 := M) ?_).trans (ret_ev (var_ev rfl)))))
      exact (sif_ev (p := false) (test_ev ((bin_ev (fb := fC .non) (b := .non) (var_ev rfl) rfl).trans gIsN_non))).trans rfl
  exact (run_rt (n := 5) (k := 3) rfl sb).trans (trim_id rfl)
end QX

set_option maxRecDepth 100000
set_option maxHeartbeats 1000000
/-! QZ14: loops that draw and build lists -/
namespace QX
open PySem PySem.Spec PyProof.Rows L2 HX
def UndG (G : Mem) : Prop := ∀ c ∈ G, ∀ n, Cell.und n c = true
theorem wfG {M0 G : Mem} {p : Nat} {x : Cell} {k : Nat} (h0 : Wf M0) (hx : PenOk k x) (hG : UndG G) : Wf (M0.set p x ++ G) := by
  intro c hc
  rcases List.mem_append.mp hc with h | h
  · have := wf_set (p := p) h0 hx c h
    exact cund_mono (by simp) this
  · exact hG c h _
theorem UndG.push {G : Mem} {ds : List D} (hG : UndG G) (hd : ∀ d ∈ ds, ∀ n, d.und n = true) : UndG (G ++ [.lst ds]) := by
  intro c hc n
  rcases List.mem_append.mp hc with h | h
  · exact hG c h n
  · rw [List.mem_singleton.mp h]
    show D.undA n ds = true
    rw [undA_iff]
    exact fun d hd' => hd d hd' n
theorem UndG.nil : UndG [] := fun c h => by simp at h
variable {M0 G : Mem} {p k : Nat} {x : Cell} {σ : Sa}
/-- a loop that draws, and adds one item to the last cell each time -/
theorem for_pen {b : FS} {i N m bud : Nat} {acc0 : List D} (l : List (Nat × D)) (R : D → Prop) (hp : p < M0.length) (h0 : Wf M0) (hG : UndG G) (hN : i < N) (hi : ∀ q ∈ l, q.1 ≠ i) (hs : Has σ N l) (hl : ∀ q ∈ l, q.2.und (M0.length + G.length + 1) = true) (hR : ∀ d, R d → ∀ n, d.und n = true) (ha : ∀ d ∈ acc0, R d) (hm : acc0.length + m ≤ 1000) (ho : PenOk (k + bud * m) x)
    (step : ∀ (σ : Sa) (acc : List D) (j : Nat) (y : Cell) (k' : Nat), j < m → acc.length ≤ 1000 → (∀ d ∈ acc, R d) → PenOk (k' + bud) y → Has σ N ((i, .int (j : Int)) :: l) → ∃ d y' σ' g, b σ (M0.set p y ++ G ++ [.lst acc]) = .ok (.nx σ') (M0.set p y' ++ G ++ [.lst (acc ++ [d])] ++ g) ∧ R d ∧ PenOk k' y' ∧ Has σ' N l) :
    ∃ ds x' σ', forL (.name i) b (fun _ => true) (M0.length + G.length + 1) (nums 0 m) σ (M0.set p x ++ G ++ [.lst acc0]) = .ok (.nx σ') (M0.set p x' ++ G ++ [.lst (acc0 ++ ds)]) ∧ ds.length = m ∧ (∀ d ∈ ds, R d) ∧ PenOk k x' ∧ Has σ' N l := by
  obtain ⟨σ', M', f1, ⟨ds, y, rfl, q1, q2, q3⟩, q4⟩ := for_nums (b := b) (n := M0.length + G.length + 1) (m := m) (i := i) (σ := σ) (M := M0.set p x ++ G ++ [.lst acc0]) (fun j σ M => (∃ ds y, M = M0.set p y ++ G ++ [.lst (acc0 ++ ds)] ∧ ds.length = j ∧ (∀ d ∈ ds, R d) ∧ PenOk (k + bud * (m - j)) y) ∧ Has σ N l) ⟨⟨[], x, by simp, rfl, fun d h => by simp at h, ho⟩, hs⟩ (fun j σ M hj hv => by
    obtain ⟨⟨ds, y, rfl, q1, q2, q3⟩, q4⟩ := hv
    have e : k + bud * (m - j) = (k + bud * (m - (j + 1))) + bud := by
      rw [show m - j = (m - (j + 1)) + 1 by omega, Nat.mul_add, Nat.mul_one, Nat.add_assoc]
    rw [e] at q3
    have hall : ∀ d ∈ acc0 ++ ds, R d := fun d hd => by
      rcases List.mem_append.mp hd with h | h
      · exact ha d h
      · exact q2 d h
    obtain ⟨d, y', σ', g, g1, g2, g3, g4⟩ := step (σ.set i (some (.int (j : Int)))) (acc0 ++ ds) j y _ hj (by rw [List.length_append]; omega) hall q3 (q4.put hN hi)
    refine ⟨σ', _, .inl g1, ?_⟩
    rw [List.append_assoc acc0]
    have hln : (M0.set p y' ++ G ++ [Cell.lst (acc0 ++ (ds ++ [d]))]).length = M0.length + G.length + 1 := by simp; omega
    have hall' : ∀ z ∈ acc0 ++ (ds ++ [d]), R z := fun z hz => by
      rw [← List.append_assoc] at hz
      rcases List.mem_append.mp hz with h | h
      · exact hall z h
      · rw [List.mem_singleton.mp h]; exact g2
    have q2' : ∀ z ∈ ds ++ [d], R z := fun z hz => hall' z (List.mem_append_right _ hz)
    by_cases hg : g = []
    · subst hg
      rw [List.append_nil, gc_same hln]
      exact ⟨⟨ds ++ [d], y', rfl, by rw [List.length_append, q1]; rfl, q2', g3⟩, g4⟩
    · have hW : Wf (M0.set p y' ++ G ++ [Cell.lst (acc0 ++ (ds ++ [d]))]) := by
        rw [List.append_assoc]
        exact wfG h0 g3 (hG.push fun z hz n => hR z (hall' z hz) n)
      rw [gc_app hln hW hg]
      exact ⟨⟨ds ++ [d], y', rfl, by rw [List.length_append, q1]; rfl, q2', g3⟩, g4.keep hl⟩)
  rw [Nat.sub_self, Nat.mul_zero, Nat.add_zero] at q3
  exact ⟨ds, y, σ', f1, q1, q2, q3, q4⟩
/-- inner = []; for x in range(m): ..; outer.append(tuple(inner)) -/
theorem nest_pen {fi : F Ita} {b : FS} {a c i N m bud : Nat} {acc : List D} {x1 : Cell} (l : List (Nat × D)) (R : D → Prop) (hp : p < M0.length) (h0 : Wf M0) (hG : UndG G) (hN : i < N) (hcN : c < N) (hi : ∀ q ∈ l, q.1 ≠ i) (hci : c ≠ i) (hc : ∀ q ∈ l, q.1 ≠ c) (hs : Has σ N l) (ha : (a, D.ref (M0.length + G.length)) ∈ l) (hl : ∀ q ∈ l, q.2.und (M0.length + G.length + 1) = true) (hacc : ∀ d ∈ acc, ∀ n, d.und n = true) (hal : acc.length ≤ 1000) (hR : ∀ d, R d → ∀ n, d.und n = true) (hm : m ≤ 1000)
    (hfi : ∀ σ, Has σ N ((c, .ref (M0.length + G.length + 1)) :: l) → fi σ (M0.set p x ++ (G ++ [.lst acc]) ++ [.lst []]) = .ok ⟨nums 0 m, fun _ => true⟩ (M0.set p x1 ++ (G ++ [.lst acc]) ++ [.lst []])) (ho : PenOk (k + bud * m) x1)
    (step : ∀ (σ : Sa) (es : List D) (j : Nat) (y : Cell) (k' : Nat), j < m → es.length ≤ 1000 → (∀ d ∈ es, R d) → PenOk (k' + bud) y → Has σ N ((i, .int (j : Int)) :: (c, .ref (M0.length + G.length + 1)) :: l) → ∃ d y' σ' g, b σ (M0.set p y ++ (G ++ [.lst acc]) ++ [.lst es]) = .ok (.nx σ') (M0.set p y' ++ (G ++ [.lst acc]) ++ [.lst (es ++ [d])] ++ g) ∧ R d ∧ PenOk k' y' ∧ Has σ' N ((c, .ref (M0.length + G.length + 1)) :: l)) :
    ∃ ds x' σ', (sSeq (sSet c (fNew fNil)) (sSeq (sFor fi (.name i) b) (sExpr (fMeth gAppend (fVar a) (fCons (fCall gTuple (fCons (fVar c) fNil)) fNil))))) σ (M0.set p x ++ G ++ [.lst acc]) = .ok (.nx σ') (M0.set p x' ++ G ++ [.lst (acc ++ [.tup ds])] ++ [.lst ds]) ∧ ds.length = m ∧ (∀ d ∈ ds, R d) ∧ PenOk k x' ∧ Has σ' N l := by
  have hf0 : few 0 = true := by decide
  have hln : (M0.set p x ++ G ++ [Cell.lst acc]).length = M0.length + G.length + 1 := by simp; omega
  have hlg : (G ++ [Cell.lst acc]).length = G.length + 1 := by simp
  have s1 : sSet c (fNew fNil) σ (M0.set p x ++ G ++ [.lst acc]) = .ok (.nx (σ.set c (some (.ref (M0.length + G.length + 1))))) (M0.set p x ++ (G ++ [.lst acc]) ++ [.lst []]) := by
    as_aux_lemma =>
      refine set_ev ?_
      rw [ev_new, ev_nil, bind_ok, if_pos (by simpa using hf0), hln, List.append_assoc (M0.set p x)]
  have hs1 : Has (σ.set c (some (.ref (M0.length + G.length + 1)))) N ((c, .ref (M0.length + G.length + 1)) :: l) := hs.put hcN hc
  generalize σ.set c (some (D.ref (M0.length + G.length + 1))) = σ1 at s1 hs1
  obtain ⟨ds, x2, σ2, f2, q1, q2, q3, q4⟩ := for_pen (M0 := M0) (G := G ++ [.lst acc]) (p := p) (x := x1) (k := k) (b := b) (i := i) (N := N) (m := m) (bud := bud) (σ := σ1) (acc0 := []) ((c, .ref (M0.length + G.length + 1)) :: l) R hp h0 (hG.push hacc) hN (fun q hq => by
      rcases List.mem_cons.mp hq with rfl | hq
      · exact hci
      · exact hi q hq) hs1 (fun q hq => by
      rw [hlg]
      rcases List.mem_cons.mp hq with rfl | hq
      · simp [D.und, Nat.blt_eq]
      · exact und_mono (by omega) _ (hl q hq)) hR (fun d hd => by simp at hd) (by simpa using hm) ho step
  rw [List.nil_append] at f2
  refine ⟨ds, x2, σ2, ?_, q1, q2, q3, q4.sub fun q hq => List.mem_cons_of_mem _ hq⟩
  have hA : (M0.set p x2 ++ G).length = M0.length + G.length := by simp
  have s3 := app_tuple (a := a) (b := c) (N := N) (σ := σ2) (A := M0.set p x2 ++ G) (acc := acc) (es := ds) (by rw [hA]; exact q4.at (List.mem_cons_of_mem _ ha)) (by rw [hA]; exact q4.at (List.mem_cons_self ..)) hal
  have s2 : sFor fi (.name i) b σ1 (M0.set p x ++ (G ++ [.lst acc]) ++ [.lst []]) = .ok (.nx σ2) (M0.set p x2 ++ G ++ [.lst acc] ++ [.lst ds]) := by
    refine for_of (hfi σ1 hs1) ?_
    have h3 : (M0.set p x1 ++ (G ++ [Cell.lst acc]) ++ [Cell.lst []]).length = M0.length + (G ++ [Cell.lst acc]).length + 1 := by simp; omega
    rw [h3, f2, List.append_assoc (M0.set p x2) G]
  exact (seq_nx s1).trans ((seq_nx s2).trans s3)
theorem meth_last {A : Mem} {es : List D} {a : Nat} {fe : F D} {d : D} (h : σ[a]? = some (some (.ref A.length))) (he : fe σ (A ++ [.lst es]) = .ok d (A ++ [.lst es])) (hl : es.length ≤ 1000) : sExpr (fMeth gAppend (fVar a) (fCons fe fNil)) σ (A ++ [.lst es]) = .ok (.nx σ) (A ++ [.lst (es ++ [d])]) := by
  refine expr_ev (d := .non) ?_
  have il : isL (A ++ [.lst es]) (.ref A.length) = true := isL_last rfl
  rw [ev_meth, ev_var, h]
  simp only [bind_ok, il, if_true, ev_cons, he, ev_nil]
  rw [append_last rfl (by omega)]
theorem Has.comp {σ : Sa} {n i : Nat} {l : List (Nat × D)} {d : D} (h : Has σ n l) (hn : i < n) (hi : ∀ q ∈ l, q.1 ≠ i) : Has ((wipeA σ [i]).set i (some d)) n ((i, d) :: l) := by
  have : Has (wipeA σ [i]) n l := h.set hi
  exact this.put hn hi
end QX

set_option maxRecDepth 100000
set_option maxHeartbeats 1000000
/-! QZ15: a drawn board, its ends ahead -/
namespace QX
open PySem PySem.Spec PyProof.Rows L2 HX
variable {M0 G : Mem} {p k : Nat} {x : Cell} {σ : Sa}
def lbE : FS := (sSeq (sSet 10 (fIf (fTest (fBin (gCmp cGt) (fCall m_law_draw_321cf4 (fCons (fVar 0) (fCons (fC (.int 4)) fNil))) (fC (.int 0)))) (fBin gAdd (fBin gAdd (fVar 5) (fC (.int 1))) (fCall m_law_draw_321cf4 (fCons (fVar 0) (fCons (fC (.int 3)) fNil)))) (fCall m_law_draw_321cf4 (fCons (fVar 0) (fCons (fBin gAdd (fVar 2) (fVar 3)) fNil)))))
  (sExpr (fMeth gAppend (fVar 8) (fCons (fCall gMin2 (fCons (fVar 10) (fCons (fCall gMax2 (fCons (fC (.int 0)) (fCons (fBin gSub (fBin gAdd (fVar 2) (fVar 3)) (fC (.int 1))) fNil))) fNil))) fNil))))
def lbF : F Ita := (fIt gRange1 (fCons (fBin gIx (fLst (fCons (fC (.int 0)) (fCons (fC (.int 1)) (fCons (fC (.int 1)) (fCons (fC (.int 2)) (fCons (fC (.int 3)) fNil)))))) (fCall m_law_draw_321cf4 (fCons (fVar 0) (fCons (fC (.int 5)) fNil)))) fNil))
def lbS : FS := (sSeq (sSet 8 (fNew fNil))
  (sSeq (sFor lbF (.name 9) lbE)
  (sExpr (fMeth gAppend (fVar 6) (fCons (fCall gTuple (fCons (fVar 8) fNil)) fNil)))))
def lbW : FS := (sSeq (sSet 6 (fNew fNil))
  (sSeq (sFor (fIt gRange1 (fCons (fBin gAdd (fC (.int 1)) (fCall m_law_draw_321cf4 (fCons (fVar 0) (fCons (fC (.int 4)) fNil)))) fNil)) (.name 7) lbS)
  (sExpr (fMeth gAppend (fVar 4) (fCons (fCall gTuple (fCons (fVar 6) fNil)) fNil)))))
theorem law_board_body : b_law_board_049704 = (sSeq (sPar 2 3 (fCons (fBin gAdd (fC (.int 1)) (fCall m_law_draw_321cf4 (fCons (fVar 0) (fCons (fVar 1) fNil)))) (fCons (fCall m_law_draw_321cf4 (fCons (fVar 0) (fCons (fC (.int 4)) fNil))) fNil)))
  (sSeq (sSet 4 (fNew fNil))
  (sSeq (sFor (fIt gRange1 (fCons (fVar 2) fNil)) (.name 5) lbW)
  (sRet (fTup (fCons (fCall gTuple (fCons (fVar 4) fNil)) (fCons (fVar 3) fNil))))))) := rfl
def RI (n : Int) (d : D) : Prop := ∃ e, d = .int e ∧ 0 ≤ e ∧ e < n
def RS' (n : Int) (d : D) : Prop := ∃ s, d = stepT s ∧ EndsOk n s
def RW (n : Int) (d : D) : Prop := ∃ w, d = wheelT w ∧ WheelOk n w
theorem RI.und {n : Int} {d : D} (h : RI n d) (k : Nat) : d.und k = true := by obtain ⟨e, rfl, _⟩ := h; rfl
theorem RS'.und {n : Int} {d : D} (h : RS' n d) (k : Nat) : d.und k = true := by obtain ⟨e, rfl, _⟩ := h; exact und_step e
theorem RW.und {n : Int} {d : D} (h : RW n d) (k : Nat) : d.und k = true := by obtain ⟨e, rfl, _⟩ := h; exact und_wheel e
theorem lbE_eq {es : List D} {l : List (Nat × D)} {many cups w : Int} {n8 : Nat} {y : Cell} (hp : p < M0.length) (hs : Has σ 11 l) (m0 : (0, D.ref p) ∈ l) (m2 : (2, D.int many) ∈ l) (m3 : (3, D.int cups) ∈ l) (m5 : (5, D.int w) ∈ l) (m8 : (8, D.ref n8) ∈ l) (m10 : ∀ q ∈ l, q.1 ≠ 10) (h8 : n8 = M0.length + G.length) (hl : es.length ≤ 1000) (hw : 0 ≤ w) (hm : 1 ≤ many) (hm6 : many ≤ 6) (hc : 0 ≤ cups) (hc4 : cups ≤ 4) (ho : PenOk (k + 2) y) :
    ∃ d y' σ' g, lbE σ (M0.set p y ++ G ++ [.lst es]) = .ok (.nx σ') (M0.set p y' ++ G ++ [.lst (es ++ [d])] ++ g) ∧ RI (many + cups) d ∧ PenOk k y' ∧ Has σ' 11 l := by
  have k0 := hs.at m0
  have k2 := hs.at m2
  have k3 := hs.at m3
  have k5 := hs.at m5
  obtain ⟨z1, y1, d1, a1, a2, o1⟩ := draw_in (M0 := M0) (g := G ++ [.lst es]) (k := k + 1) (n := 4) hp ho (by decide) (by decide)
  obtain ⟨v, y2, ev, v0, o2⟩ : ∃ v y2, fIf (fTest (fBin (gCmp cGt) (fCall m_law_draw_321cf4 (fCons (fVar 0) (fCons (fC (.int 4)) fNil))) (fC (.int 0)))) (fBin gAdd (fBin gAdd (fVar 5) (fC (.int 1))) (fCall m_law_draw_321cf4 (fCons (fVar 0) (fCons (fC (.int 3)) fNil)))) (fCall m_law_draw_321cf4 (fCons (fVar 0) (fCons (fBin gAdd (fVar 2) (fVar 3)) fNil))) σ (M0.set p y ++ (G ++ [.lst es])) = .ok (.int v) (M0.set p y2 ++ (G ++ [.lst es])) ∧ 0 ≤ v ∧ PenOk k y2 := by
    by_cases hz : 0 < z1
    · obtain ⟨z2, y2, d2, b1, b2, o2⟩ := draw_in (M0 := M0) (g := G ++ [.lst es]) (k := k) (n := 3) hp o1 (by decide) (by decide)
      exact ⟨w + 1 + z2, y2, by simp [k0, k5, d1, d2, cGt, hz], by omega, o2⟩
    · obtain ⟨z2, y2, d2, b1, b2, o2⟩ := draw_in (M0 := M0) (g := G ++ [.lst es]) (k := k) (n := many + cups) hp o1 (by omega) (by omega)
      exact ⟨z2, y2, by simp [k0, k2, k3, d1, d2, cGt, hz], b1, o2⟩
  have hs1 : Has (σ.set 10 (some (.int v))) 11 ((10, .int v) :: l) := hs.put (by decide) m10
  have s1 := set_ev (i := 10) ev
  generalize σ.set 10 (some (D.int v)) = σ1 at s1 hs1
  have j10 := hs1.at (i := 10) (d := .int v) (by simp)
  have j8 := hs1.at (List.mem_cons_of_mem _ m8)
  have j2 := hs1.at (List.mem_cons_of_mem _ m2)
  have j3 := hs1.at (List.mem_cons_of_mem _ m3)
  have hA : (M0.set p y2 ++ G).length = n8 := by rw [h8]; simp
  rw [← hA] at j8
  obtain ⟨E, hE, E0, E1⟩ : ∃ E : Int, (if (if many + cups - 1 > 0 then many + cups - 1 else 0) < v then (if many + cups - 1 > 0 then many + cups - 1 else 0) else v) = E ∧ 0 ≤ E ∧ E < many + cups := by
    refine ⟨_, rfl, ?_, ?_⟩
    · split <;> (try split) <;> omega
    · split <;> (try split) <;> omega
  have s2 := meth_last (A := M0.set p y2 ++ G) (es := es) (fe := fCall gMin2 (fCons (fVar 10) (fCons (fCall gMax2 (fCons (fC (.int 0)) (fCons (fBin gSub (fBin gAdd (fVar 2) (fVar 3)) (fC (.int 1))) fNil))) fNil))) (d := .int E) j8 (by rw [← hE]; simp [j10, j2, j3]) hl
  refine ⟨.int E, y2, σ1, [], ?_, ⟨E, rfl, E0, E1⟩, o2, hs1.sub fun q hq => List.mem_cons_of_mem _ hq⟩
  rw [List.append_nil, List.append_assoc (M0.set p y)]
  refine (seq_nx s1).trans ?_
  rw [← List.append_assoc (M0.set p y2)]
  exact s2
abbrev lbL (p : Nat) (many cups : Int) (n : Nat) : List (Nat × D) := [(0, .ref p), (2, .int many), (3, .int cups), (4, .ref n)]
theorem lbS_eq {ss : List D} {many cups : Int} {w t : Nat} {y : Cell} (hp : p < M0.length) (h0 : Wf M0) (hG : UndG G) (hs : Has σ 11 ((7, .int (t : Int)) :: (6, .ref (M0.length + G.length)) :: (5, .int (w : Int)) :: lbL p many cups M0.length)) (hss : ∀ d ∈ ss, RS' (many + cups) d) (hl : ss.length ≤ 1000) (hm : 1 ≤ many) (hm6 : many ≤ 6) (hc : 0 ≤ cups) (hc4 : cups ≤ 4) (ho : PenOk (k + 7) y) :
    ∃ d y' σ' g, lbS σ (M0.set p y ++ G ++ [.lst ss]) = .ok (.nx σ') (M0.set p y' ++ G ++ [.lst (ss ++ [d])] ++ g) ∧ RS' (many + cups) d ∧ PenOk k y' ∧ Has σ' 11 ((6, .ref (M0.length + G.length)) :: (5, .int (w : Int)) :: lbL p many cups M0.length) := by
  obtain ⟨z, y1, d1, a1, a2, o1⟩ := draw_in (M0 := M0) (g := (G ++ [.lst ss]) ++ [.lst []]) (k := k + 6) (n := 5) hp ho (by decide) (by decide)
  obtain ⟨m, hm3, hfi⟩ : ∃ m : Nat, m ≤ 3 ∧ ∀ σ : Sa, σ[0]? = some (some (.ref p)) → lbF σ (M0.set p y ++ (G ++ [.lst ss]) ++ [.lst []]) = .ok ⟨nums 0 m, fun _ => true⟩ (M0.set p y1 ++ (G ++ [.lst ss]) ++ [.lst []]) := by
    have at_ : ∀ m : Nat, m ≤ 3 → atI [D.int 0, .int 1, .int 1, .int 2, .int 3] z = some (.int (m : Int)) → ∀ σ : Sa, σ[0]? = some (some (.ref p)) → lbF σ (M0.set p y ++ (G ++ [.lst ss]) ++ [.lst []]) = .ok ⟨nums 0 m, fun _ => true⟩ (M0.set p y1 ++ (G ++ [.lst ss]) ++ [.lst []]) := by
      intro m hm hz σ k0
      have hf5 : few 5 = true := by decide
      refine range1_ev (j := (m : Int)) ?_ (by omega) (by omega) (by omega)
      rw [List.append_assoc (M0.set p y), List.append_assoc (M0.set p y1)]
      refine (bin_ev (a := .lst [.int 0, .int 1, .int 1, .int 2, .int 3]) (b := .int z) (M1 := M0.set p y ++ ((G ++ [.lst ss]) ++ [.lst []])) (by simp [hf5]) ((call2_ev (var_ev k0) rfl).trans d1)).trans ?_
      simp [hz]
    have hz : z = 0 ∨ z = 1 ∨ z = 2 ∨ z = 3 ∨ z = 4 := by omega
    rcases hz with rfl | rfl | rfl | rfl | rfl
    · exact ⟨0, by decide, at_ 0 (by decide) rfl⟩
    · exact ⟨1, by decide, at_ 1 (by decide) rfl⟩
    · exact ⟨1, by decide, at_ 1 (by decide) rfl⟩
    · exact ⟨2, by decide, at_ 2 (by decide) rfl⟩
    · exact ⟨3, by decide, at_ 3 (by decide) rfl⟩
  obtain ⟨ds, x', σ', f, q1, q2, q3, q4⟩ := nest_pen (M0 := M0) (G := G) (p := p) (x := y) (k := k) (fi := lbF) (b := lbE) (a := 6) (c := 8) (i := 9) (N := 11) (m := m) (bud := 2) (acc := ss) (x1 := y1) ((7, .int (t : Int)) :: (6, .ref (M0.length + G.length)) :: (5, .int (w : Int)) :: lbL p many cups M0.length) (RI (many + cups)) hp h0 hG (by decide) (by decide) (by simp) (by decide) (by simp) hs (by simp) (by simp [D.und, Nat.blt_eq]; omega) (fun d hd n => (hss d hd).und n) hl (fun d hd n => hd.und n) (by omega) (fun σ hs => hfi σ (hs.at (i := 0) (d := .ref p) (by simp))) (o1.less (by omega)) (fun σ es j y' k' hj hle hes oy hs => by
    have hlg : (G ++ [Cell.lst ss]).length = G.length + 1 := by simp
    obtain ⟨d, y2, σ2, g, g1, g2, g3, g4⟩ := lbE_eq (M0 := M0) (G := G ++ [.lst ss]) (p := p) (k := k') (es := es) (many := many) (cups := cups) (w := (w : Int)) (n8 := M0.length + G.length + 1) hp hs (by simp) (by simp) (by simp) (by simp) (by simp) (by simp) (by rw [hlg]; omega) hle (by omega) hm hm6 hc hc4 oy
    exact ⟨d, y2, σ2, g, g1, g2, g3, g4.sub fun q hq => List.mem_cons_of_mem _ hq⟩)
  obtain ⟨s, rfl, hs'⟩ := choose_map (f := D.int) (P := fun e => 0 ≤ e ∧ e < many + cups) ds (fun d hd => by
    obtain ⟨e, r1, r2, r3⟩ := q2 d hd
    exact ⟨e, r1, r2, r3⟩)
  rw [List.length_map] at q1
  exact ⟨stepT s, x', σ', _, f, ⟨s, rfl, by omega, hs'⟩, q3, q4.sub fun q hq => List.mem_cons_of_mem _ hq⟩
theorem lbW_eq {vs : List D} {many cups : Int} {w : Nat} {y : Cell} (hp : p < M0.length) (h0 : Wf M0) (hs : Has σ 11 ((5, .int (w : Int)) :: lbL p many cups M0.length)) (hvs : ∀ d ∈ vs, RW (many + cups) d) (hl : vs.length ≤ 1000) (hm : 1 ≤ many) (hm6 : many ≤ 6) (hc : 0 ≤ cups) (hc4 : cups ≤ 4) (ho : PenOk (k + 29) y) :
    ∃ d y' σ' g, lbW σ (M0.set p y ++ [] ++ [.lst vs]) = .ok (.nx σ') (M0.set p y' ++ [] ++ [.lst (vs ++ [d])] ++ g) ∧ RW (many + cups) d ∧ PenOk k y' ∧ Has σ' 11 (lbL p many cups M0.length) := by
  obtain ⟨z, y1, d1, a1, a2, o1⟩ := draw_in (M0 := M0) (g := ([] ++ [.lst vs]) ++ [.lst []]) (k := k + 28) (n := 4) hp ho (by decide) (by decide)
  obtain ⟨ds, x', σ', f, q1, q2, q3, q4⟩ := nest_pen (M0 := M0) (G := []) (p := p) (x := y) (k := k) (fi := fIt gRange1 (fCons (fBin gAdd (fC (.int 1)) (fCall m_law_draw_321cf4 (fCons (fVar 0) (fCons (fC (.int 4)) fNil)))) fNil)) (b := lbS) (a := 4) (c := 6) (i := 7) (N := 11) (m := (1 + z).toNat) (bud := 7) (acc := vs) (x1 := y1) ((5, .int (w : Int)) :: lbL p many cups M0.length) (RS' (many + cups)) hp h0 UndG.nil (by decide) (by decide) (by simp) (by decide) (by simp) hs (by simp) (by simp [D.und, Nat.blt_eq]; omega) (fun d hd n => (hvs d hd).und n) hl (fun d hd n => hd.und n) (by omega) (fun σ hs => by
      have k0 := hs.at (i := 0) (d := .ref p) (by simp)
      refine range1_ev (j := 1 + z) ?_ (by omega) (by omega) rfl
      rw [List.append_assoc (M0.set p y), List.append_assoc (M0.set p y1)]
      exact (bin_ev (fa := fC (.int 1)) (a := .int 1) (b := .int z) rfl ((call2_ev (var_ev k0) rfl).trans d1)).trans gAdd_int) (o1.less (by omega)) (fun σ es j y' k' hj hle hes oy hs => by
    have hlg : ([] ++ [Cell.lst vs]).length = 1 := rfl
    obtain ⟨d, y2, σ2, g, g1, g2, g3, g4⟩ := lbS_eq (M0 := M0) (G := [] ++ [.lst vs]) (p := p) (k := k') (ss := es) (many := many) (cups := cups) (w := w) (t := j) hp h0 (UndG.nil.push fun d hd n => (hvs d hd).und n) hs hes hle hm hm6 hc hc4 oy
    exact ⟨d, y2, σ2, g, g1, g2, g3, g4⟩)
  obtain ⟨s, rfl, hs'⟩ := choose_map (f := stepT) (P := fun e => EndsOk (many + cups) e) ds (fun d hd => q2 d hd)
  rw [List.length_map] at q1
  exact ⟨wheelT s, x', σ', _, f, ⟨s, rfl, by omega, by omega, hs'⟩, q3, q4.sub fun q hq => List.mem_cons_of_mem _ hq⟩
theorem m_law_board_eq {M : Mem} {most : Int} (hx : M[p]? = some x) (hw : Wf M) (ho : PenOk (k + 200) x) (h1 : 1 ≤ most) (h6 : most ≤ 6) :
    ∃ ws c x', m_law_board_049704 [.ref p, .int most] M = .ok (boardT ws c) (M.set p x') ∧ BoardOk ws c ∧ (ws.length : Int) ≤ most ∧ c ≤ 3 ∧ PenOk k x' := by
  have hp : p < M.length := (List.getElem?_eq_some_iff.mp hx).1
  have hM := set_self hx
  obtain ⟨z1, x1, d1, a1, a2, o1⟩ := draw_in (M0 := M) (g := []) (k := k + 199) (n := most) hp ho h1 (by omega)
  obtain ⟨z2, x2, d2, b1, b2, o2⟩ := draw_in (M0 := M) (g := []) (k := k + 198) (n := 4) hp o1 (by decide) (by decide)
  rw [List.append_nil, List.append_nil] at d1 d2
  rw [hM] at d1
  have hf0 : few 0 = true := by decide
  have s1 : sPar 2 3 (fCons (fBin gAdd (fC (.int 1)) (fCall m_law_draw_321cf4 (fCons (fVar 0) (fCons (fVar 1) fNil)))) (fCons (fCall m_law_draw_321cf4 (fCons (fVar 0) (fCons (fC (.int 4)) fNil))) fNil)) (startA 11 [.ref p, .int most]) M = .ok (.nx [some (.ref p), some (.int most), some (.int (1 + z1)), some (.int z2), none, none, none, none, none, none, none]) (M.set p x2) := by
    as_aux_lemma =>
      exact par_ev ((bin_ev (fa := fC (.int 1)) (a := .int 1) (b := .int z1) rfl ((call2_ev (var_ev rfl) (var_ev rfl)).trans d1)).trans gAdd_int) ((call2_ev (var_ev rfl) rfl).trans d2)
  have s2 : sSet 4 (fNew fNil) [some (.ref p), some (.int most), some (.int (1 + z1)), some (.int z2), none, none, none, none, none, none, none] (M.set p x2) = .ok (.nx [some (.ref p), some (.int most), some (.int (1 + z1)), some (.int z2), some (.ref M.length), none, none, none, none, none, none]) (M.set p x2 ++ [] ++ [.lst []]) := by
    as_aux_lemma =>
      refine set_ev (d := .ref M.length) ?_
      simp [hf0]
  have hs : Has [some (D.ref p), some (.int most), some (.int (1 + z1)), some (.int z2), some (.ref M.length), none, none, none, none, none, none] 11 (lbL p (1 + z1) z2 M.length) := by
    refine ⟨rfl, fun q hq => ?_⟩
    simp only [lbL, List.mem_cons, List.mem_nil_iff, or_false] at hq
    rcases hq with rfl | rfl | rfl | rfl <;> rfl
  generalize [some (D.ref p), some (.int most), some (.int (1 + z1)), some (.int z2), some (.ref M.length), none, none, none, none, none, none] = σ2 at s2 hs
  obtain ⟨ds, x3, σ3, f3, q1, q2, q3, q4⟩ := for_pen (M0 := M) (G := []) (p := p) (x := x2) (k := k) (b := lbW) (i := 5) (N := 11) (m := (1 + z1).toNat) (bud := 29) (σ := σ2) (acc0 := []) (lbL p (1 + z1) z2 M.length) (RW (1 + z1 + z2)) hp hw UndG.nil (by decide) (by simp) hs (by simp [D.und, Nat.blt_eq]; omega) (fun d hd n => hd.und n) (fun d hd => by simp at hd) (by simp only [List.length_nil]; omega) (o2.less (by omega)) (fun σ acc j y k' hj hl ha oy hs => lbW_eq (M0 := M) (vs := acc) (w := j) hp hw hs ha hl (by omega) (by omega) b1 (by omega) oy)
  obtain ⟨ws, rfl, hws⟩ := choose_map (f := wheelT) (P := fun w => WheelOk (1 + z1 + z2) w) ds (fun d hd => q2 d hd)
  rw [List.length_map] at q1
  rw [List.nil_append, List.append_nil] at f3
  rw [List.append_nil] at s2
  have s3 : sFor (fIt gRange1 (fCons (fVar 2) fNil)) (.name 5) lbW σ2 (M.set p x2 ++ [.lst []]) = .ok (.nx σ3) (M.set p x3 ++ [.lst (ws.map wheelT)]) := by
    as_aux_lemma =>
      refine for_of (range1_ev (j := 1 + z1) (var_ev (hs.at (i := 2) (d := .int (1 + z1)) (by simp))) (by omega) (by omega) rfl) ?_
      have h3 : (M.set p x2 ++ [Cell.lst []]).length = M.length + ([] : Mem).length + 1 := by simp
      rw [h3]
      simpa using f3
  have hA : (M.set p x3).length = M.length := by simp
  have s4 : sRet (fTup (fCons (fCall gTuple (fCons (fVar 4) fNil)) (fCons (fVar 3) fNil))) σ3 (M.set p x3 ++ [.lst (ws.map wheelT)]) = .ok (.rt (boardT ws z2)) (M.set p x3 ++ [.lst (ws.map wheelT)]) := by
    as_aux_lemma =>
      have k4 := q4.at (i := 4) (d := .ref M.length) (by simp)
      have k3 := q4.at (i := 3) (d := .int z2) (by simp)
      exact ret_ev (tup2_ev ((call1_ev (var_ev k4)).trans (gTuple_ref (last_at hA))) (var_ev k3))
  have sb : b_law_board_049704 (startA 11 [.ref p, .int most]) M = .ok (.rt (boardT ws z2)) (M.set p x3 ++ [.lst (ws.map wheelT)]) := by
    as_aux_lemma =>
      rw [law_board_body]
      exact (seq_nx s1).trans ((seq_nx s2).trans ((seq_nx s3).trans s4))
  refine ⟨ws, z2, x3, (run_rt (n := 11) (k := 2) rfl sb).trans (trim_app (by simp) (wf_set hw q3) (und_board ws z2)), ⟨by omega, by omega, by omega, by omega, fun w hw' => ?_⟩, by omega, by omega, q3⟩
  have e : ((ws.length : Nat) : Int) + z2 = 1 + z1 + z2 := by omega
  rw [e]
  exact hws w hw'
end QX

set_option maxRecDepth 100000
set_option maxHeartbeats 1000000
/-! QZ16: a drawn moment, a pick, the wheels ready -/
namespace QX
open PySem PySem.Spec PyProof.Rows L2 HX
variable {M : Mem} {p k : Nat} {x : Cell} {σ : Sa} {ws : List (List (List Int))} {c : Int} {m : Mo}
theorem m_pick_eq {xs : List D} (hx : M[p]? = some x) (ho : PenOk (k + 1) x) (hl : 1 ≤ xs.length) (hl2 : xs.length ≤ 100000) : ∃ (d : D) (x' : Cell), d ∈ xs ∧ m_law_pick_03ff2a [.ref p, .lst xs] M = .ok d (M.set p x') ∧ PenOk k x' := by
  obtain ⟨z, x', e, z0, z1, o⟩ := m_draw_eq (k := k) (n := (xs.length : Int)) hx ho (by omega) (by omega)
  have hz : z.toNat < xs.length := by omega
  refine ⟨xs[z.toNat], x', List.getElem_mem hz, ?_, o⟩
  refine (run_rt (n := 2) (k := 2) (M1 := M.set p x') (d := xs[z.toNat]) rfl (ret_ev ?_)).trans (trim_id (by rw [List.length_set]))
  refine (bin_ev (a := .lst xs) (b := .int z) (M1 := M) (var_ev rfl) ((call2_ev (var_ev rfl) ((call1_ev (var_ev rfl)).trans gLen_lst)).trans e)).trans ?_
  have : atI xs z = some xs[z.toNat] := by rw [atI_nn z0, List.getElem?_eq_getElem hz]
  simp [this]
/-! ### the moment -/
theorem m_law_moment_eq {most : Int} (hx : M[p]? = some x) (hw : Wf M) (hb : BoardOk ws c) (ho : PenOk (k + 30) x) (h0 : 0 ≤ most) (h1 : most ≤ 100000) :
    ∃ m x', m_law_moment_271a78 [.ref p, boardT ws c, .int most] M = .ok (moT m) (M.set p x') ∧ MoOk ws c m ∧ PenOk k x' := by
  have hp : p < M.length := (List.getElem?_eq_some_iff.mp hx).1
  have hM := set_self hx
  have w6 := hb.w6
  have c0 := hb.c0
  have c4 := hb.c4
  -- the stand
  have hi1 : fIter (fBin gIx (fVar 1) (fC (.int 0))) [some (.ref p), some (boardT ws c), some (.int most), none, none, none, none] (M.set p x ++ []) = .ok ⟨(ws.map wheelT).map .d, fun _ => true⟩ (M.set p x ++ []) := by
    as_aux_lemma =>
      rw [ev_iter, bin_ev (fb := fC (.int 0)) (b := .int 0) (var_ev rfl) rfl, board_0]
      rfl
  obtain ⟨ds1, x1, e1, l1, r1, o1⟩ := comp_pen (M0 := M) (p := p) (x := x) (g := []) (k := k + 24) (b := 1) (R := fun im d => ∃ z, d = D.int z ∧ 0 ≤ z ∧ ∀ w, im = .d (wheelT w) → z < (w.length : Int)) (t := .name 5) (vs := [5]) (e := fCall m_law_draw_321cf4 (fCons (fVar 0) (fCons (fCall gLen (fCons (fVar 5) fNil)) fNil))) hp hi1 (fun _ => rfl) (by rw [List.append_nil, hM]; exact hw) (by simp only [List.length_map]; omega) (by simp only [List.length_map]; exact ho.less (by omega)) (fun im d n h => by obtain ⟨z, rfl, _⟩ := h; rfl) (fun im him j y g' oy wy => by
      obtain ⟨d, hd, rfl⟩ := List.mem_map.mp him
      obtain ⟨w, hwm, rfl⟩ := List.mem_map.mp hd
      have hw1 := (hb.wheels w hwm).1
      have hw4 := (hb.wheels w hwm).2.1
      obtain ⟨z, y', d1, a1, a2, o1⟩ := draw_in (M0 := M) (g := g') (k := j) (n := (w.length : Int)) hp oy (by omega) (by omega)
      refine ⟨_, rfl, .int z, y', ?_, ⟨z, rfl, a1, fun w' e => ?_⟩, o1⟩
      · exact (call2_ev (var_ev rfl) ((call1_ev (var_ev rfl)).trans (wheel_len w))).trans d1
      · have : w.length = w'.length := by
          have := Im.d.inj e
          unfold wheelT at this
          have := congrArg List.length (D.tup.inj this)
          simpa using this
        omega)
  rw [List.append_nil, List.append_nil, hM] at e1
  obtain ⟨st, rfl, hst⟩ := choose_map (f := D.int) (P := fun z => 0 ≤ z) ds1 (fun d hd => by
    obtain ⟨i, hi⟩ := List.mem_iff_getElem?.mp hd
    have hlt : i < ((ws.map wheelT).map Im.d).length := by rw [← l1]; exact (List.getElem?_eq_some_iff.mp hi).1
    obtain ⟨z, q1, q2, _⟩ := r1 i _ d (List.getElem?_eq_getElem hlt) hi
    exact ⟨z, q1, q2⟩)
  simp only [List.length_map] at l1
  have hW1 : Wf (M.set p x1) := wf_set hw o1
  -- what waits
  have hi2 : fIter (fBin gIx (fVar 1) (fC (.int 0))) [some (.ref p), some (boardT ws c), some (.int most), some (stepT st), none, none, none] (M.set p x1 ++ []) = .ok ⟨(ws.map wheelT).map .d, fun _ => true⟩ (M.set p x1 ++ []) := by
    as_aux_lemma =>
      rw [ev_iter, bin_ev (fb := fC (.int 0)) (b := .int 0) (var_ev rfl) rfl, board_0]
      rfl
  obtain ⟨ds2, x2, e2, l2, r2, o2⟩ := comp_pen (M0 := M) (p := p) (x := x1) (g := []) (k := k + 12) (b := 2) (R := fun im d => ∃ z, d = D.int z ∧ 0 ≤ z) (t := .name 5) (vs := [5]) (e := (fBin gIx (fLst (fCons (fC (.int 0)) (fCons (fC (.int 1)) (fCons (fCall m_law_draw_321cf4 (fCons (fVar 0) (fCons (fBin gAdd (fVar 2) (fC (.int 1))) fNil))) fNil)))) (fCall m_law_draw_321cf4 (fCons (fVar 0) (fCons (fC (.int 3)) fNil))))) hp hi2 (fun _ => rfl) (by rw [List.append_nil]; exact hW1) (by simp only [List.length_map]; omega) (by simp only [List.length_map]; exact o1.less (by omega)) (fun im d n h => by obtain ⟨z, rfl, _⟩ := h; rfl) (fun im him j y g' oy wy => by
      obtain ⟨d, hd, rfl⟩ := List.mem_map.mp him
      obtain ⟨w, hwm, rfl⟩ := List.mem_map.mp hd
      obtain ⟨z, y1, d1, a1, a2, o1⟩ := draw_in (M0 := M) (g := g') (k := j + 1) (n := most + 1) hp oy (by omega) (by omega)
      obtain ⟨z3, y2, d2, b1, b2, o2⟩ := draw_in (M0 := M) (g := g') (k := j) (n := 3) hp o1 (by omega) (by omega)
      refine ⟨_, rfl, ?_⟩
      have ev := bin_ev (g := gIx) (lst3_ev (σ := ((wipeA [some (.ref p), some (boardT ws c), some (.int most), some (stepT st), none, none, none] [5]).set 5 (some (wheelT w)))) (M := M.set p y ++ g') (fa := fC (.int 0)) (a := .int 0) (fb := fC (.int 1)) (b := .int 1) rfl rfl ((call2_ev (fa := fVar 0) (var_ev rfl) ((bin_ev (fa := fVar 2) (fb := fC (.int 1)) (b := .int 1) (var_ev rfl) rfl).trans gAdd_int)).trans d1)) ((call2_ev (fa := fVar 0) (fb := fC (.int 3)) (b := .int 3) (var_ev rfl) rfl).trans d2)
      have hz : z3 = 0 ∨ z3 = 1 ∨ z3 = 2 := by omega
      rcases hz with rfl | rfl | rfl
      · exact ⟨.int 0, y2, ev.trans (by simp), ⟨0, rfl, by decide⟩, o2⟩
      · exact ⟨.int 1, y2, ev.trans (by simp), ⟨1, rfl, by decide⟩, o2⟩
      · exact ⟨.int z, y2, ev.trans (by simp), ⟨z, rfl, a1⟩, o2⟩)
  rw [List.append_nil, List.append_nil] at e2
  obtain ⟨wt, rfl, hwt⟩ := choose_map (f := D.int) (P := fun z => 0 ≤ z) ds2 (fun d hd => by
    obtain ⟨i, hi⟩ := List.mem_iff_getElem?.mp hd
    have hlt : i < ((ws.map wheelT).map Im.d).length := by rw [← l2]; exact (List.getElem?_eq_some_iff.mp hi).1
    exact r2 i _ d (List.getElem?_eq_getElem hlt) hi)
  simp only [List.length_map] at l2
  have hW2 : Wf (M.set p x2) := wf_set hw o2
  -- what is held
  have hi3 : fIt gRange1 (fCons (fBin gIx (fVar 1) (fC (.int 1))) fNil) [some (.ref p), some (boardT ws c), some (.int most), some (stepT st), some (stepT wt), none, none] (M.set p x2 ++ []) = .ok ⟨nums 0 c.toNat, fun _ => true⟩ (M.set p x2 ++ []) := by
    as_aux_lemma =>
      exact range1_ev (j := c) ((bin_ev (fb := fC (.int 1)) (b := .int 1) (var_ev rfl) rfl).trans board_1) (by omega) (by omega) rfl
  obtain ⟨ds3, x3, e3, l3, r3, o3⟩ := comp_pen (M0 := M) (p := p) (x := x2) (g := []) (k := k) (b := 1) (R := fun im d => ∃ z, d = D.int z ∧ 0 ≤ z) (t := .name 6) (vs := [6]) (e := fCall m_law_draw_321cf4 (fCons (fVar 0) (fCons (fC (.int 3)) fNil))) hp hi3 (fun _ => rfl) (by rw [List.append_nil]; exact hW2) (by simp only [nums_len]; omega) (by simp only [nums_len]; exact o2.less (by omega)) (fun im d n h => by obtain ⟨z, rfl, _⟩ := h; rfl) (fun im him j y g' oy wy => by
      obtain ⟨d0, rfl⟩ : ∃ d0, im = .d d0 := by
        obtain ⟨i, hi⟩ := List.mem_iff_getElem?.mp him
        have hlt : i < c.toNat := by
          have := (List.getElem?_eq_some_iff.mp hi).1
          simpa [nums_len] using this
        exact ⟨_, Option.some.inj (hi.symm.trans (nums_at c.toNat 0 i hlt))⟩
      obtain ⟨z, y1, d1, a1, a2, o1⟩ := draw_in (M0 := M) (g := g') (k := j) (n := 3) hp oy (by omega) (by omega)
      exact ⟨_, rfl, .int z, y1, (call2_ev (fb := fC (.int 3)) (b := .int 3) (var_ev rfl) rfl).trans d1, ⟨z, rfl, a1⟩, o1⟩)
  rw [List.append_nil, List.append_nil] at e3
  obtain ⟨hd, rfl, hhd⟩ := choose_map (f := D.int) (P := fun z => 0 ≤ z) ds3 (fun d hd => by
    obtain ⟨i, hi⟩ := List.mem_iff_getElem?.mp hd
    have hlt : i < (nums 0 c.toNat).length := by rw [← l3]; exact (List.getElem?_eq_some_iff.mp hi).1
    exact r3 i _ d (List.getElem?_eq_getElem hlt) hi)
  simp only [List.length_map, nums_len] at l3
  have tl : ∀ (M : Mem) (xs : List Int), gTuple [.lst (xs.map D.int)] M = .ok (stepT xs) M := fun M xs => gTuple_lst
  have s1 := set_ev (i := 3) ((call1_ev e1).trans (tl _ st))
  have s2 := set_ev (i := 4) ((call1_ev e2).trans (tl _ wt))
  have s3 := ret_ev (tup3_ev (fa := fVar 3) (fb := fVar 4) (var_ev rfl) (var_ev rfl) ((call1_ev e3).trans (tl _ hd)))
  refine ⟨⟨st, wt, hd⟩, x3, (run_rt (n := 7) (k := 3) (d := moT ⟨st, wt, hd⟩) rfl ((seq_nx s1).trans ((seq_nx s2).trans s3))).trans (trim_id (by rw [List.length_set])), ⟨⟨l1, ?_, l2, by show (hd.length : Int) = c; omega⟩, hwt, hhd⟩, o3⟩
  intro i s w h1 h2
  have h1' : (st.map D.int)[i]? = some (.int s) := by rw [List.getElem?_map, show st[i]? = some s from h1]; rfl
  have h2' : ((ws.map wheelT).map Im.d)[i]? = some (.d (wheelT w)) := by rw [List.getElem?_map, List.getElem?_map, h2]; rfl
  obtain ⟨z, q1, q2, q3⟩ := r1 i _ _ h2' h1'
  cases q1
  exact ⟨q2, q3 w rfl⟩
end QX

set_option maxRecDepth 100000
set_option maxHeartbeats 1000000
/-! QZ17: the wheels ready, the law's own handling -/
namespace QX
open PySem PySem.Spec PyProof.Rows L2 HX
variable {M : Mem} {p k : Nat} {x : Cell} {σ : Sa} {ws : List (List (List Int))} {c : Int} {m : Mo}
def readyIx : Nat → List Int → List Nat
  | _, [] => []
  | i, w :: ws => if 0 < w then i :: readyIx (i + 1) ws else readyIx (i + 1) ws
theorem ready_mem : ∀ (wt : List Int) (i n : Nat), n ∈ readyIx i wt → i ≤ n ∧ n < i + wt.length ∧ 0 < wt.getD (n - i) 0
  | [], i, n, h => by simp [readyIx] at h
  | w :: wt, i, n, h => by
    have rest : n ∈ readyIx (i + 1) wt → i ≤ n ∧ n < i + (w :: wt).length ∧ 0 < (w :: wt).getD (n - i) 0 := fun h => by
      obtain ⟨a, b, e⟩ := ready_mem wt (i + 1) n h
      refine ⟨by omega, by rw [List.length_cons]; omega, ?_⟩
      rw [show n - i = (n - (i + 1)) + 1 by omega, List.getD_cons_succ]
      exact e
    unfold readyIx at h
    split at h
    · rename_i hw
      rcases List.mem_cons.mp h with rfl | h
      · exact ⟨Nat.le_refl _, by rw [List.length_cons]; omega, by rw [Nat.sub_self, List.getD_cons_zero]; exact hw⟩
      · exact rest h
    · exact rest h
theorem ready_len : ∀ (wt : List Int) (i : Nat), (readyIx i wt).length ≤ wt.length
  | [], i => Nat.le_refl _
  | w :: wt, i => by
    have := ready_len wt (i + 1)
    unfold readyIx
    split <;> simp only [List.length_cons] <;> omega
def pP : Im → Bool
  | .pr [_, .int v] => decide (0 < v)
  | _ => false
def fP : Im → D
  | .pr [d, _] => d
  | _ => .non
theorem enum_ready : ∀ (wt : List Int) (i : Nat), ((enumI (i : Int) (wt.map D.int)).filter pP).map fP = (readyIx i wt).map fun n : Nat => D.int (n : Int)
  | [], _ => rfl
  | w :: wt, i => by
    have ih := enum_ready wt (i + 1)
    have e : ((i + 1 : Nat) : Int) = (i : Int) + 1 := by omega
    rw [e] at ih
    simp only [List.map_cons, enumI]
    unfold readyIx
    by_cases hw : 0 < w
    · rw [List.filter_cons_of_pos (by simpa [pP] using hw), List.map_cons, ih, if_pos hw, List.map_cons]
      rfl
    · rw [List.filter_cons_of_neg (by simpa [pP] using hw), ih, if_neg hw]
theorem enum_memI : ∀ (wt : List Int) (i : Int) (im : Im), im ∈ enumI i (wt.map D.int) → ∃ j v, im = .pr [.int j, .int v]
  | [], _, _, h => by simp [enumI] at h
  | w :: wt, i, im, h => by
    simp only [List.map_cons, enumI, List.mem_cons] at h
    rcases h with rfl | h
    · exact ⟨i, w, rfl⟩
    · exact enum_memI wt _ _ h
theorem mo_1 : gIx (moT m) (.int 1) M = .ok (stepT m.wt) M := by simp [moT]
theorem m_ready_eq (hw : Wf M) (hl : m.wt.length ≤ 100000) : m_law_ready_29f393 [moT m] M = .ok (.lst ((readyIx 0 m.wt).map fun n : Nat => D.int (n : Int))) M := by
  have h := comp_filt (fi := fIt gEnum (fCons (fBin gIx (fVar 0) (fC (.int 1))) fNil)) (vs := [1, 2]) (t := .tup [1, 2]) (c := fTest (fBin (gCmp cGt) (fVar 2) (fC (.int 0)))) (e := fVar 1) (σ := startA 3 [moT m]) (M := M) (it := ⟨enumI 0 (m.wt.map D.int), fun _ => true⟩) pP fP (by
      have : fBin gIx (fVar 0) (fC (.int 1)) (startA 3 [moT m]) M = .ok (stepT m.wt) M := (bin_ev (fb := fC (.int 1)) (b := .int 1) (var_ev rfl) rfl).trans mo_1
      simp only [ev_it, ev_cons, this, bind_ok, ev_nil]
      rfl) (fun _ => rfl) hw (by simp only [enum_len, List.length_map]; omega) (fun im him => by
        obtain ⟨j, v, rfl⟩ := enum_memI m.wt 0 im him
        refine ⟨rfl, _, rfl, fun M' _ _ => ⟨?_, fun _ => rfl⟩⟩
        refine test_ev ((bin_ev (fb := fC (.int 0)) (b := .int 0) (var_ev rfl) rfl).trans ?_)
        simp [cGt, pP])
  have e := enum_ready m.wt 0
  rw [show ((0 : Nat) : Int) = 0 from rfl] at e
  dsimp only at h
  rw [e] at h
  exact (run_rt (n := 3) (k := 1) rfl (ret_ev h)).trans (trim_id rfl)
/-! ### the law's own handling -/
def lhFS : FS := (sIf (fTest (fBin (gCmp cGe) (fVar 8) (fCall gLen (fCons (fVar 3) fNil))))
  (sSetIx (fVar 7) (fBin gSub (fVar 8) (fCall gLen (fCons (fVar 3) fNil))) (fBin gAdd (fBin gIx (fVar 7) (fBin gSub (fVar 8) (fCall gLen (fCons (fVar 3) fNil)))) (fC (.int 1))))
  (sSetIx (fVar 6) (fVar 8) (fBin gAdd (fBin gIx (fVar 6) (fVar 8)) (fC (.int 1)))))
theorem law_handle_body : b_law_handle_699149 = (sSeq (sAsg (fVar 0) (.tup [3, 4]))
  (sSeq (sAsgL (fCompC (fIter (fVar 1)) [9] (.name 9) fYes (fCall gListC (fCons (fVar 9) fNil))) [5, 6, 7])
  (sSeq (sSetIx (fVar 6) (fVar 2) (fBin gSub (fBin gIx (fVar 6) (fVar 2)) (fC (.int 1))))
  (sSeq (sFor (fIter (fBin gIx (fBin gIx (fVar 3) (fVar 2)) (fBin gIx (fVar 5) (fVar 2)))) (.name 8) lhFS)
  (sSeq (sSetIx (fVar 5) (fVar 2) (fBin gAdd (fBin gIx (fVar 5) (fVar 2)) (fC (.int 1))))
  (sSeq (sIf (fTest (fBin (gEq false) (fBin gIx (fVar 5) (fVar 2)) (fCall gLen (fCons (fBin gIx (fVar 3) (fVar 2)) fNil))))
  (sSetIx (fVar 5) (fVar 2) (fC (.int 0)))
  sNext)
  (sRet (fTup (fCons (fCall gTuple (fCons (fVar 5) fNil)) (fCons (fCall gTuple (fCons (fVar 6) fNil)) (fCons (fCall gTuple (fCons (fVar 7) fNil)) fNil)))))))))))  := rfl
variable {A g : Mem} {st wt hd : List Int}
theorem lh_loop {n : Nat} {es : List Int} {l : List (Nat × D)} (hs : Has σ 10 l) (h3 : (3, wheelsT ws) ∈ l) (h6 : (6, D.ref (A.length + 1)) ∈ l) (h7 : (7, D.ref (A.length + 2)) ∈ l) (h8 : ∀ q ∈ l, q.1 ≠ 8) (hwt : wt.length = ws.length) (he : ∀ e ∈ es, 0 ≤ e ∧ e < ws.length + hd.length) (hn : n = A.length + 3 + g.length) :
    ∃ σ', forL (.name 8) lhFS (fun _ => true) n ((es.map D.int).map .d) σ (mem3 A st wt hd g) = .ok (.nx σ') (mem3 A st (es.foldl (sendM ws.length) (wt, hd)).1 (es.foldl (sendM ws.length) (wt, hd)).2 g) ∧ Has σ' 10 l := by
  obtain ⟨σ', M', f1, ⟨p, rfl, p1, p2, p3⟩, f3⟩ := for_items (b := lhFS) (n := n) (i := 8) (σ := σ) (M := mem3 A st wt hd g) (ds := es.map D.int) (fun j σ N => (∃ p : List Int × List Int, N = mem3 A st p.1 p.2 g ∧ p = (es.take j).foldl (sendM ws.length) (wt, hd) ∧ p.1.length = ws.length ∧ p.2.length = hd.length) ∧ Has σ 10 l) ⟨⟨(wt, hd), rfl, rfl, hwt, rfl⟩, hs⟩ (fun j σ N d hd' hv => by
    obtain ⟨⟨p, rfl, p1, p2, p3⟩, hs⟩ := hv
    rw [List.getElem?_map] at hd'
    cases q : es[j]? with
    | none => rw [q] at hd'; cases hd'
    | some e =>
      rw [q] at hd'
      cases hd'
      obtain ⟨e0, e1⟩ := he e (List.mem_of_getElem? q)
      have htake : (es.take (j + 1)).foldl (sendM ws.length) (wt, hd) = sendM ws.length p e := by
        rw [List.take_add_one, q, List.foldl_append, ← p1]; rfl
      have hs' : Has (σ.set 8 (some (.int e))) 10 ((8, .int e) :: l) := hs.put (by decide) h8
      generalize σ.set 8 (some (D.int e)) = σ1 at hs'
      have k8 := hs'.at (i := 8) (d := .int e) (by simp)
      have k3 := hs'.at (List.mem_cons_of_mem _ h3)
      have k6 := hs'.at (List.mem_cons_of_mem _ h6)
      have k7 := hs'.at (List.mem_cons_of_mem _ h7)
      have len3 : ∀ M : Mem, fCall gLen (fCons (fVar 3) fNil) σ1 M = .ok (.int ws.length) M := fun M => (call1_ev (var_ev k3)).trans wheels_len
      by_cases hlt : e < ws.length
      · have hsend : sendM ws.length p e = (bump p.1 e.toNat 1, p.2) := by unfold sendM; rw [if_pos hlt]
        refine ⟨σ1, mem3 A st (bump p.1 e.toNat 1) p.2 g, .inl ?_, ?_⟩
        · refine (sif_ev (p := false) (M1 := mem3 A st p.1 p.2 g) (test_ev ((bin_ev (var_ev k8) (len3 _)).trans (by simp [cGe]; omega)))).trans ((if_neg (by decide)).trans ?_)
          have kk : fVar 8 σ1 (mem3 A st p.1 p.2 g) = .ok (.int (e.toNat : Int)) (mem3 A st p.1 p.2 g) := (var_ev k8).trans (by rw [Int.toNat_of_nonneg e0])
          refine (setIx_ev (n := A.length + 1) (i := e.toNat) (xs := p.1) (z := p.1.getD e.toNat 0 + 1) ((bin_ev (fb := fC (.int 1)) (b := .int 1) ((bin_ev (var_ev k6) kk).trans (ixCell mem3_1 (by omega))) rfl).trans gAdd_int) (var_ev k6) kk mem3_1 (by omega)).trans ?_
          rw [mem3_s1]; rfl
        · rw [gc_same (by rw [mem3_len, hn])]
          exact ⟨⟨(bump p.1 e.toNat 1, p.2), rfl, by rw [htake, hsend], by rw [← p2]; exact bump_len, p3⟩, hs'.sub fun q hq => List.mem_cons_of_mem _ hq⟩
      · have hsend : sendM ws.length p e = (p.1, bump p.2 (e - ws.length).toNat 1) := by unfold sendM; rw [if_neg hlt]
        refine ⟨σ1, mem3 A st p.1 (bump p.2 (e - ws.length).toNat 1) g, .inl ?_, ?_⟩
        · refine (sif_ev (p := true) (M1 := mem3 A st p.1 p.2 g) (test_ev ((bin_ev (var_ev k8) (len3 _)).trans (by simp [cGe]; omega)))).trans ((if_pos rfl).trans ?_)
          have kk : fBin gSub (fVar 8) (fCall gLen (fCons (fVar 3) fNil)) σ1 (mem3 A st p.1 p.2 g) = .ok (.int ((e - ws.length).toNat : Int)) (mem3 A st p.1 p.2 g) := ((bin_ev (var_ev k8) (len3 _)).trans gSub_int).trans (by rw [Int.toNat_of_nonneg (by omega)])
          refine (setIx_ev (n := A.length + 2) (i := (e - ws.length).toNat) (xs := p.2) (z := p.2.getD (e - ws.length).toNat 0 + 1) ((bin_ev (fb := fC (.int 1)) (b := .int 1) ((bin_ev (var_ev k7) kk).trans (ixCell mem3_2 (by omega))) rfl).trans gAdd_int) (var_ev k7) kk mem3_2 (by omega)).trans ?_
          rw [mem3_s2]; rfl
        · rw [gc_same (by rw [mem3_len, hn])]
          exact ⟨⟨(p.1, bump p.2 (e - ws.length).toNat 1), rfl, by rw [htake, hsend], p2, by rw [← p3]; exact bump_len⟩, hs'.sub fun q hq => List.mem_cons_of_mem _ hq⟩)
  refine ⟨σ', ?_, f3⟩
  rw [List.length_map, List.take_length] at p1
  rw [f1, p1]
end QX

set_option maxRecDepth 100000
set_option maxHeartbeats 1000000
/-! QZ18: the law's own handling, whole -/
namespace QX
open PySem PySem.Spec PyProof.Rows L2 HX
variable {M C : Mem} {p k : Nat} {x : Cell} {σ : Sa} {ws : List (List (List Int))} {c : Int} {m : Mo}
theorem compL_own {acc : List D} {xs : List Int} {ims : List Im} (h9 : σ.length = 10) (hl : acc.length ≤ 1000) :
    compL (.name 9) fYes (fCall gListC (fCons (fVar 9) fNil)) (fun _ => true) σ M.length (.d (stepT xs) :: ims) (M ++ ([.lst acc] ++ C)) = compL (.name 9) fYes (fCall gListC (fCons (fVar 9) fNil)) (fun _ => true) σ M.length ims (M ++ ([.lst (acc ++ [.ref (M.length + 1 + C.length)])] ++ (C ++ [.lst (xs.map D.int)]))) := by
  have ev : fCall gListC (fCons (fVar 9) fNil) (σ.set 9 (some (stepT xs))) (M ++ ([.lst acc] ++ C)) = .ok (.ref (M.length + 1 + C.length)) (M ++ ([.lst acc] ++ (C ++ [.lst (xs.map D.int)]))) := by
    have k9 : (σ.set 9 (some (stepT xs)))[9]? = some (some (stepT xs)) := List.getElem?_set_self (by omega)
    refine (call1_ev (var_ev k9)).trans ?_
    have hl : (M ++ ([Cell.lst acc] ++ C)).length = M.length + 1 + C.length := by simp; omega
    show Res.ok (D.ref (M ++ ([Cell.lst acc] ++ C)).length) ((M ++ ([Cell.lst acc] ++ C)) ++ [.lst (xs.map D.int)]) = _
    rw [hl]
    simp
  have hg : (M ++ ([Cell.lst acc] ++ (C ++ [Cell.lst (xs.map D.int)])))[M.length]? = some (.lst acc) := by
    rw [List.getElem?_append_right (Nat.le_refl _), Nat.sub_self]; rfl
  have hset : ∀ z : Cell, (M ++ ([Cell.lst acc] ++ (C ++ [Cell.lst (xs.map D.int)]))).set M.length z = M ++ ([z] ++ (C ++ [Cell.lst (xs.map D.int)])) := fun z => by
    rw [List.set_append_right _ _ (Nat.le_refl _), Nat.sub_self]; rfl
  have hb : Nat.blt acc.length 16777216 = true := by rw [Nat.blt_eq]; omega
  conv => lhs; unfold compL
  rw [if_pos rfl, put_name]
  dsimp only
  simp only [fYes, Res.nox, Res.bind, if_true, ev, hg]
  rw [if_pos hb, hset]
theorem comp_own3 {a b d : List Int} (h9 : σ.length = 10) (h1 : σ[1]? = some (some (.tup [stepT a, stepT b, stepT d]))) :
    fCompC (fIter (fVar 1)) [9] (.name 9) fYes (fCall gListC (fCons (fVar 9) fNil)) σ M = .ok (.ref M.length) (mem3 (M ++ [.lst [.ref (M.length + 1), .ref (M.length + 2), .ref (M.length + 3)]]) a b d []) := by
  have hi : fIter (fVar 1) σ M = .ok ⟨[.d (stepT a), .d (stepT b), .d (stepT d)], fun _ => true⟩ M := by
    rw [ev_iter, var_ev h1]; rfl
  have hw9 : (wipeA σ [9]).length = 10 := by simp [wipeA, h9]
  unfold fCompC
  rw [hi]
  dsimp only [Res.bind]
  have e1 := compL_own (M := M) (C := []) (σ := wipeA σ [9]) (acc := []) (xs := a) (ims := [.d (stepT b), .d (stepT d)]) hw9 (by simp)
  have e2 := compL_own (M := M) (C := [] ++ [.lst (a.map D.int)]) (σ := wipeA σ [9]) (acc := [] ++ [.ref (M.length + 1 + 0)]) (xs := b) (ims := [.d (stepT d)]) hw9 (by simp)
  have e3 := compL_own (M := M) (C := ([] ++ [.lst (a.map D.int)]) ++ [.lst (b.map D.int)]) (σ := wipeA σ [9]) (acc := ([] ++ [.ref (M.length + 1 + 0)]) ++ [.ref (M.length + 1 + 1)]) (xs := d) (ims := []) hw9 (by simp)
  have e0 : M ++ [Cell.lst []] = M ++ ([Cell.lst []] ++ []) := by simp
  rw [e0, e1.trans (e2.trans e3)]
  unfold compL
  rw [if_pos rfl]
  simp [mem3]
theorem m_law_handle_eq {w : Nat} (hW : Wf M) (hb : BoardOk ws c) (hm : MoF ws c m) (hw : w < ws.length) : m_law_handle_699149 [boardT ws c, moT m, .int (w : Int)] M = .ok (moT (handleM ws m w)) M := by
  have wlt : w < m.wt.length := by rw [hm.wl]; exact hw
  have slt : w < m.st.length := by rw [hm.sl]; exact hw
  have hx : ws[w]? = some (ws.getD w []) := by rw [List.getD_eq_getElem?_getD, List.getElem?_eq_getElem hw]; rfl
  have hsx : m.st[w]? = some (m.st.getD w 0) := by rw [List.getD_eq_getElem?_getD, List.getElem?_eq_getElem slt]; rfl
  obtain ⟨r0, r1⟩ := hm.sr w _ _ hsx hx
  obtain ⟨v1, v4, vs⟩ := hb.wheels (ws.getD w []) (List.mem_of_getElem? hx)
  have hin : endsAt ws m.st w ∈ ws.getD w [] := by
    unfold endsAt
    rw [List.getD_eq_getElem?_getD (l := ws.getD w []), List.getElem?_eq_getElem (by omega)]
    exact List.getElem_mem _
  obtain ⟨e3, er⟩ := vs _ hin
  obtain ⟨A, hA⟩ : ∃ A : Mem, A = M ++ [.lst [.ref (M.length + 1), .ref (M.length + 2), .ref (M.length + 3)]] := ⟨_, rfl⟩
  have hAl : A.length = M.length + 1 := by rw [hA]; simp
  have s1 : sAsg (fVar 0) (.tup [3, 4]) [some (boardT ws c), some (moT m), some (.int (w : Int)), none, none, none, none, none, none, none] M = .ok (.nx [some (boardT ws c), some (moT m), some (.int (w : Int)), some (wheelsT ws), some (.int c), none, none, none, none, none]) M := by
    as_aux_lemma => exact asg_ev (d := boardT ws c) (var_ev rfl) rfl
  have s2 : sAsgL (fCompC (fIter (fVar 1)) [9] (.name 9) fYes (fCall gListC (fCons (fVar 9) fNil))) [5, 6, 7] [some (boardT ws c), some (moT m), some (.int (w : Int)), some (wheelsT ws), some (.int c), none, none, none, none, none] M = .ok (.nx [some (boardT ws c), some (moT m), some (.int (w : Int)), some (wheelsT ws), some (.int c), some (.ref A.length), some (.ref (A.length + 1)), some (.ref (A.length + 2)), none, none]) (mem3 A m.st m.wt m.hd []) := by
    as_aux_lemma =>
      have e := comp_own3 (M := M) (σ := [some (boardT ws c), some (moT m), some (.int (w : Int)), some (wheelsT ws), some (.int c), none, none, none, none, none]) (a := m.st) (b := m.wt) (d := m.hd) rfl rfl
      rw [← hA] at e
      have hl : listOf (mem3 A m.st m.wt m.hd []) (.ref M.length) = some [.ref (M.length + 1), .ref (M.length + 2), .ref (M.length + 3)] := by
        have : (mem3 A m.st m.wt m.hd [])[M.length]? = some (.lst [.ref (M.length + 1), .ref (M.length + 2), .ref (M.length + 3)]) := by
          unfold mem3
          rw [List.getElem?_append_left (by omega), hA, List.getElem?_append_right (Nat.le_refl _), Nat.sub_self]
          rfl
        simp only [listOf, this]
      rw [ev_asgL, e, bindS_ok, hl, hAl]
      rfl
  have hs : Has [some (boardT ws c), some (moT m), some (.int (w : Int)), some (wheelsT ws), some (.int c), some (.ref A.length), some (.ref (A.length + 1)), some (.ref (A.length + 2)), none, none] 10 [(2, .int (w : Int)), (3, wheelsT ws), (5, .ref A.length), (6, .ref (A.length + 1)), (7, .ref (A.length + 2))] := by
    refine ⟨rfl, fun q hq => ?_⟩
    simp only [List.mem_cons, List.mem_nil_iff, or_false] at hq
    rcases hq with rfl | rfl | rfl | rfl | rfl <;> rfl
  generalize [some (boardT ws c), some (moT m), some (.int (w : Int)), some (wheelsT ws), some (.int c), some (.ref A.length), some (.ref (A.length + 1)), some (.ref (A.length + 2)), none, none] = σ2 at s2 hs
  have i2 := hs.at (i := 2) (d := .int (w : Int)) (by simp)
  have i3 := hs.at (i := 3) (d := wheelsT ws) (by simp)
  have i5 := hs.at (i := 5) (d := .ref A.length) (by simp)
  have i6 := hs.at (i := 6) (d := .ref (A.length + 1)) (by simp)
  have s3 : sSetIx (fVar 6) (fVar 2) (fBin gSub (fBin gIx (fVar 6) (fVar 2)) (fC (.int 1))) σ2 (mem3 A m.st m.wt m.hd []) = .ok (.nx σ2) (mem3 A m.st (bump m.wt w (-1)) m.hd []) := by
    as_aux_lemma =>
      refine (setIx_ev (n := A.length + 1) (i := w) (xs := m.wt) (z := m.wt.getD w 0 - 1) ((bin_ev (fb := fC (.int 1)) (b := .int 1) ((bin_ev (var_ev i6) (var_ev i2)).trans (ixCell mem3_1 wlt)) rfl).trans gSub_int) (var_ev i6) (var_ev i2) mem3_1 wlt).trans ?_
      rw [mem3_s1]; rfl
  obtain ⟨σ4, f4, hs4⟩ := lh_loop (A := A) (g := []) (st := m.st) (wt := bump m.wt w (-1)) (hd := m.hd) (ws := ws) (n := A.length + 3 + 0) (es := endsAt ws m.st w) hs (by simp) (by simp) (by simp) (by simp) (by rw [bump_len, hm.wl]) (fun e he => by
    have := er e he
    have := hm.hl
    omega) rfl
  have s4 : sFor (fIter (fBin gIx (fBin gIx (fVar 3) (fVar 2)) (fBin gIx (fVar 5) (fVar 2)))) (.name 8) lhFS σ2 (mem3 A m.st (bump m.wt w (-1)) m.hd []) = .ok (.nx σ4) (mem3 A m.st (sentM ws m w).1 (sentM ws m w).2 []) := by
    as_aux_lemma =>
      have hi : fIter (fBin gIx (fBin gIx (fVar 3) (fVar 2)) (fBin gIx (fVar 5) (fVar 2))) σ2 (mem3 A m.st (bump m.wt w (-1)) m.hd []) = .ok ⟨((endsAt ws m.st w).map D.int).map .d, fun _ => true⟩ (mem3 A m.st (bump m.wt w (-1)) m.hd []) := by
        rw [ev_iter, bin_ev ((bin_ev (var_ev i3) (var_ev i2)).trans (wheel_at hw)) ((bin_ev (var_ev i5) (var_ev i2)).trans (ixCell mem3_0 slt)), step_at r0 r1]
        rfl
      refine for_of hi ?_
      rw [mem3_len]
      exact f4
  have j2 := hs4.at (i := 2) (d := .int (w : Int)) (by simp)
  have j3 := hs4.at (i := 3) (d := wheelsT ws) (by simp)
  have j5 := hs4.at (i := 5) (d := .ref A.length) (by simp)
  have j6 := hs4.at (i := 6) (d := .ref (A.length + 1)) (by simp)
  have j7 := hs4.at (i := 7) (d := .ref (A.length + 2)) (by simp)
  have s5 : sSetIx (fVar 5) (fVar 2) (fBin gAdd (fBin gIx (fVar 5) (fVar 2)) (fC (.int 1))) σ4 (mem3 A m.st (sentM ws m w).1 (sentM ws m w).2 []) = .ok (.nx σ4) (mem3 A (m.st.set w (m.st.getD w 0 + 1)) (sentM ws m w).1 (sentM ws m w).2 []) := by
    as_aux_lemma =>
      refine (setIx_ev (n := A.length) (i := w) (xs := m.st) (z := m.st.getD w 0 + 1) ((bin_ev (fb := fC (.int 1)) (b := .int 1) ((bin_ev (var_ev j5) (var_ev j2)).trans (ixCell mem3_0 slt)) rfl).trans gAdd_int) (var_ev j5) (var_ev j2) mem3_0 slt).trans ?_
      rw [mem3_s0]
  have slt' : w < (m.st.set w (m.st.getD w 0 + 1)).length := by rw [List.length_set]; exact slt
  have hget : (m.st.set w (m.st.getD w 0 + 1)).getD w 0 = m.st.getD w 0 + 1 := by
    rw [List.getD_eq_getElem?_getD, List.getElem?_set_self slt]; rfl
  have s6 : sIf (fTest (fBin (gEq false) (fBin gIx (fVar 5) (fVar 2)) (fCall gLen (fCons (fBin gIx (fVar 3) (fVar 2)) fNil)))) (sSetIx (fVar 5) (fVar 2) (fC (.int 0))) sNext σ4 (mem3 A (m.st.set w (m.st.getD w 0 + 1)) (sentM ws m w).1 (sentM ws m w).2 []) = .ok (.nx σ4) (mem3 A (handleM ws m w).st (handleM ws m w).wt (handleM ws m w).hd []) := by
    as_aux_lemma =>
      have test : fTest (fBin (gEq false) (fBin gIx (fVar 5) (fVar 2)) (fCall gLen (fCons (fBin gIx (fVar 3) (fVar 2)) fNil))) σ4 (mem3 A (m.st.set w (m.st.getD w 0 + 1)) (sentM ws m w).1 (sentM ws m w).2 []) = .ok (decide (m.st.getD w 0 + 1 = ((ws.getD w []).length : Int))) (mem3 A (m.st.set w (m.st.getD w 0 + 1)) (sentM ws m w).1 (sentM ws m w).2 []) := by
        refine test_ev ((bin_ev ((bin_ev (var_ev j5) (var_ev j2)).trans (ixCell mem3_0 slt')) ((call1_ev ((bin_ev (var_ev j3) (var_ev j2)).trans (wheel_at hw))).trans (wheel_len _))).trans ?_)
        rw [gEq_int, hget]
        rfl
      refine (sif_ev test).trans ?_
      by_cases he : m.st.getD w 0 + 1 = ((ws.getD w []).length : Int)
      · rw [if_pos (by rw [decide_eq_true_eq]; exact he)]
        refine (setIx_ev (fv := fC (.int 0)) (z := 0) rfl (var_ev j5) (var_ev j2) mem3_0 slt').trans ?_
        rw [mem3_s0, List.set_set]
        have : (handleM ws m w).st = m.st.set w 0 := by
          show m.st.set w ((m.st.getD w 0 + 1) % ((ws.getD w []).length : Int)) = _
          rw [he, Int.emod_self]
        rw [this]
        rfl
      · rw [if_neg (by rw [decide_eq_true_eq]; exact he)]
        have : (handleM ws m w).st = m.st.set w (m.st.getD w 0 + 1) := by
          show m.st.set w ((m.st.getD w 0 + 1) % ((ws.getD w []).length : Int)) = _
          rw [Int.emod_eq_of_lt (by omega) (by omega)]
        rw [this]
        rfl
  have sb : b_law_handle_699149 (startA 10 [boardT ws c, moT m, .int (w : Int)]) M = .ok (.rt (moT (handleM ws m w))) (mem3 A (handleM ws m w).st (handleM ws m w).wt (handleM ws m w).hd []) := by
    as_aux_lemma =>
      rw [law_handle_body]
      exact (seq_nx s1).trans ((seq_nx s2).trans ((seq_nx s3).trans ((seq_nx s4).trans ((seq_nx s5).trans ((seq_nx s6).trans (ret_ev (tup3_ev ((call1_ev (var_ev j5)).trans (gTuple_ref mem3_0)) ((call1_ev (var_ev j6)).trans (gTuple_ref mem3_1)) ((call1_ev (var_ev j7)).trans (gTuple_ref mem3_2)))))))))
  have hmem : ∀ a b d : List Int, mem3 A a b d [] = M ++ ([.lst [.ref (M.length + 1), .ref (M.length + 2), .ref (M.length + 3)]] ++ [.lst (a.map D.int), .lst (b.map D.int), .lst (d.map D.int)]) := fun a b d => by
    rw [hA]; simp [mem3]
  rw [hmem] at sb
  exact (run_rt (n := 10) (k := 3) rfl sb).trans (trim_app rfl hW (und_mo _))
end QX

set_option maxRecDepth 100000
set_option maxHeartbeats 1000000
/-! QZ19: a row that is let, drawn -/
namespace QX
open PySem PySem.Spec PyProof.Rows L2 HX
variable {M : Mem} {p k : Nat} {x : Cell} {σ : Sa} {ws : List (List (List Int))} {c : Int} {m : Mo}
def ixs (ns : List Nat) : List D := ns.map fun n : Nat => D.int (n : Int)
theorem py_ixs : ∀ ns : List Nat, D.pyA (ixs ns) = some (ns.map fun n : Nat => PyData.int (n : Int))
  | [] => by simp [ixs, D.pyA]
  | n :: ns => by
    have := py_ixs ns
    unfold ixs at this ⊢
    simp only [List.map_cons, D.pyA, D.py, this]
theorem lay_ixs : ∀ ns : List Nat, PyData.canLayAll0 (ns.map fun n : Nat => PyData.int (n : Int)) = true ∧ PyData.depthAll (ns.map fun n : Nat => PyData.int (n : Int)) = 0
  | [] => by simp [PyData.canLayAll0, PyData.depthAll]
  | n :: ns => by
    obtain ⟨a, b⟩ := lay_ixs ns
    simp [PyData.canLayAll0, PyData.depthAll, PyData.canLay0, PyData.depth, a, b]
theorem ne_nil {ns : List Nat} : gEq true (.lst (ixs ns)) (.lst []) M = .ok (.bl (!ns.isEmpty)) M := by
  have h1 : toPy M (.lst (ixs ns)) = some (.list (ns.map fun n : Nat => PyData.int (n : Int))) := by
    show D.py (.lst (ixs ns)) = _
    simp only [D.py, py_ixs]
  have h2 : toPy M (.lst []) = some (.list []) := by
    show D.py (.lst []) = _
    simp [D.py, D.pyA]
  obtain ⟨a, b⟩ := lay_ixs ns
  have s1 : SeqAt.shaped (.list (ns.map fun n : Nat => PyData.int (n : Int))) = true := by simp [SeqAt.shaped, PyData.canLay0, PyData.depth, a, b]
  have s2 : SeqAt.shaped (.list []) = true := by simp [SeqAt.shaped, PyData.canLay0, PyData.depth, PyData.canLayAll0, PyData.depthAll]
  have e : PyData.eqv (.list (ns.map fun n : Nat => PyData.int (n : Int))) (.list []) = ns.isEmpty := by
    cases ns <;> simp [PyData.eqv, PyData.eqvAll]
  unfold gEq
  simp only [h1, h2, s1, s2, e, Bool.and_self, if_true]
theorem atI_last {α : Type} {xs : List α} {d : α} : atI (xs ++ [d]) (-1) = some d := by
  unfold atI ixN
  rw [if_neg (by decide)]
  simp only [List.length_append, List.length_singleton]
  rw [if_pos (by omega), show (-1 + ((xs.length + 1 : Nat) : Int)).toNat = xs.length by omega]
  simp
theorem meth_last2 {A A' : Mem} {es : List D} {a : Nat} {fe : F D} {d : D} (h : σ[a]? = some (some (.ref A.length))) (hA : A'.length = A.length) (he : fe σ (A ++ [.lst es]) = .ok d (A' ++ [.lst es])) (hl : es.length ≤ 1000) : sExpr (fMeth gAppend (fVar a) (fCons fe fNil)) σ (A ++ [.lst es]) = .ok (.nx σ) (A' ++ [.lst (es ++ [d])]) := by
  refine expr_ev (d := .non) ?_
  have il : isL (A ++ [.lst es]) (.ref A.length) = true := isL_last rfl
  rw [ev_meth, ev_var, h]
  simp only [bind_ok, il, if_true, ev_cons, he, ev_nil]
  rw [append_last hA (by omega)]
theorem walkM_snoc {n : Nat} {m1 : Mo} (h : ¬ m1.wt.getD n 0 = 0) : ∀ (row : List Nat) (i : Nat) (m : Mo), walkM ws i m row = (none, m1) → walkM ws i m (row ++ [n]) = (none, handleM ws m1 n)
  | [], i, m, e => by
    cases e
    exact if_neg h
  | w :: row, i, m, e => by
    by_cases hz : m.wt.getD w 0 = 0
    · rw [show walkM ws i m (w :: row) = (some i, m) from if_pos hz] at e
      cases e
    · rw [show walkM ws i m (w :: row) = walkM ws (i + 1) (handleM ws m w) row from if_neg hz] at e
      rw [List.cons_append, show walkM ws i m (w :: (row ++ [n])) = walkM ws (i + 1) (handleM ws m w) (row ++ [n]) from if_neg hz]
      exact walkM_snoc h row (i + 1) _ e
def lrFS : FS := (sSeq (sSet 6 (fCall m_law_ready_29f393 (fCons (fVar 2) fNil)))
  (sIf (fTest (fBin (gEq true) (fVar 6) (fLst fNil)))
  (sSeq (sExpr (fMeth gAppend (fVar 4) (fCons (fCall m_law_pick_03ff2a (fCons (fVar 0) (fCons (fVar 6) fNil))) fNil)))
  (sSet 2 (fCall m_law_handle_699149 (fCons (fVar 1) (fCons (fVar 2) (fCons (fBin gIx (fVar 4) (fUn gNeg (fC (.int 1)))) fNil))))))
  sNext))
theorem law_let_row_body : b_law_let_row_b47afa = (sSeq (sSet 4 (fNew fNil))
  (sSeq (sFor (fIt gRange1 (fCons (fVar 3) fNil)) (.name 5) lrFS)
  (sRet (fTup (fCons (fCall gTuple (fCons (fVar 4) fNil)) (fCons (fVar 2) fNil)))))) := rfl
theorem lr_step {row : List Nat} {y : Cell} (hp : p < M.length) (hW : Wf M) (hb : BoardOk ws c) (hm : MoOk ws c m) (hl : row.length ≤ 999) (ho : PenOk (k + 1) y) (hs : Has σ 7 [(2, moT m), (0, .ref p), (1, boardT ws c), (4, .ref M.length)]) :
    ∃ σ' y' row' m', lrFS σ (M.set p y ++ [.lst (ixs row)]) = .ok (.nx σ') (M.set p y' ++ [.lst (ixs row')]) ∧ PenOk k y' ∧ MoOk ws c m' ∧ Has σ' 7 [(2, moT m'), (0, .ref p), (1, boardT ws c), (4, .ref M.length)] ∧ ((row' = row ∧ m' = m) ∨ ∃ n, n < ws.length ∧ row' = row ++ [n] ∧ ¬ m.wt.getD n 0 = 0 ∧ m' = handleM ws m n) := by
  have w6 := hb.w6
  have wl := hm.wl
  have hWN : ∀ (y : Cell) (j : Nat) (r : List Nat), PenOk j y → Wf (M.set p y ++ [.lst (ixs r)]) := fun y j r hy => Wf.push (wf_set hW hy) (undA_map (fun _ => rfl) r)
  have k2 := hs.at (i := 2) (d := moT m) (by simp)
  have s1 : sSet 6 (fCall m_law_ready_29f393 (fCons (fVar 2) fNil)) σ (M.set p y ++ [.lst (ixs row)]) = .ok (.nx (σ.set 6 (some (.lst (ixs (readyIx 0 m.wt)))))) (M.set p y ++ [.lst (ixs row)]) := set_ev ((call1_ev (var_ev k2)).trans (m_ready_eq (hWN y _ row ho) (by omega)))
  have hs1 : Has (σ.set 6 (some (.lst (ixs (readyIx 0 m.wt))))) 7 ((6, .lst (ixs (readyIx 0 m.wt))) :: [(2, moT m), (0, .ref p), (1, boardT ws c), (4, .ref M.length)]) := hs.put (by decide) (by simp)
  generalize σ.set 6 (some (D.lst (ixs (readyIx 0 m.wt)))) = σ1 at s1 hs1
  have j6 := hs1.at (i := 6) (d := .lst (ixs (readyIx 0 m.wt))) (by simp)
  have j2 := hs1.at (i := 2) (d := moT m) (by simp)
  have j0 := hs1.at (i := 0) (d := .ref p) (by simp)
  have j1 := hs1.at (i := 1) (d := boardT ws c) (by simp)
  have j4 := hs1.at (i := 4) (d := .ref M.length) (by simp)
  have hf0 : few 0 = true := by decide
  have test : fTest (fBin (gEq true) (fVar 6) (fLst fNil)) σ1 (M.set p y ++ [.lst (ixs row)]) = .ok (!(readyIx 0 m.wt).isEmpty) (M.set p y ++ [.lst (ixs row)]) := test_ev ((bin_ev (b := .lst []) (M2 := M.set p y ++ [.lst (ixs row)]) (var_ev j6) (by simp [hf0])).trans ne_nil)
  cases hr : readyIx 0 m.wt with
  | nil =>
    refine ⟨σ1, y, row, m, (seq_nx s1).trans ((sif_ev test).trans ?_), ho.less (by omega), hm, hs1.sub fun q hq => List.mem_cons_of_mem _ hq, .inl ⟨rfl, rfl⟩⟩
    rw [hr]
    rfl
  | cons a as =>
    have hxN : (M.set p y ++ [.lst (ixs row)])[p]? = some y := pen_at hp
    have hrl := ready_len m.wt 0
    obtain ⟨d, y', hd, e1, o1⟩ := m_pick_eq (k := k) (M := M.set p y ++ [.lst (ixs row)]) (p := p) (x := y) (xs := ixs (readyIx 0 m.wt)) hxN ho (by rw [hr]; simp [ixs]) (by unfold ixs; rw [List.length_map]; omega)
    rw [pen_set hp] at e1
    obtain ⟨n, hn, rfl⟩ := List.mem_map.mp hd
    obtain ⟨_, n2, n3⟩ := ready_mem m.wt 0 n hn
    rw [Nat.zero_add] at n2
    rw [Nat.sub_zero] at n3
    have hnw : n < ws.length := by omega
    have hnz : ¬ m.wt.getD n 0 = 0 := by omega
    have s2 := meth_last2 (σ := σ1) (a := 4) (A := M.set p y) (A' := M.set p y') (es := ixs row) (fe := fCall m_law_pick_03ff2a (fCons (fVar 0) (fCons (fVar 6) fNil))) (d := .int (n : Int)) (by rw [List.length_set]; exact j4) (by simp) ((call2_ev (var_ev j0) (var_ev j6)).trans e1) (by unfold ixs; rw [List.length_map]; omega)
    have hix : ixs row ++ [.int (n : Int)] = ixs (row ++ [n]) := by unfold ixs; rw [List.map_append]; rfl
    rw [hix] at s2
    have hlast : gIx (.ref M.length) (.int (-1)) (M.set p y' ++ [.lst (ixs (row ++ [n]))]) = .ok (.int (n : Int)) (M.set p y' ++ [.lst (ixs (row ++ [n]))]) := by
      rw [gIx_ref (last_at (by simp)), ← hix, atI_last]
    have s3 : sSet 2 (fCall m_law_handle_699149 (fCons (fVar 1) (fCons (fVar 2) (fCons (fBin gIx (fVar 4) (fUn gNeg (fC (.int 1)))) fNil)))) σ1 (M.set p y' ++ [.lst (ixs (row ++ [n]))]) = .ok (.nx (σ1.set 2 (some (moT (handleM ws m n))))) (M.set p y' ++ [.lst (ixs (row ++ [n]))]) :=
      set_ev ((call3_ev (var_ev j1) (var_ev j2) ((bin_ev (fb := fUn gNeg (fC (.int 1))) (b := .int (-1)) (var_ev j4) rfl).trans hlast)).trans (m_law_handle_eq (hWN y' _ _ o1) hb hm.toMoF hnw))
    have hm2 := hm.handle (w := n) (fun x hx => (hb.wheels x hx).1) n3
    refine ⟨σ1.set 2 (some (moT (handleM ws m n))), y', row ++ [n], handleM ws m n, (seq_nx s1).trans ((sif_ev test).trans ?_), o1, hm2, ?_, .inr ⟨n, hnw, rfl, hnz, rfl⟩⟩
    · rw [hr]
      exact (if_pos rfl).trans ((seq_nx s2).trans s3)
    · have h7 : Has σ1 7 [(0, .ref p), (1, boardT ws c), (4, .ref M.length)] := hs1.sub (by simp)
      exact h7.put (by decide) (by simp)
theorem m_law_let_row_eq {n : Nat} (hx : M[p]? = some x) (hW : Wf M) (hb : BoardOk ws c) (hm : MoOk ws c m) (hn : n ≤ 900) (ho : PenOk (k + n) x) :
    ∃ row m' x', m_law_let_row_b47afa [.ref p, boardT ws c, moT m, .int (n : Int)] M = .ok (.tup [rowT row, moT m']) (M.set p x') ∧ walkM ws 0 m row = (none, m') ∧ (∀ w ∈ row, w < ws.length) ∧ row.length ≤ n ∧ MoOk ws c m' ∧ PenOk k x' := by
  have hp : p < M.length := (List.getElem?_eq_some_iff.mp hx).1
  have hM := set_self hx
  have hf0 : few 0 = true := by decide
  have s1 : sSet 4 (fNew fNil) (startA 7 [.ref p, boardT ws c, moT m, .int (n : Int)]) M = .ok (.nx [some (.ref p), some (boardT ws c), some (moT m), some (.int (n : Int)), some (.ref M.length), none, none]) (M.set p x ++ [.lst (ixs [])]) := by
    as_aux_lemma =>
      rw [hM]
      refine set_ev (d := .ref M.length) ?_
      simp [hf0, ixs]
  have hs : Has [some (D.ref p), some (boardT ws c), some (moT m), some (.int (n : Int)), some (.ref M.length), none, none] 7 [(2, moT m), (0, .ref p), (1, boardT ws c), (4, .ref M.length)] := by
    refine ⟨rfl, fun q hq => ?_⟩
    simp only [List.mem_cons, List.mem_nil_iff, or_false] at hq
    rcases hq with rfl | rfl | rfl | rfl <;> rfl
  have h3 : fIt gRange1 (fCons (fVar 3) fNil) [some (D.ref p), some (boardT ws c), some (moT m), some (.int (n : Int)), some (.ref M.length), none, none] (M.set p x ++ [.lst (ixs [])]) = .ok ⟨nums 0 n, fun _ => true⟩ (M.set p x ++ [.lst (ixs [])]) := range1_ev (var_ev rfl) (by omega) (by omega) (by omega)
  generalize [some (D.ref p), some (boardT ws c), some (moT m), some (.int (n : Int)), some (.ref M.length), none, none] = σ1 at s1 hs h3
  obtain ⟨σ2, M2, f2, row, m', y, rfl, q1, q2, q3, q4, q5, q6⟩ := for_nums (b := lrFS) (n := M.length + 1) (m := n) (i := 5) (σ := σ1) (M := M.set p x ++ [.lst (ixs [])]) (fun j σ N => ∃ row m' y, N = M.set p y ++ [.lst (ixs row)] ∧ walkM ws 0 m row = (none, m') ∧ (∀ w ∈ row, w < ws.length) ∧ row.length ≤ j ∧ MoOk ws c m' ∧ PenOk (k + (n - j)) y ∧ Has σ 7 [(2, moT m'), (0, .ref p), (1, boardT ws c), (4, .ref M.length)])
    ⟨[], m, x, rfl, rfl, fun w h => by simp at h, Nat.le_refl _, hm, ho, hs⟩ (fun j σ N hj hv => by
      obtain ⟨row, m', y, rfl, q1, q2, q3, q4, q5, q6⟩ := hv
      have oy : PenOk ((k + (n - (j + 1))) + 1) y := q5.less (by omega)
      obtain ⟨σ', y', row', m2, g1, g2, g3, g4, g5⟩ := lr_step (M := M) (row := row) (σ := σ.set 5 (some (.int (j : Int)))) hp hW hb q4 (by omega) oy (q6.set (by simp))
      refine ⟨σ', _, .inl g1, ?_⟩
      rw [gc_same (by simp)]
      refine ⟨row', m2, y', rfl, ?_, ?_, ?_, g3, g2, g4⟩
      · rcases g5 with ⟨rfl, rfl⟩ | ⟨i, hi, rfl, hz, rfl⟩
        · exact q1
        · exact walkM_snoc hz row 0 m q1
      · rcases g5 with ⟨rfl, rfl⟩ | ⟨i, hi, rfl, hz, rfl⟩
        · exact q2
        · intro w hw
          rcases List.mem_append.mp hw with h | h
          · exact q2 w h
          · rw [List.mem_singleton.mp h]; exact hi
      · rcases g5 with ⟨rfl, rfl⟩ | ⟨i, hi, rfl, hz, rfl⟩
        · omega
        · rw [List.length_append, List.length_singleton]; omega)
  rw [Nat.sub_self, Nat.add_zero] at q5
  have k4 := q6.at (i := 4) (d := .ref M.length) (by simp)
  have k2 := q6.at (i := 2) (d := moT m') (by simp)
  have s2 : sFor (fIt gRange1 (fCons (fVar 3) fNil)) (.name 5) lrFS σ1 (M.set p x ++ [.lst (ixs [])]) = .ok (.nx σ2) (M.set p y ++ [.lst (ixs row)]) := by
    as_aux_lemma =>
      refine for_of h3 ?_
      have h3 : (M.set p x ++ [Cell.lst (ixs [])]).length = M.length + 1 := by simp
      rw [h3]
      exact f2
  have sb : b_law_let_row_b47afa (startA 7 [.ref p, boardT ws c, moT m, .int (n : Int)]) M = .ok (.rt (.tup [rowT row, moT m'])) (M.set p y ++ [.lst (ixs row)]) := by
    as_aux_lemma =>
      rw [law_let_row_body]
      exact (seq_nx s1).trans ((seq_nx s2).trans (ret_ev (tup2_ev ((call1_ev (var_ev k4)).trans (gTuple_ref (last_at (by simp)))) (var_ev k2))))
  have hu : (D.tup [rowT row, moT m']).und M.length = true := by
    have : (rowT row).und M.length = true := by
      simp only [rowT, D.und]
      exact undA_map (fun _ => rfl) row
    simp [D.und, D.undA, this, und_mo]
  exact ⟨row, m', y, (run_rt (n := 7) (k := 4) rfl sb).trans (trim_app (by simp) (wf_set hW q5) hu), q1, q2, q3, q4, q5⟩
end QX

set_option maxRecDepth 100000
set_option maxHeartbeats 1000000
/-! QZ20: whether a board falls, by the law's own elimination: it tells something -/
namespace QX
open PySem PySem.Spec PyProof.Rows L2 HX
theorem comp_pureC {fi : F Ita} {vs : List Nat} {t : Tg} {e : F D} {σ : Sa} {M : Mem} {it : Ita} (f : Im → D) (hi : fi σ M = .ok it M) (hc : ∀ acc, it.chk (M ++ [.lst acc]) = true) (hw : Wf M) (hl : it.items.length ≤ 1000000)
    (he : ∀ im ∈ it.items, (f im).und M.length = true ∧ ∃ σ1, t.put im (wipeA σ vs) = some σ1 ∧ ∀ acc, e σ1 (M ++ [.lst acc]) = .ok (f im) (M ++ [.lst acc])) : fTrim (fCompC fi vs t fYes e) σ M = .ok (.lst (it.items.map f)) M := by
  unfold fTrim fCompC
  rw [hi]
  dsimp only [Res.bind]
  obtain ⟨acc', M', h1, ⟨h2, h3⟩, _⟩ := comp_loop (t := t) (c := fYes) (e := e) (chk := it.chk) (σ := wipeA σ vs) (n := M.length) (fun j acc M2 => acc = (it.items.take j).map f ∧ M2 = M ++ [.lst acc]) it.items 0 [] (M ++ [.lst []]) (by simpa using hl) (fun j acc M2 im hj _ hv => by
    obtain ⟨ha, hM⟩ := hv
    subst hM
    rw [Nat.sub_zero] at hj
    obtain ⟨hu, σ1, hp, hev⟩ := he im (List.mem_of_getElem? hj)
    refine ⟨hc _, σ1, hp, .inr ⟨_, f im, _, rfl, hev _, ?_, ?_, ?_⟩⟩
    · rw [List.getElem?_append_right (Nat.le_refl _), Nat.sub_self]; rfl
    · rw [ha, List.take_add_one, hj, List.map_append]; rfl
    · rw [List.set_append_right _ _ (Nat.le_refl _), Nat.sub_self]; rfl) (fun acc M2 hv => by rw [hv.2]; exact hc _) ⟨by simp, rfl⟩
  subst h3
  rw [h1]
  dsimp only
  rw [Nat.zero_add, List.take_length] at h2
  rw [h2]
  refine trim_ref (g := []) rfl hw ?_
  rw [undA_iff]
  intro d hd
  obtain ⟨im, him, rfl⟩ := List.mem_map.mp hd
  exact (he im him).1
/-- a loop over numbers that may end by a return -/
theorem for_ret {b : FS} {n i : Nat} (Iv : Nat → Sa → Mem → Prop) (R : D → Mem → Prop) (m : Nat) (lo : Int) (step : ∀ j σ M, j < m → Iv j σ M → (∃ σ2 M2, b (σ.set i (some (.int (lo + (j : Int))))) M = .ok (.nx σ2) M2 ∧ Iv (j + 1) (gc n σ2 M2).1 (gc n σ2 M2).2) ∨ ∃ d M2, b (σ.set i (some (.int (lo + (j : Int))))) M = .ok (.rt d) M2 ∧ R d M2) :
    ∀ (k j : Nat) (σ : Sa) (M : Mem), j + k = m → Iv j σ M → (∃ σ' M', forL (.name i) b (fun _ => true) n (nums (lo + (j : Int)) k) σ M = .ok (.nx σ') M' ∧ Iv m σ' M') ∨ ∃ d M', forL (.name i) b (fun _ => true) n (nums (lo + (j : Int)) k) σ M = .ok (.rt d) M' ∧ R d M'
  | 0, j, σ, M, hj, h => .inl ⟨σ, M, by simp [nums, forL], by rw [← hj]; exact h⟩
  | k + 1, j, σ, M, hj, h => by
    have e : lo + (j : Int) + 1 = lo + ((j + 1 : Nat) : Int) := by omega
    rcases step j σ M (by omega) h with ⟨σ2, M2, h1, h2⟩ | ⟨d, M2, h1, h2⟩
    · rcases for_ret Iv R m lo step k (j + 1) _ _ (by omega) h2 with ⟨σ', M', a, b'⟩ | ⟨d, M', a, b'⟩
      · refine .inl ⟨σ', M', ?_, b'⟩
        unfold nums forL
        rw [if_pos rfl, put_name]
        dsimp only
        rw [h1, e]
        exact a
      · refine .inr ⟨d, M', ?_, b'⟩
        unfold nums forL
        rw [if_pos rfl, put_name]
        dsimp only
        rw [h1, e]
        exact a
    · refine .inr ⟨d, M2, ?_, h2⟩
      unfold nums forL
      rw [if_pos rfl, put_name]
      dsimp only
      rw [h1]
/-! ### lists of numbers, in a cell or frozen -/
section
variable {M g : Mem} {d : D} {ds : List D} {p : Nat}
theorem gIx_list {i : Nat} {z : D} (h : listOf M d = some ds) (hi : ds[i]? = some z) : gIx d (.int (i : Int)) M = .ok z M := by
  have e : atI ds (i : Int) = some z := by rw [atI_nn (by omega), Int.toNat_natCast, hi]
  cases d with
  | lst es => cases h; rw [gIx_lst, e]
  | ref n =>
    rw [listOf_ref] at h
    split at h
    · rename_i es hm
      cases h
      rw [gIx_ref hm, e]
    · cases h
  | _ => cases h
theorem seqI_list (h : listOf M d = some ds) : ∃ chk, seqI M d = some (ds, chk) ∧ ∀ g, chk (M ++ g) = true := by
  cases d with
  | lst es => cases h; exact ⟨_, rfl, fun _ => rfl⟩
  | ref n =>
    rw [listOf_ref] at h
    split at h
    · rename_i es hm
      cases h
      refine ⟨chkOf n ds, by unfold seqI; dsimp only; rw [hm], fun g => ?_⟩
      unfold chkOf
      have : (M ++ g)[n]? = some (.lst ds) := by rw [List.getElem?_append_left (List.getElem?_eq_some_iff.mp hm).1]; exact hm
      rw [this]
      exact D.beqA_refl ds
    · cases h
  | _ => cases h
theorem listOf_app (h : listOf M d = some ds) : listOf (M ++ g) d = some ds := by
  cases d with
  | lst es => exact h
  | ref n =>
    rw [listOf_ref] at h ⊢
    split at h
    · rename_i es hm
      have : (M ++ g)[n]? = some (.lst es) := by rw [List.getElem?_append_left (List.getElem?_eq_some_iff.mp hm).1]; exact hm
      rw [this]
      exact h
    · cases h
  | _ => cases h
theorem listOf_set {c : Cell} (h : listOf M d = some ds) (hp : d ≠ .ref p) : listOf (M.set p c) d = some ds := by
  cases d with
  | lst es => exact h
  | ref n =>
    rw [listOf_ref] at h ⊢
    rw [List.getElem?_set_ne (fun z => hp (by rw [z]))]
    exact h
  | _ => cases h
theorem gLen_list (h : listOf M d = some ds) : gLen [d] M = .ok (.int ds.length) M := by
  cases d with
  | lst es => cases h; exact gLen_lst
  | ref n =>
    rw [listOf_ref] at h
    split at h
    · rename_i es hm
      cases h
      exact gLen_ref hm
    · cases h
  | _ => cases h
end
/-! ### rows of a table -/
def bdd (j : Nat) : Nat := 2 ^ (2 ^ (j + 3) - 1)
theorem bdd_succ (j : Nat) : 2 * (bdd j * bdd j) = bdd (j + 1) := by
  unfold bdd
  obtain ⟨a, ha⟩ : ∃ a, 2 ^ (j + 3) = a + 1 := ⟨2 ^ (j + 3) - 1, by have : 1 ≤ 2 ^ (j + 3) := Nat.one_le_two_pow; omega⟩
  have h1 : 2 ^ (j + 1 + 3) = 2 * (a + 1) := by rw [← ha, show j + 1 + 3 = (j + 3) + 1 from rfl, Nat.pow_succ (m := j + 3), Nat.mul_comm]
  rw [h1, ha, show 2 * (a + 1) - 1 = (a + a) + 1 by omega, Nat.add_sub_cancel, Nat.pow_succ (m := a + a), Nat.pow_add, Nat.mul_comm]
theorem bdd_pos (j : Nat) : 1 ≤ bdd j := Nat.one_le_two_pow
theorem bdd_mono (j : Nat) : bdd j ≤ bdd (j + 1) := by
  rw [← bdd_succ]
  have := bdd_pos j
  have : bdd j * 1 ≤ bdd j * bdd j := Nat.mul_le_mul_left _ this
  omega
theorem bdd_top : ∀ j, j < 8 → bdd j < 2 ^ 2048 := by decide +kernel
theorem mulOk_big {i j : Int} (hi : i.natAbs < 2 ^ 2048) (hj : j.natAbs < 2 ^ 2048) : mulOk i j = true := by
  unfold mulOk
  rw [Nat.blt_eq]
  have a := PySem.Flt.log2_lt_of (by decide : 0 < 2048) hi
  have b := PySem.Flt.log2_lt_of (by decide : 0 < 2048) hj
  omega
def RowOk (p : Nat) (M : Mem) (W b : Nat) (r : D) : Prop := r ≠ .ref p ∧ r.und M.length = true ∧ ∃ xs : List Int, listOf M r = some (xs.map D.int) ∧ xs.length = W ∧ ∀ x ∈ xs, x.natAbs ≤ b
theorem RowOk.set {p W b : Nat} {M : Mem} {r : D} {c : Cell} (h : RowOk p M W b r) : RowOk p (M.set p c) W b r := by
  obtain ⟨h1, h2, xs, h3, h4⟩ := h
  exact ⟨h1, by rw [List.length_set]; exact h2, xs, listOf_set h3 h1, h4⟩
theorem RowOk.mono {p W b b' : Nat} {M : Mem} {r : D} (h : RowOk p M W b r) (hb : b ≤ b') : RowOk p M W b' r := by
  obtain ⟨h1, h2, xs, h3, h4, h5⟩ := h
  exact ⟨h1, h2, xs, h3, h4, fun x hx => Nat.le_trans (h5 x hx) hb⟩
/-- the table in the cell p: row i bounded by β i -/
structure TabOk (p W : Nat) (β : Nat → Nat) (A M : Mem) : Prop where
  ex : ∃ rs, M[p]? = some (.lst rs) ∧ rs.length = W ∧ ∀ i r, rs[i]? = some r → RowOk p M W (β i) r
  wf : Wf M
  ap : ∃ g, M = A ++ g
  le : A.length ≤ p
theorem TabOk.put {p W : Nat} {β β' : Nat → Nat} {A M : Mem} {i : Nat} {zs : List Int} (h : TabOk p W β A M) (hi : i < W) (hz : zs.length = W) (hb : ∀ z ∈ zs, z.natAbs ≤ β' i) (hm : ∀ j, j ≠ i → β j ≤ β' j) :
    ∃ M', gSetIx (.ref p) (.int (i : Int)) (.lst (zs.map D.int)) M = some M' ∧ M'.length = M.length ∧ TabOk p W β' A M' := by
  obtain ⟨⟨rs, h1, h2, h3⟩, wf, ⟨g, rfl⟩, le⟩ := h
  have hx : ixN rs.length (i : Int) = some i := ixN_nat (by omega)
  have hl : p < (A ++ g).length := (List.getElem?_eq_some_iff.mp h1).1
  refine ⟨(A ++ g).set p (.lst (rs.set i (.lst (zs.map D.int)))), by simp only [gSetIx, h1, hx], by rw [List.length_set], ⟨_, List.getElem?_set_self hl, by rw [List.length_set]; exact h2, fun j r hj => ?_⟩, wf.set ?_, ⟨g.set (p - A.length) (.lst (rs.set i (.lst (zs.map D.int)))), List.set_append_right _ _ le⟩, le⟩
  · by_cases hij : i = j
    · subst hij
      rw [List.getElem?_set_self (by omega)] at hj
      cases hj
      exact ⟨(fun z => nomatch z), by simp only [D.und]; exact undA_map (fun _ => rfl) zs, zs, rfl, hz, hb⟩
    · rw [List.getElem?_set_ne hij] at hj
      exact ((h3 j r hj).mono (hm j (Ne.symm hij))).set
  · show D.undA _ _ = true
    rw [undA_iff]
    intro d hd
    rcases List.mem_or_eq_of_mem_set hd with z | z
    · obtain ⟨j, hj⟩ := List.mem_iff_getElem?.mp z
      exact (h3 j d hj).2.1
    · rw [z]
      simp only [D.und]
      exact undA_map (fun _ => rfl) zs
theorem TabOk.row {p W : Nat} {β : Nat → Nat} {A M : Mem} {i : Nat} (h : TabOk p W β A M) (hi : i < W) : ∃ (r : D) (xs : List Int), gIx (.ref p) (.int (i : Int)) M = .ok r M ∧ listOf M r = some (xs.map D.int) ∧ xs.length = W ∧ ∀ x ∈ xs, x.natAbs ≤ β i := by
  obtain ⟨⟨rs, h1, h2, h3⟩, wf, _, _⟩ := h
  have hr : rs[i]? = some rs[i] := List.getElem?_eq_getElem (by omega)
  obtain ⟨_, _, xs, a, b, c⟩ := h3 i _ hr
  exact ⟨rs[i], xs, gIx_list (by rw [listOf_ref, h1]) hr, a, b, c⟩
theorem zip_map (F : Int → Int → Int) (f : Im → D) (hf : ∀ a b, f (.pr [.int a, .int b]) = .int (F a b)) : ∀ xs ys : List Int, (zip2 (xs.map D.int) (ys.map D.int)).map f = (List.zipWith F xs ys).map D.int
  | [], ys => by simp [zip2]
  | x :: xs, [] => by simp [zip2]
  | x :: xs, y :: ys => by simp only [List.map_cons, zip2, List.zipWith_cons_cons, hf, zip_map F f hf xs ys]
theorem zip_mem : ∀ (xs ys : List Int) (im : Im), im ∈ zip2 (xs.map D.int) (ys.map D.int) → ∃ a b, im = .pr [.int a, .int b] ∧ a ∈ xs ∧ b ∈ ys
  | [], ys, im, h => by simp [zip2] at h
  | x :: xs, [], im, h => by simp [zip2] at h
  | x :: xs, y :: ys, im, h => by
    simp only [List.map_cons, zip2, List.mem_cons] at h
    rcases h with rfl | h
    · exact ⟨x, y, rfl, by simp, by simp⟩
    · obtain ⟨a, b, e, h1, h2⟩ := zip_mem xs ys im h
      exact ⟨a, b, e, by simp [h1], by simp [h2]⟩
theorem zipWith_mem {F : Int → Int → Int} : ∀ (xs ys : List Int) (z : Int), z ∈ List.zipWith F xs ys → ∃ a b, a ∈ xs ∧ b ∈ ys ∧ z = F a b
  | [], ys, z, h => by simp at h
  | x :: xs, [], z, h => by simp at h
  | x :: xs, y :: ys, z, h => by
    rw [List.zipWith_cons_cons] at h
    rcases List.mem_cons.mp h with rfl | h
    · exact ⟨x, y, by simp, by simp, rfl⟩
    · obtain ⟨a, b, h1, h2, h3⟩ := zipWith_mem xs ys z h
      exact ⟨a, b, by simp [h1], by simp [h2], h3⟩
theorem elim_bd {B : Nat} {a b own by' last : Int} (ha : a.natAbs ≤ B) (hb : b.natAbs ≤ B) (ho : own.natAbs ≤ B) (hy : by'.natAbs ≤ B) : ((b * own - a * by') / last).natAbs ≤ 2 * (B * B) := by
  refine Nat.le_trans (Int.natAbs_ediv_le_natAbs _ _) ?_
  refine Nat.le_trans (Int.natAbs_sub_le _ _) ?_
  rw [Int.natAbs_mul, Int.natAbs_mul]
  have := Nat.mul_le_mul hb ho
  have := Nat.mul_le_mul ha hy
  omega
def fl2 : FS := (sSeq (sSet 6 (fBin gIx (fBin gIx (fVar 1) (fVar 5)) (fVar 3)))
  (sSetIx (fVar 1) (fVar 5) (fTrim (fCompC (fIt gZip2 (fCons (fBin gIx (fVar 1) (fVar 3)) (fCons (fBin gIx (fVar 1) (fVar 5)) fNil))) [7, 8] (.tup [7, 8]) fYes (fBin gFdiv (fBin gSub (fBin gMul (fVar 8) (fVar 4)) (fBin gMul (fVar 7) (fVar 6))) (fVar 2))))))
theorem fl2_eq {p W j at' l : Nat} {β : Nat → Nat} {A M : Mem} {σ : Sa} {own last : Int} (hj : j < 7) (h : TabOk p W β A M) (ha : at' < W) (hl : l < W) (b1 : β at' ≤ bdd j) (b2 : β l ≤ bdd j) (ho : own.natAbs ≤ bdd j) (hlast : 0 < last) (hlb : last.natAbs ≤ bdd j) (hW : W ≤ 1000)
    (hs : Has σ 9 [(5, .int (l : Int)), (1, .ref p), (2, .int last), (3, .int (at' : Int)), (4, .int own)]) :
    ∃ σ' M', fl2 σ M = .ok (.nx σ') M' ∧ M'.length = M.length ∧ TabOk p W (fun i => if i = l then bdd (j + 1) else β i) A M' ∧ Has σ' 9 [(1, .ref p), (2, .int last), (3, .int (at' : Int)), (4, .int own)] := by
  obtain ⟨r1, xs, e1, q1, n1, c1⟩ := h.row ha
  obtain ⟨r2, ys, e2, q2, n2, c2⟩ := h.row hl
  have k1 := hs.at (i := 1) (d := .ref p) (by simp)
  have k2 := hs.at (i := 2) (d := .int last) (by simp)
  have k3 := hs.at (i := 3) (d := .int (at' : Int)) (by simp)
  have k4 := hs.at (i := 4) (d := .int own) (by simp)
  have k5 := hs.at (i := 5) (d := .int (l : Int)) (by simp)
  have hy : (ys.map D.int)[at']? = some (.int (ys.getD at' 0)) := by
    rw [List.getElem?_map, List.getD_eq_getElem?_getD, List.getElem?_eq_getElem (by omega)]; rfl
  have by_bd : (ys.getD at' 0).natAbs ≤ bdd j := by
    rw [List.getD_eq_getElem?_getD, List.getElem?_eq_getElem (by omega)]
    exact Nat.le_trans (c2 _ (List.getElem_mem _)) b2
  have s1 : sSet 6 (fBin gIx (fBin gIx (fVar 1) (fVar 5)) (fVar 3)) σ M = .ok (.nx (σ.set 6 (some (.int (ys.getD at' 0))))) M := by
    as_aux_lemma => exact set_ev ((bin_ev ((bin_ev (var_ev k1) (var_ev k5)).trans e2) (var_ev k3)).trans (gIx_list q2 hy))
  have hs1 : Has (σ.set 6 (some (.int (ys.getD at' 0)))) 9 [(6, .int (ys.getD at' 0)), (5, .int (l : Int)), (1, .ref p), (2, .int last), (3, .int (at' : Int)), (4, .int own)] := hs.put (by decide) (by simp)
  generalize hby : ys.getD at' 0 = by' at s1 hs1 by_bd hy
  generalize σ.set 6 (some (D.int by')) = σ1 at s1 hs1
  obtain ⟨ch1, g1, g1'⟩ := seqI_list q1
  obtain ⟨ch2, g2, g2'⟩ := seqI_list q2
  have j1 := hs1.at (i := 1) (d := .ref p) (by simp)
  have j2 := hs1.at (i := 2) (d := .int last) (by simp)
  have j3 := hs1.at (i := 3) (d := .int (at' : Int)) (by simp)
  have j4 := hs1.at (i := 4) (d := .int own) (by simp)
  have j5 := hs1.at (i := 5) (d := .int (l : Int)) (by simp)
  have j6 := hs1.at (i := 6) (d := .int by') (by simp)
  have hi : fIt gZip2 (fCons (fBin gIx (fVar 1) (fVar 3)) (fCons (fBin gIx (fVar 1) (fVar 5)) fNil)) σ1 M = .ok ⟨zip2 (xs.map D.int) (ys.map D.int), fun M => ch1 M && ch2 M⟩ M := by
    as_aux_lemma =>
      rw [ev_it, ev_cons, (bin_ev (var_ev j1) (var_ev j3)).trans e1, bind_ok, ev_cons, (bin_ev (var_ev j1) (var_ev j5)).trans e2, bind_ok, ev_nil, bind_ok, bind_ok, bind_ok]
      simp only [gZip2, g1, g2]
  let F : Int → Int → Int := fun a b => (b * own - a * by') / last
  have hzl : (zip2 (xs.map D.int) (ys.map D.int)).length ≤ 1000000 := by
    have := zip_len (xs.map D.int) (ys.map D.int)
    rw [List.length_map] at this
    omega
  have hbig : ∀ z : Int, z.natAbs ≤ bdd j → z.natAbs < 2 ^ 2048 := fun z hz => Nat.lt_of_le_of_lt hz (bdd_top j (by omega))
  have e3 := comp_pureC (fi := fIt gZip2 (fCons (fBin gIx (fVar 1) (fVar 3)) (fCons (fBin gIx (fVar 1) (fVar 5)) fNil))) (vs := [7, 8]) (t := .tup [7, 8]) (e := (fBin gFdiv (fBin gSub (fBin gMul (fVar 8) (fVar 4)) (fBin gMul (fVar 7) (fVar 6))) (fVar 2))) (σ := σ1) (M := M) (fun im => match im with | .pr [.int a, .int b] => .int (F a b) | _ => .non) hi (fun acc => by show (ch1 _ && ch2 _) = true; rw [g1', g2']; rfl) h.wf hzl (fun im him => by
    obtain ⟨a, b, rfl, ha', hb'⟩ := zip_mem xs ys im him
    have ba := Nat.le_trans (c1 a ha') b1
    have bb := Nat.le_trans (c2 b hb') b2
    refine ⟨rfl, (setAll (wipeA σ1 [7, 8]) [7, 8] [.int a, .int b]), rfl, fun acc => ?_⟩
    have hw : Has (setAll (wipeA σ1 [7, 8]) [7, 8] [.int a, .int b]) 9 [(8, .int b), (7, .int a), (2, .int last), (4, .int own), (6, .int by')] := by
      have q : Has (wipeA σ1 [7, 8]) 9 [(2, .int last), (4, .int own), (6, .int by')] := ((hs1.sub (l' := [(2, .int last), (4, .int own), (6, .int by')]) (by simp)).set (i := 8) (o := none) (by simp)).set (i := 7) (o := none) (by simp)
      exact (q.put (i := 7) (d := .int a) (by decide) (by simp)).put (i := 8) (d := .int b) (by decide) (by simp)
    generalize setAll (wipeA σ1 [7, 8]) [7, 8] [.int a, .int b] = σ2 at hw
    have m1 : ∀ M : Mem, fBin gMul (fVar 8) (fVar 4) σ2 M = .ok (.int (b * own)) M := fun M => (bin_ev (var_ev (hw.at (by simp))) (var_ev (hw.at (by simp)))).trans ((gMul_int).trans (if_pos (mulOk_big (hbig _ bb) (hbig _ ho))))
    have m2 : ∀ M : Mem, fBin gMul (fVar 7) (fVar 6) σ2 M = .ok (.int (a * by')) M := fun M => (bin_ev (var_ev (hw.at (by simp))) (var_ev (hw.at (by simp)))).trans ((gMul_int).trans (if_pos (mulOk_big (hbig _ ba) (hbig _ by_bd))))
    refine (bin_ev ((bin_ev (m1 _) (m2 _)).trans gSub_int) (var_ev (hw.at (i := 2) (d := .int last) (by simp)))).trans ?_
    rw [gFdiv_int]
    refine if_pos ?_
    rw [Bool.and_eq_true, decide_eq_true_eq, Nat.blt_eq]
    exact ⟨hlast, Nat.lt_of_lt_of_le (PySem.Flt.log2_lt_of (by decide : 0 < 2048) (hbig _ hlb)) (by decide)⟩)
  rw [zip_map F _ (fun a b => rfl)] at e3
  have zl : (List.zipWith F xs ys).length = W := by rw [List.length_zipWith, n1, n2]; omega
  obtain ⟨M', p1, p2, p3⟩ := h.put (β' := fun i => if i = l then bdd (j + 1) else β i) hl zl (fun z hz => by
    obtain ⟨a, b, ha', hb', rfl⟩ := zipWith_mem xs ys z hz
    rw [if_pos rfl, ← bdd_succ]
    exact elim_bd (Nat.le_trans (c1 a ha') b1) (Nat.le_trans (c2 b hb') b2) ho by_bd) (fun i hi => by rw [if_neg hi]; exact Nat.le_refl _)
  refine ⟨σ1, M', ?_, p2, p3, hs1.sub (by simp)⟩
  refine (seq_nx s1).trans ?_
  rw [ev_setIx, e3, bindS_ok, var_ev j1, bindS_ok, var_ev j5, bindS_ok, p1]
end QX
namespace QX
open PySem PySem.Spec PyProof.Rows L2 HX
def fl1 : FS := (sSeq (sSet 4 (fBin gIx (fBin gIx (fVar 1) (fVar 3)) (fVar 3)))
  (sSeq (sIf (fTest (fBin (gCmp cLe) (fVar 4) (fC (.int 0))))
  (sRet (fC (.bl false)))
  sNext)
  (sSeq (sFor (fIt gRange2 (fCons (fBin gAdd (fVar 3) (fC (.int 1))) (fCons (fCall gLen (fCons (fVar 1) fNil)) fNil))) (.name 5) fl2)
  (sSet 2 (fVar 4)))))
theorem falls_body : b_law_falls_be901f = (sSeq (sAsg (fTup (fCons (fCall m_law_table_77c86a (fCons (fVar 0) fNil)) (fCons (fC (.int 1)) fNil))) (.tup [1, 2]))
  (sSeq (sFor (fIt gRange1 (fCons (fCall gLen (fCons (fVar 1) fNil)) fNil)) (.name 3) fl1)
  (sRet (fC (.bl true))))) := rfl
theorem range2_ev {fa fb : F D} {σ : Sa} {M M1 M2 : Mem} {i j : Int} (ha : fa σ M = .ok (.int i) M1) (hb : fb σ M1 = .ok (.int j) M2) (h0 : -1000 ≤ i) (h1 : i ≤ 1000) (h2 : -1000 ≤ j) (h3 : j ≤ 1000) : fIt gRange2 (fCons fa (fCons fb fNil)) σ M = .ok ⟨nums i (j - i).toNat, fun _ => true⟩ M2 := by
  rw [ev_it, ev_cons, ha, bind_ok, ev_cons, hb, bind_ok, ev_nil, bind_ok, bind_ok, bind_ok, gRange2_int]
  exact if_pos (by rw [mid_small h0 h1, mid_small h2 h3]; rfl)
theorem TabOk.len {p W : Nat} {β : Nat → Nat} {A M : Mem} (h : TabOk p W β A M) : gLen [.ref p] M = .ok (.int W) M := by
  obtain ⟨⟨rs, h1, h2, h3⟩, _⟩ := h
  rw [gLen_ref h1, h2]
theorem TabOk.mono {p W : Nat} {β β' : Nat → Nat} {A M : Mem} (h : TabOk p W β A M) (hb : ∀ i, β i ≤ β' i) : TabOk p W β' A M := by
  obtain ⟨⟨rs, h1, h2, h3⟩, a, b, c⟩ := h
  exact ⟨⟨rs, h1, h2, fun i r hi => (h3 i r hi).mono (hb i)⟩, a, b, c⟩
theorem fl1_eq {p W j : Nat} {A M : Mem} {σ : Sa} {last : Int} (hj : j < W) (hW : W ≤ 6) (h : TabOk p W (fun _ => bdd j) A M) (hlast : 0 < last) (hlb : last.natAbs ≤ bdd j)
    (hs : Has σ 9 [(3, .int (j : Int)), (1, .ref p), (2, .int last)]) :
    (∃ σ' M' last', fl1 σ M = .ok (.nx σ') M' ∧ M'.length = M.length ∧ TabOk p W (fun _ => bdd (j + 1)) A M' ∧ 0 < last' ∧ last'.natAbs ≤ bdd (j + 1) ∧ Has σ' 9 [(1, .ref p), (2, .int last')]) ∨ fl1 σ M = .ok (.rt (.bl false)) M := by
  obtain ⟨r1, xs, e1, q1, n1, c1⟩ := h.row hj
  have k1 := hs.at (i := 1) (d := .ref p) (by simp)
  have k3 := hs.at (i := 3) (d := .int (j : Int)) (by simp)
  have hx : (xs.map D.int)[j]? = some (.int (xs.getD j 0)) := by
    rw [List.getElem?_map, List.getD_eq_getElem?_getD, List.getElem?_eq_getElem (by omega)]; rfl
  have own_bd : (xs.getD j 0).natAbs ≤ bdd j := by
    rw [List.getD_eq_getElem?_getD, List.getElem?_eq_getElem (by omega)]
    exact c1 _ (List.getElem_mem _)
  generalize xs.getD j 0 = own at hx own_bd
  have s1 : sSet 4 (fBin gIx (fBin gIx (fVar 1) (fVar 3)) (fVar 3)) σ M = .ok (.nx (σ.set 4 (some (.int own)))) M := by
    as_aux_lemma => exact set_ev ((bin_ev ((bin_ev (var_ev k1) (var_ev k3)).trans e1) (var_ev k3)).trans (gIx_list q1 hx))
  have hs1 : Has (σ.set 4 (some (.int own))) 9 [(4, .int own), (3, .int (j : Int)), (1, .ref p), (2, .int last)] := hs.put (by decide) (by simp)
  generalize σ.set 4 (some (D.int own)) = σ1 at s1 hs1
  have ht : fTest (fBin (gCmp cLe) (fVar 4) (fC (.int 0))) σ1 M = .ok (decide (own ≤ 0)) M := test_ev ((bin_ev (b := .int 0) (var_ev (hs1.at (i := 4) (d := .int own) (by simp))) rfl).trans gCmp_int)
  by_cases ho : own ≤ 0
  · refine .inr ((seq_nx s1).trans (seq_rt ((sif_ev ht).trans ?_)))
    rw [decide_eq_true ho]
    rfl
  · left
    have s2 : sIf (fTest (fBin (gCmp cLe) (fVar 4) (fC (.int 0)))) (sRet (fC (.bl false))) sNext σ1 M = .ok (.nx σ1) M := by
      rw [sif_ev ht, decide_eq_false ho]
      rfl
    have j1 := hs1.at (i := 1) (d := .ref p) (by simp)
    have j3 := hs1.at (i := 3) (d := .int (j : Int)) (by simp)
    have hr : fIt gRange2 (fCons (fBin gAdd (fVar 3) (fC (.int 1))) (fCons (fCall gLen (fCons (fVar 1) fNil)) fNil)) σ1 M = .ok ⟨nums ((j : Int) + 1) ((W : Int) - ((j : Int) + 1)).toNat, fun _ => true⟩ M :=
      range2_ev ((bin_ev (b := .int 1) (var_ev j3) rfl).trans gAdd_int) ((call1_ev (var_ev j1)).trans h.len) (by omega) (by omega) (by omega) (by omega)
    have hm : ((W : Int) - ((j : Int) + 1)).toNat = W - (j + 1) := by omega
    rw [hm] at hr
    have loop := for_ret (b := fl2) (n := M.length) (i := 5) (fun i σ N => N.length = M.length ∧ TabOk p W (fun q => if q ≤ j + i ∧ j < q then bdd (j + 1) else bdd j) A N ∧ Has σ 9 [(1, .ref p), (2, .int last), (3, .int (j : Int)), (4, .int own)]) (fun _ _ => False) (W - (j + 1)) ((j : Int) + 1) (fun i σ N hi hv => by
      obtain ⟨hl, ht, hs⟩ := hv
      have e : (j : Int) + 1 + (i : Int) = ((j + 1 + i : Nat) : Int) := by omega
      rw [e]
      have hs' : Has (σ.set 5 (some (.int ((j + 1 + i : Nat) : Int)))) 9 [(5, .int ((j + 1 + i : Nat) : Int)), (1, .ref p), (2, .int last), (3, .int (j : Int)), (4, .int own)] := hs.put (by decide) (by simp)
      obtain ⟨σ', M', g1, g2, g3, g4⟩ := fl2_eq (j := j) (at' := j) (l := j + 1 + i) (by omega) ht (by omega) (by omega) (by rw [if_neg (by omega)]; exact Nat.le_refl _) (by rw [if_neg (by omega)]; exact Nat.le_refl _) own_bd hlast hlb (by omega) hs'
      refine .inl ⟨σ', M', g1, ?_⟩
      rw [gc_same (g2.trans hl)]
      refine ⟨g2.trans hl, g3.mono (fun q => ?_), g4⟩
      have := bdd_mono j
      by_cases hq : q = j + 1 + i
      · rw [if_pos hq, if_pos (by omega)]; exact Nat.le_refl _
      · rw [if_neg hq]
        by_cases h2 : q ≤ j + i ∧ j < q
        · rw [if_pos h2, if_pos (by omega)]; exact Nat.le_refl _
        · rw [if_neg h2]
          split
          · exact this
          · exact Nat.le_refl _) (W - (j + 1)) 0 σ1 M (by omega) ⟨rfl, h.mono (fun q => by
            have := bdd_mono j
            split
            · exact this
            · exact Nat.le_refl _), hs1.sub (by simp)⟩
    rcases loop with ⟨σ2, M2, f2, hl2, ht2, hs2⟩ | ⟨_, _, _, f⟩
    · have e0 : (j : Int) + 1 + ((0 : Nat) : Int) = (j : Int) + 1 := by omega
      rw [e0] at f2
      have s3 := for_of hr f2
      have s4 : sSet 2 (fVar 4) σ2 M2 = .ok (.nx (σ2.set 2 (some (.int own)))) M2 := set_ev (var_ev (hs2.at (i := 4) (d := .int own) (by simp)))
      refine ⟨_, M2, own, (seq_nx s1).trans ((seq_nx s2).trans ((seq_nx s3).trans s4)), hl2, ht2.mono (fun q => ?_), by omega, Nat.le_trans own_bd (bdd_mono j), ((hs2.sub (l' := [(1, .ref p)]) (by simp)).put (i := 2) (by decide) (by simp)).sub (by simp [or_comm])⟩
      have := bdd_mono j
      split
      · exact Nat.le_refl _
      · exact this
    · exact f.elim
/-- where the table is one, it tells -/
theorem falls_of {ws : List (List (List Int))} {c : Int} {M Mt : Mem} (hw : Wf M) (h1 : 1 ≤ ws.length) (h6 : ws.length ≤ 6) (ht : m_law_table_77c86a [boardT ws c] M = .ok (.ref M.length) Mt) (hk : TabOk M.length ws.length (fun _ => bdd 0) M Mt) : ∃ b, m_law_falls_be901f [boardT ws c] M = .ok (.bl b) M := by
  have s1 : sAsg (fTup (fCons (fCall m_law_table_77c86a (fCons (fVar 0) fNil)) (fCons (fC (.int 1)) fNil))) (.tup [1, 2]) (startA 9 [boardT ws c]) M = .ok (.nx [some (boardT ws c), some (.ref M.length), some (.int 1), none, none, none, none, none, none]) Mt := by
    as_aux_lemma =>
      have hf2 : few 2 = true := by decide
      refine asg_ev (d := .tup [.ref M.length, .int 1]) ?_ rfl
      rw [ev_tup, ev_cons, (call1_ev (var_ev (d := boardT ws c) rfl)).trans ht, bind_ok, ev_cons, ev_c, bind_ok, ev_nil, bind_ok, bind_ok, bind_ok]
      exact if_pos hf2
  have hs : Has [some (boardT ws c), some (.ref M.length), some (.int 1), none, none, none, none, none, none] 9 [(1, .ref M.length), (2, .int 1)] := by
    refine ⟨rfl, fun q hq => ?_⟩
    simp only [List.mem_cons, List.mem_nil_iff, or_false] at hq
    rcases hq with rfl | rfl <;> rfl
  generalize [some (boardT ws c), some (.ref M.length), some (.int 1), none, none, none, none, none, none] = σ1 at s1 hs
  have hr : fIt gRange1 (fCons (fCall gLen (fCons (fVar 1) fNil)) fNil) σ1 Mt = .ok ⟨nums 0 ws.length, fun _ => true⟩ Mt := range1_ev ((call1_ev (var_ev (hs.at (i := 1) (d := .ref M.length) (by simp)))).trans hk.len) (by omega) (by omega) (by omega)
  have loop := for_ret (b := fl1) (n := Mt.length) (i := 3) (fun i σ N => ∃ last, N.length = Mt.length ∧ TabOk M.length ws.length (fun _ => bdd i) M N ∧ 0 < last ∧ last.natAbs ≤ bdd i ∧ Has σ 9 [(1, .ref M.length), (2, .int last)]) (fun d N => d = .bl false ∧ ∃ g, N = M ++ g) ws.length 0 (fun i σ N hi hv => by
    obtain ⟨last, hl, ht, hp, hb, hs⟩ := hv
    rw [Int.zero_add]
    have hs' : Has (σ.set 3 (some (.int (i : Int)))) 9 [(3, .int (i : Int)), (1, .ref M.length), (2, .int last)] := hs.put (by decide) (by simp)
    rcases fl1_eq hi h6 ht hp hb hs' with ⟨σ', M', last', g1, g2, g3, g4, g5, g6⟩ | g1
    · refine .inl ⟨σ', M', g1, last', ?_⟩
      rw [gc_same (g2.trans hl)]
      exact ⟨g2.trans hl, g3, g4, g5, g6⟩
    · exact .inr ⟨_, _, g1, rfl, ht.ap⟩) ws.length 0 σ1 Mt (by omega) ⟨1, rfl, hk, by decide, bdd_pos 0, hs⟩
  have e0 : (0 : Int) + ((0 : Nat) : Int) = 0 := rfl
  rw [e0] at loop
  rcases loop with ⟨σ2, M2, f2, last, _, ht2, _⟩ | ⟨d, M2, f2, rfl, g, rfl⟩
  · obtain ⟨g, rfl⟩ := ht2.ap
    have sb : b_law_falls_be901f (startA 9 [boardT ws c]) M = .ok (.rt (.bl true)) (M ++ g) := by
      rw [falls_body]
      exact (seq_nx s1).trans ((seq_nx (for_of hr f2)).trans (ret_ev rfl))
    exact ⟨true, (run_rt (n := 9) (k := 1) rfl sb).trans (trim_app rfl hw rfl)⟩
  · have sb : b_law_falls_be901f (startA 9 [boardT ws c]) M = .ok (.rt (.bl false)) (M ++ g) := by
      rw [falls_body]
      exact (seq_nx s1).trans (seq_rt (for_of hr f2))
    exact ⟨false, (run_rt (n := 9) (k := 1) rfl sb).trans (trim_app rfl hw rfl)⟩
end QX

set_option maxRecDepth 100000
set_option maxHeartbeats 1000000
/-! QZ21: the law's own table of a board -/
namespace QX
open PySem PySem.Spec PyProof.Rows L2 HX
theorem for_enum {b : FS} {n a c : Nat} {σ : Sa} {M : Mem} {ds : List D} (Iv : Nat → Sa → Mem → Prop) (h0 : Iv 0 σ M) (step : ∀ j σ M d, ds[j]? = some d → Iv j σ M → ∃ σ2 M2, (b (setAll σ [a, c] [.int (j : Int), d]) M = .ok (.nx σ2) M2 ∨ b (setAll σ [a, c] [.int (j : Int), d]) M = .ok (.ct σ2) M2) ∧ Iv (j + 1) (gc n σ2 M2).1 (gc n σ2 M2).2) :
    ∃ σ' M', forL (.tup [a, c]) b (fun _ => true) n (enumI 0 ds) σ M = .ok (.nx σ') M' ∧ Iv ds.length σ' M' := by
  obtain ⟨σ', M', h1, h2⟩ := for_loop (t := .tup [a, c]) (b := b) (chk := fun _ => true) (n := n) Iv (enumI 0 ds) 0 σ M (fun j σ M im hj _ hv => by
    rw [Nat.sub_zero] at hj
    have hlt : j < ds.length := by
      have := (List.getElem?_eq_some_iff.mp hj).1
      rw [enum_len] at this
      exact this
    have hd : ds[j]? = some ds[j] := List.getElem?_eq_getElem hlt
    rw [enum_at ds 0 j _ hd] at hj
    cases hj
    obtain ⟨σ2, M2, h1, h2⟩ := step j σ M _ hd hv
    refine ⟨rfl, setAll σ [a, c] [.int (j : Int), ds[j]], by rw [put_pr, Int.zero_add]; rfl, σ2, M2, h1, h2⟩) (fun _ _ _ => rfl) h0
  rw [Nat.zero_add, enum_len] at h2
  exact ⟨σ', M', h1, h2⟩
theorem forT_of {fi : F Ita} {t : Tg} {b : FS} {σ : Sa} {M : Mem} {items : List Im} {M1 : Mem} {r : RS} (h : fi σ M = .ok ⟨items, fun _ => true⟩ M1) (hf : forL t b (fun _ => true) M1.length items σ M1 = r) : sFor fi t b σ M = r := by
  rw [ev_for, h]
  exact hf
theorem enum_ev {fa : F D} {σ : Sa} {M M1 : Mem} {ds : List D} (h : fa σ M = .ok (.tup ds) M1) : fIt gEnum (fCons fa fNil) σ M = .ok ⟨enumI 0 ds, fun _ => true⟩ M1 := by
  rw [ev_it, ev_cons, h, bind_ok, ev_nil, bind_ok, bind_ok]
  rfl
/-! ### all ends of a wheel -/
theorem ext_last {A : Mem} {ds es : List D} {n : Nat} (h : A.length = n) (hl : ds.length + es.length ≤ 10000) : gExtend (.ref n) [.lst es] (A ++ [.lst ds]) = .ok .non (A ++ [.lst (ds ++ es)]) := by
  have hf : few (ds.length + es.length) = true := ok_few (by rw [sizeLine_eq]; omega)
  simp only [gExtend, last_at h, listOf_lst, hf, if_true]
  rw [List.set_append_right _ _ (by omega), h, Nat.sub_self]
  rfl
theorem m_law_ends_eq {M : Mem} {n : Int} {w : List (List Int)} (hw : Wf M) (h : WheelOk n w) : m_law_ends_55b70f [wheelT w] M = .ok (.lst (w.flatten.map D.int)) M := by
  have h3 : ∀ s ∈ w, s.length ≤ 3 := fun s hs => (h.2.2 s hs).1
  have hfl : ∀ u : List (List Int), (∀ s ∈ u, s.length ≤ 3) → u.flatten.length ≤ 3 * u.length := by
    intro u
    induction u with
    | nil => intro _; simp
    | cons s u ih =>
      intro hu
      have := ih fun s hs => hu s (List.mem_cons_of_mem _ hs)
      have := hu s List.mem_cons_self
      rw [List.flatten_cons, List.length_append, List.length_cons]
      omega
  have hf0 : few 0 = true := by decide
  have s1 : sSet 1 (fNew fNil) (startA 3 [wheelT w]) M = .ok (.nx [some (wheelT w), some (.ref M.length), none]) (M ++ [.lst []]) := by
    as_aux_lemma =>
      refine set_ev ?_
      rw [ev_new, ev_nil, bind_ok]
      exact if_pos hf0
  have hs : Has [some (wheelT w), some (.ref M.length), none] 3 [(1, .ref M.length)] := by
    refine ⟨rfl, fun q hq => ?_⟩
    simp only [List.mem_cons, List.mem_nil_iff, or_false] at hq
    rcases hq with rfl; rfl
  obtain ⟨σ', M', f1, rfl, f3⟩ := for_items (b := sExpr (fMeth gExtend (fVar 1) (fCons (fCall gList (fCons (fVar 2) fNil)) fNil))) (n := M.length + 1) (i := 2) (σ := [some (wheelT w), some (.ref M.length), none]) (M := M ++ [.lst []]) (ds := w.map stepT) (fun j σ N => N = M ++ [.lst ((w.take j).flatten.map D.int)] ∧ Has σ 3 [(1, .ref M.length)]) ⟨by simp, hs⟩ (fun j σ N d hd hv => by
    obtain ⟨rfl, hs⟩ := hv
    rw [List.getElem?_map] at hd
    cases q : w[j]? with
    | none => rw [q] at hd; cases hd
    | some s =>
      rw [q] at hd
      cases hd
      have hs' : Has (σ.set 2 (some (stepT s))) 3 [(2, stepT s), (1, .ref M.length)] := hs.put (by decide) (by simp)
      generalize σ.set 2 (some (stepT s)) = σ1 at hs'
      have e1 : w.take (j + 1) = w.take j ++ [s] := by rw [List.take_add_one, q]; rfl
      have e2 : (w.take (j + 1)).flatten.map D.int = (w.take j).flatten.map D.int ++ s.map D.int := by rw [e1]; simp
      refine ⟨σ1, M ++ [.lst ((w.take (j + 1)).flatten.map D.int)], .inl ?_, ?_⟩
      · refine expr_ev (d := .non) ?_
        have il : isL (M ++ [.lst ((w.take j).flatten.map D.int)]) (.ref M.length) = true := isL_last rfl
        rw [ev_meth, var_ev (hs'.at (i := 1) (d := .ref M.length) (by simp)), bind_ok, il, if_pos rfl, ev_cons, (call1_ev (var_ev (hs'.at (i := 2) (d := stepT s) (by simp)))).trans (show gList [stepT s] _ = .ok (.lst (s.map D.int)) _ from rfl), bind_ok, ev_nil, bind_ok, bind_ok, e2]
        refine ext_last rfl ?_
        have a1 := hfl (w.take j) fun s hs => h3 s (List.mem_of_mem_take hs)
        have a2 := h3 s (List.mem_of_getElem? q)
        have a3 := h.2.1
        rw [List.length_take] at a1
        rw [List.length_map, List.length_map]
        omega
      · rw [gc_same (by simp)]
        exact ⟨rfl, hs'.sub (by simp)⟩)
  rw [List.length_map, List.take_length] at f1
  have s2 : sFor (fIter (fVar 0)) (.name 2) (sExpr (fMeth gExtend (fVar 1) (fCons (fCall gList (fCons (fVar 2) fNil)) fNil))) [some (wheelT w), some (.ref M.length), none] (M ++ [.lst []]) = .ok (.nx σ') (M ++ [.lst (w.flatten.map D.int)]) := by
    refine for_of (M1 := M ++ [.lst []]) (items := (w.map stepT).map .d) (by rw [ev_iter, var_ev (d := wheelT w) rfl]; rfl) ?_
    rw [List.length_append]
    exact f1
  have sb : b_law_ends_55b70f (startA 3 [wheelT w]) M = .ok (.rt (.ref M.length)) (M ++ [.lst (w.flatten.map D.int)]) := (seq_nx s1).trans ((seq_nx s2).trans (ret_ev (var_ev (f3.at (by simp)))))
  refine (run_rt (n := 3) (k := 1) rfl sb).trans (trim_ref (g := []) rfl hw ?_)
  exact undA_map (fun _ => rfl) _
/-! ### a line of the table -/
theorem gc_open {n : Nat} {σ : Sa} {M : Mem} (h : closed n M = false) : gc n σ M = (σ, M) := by
  unfold gc
  rw [h]
  simp
theorem cellIx {A : Mem} {xs : List Int} {e : Nat} (he : e < xs.length) : gIx (.ref A.length) (.int (e : Int)) (A ++ [.lst (xs.map D.int)]) = .ok (.int (xs.getD e 0)) (A ++ [.lst (xs.map D.int)]) := ixCell (last_at rfl) he
theorem cellSet {A : Mem} {xs ys : List Int} : (A ++ [Cell.lst (xs.map D.int)]).set A.length (.lst (ys.map D.int)) = A ++ [.lst (ys.map D.int)] := by
  rw [List.set_append_right _ _ (Nat.le_refl _), Nat.sub_self]; rfl
def LineOk (W b : Nat) (c : Cell) : Prop := ∃ xs : List Int, c = .lst (xs.map D.int) ∧ xs.length = W ∧ ∀ x ∈ xs, x.natAbs ≤ b
theorem less_loop {W : Nat} {A : Mem} {σ : Sa} {xs es : List Int} {l : List (Nat × D)} (hs : Has σ 7 l) (h5 : (5, D.ref A.length) ∈ l) (h6 : ∀ q ∈ l, q.1 ≠ 6) (hx : xs.length = W) (hb : ∀ x ∈ xs, x.natAbs ≤ 4) (he : ∀ e ∈ es, 0 ≤ e ∧ e < (W : Int)) (hl : es.length ≤ 12) :
    ∃ (σ' : Sa) (ys : List Int), forL (.name 6) (sSetIx (fVar 5) (fVar 6) (fBin gSub (fBin gIx (fVar 5) (fVar 6)) (fC (.int 1)))) (fun _ => true) (A.length + 1) ((es.map D.int).map .d) σ (A ++ [.lst (xs.map D.int)]) = .ok (.nx σ') (A ++ [.lst (ys.map D.int)]) ∧ ys.length = W ∧ (∀ y ∈ ys, y.natAbs ≤ 16) ∧ Has σ' 7 l := by
  obtain ⟨σ', M', f1, ⟨ys, rfl, q1, q2⟩, f3⟩ := for_items (b := sSetIx (fVar 5) (fVar 6) (fBin gSub (fBin gIx (fVar 5) (fVar 6)) (fC (.int 1)))) (n := A.length + 1) (i := 6) (σ := σ) (M := A ++ [.lst (xs.map D.int)]) (ds := es.map D.int) (fun j σ N => (∃ ys : List Int, N = A ++ [.lst (ys.map D.int)] ∧ ys.length = W ∧ ∀ y ∈ ys, y.natAbs ≤ 4 + j) ∧ Has σ 7 l) ⟨⟨xs, rfl, hx, hb⟩, hs⟩ (fun j σ N d hd hv => by
    obtain ⟨⟨ys, rfl, q1, q2⟩, hs⟩ := hv
    rw [List.getElem?_map] at hd
    cases q : es[j]? with
    | none => rw [q] at hd; cases hd
    | some e =>
      rw [q] at hd
      cases hd
      obtain ⟨e0, e1⟩ := he e (List.mem_of_getElem? q)
      obtain ⟨k, rfl⟩ := Int.eq_ofNat_of_zero_le e0
      have hk : k < ys.length := by omega
      have hs' : Has (σ.set 6 (some (.int (k : Int)))) 7 ((6, .int (k : Int)) :: l) := hs.put (by decide) h6
      generalize σ.set 6 (some (D.int (k : Int))) = σ1 at hs'
      have k5 := hs'.at (List.mem_cons_of_mem _ h5)
      have k6 := hs'.at (i := 6) (d := .int (k : Int)) (by simp)
      have ev : fBin gSub (fBin gIx (fVar 5) (fVar 6)) (fC (.int 1)) σ1 (A ++ [.lst (ys.map D.int)]) = .ok (.int (ys.getD k 0 - 1)) (A ++ [.lst (ys.map D.int)]) := (bin_ev (b := .int 1) ((bin_ev (var_ev k5) (var_ev k6)).trans (cellIx hk)) rfl).trans gSub_int
      refine ⟨σ1, A ++ [.lst ((ys.set k (ys.getD k 0 - 1)).map D.int)], .inl ?_, ?_⟩
      · refine (setIx_ev ev (var_ev k5) (var_ev k6) (last_at rfl) hk).trans ?_
        rw [cellSet]
      · rw [gc_same (by simp)]
        refine ⟨⟨_, rfl, by rw [List.length_set]; exact q1, fun y hy => ?_⟩, hs'.sub fun q hq => List.mem_cons_of_mem _ hq⟩
        rcases List.mem_or_eq_of_mem_set hy with z | z
        · have := q2 y z
          omega
        · have : (ys.getD k 0).natAbs ≤ 4 + j := by
            rw [List.getD_eq_getElem?_getD, List.getElem?_eq_getElem hk]
            exact q2 _ (List.getElem_mem _)
          rw [z]
          omega)
  rw [List.length_map] at q2
  exact ⟨σ', ys, f1, q1, fun y hy => by have := q2 y hy; omega, f3⟩
def tb1 : FS := (sSeq (sSet 5 (fBin gMulC (fLst (fCons (fC (.int 0)) fNil)) (fCall gLen (fCons (fVar 1) fNil))))
  (sSeq (sSetIx (fVar 5) (fVar 3) (fCall gLen (fCons (fVar 4) fNil)))
  (sSeq (sFor (fIter (fTrim (fCompC (fIter (fCall m_law_ends_55b70f (fCons (fVar 4) fNil))) [6] (.name 6) (fTest (fBin (gCmp cLt) (fVar 6) (fCall gLen (fCons (fVar 1) fNil)))) (fVar 6)))) (.name 6)
  (sSetIx (fVar 5) (fVar 6) (fBin gSub (fBin gIx (fVar 5) (fVar 6)) (fC (.int 1)))))
  (sExpr (fMeth gAppend (fVar 2) (fCons (fVar 5) fNil))))))
theorem table_body : b_law_table_77c86a = (sSeq (sAsg (fTup (fCons (fBin gIx (fVar 0) (fC (.int 0))) (fCons (fNew fNil) fNil))) (.tup [1, 2]))
  (sSeq (sFor (fIt gEnum (fCons (fVar 1) fNil)) (.tup [3, 4]) tb1)
  (sRet (fVar 2)))) := rfl
theorem zeros_eq : ∀ W : Nat, (List.replicate W [D.int 0]).flatten = (List.replicate W (0 : Int)).map D.int
  | 0 => rfl
  | W + 1 => by rw [List.replicate_succ, List.replicate_succ, List.flatten_cons, zeros_eq W]; rfl
theorem flat_len {n : Int} {w : List (List Int)} (h : WheelOk n w) : w.flatten.length ≤ 12 := by
  have : ∀ u : List (List Int), (∀ s ∈ u, s.length ≤ 3) → u.flatten.length ≤ 3 * u.length := by
    intro u
    induction u with
    | nil => intro _; simp
    | cons s u ih =>
      intro hu
      have := ih fun s hs => hu s (List.mem_cons_of_mem _ hs)
      have := hu s List.mem_cons_self
      rw [List.flatten_cons, List.length_append, List.length_cons]
      omega
  have a := this w fun s hs => (h.2.2 s hs).1
  have := h.2.1
  omega
theorem tb1_eq {n : Int} {N : Mem} {σ : Sa} {w : List (List Int)} {ws : List (List (List Int))} {j p : Nat} {rs : List D} (hN : Wf N) (hw : WheelOk n w) (hW : ws.length ≤ 6) (hj : j < ws.length) (hp : N[p]? = some (.lst rs)) (hrs : rs.length ≤ 6)
    (hs : Has σ 7 [(4, wheelT w), (3, .int (j : Int)), (1, wheelsT ws), (2, .ref p)]) :
    ∃ σ' c, tb1 σ N = .ok (.nx σ') (N.set p (.lst (rs ++ [.ref N.length])) ++ [c]) ∧ LineOk ws.length 128 c ∧ Has σ' 7 [(1, wheelsT ws), (2, .ref p)] := by
  have hpl : p < N.length := (List.getElem?_eq_some_iff.mp hp).1
  have k1 := hs.at (i := 1) (d := wheelsT ws) (by simp)
  have s1 : sSet 5 (fBin gMulC (fLst (fCons (fC (.int 0)) fNil)) (fCall gLen (fCons (fVar 1) fNil))) σ N = .ok (.nx (σ.set 5 (some (.ref N.length)))) (N ++ [.lst ((List.replicate ws.length (0 : Int)).map D.int)]) := by
    as_aux_lemma =>
      refine set_ev ((bin_ev (a := .lst [.int 0]) (b := .int ws.length) rfl ((call1_ev (var_ev k1)).trans wheels_len)).trans ?_)
      have h : (thou (ws.length : Int) && Nat.ble [D.int 0].length 1000) = true := by
        have h1 : decide (-1000 ≤ (ws.length : Int)) = true := by rw [decide_eq_true_eq]; omega
        have h2 : decide ((ws.length : Int) ≤ 1000) = true := by rw [decide_eq_true_eq]; omega
        simp only [thou, h1, h2]
        rfl
      simp only [gMulC, listOf_lst, h, if_true, Int.toNat_natCast, zeros_eq]
  have hs1 : Has (σ.set 5 (some (.ref N.length))) 7 [(5, .ref N.length), (4, wheelT w), (3, .int (j : Int)), (1, wheelsT ws), (2, .ref p)] := hs.put (by decide) (by simp)
  generalize σ.set 5 (some (D.ref N.length)) = σ1 at s1 hs1
  have s2 : sSetIx (fVar 5) (fVar 3) (fCall gLen (fCons (fVar 4) fNil)) σ1 (N ++ [.lst ((List.replicate ws.length (0 : Int)).map D.int)]) = .ok (.nx σ1) (N ++ [.lst (((List.replicate ws.length (0 : Int)).set j (w.length : Int)).map D.int)]) := by
    as_aux_lemma =>
      refine (setIx_ev (z := (w.length : Int)) ((call1_ev (var_ev (hs1.at (i := 4) (d := wheelT w) (by simp)))).trans (wheel_len w)) (var_ev (hs1.at (i := 5) (d := .ref N.length) (by simp))) (var_ev (hs1.at (i := 3) (d := .int (j : Int)) (by simp))) (last_at rfl) (by rw [List.length_replicate]; exact hj)).trans ?_
      rw [cellSet]
  have bx : ∀ x ∈ (List.replicate ws.length (0 : Int)).set j (w.length : Int), x.natAbs ≤ 4 := by
    intro x hx
    rcases List.mem_or_eq_of_mem_set hx with z | z
    · rw [List.mem_replicate] at z
      rw [z.2]
      decide
    · have := hw.2.1
      rw [z]
      omega
  generalize hxs : (List.replicate ws.length (0 : Int)).set j (w.length : Int) = xs at s2 bx
  have hxl : xs.length = ws.length := by rw [← hxs, List.length_set, List.length_replicate]
  have wf2 : Wf (N ++ [.lst (xs.map D.int)]) := hN.push (undA_map (fun _ => rfl) xs)
  have e3 := comp_filt (fi := fIter (fCall m_law_ends_55b70f (fCons (fVar 4) fNil))) (vs := [6]) (t := .name 6) (c := (fTest (fBin (gCmp cLt) (fVar 6) (fCall gLen (fCons (fVar 1) fNil))))) (e := fVar 6) (σ := σ1) (M := N ++ [.lst (xs.map D.int)]) (it := ⟨(w.flatten.map D.int).map .d, fun _ => true⟩) (fun im => match im with | .d (.int e) => decide (e < (ws.length : Int)) | _ => false) (fun im => match im with | .d d => d | _ => .non)
    (by rw [ev_iter, (call1_ev (var_ev (hs1.at (i := 4) (d := wheelT w) (by simp)))).trans (m_law_ends_eq wf2 hw)]; rfl) (fun _ => rfl) wf2 (by have := flat_len hw; simp only [List.length_map]; omega) (fun im him => by
      obtain ⟨d, hd, rfl⟩ := List.mem_map.mp him
      obtain ⟨e, he, rfl⟩ := List.mem_map.mp hd
      have hh : Has ((wipeA σ1 [6]).set 6 (some (.int e))) 7 [(6, .int e), (1, wheelsT ws)] := (hs1.sub (l' := [(1, wheelsT ws)]) (by simp)).comp (by decide) (by simp)
      refine ⟨rfl, _, rfl, fun M' _ _ => ⟨?_, fun _ => var_ev (hh.at (by simp))⟩⟩
      exact test_ev ((bin_ev (var_ev (hh.at (i := 6) (d := .int e) (by simp))) ((call1_ev (var_ev (hh.at (i := 1) (d := wheelsT ws) (by simp)))).trans wheels_len)).trans gCmp_int))
  have hfil : ∀ es : List Int, ((((es.map D.int).map Im.d).filter fun im => match im with | .d (.int e) => decide (e < (ws.length : Int)) | _ => false).map fun im => match im with | .d d => d | _ => .non) = (es.filter fun e => decide (e < (ws.length : Int))).map D.int := by
    intro es
    induction es with
    | nil => rfl
    | cons e es ih =>
      by_cases he : e < (ws.length : Int)
      · simp only [List.map_cons, List.filter_cons, decide_eq_true he, if_true]
        rw [ih]
      · simp only [List.map_cons, List.filter_cons, decide_eq_false he, Bool.false_eq_true, if_false]
        exact ih
  rw [show (⟨(w.flatten.map D.int).map .d, fun _ => true⟩ : Ita).items = (w.flatten.map D.int).map .d from rfl, hfil] at e3
  obtain ⟨σ3, ys, f3, q1, q2, hs3⟩ := less_loop (W := ws.length) (A := N) (σ := σ1) (xs := xs) (es := w.flatten.filter fun e => decide (e < (ws.length : Int))) hs1 (by simp) (by simp) hxl bx (fun e he => by
    rw [List.mem_filter, decide_eq_true_eq] at he
    obtain ⟨s, hs, hes⟩ := List.mem_flatten.mp he.1
    exact ⟨((hw.2.2 s hs).2 e hes).1, he.2⟩) (Nat.le_trans (List.length_filter_le _ _) (flat_len hw))
  have s3 : sFor (fIter (fTrim (fCompC (fIter (fCall m_law_ends_55b70f (fCons (fVar 4) fNil))) [6] (.name 6) (fTest (fBin (gCmp cLt) (fVar 6) (fCall gLen (fCons (fVar 1) fNil)))) (fVar 6)))) (.name 6) (sSetIx (fVar 5) (fVar 6) (fBin gSub (fBin gIx (fVar 5) (fVar 6)) (fC (.int 1)))) σ1 (N ++ [.lst (xs.map D.int)]) = .ok (.nx σ3) (N ++ [.lst (ys.map D.int)]) := by
    as_aux_lemma =>
      refine for_of (M1 := N ++ [.lst (xs.map D.int)]) (items := ((w.flatten.filter fun e => decide (e < (ws.length : Int))).map D.int).map .d) (by rw [ev_iter, e3]; rfl) ?_
      rw [List.length_append]
      exact f3
  have hp' : (N ++ [.lst (ys.map D.int)])[p]? = some (.lst rs) := by rw [List.getElem?_append_left hpl]; exact hp
  have s4 : sExpr (fMeth gAppend (fVar 2) (fCons (fVar 5) fNil)) σ3 (N ++ [.lst (ys.map D.int)]) = .ok (.nx σ3) (N.set p (.lst (rs ++ [.ref N.length])) ++ [.lst (ys.map D.int)]) := by
    as_aux_lemma =>
      refine expr_ev (d := .non) ?_
      have il : isL (N ++ [.lst (ys.map D.int)]) (.ref p) = true := by rw [isL_ref, hp']; rfl
      rw [ev_meth, var_ev (hs3.at (i := 2) (d := .ref p) (by simp)), bind_ok, il, if_pos rfl, ev_cons, var_ev (hs3.at (i := 5) (d := .ref N.length) (by simp)), bind_ok, ev_nil, bind_ok, bind_ok, gAppend_ref hp' (by omega), List.set_append_left _ _ hpl]
  exact ⟨σ3, _, (seq_nx s1).trans ((seq_nx s2).trans ((seq_nx s3).trans s4)), ⟨ys, rfl, q1, fun y hy => by have := q2 y hy; omega⟩, hs3.sub (by simp)⟩
end QX
namespace QX
open PySem PySem.Spec PyProof.Rows L2 HX
def refsD (n j : Nat) : List D := (List.range j).map fun i => D.ref (n + 1 + i)
theorem refsD_succ {n j : Nat} : refsD n (j + 1) = refsD n j ++ [.ref (n + 1 + j)] := by
  unfold refsD
  rw [List.range_succ, List.map_append]
  rfl
theorem line_und {W b n : Nat} {c : Cell} (h : LineOk W b c) : Cell.und n c = true := by
  obtain ⟨xs, rfl, _⟩ := h
  exact undA_map (fun _ => rfl) xs
theorem m_law_table_eq {M : Mem} {ws : List (List (List Int))} {c : Int} (hw : Wf M) (hb : BoardOk ws c) : ∃ Mt, m_law_table_77c86a [boardT ws c] M = .ok (.ref M.length) Mt ∧ TabOk M.length ws.length (fun _ => bdd 0) M Mt := by
  have w6 := hb.w6
  have hf0 : few 0 = true := by decide
  have hf2 : few 2 = true := by decide
  have s1 : sAsg (fTup (fCons (fBin gIx (fVar 0) (fC (.int 0))) (fCons (fNew fNil) fNil))) (.tup [1, 2]) (startA 7 [boardT ws c]) M = .ok (.nx [some (boardT ws c), some (wheelsT ws), some (.ref M.length), none, none, none, none]) (M ++ [.lst []]) := by
    as_aux_lemma =>
      refine asg_ev (d := .tup [wheelsT ws, .ref M.length]) ?_ rfl
      rw [ev_tup, ev_cons, (bin_ev (fb := fC (.int 0)) (b := .int 0) (var_ev (d := boardT ws c) rfl) rfl).trans board_0, bind_ok, ev_cons, ev_new, ev_nil, bind_ok, if_pos (by simpa using hf0), bind_ok, ev_nil, bind_ok, bind_ok, bind_ok]
      exact if_pos hf2
  have hs : Has [some (boardT ws c), some (wheelsT ws), some (.ref M.length), none, none, none, none] 7 [(1, wheelsT ws), (2, .ref M.length)] := by
    refine ⟨rfl, fun q hq => ?_⟩
    simp only [List.mem_cons, List.mem_nil_iff, or_false] at hq
    rcases hq with rfl | rfl <;> rfl
  generalize [some (boardT ws c), some (wheelsT ws), some (.ref M.length), none, none, none, none] = σ1 at s1 hs
  have wfN : ∀ (j : Nat) (L : Mem), L.length = j → (∀ c ∈ L, LineOk ws.length 128 c) → Wf (M ++ .lst (refsD M.length j) :: L) := by
    intro j L hL hc x hx
    rcases List.mem_append.mp hx with h | h
    · exact cund_mono (by simp) (hw x h)
    · rcases List.mem_cons.mp h with rfl | h
      · show D.undA _ _ = true
        rw [undA_iff]
        intro d hd
        obtain ⟨i, hi, rfl⟩ := List.mem_map.mp hd
        rw [List.mem_range] at hi
        simp only [D.und, Nat.blt_eq, List.length_append, List.length_cons]
        omega
      · exact line_und (hc x h)
  obtain ⟨σ2, M2, f2, ⟨L, rfl, hL, hc⟩, hs2⟩ := for_enum (b := tb1) (n := M.length + 1) (a := 3) (c := 4) (σ := σ1) (M := M ++ [.lst []]) (ds := ws.map wheelT) (fun j σ N => (∃ L : Mem, N = M ++ .lst (refsD M.length j) :: L ∧ L.length = j ∧ ∀ c ∈ L, LineOk ws.length 128 c) ∧ Has σ 7 [(1, wheelsT ws), (2, .ref M.length)]) ⟨⟨[], rfl, rfl, fun c h => by simp at h⟩, hs⟩ (fun j σ N d hd hv => by
    obtain ⟨⟨L, rfl, hL, hc⟩, hs⟩ := hv
    rw [List.getElem?_map] at hd
    cases q : ws[j]? with
    | none => rw [q] at hd; cases hd
    | some w =>
      rw [q] at hd
      cases hd
      have hj : j < ws.length := (List.getElem?_eq_some_iff.mp q).1
      have hs' : Has (setAll σ [3, 4] [.int (j : Int), wheelT w]) 7 [(4, wheelT w), (3, .int (j : Int)), (1, wheelsT ws), (2, .ref M.length)] := (hs.put (i := 3) (by decide) (by simp)).put (i := 4) (by decide) (by simp)
      have hp : (M ++ .lst (refsD M.length j) :: L)[M.length]? = some (.lst (refsD M.length j)) := by rw [List.getElem?_append_right (Nat.le_refl _), Nat.sub_self]; rfl
      obtain ⟨σ', cl, g1, g2, g3⟩ := tb1_eq (wfN j L hL hc) (hb.wheels w (List.mem_of_getElem? q)) w6 hj hp (by simp only [refsD, List.length_map, List.length_range]; omega) hs'
      have hlen : (M ++ .lst (refsD M.length j) :: L).length = M.length + 1 + j := by rw [List.length_append, List.length_cons, hL]; omega
      have e : (M ++ .lst (refsD M.length j) :: L).set M.length (.lst (refsD M.length j ++ [.ref (M ++ .lst (refsD M.length j) :: L).length])) ++ [cl] = M ++ .lst (refsD M.length (j + 1)) :: (L ++ [cl]) := by
        rw [hlen, refsD_succ, List.set_append_right _ _ (Nat.le_refl _), Nat.sub_self]
        simp
      rw [e] at g1
      refine ⟨σ', _, .inl g1, ?_⟩
      have hop : closed (M.length + 1) (M ++ .lst (refsD M.length (j + 1)) :: (L ++ [cl])) = false := by
        unfold closed
        have : (M ++ Cell.lst (refsD M.length (j + 1)) :: (L ++ [cl])).take (M.length + 1) = M ++ [.lst (refsD M.length (j + 1))] := by
          rw [List.take_append, List.take_of_length_le (by omega)]
          simp
        rw [this, List.all_append]
        have hf : Cell.und (M.length + 1) (.lst (refsD M.length (j + 1))) = false := by
          show D.undA _ _ = false
          cases hh : D.undA (M.length + 1) (refsD M.length (j + 1)) with
          | false => rfl
          | true =>
            rw [undA_iff] at hh
            have := hh (.ref (M.length + 1 + j)) (by rw [refsD_succ]; simp)
            simp only [D.und, Nat.blt_eq] at this
            omega
        simp [hf]
      rw [gc_open hop]
      refine ⟨⟨L ++ [cl], rfl, by rw [List.length_append, hL]; rfl, fun c' hc' => ?_⟩, g3⟩
      rcases List.mem_append.mp hc' with h | h
      · exact hc c' h
      · rw [List.mem_singleton.mp h]; exact g2)
  rw [List.length_map] at hL f2
  have s2 : sFor (fIt gEnum (fCons (fVar 1) fNil)) (.tup [3, 4]) tb1 σ1 (M ++ [.lst []]) = .ok (.nx σ2) (M ++ .lst (refsD M.length ws.length) :: L) := by
    refine forT_of (M1 := M ++ [.lst []]) (enum_ev (ds := ws.map wheelT) (var_ev (hs.at (i := 1) (d := wheelsT ws) (by simp)))) ?_
    rw [List.length_append]
    exact f2
  refine ⟨M ++ .lst (refsD M.length ws.length) :: L, ?_, ⟨⟨refsD M.length ws.length, by rw [List.getElem?_append_right (Nat.le_refl _), Nat.sub_self]; rfl, by simp [refsD], fun i r hi => ?_⟩, wfN _ L hL hc, ⟨_, rfl⟩, Nat.le_refl _⟩⟩
  · have sb : b_law_table_77c86a (startA 7 [boardT ws c]) M = .ok (.rt (.ref M.length)) (M ++ .lst (refsD M.length ws.length) :: L) := by
      rw [table_body]
      exact (seq_nx s1).trans ((seq_nx s2).trans (ret_ev (var_ev (hs2.at (by simp)))))
    unfold m_law_table_77c86a runD
    rw [sb]
    rfl
  · have hi' : i < ws.length := by
      have := (List.getElem?_eq_some_iff.mp hi).1
      simpa [refsD] using this
    have er : r = .ref (M.length + 1 + i) := by
      unfold refsD at hi
      rw [List.getElem?_map, List.getElem?_range hi'] at hi
      exact (Option.some.inj hi).symm
    subst er
    obtain ⟨xs, e1, e2, e3⟩ := hc L[i] (List.getElem_mem (by omega))
    have hm : (M ++ .lst (refsD M.length ws.length) :: L)[M.length + 1 + i]? = some (.lst (xs.map D.int)) := by
      rw [List.getElem?_append_right (by omega), show M.length + 1 + i - M.length = i + 1 by omega, List.getElem?_cons_succ, List.getElem?_eq_getElem (by omega), e1]
    refine ⟨fun z => ?_, ?_, xs, by rw [listOf_ref, hm], e2, e3⟩
    · have := D.ref.inj z
      omega
    · simp only [D.und, Nat.blt_eq, List.length_append, List.length_cons]
      omega
theorem m_law_falls_eq {M : Mem} {ws : List (List (List Int))} {c : Int} (hw : Wf M) (hb : BoardOk ws c) : ∃ b, m_law_falls_be901f [boardT ws c] M = .ok (.bl b) M := by
  obtain ⟨Mt, h1, h2⟩ := m_law_table_eq hw hb
  exact falls_of hw hb.w1 hb.w6 h1 h2
end QX

set_option maxRecDepth 100000
set_option maxHeartbeats 1000000
/-! QZ22: drawn boards, drained -/
namespace QX
open PySem PySem.Spec PyProof.Rows L2 HX
theorem cut_take (ds : List D) (k : Nat) : cutD ds none (some (k : Int)) = ds.take k := by
  unfold cutD
  rw [HT.sIx_none, HT.sIx_nat, List.drop_zero, Nat.sub_zero, List.take_eq_take_iff]
  omega
theorem cut_drop (ds : List D) (k : Nat) : cutD ds (some (k : Int)) none = ds.drop k := by
  unfold cutD
  rw [HT.sIx_none, HT.sIx_nat]
  rw [List.take_of_length_le (by rw [List.length_drop]; omega)]
  by_cases h : k ≤ ds.length
  · rw [Nat.min_eq_left h]
  · rw [Nat.min_eq_right (by omega), List.drop_eq_nil_of_le (Nat.le_refl _), List.drop_eq_nil_of_le (by omega)]
theorem sl_take {fa fb : F D} {σ : Sa} {M M1 M2 : Mem} {ds : List D} {k : Nat} (ha : fa σ M = .ok (.tup ds) M1) (hb : fb σ M1 = .ok (.int (k : Int)) M2) : fSl fa fNoPart (fPart fb) σ M = .ok (.tup (ds.take k)) M2 := by
  rw [ev_sl, ha, bind_ok, ev_nopart, bind_ok, ev_part, hb, bind_ok, bind_ok]
  show Res.ok (D.tup (cutD ds none (some (k : Int)))) M2 = _
  rw [cut_take]
theorem sl_drop {fa fb : F D} {σ : Sa} {M M1 M2 : Mem} {ds : List D} {k : Nat} (ha : fa σ M = .ok (.tup ds) M1) (hb : fb σ M1 = .ok (.int (k : Int)) M2) : fSl fa (fPart fb) fNoPart σ M = .ok (.tup (ds.drop k)) M2 := by
  rw [ev_sl, ha, bind_ok, ev_part, hb, bind_ok, bind_ok, ev_nopart, bind_ok]
  show Res.ok (D.tup (cutD ds (some (k : Int)) none)) M2 = _
  rw [cut_drop]
/-! ### a step without ends -/
def bareW (w : List (List Int)) (s : Nat) : List (List Int) := w.take s ++ [[]] ++ w.drop (s + 1)
theorem bareW_len {w : List (List Int)} {s : Nat} (h : s < w.length) : (bareW w s).length = w.length := by
  simp [bareW]
  omega
theorem bareW_ok {n : Int} {w : List (List Int)} {s : Nat} (h : WheelOk n w) (hs : s < w.length) : WheelOk n (bareW w s) := by
  obtain ⟨h1, h2, h3⟩ := h
  refine ⟨by rw [bareW_len hs]; exact h1, by rw [bareW_len hs]; exact h2, fun x hx => ?_⟩
  unfold bareW at hx
  simp only [List.mem_append, List.mem_singleton] at hx
  rcases hx with (hx | rfl) | hx
  · exact h3 x (List.mem_of_mem_take hx)
  · exact ⟨by simp, fun e he => by simp at he⟩
  · exact h3 x (List.mem_of_mem_drop hx)
theorem m_without_eq {M : Mem} {ws : List (List (List Int))} {c : Int} {i s : Nat} (hw : Wf M) (hb : BoardOk ws c) (hi : i < ws.length) (hs : s < (ws.getD i []).length) :
    m_law_without_7f3b33 [boardT ws c, .int (i : Int), .int (s : Int)] M = .ok (boardT (ws.set i (bareW (ws.getD i []) s)) c) M := by
  have hwi : ws[i]? = some (ws.getD i []) := by rw [List.getD_eq_getElem?_getD, List.getElem?_eq_getElem hi]; rfl
  have w4 := (hb.wheels _ (List.mem_of_getElem? hwi)).2.1
  have w6 := hb.w6
  have hf1 : few 1 = true := by decide
  have hf2 : few 2 = true := by decide
  have s1 : sSet 3 (fCall gListC (fCons (fBin gIx (fVar 0) (fC (.int 0))) fNil)) (startA 4 [boardT ws c, .int (i : Int), .int (s : Int)]) M = .ok (.nx [some (boardT ws c), some (.int (i : Int)), some (.int (s : Int)), some (.ref M.length)]) (M ++ [.lst (ws.map wheelT)]) := by
    as_aux_lemma => exact set_ev ((call1_ev ((bin_ev (b := .int 0) (var_ev (d := boardT ws c) rfl) rfl).trans board_0)).trans rfl)
  have hat : ∀ N : Mem, N[M.length]? = some (.lst (ws.map wheelT)) → fBin gIx (fVar 3) (fVar 1) [some (boardT ws c), some (.int (i : Int)), some (.int (s : Int)), some (.ref M.length)] N = .ok (wheelT (ws.getD i [])) N := fun N hN =>
    (bin_ev (var_ev (d := .ref M.length) rfl) (var_ev (d := .int (i : Int)) rfl)).trans (gIx_list (by rw [listOf_ref, hN]) (by rw [List.getElem?_map, hwi]; rfl))
  have hl0 : (M ++ [Cell.lst (ws.map wheelT)])[M.length]? = some (.lst (ws.map wheelT)) := last_at rfl
  have e1 := sl_take (ds := (ws.getD i []).map stepT) (hat _ hl0) (fb := fVar 2) (var_ev (d := .int (s : Int)) rfl)
  have e2 := sl_drop (ds := (ws.getD i []).map stepT) (k := s + 1) (hat _ hl0) (fb := fBin gAdd (fVar 2) (fC (.int 1))) ((bin_ev (b := .int 1) (var_ev (d := .int (s : Int)) rfl) rfl).trans gAdd_int)
  have hadd : ∀ (a b : List D) (N : Mem), a.length + b.length ≤ 100 → gAdd (.tup a) (.tup b) N = .ok (.tup (a ++ b)) N := fun a b N h => by
    rw [gAdd_tup]
    exact if_pos (ok_few (by rw [sizeLine_eq]; omega))
  have ev : fBin gAdd (fBin gAdd (fSl (fBin gIx (fVar 3) (fVar 1)) fNoPart (fPart (fVar 2))) (fTup (fCons (fTup fNil) fNil))) (fSl (fBin gIx (fVar 3) (fVar 1)) (fPart (fBin gAdd (fVar 2) (fC (.int 1)))) fNoPart) [some (boardT ws c), some (.int (i : Int)), some (.int (s : Int)), some (.ref M.length)] (M ++ [.lst (ws.map wheelT)]) = .ok (wheelT (bareW (ws.getD i []) s)) (M ++ [.lst (ws.map wheelT)]) := by
    as_aux_lemma =>
      refine (bin_ev ((bin_ev e1 (b := .tup [.tup []]) rfl).trans (hadd _ _ _ ?_)) e2).trans ((hadd _ _ _ ?_).trans ?_)
      · simp only [List.length_append, List.length_take, List.length_map, List.length_drop, List.length_cons, List.length_nil]; omega
      · simp only [List.length_append, List.length_take, List.length_map, List.length_drop, List.length_cons, List.length_nil]; omega
      · congr 1
        unfold wheelT bareW
        simp [List.map_take, List.map_drop, stepT]
  have s2 : sSetIx (fVar 3) (fVar 1) (fBin gAdd (fBin gAdd (fSl (fBin gIx (fVar 3) (fVar 1)) fNoPart (fPart (fVar 2))) (fTup (fCons (fTup fNil) fNil))) (fSl (fBin gIx (fVar 3) (fVar 1)) (fPart (fBin gAdd (fVar 2) (fC (.int 1)))) fNoPart)) [some (boardT ws c), some (.int (i : Int)), some (.int (s : Int)), some (.ref M.length)] (M ++ [.lst (ws.map wheelT)]) = .ok (.nx [some (boardT ws c), some (.int (i : Int)), some (.int (s : Int)), some (.ref M.length)]) (M ++ [.lst ((ws.set i (bareW (ws.getD i []) s)).map wheelT)]) := by
    as_aux_lemma =>
      rw [ev_setIx, ev, bindS_ok, var_ev (d := .ref M.length) rfl, bindS_ok, var_ev (d := .int (i : Int)) rfl, bindS_ok]
      have hx : ixN (ws.map wheelT).length (i : Int) = some i := ixN_nat (by rw [List.length_map]; exact hi)
      simp only [gSetIx, hl0, hx]
      rw [List.set_append_right _ _ (Nat.le_refl _), Nat.sub_self, List.map_set]
      rfl
  have s3 : sRet (fTup (fCons (fCall gTuple (fCons (fVar 3) fNil)) (fCons (fBin gIx (fVar 0) (fC (.int 1))) fNil))) [some (boardT ws c), some (.int (i : Int)), some (.int (s : Int)), some (.ref M.length)] (M ++ [.lst ((ws.set i (bareW (ws.getD i []) s)).map wheelT)]) = .ok (.rt (boardT (ws.set i (bareW (ws.getD i []) s)) c)) (M ++ [.lst ((ws.set i (bareW (ws.getD i []) s)).map wheelT)]) := by
    as_aux_lemma =>
      refine ret_ev ?_
      rw [ev_tup, ev_cons, (call1_ev (var_ev (d := .ref M.length) rfl)).trans (gTuple_ref (last_at rfl)), bind_ok, ev_cons, (bin_ev (fb := fC (.int 1)) (b := .int 1) (var_ev (d := boardT ws c) rfl) rfl).trans board_1, bind_ok, ev_nil, bind_ok, bind_ok, bind_ok]
      exact if_pos hf2
  have sb : b_law_without_7f3b33 (startA 4 [boardT ws c, .int (i : Int), .int (s : Int)]) M = .ok (.rt (boardT (ws.set i (bareW (ws.getD i []) s)) c)) (M ++ [.lst ((ws.set i (bareW (ws.getD i []) s)).map wheelT)]) := (seq_nx s1).trans ((seq_nx s2).trans s3)
  exact (run_rt (n := 4) (k := 3) rfl sb).trans (trim_app rfl hw (und_board _ _))
theorem bare_ok {ws : List (List (List Int))} {c : Int} {i s : Nat} (hb : BoardOk ws c) (hi : i < ws.length) (hs : s < (ws.getD i []).length) : BoardOk (ws.set i (bareW (ws.getD i []) s)) c := by
  have hwi : ws[i]? = some (ws.getD i []) := by rw [List.getD_eq_getElem?_getD, List.getElem?_eq_getElem hi]; rfl
  refine ⟨by rw [List.length_set]; exact hb.w1, by rw [List.length_set]; exact hb.w6, hb.c0, hb.c4, fun w hw => ?_⟩
  rw [List.length_set]
  rcases List.mem_or_eq_of_mem_set hw with z | z
  · exact hb.wheels w z
  · rw [z]
    exact bareW_ok (hb.wheels _ (List.mem_of_getElem? hwi)) hs
/-! ### mixed -/
theorem m_mixed_eq {M : Mem} {p k : Nat} {x : Cell} {xs : List D} (hx : M[p]? = some x) (hw : Wf M) (ho : PenOk (k + xs.length) x) (hl : xs.length ≤ 1000) (hu : ∀ d ∈ xs, ∀ n, d.und n = true) :
    ∃ ys x', m_law_mixed_84cada [.ref p, .lst xs] M = .ok (.lst ys) (M.set p x') ∧ (∀ d ∈ ys, d ∈ xs) ∧ ys.length = xs.length ∧ PenOk k x' := by
  have hp : p < M.length := (List.getElem?_eq_some_iff.mp hx).1
  have hM := set_self hx
  have s1 : sSet 2 (fCall gListC (fCons (fVar 1) fNil)) (startA 4 [.ref p, .lst xs]) M = .ok (.nx [some (.ref p), some (.lst xs), some (.ref M.length), none]) (M ++ [.lst xs]) := by
    as_aux_lemma => exact set_ev ((call1_ev (var_ev (d := .lst xs) rfl)).trans rfl)
  have hln : (M ++ [Cell.lst xs]).length = M.length + 1 := by simp
  let e : F D := fMeth gPopAt (fVar 2) (fCons (fCall m_law_draw_321cf4 (fCons (fVar 0) (fCons (fCall gLen (fCons (fVar 2) fNil)) fNil))) fNil)
  let Iv : Nat → List D → Mem → Prop := fun j acc M2 => ∃ y left, M2 = M.set p y ++ ([.lst left] ++ [.lst acc]) ∧ left.length = xs.length - j ∧ acc.length = j ∧ (∀ d ∈ left, d ∈ xs) ∧ (∀ d ∈ acc, d ∈ xs) ∧ PenOk (k + (xs.length - j)) y
  have step : ∀ j acc M2 im, (xs.map Im.d)[j - 0]? = some im → 0 ≤ j → Iv j acc M2 → (fun _ : Mem => true) M2 = true ∧ ∃ σ1, (Tg.name 3).put im (wipeA [some (.ref p), some (.lst xs), some (.ref M.length), none] [3]) = some σ1 ∧ ((∃ M1, fYes σ1 M2 = .ok false M1 ∧ Iv (j + 1) acc M1) ∨ ∃ M1 d M3, fYes σ1 M2 = .ok true M1 ∧ e σ1 M1 = .ok d M3 ∧ M3[M.length + 1]? = some (.lst acc) ∧ Iv (j + 1) (acc ++ [d]) (M3.set (M.length + 1) (.lst (acc ++ [d])))) := by
    rintro j acc M2 im hj _ ⟨y, left, rfl, hll, hal, hleft, hacc, hy⟩
    rw [Nat.sub_zero] at hj
    have hjl : j < xs.length := by
      have := (List.getElem?_eq_some_iff.mp hj).1
      rw [List.length_map] at this
      exact this
    have hy' : PenOk ((k + (xs.length - (j + 1))) + 1) y := by
      have e : k + (xs.length - j) = (k + (xs.length - (j + 1))) + 1 := by omega
      rw [e] at hy
      exact hy
    obtain ⟨d0, _, rfl⟩ := List.mem_map.mp (List.mem_of_getElem? hj)
    obtain ⟨z, y', d1, z0, z1, oz⟩ := draw_in (M0 := M) (g := [.lst left] ++ [.lst acc]) (n := (left.length : Int)) hp hy' (by omega) (by omega)
    have hL : ∀ u : Cell, (M.set p u ++ ([Cell.lst left] ++ [.lst acc]))[M.length]? = some (.lst left) := fun u => by
      rw [List.getElem?_append_right (by rw [List.length_set]; exact Nat.le_refl _), List.length_set, Nat.sub_self]; rfl
    have hzl : z.toNat < left.length := by omega
    refine ⟨rfl, [some (.ref p), some (.lst xs), some (.ref M.length), some d0], rfl, .inr ⟨_, left[z.toNat], M.set p y' ++ ([.lst (left.eraseIdx z.toNat)] ++ [.lst acc]), rfl, ?_, ?_, y', left.eraseIdx z.toNat, ?_, ?_, ?_, ?_, ?_, ?_⟩⟩
    · have il : isL (M.set p y ++ ([Cell.lst left] ++ [.lst acc])) (.ref M.length) = true := by rw [isL_ref, hL]; rfl
      show fMeth gPopAt (fVar 2) (fCons (fCall m_law_draw_321cf4 (fCons (fVar 0) (fCons (fCall gLen (fCons (fVar 2) fNil)) fNil))) fNil) _ _ = _
      rw [ev_meth, var_ev (d := .ref M.length) rfl, bind_ok, il, if_pos rfl, ev_cons, (call2_ev (var_ev (d := .ref p) rfl) ((call1_ev (var_ev (d := .ref M.length) rfl)).trans (gLen_ref (hL y)))).trans d1, bind_ok, ev_nil, bind_ok, bind_ok]
      have hix : seqIndex? z left.length = some z.toNat := PySem.seqIndex_of z0 z1
      have hmid : mid z = true := mid_small (by omega) (by omega)
      simp only [gPopAt, hL, hix, List.getElem?_eq_getElem hzl, hmid, if_true]
      rw [List.set_append_right _ _ (by rw [List.length_set]; exact Nat.le_refl _), List.length_set, Nat.sub_self]
      rfl
    · rw [← List.append_assoc, List.getElem?_append_right (by simp)]
      simp
    · rw [← List.append_assoc, List.set_append_right _ _ (by simp), List.append_assoc]
      simp
    · rw [List.length_eraseIdx_of_lt hzl]
      omega
    · rw [List.length_append, hal]; rfl
    · intro d hd
      exact hleft d (List.mem_of_mem_eraseIdx hd)
    · intro d hd
      rcases List.mem_append.mp hd with h | h
      · exact hacc d h
      · rw [List.mem_singleton.mp h]
        exact hleft _ (List.getElem_mem hzl)
    · exact oz
  obtain ⟨acc, M', h1, ⟨y, left, rfl, q1, q2, q3, q4, q5⟩, _⟩ := comp_loop (t := .name 3) (c := fYes) (e := e) (chk := fun _ => true) (σ := wipeA [some (.ref p), some (.lst xs), some (.ref M.length), none] [3]) (n := M.length + 1) Iv (xs.map Im.d) 0 [] ((M ++ [.lst xs]) ++ [.lst []]) (by rw [List.length_map]; simp; omega) step (fun _ _ _ => rfl) ⟨x, xs, by rw [hM, List.append_assoc], by simp, rfl, fun d h => h, fun d h => by simp at h, ho⟩
  rw [Nat.zero_add, List.length_map] at q1 q2 q5
  rw [Nat.sub_self, Nat.add_zero] at q5
  have undAcc : ∀ n, D.undA n acc = true := fun n => by rw [undA_iff]; exact fun d hd => hu d (q4 d hd) n
  have undLeft : ∀ n, D.undA n left = true := fun n => by rw [undA_iff]; exact fun d hd => hu d (q3 d hd) n
  have hwy : Wf (M.set p y) := wf_set hw q5
  have s2 : fTrim (fCompC (fIter (fVar 1)) [3] (.name 3) fYes e) [some (.ref p), some (.lst xs), some (.ref M.length), none] (M ++ [.lst xs]) = .ok (.lst acc) (M.set p y ++ [.lst left]) := by
    as_aux_lemma =>
      unfold fTrim fCompC
      rw [ev_iter, var_ev (d := .lst xs) rfl, bind_ok, gIter_lst, bind_ok, hln, h1]
      simp only [bind_ok]
      rw [← List.append_assoc]
      refine trim_ref (g := []) (by simp) ?_ (undAcc _)
      exact Wf.push (c := .lst left) hwy (undLeft _)
  have sb : b_law_mixed_84cada (startA 4 [.ref p, .lst xs]) M = .ok (.rt (.lst acc)) (M.set p y ++ [.lst left]) := (seq_nx s1).trans (ret_ev s2)
  refine ⟨acc, y, (run_rt (n := 4) (k := 2) rfl sb).trans (trim_app (by simp) hwy ?_), q4, q2, q5⟩
  simp only [D.und]
  exact undAcc _
end QX
namespace QX
open PySem PySem.Spec PyProof.Rows L2 HX
theorem for_tups {b : FS} {n : Nat} {is : List Nat} {σ : Sa} {M : Mem} {ds : List D} (Iv : Nat → Sa → Mem → Prop) (h0 : Iv 0 σ M) (step : ∀ j σ M d, ds[j]? = some d → Iv j σ M → ∃ es, d = .tup es ∧ es.length = is.length ∧ ∃ σ2 M2, (b (setAll σ is es) M = .ok (.nx σ2) M2 ∨ b (setAll σ is es) M = .ok (.ct σ2) M2) ∧ Iv (j + 1) (gc n σ2 M2).1 (gc n σ2 M2).2) :
    ∃ σ' M', forL (.tup is) b (fun _ => true) n (ds.map .d) σ M = .ok (.nx σ') M' ∧ Iv ds.length σ' M' := by
  obtain ⟨σ', M', h1, h2⟩ := for_loop (t := .tup is) (b := b) (chk := fun _ => true) (n := n) Iv (ds.map .d) 0 σ M (fun j σ M im hj _ hv => by
    rw [Nat.sub_zero, List.getElem?_map] at hj
    cases q : ds[j]? with
    | none => rw [q] at hj; cases hj
    | some d =>
      rw [q] at hj
      cases hj
      obtain ⟨es, rfl, hl, σ2, M2, h1, h2⟩ := step j σ M d q hv
      exact ⟨rfl, setAll σ is es, by rw [put_tup, hl]; simp, σ2, M2, h1, h2⟩) (fun _ _ _ => rfl) h0
  rw [Nat.zero_add, List.length_map] at h2
  exact ⟨σ', M', h1, h2⟩
def SpotOk (ws : List (List (List Int))) (d : D) : Prop := ∃ i s : Nat, d = .tup [.int (i : Int), .int (s : Int)] ∧ i < ws.length ∧ s < (ws.getD i []).length
theorem SpotOk.und {ws : List (List (List Int))} {d : D} (h : SpotOk ws d) (n : Nat) : d.und n = true := by
  obtain ⟨i, s, rfl, _⟩ := h
  rfl
def dr1 : FS := (sSet 2 (fBin gAdd (fVar 2) (fTrim (fCompC (fIt gRange1 (fCons (fCall gLen (fCons (fVar 4) fNil)) fNil)) [5] (.name 5) fYes (fTup (fCons (fVar 3) (fCons (fVar 5) fNil)))))))
def dr2 : FS := (sIf (fNotT (fTest (fCall m_law_falls_be901f (fCons (fVar 1) fNil))))
  (sSet 1 (fCall m_law_without_7f3b33 (fCons (fVar 1) (fCons (fVar 3) (fCons (fVar 5) fNil)))))
  sNext)
theorem drained_body : b_law_drained_b440a9 = (sSeq (sSet 2 (fLst fNil))
  (sSeq (sFor (fIt gEnum (fCons (fBin gIx (fVar 1) (fC (.int 0))) fNil)) (.tup [3, 4]) dr1)
  (sSeq (sFor (fIter (fCall m_law_mixed_84cada (fCons (fVar 0) (fCons (fVar 2) fNil)))) (.tup [3, 5]) dr2)
  (sRet (fVar 1))))) := rfl
theorem dr1_eq {M : Mem} {σ : Sa} {ws : List (List (List Int))} {w : List (List Int)} {j : Nat} {sp : List D} {l : List (Nat × D)} (hw : Wf M) (hq : ws[j]? = some w) (w4 : w.length ≤ 4) (hsp : ∀ d ∈ sp, SpotOk ws d) (hl : sp.length ≤ 100) (hs : Has σ 6 ((4, wheelT w) :: (3, .int (j : Int)) :: (2, .lst sp) :: l)) (hl1 : ∀ q ∈ l, q.1 ≤ 1) :
    ∃ sp' σ', dr1 σ M = .ok (.nx σ') M ∧ (∀ d ∈ sp', SpotOk ws d) ∧ sp'.length = sp.length + w.length ∧ Has σ' 6 ((2, .lst sp') :: l) := by
  have hj : j < ws.length := (List.getElem?_eq_some_iff.mp hq).1
  have hwj : ws.getD j [] = w := by rw [List.getD_eq_getElem?_getD, hq]; rfl
  have k4 := hs.at (i := 4) (d := wheelT w) (by simp)
  have k2 := hs.at (i := 2) (d := .lst sp) (by simp)
  have hi : fIt gRange1 (fCons (fCall gLen (fCons (fVar 4) fNil)) fNil) σ M = .ok ⟨nums 0 w.length, fun _ => true⟩ M := range1_ev ((call1_ev (var_ev k4)).trans (wheel_len w)) (by omega) (by omega) (by omega)
  have hf2 : few 2 = true := by decide
  have e1 := comp_pure (fi := fIt gRange1 (fCons (fCall gLen (fCons (fVar 4) fNil)) fNil)) (vs := [5]) (t := .name 5) (e := fTup (fCons (fVar 3) (fCons (fVar 5) fNil))) (σ := σ) (M := M) (fun im => match im with | .d d => .tup [.int (j : Int), d] | _ => .non) hi (fun _ => rfl) hw (by rw [nums_len]; omega) (fun im him => by
    obtain ⟨i, hi, rfl⟩ := List.getElem_of_mem him
    have hlt : i < w.length := by rw [nums_len] at hi; exact hi
    have e := nums_at w.length 0 i hlt
    rw [List.getElem?_eq_getElem hi] at e
    rw [Option.some.inj e]
    refine ⟨rfl, _, rfl, fun M' _ _ => ?_⟩
    have hh : Has ((wipeA σ [5]).set 5 (some (.int (0 + (i : Int))))) 6 [(5, .int (0 + (i : Int))), (3, .int (j : Int))] := (hs.sub (l' := [(3, .int (j : Int))]) (by simp)).comp (by decide) (by simp)
    rw [ev_tup, ev_cons, var_ev (hh.at (i := 3) (d := .int (j : Int)) (by simp)), bind_ok, ev_cons, var_ev (hh.at (i := 5) (d := .int (0 + (i : Int))) (by simp)), bind_ok, ev_nil, bind_ok, bind_ok, bind_ok]
    exact if_pos hf2)
  dsimp only at e1
  generalize hnew : (nums 0 w.length).map (fun im => match im with | .d d => D.tup [.int (j : Int), d] | _ => .non) = new at e1
  have hnl : new.length = w.length := by rw [← hnew, List.length_map, nums_len]
  have hno : ∀ d ∈ new, SpotOk ws d := by
    intro d hd
    rw [← hnew] at hd
    obtain ⟨im, him, rfl⟩ := List.mem_map.mp hd
    obtain ⟨i, hi, rfl⟩ := List.getElem_of_mem him
    have hlt : i < w.length := by rw [nums_len] at hi; exact hi
    have e := nums_at w.length 0 i hlt
    rw [List.getElem?_eq_getElem hi] at e
    rw [Option.some.inj e]
    exact ⟨j, i, by rw [Int.zero_add], hj, by rw [hwj]; exact hlt⟩
  refine ⟨sp ++ new, σ.set 2 (some (.lst (sp ++ new))), ?_, fun d hd => ?_, by rw [List.length_append, hnl], ?_⟩
  · refine set_ev ((bin_ev (var_ev k2) e1).trans ?_)
    rw [gAdd_lst]
    exact if_pos (ok_few (by rw [sizeLine_eq]; omega))
  · rcases List.mem_append.mp hd with h | h
    · exact hsp d h
    · exact hno d h
  · exact (hs.sub (l' := l) (by simp +contextual)).put (by decide) (fun q hq => by have := hl1 q hq; omega)
def SameLen (ws ws' : List (List (List Int))) : Prop := ws'.length = ws.length ∧ ∀ i, (ws'.getD i []).length = (ws.getD i []).length
theorem m_drained_eq {M : Mem} {p k : Nat} {x : Cell} {ws : List (List (List Int))} {c : Int} (hx : M[p]? = some x) (hw : Wf M) (hb : BoardOk ws c) (ho : PenOk (k + 24) x) :
    ∃ ws' x', m_law_drained_b440a9 [.ref p, boardT ws c] M = .ok (boardT ws' c) (M.set p x') ∧ BoardOk ws' c ∧ SameLen ws ws' ∧ PenOk k x' := by
  have hp : p < M.length := (List.getElem?_eq_some_iff.mp hx).1
  have w6 := hb.w6
  have s1 : sSet 2 (fLst fNil) (startA 6 [.ref p, boardT ws c]) M = .ok (.nx [some (.ref p), some (boardT ws c), some (.lst []), none, none, none]) M := by
    as_aux_lemma => exact set_ev rfl
  have hs : Has [some (.ref p), some (boardT ws c), some (.lst []), none, none, none] 6 [(2, .lst []), (0, .ref p), (1, boardT ws c)] := by
    refine ⟨rfl, fun q hq => ?_⟩
    simp only [List.mem_cons, List.mem_nil_iff, or_false] at hq
    rcases hq with rfl | rfl | rfl <;> rfl
  generalize [some (.ref p), some (boardT ws c), some (.lst []), none, none, none] = σ1 at s1 hs
  obtain ⟨σ2, M2, f2, ⟨sp, hs2, hsp, hsl⟩, rfl⟩ := for_enum (b := dr1) (n := M.length) (a := 3) (c := 4) (σ := σ1) (M := M) (ds := ws.map wheelT) (fun j σ N => (∃ sp, Has σ 6 [(2, .lst sp), (0, .ref p), (1, boardT ws c)] ∧ (∀ d ∈ sp, SpotOk ws d) ∧ sp.length ≤ 4 * j) ∧ N = M) ⟨⟨[], hs, fun d h => by simp at h, by simp⟩, rfl⟩ (fun j σ N d hd hv => by
    obtain ⟨⟨sp, hs, hsp, hsl⟩, rfl⟩ := hv
    rw [List.getElem?_map] at hd
    cases q : ws[j]? with
    | none => rw [q] at hd; cases hd
    | some w =>
      rw [q] at hd
      cases hd
      have hj : j < ws.length := (List.getElem?_eq_some_iff.mp q).1
      have w4 := (hb.wheels w (List.mem_of_getElem? q)).2.1
      have hs' : Has (setAll σ [3, 4] [.int (j : Int), wheelT w]) 6 [(4, wheelT w), (3, .int (j : Int)), (2, .lst sp), (0, .ref p), (1, boardT ws c)] := (hs.put (i := 3) (by decide) (by simp)).put (i := 4) (by decide) (by simp)
      obtain ⟨sp', σ', g1, g2, g3, g4⟩ := dr1_eq hw q w4 hsp (by omega) hs' (by simp)
      refine ⟨σ', _, .inl g1, ?_⟩
      rw [gc_same rfl]
      exact ⟨⟨sp', g4, g2, by omega⟩, rfl⟩)
  rw [List.length_map] at hsl
  have s2 := forT_of (b := dr1) (enum_ev (ds := ws.map wheelT) ((bin_ev (fb := fC (.int 0)) (b := .int 0) (var_ev (hs.at (i := 1) (d := boardT ws c) (by simp))) rfl).trans board_0)) f2
  obtain ⟨ys, x1, e3, y1, y2, o1⟩ := m_mixed_eq (k := k) (xs := sp) hx hw (ho.less (by omega)) (by omega) (fun d hd n => (hsp d hd).und n)
  have hw1 : Wf (M2.set p x1) := wf_set hw o1
  obtain ⟨σ4, M4, f4, ⟨ws', hs4, hb4, hl4⟩, rfl⟩ := for_tups (b := dr2) (n := M2.length) (is := [3, 5]) (σ := σ2) (M := M2.set p x1) (ds := ys) (fun j σ N => (∃ ws', Has σ 6 [(0, .ref p), (1, boardT ws' c)] ∧ BoardOk ws' c ∧ SameLen ws ws') ∧ N = M2.set p x1) ⟨⟨ws, hs2.sub (by simp), hb, rfl, fun _ => rfl⟩, rfl⟩ (fun j σ N d hd hv => by
    obtain ⟨⟨ws', hs, hb', hl1, hl2⟩, rfl⟩ := hv
    obtain ⟨i, s, rfl, hi, hss⟩ := hsp d (y1 d (List.mem_of_getElem? hd))
    refine ⟨_, rfl, rfl, ?_⟩
    have hs' : Has (setAll σ [3, 5] [.int (i : Int), .int (s : Int)]) 6 [(5, .int (s : Int)), (3, .int (i : Int)), (0, .ref p), (1, boardT ws' c)] := (hs.put (i := 3) (by decide) (by simp)).put (i := 5) (by decide) (by simp)
    generalize setAll σ [3, 5] [.int (i : Int), .int (s : Int)] = σ' at hs'
    obtain ⟨b, hfa⟩ := m_law_falls_eq hw1 hb'
    have hsif := sif_ev (s1 := (sSet 1 (fCall m_law_without_7f3b33 (fCons (fVar 1) (fCons (fVar 3) (fCons (fVar 5) fNil)))))) (s2 := sNext) (not_ev (test_ev ((call1_ev (var_ev (hs'.at (i := 1) (d := boardT ws' c) (by simp)))).trans hfa)))
    cases b with
    | true =>
      refine ⟨σ', _, .inl (hsif.trans rfl), ?_⟩
      rw [gc_same (by simp)]
      exact ⟨⟨ws', hs'.sub (by simp), hb', hl1, hl2⟩, rfl⟩
    | false =>
      have hi' : i < ws'.length := by omega
      have hs2' : s < (ws'.getD i []).length := by rw [hl2]; exact hss
      refine ⟨σ'.set 1 (some (boardT (ws'.set i (bareW (ws'.getD i []) s)) c)), _, .inl (hsif.trans (set_ev ((call3_ev (var_ev (hs'.at (i := 1) (d := boardT ws' c) (by simp))) (var_ev (hs'.at (i := 3) (d := .int (i : Int)) (by simp))) (var_ev (hs'.at (i := 5) (d := .int (s : Int)) (by simp)))).trans (m_without_eq hw1 hb' hi' hs2')))), ?_⟩
      rw [gc_same (by simp)]
      refine ⟨⟨_, ((hs'.sub (l' := [(0, .ref p)]) (by simp)).put (i := 1) (by decide) (by simp)).sub (by simp [or_comm]), bare_ok hb' hi' hs2', by rw [List.length_set]; exact hl1, fun q => ?_⟩, rfl⟩
      rw [← hl2 q]
      by_cases hqi : q = i
      · subst hqi
        rw [List.getD_eq_getElem?_getD, List.getElem?_set_self hi']
        exact bareW_len hs2'
      · rw [List.getD_eq_getElem?_getD, List.getElem?_set_ne (Ne.symm hqi), ← List.getD_eq_getElem?_getD])
  have s3 : sFor (fIter (fCall m_law_mixed_84cada (fCons (fVar 0) (fCons (fVar 2) fNil)))) (.tup [3, 5]) dr2 σ2 M2 = .ok (.nx σ4) (M2.set p x1) := by
    refine forT_of (M1 := M2.set p x1) (items := ys.map .d) (by rw [ev_iter, (call2_ev (var_ev (hs2.at (i := 0) (d := .ref p) (by simp))) (var_ev (hs2.at (i := 2) (d := .lst sp) (by simp)))).trans e3]; rfl) ?_
    rw [List.length_set]
    exact f4
  have sb : b_law_drained_b440a9 (startA 6 [.ref p, boardT ws c]) M2 = .ok (.rt (boardT ws' c)) (M2.set p x1) := by
    rw [drained_body]
    exact (seq_nx s1).trans ((seq_nx s2).trans ((seq_nx s3).trans (ret_ev (var_ev (hs4.at (by simp))))))
  exact ⟨ws', x1, (run_rt (n := 6) (k := 2) rfl sb).trans (trim_id (by simp)), hb4, hl4, o1⟩
theorem m_drain_board_eq {M : Mem} {p k : Nat} {x : Cell} {most cm : Int} (hx : M[p]? = some x) (hw : Wf M) (ho : PenOk (k + 224) x) (h1 : 1 ≤ most) (h6 : most ≤ 6) (hc0 : 0 ≤ cm) (hc4 : cm ≤ 4) :
    ∃ ws c x', m_law_board_8f2c56 [.ref p, .int most, .int cm] M = .ok (boardT ws c) (M.set p x') ∧ BoardOk ws c ∧ (ws.length : Int) ≤ most ∧ c ≤ cm ∧ PenOk k x' := by
  have hp : p < M.length := (List.getElem?_eq_some_iff.mp hx).1
  obtain ⟨ws, c, x1, e1, b1, m1, m2, o1⟩ := m_any_board_eq (k := k + 24) (most := most) (cm := cm) hx hw (ho.less (by omega)) h1 h6 hc0 hc4
  obtain ⟨ws', x2, e2, b2, l2, o2⟩ := m_drained_eq (k := k) (M := M.set p x1) (p := p) (x := x1) (List.getElem?_set_self hp) (wf_set hw o1) b1 o1
  rw [List.set_set] at e2
  refine ⟨ws', c, x2, ?_, b2, by rw [l2.1]; exact m1, m2, o2⟩
  refine (run_rt (n := 3) (k := 3) (M1 := M.set p x2) rfl (ret_ev ((call2_ev (var_ev (d := .ref p) rfl) ((call3_ev (var_ev (d := .ref p) rfl) (var_ev (d := .int most) rfl) (var_ev (d := .int cm) rfl)).trans e1)).trans e2))).trans (trim_id (by simp))
end QX

set_option maxRecDepth 100000
set_option maxHeartbeats 1000000
/-! QZ23: a drawn stand and moment; the law's handling in one list -/
namespace QX
open PySem PySem.Spec PyProof.Rows L2 HX
section
variable {M : Mem} {p k : Nat} {x : Cell} {σ : Sa} {ws : List (List (List Int))} {c : Int} {m : Mo}
/-- [draw(pen, n) for .. in ..] -/
theorem draws_ev {fi : F Ita} {fn : F D} {N i : Nat} {items : List Im} {n : Int} (hp : p < M.length) (hi : fi σ (M.set p x) = .ok ⟨items, fun _ => true⟩ (M.set p x)) (hw : Wf (M.set p x)) (hl : items.length ≤ 1000) (ho : PenOk (k + items.length) x) (h1 : 1 ≤ n) (h2 : n ≤ 1000000000) (h0 : i ≠ 0)
    (hit : ∀ im ∈ items, ∃ d, im = .d d) (h00 : σ[0]? = some (some (.ref p))) (hn : ∀ im ∈ items, ∀ σ1, (Tg.name i).put im (wipeA σ [i]) = some σ1 → ∀ M', fn σ1 M' = .ok (.int n) M') :
    ∃ (zs : List Int) (x' : Cell), fTrim (fCompC fi [i] (.name i) fYes (fCall m_law_draw_321cf4 (fCons (fVar 0) (fCons fn fNil)))) σ (M.set p x) = .ok (.lst (zs.map D.int)) (M.set p x') ∧ zs.length = items.length ∧ (∀ z ∈ zs, 0 ≤ z ∧ z < n) ∧ PenOk k x' := by
  obtain ⟨ds, x1, e1, l1, r1, o1⟩ := comp_pen (M0 := M) (p := p) (x := x) (x1 := x) (g := []) (k := k) (b := 1) (R := fun _ d => ∃ z, d = D.int z ∧ 0 ≤ z ∧ z < n) (t := .name i) (vs := [i]) (fi := fi) (e := fCall m_law_draw_321cf4 (fCons (fVar 0) (fCons fn fNil))) (σ := σ) (it := ⟨items, fun _ => true⟩) hp (by rw [List.append_nil]; exact hi) (fun _ => rfl) (by rw [List.append_nil]; exact hw) (by dsimp only; omega) (by rw [Nat.one_mul]; exact ho) (fun im d n h => by obtain ⟨z, rfl, _⟩ := h; rfl) (fun im him j y g' oy wy => by
      obtain ⟨d, rfl⟩ := hit im him
      refine ⟨(wipeA σ [i]).set i (some d), rfl, ?_⟩
      obtain ⟨z, y', d1, a1, a2, o1⟩ := draw_in (M0 := M) (g := g') (k := j) (n := n) hp oy h1 h2
      refine ⟨.int z, y', ?_, ⟨z, rfl, a1, a2⟩, o1⟩
      have k0 : ((wipeA σ [i]).set i (some d))[0]? = some (some (.ref p)) := by
        rw [List.getElem?_set_ne h0]
        show (σ.set i none)[0]? = _
        rw [List.getElem?_set_ne h0]
        exact h00
      exact (call2_ev (var_ev k0) (hn _ him _ rfl _)).trans d1)
  rw [List.append_nil, List.append_nil] at e1
  obtain ⟨zs, rfl, hz⟩ := map_of (fun z => 0 ≤ z ∧ z < n) (ds := ds) (fun d hd => by
    obtain ⟨i, hi, rfl⟩ := List.getElem_of_mem hd
    exact r1 i _ _ (List.getElem?_eq_getElem (by omega)) (List.getElem?_eq_getElem hi))
  rw [List.length_map] at l1
  exact ⟨zs, x1, e1, l1, hz, o1⟩
theorem m_law_stand_eq (hx : M[p]? = some x) (hw : Wf M) (hb : BoardOk ws c) (ho : PenOk (k + 6) x) :
    ∃ (st : List Int) (x' : Cell), m_law_stand_d4b1d3 [.ref p, boardT ws c] M = .ok (stepT st) (M.set p x') ∧ st.length = ws.length ∧ (∀ (i : Nat) (s : Int) (w : List (List Int)), st[i]? = some s → ws[i]? = some w → 0 ≤ s ∧ s < (w.length : Int)) ∧ PenOk k x' := by
  have hp : p < M.length := (List.getElem?_eq_some_iff.mp hx).1
  have hM := set_self hx
  have w6 := hb.w6
  have hi1 : fIter (fBin gIx (fVar 1) (fC (.int 0))) (startA 3 [.ref p, boardT ws c]) (M.set p x ++ []) = .ok ⟨(ws.map wheelT).map .d, fun _ => true⟩ (M.set p x ++ []) := by
    as_aux_lemma =>
      rw [ev_iter, bin_ev (fb := fC (.int 0)) (b := .int 0) (var_ev (d := boardT ws c) rfl) rfl, board_0]
      rfl
  obtain ⟨ds1, x1, e1, l1, r1, o1⟩ := comp_pen (M0 := M) (p := p) (x := x) (g := []) (k := k) (b := 1) (R := fun im d => ∃ z, d = D.int z ∧ 0 ≤ z ∧ ∀ w, im = .d (wheelT w) → z < (w.length : Int)) (t := .name 2) (vs := [2]) (e := fCall m_law_draw_321cf4 (fCons (fVar 0) (fCons (fCall gLen (fCons (fVar 2) fNil)) fNil))) hp hi1 (fun _ => rfl) (by rw [List.append_nil, hM]; exact hw) (by simp only [List.length_map]; omega) (by simp only [List.length_map]; exact ho.less (by omega)) (fun im d n h => by obtain ⟨z, rfl, _⟩ := h; rfl) (fun im him j y g' oy wy => by
      obtain ⟨d, hd, rfl⟩ := List.mem_map.mp him
      obtain ⟨w, hwm, rfl⟩ := List.mem_map.mp hd
      have hw1 := (hb.wheels w hwm).1
      have hw4 := (hb.wheels w hwm).2.1
      obtain ⟨z, y', d1, a1, a2, o1⟩ := draw_in (M0 := M) (g := g') (k := j) (n := (w.length : Int)) hp oy (by omega) (by omega)
      refine ⟨_, rfl, .int z, y', ?_, ⟨z, rfl, a1, fun w' e => ?_⟩, o1⟩
      · exact (call2_ev (var_ev rfl) ((call1_ev (var_ev rfl)).trans (wheel_len w))).trans d1
      · have : w.length = w'.length := by
          have := Im.d.inj e
          unfold wheelT at this
          have := congrArg List.length (D.tup.inj this)
          simpa using this
        omega)
  rw [List.append_nil, List.append_nil, hM] at e1
  obtain ⟨st, rfl, hst⟩ := choose_map (f := D.int) (P := fun z => 0 ≤ z) ds1 (fun d hd => by
    obtain ⟨i, hi⟩ := List.mem_iff_getElem?.mp hd
    have hlt : i < ((ws.map wheelT).map Im.d).length := by rw [← l1]; exact (List.getElem?_eq_some_iff.mp hi).1
    obtain ⟨z, q1, q2, _⟩ := r1 i _ d (List.getElem?_eq_getElem hlt) hi
    exact ⟨z, q1, q2⟩)
  simp only [List.length_map] at l1
  refine ⟨st, x1, (run_rt (n := 3) (k := 2) (M1 := M.set p x1) (d := stepT st) rfl (ret_ev ((call1_ev e1).trans rfl))).trans (trim_id (by simp)), l1, fun i s w h1 h2 => ?_, o1⟩
  obtain ⟨z, q1, q2, q3⟩ := r1 i (.d (wheelT w)) (.int s) (by dsimp only; rw [List.getElem?_map, List.getElem?_map, h2]; rfl) (by rw [List.getElem?_map, h1]; rfl)
  cases q1
  exact ⟨q2, q3 w rfl⟩
theorem m_law_momentN_eq {most : Int} (hx : M[p]? = some x) (hw : Wf M) (hb : BoardOk ws c) (ho : PenOk (k + 30) x) (h0 : 0 ≤ most) (h1 : most ≤ 100000) :
    ∃ m x', m_law_moment_bfcba9 [.ref p, boardT ws c, .int most] M = .ok (moT m) (M.set p x') ∧ MoOk ws c m ∧ (∀ y ∈ m.wt, y ≤ most) ∧ (∀ y ∈ m.hd, y ≤ 3) ∧ PenOk k x' := by
  have hp : p < M.length := (List.getElem?_eq_some_iff.mp hx).1
  have hM := set_self hx
  have w6 := hb.w6
  have c0 := hb.c0
  have c4 := hb.c4
  obtain ⟨wt, x1, e1, l1, r1, o1⟩ := draws_ev (M := M) (p := p) (x := x) (k := k + 24) (i := 4) (fi := fIter (fBin gIx (fVar 1) (fC (.int 0)))) (fn := fBin gAdd (fVar 2) (fC (.int 1))) (σ := startA 6 [.ref p, boardT ws c, .int most]) (items := (ws.map wheelT).map .d) (n := most + 1) (N := 6) hp (by
      as_aux_lemma =>
        rw [ev_iter, bin_ev (fb := fC (.int 0)) (b := .int 0) (var_ev (d := boardT ws c) rfl) rfl, board_0]
        rfl) (by rw [hM]; exact hw) (by simp only [List.length_map]; omega) (by simp only [List.length_map]; exact ho.less (by omega)) (by omega) (by omega) (by decide) (fun im him => by
        obtain ⟨d, _, rfl⟩ := List.mem_map.mp him
        exact ⟨d, rfl⟩) rfl (fun im him σ1 hs M' => by
        obtain ⟨d, _, rfl⟩ := List.mem_map.mp him
        cases hs
        exact (bin_ev (fb := fC (.int 1)) (b := .int 1) (var_ev (d := .int most) rfl) rfl).trans gAdd_int)
  rw [hM] at e1
  simp only [List.length_map] at l1
  have hw1 : Wf (M.set p x1) := wf_set hw o1
  obtain ⟨st, x2, e2, l2, r2, o2⟩ := m_law_stand_eq (k := k + 10) (M := M.set p x1) (p := p) (x := x1) (List.getElem?_set_self hp) hw1 hb (o1.less (by omega))
  rw [List.set_set] at e2
  have hw2 : Wf (M.set p x2) := wf_set hw o2
  obtain ⟨cn, rfl⟩ := Int.eq_ofNat_of_zero_le c0
  obtain ⟨hd, x3, e3, l3, r3, o3⟩ := draws_ev (M := M) (p := p) (x := x2) (k := k) (i := 5) (fi := fIt gRange1 (fCons (fBin gIx (fVar 1) (fC (.int 1))) fNil)) (fn := fC (.int 4)) (σ := [some (.ref p), some (boardT ws (cn : Int)), some (.int most), some (stepT wt), none, none]) (items := nums 0 cn) (n := 4) (N := 6) hp (by
      as_aux_lemma => exact range1_ev ((bin_ev (fb := fC (.int 1)) (b := .int 1) (var_ev (d := boardT ws (cn : Int)) rfl) rfl).trans board_1) (by omega) (by omega) (by omega)) hw2 (by rw [nums_len]; omega) (by rw [nums_len]; exact o2.less (by omega)) (by decide) (by decide) (by decide) (fun im him => by
        obtain ⟨i, hi, rfl⟩ := List.getElem_of_mem him
        have hlt : i < cn := by rw [nums_len] at hi; exact hi
        have e := nums_at cn 0 i hlt
        rw [List.getElem?_eq_getElem hi] at e
        exact ⟨_, Option.some.inj e⟩) rfl (fun im him σ1 hs M' => rfl)
  rw [nums_len] at l3
  have s1 : sSet 3 (fCall gTuple (fCons (fTrim (fCompC (fIter (fBin gIx (fVar 1) (fC (.int 0)))) [4] (.name 4) fYes (fCall m_law_draw_321cf4 (fCons (fVar 0) (fCons (fBin gAdd (fVar 2) (fC (.int 1))) fNil))))) fNil)) (startA 6 [.ref p, boardT ws (cn : Int), .int most]) M = .ok (.nx [some (.ref p), some (boardT ws (cn : Int)), some (.int most), some (stepT wt), none, none]) (M.set p x1) := by
    as_aux_lemma => exact set_ev ((call1_ev e1).trans rfl)
  have s2 := tup3_ev (σ := [some (.ref p), some (boardT ws (cn : Int)), some (.int most), some (stepT wt), none, none]) (M := M.set p x1) ((call2_ev (m := m_law_stand_d4b1d3) (fa := fVar 0) (fb := fVar 1) (var_ev rfl) (var_ev rfl)).trans e2) (fb := fVar 3) (b := stepT wt) (var_ev rfl) ((call1_ev (m := gTuple) e3).trans (show gTuple [.lst (hd.map D.int)] _ = .ok (stepT hd) _ from rfl))
  have sb : b_law_moment_bfcba9 (startA 6 [.ref p, boardT ws (cn : Int), .int most]) M = .ok (.rt (moT ⟨st, wt, hd⟩)) (M.set p x3) := (seq_nx s1).trans (ret_ev s2)
  refine ⟨⟨st, wt, hd⟩, x3, (run_rt (n := 6) (k := 3) rfl sb).trans (trim_id (by simp)), ⟨⟨l2, r2, l1, by dsimp only; omega⟩, fun y hy => (r1 y hy).1, fun y hy => (r3 y hy).1⟩, fun y hy => by have := (r1 y hy).2; omega, fun y hy => by have := (r3 y hy).2; omega, o3⟩
end
/-! ### waiting and held in one list -/
theorem bump_app {a b : List Int} {i : Nat} {d : Int} : bump (a ++ b) i d = if i < a.length then bump a i d ++ b else a ++ bump b (i - a.length) d := by
  unfold HX.bump
  split
  · rename_i h
    rw [List.set_append_left _ _ h, List.getD_eq_getElem?_getD, List.getElem?_append_left h, ← List.getD_eq_getElem?_getD]
  · rename_i h
    rw [List.set_append_right _ _ (by omega), List.getD_eq_getElem?_getD, List.getElem?_append_right (by omega), ← List.getD_eq_getElem?_getD]
theorem send_app {W : Nat} {p : List Int × List Int} {e : Int} (h0 : 0 ≤ e) (hl : p.1.length = W) : bump (p.1 ++ p.2) e.toNat 1 = (sendM W p e).1 ++ (sendM W p e).2 := by
  rw [bump_app]
  unfold sendM
  by_cases h : e < (W : Int)
  · rw [if_pos h, if_pos (by omega)]
  · rw [if_neg h, if_neg (by omega)]
    have : e.toNat - p.1.length = (e - (W : Int)).toNat := by omega
    rw [this]
theorem send_len1 {W : Nat} {p : List Int × List Int} {e : Int} : (sendM W p e).1.length = p.1.length := by
  unfold sendM
  split
  · exact bump_len
  · rfl
theorem sends_app {W : Nat} : ∀ (es : List Int) (p : List Int × List Int), (∀ e ∈ es, 0 ≤ e) → p.1.length = W → es.foldl (fun l e => bump l e.toNat 1) (p.1 ++ p.2) = (es.foldl (sendM W) p).1 ++ (es.foldl (sendM W) p).2
  | [], p, _, _ => rfl
  | e :: es, p, h, hl => by
    rw [List.foldl_cons, List.foldl_cons, send_app (h e List.mem_cons_self) hl]
    exact sends_app es _ (fun e he => h e (List.mem_cons_of_mem _ he)) (by rw [send_len1]; exact hl)
theorem mo_0 {m : Mo} {M : Mem} : gIx (moT m) (.int 0) M = .ok (stepT m.st) M := by simp [moT]
theorem mo_2 {m : Mo} {M : Mem} : gIx (moT m) (.int 2) M = .ok (stepT m.hd) M := by simp [moT]
section
variable {A M : Mem} {σ : Sa} {ws : List (List (List Int))} {c : Int} {m : Mo}
theorem mem2_0 {a b : Cell} : (A ++ ([a] ++ [b]))[A.length]? = some a := by rw [List.getElem?_append_right (Nat.le_refl _), Nat.sub_self]; rfl
theorem mem2_1 {a b : Cell} : (A ++ ([a] ++ [b]))[A.length + 1]? = some b := by rw [List.getElem?_append_right (by omega), Nat.add_sub_cancel_left]; rfl
theorem mem2_s0 {a b z : Cell} : (A ++ ([a] ++ [b])).set A.length z = A ++ ([z] ++ [b]) := by rw [List.set_append_right _ _ (Nat.le_refl _), Nat.sub_self]; rfl
theorem mem2_s1 {a b z : Cell} : (A ++ ([a] ++ [b])).set (A.length + 1) z = A ++ ([a] ++ [z]) := by rw [List.set_append_right _ _ (by omega), Nat.add_sub_cancel_left]; rfl
theorem sl_takeL {fa fb : F D} {ds : List D} {d : D} {k : Nat} (ha : fa σ M = .ok d M) (hl : listOf M d = some ds) (hb : fb σ M = .ok (.int (k : Int)) M) : fSl fa fNoPart (fPart fb) σ M = .ok (.lst (ds.take k)) M := by
  rw [ev_sl, ha, bind_ok, ev_nopart, bind_ok, ev_part, hb, bind_ok, bind_ok]
  have : gSl d none (some (k : Int)) M = match listOf M d with | some ds => .ok (.lst (cutD ds none (some (k : Int)))) M | none => .bad := by
    cases d <;> first | rfl | (cases hl)
  rw [this, hl]
  dsimp only
  rw [cut_take]
theorem sl_dropL {fa fb : F D} {ds : List D} {d : D} {k : Nat} (ha : fa σ M = .ok d M) (hl : listOf M d = some ds) (hb : fb σ M = .ok (.int (k : Int)) M) : fSl fa (fPart fb) fNoPart σ M = .ok (.lst (ds.drop k)) M := by
  rw [ev_sl, ha, bind_ok, ev_part, hb, bind_ok, bind_ok, ev_nopart, bind_ok]
  have : gSl d (some (k : Int)) none M = match listOf M d with | some ds => .ok (.lst (cutD ds (some (k : Int)) none)) M | none => .bad := by
    cases d <;> first | rfl | (cases hl)
  rw [this, hl]
  dsimp only
  rw [cut_drop]
theorem come_loop {st xs es : List Int} {l : List (Nat × D)} (hs : Has σ 6 l) (h4 : (4, D.ref (A.length + 1)) ∈ l) (h5 : ∀ q ∈ l, q.1 ≠ 5) (he : ∀ e ∈ es, 0 ≤ e ∧ e < (xs.length : Int)) :
    ∃ σ', forL (.name 5) (sSetIx (fVar 4) (fVar 5) (fBin gAdd (fBin gIx (fVar 4) (fVar 5)) (fC (.int 1)))) (fun _ => true) (A.length + 2) ((es.map D.int).map .d) σ (A ++ ([.lst (st.map D.int)] ++ [.lst (xs.map D.int)])) = .ok (.nx σ') (A ++ ([.lst (st.map D.int)] ++ [.lst ((es.foldl (fun l e => bump l e.toNat 1) xs).map D.int)])) ∧ Has σ' 6 l := by
  obtain ⟨σ', M', f1, ⟨rfl, _⟩, f3⟩ := for_items (b := sSetIx (fVar 4) (fVar 5) (fBin gAdd (fBin gIx (fVar 4) (fVar 5)) (fC (.int 1)))) (n := A.length + 2) (i := 5) (σ := σ) (M := A ++ ([.lst (st.map D.int)] ++ [.lst (xs.map D.int)])) (ds := es.map D.int) (fun j σ N => (N = A ++ ([.lst (st.map D.int)] ++ [.lst (((es.take j).foldl (fun l e => bump l e.toNat 1) xs).map D.int)]) ∧ ((es.take j).foldl (fun l e => bump l e.toNat 1) xs).length = xs.length) ∧ Has σ 6 l) ⟨⟨by simp, by simp⟩, hs⟩ (fun j σ N d hd hv => by
    obtain ⟨⟨rfl, hl⟩, hs⟩ := hv
    rw [List.getElem?_map] at hd
    cases q : es[j]? with
    | none => rw [q] at hd; cases hd
    | some e =>
      rw [q] at hd
      cases hd
      obtain ⟨e0, e1⟩ := he e (List.mem_of_getElem? q)
      obtain ⟨k, rfl⟩ := Int.eq_ofNat_of_zero_le e0
      have htake : (es.take (j + 1)).foldl (fun l e => bump l e.toNat 1) xs = bump ((es.take j).foldl (fun l e => bump l e.toNat 1) xs) k 1 := by
        rw [List.take_add_one, q, List.foldl_append]; rfl
      generalize (es.take j).foldl (fun l e => bump l e.toNat 1) xs = ys at hl htake
      have hk : k < ys.length := by omega
      have hs' : Has (σ.set 5 (some (.int (k : Int)))) 6 ((5, .int (k : Int)) :: l) := hs.put (by decide) h5
      generalize σ.set 5 (some (D.int (k : Int))) = σ1 at hs'
      have k4 := hs'.at (List.mem_cons_of_mem _ h4)
      have k5 := hs'.at (i := 5) (d := .int (k : Int)) (by simp)
      have ev : fBin gAdd (fBin gIx (fVar 4) (fVar 5)) (fC (.int 1)) σ1 (A ++ ([.lst (st.map D.int)] ++ [.lst (ys.map D.int)])) = .ok (.int (ys.getD k 0 + 1)) (A ++ ([.lst (st.map D.int)] ++ [.lst (ys.map D.int)])) := (bin_ev (b := .int 1) ((bin_ev (var_ev k4) (var_ev k5)).trans (ixCell mem2_1 hk)) rfl).trans gAdd_int
      refine ⟨σ1, A ++ ([.lst (st.map D.int)] ++ [.lst ((bump ys k 1).map D.int)]), .inl ?_, ?_⟩
      · refine (setIx_ev ev (var_ev k4) (var_ev k5) mem2_1 hk).trans ?_
        rw [mem2_s1]
        rfl
      · rw [gc_same (by simp)]
        exact ⟨⟨by rw [htake], by rw [htake, bump_len]; exact hl⟩, hs'.sub fun q hq => List.mem_cons_of_mem _ hq⟩)
  rw [List.length_map, List.take_length] at f1
  exact ⟨σ', f1, f3⟩
theorem m_law_handledN_eq {w : Nat} (hW : Wf M) (hb : BoardOk ws c) (hm : MoF ws c m) (hw : w < ws.length) : m_law_handled_e2124e [boardT ws c, moT m, .int (w : Int)] M = .ok (moT (handleM ws m w)) M := by
  have wlt : w < m.wt.length := by rw [hm.wl]; exact hw
  have slt : w < m.st.length := by rw [hm.sl]; exact hw
  have hx : ws[w]? = some (ws.getD w []) := by rw [List.getD_eq_getElem?_getD, List.getElem?_eq_getElem hw]; rfl
  have hsx : m.st[w]? = some (m.st.getD w 0) := by rw [List.getD_eq_getElem?_getD, List.getElem?_eq_getElem slt]; rfl
  obtain ⟨r0, r1⟩ := hm.sr w _ _ hsx hx
  obtain ⟨v1, v4, vs⟩ := hb.wheels (ws.getD w []) (List.mem_of_getElem? hx)
  have hin : endsAt ws m.st w ∈ ws.getD w [] := by
    unfold endsAt
    rw [List.getD_eq_getElem?_getD (l := ws.getD w []), List.getElem?_eq_getElem (by omega)]
    exact List.getElem_mem _
  obtain ⟨e3, er⟩ := vs _ hin
  have hl3 := hm.hl
  have hl2 := hm.wl
  have w6 := hb.w6
  have c4 := hb.c4
  have hadd : ∀ N : Mem, gAdd (stepT m.wt) (stepT m.hd) N = .ok (stepT (m.wt ++ m.hd)) N := fun N => by
    show gAdd (.tup (m.wt.map D.int)) (.tup (m.hd.map D.int)) N = _
    rw [gAdd_tup, if_pos (ok_few (by rw [sizeLine_eq, List.length_map, List.length_map]; omega)), ← List.map_append]
    rfl
  have lc : ∀ (M : Mem) (x : List Int), gListC [stepT x] M = .ok (.ref M.length) (M ++ [.lst (x.map D.int)]) := fun M x => rfl
  have s1 : sPar 3 4 (fCons (fCall gListC (fCons (fBin gIx (fVar 1) (fC (.int 0))) fNil)) (fCons (fCall gListC (fCons (fBin gAdd (fBin gIx (fVar 1) (fC (.int 1))) (fBin gIx (fVar 1) (fC (.int 2)))) fNil)) fNil)) (startA 6 [boardT ws c, moT m, .int (w : Int)]) M = .ok (.nx [some (boardT ws c), some (moT m), some (.int (w : Int)), some (.ref M.length), some (.ref (M.length + 1)), none]) (M ++ ([.lst (m.st.map D.int)] ++ [.lst ((m.wt ++ m.hd).map D.int)])) := by
    as_aux_lemma =>
      have q := par_ev (i := 3) (j := 4) (σ := startA 6 [boardT ws c, moT m, .int (w : Int)]) (M := M) ((call1_ev (m := gListC) ((bin_ev (fa := fVar 1) (fb := fC (.int 0)) (b := .int 0) (var_ev (d := moT m) rfl) rfl).trans mo_0)).trans (lc M m.st)) ((call1_ev (m := gListC) ((bin_ev ((bin_ev (fa := fVar 1) (fb := fC (.int 1)) (b := .int 1) (var_ev (d := moT m) rfl) rfl).trans mo_1) ((bin_ev (fa := fVar 1) (fb := fC (.int 2)) (b := .int 2) (var_ev (d := moT m) rfl) rfl).trans mo_2)).trans (hadd _))).trans (lc _ _))
      rw [List.length_append, List.append_assoc] at q
      exact q
  have hs : Has [some (boardT ws c), some (moT m), some (.int (w : Int)), some (.ref M.length), some (.ref (M.length + 1)), none] 6 [(0, boardT ws c), (2, .int (w : Int)), (3, .ref M.length), (4, .ref (M.length + 1))] := by
    refine ⟨rfl, fun q hq => ?_⟩
    simp only [List.mem_cons, List.mem_nil_iff, or_false] at hq
    rcases hq with rfl | rfl | rfl | rfl <;> rfl
  generalize [some (boardT ws c), some (moT m), some (.int (w : Int)), some (.ref M.length), some (.ref (M.length + 1)), none] = σ1 at s1 hs
  have k0 := hs.at (i := 0) (d := boardT ws c) (by simp)
  have k2 := hs.at (i := 2) (d := .int (w : Int)) (by simp)
  have k3 := hs.at (i := 3) (d := .ref M.length) (by simp)
  have k4 := hs.at (i := 4) (d := .ref (M.length + 1)) (by simp)
  have wl2 : w < (m.wt ++ m.hd).length := by rw [List.length_append]; omega
  have s2 : sSetIx (fVar 4) (fVar 2) (fBin gSub (fBin gIx (fVar 4) (fVar 2)) (fC (.int 1))) σ1 (M ++ ([.lst (m.st.map D.int)] ++ [.lst ((m.wt ++ m.hd).map D.int)])) = .ok (.nx σ1) (M ++ ([.lst (m.st.map D.int)] ++ [.lst ((bump m.wt w (-1) ++ m.hd).map D.int)])) := by
    as_aux_lemma =>
      have ev : fBin gSub (fBin gIx (fVar 4) (fVar 2)) (fC (.int 1)) σ1 (M ++ ([.lst (m.st.map D.int)] ++ [.lst ((m.wt ++ m.hd).map D.int)])) = .ok (.int ((m.wt ++ m.hd).getD w 0 - 1)) (M ++ ([.lst (m.st.map D.int)] ++ [.lst ((m.wt ++ m.hd).map D.int)])) := (bin_ev (b := .int 1) ((bin_ev (var_ev k4) (var_ev k2)).trans (ixCell mem2_1 wl2)) rfl).trans gSub_int
      refine (setIx_ev ev (var_ev k4) (var_ev k2) mem2_1 wl2).trans ?_
      rw [mem2_s1]
      have : (m.wt ++ m.hd).set w ((m.wt ++ m.hd).getD w 0 - 1) = bump m.wt w (-1) ++ m.hd := by
        have := bump_app (a := m.wt) (b := m.hd) (i := w) (d := -1)
        rw [if_pos wlt] at this
        rw [← this]
        rfl
      rw [this]
  obtain ⟨σ3, f3, hs3⟩ := come_loop (A := M) (st := m.st) (xs := bump m.wt w (-1) ++ m.hd) (es := endsAt ws m.st w) hs (by simp) (by simp) (fun e he => by
    have := er e he
    rw [List.length_append, bump_len]
    omega)
  rw [sends_app (W := ws.length) (endsAt ws m.st w) (bump m.wt w (-1), m.hd) (fun e he => (er e he).1) (by dsimp only; rw [bump_len]; exact hl2)] at f3
  have s3 : sFor (fIter (fBin gIx (fBin gIx (fBin gIx (fVar 0) (fC (.int 0))) (fVar 2)) (fBin gIx (fVar 3) (fVar 2)))) (.name 5) (sSetIx (fVar 4) (fVar 5) (fBin gAdd (fBin gIx (fVar 4) (fVar 5)) (fC (.int 1)))) σ1 (M ++ ([.lst (m.st.map D.int)] ++ [.lst ((bump m.wt w (-1) ++ m.hd).map D.int)])) = .ok (.nx σ3) (M ++ ([.lst (m.st.map D.int)] ++ [.lst (((sentM ws m w).1 ++ (sentM ws m w).2).map D.int)])) := by
    as_aux_lemma =>
      refine for_of (M1 := M ++ ([.lst (m.st.map D.int)] ++ [.lst ((bump m.wt w (-1) ++ m.hd).map D.int)])) (items := ((endsAt ws m.st w).map D.int).map .d) ?_ ?_
      · rw [ev_iter, bin_ev ((bin_ev ((bin_ev (fb := fC (.int 0)) (b := .int 0) (var_ev k0) rfl).trans board_0) (var_ev k2)).trans (wheel_at hw)) ((bin_ev (var_ev k3) (var_ev k2)).trans (ixCell mem2_0 slt)), step_at r0 r1]
        rfl
      · have : (M ++ ([Cell.lst (m.st.map D.int)] ++ [Cell.lst ((bump m.wt w (-1) ++ m.hd).map D.int)])).length = M.length + 2 := by simp
        rw [this]
        exact f3
  have j0 := hs3.at (i := 0) (d := boardT ws c) (by simp)
  have j2 := hs3.at (i := 2) (d := .int (w : Int)) (by simp)
  have j3 := hs3.at (i := 3) (d := .ref M.length) (by simp)
  have j4 := hs3.at (i := 4) (d := .ref (M.length + 1)) (by simp)
  have s4 : sSetIx (fVar 3) (fVar 2) (fBin gMod (fBin gAdd (fBin gIx (fVar 3) (fVar 2)) (fC (.int 1))) (fCall gLen (fCons (fBin gIx (fBin gIx (fVar 0) (fC (.int 0))) (fVar 2)) fNil))) σ3 (M ++ ([.lst (m.st.map D.int)] ++ [.lst (((sentM ws m w).1 ++ (sentM ws m w).2).map D.int)])) = .ok (.nx σ3) (M ++ ([.lst ((handleM ws m w).st.map D.int)] ++ [.lst (((sentM ws m w).1 ++ (sentM ws m w).2).map D.int)])) := by
    as_aux_lemma =>
      have ev : fBin gMod (fBin gAdd (fBin gIx (fVar 3) (fVar 2)) (fC (.int 1))) (fCall gLen (fCons (fBin gIx (fBin gIx (fVar 0) (fC (.int 0))) (fVar 2)) fNil)) σ3 (M ++ ([.lst (m.st.map D.int)] ++ [.lst (((sentM ws m w).1 ++ (sentM ws m w).2).map D.int)])) = .ok (.int ((m.st.getD w 0 + 1) % ((ws.getD w []).length : Int))) (M ++ ([.lst (m.st.map D.int)] ++ [.lst (((sentM ws m w).1 ++ (sentM ws m w).2).map D.int)])) := by
        refine (bin_ev (a := .int (m.st.getD w 0 + 1)) (b := .int (ws.getD w []).length) ((bin_ev (fb := fC (.int 1)) (b := .int 1) ((bin_ev (var_ev j3) (var_ev j2)).trans (ixCell mem2_0 slt)) rfl).trans gAdd_int) ((call1_ev ((bin_ev ((bin_ev (fb := fC (.int 0)) (b := .int 0) (var_ev j0) rfl).trans board_0) (var_ev j2)).trans (wheel_at hw))).trans (wheel_len _))).trans ?_
        rw [gMod_int]
        exact if_pos (by rw [decide_eq_true_eq]; omega)
      refine (setIx_ev ev (var_ev j3) (var_ev j2) mem2_0 slt).trans ?_
      rw [mem2_s0]
      rfl
  have sl1 : (sentM ws m w).1.length = ws.length := by
    have := (send_len ws.length (endsAt ws m.st w) (bump m.wt w (-1), m.hd)).1
    unfold sentM
    rw [this]
    dsimp only
    rw [bump_len]
    exact hl2
  have hsl : (handleM ws m w).st.length = ws.length := by
    show (m.st.set w _).length = _
    rw [List.length_set]
    exact hm.sl
  have len3 : ∀ N : Mem, N[M.length]? = some (.lst ((handleM ws m w).st.map D.int)) → fCall gLen (fCons (fVar 3) fNil) σ3 N = .ok (.int (ws.length : Int)) N := fun N hN => (call1_ev (var_ev j3)).trans (by rw [gLen_ref hN, List.length_map, hsl])
  have s5 : sRet (fTup (fCons (fCall gTuple (fCons (fVar 3) fNil)) (fCons (fCall gTuple (fCons (fSl (fVar 4) fNoPart (fPart (fCall gLen (fCons (fVar 3) fNil)))) fNil)) (fCons (fCall gTuple (fCons (fSl (fVar 4) (fPart (fCall gLen (fCons (fVar 3) fNil))) fNoPart) fNil)) fNil)))) σ3 (M ++ ([.lst ((handleM ws m w).st.map D.int)] ++ [.lst (((sentM ws m w).1 ++ (sentM ws m w).2).map D.int)])) = .ok (.rt (moT (handleM ws m w))) (M ++ ([.lst ((handleM ws m w).st.map D.int)] ++ [.lst (((sentM ws m w).1 ++ (sentM ws m w).2).map D.int)])) := by
    as_aux_lemma =>
      refine ret_ev ?_
      have hl : ∀ N : Mem, N[M.length + 1]? = some (.lst (((sentM ws m w).1 ++ (sentM ws m w).2).map D.int)) → listOf N (.ref (M.length + 1)) = some (((sentM ws m w).1 ++ (sentM ws m w).2).map D.int) := fun N hN => by rw [listOf_ref, hN]
      have t1 := sl_takeL (σ := σ3) (fa := fVar 4) (var_ev j4) (hl _ (mem2_1 (A := M) (a := .lst ((handleM ws m w).st.map D.int)))) (len3 _ mem2_0)
      have t2 := sl_dropL (σ := σ3) (fa := fVar 4) (var_ev j4) (hl _ (mem2_1 (A := M) (a := .lst ((handleM ws m w).st.map D.int)))) (len3 _ mem2_0)
      rw [← List.map_take, List.take_left' sl1] at t1
      rw [← List.map_drop, List.drop_left' sl1] at t2
      exact tup3_ev ((call1_ev (var_ev j3)).trans (gTuple_ref mem2_0)) ((call1_ev t1).trans gTuple_lst) ((call1_ev t2).trans gTuple_lst)
  have sb : b_law_handled_e2124e (startA 6 [boardT ws c, moT m, .int (w : Int)]) M = .ok (.rt (moT (handleM ws m w))) (M ++ ([.lst ((handleM ws m w).st.map D.int)] ++ [.lst (((sentM ws m w).1 ++ (sentM ws m w).2).map D.int)])) := (seq_nx s1).trans ((seq_nx s2).trans ((seq_nx s3).trans ((seq_nx s4).trans s5)))
  exact (run_rt (n := 6) (k := 3) rfl sb).trans (trim_app rfl hW (und_mo _))
end
end QX

set_option maxRecDepth 100000
set_option maxHeartbeats 1000000
/-! QZ24: rows beat by beat -/
namespace QX
open PySem PySem.Spec PyProof.Rows L2 HX
def rowOf (folk : Nat) (m : Mo) : List Nat := (readyIx 0 m.wt).take folk
def beatM (ws : List (List (List Int))) (m : Mo) (row : List Nat) : Mo := row.foldl (handleM ws) m
def rowsM (ws : List (List (List Int))) (folk : Nat) : Nat → Mo → List (List Nat)
  | 0, _ => []
  | n + 1, m => if 0 < mxI m.wt then rowOf folk m :: rowsM ws folk n (beatM ws m (rowOf folk m)) else []
theorem intsOf_map : ∀ xs : List Int, intsOf (xs.map D.int) = some xs
  | [] => rfl
  | x :: xs => by
    show (match intsOf (xs.map D.int) with | some bs => some (x :: bs) | none => none) = _
    rw [intsOf_map xs]
theorem gMx_ev {f : List Int → Int} {M : Mem} {d : D} {xs : List Int} (h : seqOf M d = some (xs.map D.int)) (hn : xs ≠ []) : gMx f [d] M = .ok (.int (f xs)) M := by
  unfold gMx
  dsimp only
  rw [h]
  dsimp only
  rw [intsOf_map]
  cases xs with
  | nil => exact absurd rfl hn
  | cons x xs => rfl
theorem row_lt {folk : Nat} {m : Mo} {i : Nat} (h : i ∈ rowOf folk m) : i < m.wt.length := by
  have := ready_mem m.wt 0 i (List.mem_of_mem_take h)
  omega
theorem row_len {folk : Nat} {m : Mo} : (rowOf folk m).length ≤ m.wt.length := by
  unfold rowOf
  rw [List.length_take]
  have := ready_len m.wt 0
  omega
theorem beat_ok {ws : List (List (List Int))} {c : Int} (hb : BoardOk ws c) : ∀ (row : List Nat) (m : Mo), MoF ws c m → MoF ws c (beatM ws m row)
  | [], m, h => h
  | i :: row, m, h => beat_ok hb row (handleM ws m i) (h.handle fun x hx => (hb.wheels x hx).1)
theorem rows_ok {ws : List (List (List Int))} {c : Int} {folk : Nat} (hb : BoardOk ws c) : ∀ (n : Nat) (m : Mo), MoF ws c m → (rowsM ws folk n m).length ≤ n ∧ ∀ row ∈ rowsM ws folk n m, row.length ≤ ws.length ∧ ∀ i ∈ row, i < ws.length
  | 0, m, h => ⟨Nat.le_refl _, fun r hr => by simp [rowsM] at hr⟩
  | n + 1, m, h => by
    unfold rowsM
    split
    · obtain ⟨a, b⟩ := rows_ok (folk := folk) hb n _ (beat_ok hb (rowOf folk m) m h)
      refine ⟨by rw [List.length_cons]; omega, fun r hr => ?_⟩
      rcases List.mem_cons.mp hr with rfl | hr
      · exact ⟨by rw [← h.wl]; exact row_len, fun i hi => by rw [← h.wl]; exact row_lt hi⟩
      · exact b r hr
    · exact ⟨Nat.zero_le _, fun r hr => by simp at hr⟩
theorem und_row {n : Nat} (row : List Nat) : (rowT row).und n = true := by
  simp only [rowT, D.und]
  exact undA_map (fun _ => rfl) row
theorem und_rows {n : Nat} (rows : List (List Nat)) : D.undA n (rows.map rowT) = true := undA_map (fun _ => und_row _) rows
theorem comp_filtC {fi : F Ita} {vs : List Nat} {t : Tg} {c : F Bool} {e : F D} {σ : Sa} {M : Mem} {it : Ita} (p : Im → Bool) (f : Im → D) (hi : fi σ M = .ok it M) (hc : ∀ acc, it.chk (M ++ [.lst acc]) = true) (hw : Wf M) (hl : it.items.length ≤ 1000000)
    (he : ∀ im ∈ it.items, (f im).und M.length = true ∧ ∃ σ1, t.put im (wipeA σ vs) = some σ1 ∧ ∀ M', c σ1 M' = .ok (p im) M' ∧ (p im = true → e σ1 M' = .ok (f im) M')) : fTrim (fCompC fi vs t c e) σ M = .ok (.lst ((it.items.filter p).map f)) M := by
  unfold fTrim fCompC
  rw [hi]
  dsimp only [Res.bind]
  have hund : ∀ j, D.undA M.length (((it.items.take j).filter p).map f) = true := by
    intro j
    rw [undA_iff]
    intro d hd
    obtain ⟨im', him', rfl⟩ := List.mem_map.mp hd
    exact (he im' (List.mem_of_mem_take (List.mem_filter.mp him').1)).1
  obtain ⟨acc', M', h1, ⟨h2, h3⟩, _⟩ := comp_loop (t := t) (c := c) (e := e) (chk := it.chk) (σ := wipeA σ vs) (n := M.length) (fun j acc M2 => acc = ((it.items.take j).filter p).map f ∧ M2 = M ++ [.lst acc]) it.items 0 [] (M ++ [.lst []]) (by simpa using hl) (fun j acc M2 im hj _ hv => by
    obtain ⟨ha, hM⟩ := hv
    subst hM
    rw [Nat.sub_zero] at hj
    obtain ⟨hu, σ1, hp, hev⟩ := he im (List.mem_of_getElem? hj)
    obtain ⟨hq, hr⟩ := hev (M ++ [.lst acc])
    have ht : (it.items.take (j + 1)) = it.items.take j ++ [im] := by rw [List.take_add_one, hj]; rfl
    refine ⟨hc _, σ1, hp, ?_⟩
    cases q : p im with
    | false =>
      refine .inl ⟨_, by rw [hq, q], ?_, rfl⟩
      rw [ht, List.filter_append, List.map_append, ← ha]
      simp [q]
    | true =>
      refine .inr ⟨_, f im, _, by rw [hq, q], hr q, ?_, ?_, ?_⟩
      · rw [List.getElem?_append_right (Nat.le_refl _), Nat.sub_self]; rfl
      · rw [ht, List.filter_append, List.map_append, ← ha]
        simp [q]
      · rw [List.set_append_right _ _ (Nat.le_refl _), Nat.sub_self]; rfl) (fun acc M2 hv => by rw [hv.2]; exact hc _) ⟨by simp, rfl⟩
  subst h3
  rw [h1]
  dsimp only
  rw [Nat.zero_add, List.take_length] at h2
  rw [h2]
  refine trim_ref (g := []) rfl hw ?_
  have := hund it.items.length
  rw [List.take_length] at this
  exact this
/-- [i for i, v in enumerate(waiting) if v > 0], of a tuple or a cell -/
theorem ready_ev {fa : F D} {σ : Sa} {M : Mem} {d : D} {wt : List Int} {chk : Mem → Bool} {a b N : Nat} (ha : fa σ M = .ok d M) (hd : seqI M d = some (wt.map D.int, chk)) (hc : ∀ acc, chk (M ++ [.lst acc]) = true) (hw : Wf M) (hl : wt.length ≤ 1000) (hN : σ.length = N) (hab : a < b) (hbN : b < N) :
    fTrim (fCompC (fIt gEnum (fCons fa fNil)) [a, b] (.tup [a, b]) (fTest (fBin (gCmp cGt) (fVar b) (fC (.int 0)))) (fVar a)) σ M = .ok (.lst (ixs (readyIx 0 wt))) M := by
  have h := comp_filtC (fi := fIt gEnum (fCons fa fNil)) (vs := [a, b]) (t := .tup [a, b]) (c := fTest (fBin (gCmp cGt) (fVar b) (fC (.int 0)))) (e := fVar a) (σ := σ) (M := M) (it := ⟨enumI 0 (wt.map D.int), chk⟩) pP fP (by
      rw [ev_it, ev_cons, ha, bind_ok, ev_nil, bind_ok, bind_ok]
      simp only [gEnum, hd]) hc hw (by simp only [enum_len, List.length_map]; omega) (fun im him => by
        obtain ⟨j, v, rfl⟩ := enum_memI wt 0 im him
        refine ⟨rfl, setAll (wipeA σ [a, b]) [a, b] [.int j, .int v], rfl, fun M' => ?_⟩
        have hl2 : (wipeA σ [a, b]).length = N := by
          show ((σ.set b none).set a none).length = N
          rw [List.length_set, List.length_set, hN]
        have kb : (setAll (wipeA σ [a, b]) [a, b] [.int j, .int v])[b]? = some (some (.int v)) := by
          show (((wipeA σ [a, b]).set a (some (.int j))).set b (some (.int v)))[b]? = _
          exact List.getElem?_set_self (by rw [List.length_set]; omega)
        have ka : (setAll (wipeA σ [a, b]) [a, b] [.int j, .int v])[a]? = some (some (.int j)) := by
          show (((wipeA σ [a, b]).set a (some (.int j))).set b (some (.int v)))[a]? = _
          rw [List.getElem?_set_ne (by omega)]
          exact List.getElem?_set_self (by omega)
        refine ⟨?_, fun _ => var_ev ka⟩
        refine test_ev ((bin_ev (fb := fC (.int 0)) (b := .int 0) (var_ev kb) rfl).trans ?_)
        simp [cGt, pP])
  have e := enum_ready wt 0
  rw [show ((0 : Nat) : Int) = 0 from rfl] at e
  dsimp only at h
  rw [e] at h
  exact h
theorem while_go {c : F Bool} {b : FS} {n k : Nat} {σ σ2 : Sa} {M M2 : Mem} (hc : c σ M = .ok true M) (hb : b σ M = .ok (.nx σ2) M2) (hg : M2.length = n) : whileL c b n (k + 1) σ M = whileL c b n k σ2 M2 := by
  conv => lhs; unfold whileL
  rw [hc, bindS_ok, if_pos rfl, hb]
  dsimp only
  rw [gc_same hg]
theorem while_stop {c : F Bool} {b : FS} {n k : Nat} {σ : Sa} {M : Mem} (hc : c σ M = .ok false M) : whileL c b n (k + 1) σ M = .ok (.nx σ) M := by
  conv => lhs; unfold whileL
  rw [hc]
  rfl
section
variable {M : Mem} {σ : Sa} {ws : List (List (List Int))} {c : Int} {m : Mo} {folk most : Nat}
/-! ### the law's own -/
def rwC : F Bool := (fAndT (fTest (fBin (gCmp cLt) (fCall gLen (fCons (fVar 4) fNil)) (fVar 3))) (fTest (fBin (gCmp cGt) (fCall (gMx mxI) (fCons (fBin gIx (fVar 1) (fC (.int 1))) fNil)) (fC (.int 0)))))
def rwF : FS := (sSet 1 (fCall m_law_handled_e2124e (fCons (fVar 0) (fCons (fVar 1) (fCons (fVar 6) fNil)))))
def rwB : FS := (sSeq (sSet 5 (fSl (fTrim (fCompC (fIt gEnum (fCons (fBin gIx (fVar 1) (fC (.int 1))) fNil)) [6, 7] (.tup [6, 7]) (fTest (fBin (gCmp cGt) (fVar 7) (fC (.int 0)))) (fVar 6))) fNoPart (fPart (fVar 2))))
  (sSeq (sFor (fIter (fVar 5)) (.name 6) rwF)
  (sExpr (fMeth gAppend (fVar 4) (fCons (fCall gTuple (fCons (fVar 5) fNil)) fNil)))))
theorem rows_body {fu : Nat} : b_law_rows_5da548 fu = (sSeq (sSet 4 (fNew fNil)) (sSeq (sWhile fu rwC rwB) (sRet (fTup (fCons (fVar 4) (fCons (fVar 1) fNil)))))) := rfl
abbrev rwH (ws : List (List (List Int))) (c : Int) (folk most : Nat) (m : Mo) (n : Nat) : List (Nat × D) := [(1, moT m), (0, boardT ws c), (2, .int (folk : Int)), (3, .int (most : Int)), (4, .ref n)]
theorem wt_ne (hb : BoardOk ws c) (hm : MoF ws c m) : m.wt ≠ [] := by
  intro e
  have h1 := hm.wl
  have h2 := hb.w1
  rw [e] at h1
  simp at h1
  omega
theorem rwC_eq {rows : List (List Nat)} (hb : BoardOk ws c) (hm : MoF ws c m) (hs : Has σ 8 (rwH ws c folk most m M.length)) : rwC σ (M ++ [.lst (rows.map rowT)]) = .ok (decide (rows.length < most) && decide (0 < mxI m.wt)) (M ++ [.lst (rows.map rowT)]) := by
  refine andT_ev (test_ev ?_) fun _ => test_ev ?_
  · refine (bin_ev ((call1_ev (var_ev (hs.at (i := 4) (d := .ref M.length) (by simp)))).trans (gLen_ref (last_at rfl))) (var_ev (hs.at (i := 3) (d := .int (most : Int)) (by simp)))).trans ?_
    rw [gCmp_int, List.length_map]
    simp [cLt]
  · refine (bin_ev (b := .int 0) ((call1_ev ((bin_ev (fb := fC (.int 1)) (b := .int 1) (var_ev (hs.at (i := 1) (d := moT m) (by simp))) rfl).trans mo_1)).trans (gMx_ev (xs := m.wt) rfl (wt_ne hb hm))) rfl).trans ?_
    rw [gCmp_int]
theorem rwB_eq {rows : List (List Nat)} (hw : Wf M) (hb : BoardOk ws c) (hm : MoF ws c m) (hr : rows.length ≤ 1000) (hs : Has σ 8 (rwH ws c folk most m M.length)) :
    ∃ σ', rwB σ (M ++ [.lst (rows.map rowT)]) = .ok (.nx σ') (M ++ [.lst ((rows ++ [rowOf folk m]).map rowT)]) ∧ Has σ' 8 (rwH ws c folk most (beatM ws m (rowOf folk m)) M.length) := by
  have w6 := hb.w6
  have hl2 := hm.wl
  have hW : Wf (M ++ [.lst (rows.map rowT)]) := hw.push (und_rows rows)
  have e1 := ready_ev (fa := fBin gIx (fVar 1) (fC (.int 1))) (σ := σ) (M := M ++ [.lst (rows.map rowT)]) (d := stepT m.wt) (wt := m.wt) (chk := fun _ => true) (a := 6) (b := 7) (N := 8) ((bin_ev (fb := fC (.int 1)) (b := .int 1) (var_ev (hs.at (i := 1) (d := moT m) (by simp))) rfl).trans mo_1) rfl (fun _ => rfl) hW (by omega) hs.1 (by decide) (by decide)
  have e2 := sl_takeL (k := folk) (σ := σ) e1 rfl (fb := fVar 2) (var_ev (hs.at (i := 2) (d := .int (folk : Int)) (by simp)))
  have hix : (ixs (readyIx 0 m.wt)).take folk = ixs (rowOf folk m) := by
    unfold ixs rowOf
    rw [List.map_take]
  rw [hix] at e2
  have s1 : sSet 5 (fSl (fTrim (fCompC (fIt gEnum (fCons (fBin gIx (fVar 1) (fC (.int 1))) fNil)) [6, 7] (.tup [6, 7]) (fTest (fBin (gCmp cGt) (fVar 7) (fC (.int 0)))) (fVar 6))) fNoPart (fPart (fVar 2))) σ (M ++ [.lst (rows.map rowT)]) = .ok (.nx (σ.set 5 (some (.lst (ixs (rowOf folk m)))))) (M ++ [.lst (rows.map rowT)]) := set_ev e2
  have hs1 : Has (σ.set 5 (some (.lst (ixs (rowOf folk m))))) 8 ((5, .lst (ixs (rowOf folk m))) :: rwH ws c folk most m M.length) := hs.put (by decide) (by simp)
  generalize σ.set 5 (some (D.lst (ixs (rowOf folk m)))) = σ1 at s1 hs1
  obtain ⟨σ2, M2, f2, ⟨hs2, _⟩, rfl⟩ := for_items (b := rwF) (n := (M ++ [Cell.lst (rows.map rowT)]).length) (i := 6) (σ := σ1) (M := M ++ [.lst (rows.map rowT)]) (ds := ixs (rowOf folk m)) (fun j σ N => (Has σ 8 ((5, .lst (ixs (rowOf folk m))) :: rwH ws c folk most (beatM ws m ((rowOf folk m).take j)) M.length) ∧ MoF ws c (beatM ws m ((rowOf folk m).take j))) ∧ N = M ++ [.lst (rows.map rowT)]) ⟨⟨hs1, hm⟩, rfl⟩ (fun j σ N d hd hv => by
    obtain ⟨⟨hs, hmj⟩, rfl⟩ := hv
    unfold ixs at hd
    rw [List.getElem?_map] at hd
    cases q : (rowOf folk m)[j]? with
    | none => rw [q] at hd; cases hd
    | some i =>
      rw [q] at hd
      cases hd
      have hi : i < ws.length := by rw [← hl2]; exact row_lt (List.mem_of_getElem? q)
      have htake : beatM ws m ((rowOf folk m).take (j + 1)) = handleM ws (beatM ws m ((rowOf folk m).take j)) i := by
        unfold beatM
        rw [List.take_add_one, q, List.foldl_append]
        rfl
      have hs' : Has (σ.set 6 (some (.int (i : Int)))) 8 ((6, .int (i : Int)) :: (5, .lst (ixs (rowOf folk m))) :: rwH ws c folk most (beatM ws m ((rowOf folk m).take j)) M.length) := hs.put (by decide) (by simp)
      generalize σ.set 6 (some (D.int (i : Int))) = σ1 at hs'
      refine ⟨σ1.set 1 (some (moT (handleM ws (beatM ws m ((rowOf folk m).take j)) i))), _, .inl (set_ev ((call3_ev (var_ev (hs'.at (i := 0) (d := boardT ws c) (by simp))) (var_ev (hs'.at (i := 1) (d := moT (beatM ws m ((rowOf folk m).take j))) (by simp))) (var_ev (hs'.at (i := 6) (d := .int (i : Int)) (by simp)))).trans (m_law_handledN_eq hW hb hmj hi))), ?_⟩
      rw [gc_same rfl, htake]
      refine ⟨⟨?_, hmj.handle fun x hx => (hb.wheels x hx).1⟩, rfl⟩
      have q1 := (hs'.sub (l' := [(5, .lst (ixs (rowOf folk m))), (0, boardT ws c), (2, .int (folk : Int)), (3, .int (most : Int)), (4, .ref M.length)]) (by simp)).put (i := 1) (d := moT (handleM ws (beatM ws m ((rowOf folk m).take j)) i)) (by decide) (by simp)
      refine q1.sub fun q hq => ?_
      simp only [rwH, List.mem_cons, List.mem_nil_iff, or_false] at hq ⊢
      rcases hq with h | h | h | h | h | h
      · exact .inr (.inl h)
      · exact .inl h
      · exact .inr (.inr (.inl h))
      · exact .inr (.inr (.inr (.inl h)))
      · exact .inr (.inr (.inr (.inr (.inl h))))
      · exact .inr (.inr (.inr (.inr (.inr h)))))
  have hlen : (ixs (rowOf folk m)).length = (rowOf folk m).length := by unfold ixs; rw [List.length_map]
  rw [hlen, List.take_length] at hs2
  have s2 : sFor (fIter (fVar 5)) (.name 6) rwF σ1 (M ++ [.lst (rows.map rowT)]) = .ok (.nx σ2) (M ++ [.lst (rows.map rowT)]) := for_of (items := (ixs (rowOf folk m)).map .d) (by rw [ev_iter, var_ev (hs1.at (i := 5) (d := .lst (ixs (rowOf folk m))) (by simp))]; rfl) f2
  have s3 := meth_last (A := M) (es := rows.map rowT) (a := 4) (σ := σ2) (fe := fCall gTuple (fCons (fVar 5) fNil)) (d := rowT (rowOf folk m)) (hs2.at (by simp)) ((call1_ev (var_ev (hs2.at (i := 5) (d := .lst (ixs (rowOf folk m))) (by simp)))).trans rfl) (by rw [List.length_map]; exact hr)
  have e3 : rows.map rowT ++ [rowT (rowOf folk m)] = (rows ++ [rowOf folk m]).map rowT := by simp
  rw [e3] at s3
  exact ⟨σ2, (seq_nx s1).trans ((seq_nx s2).trans s3), hs2.sub fun q hq => List.mem_cons_of_mem _ hq⟩
theorem rw_while (hw : Wf M) (hb : BoardOk ws c) (hmost : most ≤ 1000) : ∀ (r fu : Nat) (m : Mo) (rows : List (List Nat)) (σ : Sa), r + 1 ≤ fu → rows.length + r = most → MoF ws c m → Has σ 8 (rwH ws c folk most m M.length) →
    ∃ σ' m', whileL rwC rwB (M.length + 1) fu σ (M ++ [.lst (rows.map rowT)]) = .ok (.nx σ') (M ++ [.lst ((rows ++ rowsM ws folk r m).map rowT)]) ∧ Has σ' 8 (rwH ws c folk most m' M.length)
  | 0, fu, m, rows, σ, hf, hl, hm, hs => by
    obtain ⟨k, rfl⟩ : ∃ k, fu = k + 1 := ⟨fu - 1, by omega⟩
    refine ⟨σ, m, ?_, hs⟩
    rw [while_stop ((rwC_eq hb hm hs).trans (by rw [decide_eq_false (by omega : ¬ rows.length < most)]; rfl))]
    simp [rowsM]
  | r + 1, fu, m, rows, σ, hf, hl, hm, hs => by
    obtain ⟨k, rfl⟩ : ∃ k, fu = k + 1 := ⟨fu - 1, by omega⟩
    have hc := rwC_eq (rows := rows) hb hm hs
    rw [decide_eq_true (by omega : rows.length < most), Bool.true_and] at hc
    unfold rowsM
    by_cases hp : 0 < mxI m.wt
    · rw [decide_eq_true hp] at hc
      obtain ⟨σ1, g1, g2⟩ := rwB_eq (rows := rows) hw hb hm (by omega) hs
      obtain ⟨σ', m', a, b⟩ := rw_while hw hb hmost r k (beatM ws m (rowOf folk m)) (rows ++ [rowOf folk m]) σ1 (by omega) (by rw [List.length_append]; simp; omega) (beat_ok hb _ m hm) g2
      refine ⟨σ', m', ?_, b⟩
      rw [while_go hc g1 (by simp), a, if_pos hp]
      simp
    · rw [decide_eq_false hp] at hc
      refine ⟨σ, m, ?_, hs⟩
      rw [while_stop hc, if_neg hp]
      simp
theorem trim_pair {A : Mem} {ds : List D} {d : D} (hA : Wf A) (hd : D.undA A.length ds = true) (hu : d.und A.length = true) : trimR A.length (.ok (.tup [.ref A.length, d]) (A ++ [.lst ds])) = .ok (.tup [.lst ds, d]) A := by
  unfold trimR
  have hb : Nat.ble (A ++ [Cell.lst ds]).length A.length = false := by
    rw [List.length_append]
    cases e : Nat.ble (A.length + [Cell.lst ds].length) A.length with
    | false => rfl
    | true => have := Nat.le_of_ble_eq_true e; simp at this; omega
  have hu0 : D.und A.length (.ref A.length) = false := by
    simp only [D.und]
    cases e : Nat.blt A.length A.length with
    | false => rfl
    | true => rw [Nat.blt_eq] at e; omega
  have hu1 : D.und A.length (.tup [.ref A.length, d]) = false := by simp only [D.und, D.undA] at hu0 ⊢; rw [hu0]; rfl
  have hr : D.res 5 A.length (A ++ [.lst ds]) (.tup [.ref A.length, d]) = some (.tup [.lst ds, d]) := by
    rw [D.res, hu1]
    simp only [Bool.false_eq_true, if_false, resL]
    rw [res_und hu, D.res, hu0]
    simp only [Bool.false_eq_true, if_false]
    rw [last_at rfl]
    simp only [resL_und hd, Option.map_some]
  simp only [hb, Bool.false_eq_true, if_false, hr, closed_app rfl hA, if_true]
  rw [List.take_left]
theorem m_law_rows_eq {fu : Nat} (hw : Wf M) (hb : BoardOk ws c) (hm : MoF ws c m) (hmost : most ≤ 1000) (hfu : most + 1 ≤ fu) : ∃ m', m_law_rows_5da548 fu [boardT ws c, moT m, .int (folk : Int), .int (most : Int)] M = .ok (.tup [.lst ((rowsM ws folk most m).map rowT), moT m']) M := by
  have hf0 : few 0 = true := by decide
  have hf2 : few 2 = true := by decide
  have s1 : sSet 4 (fNew fNil) (startA 8 [boardT ws c, moT m, .int (folk : Int), .int (most : Int)]) M = .ok (.nx [some (boardT ws c), some (moT m), some (.int (folk : Int)), some (.int (most : Int)), some (.ref M.length), none, none, none]) (M ++ [.lst []]) := by
    as_aux_lemma =>
      refine set_ev ?_
      rw [ev_new, ev_nil, bind_ok]
      exact if_pos hf0
  have hs : Has [some (boardT ws c), some (moT m), some (.int (folk : Int)), some (.int (most : Int)), some (.ref M.length), none, none, none] 8 (rwH ws c folk most m M.length) := by
    refine ⟨rfl, fun q hq => ?_⟩
    simp only [rwH, List.mem_cons, List.mem_nil_iff, or_false] at hq
    rcases hq with rfl | rfl | rfl | rfl | rfl <;> rfl
  generalize [some (boardT ws c), some (moT m), some (.int (folk : Int)), some (.int (most : Int)), some (.ref M.length), none, none, none] = σ1 at s1 hs
  obtain ⟨σ2, m', f2, hs2⟩ := rw_while (M := M) hw hb hmost most fu m [] σ1 hfu (by simp) hm hs
  rw [List.map_nil, List.nil_append] at f2
  have s2 : sWhile fu rwC rwB σ1 (M ++ [.lst []]) = .ok (.nx σ2) (M ++ [.lst ((rowsM ws folk most m).map rowT)]) := by
    unfold sWhile
    rw [List.length_append]
    exact f2
  have s3 : sRet (fTup (fCons (fVar 4) (fCons (fVar 1) fNil))) σ2 (M ++ [.lst ((rowsM ws folk most m).map rowT)]) = .ok (.rt (.tup [.ref M.length, moT m'])) (M ++ [.lst ((rowsM ws folk most m).map rowT)]) := by
    refine ret_ev ?_
    rw [ev_tup, ev_cons, var_ev (hs2.at (i := 4) (d := .ref M.length) (by simp)), bind_ok, ev_cons, var_ev (hs2.at (i := 1) (d := moT m') (by simp)), bind_ok, ev_nil, bind_ok, bind_ok, bind_ok]
    exact if_pos hf2
  have sb : b_law_rows_5da548 fu (startA 8 [boardT ws c, moT m, .int (folk : Int), .int (most : Int)]) M = .ok (.rt (.tup [.ref M.length, moT m'])) (M ++ [.lst ((rowsM ws folk most m).map rowT)]) := by
    rw [rows_body]
    exact (seq_nx s1).trans ((seq_nx s2).trans s3)
  exact ⟨m', (run_rt (n := 8) (k := 4) rfl sb).trans (trim_pair hw (und_rows _) (und_mo _))⟩
end
end QX
namespace QX
open PySem PySem.Spec PyProof.Rows L2 HX
section
variable {A M g : Mem} {σ : Sa} {ws : List (List (List Int))} {c : Int} {m : Mo} {folk most : Nat}
/-! ### the program's beats -/
def hbF : FS := (sExpr (fCall m_handle_marble (fCons (fVar 0) (fCons (fVar 1) (fCons (fVar 4) fNil)))))
theorem beat_body : b_handle_beat = (sSeq (sSet 3 (fCall gTuple (fCons (fSl (fTrim (fCompC (fIt gEnum (fCons (fBin gIx (fVar 1) (fC (.int 1))) fNil)) [4, 5] (.tup [4, 5]) (fTest (fBin (gCmp cGt) (fVar 5) (fC (.int 0)))) (fVar 4))) fNoPart (fPart (fVar 2))) fNil)))
  (sSeq (sFor (fIter (fVar 3)) (.name 4) hbF)
  (sRet (fVar 3)))) := rfl
abbrev refs3 (A : Mem) : D := .tup [.ref A.length, .ref (A.length + 1), .ref (A.length + 2)]
theorem wf_mem3g (hA : Wf A) (hg : UndG g) {st wt hd : List Int} : Wf (mem3 A st wt hd g) := by
  intro x hx
  rcases List.mem_append.mp hx with h | h
  · exact cund_mono (by rw [mem3_len]; omega) (hA x h)
  · rcases List.mem_append.mp h with h | h
    · simp only [List.mem_cons, List.mem_nil_iff, or_false] at h
      rcases h with rfl | rfl | rfl <;> exact undA_map (fun _ => rfl) _
    · exact hg x h _
theorem m_handle_beat_eq (hA : Wf A) (hg : UndG g) (hb : BoardOk ws c) (hm : MoF ws c m) :
    m_handle_beat [boardT ws c, refs3 A, .int (folk : Int)] (mem3 A m.st m.wt m.hd g) = .ok (rowT (rowOf folk m)) (mem3 A (beatM ws m (rowOf folk m)).st (beatM ws m (rowOf folk m)).wt (beatM ws m (rowOf folk m)).hd g) := by
  have w6 := hb.w6
  have hl2 := hm.wl
  have hW : Wf (mem3 A m.st m.wt m.hd g) := wf_mem3g hA hg
  obtain ⟨chk, c1, c2⟩ := seqI_list (M := mem3 A m.st m.wt m.hd g) (d := .ref (A.length + 1)) (ds := m.wt.map D.int) (by rw [listOf_ref, mem3_1])
  have e0 : fBin gIx (fVar 1) (fC (.int 1)) (startA 6 [boardT ws c, refs3 A, .int (folk : Int)]) (mem3 A m.st m.wt m.hd g) = .ok (.ref (A.length + 1)) (mem3 A m.st m.wt m.hd g) := (bin_ev (fb := fC (.int 1)) (b := .int 1) (var_ev (d := refs3 A) rfl) rfl).trans (by simp)
  have e1 := ready_ev (fa := fBin gIx (fVar 1) (fC (.int 1))) (a := 4) (b := 5) (N := 6) e0 c1 (fun acc => c2 _) hW (by omega) rfl (by decide) (by decide)
  have e2 := sl_takeL (k := folk) e1 rfl (fb := fVar 2) (var_ev (d := .int (folk : Int)) rfl)
  have hix : (ixs (readyIx 0 m.wt)).take folk = ixs (rowOf folk m) := by
    unfold ixs rowOf
    rw [List.map_take]
  rw [hix] at e2
  have s1 : sSet 3 (fCall gTuple (fCons (fSl (fTrim (fCompC (fIt gEnum (fCons (fBin gIx (fVar 1) (fC (.int 1))) fNil)) [4, 5] (.tup [4, 5]) (fTest (fBin (gCmp cGt) (fVar 5) (fC (.int 0)))) (fVar 4))) fNoPart (fPart (fVar 2))) fNil)) (startA 6 [boardT ws c, refs3 A, .int (folk : Int)]) (mem3 A m.st m.wt m.hd g) = .ok (.nx [some (boardT ws c), some (refs3 A), some (.int (folk : Int)), some (rowT (rowOf folk m)), none, none]) (mem3 A m.st m.wt m.hd g) := by
    as_aux_lemma => exact set_ev ((call1_ev e2).trans rfl)
  have hs : Has [some (boardT ws c), some (refs3 A), some (.int (folk : Int)), some (rowT (rowOf folk m)), none, none] 6 [(0, boardT ws c), (1, refs3 A), (3, rowT (rowOf folk m))] := by
    refine ⟨rfl, fun q hq => ?_⟩
    simp only [List.mem_cons, List.mem_nil_iff, or_false] at hq
    rcases hq with rfl | rfl | rfl <;> rfl
  generalize [some (boardT ws c), some (refs3 A), some (.int (folk : Int)), some (rowT (rowOf folk m)), none, none] = σ1 at s1 hs
  obtain ⟨σ2, M2, f2, ⟨hs2, _⟩, rfl⟩ := for_items (b := hbF) (n := (mem3 A m.st m.wt m.hd g).length) (i := 4) (σ := σ1) (M := mem3 A m.st m.wt m.hd g) (ds := (rowOf folk m).map fun i : Nat => D.int (i : Int)) (fun j σ N => (Has σ 6 [(0, boardT ws c), (1, refs3 A), (3, rowT (rowOf folk m))] ∧ MoF ws c (beatM ws m ((rowOf folk m).take j))) ∧ N = mem3 A (beatM ws m ((rowOf folk m).take j)).st (beatM ws m ((rowOf folk m).take j)).wt (beatM ws m ((rowOf folk m).take j)).hd g) ⟨⟨hs, hm⟩, rfl⟩ (fun j σ N d hd hv => by
    obtain ⟨⟨hs, hmj⟩, rfl⟩ := hv
    rw [List.getElem?_map] at hd
    cases q : (rowOf folk m)[j]? with
    | none => rw [q] at hd; cases hd
    | some i =>
      rw [q] at hd
      cases hd
      have hi : i < ws.length := by rw [← hl2]; exact row_lt (List.mem_of_getElem? q)
      have htake : beatM ws m ((rowOf folk m).take (j + 1)) = handleM ws (beatM ws m ((rowOf folk m).take j)) i := by
        unfold beatM
        rw [List.take_add_one, q, List.foldl_append]
        rfl
      have hs' : Has (σ.set 4 (some (.int (i : Int)))) 6 [(4, .int (i : Int)), (0, boardT ws c), (1, refs3 A), (3, rowT (rowOf folk m))] := hs.put (by decide) (by simp)
      generalize σ.set 4 (some (D.int (i : Int))) = σ1 at hs'
      refine ⟨σ1, _, .inl (expr_ev (d := .non) ((call3_ev (var_ev (hs'.at (i := 0) (d := boardT ws c) (by simp))) (var_ev (hs'.at (i := 1) (d := refs3 A) (by simp))) (var_ev (hs'.at (i := 4) (d := .int (i : Int)) (by simp)))).trans (m_handle_marble_eq (A := A) (g := g) rfl hb hmj hi (wf_mem3g hA hg)))), ?_⟩
      rw [gc_same (by rw [mem3_len, mem3_len]), htake]
      exact ⟨⟨hs'.sub (by simp +contextual), hmj.handle fun x hx => (hb.wheels x hx).1⟩, rfl⟩)
  rw [List.length_map, List.take_length] at f2
  have s2 : sFor (fIter (fVar 3)) (.name 4) hbF σ1 (mem3 A m.st m.wt m.hd g) = .ok (.nx σ2) (mem3 A (beatM ws m (rowOf folk m)).st (beatM ws m (rowOf folk m)).wt (beatM ws m (rowOf folk m)).hd g) := for_of (items := ((rowOf folk m).map fun i : Nat => D.int (i : Int)).map .d) (by rw [ev_iter, var_ev (hs.at (i := 3) (d := rowT (rowOf folk m)) (by simp))]; rfl) f2
  have sb : b_handle_beat (startA 6 [boardT ws c, refs3 A, .int (folk : Int)]) (mem3 A m.st m.wt m.hd g) = .ok (.rt (rowT (rowOf folk m))) (mem3 A (beatM ws m (rowOf folk m)).st (beatM ws m (rowOf folk m)).wt (beatM ws m (rowOf folk m)).hd g) := by
    rw [beat_body]
    exact (seq_nx s1).trans ((seq_nx s2).trans (ret_ev (var_ev (hs2.at (by simp)))))
  exact (run_rt (n := 6) (k := 3) rfl sb).trans (trim_id (by rw [mem3_len, mem3_len]))
/-! ### the program's rows -/
def roC : F Bool := (fAndT (fTest (fBin (gCmp cLt) (fCall gLen (fCons (fVar 7) fNil)) (fVar 2))) (fTest (fBin (gCmp cGt) (fCall (gMx mxI) (fCons (fVar 5) fNil)) (fC (.int 0)))))
def roB : FS := (sExpr (fMeth gAppend (fVar 7) (fCons (fCall m_handle_beat (fCons (fVar 0) (fCons (fTup (fCons (fVar 4) (fCons (fVar 5) (fCons (fVar 6) fNil)))) (fCons (fVar 3) fNil)))) fNil)))
theorem rowsof_body {fu : Nat} : b_rows_of fu = (sSeq (sExpr (fCall m_need_moment (fCons (fVar 0) (fCons (fVar 1) fNil))))
  (sSeq (sIf (fNotT (fTest (fCall m_is_within (fCons (fVar 2) (fCons (fC (.int 0)) (fCons (fC (.int 500)) fNil))))))
  (sRaise 9)
  sNext)
  (sSeq (sExpr (fCall m_need_hands (fCons (fVar 3) fNil)))
  (sSeq (sAsg (fCall m_loosened (fCons (fVar 1) fNil)) (.tup [4, 5, 6]))
  (sSeq (sSet 7 (fNew fNil))
  (sSeq (sWhile fu roC roB)
  (sRet (fCall gTuple (fCons (fVar 7) fNil))))))))) := rfl
abbrev roH (ws : List (List (List Int))) (c : Int) (folk most : Nat) (A : Mem) : List (Nat × D) := [(0, boardT ws c), (2, .int (most : Int)), (3, .int (folk : Int)), (4, .ref A.length), (5, .ref (A.length + 1)), (6, .ref (A.length + 2)), (7, .ref (A.length + 3))]
theorem mem3_3 {st wt hd : List Int} {x : Cell} : (mem3 A st wt hd [x])[A.length + 3]? = some x := by
  unfold mem3; rw [List.getElem?_append_right (by omega), Nat.add_sub_cancel_left]; rfl
theorem mem3_s3 {st wt hd : List Int} {x y : Cell} : (mem3 A st wt hd [x]).set (A.length + 3) y = mem3 A st wt hd [y] := by
  unfold mem3; rw [List.set_append_right _ _ (by omega), Nat.add_sub_cancel_left]; rfl
theorem und_rowsG (rows : List (List Nat)) : UndG [.lst (rows.map rowT)] := fun c hc n => by
  rw [List.mem_singleton.mp hc]
  exact und_rows rows
theorem roC_eq {rows : List (List Nat)} (hb : BoardOk ws c) (hm : MoF ws c m) (hs : Has σ 8 (roH ws c folk most A)) : roC σ (mem3 A m.st m.wt m.hd [.lst (rows.map rowT)]) = .ok (decide (rows.length < most) && decide (0 < mxI m.wt)) (mem3 A m.st m.wt m.hd [.lst (rows.map rowT)]) := by
  refine andT_ev (test_ev ?_) fun _ => test_ev ?_
  · refine (bin_ev ((call1_ev (var_ev (hs.at (i := 7) (d := .ref (A.length + 3)) (by simp)))).trans (gLen_ref mem3_3)) (var_ev (hs.at (i := 2) (d := .int (most : Int)) (by simp)))).trans ?_
    rw [gCmp_int, List.length_map]
    simp [cLt]
  · refine (bin_ev (b := .int 0) ((call1_ev (var_ev (hs.at (i := 5) (d := .ref (A.length + 1)) (by simp)))).trans (gMx_ev (xs := m.wt) (by rw [seqOf_ref, mem3_1]) (wt_ne hb hm))) rfl).trans ?_
    rw [gCmp_int]
theorem roB_eq {rows : List (List Nat)} (hA : Wf A) (hb : BoardOk ws c) (hm : MoF ws c m) (hr : rows.length ≤ 1000) (hs : Has σ 8 (roH ws c folk most A)) :
    roB σ (mem3 A m.st m.wt m.hd [.lst (rows.map rowT)]) = .ok (.nx σ) (mem3 A (beatM ws m (rowOf folk m)).st (beatM ws m (rowOf folk m)).wt (beatM ws m (rowOf folk m)).hd [.lst ((rows ++ [rowOf folk m]).map rowT)]) := by
  refine expr_ev (d := .non) ?_
  have il : isL (mem3 A m.st m.wt m.hd [.lst (rows.map rowT)]) (.ref (A.length + 3)) = true := by rw [isL_ref, mem3_3]; rfl
  have e1 := m_handle_beat_eq (A := A) (g := [.lst (rows.map rowT)]) (folk := folk) hA (und_rowsG rows) hb hm
  have e2 := (call3_ev (σ := σ) (m := m_handle_beat) (var_ev (hs.at (i := 0) (d := boardT ws c) (by simp))) (tup3_ev (var_ev (hs.at (i := 4) (d := .ref A.length) (by simp))) (var_ev (hs.at (i := 5) (d := .ref (A.length + 1)) (by simp))) (var_ev (hs.at (i := 6) (d := .ref (A.length + 2)) (by simp)))) (var_ev (hs.at (i := 3) (d := .int (folk : Int)) (by simp)))).trans e1
  rw [ev_meth, var_ev (hs.at (i := 7) (d := .ref (A.length + 3)) (by simp)), bind_ok, il, if_pos rfl, ev_cons, e2, bind_ok, ev_nil, bind_ok, bind_ok, gAppend_ref mem3_3 (by rw [List.length_map]; omega), mem3_s3]
  simp
theorem ro_while (hA : Wf A) (hb : BoardOk ws c) (hmost : most ≤ 1000) (hs : Has σ 8 (roH ws c folk most A)) : ∀ (r fu : Nat) (m : Mo) (rows : List (List Nat)), r + 1 ≤ fu → rows.length + r = most → MoF ws c m →
    ∃ m' : Mo, whileL roC roB (A.length + 4) fu σ (mem3 A m.st m.wt m.hd [.lst (rows.map rowT)]) = .ok (.nx σ) (mem3 A m'.st m'.wt m'.hd [.lst ((rows ++ rowsM ws folk r m).map rowT)])
  | 0, fu, m, rows, hf, hl, hm => by
    obtain ⟨k, rfl⟩ : ∃ k, fu = k + 1 := ⟨fu - 1, by omega⟩
    refine ⟨m, ?_⟩
    rw [while_stop ((roC_eq hb hm hs).trans (by rw [decide_eq_false (by omega : ¬ rows.length < most)]; rfl))]
    simp [rowsM]
  | r + 1, fu, m, rows, hf, hl, hm => by
    obtain ⟨k, rfl⟩ : ∃ k, fu = k + 1 := ⟨fu - 1, by omega⟩
    have hc := roC_eq (rows := rows) hb hm hs
    rw [decide_eq_true (by omega : rows.length < most), Bool.true_and] at hc
    unfold rowsM
    by_cases hp : 0 < mxI m.wt
    · rw [decide_eq_true hp] at hc
      have g1 := roB_eq (rows := rows) hA hb hm (by omega) hs
      obtain ⟨m', a⟩ := ro_while hA hb hmost hs r k (beatM ws m (rowOf folk m)) (rows ++ [rowOf folk m]) (by omega) (by rw [List.length_append]; simp; omega) (beat_ok hb _ m hm)
      refine ⟨m', ?_⟩
      rw [while_go hc g1 (by rw [mem3_len]; rfl), a, if_pos hp]
      simp
    · rw [decide_eq_false hp] at hc
      refine ⟨m, ?_⟩
      rw [while_stop hc, if_neg hp]
      simp
theorem m_need_hands_eq (h1 : 1 ≤ folk) (h6 : folk ≤ 6) : m_need_hands [.int (folk : Int)] M = .ok .non M := by
  refine (run_nx (M1 := M) (σ := startA 1 [.int (folk : Int)]) rfl ?_).trans (trim_id rfl)
  refine (sif_ev (p := false) (not_ev (p := true) (test_ev ((call3_ev (var_ev (d := .int (folk : Int)) rfl) rfl rfl).trans ?_)))).trans rfl
  rw [m_is_within_eq (show (D.int (folk : Int)).ok = true from rfl)]
  have : inB 1 6 (.int (folk : Int)) = true := by simp only [inB, Bool.and_eq_true, decide_eq_true_eq]; omega
  rw [this]
theorem m_rows_of_eq {fu : Nat} (hw : Wf M) (hb : BoardOk ws c) (hm : MoOk ws c m) (hmost : most ≤ 500) (hfu : most + 1 ≤ fu) (h1 : 1 ≤ folk) (h6 : folk ≤ 6) : m_rows_of fu [boardT ws c, moT m, .int (most : Int), .int (folk : Int)] M = .ok (.tup ((rowsM ws folk most m).map rowT)) M := by
  have hf0 : few 0 = true := by decide
  have s1 : sExpr (fCall m_need_moment (fCons (fVar 0) (fCons (fVar 1) fNil))) (startA 8 [boardT ws c, moT m, .int (most : Int), .int (folk : Int)]) M = .ok (.nx (startA 8 [boardT ws c, moT m, .int (most : Int), .int (folk : Int)])) M := by
    as_aux_lemma => exact expr_ev (d := .non) ((call2_ev (var_ev (d := boardT ws c) rfl) (var_ev (d := moT m) rfl)).trans (m_need_moment_eq hw hb hm))
  have s2 : sIf (fNotT (fTest (fCall m_is_within (fCons (fVar 2) (fCons (fC (.int 0)) (fCons (fC (.int 500)) fNil)))))) (sRaise 9) sNext (startA 8 [boardT ws c, moT m, .int (most : Int), .int (folk : Int)]) M = .ok (.nx (startA 8 [boardT ws c, moT m, .int (most : Int), .int (folk : Int)])) M := by
    as_aux_lemma =>
      refine (sif_ev (p := false) (not_ev (p := true) (test_ev ((call3_ev (var_ev (d := .int (most : Int)) rfl) rfl rfl).trans ?_)))).trans rfl
      rw [m_is_within_eq (show (D.int (most : Int)).ok = true from rfl)]
      have : inB 0 500 (.int (most : Int)) = true := by simp only [inB, Bool.and_eq_true, decide_eq_true_eq]; omega
      rw [this]
  have s3 : sExpr (fCall m_need_hands (fCons (fVar 3) fNil)) (startA 8 [boardT ws c, moT m, .int (most : Int), .int (folk : Int)]) M = .ok (.nx (startA 8 [boardT ws c, moT m, .int (most : Int), .int (folk : Int)])) M := by
    as_aux_lemma => exact expr_ev (d := .non) ((call1_ev (var_ev (d := .int (folk : Int)) rfl)).trans (m_need_hands_eq h1 h6))
  have s4 : sAsg (fCall m_loosened (fCons (fVar 1) fNil)) (.tup [4, 5, 6]) (startA 8 [boardT ws c, moT m, .int (most : Int), .int (folk : Int)]) M = .ok (.nx [some (boardT ws c), some (moT m), some (.int (most : Int)), some (.int (folk : Int)), some (.ref M.length), some (.ref (M.length + 1)), some (.ref (M.length + 2)), none]) (mem3 M m.st m.wt m.hd []) := by
    as_aux_lemma => exact asg_ev (d := refs3 M) ((call1_ev (var_ev (d := moT m) rfl)).trans m_loosened_eq) rfl
  have s5 : sSet 7 (fNew fNil) [some (boardT ws c), some (moT m), some (.int (most : Int)), some (.int (folk : Int)), some (.ref M.length), some (.ref (M.length + 1)), some (.ref (M.length + 2)), none] (mem3 M m.st m.wt m.hd []) = .ok (.nx [some (boardT ws c), some (moT m), some (.int (most : Int)), some (.int (folk : Int)), some (.ref M.length), some (.ref (M.length + 1)), some (.ref (M.length + 2)), some (.ref (M.length + 3))]) (mem3 M m.st m.wt m.hd [.lst []]) := by
    as_aux_lemma =>
      have e : mem3 M m.st m.wt m.hd [] ++ [Cell.lst []] = mem3 M m.st m.wt m.hd [.lst []] := by simp [mem3]
      refine set_ev (d := .ref (M.length + 3)) ?_
      rw [ev_new, ev_nil, bind_ok, if_pos (by simpa using hf0), e, mem3_len]
      rfl
  have hs : Has [some (boardT ws c), some (moT m), some (.int (most : Int)), some (.int (folk : Int)), some (.ref M.length), some (.ref (M.length + 1)), some (.ref (M.length + 2)), some (.ref (M.length + 3))] 8 (roH ws c folk most M) := by
    refine ⟨rfl, fun q hq => ?_⟩
    simp only [roH, List.mem_cons, List.mem_nil_iff, or_false] at hq
    rcases hq with rfl | rfl | rfl | rfl | rfl | rfl | rfl <;> rfl
  generalize [some (boardT ws c), some (moT m), some (.int (most : Int)), some (.int (folk : Int)), some (.ref M.length), some (.ref (M.length + 1)), some (.ref (M.length + 2)), some (.ref (M.length + 3))] = σ1 at s5 hs
  obtain ⟨m', f6⟩ := ro_while hw hb (by omega) hs most fu m [] hfu (by simp) hm.toMoF
  rw [List.map_nil, List.nil_append] at f6
  have s6 : sWhile fu roC roB σ1 (mem3 M m.st m.wt m.hd [.lst []]) = .ok (.nx σ1) (mem3 M m'.st m'.wt m'.hd [.lst ((rowsM ws folk most m).map rowT)]) := by
    unfold sWhile
    rw [mem3_len]
    exact f6
  have s7 : sRet (fCall gTuple (fCons (fVar 7) fNil)) σ1 (mem3 M m'.st m'.wt m'.hd [.lst ((rowsM ws folk most m).map rowT)]) = .ok (.rt (.tup ((rowsM ws folk most m).map rowT))) (mem3 M m'.st m'.wt m'.hd [.lst ((rowsM ws folk most m).map rowT)]) := ret_ev ((call1_ev (var_ev (hs.at (i := 7) (d := .ref (M.length + 3)) (by simp)))).trans (gTuple_ref mem3_3))
  have sb : b_rows_of fu (startA 8 [boardT ws c, moT m, .int (most : Int), .int (folk : Int)]) M = .ok (.rt (.tup ((rowsM ws folk most m).map rowT))) (mem3 M m'.st m'.wt m'.hd [.lst ((rowsM ws folk most m).map rowT)]) := by
    rw [rowsof_body]
    exact (seq_nx s1).trans ((seq_nx s2).trans ((seq_nx s3).trans ((seq_nx s4).trans ((seq_nx s5).trans ((seq_nx s6).trans s7)))))
  refine (run_rt (n := 8) (k := 4) rfl sb).trans (trim_app rfl hw ?_)
  simp only [D.und]
  exact und_rows _
end
end QX

set_option maxRecDepth 100000
set_option maxHeartbeats 1000000
namespace QX
open PySem
/- _law_kept -/
def b_law_kept_c36398 : FS :=
  (sSeq (sSet 1 (fLst (fCons (fTup (fCons (fTup (fCons (fTup (fCons (fC (.int 0)) fNil)) fNil)) fNil)) (fCons (fTup (fCons (fTup (fCons (fTup (fCons (fC (.int 1)) fNil)) fNil)) (fCons (fTup (fCons (fTup (fCons (fC (.int 0)) fNil)) fNil)) fNil))) (fCons (fTup (fCons (fTup (fCons (fTup (fCons (fC (.int 0)) (fCons (fC (.int 0)) fNil))) (fCons (fTup fNil) fNil))) fNil)) (fCons (fTup (fCons (fTup (fCons (fTup (fCons (fC (.int 1)) (fCons (fC (.int 2)) fNil))) fNil)) (fCons (fTup (fCons (fTup (fCons (fC (.int 0)) fNil)) fNil)) fNil))) (fCons (fTup (fCons (fTup (fCons (fTup (fCons (fC (.int 0)) fNil)) (fCons (fTup (fCons (fC (.int 0)) fNil)) fNil))) (fCons (fTup (fCons (fTup (fCons (fC (.int 0)) (fCons (fC (.int 1)) fNil))) fNil)) fNil))) fNil)))))))
  (sRet (fTup (fCons (fBin gIx (fVar 1) (fCall m_law_draw_321cf4 (fCons (fVar 0) (fCons (fC (.int 5)) fNil)))) (fCons (fC (.int 1)) fNil)))))
def m_law_kept_c36398 : List D → Mem → Res D := runT 2 1 b_law_kept_c36398

/- law -/
def b_law_271f5f (fu : Nat) : FS :=
  (sSeq (sFor (fIt gRange1 (fCons (fCall gMax2 (fCons (fC (.int 1)) (fCons (fCall gMin2 (fCons (fCall gLen (fCons (fVar 0) fNil)) (fCons (fC (.int 4)) fNil))) fNil))) fNil)) (.name 1)
  (sSeq (sSet 2 (fCall m_law_pen_579b16 (fCons (fCall m_law_cell_at_e50a56 (fCons (fVar 0) (fCons (fVar 1) fNil))) fNil)))
  (sFor (fIter (fLst (fCons (fCall m_law_board_8f2c56 (fCons (fVar 2) (fCons (fC (.int 3)) (fCons (fC (.int 3)) fNil)))) (fCons (fCall m_law_any_board_7df546 (fCons (fVar 2) (fCons (fC (.int 4)) (fCons (fC (.int 2)) fNil)))) (fCons (fCall m_law_kept_c36398 (fCons (fVar 2) fNil)) fNil))))) (.name 3)
  (sSeq (sSet 4 (fCall m_law_moment_bfcba9 (fCons (fVar 2) (fCons (fVar 3) (fCons (fC (.int 3)) fNil)))))
  (sSeq (sSet 5 (fCall gRepr (fCons (fTup (fCons (fVar 3) (fCons (fVar 4) fNil))) fNil)))
  (sSeq (sFor (fIter (fTup (fCons (fC (.int 0)) (fCons (fC (.int 1)) (fCons (fCall m_law_draw_321cf4 (fCons (fVar 2) (fCons (fC (.int 30)) fNil))) (fCons (fBin gIx (fLst (fCons (fC (.int 60)) (fCons (fC (.int 500)) fNil))) (fCall gInt (fCons (fBin (gEq false) (fVar 1) (fC (.int 0))) fNil))) fNil)))))) (.name 6)
  (sSeq (sSet 7 (fBin gAdd (fC (.int 1)) (fCall m_law_draw_321cf4 (fCons (fVar 2) (fCons (fC (.int 6)) fNil)))))
  (sSeq (sSet 8 (fCall gTuple (fCons (fBin gIx (fCall (m_law_rows_5da548 fu) (fCons (fVar 3) (fCons (fVar 4) (fCons (fVar 7) (fCons (fVar 6) fNil))))) (fC (.int 0))) fNil)))
  (sFor (fIt gRange1 (fCons (fC (.int 2)) fNil)) (.name 9)
  (sIf (fTest (fBin (gEq true) (fCall gRepr (fCons (fCallK (m_rows_of fu) [0, 1, 2, 3] (fCons (fVar 3) (fCons (fVar 4) (fCons (fVar 6) fNil))) (fCons (fVar 7) fNil)) fNil)) (fCall gRepr (fCons (fVar 8) fNil))))
  (sRet (fC (.bl false)))
  sNext)))))
  (sSeq (sSet 8 (fCall gTuple (fCons (fBin gIx (fCall (m_law_rows_5da548 fu) (fCons (fVar 3) (fCons (fVar 4) (fCons (fC (.int 1)) (fCons (fC (.int 5)) fNil))))) (fC (.int 0))) fNil)))
  (sIf (fOrT (fTest (fBin (gEq true) (fCall gRepr (fCons (fCall (fun ds M => (m_rows_of fu) (ds ++ [.int 1]) M) (fCons (fVar 3) (fCons (fVar 4) (fCons (fC (.int 5)) fNil)))) fNil)) (fCall gRepr (fCons (fVar 8) fNil)))) (fTest (fBin (gEq true) (fCall gRepr (fCons (fTup (fCons (fVar 3) (fCons (fVar 4) fNil))) fNil)) (fVar 5))))
  (sRet (fC (.bl false)))
  sNext))))))))
  (sRet (fC (.bl true))))
def m_law_271f5f (fu : Nat) : List D → Mem → Res D := runD 10 1 (b_law_271f5f fu)
end QX

set_option maxRecDepth 100000
set_option maxHeartbeats 1000000
namespace Q52
open PySem PySem.Spec PyProof.Rows L2 HX QX
def topS (i : Nat) : Stmt := PySem.Challenge.pw_marblefall_k52_rows_beat_by_beat.main.body.getD i (.Pass ⟨0, 0, 0, 0⟩)
abbrev s__law_pen : Stmt := topS 33
theorem sc__law_pen : FnScope ["_law_cell"] ["_law_cell"] (defScope s__law_pen) := ⟨rfl, rfl, rfl, by decide +kernel, rfl, by decide +kernel, by decide +kernel⟩
abbrev s__law_cell_at : Stmt := topS 32
theorem sc__law_cell_at : FnScope ["_law_script", "_law_k"] ["_law_script", "_law_k"] (defScope s__law_cell_at) := ⟨rfl, rfl, rfl, by decide +kernel, rfl, by decide +kernel, by decide +kernel⟩
abbrev s__law_draw : Stmt := topS 34
theorem sc__law_draw : FnScope ["_law_pen_here", "_law_many", "_law_digit", "_law_stir"] ["_law_pen_here", "_law_many"] (defScope s__law_draw) := ⟨rfl, rfl, rfl, by decide +kernel, rfl, by decide +kernel, by decide +kernel⟩
abbrev s__law_mixed : Stmt := topS 35
theorem sc__law_mixed : FnScope ["_law_pen_here", "_law_some", "_law_left", "_law_one"] ["_law_pen_here", "_law_some"] (defScope s__law_mixed) := ⟨rfl, rfl, rfl, by decide +kernel, rfl, by decide +kernel, by decide +kernel⟩
abbrev s__law_ends : Stmt := topS 36
theorem sc__law_ends : FnScope ["_law_wheel", "_law_found", "_law_step"] ["_law_wheel"] (defScope s__law_ends) := ⟨rfl, rfl, rfl, by decide +kernel, rfl, by decide +kernel, by decide +kernel⟩
abbrev s__law_table : Stmt := topS 37
theorem sc__law_table : FnScope ["_law_board_here", "_law_wheels", "_law_found", "_law_number", "_law_wheel", "_law_line", "_law_end"] ["_law_board_here"] (defScope s__law_table) := ⟨rfl, rfl, rfl, by decide +kernel, rfl, by decide +kernel, by decide +kernel⟩
abbrev s__law_falls : Stmt := topS 38
theorem sc__law_falls : FnScope ["_law_board_here", "_law_rows_here", "_law_last", "_law_at", "_law_own", "_law_line", "_law_by", "_law_mine", "_law_part"] ["_law_board_here"] (defScope s__law_falls) := ⟨rfl, rfl, rfl, by decide +kernel, rfl, by decide +kernel, by decide +kernel⟩
abbrev s__law_without : Stmt := topS 39
theorem sc__law_without : FnScope ["_law_board_here", "_law_wheel", "_law_step", "_law_wheels"] ["_law_board_here", "_law_wheel", "_law_step"] (defScope s__law_without) := ⟨rfl, rfl, rfl, by decide +kernel, rfl, by decide +kernel, by decide +kernel⟩
abbrev s__law_drained : Stmt := topS 41
theorem sc__law_drained : FnScope ["_law_pen_here", "_law_board_here", "_law_spots", "_law_wheel", "_law_steps", "_law_step"] ["_law_pen_here", "_law_board_here"] (defScope s__law_drained) := ⟨rfl, rfl, rfl, by decide +kernel, rfl, by decide +kernel, by decide +kernel⟩
abbrev s__law_any_board : Stmt := topS 40
theorem sc__law_any_board : FnScope ["_law_pen_here", "_law_most", "_law_cups", "_law_many", "_law_wheels", "_law_number", "_law_steps", "_law_turn", "_law_ends_here", "_law_lap", "_law_end"] ["_law_pen_here", "_law_most", "_law_cups"] (defScope s__law_any_board) := ⟨rfl, rfl, rfl, by decide +kernel, rfl, by decide +kernel, by decide +kernel⟩
abbrev s__law_board : Stmt := topS 42
theorem sc__law_board : FnScope ["_law_pen_here", "_law_most", "_law_cups"] ["_law_pen_here", "_law_most", "_law_cups"] (defScope s__law_board) := ⟨rfl, rfl, rfl, by decide +kernel, rfl, by decide +kernel, by decide +kernel⟩
abbrev s__law_kept : Stmt := topS 43
theorem sc__law_kept : FnScope ["_law_pen_here", "_law_some"] ["_law_pen_here"] (defScope s__law_kept) := ⟨rfl, rfl, rfl, by decide +kernel, rfl, by decide +kernel, by decide +kernel⟩
abbrev s__law_stand : Stmt := topS 44
theorem sc__law_stand : FnScope ["_law_pen_here", "_law_board_here", "_law_wheel"] ["_law_pen_here", "_law_board_here"] (defScope s__law_stand) := ⟨rfl, rfl, rfl, by decide +kernel, rfl, by decide +kernel, by decide +kernel⟩
abbrev s__law_moment : Stmt := topS 45
theorem sc__law_moment : FnScope ["_law_pen_here", "_law_board_here", "_law_most", "_law_waiting", "_law_wheel", "_law_cup"] ["_law_pen_here", "_law_board_here", "_law_most"] (defScope s__law_moment) := ⟨rfl, rfl, rfl, by decide +kernel, rfl, by decide +kernel, by decide +kernel⟩
abbrev s__law_handled : Stmt := topS 46
theorem sc__law_handled : FnScope ["_law_board_here", "_law_moment_here", "_law_wheel", "_law_stand_here", "_law_come", "_law_end"] ["_law_board_here", "_law_moment_here", "_law_wheel"] (defScope s__law_handled) := ⟨rfl, rfl, rfl, by decide +kernel, rfl, by decide +kernel, by decide +kernel⟩
abbrev s__law_rows : Stmt := topS 47
theorem sc__law_rows : FnScope ["_law_board_here", "_law_moment_here", "_law_folk", "_law_most", "_law_rows_here", "_law_row", "_law_wheel", "_law_many"] ["_law_board_here", "_law_moment_here", "_law_folk", "_law_most"] (defScope s__law_rows) := ⟨rfl, rfl, rfl, by decide +kernel, rfl, by decide +kernel, by decide +kernel⟩
abbrev s_has_parts : Stmt := topS 13
theorem sc_has_parts : FnScope ["thing", "least", "most"] ["thing", "least", "most"] (defScope s_has_parts) := ⟨rfl, rfl, rfl, by decide +kernel, rfl, by decide +kernel, by decide +kernel⟩
abbrev s_is_whole : Stmt := topS 11
theorem sc_is_whole : FnScope ["thing"] ["thing"] (defScope s_is_whole) := ⟨rfl, rfl, rfl, by decide +kernel, rfl, by decide +kernel, by decide +kernel⟩
abbrev s_is_within : Stmt := topS 12
theorem sc_is_within : FnScope ["thing", "least", "most"] ["thing", "least", "most"] (defScope s_is_within) := ⟨rfl, rfl, rfl, by decide +kernel, rfl, by decide +kernel, by decide +kernel⟩
abbrev s_is_step : Stmt := topS 14
theorem sc_is_step : FnScope ["thing", "ends", "end"] ["thing", "ends"] (defScope s_is_step) := ⟨rfl, rfl, rfl, by decide +kernel, rfl, by decide +kernel, by decide +kernel⟩
abbrev s_is_wheel : Stmt := topS 15
theorem sc_is_wheel : FnScope ["thing", "ends", "step"] ["thing", "ends"] (defScope s_is_wheel) := ⟨rfl, rfl, rfl, by decide +kernel, rfl, by decide +kernel, by decide +kernel⟩
abbrev s_is_board : Stmt := topS 16
theorem sc_is_board : FnScope ["thing", "wheels", "cups", "ends", "wheel"] ["thing"] (defScope s_is_board) := ⟨rfl, rfl, rfl, by decide +kernel, rfl, by decide +kernel, by decide +kernel⟩
abbrev s_need_board : Stmt := topS 17
theorem sc_need_board : FnScope ["thing"] ["thing"] (defScope s_need_board) := ⟨rfl, rfl, rfl, by decide +kernel, rfl, by decide +kernel, by decide +kernel⟩
abbrev s_is_stand : Stmt := topS 18
theorem sc_is_stand : FnScope ["board", "thing", "wheels", "step", "wheel"] ["board", "thing"] (defScope s_is_stand) := ⟨rfl, rfl, rfl, by decide +kernel, rfl, by decide +kernel, by decide +kernel⟩
abbrev s_are_marbles : Stmt := topS 19
theorem sc_are_marbles : FnScope ["thing", "places", "many"] ["thing", "places"] (defScope s_are_marbles) := ⟨rfl, rfl, rfl, by decide +kernel, rfl, by decide +kernel, by decide +kernel⟩
abbrev s_is_moment : Stmt := topS 20
theorem sc_is_moment : FnScope ["board", "thing", "wheels", "cups", "stand", "waiting", "held"] ["board", "thing"] (defScope s_is_moment) := ⟨rfl, rfl, rfl, by decide +kernel, rfl, by decide +kernel, by decide +kernel⟩
abbrev s_need_moment : Stmt := topS 21
theorem sc_need_moment : FnScope ["board", "thing"] ["board", "thing"] (defScope s_need_moment) := ⟨rfl, rfl, rfl, by decide +kernel, rfl, by decide +kernel, by decide +kernel⟩
abbrev s_need_hands : Stmt := topS 28
theorem sc_need_hands : FnScope ["thing"] ["thing"] (defScope s_need_hands) := ⟨rfl, rfl, rfl, by decide +kernel, rfl, by decide +kernel, by decide +kernel⟩
abbrev s_loosened : Stmt := topS 23
theorem sc_loosened : FnScope ["moment", "stand", "waiting", "held"] ["moment"] (defScope s_loosened) := ⟨rfl, rfl, rfl, by decide +kernel, rfl, by decide +kernel, by decide +kernel⟩
abbrev s_handle_marble : Stmt := topS 24
theorem sc_handle_marble : FnScope ["board", "parts", "wheel", "wheels", "stand", "waiting", "held", "step", "end"] ["board", "parts", "wheel"] (defScope s_handle_marble) := ⟨rfl, rfl, rfl, by decide +kernel, rfl, by decide +kernel, by decide +kernel⟩
abbrev s_handle_beat : Stmt := topS 29
theorem sc_handle_beat : FnScope ["board", "parts", "hands", "row", "wheel", "many"] ["board", "parts", "hands"] (defScope s_handle_beat) := ⟨rfl, rfl, rfl, by decide +kernel, rfl, by decide +kernel, by decide +kernel⟩
abbrev s_rows_of : Stmt := topS 30
theorem sc_rows_of : FnScope ["board", "moment", "many", "hands", "stand", "waiting", "held", "rows"] ["board", "moment", "many", "hands"] (defScope s_rows_of) := ⟨rfl, rfl, rfl, by decide +kernel, rfl, by decide +kernel, by decide +kernel⟩
abbrev s_law : Stmt := topS 48
theorem sc_law : FnScope ["_law_script", "_law_k", "_law_pen_here", "_law_board_here", "_law_moment_here", "_law_kept_here", "_law_many", "_law_folk", "_law_due", "_law_lap"] ["_law_script"] (defScope s_law) := ⟨rfl, rfl, rfl, by decide +kernel, rfl, by decide +kernel, by decide +kernel⟩
theorem db_rows_of {K : PySem.W.Frag} : ∀ f fd, FunDS K "rows_of" s_rows_of [] [("hands", V.int 1)] f fd → ∃ ds, Vals [V.int 1] ds ∧ Binds K fd ["board", "moment", "many", "hands"] ds := fun f fd F => FunD.binds0 F 3 (by simp) rfl (fun D doc pm an cdv ct us ks h1 h2 => match us, ks, h1, h2 with | [_, _, _], [_], _, _ => ⟨_, _, _, _, _, _, rfl, rfl, rfl⟩)
theorem kb_rows_of_3_hands {K : PySem.W.Frag} : ∀ f fd, FunDS K "rows_of" s_rows_of [] [("hands", V.int 1)] f fd → ∃ g, KBn K fd ["board", "moment", "many", "hands"] 3 ["hands"] g fun vs zs => pk [0, 1, 2, 3] (vs ++ zs) := fun f fd F => (FunD.kbinds0 F 3 ["hands"] [] (fun us _ ws => pk [0, 1, 2, 3] (us ++ ws)) (by simp) (by simp) (fun r1 _ r2 => vals_pk (r1.append r2) _) (fun D doc pm an cdv ct us mv ws h1 h2 h3 => match us, mv, ws, h1, h2, h3 with | [_, _, _], [], [_], _, _, _ => by show bindArgs _ _ = pure _; rfl)).elim fun _ h => ⟨_, h⟩
section
variable {S : Sc} {P : Program} {w : World} {mg : Str → Option Value} {base : Heap} {k : Nat}
theorem ok__law_pen (T : HX.Def S.K mg "_law_pen" s__law_pen ["_law_cell"]) (B : Bi mg) : CalQ S P w mg base (k + 1) "_law_pen" ["_law_cell"] m_law_pen_579b16 :=
  (Def.okQ T sc__law_pen (fun f cdv A outer s H E hr tk hp =>
  (qss_one (qs_ret (qe_new (qa_cons (qe_callB (S := S) (call_max2 rfl) cq_max2 rfl B.max_ (by decide +kernel) (qa_cons qe_int (qa_cons (qe_bin (S := S) op_sub oq_sub (qe_var (pv 0)) (qe_bin (S := S) op_pow oq_pow qe_int qe_int)) qa_nil))) (qa_cons (qe_bin (S := S) op_mod oq_mod (qe_var (pv 0)) qe_int) (qa_cons qe_int qa_nil))))))))
theorem ok__law_cell_at (T : HX.Def S.K mg "_law_cell_at" s__law_cell_at ["_law_script", "_law_k"]) (B : Bi mg) : CalQ S P w mg base (k + 1) "_law_cell_at" ["_law_script", "_law_k"] m_law_cell_at_e50a56 :=
  CalQ.trim (Def.okQ T sc__law_cell_at (fun f cdv A outer s H E hr tk hp =>
  (qss_cons (qs_if (qt_cmp (S := S) op_lt (oq_cmp cLt) (qe_var (pv 1)) (qe_callB (S := S) call_lenA cq_len rfl B.len_ (by decide +kernel) (qa_cons (qe_var (pv 0)) qa_nil)) (nomark _))
  (qss_one (qs_ret (qe_ix rfl (qe_var (pv 0)) (qe_var (pv 1)))))
  qss_nil)
  (qss_one (qs_ret qe_int)))))
theorem ok__law_draw (T : HX.Def S.K mg "_law_draw" s__law_draw ["_law_pen_here", "_law_many"])  : CalQ S P w mg base (k + 1) "_law_draw" ["_law_pen_here", "_law_many"] m_law_draw_321cf4 :=
  CalQ.trim (Def.okQ T sc__law_draw (fun f cdv A outer s H E hr tk hp =>
  (qss_cons (qs_if (qt_cmp (S := S) op_gt (oq_cmp cGt) (qe_ix rfl (qe_var (pv 0)) qe_int) qe_int (nomark _))
  (qss_cons (qs_set (i := 2) sc__law_draw.nd rfl (Or.inl rfl) (qe_bin (S := S) op_mod oq_mod (qe_ix rfl (qe_var (pv 0)) qe_int) (qe_var (pv 1))))
  (qss_cons (qs_setIx (qe_var (pv 0)) qe_int (qe_bin (S := S) op_fdivW oq_fdiv (qe_ix rfl (qe_var (pv 0)) qe_int) (qe_var (pv 1))))
  (qss_one (qs_ret (qe_var (pv 2))))))
  qss_nil)
  (qss_cons (qs_setIx (qe_var (pv 0)) qe_int (qe_bin (S := S) op_addA oq_add (qe_ix rfl (qe_var (pv 0)) qe_int) qe_int))
  (qss_cons (qs_set (i := 3) sc__law_draw.nd rfl (Or.inl rfl) (qe_bin (S := S) op_mod oq_mod (qe_bin (S := S) op_mulA oq_mul (qe_bin (S := S) op_addA oq_add (qe_ix rfl (qe_var (pv 0)) qe_int) (qe_bin (S := S) op_mulA oq_mul qe_int (qe_ix rfl (qe_var (pv 0)) qe_int))) (qe_bin (S := S) op_addA oq_add qe_int (qe_bin (S := S) op_mulA oq_mul qe_int (qe_ix rfl (qe_var (pv 0)) qe_int)))) qe_int))
  (qss_cons (qs_set (i := 3) sc__law_draw.nd rfl (Or.inl rfl) (qe_bin (S := S) op_mod oq_mod (qe_bin (S := S) op_addA oq_add (qe_bin (S := S) op_addA oq_add (qe_bin (S := S) op_mulA oq_mul (qe_var (pv 3)) (qe_var (pv 3))) (qe_bin (S := S) op_mulA oq_mul qe_int (qe_ix rfl (qe_var (pv 0)) qe_int))) qe_int) qe_int))
  (qss_one (qs_ret (qe_bin (S := S) op_mod oq_mod (qe_bin (S := S) op_fdivW oq_fdiv (qe_bin (S := S) op_mod oq_mod (qe_bin (S := S) op_mulA oq_mul (qe_var (pv 3)) qe_int) qe_int) qe_int) (qe_var (pv 1)))))))))))
theorem ok__law_mixed (T : HX.Def S.K mg "_law_mixed" s__law_mixed ["_law_pen_here", "_law_some"]) (B : Bi mg) (c__law_draw : CalQ S P w mg base k "_law_draw" ["_law_pen_here", "_law_many"] m_law_draw_321cf4) : CalQ S P w mg base (k + 1) "_law_mixed" ["_law_pen_here", "_law_some"] m_law_mixed_84cada :=
  CalQ.trim (Def.okQ T sc__law_mixed (fun f cdv A outer s H E hr tk hp =>
  (qss_cons (qs_set (i := 2) sc__law_mixed.nd rfl (Or.inr rfl) (qe_callTy (S := S) call_listA cq_listC rfl B.list_ (by decide +kernel) (qa_cons (qe_var (pv 1)) qa_nil)))
  (qss_one (qs_ret (qe_lc (own := [("_law_one", 3)]) (t := (.name 3)) rfl sc__law_mixed.nd (qi_seq rfl (qe_var (pv 1))) (blkOk_by (N := ["_law_pen_here", "_law_some", "_law_left", "_law_one"]) (sc := (defScope s__law_mixed)) (by decide +kernel)) (fun _ _ _ _ _ => (pg_name (i := 3) sc__law_mixed.nd rfl (Or.inl rfl))) (fun _ _ _ _ _ => qts_nil) (fun _ _ _ _ _ => (qe_bm (S := S) rfl PySem.F.plainAttrs_list PySem.F.slot_list_pop PySem.F.type_list_pop mt_popAt mq_popAt (qe_var (pv 2)) (qa_cons (qe_call LamX.takes0 rfl c__law_draw hr rfl (qa_cons (qe_var (pv 0)) (qa_cons (qe_callB (S := S) call_lenA cq_len rfl B.len_ (by decide +kernel) (qa_cons (qe_var (pv 2)) qa_nil)) qa_nil)) (len_cons (len_cons len_nil))) qa_nil)))))))))
theorem ok__law_ends (T : HX.Def S.K mg "_law_ends" s__law_ends ["_law_wheel"]) (B : Bi mg) : CalQ S P w mg base (k + 1) "_law_ends" ["_law_wheel"] m_law_ends_55b70f :=
  CalQ.trim (Def.okQ T sc__law_ends (fun f cdv A outer s H E hr tk hp =>
  (qss_cons (qs_set (i := 1) sc__law_ends.nd rfl (Or.inl rfl) (qe_new qa_nil))
  (qss_cons (qs_for (t := (.name 2)) hp rfl (qi_seq rfl (qe_var (pv 0))) (pg_name (i := 2) sc__law_ends.nd rfl (Or.inl rfl))
  (qss_one (qs_expr (qe_bm (S := S) rfl PySem.F.plainAttrs_list PySem.F.slot_list_extend PySem.F.type_list_extend mt_extend mq_extend (qe_var (pv 1)) (qa_cons (qe_callTy (S := S) call_listA cq_list rfl B.list_ (by decide +kernel) (qa_cons (qe_var (pv 2)) qa_nil)) qa_nil)))))
  (qss_one (qs_ret (qe_var (pv 1))))))))
theorem ok__law_table (T : HX.Def S.K mg "_law_table" s__law_table ["_law_board_here"]) (B : Bi mg) (B2 : Bi2 mg) (c__law_ends : CalQ S P w mg base k "_law_ends" ["_law_wheel"] m_law_ends_55b70f) : CalQ S P w mg base (k + 1) "_law_table" ["_law_board_here"] m_law_table_77c86a :=
  (Def.okQ T sc__law_table (fun f cdv A outer s H E hr tk hp =>
  (qss_cons (qs_asg (t := (.tup [1, 2])) (qe_tup (qa_cons (qe_ix rfl (qe_var (pv 0)) qe_int) (qa_cons (qe_new qa_nil) qa_nil))) (pg_tup rfl (pgs_cons (pg_name (i := 1) sc__law_table.nd rfl (Or.inr rfl)) (pgs_cons (pg_name (i := 2) sc__law_table.nd rfl (Or.inl rfl)) pgs_nil))))
  (qss_cons (qs_for (t := (.tup [3, 4])) hp rfl (qi_enum rfl rfl B2.enumerate_ (qa_cons (qe_var (pv 1)) qa_nil)) (pg_tup rfl (pgs_cons (pg_name (i := 3) sc__law_table.nd rfl (Or.inl rfl)) (pgs_cons (pg_name (i := 4) sc__law_table.nd rfl (Or.inl rfl)) pgs_nil)))
  (qss_cons (qs_set (i := 5) sc__law_table.nd rfl (Or.inl rfl) (qe_bin (S := S) op_mulA oq_mulC (qe_lst (qa_cons qe_int qa_nil)) (qe_callB (S := S) call_lenA cq_len rfl B.len_ (by decide +kernel) (qa_cons (qe_var (pv 1)) qa_nil))))
  (qss_cons (qs_setIx (qe_var (pv 5)) (qe_var (pv 3)) (qe_callB (S := S) call_lenA cq_len rfl B.len_ (by decide +kernel) (qa_cons (qe_var (pv 4)) qa_nil)))
  (qss_cons (qs_for (t := (.name 6)) hp rfl (qi_seq rfl (qe_lc (own := [("_law_end", 6)]) (t := (.name 6)) rfl sc__law_table.nd (qi_seq rfl (qe_call tk rfl c__law_ends hr rfl (qa_cons (qe_var (pv 4)) qa_nil) (len_cons len_nil))) (blkOk_by (N := ["_law_board_here", "_law_wheels", "_law_found", "_law_number", "_law_wheel", "_law_line", "_law_end"]) (sc := (defScope s__law_table)) (by decide +kernel)) (fun _ _ _ _ _ => (pg_name (i := 6) sc__law_table.nd rfl (Or.inl rfl))) (fun _ _ _ _ _ => (qts_one (qt_cmp (S := S) op_lt (oq_cmp cLt) (qe_var (pv 6)) (qe_callB (S := S) call_lenA cq_len rfl B.len_ (by decide +kernel) (qa_cons (qe_var (pv 1)) qa_nil)) (nomark _)))) (fun _ _ _ _ _ => (qe_var (pv 6))))) (pg_name (i := 6) sc__law_table.nd rfl (Or.inl rfl))
  (qss_one (qs_setIx (qe_var (pv 5)) (qe_var (pv 6)) (qe_bin (S := S) op_sub oq_sub (qe_ix rfl (qe_var (pv 5)) (qe_var (pv 6))) qe_int))))
  (qss_one (qs_expr (qe_bm (S := S) rfl PySem.F.plainAttrs_list PySem.F.slot_list_append PySem.F.type_list_append mt_append mq_append (qe_var (pv 2)) (qa_cons (qe_var (pv 5)) qa_nil))))))))
  (qss_one (qs_ret (qe_var (pv 2))))))))
theorem ok__law_falls (T : HX.Def S.K mg "_law_falls" s__law_falls ["_law_board_here"]) (B : Bi mg) (B2 : Bi2 mg) (c__law_table : CalQ S P w mg base k "_law_table" ["_law_board_here"] m_law_table_77c86a) : CalQ S P w mg base (k + 1) "_law_falls" ["_law_board_here"] m_law_falls_be901f :=
  CalQ.trim (Def.okQ T sc__law_falls (fun f cdv A outer s H E hr tk hp =>
  (qss_cons (qs_asg (t := (.tup [1, 2])) (qe_tup (qa_cons (qe_call tk rfl c__law_table hr rfl (qa_cons (qe_var (pv 0)) qa_nil) (len_cons len_nil)) (qa_cons qe_int qa_nil))) (pg_tup rfl (pgs_cons (pg_name (i := 1) sc__law_falls.nd rfl (Or.inl rfl)) (pgs_cons (pg_name (i := 2) sc__law_falls.nd rfl (Or.inr rfl)) pgs_nil))))
  (qss_cons (qs_for (t := (.name 3)) hp rfl (qi_range1 rfl B.range_ (qa_cons (qe_callB (S := S) call_lenA cq_len rfl B.len_ (by decide +kernel) (qa_cons (qe_var (pv 1)) qa_nil)) qa_nil)) (pg_name (i := 3) sc__law_falls.nd rfl (Or.inl rfl))
  (qss_cons (qs_set (i := 4) sc__law_falls.nd rfl (Or.inr rfl) (qe_ix rfl (qe_ix rfl (qe_var (pv 1)) (qe_var (pv 3))) (qe_var (pv 3))))
  (qss_cons (qs_if (qt_cmp (S := S) op_le (oq_cmp cLe) (qe_var (pv 4)) qe_int (nomark _))
  (qss_one (qs_ret qe_bl))
  qss_nil)
  (qss_cons (qs_for (t := (.name 5)) hp rfl (qi_range2 rfl B.range_ (qa_cons (qe_bin (S := S) op_addA oq_add (qe_var (pv 3)) qe_int) (qa_cons (qe_callB (S := S) call_lenA cq_len rfl B.len_ (by decide +kernel) (qa_cons (qe_var (pv 1)) qa_nil)) qa_nil))) (pg_name (i := 5) sc__law_falls.nd rfl (Or.inl rfl))
  (qss_cons (qs_set (i := 6) sc__law_falls.nd rfl (Or.inr rfl) (qe_ix rfl (qe_ix rfl (qe_var (pv 1)) (qe_var (pv 5))) (qe_var (pv 3))))
  (qss_one (qs_setIx (qe_var (pv 1)) (qe_var (pv 5)) (qe_lc (own := [("_law_mine", 7), ("_law_part", 8)]) (t := (.tup [7, 8])) rfl sc__law_falls.nd (qi_zip2 rfl rfl B2.zip_ (qa_cons (qe_ix rfl (qe_var (pv 1)) (qe_var (pv 3))) (qa_cons (qe_ix rfl (qe_var (pv 1)) (qe_var (pv 5))) qa_nil))) (blkOk_by (N := ["_law_board_here", "_law_rows_here", "_law_last", "_law_at", "_law_own", "_law_line", "_law_by", "_law_mine", "_law_part"]) (sc := (defScope s__law_falls)) (by decide +kernel)) (fun _ _ _ _ _ => (pg_tup rfl (pgs_cons (pg_name (i := 7) sc__law_falls.nd rfl (Or.inl rfl)) (pgs_cons (pg_name (i := 8) sc__law_falls.nd rfl (Or.inl rfl)) pgs_nil)))) (fun _ _ _ _ _ => qts_nil) (fun _ _ _ _ _ => (qe_bin (S := S) op_fdivW oq_fdiv (qe_bin (S := S) op_sub oq_sub (qe_bin (S := S) op_mulA oq_mul (qe_var (pv 8)) (qe_var (pv 4))) (qe_bin (S := S) op_mulA oq_mul (qe_var (pv 7)) (qe_var (pv 6)))) (qe_var (pv 2)))))))))
  (qss_one (qs_set (i := 2) sc__law_falls.nd rfl (Or.inr rfl) (qe_var (pv 4))))))))
  (qss_one (qs_ret qe_bl))))))
theorem ok__law_without (T : HX.Def S.K mg "_law_without" s__law_without ["_law_board_here", "_law_wheel", "_law_step"]) (B : Bi mg) : CalQ S P w mg base (k + 1) "_law_without" ["_law_board_here", "_law_wheel", "_law_step"] m_law_without_7f3b33 :=
  CalQ.trim (Def.okQ T sc__law_without (fun f cdv A outer s H E hr tk hp =>
  (qss_cons (qs_set (i := 3) sc__law_without.nd rfl (Or.inl rfl) (qe_callTy (S := S) call_listA cq_listC rfl B.list_ (by decide +kernel) (qa_cons (qe_ix rfl (qe_var (pv 0)) qe_int) qa_nil)))
  (qss_cons (qs_setIx (qe_var (pv 3)) (qe_var (pv 1)) (qe_bin (S := S) op_addA oq_add (qe_bin (S := S) op_addA oq_add (qe_sl rfl (qe_ix rfl (qe_var (pv 3)) (qe_var (pv 1))) qo_none (qo_some (qe_var (pv 2)))) (qe_tup (qa_cons (qe_tup qa_nil) qa_nil))) (qe_sl rfl (qe_ix rfl (qe_var (pv 3)) (qe_var (pv 1))) (qo_some (qe_bin (S := S) op_addA oq_add (qe_var (pv 2)) qe_int)) qo_none)))
  (qss_one (qs_ret (qe_tup (qa_cons (qe_callTy (S := S) call_tupleA cq_tuple rfl B.tuple_ (by decide +kernel) (qa_cons (qe_var (pv 3)) qa_nil)) (qa_cons (qe_ix rfl (qe_var (pv 0)) qe_int) qa_nil)))))))))
theorem ok__law_drained (T : HX.Def S.K mg "_law_drained" s__law_drained ["_law_pen_here", "_law_board_here"]) (B : Bi mg) (B2 : Bi2 mg) (c__law_mixed : CalQ S P w mg base k "_law_mixed" ["_law_pen_here", "_law_some"] m_law_mixed_84cada) (c__law_falls : CalQ S P w mg base k "_law_falls" ["_law_board_here"] m_law_falls_be901f) (c__law_without : CalQ S P w mg base k "_law_without" ["_law_board_here", "_law_wheel", "_law_step"] m_law_without_7f3b33) : CalQ S P w mg base (k + 1) "_law_drained" ["_law_pen_here", "_law_board_here"] m_law_drained_b440a9 :=
  CalQ.trim (Def.okQ T sc__law_drained (fun f cdv A outer s H E hr tk hp =>
  (qss_cons (qs_set (i := 2) sc__law_drained.nd rfl (Or.inl rfl) (qe_lst qa_nil))
  (qss_cons (qs_for (t := (.tup [3, 4])) hp rfl (qi_enum rfl rfl B2.enumerate_ (qa_cons (qe_ix rfl (qe_var (pv 1)) qe_int) qa_nil)) (pg_tup rfl (pgs_cons (pg_name (i := 3) sc__law_drained.nd rfl (Or.inr rfl)) (pgs_cons (pg_name (i := 4) sc__law_drained.nd rfl (Or.inl rfl)) pgs_nil)))
  (qss_one (qs_set (i := 2) sc__law_drained.nd rfl (Or.inl rfl) (qe_bin (S := S) op_addA oq_add (qe_var (pv 2)) (qe_lc (own := [("_law_step", 5)]) (t := (.name 5)) rfl sc__law_drained.nd (qi_range1 rfl B.range_ (qa_cons (qe_callB (S := S) call_lenA cq_len rfl B.len_ (by decide +kernel) (qa_cons (qe_var (pv 4)) qa_nil)) qa_nil)) (blkOk_by (N := ["_law_pen_here", "_law_board_here", "_law_spots", "_law_wheel", "_law_steps", "_law_step"]) (sc := (defScope s__law_drained)) (by decide +kernel)) (fun _ _ _ _ _ => (pg_name (i := 5) sc__law_drained.nd rfl (Or.inl rfl))) (fun _ _ _ _ _ => qts_nil) (fun _ _ _ _ _ => (qe_tup (qa_cons (qe_var (pv 3)) (qa_cons (qe_var (pv 5)) qa_nil)))))))))
  (qss_cons (qs_for (t := (.tup [3, 5])) hp rfl (qi_seq rfl (qe_call tk rfl c__law_mixed hr rfl (qa_cons (qe_var (pv 0)) (qa_cons (qe_var (pv 2)) qa_nil)) (len_cons (len_cons len_nil)))) (pg_tup rfl (pgs_cons (pg_name (i := 3) sc__law_drained.nd rfl (Or.inr rfl)) (pgs_cons (pg_name (i := 5) sc__law_drained.nd rfl (Or.inl rfl)) pgs_nil)))
  (qss_one (qs_if (qt_not (qt_val (qe_call tk rfl c__law_falls hr rfl (qa_cons (qe_var (pv 1)) qa_nil) (len_cons len_nil))))
  (qss_one (qs_set (i := 1) sc__law_drained.nd rfl (Or.inl rfl) (qe_call tk rfl c__law_without hr rfl (qa_cons (qe_var (pv 1)) (qa_cons (qe_var (pv 3)) (qa_cons (qe_var (pv 5)) qa_nil))) (len_cons (len_cons (len_cons len_nil))))))
  qss_nil)))
  (qss_one (qs_ret (qe_var (pv 1)))))))))
theorem ok__law_any_board (T : HX.Def S.K mg "_law_any_board" s__law_any_board ["_law_pen_here", "_law_most", "_law_cups"]) (B : Bi mg) (c__law_draw : CalQ S P w mg base k "_law_draw" ["_law_pen_here", "_law_many"] m_law_draw_321cf4) : CalQ S P w mg base (k + 1) "_law_any_board" ["_law_pen_here", "_law_most", "_law_cups"] m_law_any_board_7df546 :=
  CalQ.trim (Def.okQ T sc__law_any_board (fun f cdv A outer s H E hr tk hp =>
  (qss_cons (qs_asg (t := (.tup [3, 2])) (qe_tup (qa_cons (qe_bin (S := S) op_addA oq_add qe_int (qe_call tk rfl c__law_draw hr rfl (qa_cons (qe_var (pv 0)) (qa_cons (qe_var (pv 1)) qa_nil)) (len_cons (len_cons len_nil)))) (qa_cons (qe_call tk rfl c__law_draw hr rfl (qa_cons (qe_var (pv 0)) (qa_cons (qe_bin (S := S) op_addA oq_add (qe_var (pv 2)) qe_int) qa_nil)) (len_cons (len_cons len_nil))) qa_nil))) (pg_tup rfl (pgs_cons (pg_name (i := 3) sc__law_any_board.nd rfl (Or.inr rfl)) (pgs_cons (pg_name (i := 2) sc__law_any_board.nd rfl (Or.inr rfl)) pgs_nil))))
  (qss_cons (qs_set (i := 4) sc__law_any_board.nd rfl (Or.inl rfl) (qe_new qa_nil))
  (qss_cons (qs_for (t := (.name 5)) hp rfl (qi_range1 rfl B.range_ (qa_cons (qe_var (pv 3)) qa_nil)) (pg_name (i := 5) sc__law_any_board.nd rfl (Or.inl rfl))
  (qss_cons (qs_set (i := 6) sc__law_any_board.nd rfl (Or.inl rfl) (qe_new qa_nil))
  (qss_cons (qs_for (t := (.name 7)) hp rfl (qi_range1 rfl B.range_ (qa_cons (qe_bin (S := S) op_addA oq_add qe_int (qe_call tk rfl c__law_draw hr rfl (qa_cons (qe_var (pv 0)) (qa_cons qe_int qa_nil)) (len_cons (len_cons len_nil)))) qa_nil)) (pg_name (i := 7) sc__law_any_board.nd rfl (Or.inl rfl))
  (qss_cons (qs_setLc (i := 8) (own := [("_law_lap", 9)]) (t := (.name 9)) rfl sc__law_any_board.nd rfl rfl (sw_true rfl rfl rfl (by decide +kernel)) (qi_range1 rfl B.range_ (qa_cons (qe_ix rfl (qe_lst (qa_cons qe_int (qa_cons qe_int (qa_cons qe_int (qa_cons qe_int (qa_cons qe_int qa_nil)))))) (qe_call tk rfl c__law_draw hr rfl (qa_cons (qe_var (pv 0)) (qa_cons qe_int qa_nil)) (len_cons (len_cons len_nil)))) qa_nil)) (blkOk_by (N := ["_law_pen_here", "_law_most", "_law_cups", "_law_many", "_law_wheels", "_law_number", "_law_steps", "_law_turn", "_law_ends_here", "_law_lap", "_law_end"]) (sc := (defScope s__law_any_board)) (by decide +kernel)) (fun _ _ _ _ _ => (pg_name (i := 9) sc__law_any_board.nd rfl (Or.inl rfl))) (fun _ _ _ _ _ => qts_nil) (fun _ _ _ _ _ => (qe_call LamX.takes0 rfl c__law_draw hr rfl (qa_cons (qe_var (pv 0)) (qa_cons (qe_bin (S := S) op_addA oq_add (qe_var (pv 3)) (qe_var (pv 2))) qa_nil)) (len_cons (len_cons len_nil)))))
  (qss_one (qs_expr (qe_bm (S := S) rfl PySem.F.plainAttrs_list PySem.F.slot_list_append PySem.F.type_list_append mt_append mq_append (qe_var (pv 6)) (qa_cons (qe_callTy (S := S) call_tupleA cq_tuple rfl B.tuple_ (by decide +kernel) (qa_cons (qe_lc (own := [("_law_end", 10)]) (t := (.name 10)) rfl sc__law_any_board.nd (qi_seq rfl (qe_var (pv 8))) (blkOk_by (N := ["_law_pen_here", "_law_most", "_law_cups", "_law_many", "_law_wheels", "_law_number", "_law_steps", "_law_turn", "_law_ends_here", "_law_lap", "_law_end"]) (sc := (defScope s__law_any_board)) (by decide +kernel)) (fun _ _ _ _ _ => (pg_name (i := 10) sc__law_any_board.nd rfl (Or.inl rfl))) (fun _ _ _ _ _ => qts_nil) (fun _ _ _ _ _ => (qe_if (qt_pw (qw_and (qt_cmp (S := S) op_gt (oq_cmp cGt) (qe_var (pv 2)) qe_int (nomark _)) (qw_and1 (qt_cmp (S := S) (op_eqD (hu64 hr)) oq_eq (qe_call LamX.takes0 rfl c__law_draw hr rfl (qa_cons (qe_var (pv 0)) (qa_cons qe_int qa_nil)) (len_cons (len_cons len_nil))) qe_int (nomark _))))) (qe_bin (S := S) op_addA oq_add (qe_var (pv 3)) (qe_bin (S := S) op_mod oq_mod (qe_var (pv 10)) (qe_var (pv 2)))) (qe_var (pv 10))))) qa_nil)) qa_nil))))))
  (qss_one (qs_expr (qe_bm (S := S) rfl PySem.F.plainAttrs_list PySem.F.slot_list_append PySem.F.type_list_append mt_append mq_append (qe_var (pv 4)) (qa_cons (qe_callTy (S := S) call_tupleA cq_tuple rfl B.tuple_ (by decide +kernel) (qa_cons (qe_var (pv 6)) qa_nil)) qa_nil)))))))
  (qss_one (qs_ret (qe_tup (qa_cons (qe_callTy (S := S) call_tupleA cq_tuple rfl B.tuple_ (by decide +kernel) (qa_cons (qe_var (pv 4)) qa_nil)) (qa_cons (qe_var (pv 2)) qa_nil))))))))))
theorem ok__law_board (T : HX.Def S.K mg "_law_board" s__law_board ["_law_pen_here", "_law_most", "_law_cups"]) (c__law_drained : CalQ S P w mg base k "_law_drained" ["_law_pen_here", "_law_board_here"] m_law_drained_b440a9) (c__law_any_board : CalQ S P w mg base k "_law_any_board" ["_law_pen_here", "_law_most", "_law_cups"] m_law_any_board_7df546) : CalQ S P w mg base (k + 1) "_law_board" ["_law_pen_here", "_law_most", "_law_cups"] m_law_board_8f2c56 :=
  CalQ.trim (Def.okQ T sc__law_board (fun f cdv A outer s H E hr tk hp =>
  (qss_one (qs_ret (qe_call tk rfl c__law_drained hr rfl (qa_cons (qe_var (pv 0)) (qa_cons (qe_call tk rfl c__law_any_board hr rfl (qa_cons (qe_var (pv 0)) (qa_cons (qe_var (pv 1)) (qa_cons (qe_var (pv 2)) qa_nil))) (len_cons (len_cons (len_cons len_nil)))) qa_nil)) (len_cons (len_cons len_nil)))))))
theorem ok__law_kept (T : HX.Def S.K mg "_law_kept" s__law_kept ["_law_pen_here"]) (c__law_draw : CalQ S P w mg base k "_law_draw" ["_law_pen_here", "_law_many"] m_law_draw_321cf4) : CalQ S P w mg base (k + 1) "_law_kept" ["_law_pen_here"] m_law_kept_c36398 :=
  CalQ.trim (Def.okQ T sc__law_kept (fun f cdv A outer s H E hr tk hp =>
  (qss_cons (qs_set (i := 1) sc__law_kept.nd rfl (Or.inl rfl) (qe_lst (qa_cons (qe_tup (qa_cons (qe_tup (qa_cons (qe_tup (qa_cons qe_int qa_nil)) qa_nil)) qa_nil)) (qa_cons (qe_tup (qa_cons (qe_tup (qa_cons (qe_tup (qa_cons qe_int qa_nil)) qa_nil)) (qa_cons (qe_tup (qa_cons (qe_tup (qa_cons qe_int qa_nil)) qa_nil)) qa_nil))) (qa_cons (qe_tup (qa_cons (qe_tup (qa_cons (qe_tup (qa_cons qe_int (qa_cons qe_int qa_nil))) (qa_cons (qe_tup qa_nil) qa_nil))) qa_nil)) (qa_cons (qe_tup (qa_cons (qe_tup (qa_cons (qe_tup (qa_cons qe_int (qa_cons qe_int qa_nil))) qa_nil)) (qa_cons (qe_tup (qa_cons (qe_tup (qa_cons qe_int qa_nil)) qa_nil)) qa_nil))) (qa_cons (qe_tup (qa_cons (qe_tup (qa_cons (qe_tup (qa_cons qe_int qa_nil)) (qa_cons (qe_tup (qa_cons qe_int qa_nil)) qa_nil))) (qa_cons (qe_tup (qa_cons (qe_tup (qa_cons qe_int (qa_cons qe_int qa_nil))) qa_nil)) qa_nil))) qa_nil)))))))
  (qss_one (qs_ret (qe_tup (qa_cons (qe_ix rfl (qe_var (pv 1)) (qe_call tk rfl c__law_draw hr rfl (qa_cons (qe_var (pv 0)) (qa_cons qe_int qa_nil)) (len_cons (len_cons len_nil)))) (qa_cons qe_int qa_nil))))))))
theorem ok__law_stand (T : HX.Def S.K mg "_law_stand" s__law_stand ["_law_pen_here", "_law_board_here"]) (B : Bi mg) (c__law_draw : CalQ S P w mg base k "_law_draw" ["_law_pen_here", "_law_many"] m_law_draw_321cf4) : CalQ S P w mg base (k + 1) "_law_stand" ["_law_pen_here", "_law_board_here"] m_law_stand_d4b1d3 :=
  CalQ.trim (Def.okQ T sc__law_stand (fun f cdv A outer s H E hr tk hp =>
  (qss_one (qs_ret (qe_callTy (S := S) call_tupleA cq_tuple rfl B.tuple_ (by decide +kernel) (qa_cons (qe_lc (own := [("_law_wheel", 2)]) (t := (.name 2)) rfl sc__law_stand.nd (qi_seq rfl (qe_ix rfl (qe_var (pv 1)) qe_int)) (blkOk_by (N := ["_law_pen_here", "_law_board_here", "_law_wheel"]) (sc := (defScope s__law_stand)) (by decide +kernel)) (fun _ _ _ _ _ => (pg_name (i := 2) sc__law_stand.nd rfl (Or.inl rfl))) (fun _ _ _ _ _ => qts_nil) (fun _ _ _ _ _ => (qe_call LamX.takes0 rfl c__law_draw hr rfl (qa_cons (qe_var (pv 0)) (qa_cons (qe_callB (S := S) call_lenA cq_len rfl B.len_ (by decide +kernel) (qa_cons (qe_var (pv 2)) qa_nil)) qa_nil)) (len_cons (len_cons len_nil))))) qa_nil))))))
theorem ok__law_moment (T : HX.Def S.K mg "_law_moment" s__law_moment ["_law_pen_here", "_law_board_here", "_law_most"]) (B : Bi mg) (c__law_draw : CalQ S P w mg base k "_law_draw" ["_law_pen_here", "_law_many"] m_law_draw_321cf4) (c__law_stand : CalQ S P w mg base k "_law_stand" ["_law_pen_here", "_law_board_here"] m_law_stand_d4b1d3) : CalQ S P w mg base (k + 1) "_law_moment" ["_law_pen_here", "_law_board_here", "_law_most"] m_law_moment_bfcba9 :=
  CalQ.trim (Def.okQ T sc__law_moment (fun f cdv A outer s H E hr tk hp =>
  (qss_cons (qs_set (i := 3) sc__law_moment.nd rfl (Or.inl rfl) (qe_callTy (S := S) call_tupleA cq_tuple rfl B.tuple_ (by decide +kernel) (qa_cons (qe_lc (own := [("_law_wheel", 4)]) (t := (.name 4)) rfl sc__law_moment.nd (qi_seq rfl (qe_ix rfl (qe_var (pv 1)) qe_int)) (blkOk_by (N := ["_law_pen_here", "_law_board_here", "_law_most", "_law_waiting", "_law_wheel", "_law_cup"]) (sc := (defScope s__law_moment)) (by decide +kernel)) (fun _ _ _ _ _ => (pg_name (i := 4) sc__law_moment.nd rfl (Or.inl rfl))) (fun _ _ _ _ _ => qts_nil) (fun _ _ _ _ _ => (qe_call LamX.takes0 rfl c__law_draw hr rfl (qa_cons (qe_var (pv 0)) (qa_cons (qe_bin (S := S) op_addA oq_add (qe_var (pv 2)) qe_int) qa_nil)) (len_cons (len_cons len_nil))))) qa_nil)))
  (qss_one (qs_ret (qe_tup (qa_cons (qe_call tk rfl c__law_stand hr rfl (qa_cons (qe_var (pv 0)) (qa_cons (qe_var (pv 1)) qa_nil)) (len_cons (len_cons len_nil))) (qa_cons (qe_var (pv 3)) (qa_cons (qe_callTy (S := S) call_tupleA cq_tuple rfl B.tuple_ (by decide +kernel) (qa_cons (qe_lc (own := [("_law_cup", 5)]) (t := (.name 5)) rfl sc__law_moment.nd (qi_range1 rfl B.range_ (qa_cons (qe_ix rfl (qe_var (pv 1)) qe_int) qa_nil)) (blkOk_by (N := ["_law_pen_here", "_law_board_here", "_law_most", "_law_waiting", "_law_wheel", "_law_cup"]) (sc := (defScope s__law_moment)) (by decide +kernel)) (fun _ _ _ _ _ => (pg_name (i := 5) sc__law_moment.nd rfl (Or.inl rfl))) (fun _ _ _ _ _ => qts_nil) (fun _ _ _ _ _ => (qe_call LamX.takes0 rfl c__law_draw hr rfl (qa_cons (qe_var (pv 0)) (qa_cons qe_int qa_nil)) (len_cons (len_cons len_nil))))) qa_nil)) qa_nil)))))))))
theorem ok__law_handled (T : HX.Def S.K mg "_law_handled" s__law_handled ["_law_board_here", "_law_moment_here", "_law_wheel"]) (B : Bi mg) : CalQ S P w mg base (k + 1) "_law_handled" ["_law_board_here", "_law_moment_here", "_law_wheel"] m_law_handled_e2124e :=
  CalQ.trim (Def.okQ T sc__law_handled (fun f cdv A outer s H E hr tk hp =>
  (qss_cons (qs_par (i := 3) (j := 4) (by rfl) sc__law_handled.nd rfl rfl (by decide) rfl rfl (qa_cons (qe_callTy (S := S) call_listA cq_listC rfl B.list_ (by decide +kernel) (qa_cons (qe_ix rfl (qe_var (pv 1)) qe_int) qa_nil)) (qa_cons (qe_callTy (S := S) call_listA cq_listC rfl B.list_ (by decide +kernel) (qa_cons (qe_bin (S := S) op_addA oq_add (qe_ix rfl (qe_var (pv 1)) qe_int) (qe_ix rfl (qe_var (pv 1)) qe_int)) qa_nil)) qa_nil)) (by rfl))
  (qss_cons (qs_setIx (qe_var (pv 4)) (qe_var (pv 2)) (qe_bin (S := S) op_sub oq_sub (qe_ix rfl (qe_var (pv 4)) (qe_var (pv 2))) qe_int))
  (qss_cons (qs_for (t := (.name 5)) hp rfl (qi_seq rfl (qe_ix rfl (qe_ix rfl (qe_ix rfl (qe_var (pv 0)) qe_int) (qe_var (pv 2))) (qe_ix rfl (qe_var (pv 3)) (qe_var (pv 2))))) (pg_name (i := 5) sc__law_handled.nd rfl (Or.inl rfl))
  (qss_one (qs_setIx (qe_var (pv 4)) (qe_var (pv 5)) (qe_bin (S := S) op_addA oq_add (qe_ix rfl (qe_var (pv 4)) (qe_var (pv 5))) qe_int))))
  (qss_cons (qs_setIx (qe_var (pv 3)) (qe_var (pv 2)) (qe_bin (S := S) op_mod oq_mod (qe_bin (S := S) op_addA oq_add (qe_ix rfl (qe_var (pv 3)) (qe_var (pv 2))) qe_int) (qe_callB (S := S) call_lenA cq_len rfl B.len_ (by decide +kernel) (qa_cons (qe_ix rfl (qe_ix rfl (qe_var (pv 0)) qe_int) (qe_var (pv 2))) qa_nil))))
  (qss_one (qs_ret (qe_tup (qa_cons (qe_callTy (S := S) call_tupleA cq_tuple rfl B.tuple_ (by decide +kernel) (qa_cons (qe_var (pv 3)) qa_nil)) (qa_cons (qe_callTy (S := S) call_tupleA cq_tuple rfl B.tuple_ (by decide +kernel) (qa_cons (qe_sl rfl (qe_var (pv 4)) qo_none (qo_some (qe_callB (S := S) call_lenA cq_len rfl B.len_ (by decide +kernel) (qa_cons (qe_var (pv 3)) qa_nil)))) qa_nil)) (qa_cons (qe_callTy (S := S) call_tupleA cq_tuple rfl B.tuple_ (by decide +kernel) (qa_cons (qe_sl rfl (qe_var (pv 4)) (qo_some (qe_callB (S := S) call_lenA cq_len rfl B.len_ (by decide +kernel) (qa_cons (qe_var (pv 3)) qa_nil))) qo_none) qa_nil)) qa_nil))))))))))))
theorem ok__law_rows {fu : Nat} (T : HX.Def S.K mg "_law_rows" s__law_rows ["_law_board_here", "_law_moment_here", "_law_folk", "_law_most"]) (B : Bi mg) (B2 : Bi2 mg) (c__law_handled : CalQ S P w mg base k "_law_handled" ["_law_board_here", "_law_moment_here", "_law_wheel"] m_law_handled_e2124e) : CalQ S P w mg base (k + 1) "_law_rows" ["_law_board_here", "_law_moment_here", "_law_folk", "_law_most"] (m_law_rows_5da548 fu) :=
  CalQ.trim (Def.okQ T sc__law_rows (fun f cdv A outer s H E hr tk hp =>
  (qss_cons (qs_set (i := 4) sc__law_rows.nd rfl (Or.inl rfl) (qe_new qa_nil))
  (qss_cons (qs_while fu hp (qt_pw (qw_and (qt_cmp (S := S) op_lt (oq_cmp cLt) (qe_callB (S := S) call_lenA cq_len rfl B.len_ (by decide +kernel) (qa_cons (qe_var (pv 4)) qa_nil)) (qe_var (pv 3)) (nomark _)) (qw_and1 (qt_cmp (S := S) op_gt (oq_cmp cGt) (qe_callB (S := S) (cr_maxA rfl) cq_max rfl B.max_ (by decide +kernel) (qa_cons (qe_ix rfl (qe_var (pv 1)) qe_int) qa_nil)) qe_int (nomark _)))))
  (qss_cons (qs_set (i := 5) sc__law_rows.nd rfl (Or.inl rfl) (qe_sl rfl (qe_lc (own := [("_law_wheel", 6), ("_law_many", 7)]) (t := (.tup [6, 7])) rfl sc__law_rows.nd (qi_enum rfl rfl B2.enumerate_ (qa_cons (qe_ix rfl (qe_var (pv 1)) qe_int) qa_nil)) (blkOk_by (N := ["_law_board_here", "_law_moment_here", "_law_folk", "_law_most", "_law_rows_here", "_law_row", "_law_wheel", "_law_many"]) (sc := (defScope s__law_rows)) (by decide +kernel)) (fun _ _ _ _ _ => (pg_tup rfl (pgs_cons (pg_name (i := 6) sc__law_rows.nd rfl (Or.inl rfl)) (pgs_cons (pg_name (i := 7) sc__law_rows.nd rfl (Or.inl rfl)) pgs_nil)))) (fun _ _ _ _ _ => (qts_one (qt_cmp (S := S) op_gt (oq_cmp cGt) (qe_var (pv 7)) qe_int (nomark _)))) (fun _ _ _ _ _ => (qe_var (pv 6)))) qo_none (qo_some (qe_var (pv 2)))))
  (qss_cons (qs_for (t := (.name 6)) hp rfl (qi_seq rfl (qe_var (pv 5))) (pg_name (i := 6) sc__law_rows.nd rfl (Or.inl rfl))
  (qss_one (qs_set (i := 1) sc__law_rows.nd rfl (Or.inl rfl) (qe_call tk rfl c__law_handled hr rfl (qa_cons (qe_var (pv 0)) (qa_cons (qe_var (pv 1)) (qa_cons (qe_var (pv 6)) qa_nil))) (len_cons (len_cons (len_cons len_nil)))))))
  (qss_one (qs_expr (qe_bm (S := S) rfl PySem.F.plainAttrs_list PySem.F.slot_list_append PySem.F.type_list_append mt_append mq_append (qe_var (pv 4)) (qa_cons (qe_callTy (S := S) call_tupleA cq_tuple rfl B.tuple_ (by decide +kernel) (qa_cons (qe_var (pv 5)) qa_nil)) qa_nil)))))))
  (qss_one (qs_ret (qe_tup (qa_cons (qe_var (pv 4)) (qa_cons (qe_var (pv 1)) qa_nil)))))))))
theorem ok_has_parts (T : HX.Def S.K mg "has_parts" s_has_parts ["thing", "least", "most"]) (B : Bi mg) : CalQ S P w mg base (k + 1) "has_parts" ["thing", "least", "most"] m_has_parts :=
  CalQ.trim (Def.okQ T sc_has_parts (fun f cdv A outer s H E hr tk hp =>
  (qss_one (qs_ret (qe_and (qe_callB (S := S) call_isi (cq_isi .tuple (by decide)) rfl B.isinstance_ (by decide +kernel) (qa_cons (qe_var (pv 0)) (qa_cons (qe_adr (pe_bltn (v := .ty "tuple") (u := .type "tuple") rfl B.tuple_ (by decide +kernel) rfl)) qa_nil))) (qe_one (qe_chain op_le op_le (flat_cmp cLe) (oq_cmp cLe) (oq_cmp cLe) (qe_var (pv 1)) (qe_callB (S := S) call_lenA cq_len rfl B.len_ (by decide +kernel) (qa_cons (qe_var (pv 0)) qa_nil)) (qe_var (pv 2)))))))))
theorem ok_is_whole (T : HX.Def S.K mg "is_whole" s_is_whole ["thing"]) (B : Bi mg) : CalQ S P w mg base (k + 1) "is_whole" ["thing"] m_is_whole :=
  CalQ.trim (Def.okQ T sc_is_whole (fun f cdv A outer s H E hr tk hp =>
  (qss_one (qs_ret (qe_and (qe_callB (S := S) call_isi (cq_isi .int (by decide)) rfl B.isinstance_ (by decide +kernel) (qa_cons (qe_var (pv 0)) (qa_cons (qe_adr (pe_bltn (v := .ty "int") (u := .type "int") rfl B.int_ (by decide +kernel) rfl)) qa_nil))) (qe_one (qe_not (qe_callB (S := S) call_isi (cq_isi .bool (by decide)) rfl B.isinstance_ (by decide +kernel) (qa_cons (qe_var (pv 0)) (qa_cons (qe_adr (pe_bltn (v := .ty "bool") (u := .type "bool") rfl B.bool_ (by decide +kernel) rfl)) qa_nil))))))))))
theorem ok_is_within (T : HX.Def S.K mg "is_within" s_is_within ["thing", "least", "most"]) (c_is_whole : CalQ S P w mg base k "is_whole" ["thing"] m_is_whole) : CalQ S P w mg base (k + 1) "is_within" ["thing", "least", "most"] m_is_within :=
  CalQ.trim (Def.okQ T sc_is_within (fun f cdv A outer s H E hr tk hp =>
  (qss_one (qs_ret (qe_and (qe_call tk rfl c_is_whole hr rfl (qa_cons (qe_var (pv 0)) qa_nil) (len_cons len_nil)) (qe_one (qe_chain op_le op_le (flat_cmp cLe) (oq_cmp cLe) (oq_cmp cLe) (qe_var (pv 1)) (qe_var (pv 0)) (qe_var (pv 2)))))))))
theorem ok_is_step {t_MOST_ENDS : Tok} (T : HX.Def S.K mg "is_step" s_is_step ["thing", "ends"]) (B : Bi mg) (g_MOST_ENDS : mg "MOST_ENDS" = some (.int 3 t_MOST_ENDS)) (c_is_within : CalQ S P w mg base k "is_within" ["thing", "least", "most"] m_is_within) (c_has_parts : CalQ S P w mg base k "has_parts" ["thing", "least", "most"] m_has_parts) : CalQ S P w mg base (k + 1) "is_step" ["thing", "ends"] m_is_step :=
  CalQ.trim (Def.okQ T sc_is_step (fun f cdv A outer s H E hr tk hp =>
  (qss_one (qs_ret (qe_and (qe_call tk rfl c_has_parts hr rfl (qa_cons (qe_var (pv 0)) (qa_cons qe_int (qa_cons (qe_gint (x := "MOST_ENDS") (pe_gint rfl g_MOST_ENDS)) qa_nil))) (len_cons (len_cons (len_cons len_nil)))) (qe_one (qe_callB (S := S) (cr_all rfl) cq_all rfl B.all_ (by decide +kernel) (qa_cons (qe_lc (own := [("end", 2)]) (t := (.name 2)) rfl sc_is_step.nd (qi_seq rfl (qe_var (pv 0))) (blkOk_by (N := ["thing", "ends", "end"]) (sc := (defScope s_is_step)) (by decide +kernel)) (fun _ _ _ _ _ => (pg_name (i := 2) sc_is_step.nd rfl (Or.inl rfl))) (fun _ _ _ _ _ => qts_nil) (fun _ _ _ _ _ => (qe_call LamX.takes0 rfl c_is_within hr rfl (qa_cons (qe_var (pv 2)) (qa_cons qe_int (qa_cons (qe_bin (S := S) op_sub oq_sub (qe_var (pv 1)) qe_int) qa_nil))) (len_cons (len_cons (len_cons len_nil)))))) qa_nil))))))))
theorem ok_is_wheel {t_MOST_STEPS : Tok} (T : HX.Def S.K mg "is_wheel" s_is_wheel ["thing", "ends"]) (B : Bi mg) (g_MOST_STEPS : mg "MOST_STEPS" = some (.int 4 t_MOST_STEPS)) (c_is_step : CalQ S P w mg base k "is_step" ["thing", "ends"] m_is_step) (c_has_parts : CalQ S P w mg base k "has_parts" ["thing", "least", "most"] m_has_parts) : CalQ S P w mg base (k + 1) "is_wheel" ["thing", "ends"] m_is_wheel :=
  CalQ.trim (Def.okQ T sc_is_wheel (fun f cdv A outer s H E hr tk hp =>
  (qss_one (qs_ret (qe_and (qe_call tk rfl c_has_parts hr rfl (qa_cons (qe_var (pv 0)) (qa_cons qe_int (qa_cons (qe_gint (x := "MOST_STEPS") (pe_gint rfl g_MOST_STEPS)) qa_nil))) (len_cons (len_cons (len_cons len_nil)))) (qe_one (qe_callB (S := S) (cr_all rfl) cq_all rfl B.all_ (by decide +kernel) (qa_cons (qe_lc (own := [("step", 2)]) (t := (.name 2)) rfl sc_is_wheel.nd (qi_seq rfl (qe_var (pv 0))) (blkOk_by (N := ["thing", "ends", "step"]) (sc := (defScope s_is_wheel)) (by decide +kernel)) (fun _ _ _ _ _ => (pg_name (i := 2) sc_is_wheel.nd rfl (Or.inl rfl))) (fun _ _ _ _ _ => qts_nil) (fun _ _ _ _ _ => (qe_call LamX.takes0 rfl c_is_step hr rfl (qa_cons (qe_var (pv 2)) (qa_cons (qe_var (pv 1)) qa_nil)) (len_cons (len_cons len_nil))))) qa_nil))))))))
theorem ok_is_board {t_MOST_CUPS : Tok} {t_MOST_WHEELS : Tok} (T : HX.Def S.K mg "is_board" s_is_board ["thing"]) (B : Bi mg) (g_MOST_CUPS : mg "MOST_CUPS" = some (.int 4 t_MOST_CUPS)) (g_MOST_WHEELS : mg "MOST_WHEELS" = some (.int 6 t_MOST_WHEELS)) (c_is_wheel : CalQ S P w mg base k "is_wheel" ["thing", "ends"] m_is_wheel) (c_is_within : CalQ S P w mg base k "is_within" ["thing", "least", "most"] m_is_within) (c_has_parts : CalQ S P w mg base k "has_parts" ["thing", "least", "most"] m_has_parts) : CalQ S P w mg base (k + 1) "is_board" ["thing"] m_is_board :=
  CalQ.trim (Def.okQ T sc_is_board (fun f cdv A outer s H E hr tk hp =>
  (qss_cons (qs_if (qt_not (qt_val (qe_call tk rfl c_has_parts hr rfl (qa_cons (qe_var (pv 0)) (qa_cons qe_int (qa_cons qe_int qa_nil))) (len_cons (len_cons (len_cons len_nil))))))
  (qss_one (qs_ret qe_bl))
  qss_nil)
  (qss_cons (qs_asg (t := (.tup [1, 2])) (qe_var (pv 0)) (pg_tup rfl (pgs_cons (pg_name (i := 1) sc_is_board.nd rfl (Or.inl rfl)) (pgs_cons (pg_name (i := 2) sc_is_board.nd rfl (Or.inl rfl)) pgs_nil))))
  (qss_cons (qs_if (qt_pw (qw_or (qt_not (qt_val (qe_call tk rfl c_has_parts hr rfl (qa_cons (qe_var (pv 1)) (qa_cons qe_int (qa_cons (qe_gint (x := "MOST_WHEELS") (pe_gint rfl g_MOST_WHEELS)) qa_nil))) (len_cons (len_cons (len_cons len_nil)))))) (qw_or1 (qt_not (qt_val (qe_call tk rfl c_is_within hr rfl (qa_cons (qe_var (pv 2)) (qa_cons qe_int (qa_cons (qe_gint (x := "MOST_CUPS") (pe_gint rfl g_MOST_CUPS)) qa_nil))) (len_cons (len_cons (len_cons len_nil)))))))))
  (qss_one (qs_ret qe_bl))
  qss_nil)
  (qss_cons (qs_set (i := 3) sc_is_board.nd rfl (Or.inr rfl) (qe_bin (S := S) op_addA oq_add (qe_callB (S := S) call_lenA cq_len rfl B.len_ (by decide +kernel) (qa_cons (qe_var (pv 1)) qa_nil)) (qe_var (pv 2))))
  (qss_one (qs_ret (qe_callB (S := S) (cr_all rfl) cq_all rfl B.all_ (by decide +kernel) (qa_cons (qe_lc (own := [("wheel", 4)]) (t := (.name 4)) rfl sc_is_board.nd (qi_seq rfl (qe_var (pv 1))) (blkOk_by (N := ["thing", "wheels", "cups", "ends", "wheel"]) (sc := (defScope s_is_board)) (by decide +kernel)) (fun _ _ _ _ _ => (pg_name (i := 4) sc_is_board.nd rfl (Or.inl rfl))) (fun _ _ _ _ _ => qts_nil) (fun _ _ _ _ _ => (qe_call LamX.takes0 rfl c_is_wheel hr rfl (qa_cons (qe_var (pv 4)) (qa_cons (qe_var (pv 3)) qa_nil)) (len_cons (len_cons len_nil))))) qa_nil))))))))))
theorem ok_need_board (T : HX.Def S.K mg "need_board" s_need_board ["thing"]) (R_NoBoard : Err S.K mg "NoBoard" (S.C 0)) (c_is_board : CalQ S P w mg base k "is_board" ["thing"] m_is_board) : CalQ S P w mg base (k + 1) "need_board" ["thing"] m_need_board :=
  CalQ.trim (Def.okQ T sc_need_board (fun f cdv A outer s H E hr tk hp =>
  (qss_one (qs_if (qt_not (qt_val (qe_call tk rfl c_is_board hr rfl (qa_cons (qe_var (pv 0)) qa_nil) (len_cons len_nil))))
  (qss_one (qs_err (n := 0) R_NoBoard tk))
  qss_nil))))
theorem ok_is_stand (T : HX.Def S.K mg "is_stand" s_is_stand ["board", "thing"]) (B : Bi mg) (B2 : Bi2 mg) (c_is_within : CalQ S P w mg base k "is_within" ["thing", "least", "most"] m_is_within) (c_has_parts : CalQ S P w mg base k "has_parts" ["thing", "least", "most"] m_has_parts) (c_need_board : CalQ S P w mg base k "need_board" ["thing"] m_need_board) : CalQ S P w mg base (k + 1) "is_stand" ["board", "thing"] m_is_stand :=
  CalQ.trim (Def.okQ T sc_is_stand (fun f cdv A outer s H E hr tk hp =>
  (qss_cons (qs_expr (qe_call tk rfl c_need_board hr rfl (qa_cons (qe_var (pv 0)) qa_nil) (len_cons len_nil)))
  (qss_cons (qs_set (i := 2) sc_is_stand.nd rfl (Or.inl rfl) (qe_ix rfl (qe_var (pv 0)) qe_int))
  (qss_cons (qs_if (qt_not (qt_val (qe_call tk rfl c_has_parts hr rfl (qa_cons (qe_var (pv 1)) (qa_cons (qe_callB (S := S) call_lenA cq_len rfl B.len_ (by decide +kernel) (qa_cons (qe_var (pv 2)) qa_nil)) (qa_cons (qe_callB (S := S) call_lenA cq_len rfl B.len_ (by decide +kernel) (qa_cons (qe_var (pv 2)) qa_nil)) qa_nil))) (len_cons (len_cons (len_cons len_nil))))))
  (qss_one (qs_ret qe_bl))
  qss_nil)
  (qss_one (qs_ret (qe_callB (S := S) (cr_all rfl) cq_all rfl B.all_ (by decide +kernel) (qa_cons (qe_lc (own := [("step", 3), ("wheel", 4)]) (t := (.tup [3, 4])) rfl sc_is_stand.nd (qi_zip2 rfl rfl B2.zip_ (qa_cons (qe_var (pv 1)) (qa_cons (qe_var (pv 2)) qa_nil))) (blkOk_by (N := ["board", "thing", "wheels", "step", "wheel"]) (sc := (defScope s_is_stand)) (by decide +kernel)) (fun _ _ _ _ _ => (pg_tup rfl (pgs_cons (pg_name (i := 3) sc_is_stand.nd rfl (Or.inl rfl)) (pgs_cons (pg_name (i := 4) sc_is_stand.nd rfl (Or.inl rfl)) pgs_nil)))) (fun _ _ _ _ _ => qts_nil) (fun _ _ _ _ _ => (qe_call LamX.takes0 rfl c_is_within hr rfl (qa_cons (qe_var (pv 3)) (qa_cons qe_int (qa_cons (qe_bin (S := S) op_sub oq_sub (qe_callB (S := S) call_lenA cq_len rfl B.len_ (by decide +kernel) (qa_cons (qe_var (pv 4)) qa_nil)) qe_int) qa_nil))) (len_cons (len_cons (len_cons len_nil)))))) qa_nil)))))))))
theorem ok_are_marbles (T : HX.Def S.K mg "are_marbles" s_are_marbles ["thing", "places"]) (B : Bi mg) (c_is_whole : CalQ S P w mg base k "is_whole" ["thing"] m_is_whole) (c_has_parts : CalQ S P w mg base k "has_parts" ["thing", "least", "most"] m_has_parts) : CalQ S P w mg base (k + 1) "are_marbles" ["thing", "places"] m_are_marbles :=
  CalQ.trim (Def.okQ T sc_are_marbles (fun f cdv A outer s H E hr tk hp =>
  (qss_one (qs_ret (qe_and (qe_call tk rfl c_has_parts hr rfl (qa_cons (qe_var (pv 0)) (qa_cons (qe_var (pv 1)) (qa_cons (qe_var (pv 1)) qa_nil))) (len_cons (len_cons (len_cons len_nil)))) (qe_one (qe_callB (S := S) (cr_all rfl) cq_all rfl B.all_ (by decide +kernel) (qa_cons (qe_lc (own := [("many", 2)]) (t := (.name 2)) rfl sc_are_marbles.nd (qi_seq rfl (qe_var (pv 0))) (blkOk_by (N := ["thing", "places", "many"]) (sc := (defScope s_are_marbles)) (by decide +kernel)) (fun _ _ _ _ _ => (pg_name (i := 2) sc_are_marbles.nd rfl (Or.inl rfl))) (fun _ _ _ _ _ => qts_nil) (fun _ _ _ _ _ => (qe_and (qe_call LamX.takes0 rfl c_is_whole hr rfl (qa_cons (qe_var (pv 2)) qa_nil) (len_cons len_nil)) (qe_one (qe_cmp (S := S) op_ge (oq_cmp cGe) (qe_var (pv 2)) qe_int (nomark _)))))) qa_nil))))))))
theorem ok_is_moment (T : HX.Def S.K mg "is_moment" s_is_moment ["board", "thing"]) (B : Bi mg) (c_are_marbles : CalQ S P w mg base k "are_marbles" ["thing", "places"] m_are_marbles) (c_is_stand : CalQ S P w mg base k "is_stand" ["board", "thing"] m_is_stand) (c_has_parts : CalQ S P w mg base k "has_parts" ["thing", "least", "most"] m_has_parts) (c_need_board : CalQ S P w mg base k "need_board" ["thing"] m_need_board) : CalQ S P w mg base (k + 1) "is_moment" ["board", "thing"] m_is_moment :=
  CalQ.trim (Def.okQ T sc_is_moment (fun f cdv A outer s H E hr tk hp =>
  (qss_cons (qs_expr (qe_call tk rfl c_need_board hr rfl (qa_cons (qe_var (pv 0)) qa_nil) (len_cons len_nil)))
  (qss_cons (qs_if (qt_not (qt_val (qe_call tk rfl c_has_parts hr rfl (qa_cons (qe_var (pv 1)) (qa_cons qe_int (qa_cons qe_int qa_nil))) (len_cons (len_cons (len_cons len_nil))))))
  (qss_one (qs_ret qe_bl))
  qss_nil)
  (qss_cons (qs_asg (t := (.tup [2, 3])) (qe_var (pv 0)) (pg_tup rfl (pgs_cons (pg_name (i := 2) sc_is_moment.nd rfl (Or.inl rfl)) (pgs_cons (pg_name (i := 3) sc_is_moment.nd rfl (Or.inl rfl)) pgs_nil))))
  (qss_cons (qs_asg (t := (.tup [4, 5, 6])) (qe_var (pv 1)) (pg_tup rfl (pgs_cons (pg_name (i := 4) sc_is_moment.nd rfl (Or.inl rfl)) (pgs_cons (pg_name (i := 5) sc_is_moment.nd rfl (Or.inl rfl)) (pgs_cons (pg_name (i := 6) sc_is_moment.nd rfl (Or.inl rfl)) pgs_nil)))))
  (qss_one (qs_ret (qe_and (qe_call tk rfl c_is_stand hr rfl (qa_cons (qe_var (pv 0)) (qa_cons (qe_var (pv 4)) qa_nil)) (len_cons (len_cons len_nil))) (qe_and (qe_call tk rfl c_are_marbles hr rfl (qa_cons (qe_var (pv 5)) (qa_cons (qe_callB (S := S) call_lenA cq_len rfl B.len_ (by decide +kernel) (qa_cons (qe_var (pv 2)) qa_nil)) qa_nil)) (len_cons (len_cons len_nil))) (qe_one (qe_call tk rfl c_are_marbles hr rfl (qa_cons (qe_var (pv 6)) (qa_cons (qe_var (pv 3)) qa_nil)) (len_cons (len_cons len_nil))))))))))))))
theorem ok_need_moment (T : HX.Def S.K mg "need_moment" s_need_moment ["board", "thing"]) (R_NoMoment : Err S.K mg "NoMoment" (S.C 2)) (c_is_moment : CalQ S P w mg base k "is_moment" ["board", "thing"] m_is_moment) : CalQ S P w mg base (k + 1) "need_moment" ["board", "thing"] m_need_moment :=
  CalQ.trim (Def.okQ T sc_need_moment (fun f cdv A outer s H E hr tk hp =>
  (qss_one (qs_if (qt_not (qt_val (qe_call tk rfl c_is_moment hr rfl (qa_cons (qe_var (pv 0)) (qa_cons (qe_var (pv 1)) qa_nil)) (len_cons (len_cons len_nil)))))
  (qss_one (qs_err (n := 2) R_NoMoment tk))
  qss_nil))))
theorem ok_need_hands {t_MOST_HANDS : Tok} (T : HX.Def S.K mg "need_hands" s_need_hands ["thing"]) (g_MOST_HANDS : mg "MOST_HANDS" = some (.int 6 t_MOST_HANDS)) (R_NoHands : Err S.K mg "NoHands" (S.C 16)) (c_is_within : CalQ S P w mg base k "is_within" ["thing", "least", "most"] m_is_within) : CalQ S P w mg base (k + 1) "need_hands" ["thing"] m_need_hands :=
  CalQ.trim (Def.okQ T sc_need_hands (fun f cdv A outer s H E hr tk hp =>
  (qss_one (qs_if (qt_not (qt_val (qe_call tk rfl c_is_within hr rfl (qa_cons (qe_var (pv 0)) (qa_cons qe_int (qa_cons (qe_gint (x := "MOST_HANDS") (pe_gint rfl g_MOST_HANDS)) qa_nil))) (len_cons (len_cons (len_cons len_nil))))))
  (qss_one (qs_err (n := 16) R_NoHands tk))
  qss_nil))))
theorem ok_loosened (T : HX.Def S.K mg "loosened" s_loosened ["moment"]) (B : Bi mg) : CalQ S P w mg base (k + 1) "loosened" ["moment"] m_loosened :=
  (Def.okQ T sc_loosened (fun f cdv A outer s H E hr tk hp =>
  (qss_cons (qs_asg (t := (.tup [1, 2, 3])) (qe_var (pv 0)) (pg_tup rfl (pgs_cons (pg_name (i := 1) sc_loosened.nd rfl (Or.inl rfl)) (pgs_cons (pg_name (i := 2) sc_loosened.nd rfl (Or.inl rfl)) (pgs_cons (pg_name (i := 3) sc_loosened.nd rfl (Or.inl rfl)) pgs_nil)))))
  (qss_one (qs_ret (qe_tup (qa_cons (qe_callTy (S := S) call_listA cq_listC rfl B.list_ (by decide +kernel) (qa_cons (qe_var (pv 1)) qa_nil)) (qa_cons (qe_callTy (S := S) call_listA cq_listC rfl B.list_ (by decide +kernel) (qa_cons (qe_var (pv 2)) qa_nil)) (qa_cons (qe_callTy (S := S) call_listA cq_listC rfl B.list_ (by decide +kernel) (qa_cons (qe_var (pv 3)) qa_nil)) qa_nil)))))))))
theorem ok_handle_marble (T : HX.Def S.K mg "handle_marble" s_handle_marble ["board", "parts", "wheel"]) (B : Bi mg) : CalQ S P w mg base (k + 1) "handle_marble" ["board", "parts", "wheel"] m_handle_marble :=
  CalQ.trim (Def.okQ T sc_handle_marble (fun f cdv A outer s H E hr tk hp =>
  (qss_cons (qs_set (i := 3) sc_handle_marble.nd rfl (Or.inl rfl) (qe_ix rfl (qe_var (pv 0)) qe_int))
  (qss_cons (qs_asg (t := (.tup [4, 5, 6])) (qe_var (pv 1)) (pg_tup rfl (pgs_cons (pg_name (i := 4) sc_handle_marble.nd rfl (Or.inl rfl)) (pgs_cons (pg_name (i := 5) sc_handle_marble.nd rfl (Or.inl rfl)) (pgs_cons (pg_name (i := 6) sc_handle_marble.nd rfl (Or.inl rfl)) pgs_nil)))))
  (qss_cons (qs_set (i := 7) sc_handle_marble.nd rfl (Or.inl rfl) (qe_ix rfl (qe_var (pv 4)) (qe_var (pv 2))))
  (qss_cons (qs_augIx (S := S) rfl (qe_var (pv 5)) (qe_var (pv 2)) qe_int ip_sub ipq_sub)
  (qss_cons (qs_for (t := (.name 8)) hp rfl (qi_seq rfl (qe_ix rfl (qe_ix rfl (qe_var (pv 3)) (qe_var (pv 2))) (qe_var (pv 7)))) (pg_name (i := 8) sc_handle_marble.nd rfl (Or.inl rfl))
  (qss_one (qs_if (qt_cmp (S := S) op_lt (oq_cmp cLt) (qe_var (pv 8)) (qe_callB (S := S) call_lenA cq_len rfl B.len_ (by decide +kernel) (qa_cons (qe_var (pv 3)) qa_nil)) (nomark _))
  (qss_one (qs_augIx (S := S) rfl (qe_var (pv 5)) (qe_var (pv 8)) qe_int ip_add ipq_add))
  (qss_one (qs_augIx (S := S) rfl (qe_var (pv 6)) (qe_bin (S := S) op_sub oq_sub (qe_var (pv 8)) (qe_callB (S := S) call_lenA cq_len rfl B.len_ (by decide +kernel) (qa_cons (qe_var (pv 3)) qa_nil))) qe_int ip_add ipq_add)))))
  (qss_one (qs_setIx (qe_var (pv 4)) (qe_var (pv 2)) (qe_bin (S := S) op_mod oq_mod (qe_bin (S := S) op_addA oq_add (qe_var (pv 7)) qe_int) (qe_callB (S := S) call_lenA cq_len rfl B.len_ (by decide +kernel) (qa_cons (qe_ix rfl (qe_var (pv 3)) (qe_var (pv 2))) qa_nil))))))))))))
theorem ok_handle_beat (T : HX.Def S.K mg "handle_beat" s_handle_beat ["board", "parts", "hands"]) (B : Bi mg) (B2 : Bi2 mg) (c_handle_marble : CalQ S P w mg base k "handle_marble" ["board", "parts", "wheel"] m_handle_marble) : CalQ S P w mg base (k + 1) "handle_beat" ["board", "parts", "hands"] m_handle_beat :=
  CalQ.trim (Def.okQ T sc_handle_beat (fun f cdv A outer s H E hr tk hp =>
  (qss_cons (qs_set (i := 3) sc_handle_beat.nd rfl (Or.inl rfl) (qe_callTy (S := S) call_tupleA cq_tuple rfl B.tuple_ (by decide +kernel) (qa_cons (qe_sl rfl (qe_lc (own := [("wheel", 4), ("many", 5)]) (t := (.tup [4, 5])) rfl sc_handle_beat.nd (qi_enum rfl rfl B2.enumerate_ (qa_cons (qe_ix rfl (qe_var (pv 1)) qe_int) qa_nil)) (blkOk_by (N := ["board", "parts", "hands", "row", "wheel", "many"]) (sc := (defScope s_handle_beat)) (by decide +kernel)) (fun _ _ _ _ _ => (pg_tup rfl (pgs_cons (pg_name (i := 4) sc_handle_beat.nd rfl (Or.inl rfl)) (pgs_cons (pg_name (i := 5) sc_handle_beat.nd rfl (Or.inl rfl)) pgs_nil)))) (fun _ _ _ _ _ => (qts_one (qt_cmp (S := S) op_gt (oq_cmp cGt) (qe_var (pv 5)) qe_int (nomark _)))) (fun _ _ _ _ _ => (qe_var (pv 4)))) qo_none (qo_some (qe_var (pv 2)))) qa_nil)))
  (qss_cons (qs_for (t := (.name 4)) hp rfl (qi_seq rfl (qe_var (pv 3))) (pg_name (i := 4) sc_handle_beat.nd rfl (Or.inl rfl))
  (qss_one (qs_expr (qe_call tk rfl c_handle_marble hr rfl (qa_cons (qe_var (pv 0)) (qa_cons (qe_var (pv 1)) (qa_cons (qe_var (pv 4)) qa_nil))) (len_cons (len_cons (len_cons len_nil)))))))
  (qss_one (qs_ret (qe_var (pv 3))))))))
theorem ok_rows_of {t_MOST_ROWS : Tok} {fu : Nat} (T : DefD S.K mg "rows_of" s_rows_of [] [("hands", V.int 1)]) (B : Bi mg) (g_MOST_ROWS : mg "MOST_ROWS" = some (.int 500 t_MOST_ROWS)) (R_NoNumber : Err S.K mg "NoNumber" (S.C 9)) (c_handle_beat : CalQ S P w mg base k "handle_beat" ["board", "parts", "hands"] m_handle_beat) (c_loosened : CalQ S P w mg base k "loosened" ["moment"] m_loosened) (c_need_hands : CalQ S P w mg base k "need_hands" ["thing"] m_need_hands) (c_is_within : CalQ S P w mg base k "is_within" ["thing", "least", "most"] m_is_within) (c_need_moment : CalQ S P w mg base k "need_moment" ["board", "thing"] m_need_moment) : CalDQ S P w mg base (k + 1) "rows_of" s_rows_of [] [("hands", V.int 1)] ["board", "moment", "many", "hands"] (m_rows_of fu) :=
  CalDQ.trim (DefD.okQ T sc_rows_of (fun f cdv A outer s H E hr tk hp =>
  (qss_cons (qs_expr (qe_call tk rfl c_need_moment hr rfl (qa_cons (qe_var (pv 0)) (qa_cons (qe_var (pv 1)) qa_nil)) (len_cons (len_cons len_nil))))
  (qss_cons (qs_if (qt_not (qt_val (qe_call tk rfl c_is_within hr rfl (qa_cons (qe_var (pv 2)) (qa_cons qe_int (qa_cons (qe_gint (x := "MOST_ROWS") (pe_gint rfl g_MOST_ROWS)) qa_nil))) (len_cons (len_cons (len_cons len_nil))))))
  (qss_one (qs_err (n := 9) R_NoNumber tk))
  qss_nil)
  (qss_cons (qs_expr (qe_call tk rfl c_need_hands hr rfl (qa_cons (qe_var (pv 3)) qa_nil) (len_cons len_nil)))
  (qss_cons (qs_asg (t := (.tup [4, 5, 6])) (qe_call tk rfl c_loosened hr rfl (qa_cons (qe_var (pv 1)) qa_nil) (len_cons len_nil)) (pg_tup rfl (pgs_cons (pg_name (i := 4) sc_rows_of.nd rfl (Or.inl rfl)) (pgs_cons (pg_name (i := 5) sc_rows_of.nd rfl (Or.inl rfl)) (pgs_cons (pg_name (i := 6) sc_rows_of.nd rfl (Or.inl rfl)) pgs_nil)))))
  (qss_cons (qs_set (i := 7) sc_rows_of.nd rfl (Or.inl rfl) (qe_new qa_nil))
  (qss_cons (qs_while fu hp (qt_pw (qw_and (qt_cmp (S := S) op_lt (oq_cmp cLt) (qe_callB (S := S) call_lenA cq_len rfl B.len_ (by decide +kernel) (qa_cons (qe_var (pv 7)) qa_nil)) (qe_var (pv 2)) (nomark _)) (qw_and1 (qt_cmp (S := S) op_gt (oq_cmp cGt) (qe_callB (S := S) (cr_maxA rfl) cq_max rfl B.max_ (by decide +kernel) (qa_cons (qe_var (pv 5)) qa_nil)) qe_int (nomark _)))))
  (qss_one (qs_expr (qe_bm (S := S) rfl PySem.F.plainAttrs_list PySem.F.slot_list_append PySem.F.type_list_append mt_append mq_append (qe_var (pv 7)) (qa_cons (qe_call tk rfl c_handle_beat hr rfl (qa_cons (qe_var (pv 0)) (qa_cons (qe_tup (qa_cons (qe_var (pv 4)) (qa_cons (qe_var (pv 5)) (qa_cons (qe_var (pv 6)) qa_nil)))) (qa_cons (qe_var (pv 3)) qa_nil))) (len_cons (len_cons (len_cons len_nil)))) qa_nil)))))
  (qss_one (qs_ret (qe_callTy (S := S) call_tupleA cq_tuple rfl B.tuple_ (by decide +kernel) (qa_cons (qe_var (pv 7)) qa_nil))))))))))))
theorem ok_law {fu : Nat} {f : Addr} {fd : FuncData} (F : Fun S.K "law" "law" s_law f fd) (B : Bi mg) (c__law_kept : CalQ S P w mg base k "_law_kept" ["_law_pen_here"] m_law_kept_c36398) (c__law_any_board : CalQ S P w mg base k "_law_any_board" ["_law_pen_here", "_law_most", "_law_cups"] m_law_any_board_7df546) (c__law_board : CalQ S P w mg base k "_law_board" ["_law_pen_here", "_law_most", "_law_cups"] m_law_board_8f2c56) (c_rows_of : CalDQ S P w mg base k "rows_of" s_rows_of [] [("hands", V.int 1)] ["board", "moment", "many", "hands"] (m_rows_of fu)) (c__law_rows : CalQ S P w mg base k "_law_rows" ["_law_board_here", "_law_moment_here", "_law_folk", "_law_most"] (m_law_rows_5da548 fu)) (c__law_draw : CalQ S P w mg base k "_law_draw" ["_law_pen_here", "_law_many"] m_law_draw_321cf4) (c__law_moment : CalQ S P w mg base k "_law_moment" ["_law_pen_here", "_law_board_here", "_law_most"] m_law_moment_bfcba9) (c__law_pen : CalQ S P w mg base k "_law_pen" ["_law_cell"] m_law_pen_579b16) (c__law_cell_at : CalQ S P w mg base k "_law_cell_at" ["_law_script", "_law_k"] m_law_cell_at_e50a56) : FnG P w S.K mg base (k + 1) f fd ["_law_script"] (spG S 1 (m_law_271f5f fu)) :=
  Fun.okGQ F sc_law (fun cdv A outer s H E en hr =>
  (qss_cons (qs_for (t := (.name 1)) PassesOwn.never rfl (qi_range1 rfl B.range_ (qa_cons (qe_callB (S := S) (call_max2 rfl) cq_max2 rfl B.max_ (by decide +kernel) (qa_cons qe_int (qa_cons (qe_callB (S := S) (call_min2 rfl) cq_min2 rfl B.min_ (by decide +kernel) (qa_cons (qe_callB (S := S) call_lenA cq_len rfl B.len_ (by decide +kernel) (qa_cons (qe_var (pv 0)) qa_nil)) (qa_cons qe_int qa_nil))) qa_nil))) qa_nil)) (pg_name (i := 1) sc_law.nd rfl (Or.inl rfl))
  (qss_cons (qs_set (i := 2) sc_law.nd rfl (Or.inl rfl) (qe_call LamX.takes0 rfl c__law_pen hr rfl (qa_cons (qe_call LamX.takes0 rfl c__law_cell_at hr rfl (qa_cons (qe_var (pv 0)) (qa_cons (qe_var (pv 1)) qa_nil)) (len_cons (len_cons len_nil))) qa_nil) (len_cons len_nil)))
  (qss_one (qs_for (t := (.name 3)) PassesOwn.never rfl (qi_seq rfl (qe_lst (qa_cons (qe_call LamX.takes0 rfl c__law_board hr rfl (qa_cons (qe_var (pv 2)) (qa_cons qe_int (qa_cons qe_int qa_nil))) (len_cons (len_cons (len_cons len_nil)))) (qa_cons (qe_call LamX.takes0 rfl c__law_any_board hr rfl (qa_cons (qe_var (pv 2)) (qa_cons qe_int (qa_cons qe_int qa_nil))) (len_cons (len_cons (len_cons len_nil)))) (qa_cons (qe_call LamX.takes0 rfl c__law_kept hr rfl (qa_cons (qe_var (pv 2)) qa_nil) (len_cons len_nil)) qa_nil))))) (pg_name (i := 3) sc_law.nd rfl (Or.inl rfl))
  (qss_cons (qs_set (i := 4) sc_law.nd rfl (Or.inl rfl) (qe_call LamX.takes0 rfl c__law_moment hr rfl (qa_cons (qe_var (pv 2)) (qa_cons (qe_var (pv 3)) (qa_cons qe_int qa_nil))) (len_cons (len_cons (len_cons len_nil)))))
  (qss_cons (qs_set (i := 5) sc_law.nd rfl (Or.inl rfl) (qe_callB (S := S) (call_reprP (entx_of en) (hu150 hr)) cq_repr rfl B.repr_ (by decide +kernel) (qa_cons (qe_tup (qa_cons (qe_var (pv 3)) (qa_cons (qe_var (pv 4)) qa_nil))) qa_nil)))
  (qss_cons (qs_for (t := (.name 6)) PassesOwn.never rfl (qi_seq rfl (qe_tup (qa_cons qe_int (qa_cons qe_int (qa_cons (qe_call LamX.takes0 rfl c__law_draw hr rfl (qa_cons (qe_var (pv 2)) (qa_cons qe_int qa_nil)) (len_cons (len_cons len_nil))) (qa_cons (qe_ix rfl (qe_lst (qa_cons qe_int (qa_cons qe_int qa_nil))) (qe_callTy (S := S) call_int1 cq_int rfl B.int_ (by decide +kernel) (qa_cons (qe_cmp (S := S) (op_eqD (hu64 hr)) oq_eq (qe_var (pv 1)) qe_int (nomark _)) qa_nil))) qa_nil)))))) (pg_name (i := 6) sc_law.nd rfl (Or.inl rfl))
  (qss_cons (qs_set (i := 7) sc_law.nd rfl (Or.inl rfl) (qe_bin (S := S) op_addA oq_add qe_int (qe_call LamX.takes0 rfl c__law_draw hr rfl (qa_cons (qe_var (pv 2)) (qa_cons qe_int qa_nil)) (len_cons (len_cons len_nil)))))
  (qss_cons (qs_set (i := 8) sc_law.nd rfl (Or.inl rfl) (qe_callTy (S := S) call_tupleA cq_tuple rfl B.tuple_ (by decide +kernel) (qa_cons (qe_ix rfl (qe_call LamX.takes0 rfl c__law_rows hr rfl (qa_cons (qe_var (pv 3)) (qa_cons (qe_var (pv 4)) (qa_cons (qe_var (pv 7)) (qa_cons (qe_var (pv 6)) qa_nil)))) (len_cons (len_cons (len_cons (len_cons len_nil))))) qe_int) qa_nil)))
  (qss_one (qs_for (t := (.name 9)) PassesOwn.never rfl (qi_range1 rfl B.range_ (qa_cons qe_int qa_nil)) (pg_name (i := 9) sc_law.nd rfl (Or.inl rfl))
  (qss_one (qs_if (qt_cmp (S := S) (op_neD (hu64 hr)) oq_ne (qe_callB (S := S) (call_reprP (entx_of en) (hu150 hr)) cq_repr rfl B.repr_ (by decide +kernel) (qa_cons (qe_callKw (is := [0, 1, 2, 3]) LamX.takes0 rfl c_rows_of hr rfl kb_rows_of_3_hands (qa_cons (qe_var (pv 3)) (qa_cons (qe_var (pv 4)) (qa_cons (qe_var (pv 6)) qa_nil))) (qk_cons (qe_var (pv 7)) qk_nil) (len_cons (len_cons (len_cons len_nil))) (len_cons len_nil) (fun l hl => match l, hl with | [_, _, _, _], _ => rfl)) qa_nil)) (qe_callB (S := S) (call_reprP (entx_of en) (hu150 hr)) cq_repr rfl B.repr_ (by decide +kernel) (qa_cons (qe_var (pv 8)) qa_nil)) (nomark _))
  (qss_one (qs_ret qe_bl))
  qss_nil)))))))
  (qss_cons (qs_set (i := 8) sc_law.nd rfl (Or.inl rfl) (qe_callTy (S := S) call_tupleA cq_tuple rfl B.tuple_ (by decide +kernel) (qa_cons (qe_ix rfl (qe_call LamX.takes0 rfl c__law_rows hr rfl (qa_cons (qe_var (pv 3)) (qa_cons (qe_var (pv 4)) (qa_cons qe_int (qa_cons qe_int qa_nil)))) (len_cons (len_cons (len_cons (len_cons len_nil))))) qe_int) qa_nil)))
  (qss_one (qs_if (qt_pw (qw_or (qt_cmp (S := S) (op_neD (hu64 hr)) oq_ne (qe_callB (S := S) (call_reprP (entx_of en) (hu150 hr)) cq_repr rfl B.repr_ (by decide +kernel) (qa_cons (qe_callD (dds := [.int 1]) LamX.takes0 rfl c_rows_of hr rfl (fun _ _ => (.cons (.int _) .nil)) db_rows_of (qa_cons (qe_var (pv 3)) (qa_cons (qe_var (pv 4)) (qa_cons qe_int qa_nil))) (fun σ M ds M1 h => by rw [(len_cons (len_cons (len_cons len_nil))) σ M ds M1 h]; rfl)) qa_nil)) (qe_callB (S := S) (call_reprP (entx_of en) (hu150 hr)) cq_repr rfl B.repr_ (by decide +kernel) (qa_cons (qe_var (pv 8)) qa_nil)) (nomark _)) (qw_or1 (qt_cmp (S := S) (op_neD (hu64 hr)) oq_ne (qe_callB (S := S) (call_reprP (entx_of en) (hu150 hr)) cq_repr rfl B.repr_ (by decide +kernel) (qa_cons (qe_tup (qa_cons (qe_var (pv 3)) (qa_cons (qe_var (pv 4)) qa_nil))) qa_nil)) (qe_var (pv 5)) (nomark _)))))
  (qss_one (qs_ret qe_bl))
  qss_nil))))))))))
  (qss_one (qs_ret qe_bl))))
theorem law_all {t_MOST_WHEELS : Tok} {t_MOST_CUPS : Tok} {t_MOST_STEPS : Tok} {t_MOST_ENDS : Tok} {t_MOST_HANDS : Tok} {t_MOST_ROWS : Tok} {fu : Nat} {f : Addr} {fd : FuncData} (F : Fun S.K "law" "law" s_law f fd) (B : Bi mg) (B2 : Bi2 mg) (g_MOST_WHEELS : mg "MOST_WHEELS" = some (.int 6 t_MOST_WHEELS)) (g_MOST_CUPS : mg "MOST_CUPS" = some (.int 4 t_MOST_CUPS)) (g_MOST_STEPS : mg "MOST_STEPS" = some (.int 4 t_MOST_STEPS)) (g_MOST_ENDS : mg "MOST_ENDS" = some (.int 3 t_MOST_ENDS)) (g_MOST_HANDS : mg "MOST_HANDS" = some (.int 6 t_MOST_HANDS)) (g_MOST_ROWS : mg "MOST_ROWS" = some (.int 500 t_MOST_ROWS)) (R_NoBoard : Err S.K mg "NoBoard" (S.C 0)) (R_NoMoment : Err S.K mg "NoMoment" (S.C 2)) (R_NoNumber : Err S.K mg "NoNumber" (S.C 9)) (R_NoHands : Err S.K mg "NoHands" (S.C 16))
    (d__law_pen : HX.Def S.K mg "_law_pen" s__law_pen ["_law_cell"]) (d__law_cell_at : HX.Def S.K mg "_law_cell_at" s__law_cell_at ["_law_script", "_law_k"]) (d__law_draw : HX.Def S.K mg "_law_draw" s__law_draw ["_law_pen_here", "_law_many"]) (d__law_mixed : HX.Def S.K mg "_law_mixed" s__law_mixed ["_law_pen_here", "_law_some"]) (d__law_ends : HX.Def S.K mg "_law_ends" s__law_ends ["_law_wheel"]) (d__law_table : HX.Def S.K mg "_law_table" s__law_table ["_law_board_here"]) (d__law_falls : HX.Def S.K mg "_law_falls" s__law_falls ["_law_board_here"]) (d__law_without : HX.Def S.K mg "_law_without" s__law_without ["_law_board_here", "_law_wheel", "_law_step"]) (d__law_drained : HX.Def S.K mg "_law_drained" s__law_drained ["_law_pen_here", "_law_board_here"]) (d__law_any_board : HX.Def S.K mg "_law_any_board" s__law_any_board ["_law_pen_here", "_law_most", "_law_cups"]) (d__law_board : HX.Def S.K mg "_law_board" s__law_board ["_law_pen_here", "_law_most", "_law_cups"]) (d__law_kept : HX.Def S.K mg "_law_kept" s__law_kept ["_law_pen_here"]) (d__law_stand : HX.Def S.K mg "_law_stand" s__law_stand ["_law_pen_here", "_law_board_here"]) (d__law_moment : HX.Def S.K mg "_law_moment" s__law_moment ["_law_pen_here", "_law_board_here", "_law_most"]) (d__law_handled : HX.Def S.K mg "_law_handled" s__law_handled ["_law_board_here", "_law_moment_here", "_law_wheel"]) (d__law_rows : HX.Def S.K mg "_law_rows" s__law_rows ["_law_board_here", "_law_moment_here", "_law_folk", "_law_most"]) (d_has_parts : HX.Def S.K mg "has_parts" s_has_parts ["thing", "least", "most"]) (d_is_whole : HX.Def S.K mg "is_whole" s_is_whole ["thing"]) (d_is_within : HX.Def S.K mg "is_within" s_is_within ["thing", "least", "most"]) (d_is_step : HX.Def S.K mg "is_step" s_is_step ["thing", "ends"]) (d_is_wheel : HX.Def S.K mg "is_wheel" s_is_wheel ["thing", "ends"]) (d_is_board : HX.Def S.K mg "is_board" s_is_board ["thing"]) (d_need_board : HX.Def S.K mg "need_board" s_need_board ["thing"]) (d_is_stand : HX.Def S.K mg "is_stand" s_is_stand ["board", "thing"]) (d_are_marbles : HX.Def S.K mg "are_marbles" s_are_marbles ["thing", "places"]) (d_is_moment : HX.Def S.K mg "is_moment" s_is_moment ["board", "thing"]) (d_need_moment : HX.Def S.K mg "need_moment" s_need_moment ["board", "thing"]) (d_need_hands : HX.Def S.K mg "need_hands" s_need_hands ["thing"]) (d_loosened : HX.Def S.K mg "loosened" s_loosened ["moment"]) (d_handle_marble : HX.Def S.K mg "handle_marble" s_handle_marble ["board", "parts", "wheel"]) (d_handle_beat : HX.Def S.K mg "handle_beat" s_handle_beat ["board", "parts", "hands"]) (d_rows_of : DefD S.K mg "rows_of" s_rows_of [] [("hands", V.int 1)]) : FnG P w S.K mg base 11 f fd ["_law_script"] (spG S 1 (m_law_271f5f fu)) := by
  have c__law_pen := ok__law_pen (S := S) (P := P) (w := w) (base := base) (k := 0) d__law_pen B
  have c__law_cell_at := ok__law_cell_at (S := S) (P := P) (w := w) (base := base) (k := 0) d__law_cell_at B
  have c__law_draw := ok__law_draw (S := S) (P := P) (w := w) (base := base) (k := 0) d__law_draw 
  have c__law_mixed := ok__law_mixed (S := S) (P := P) (w := w) (base := base) (k := 1) d__law_mixed B c__law_draw
  have c__law_ends := ok__law_ends (S := S) (P := P) (w := w) (base := base) (k := 0) d__law_ends B
  have c__law_table := ok__law_table (S := S) (P := P) (w := w) (base := base) (k := 1) d__law_table B B2 c__law_ends
  have c__law_falls := ok__law_falls (S := S) (P := P) (w := w) (base := base) (k := 2) d__law_falls B B2 c__law_table
  have c__law_without := ok__law_without (S := S) (P := P) (w := w) (base := base) (k := 0) d__law_without B
  have c__law_drained := ok__law_drained (S := S) (P := P) (w := w) (base := base) (k := 3) d__law_drained B B2 (c__law_mixed.mono (by decide)) c__law_falls (c__law_without.mono (by decide))
  have c__law_any_board := ok__law_any_board (S := S) (P := P) (w := w) (base := base) (k := 1) d__law_any_board B c__law_draw
  have c__law_board := ok__law_board (S := S) (P := P) (w := w) (base := base) (k := 4) d__law_board c__law_drained (c__law_any_board.mono (by decide))
  have c__law_kept := ok__law_kept (S := S) (P := P) (w := w) (base := base) (k := 1) d__law_kept c__law_draw
  have c__law_stand := ok__law_stand (S := S) (P := P) (w := w) (base := base) (k := 1) d__law_stand B c__law_draw
  have c__law_moment := ok__law_moment (S := S) (P := P) (w := w) (base := base) (k := 2) d__law_moment B (c__law_draw.mono (by decide)) c__law_stand
  have c__law_handled := ok__law_handled (S := S) (P := P) (w := w) (base := base) (k := 0) d__law_handled B
  have c__law_rows := ok__law_rows (S := S) (P := P) (w := w) (base := base) (k := 1) (fu := fu) d__law_rows B B2 c__law_handled
  have c_has_parts := ok_has_parts (S := S) (P := P) (w := w) (base := base) (k := 0) d_has_parts B
  have c_is_whole := ok_is_whole (S := S) (P := P) (w := w) (base := base) (k := 0) d_is_whole B
  have c_is_within := ok_is_within (S := S) (P := P) (w := w) (base := base) (k := 1) d_is_within c_is_whole
  have c_is_step := ok_is_step (S := S) (P := P) (w := w) (base := base) (k := 2) d_is_step B g_MOST_ENDS c_is_within (c_has_parts.mono (by decide))
  have c_is_wheel := ok_is_wheel (S := S) (P := P) (w := w) (base := base) (k := 3) d_is_wheel B g_MOST_STEPS c_is_step (c_has_parts.mono (by decide))
  have c_is_board := ok_is_board (S := S) (P := P) (w := w) (base := base) (k := 4) d_is_board B g_MOST_CUPS g_MOST_WHEELS c_is_wheel (c_is_within.mono (by decide)) (c_has_parts.mono (by decide))
  have c_need_board := ok_need_board (S := S) (P := P) (w := w) (base := base) (k := 5) d_need_board R_NoBoard c_is_board
  have c_is_stand := ok_is_stand (S := S) (P := P) (w := w) (base := base) (k := 6) d_is_stand B B2 (c_is_within.mono (by decide)) (c_has_parts.mono (by decide)) c_need_board
  have c_are_marbles := ok_are_marbles (S := S) (P := P) (w := w) (base := base) (k := 1) d_are_marbles B c_is_whole c_has_parts
  have c_is_moment := ok_is_moment (S := S) (P := P) (w := w) (base := base) (k := 7) d_is_moment B (c_are_marbles.mono (by decide)) c_is_stand (c_has_parts.mono (by decide)) (c_need_board.mono (by decide))
  have c_need_moment := ok_need_moment (S := S) (P := P) (w := w) (base := base) (k := 8) d_need_moment R_NoMoment c_is_moment
  have c_need_hands := ok_need_hands (S := S) (P := P) (w := w) (base := base) (k := 2) d_need_hands g_MOST_HANDS R_NoHands c_is_within
  have c_loosened := ok_loosened (S := S) (P := P) (w := w) (base := base) (k := 0) d_loosened B
  have c_handle_marble := ok_handle_marble (S := S) (P := P) (w := w) (base := base) (k := 0) d_handle_marble B
  have c_handle_beat := ok_handle_beat (S := S) (P := P) (w := w) (base := base) (k := 1) d_handle_beat B B2 c_handle_marble
  have c_rows_of := ok_rows_of (S := S) (P := P) (w := w) (base := base) (k := 9) (fu := fu) d_rows_of B g_MOST_ROWS R_NoNumber (c_handle_beat.mono (by decide)) (c_loosened.mono (by decide)) (c_need_hands.mono (by decide)) (c_is_within.mono (by decide)) c_need_moment
  exact ok_law (S := S) (P := P) (w := w) (base := base) (k := 10) (fu := fu) F B (c__law_kept.mono (by decide)) (c__law_any_board.mono (by decide)) (c__law_board.mono (by decide)) c_rows_of (c__law_rows.mono (by decide)) (c__law_draw.mono (by decide)) (c__law_moment.mono (by decide)) (c__law_pen.mono (by decide)) (c__law_cell_at.mono (by decide))
end
end Q52

set_option maxRecDepth 100000
set_option maxHeartbeats 1000000
/-! k52x: the law's loops -/
namespace QX
open PySem PySem.Spec PyProof.Rows L2 HX
def x52_1 (fu : Nat) : FS := (sIf (fTest (fBin (gEq true) (fCall gRepr (fCons (fCallK (m_rows_of fu) [0, 1, 2, 3] (fCons (fVar 3) (fCons (fVar 4) (fCons (fVar 6) fNil))) (fCons (fVar 7) fNil)) fNil)) (fCall gRepr (fCons (fVar 8) fNil))))
  (sRet (fC (.bl false)))
  sNext)
def x52_2 (fu : Nat) : FS := (sSeq (sSet 7 (fBin gAdd (fC (.int 1)) (fCall m_law_draw_321cf4 (fCons (fVar 2) (fCons (fC (.int 6)) fNil)))))
  (sSeq (sSet 8 (fCall gTuple (fCons (fBin gIx (fCall (m_law_rows_5da548 fu) (fCons (fVar 3) (fCons (fVar 4) (fCons (fVar 7) (fCons (fVar 6) fNil))))) (fC (.int 0))) fNil)))
  (sFor (fIt gRange1 (fCons (fC (.int 2)) fNil)) (.name 9) (x52_1 fu))))
def x52_3 (fu : Nat) : FS := (sIf (fOrT (fTest (fBin (gEq true) (fCall gRepr (fCons (fCall (fun ds M => (m_rows_of fu) (ds ++ [.int 1]) M) (fCons (fVar 3) (fCons (fVar 4) (fCons (fC (.int 5)) fNil)))) fNil)) (fCall gRepr (fCons (fVar 8) fNil)))) (fTest (fBin (gEq true) (fCall gRepr (fCons (fTup (fCons (fVar 3) (fCons (fVar 4) fNil))) fNil)) (fVar 5))))
  (sRet (fC (.bl false)))
  sNext)
def x52_i : F Ita := (fIter (fTup (fCons (fC (.int 0)) (fCons (fC (.int 1)) (fCons (fCall m_law_draw_321cf4 (fCons (fVar 2) (fCons (fC (.int 30)) fNil))) (fCons (fBin gIx (fLst (fCons (fC (.int 60)) (fCons (fC (.int 500)) fNil))) (fCall gInt (fCons (fBin (gEq false) (fVar 1) (fC (.int 0))) fNil))) fNil))))))
def x52_4 (fu : Nat) : FS := (sSeq (sSet 4 (fCall m_law_moment_bfcba9 (fCons (fVar 2) (fCons (fVar 3) (fCons (fC (.int 3)) fNil)))))
  (sSeq (sSet 5 (fCall gRepr (fCons (fTup (fCons (fVar 3) (fCons (fVar 4) fNil))) fNil)))
  (sSeq (sFor x52_i (.name 6) (x52_2 fu))
  (sSeq (sSet 8 (fCall gTuple (fCons (fBin gIx (fCall (m_law_rows_5da548 fu) (fCons (fVar 3) (fCons (fVar 4) (fCons (fC (.int 1)) (fCons (fC (.int 5)) fNil))))) (fC (.int 0))) fNil)))
  (x52_3 fu)))))
def x52_l : F D := (fLst (fCons (fCall m_law_board_8f2c56 (fCons (fVar 2) (fCons (fC (.int 3)) (fCons (fC (.int 3)) fNil)))) (fCons (fCall m_law_any_board_7df546 (fCons (fVar 2) (fCons (fC (.int 4)) (fCons (fC (.int 2)) fNil)))) (fCons (fCall m_law_kept_c36398 (fCons (fVar 2) fNil)) fNil))))
def x52_5 (fu : Nat) : FS := (sSeq (sSet 2 (fCall m_law_pen_579b16 (fCons (fCall m_law_cell_at_e50a56 (fCons (fVar 0) (fCons (fVar 1) fNil))) fNil)))
  (sFor (fIter x52_l) (.name 3) (x52_4 fu)))
theorem law52_body {fu : Nat} : b_law_271f5f fu = (sSeq (sFor (fIt gRange1 (fCons (fCall gMax2 (fCons (fC (.int 1)) (fCons (fCall gMin2 (fCons (fCall gLen (fCons (fVar 0) fNil)) (fCons (fC (.int 4)) fNil))) fNil))) fNil)) (.name 1) (x52_5 fu))
  (sRet (fC (.bl true)))) := rfl
variable {M : Mem} {p k : Nat} {x : Cell} {σ : Sa} {ws : List (List (List Int))} {c : Int} {m : Mo} {folk most fu : Nat}
theorem RP.row {row : List Nat} (hl : row.length ≤ 6) (hr : ∀ i ∈ row, i < 1000) : RP (rowT row) 800 2 := by
  refine (RP.tup (w := 130) (h := 1) (n := 6) (fun d hd => ?_) (by rw [List.length_map]; exact hl)).mono (by omega) (by omega)
  obtain ⟨e, he, rfl⟩ := List.mem_map.mp hd
  have := hr e he
  exact RP.int (by omega) (by omega)
theorem RP.rows {rows : List (List Nat)} (hl : rows.length ≤ 500) (hr : ∀ row ∈ rows, row.length ≤ 6 ∧ ∀ i ∈ row, i < 6) : RP (.tup (rows.map rowT)) 500000 3 := by
  refine (RP.tup (w := 800) (h := 2) (n := 500) (fun d hd => ?_) (by rw [List.length_map]; exact hl)).mono (by omega) (by omega)
  obtain ⟨e, he, rfl⟩ := List.mem_map.mp hd
  exact RP.row (hr e he).1 fun i hi => by have := (hr e he).2 i hi; omega
theorem RP.nums {xs : List Int} (hl : xs.length ≤ 6) (hr : ∀ y ∈ xs, 0 ≤ y ∧ y ≤ 1000) : RP (stepT xs) 800 2 := by
  refine (RP.tup (w := 130) (h := 1) (n := 6) (fun d hd => ?_) (by rw [List.length_map]; exact hl)).mono (by omega) (by omega)
  obtain ⟨e, he, rfl⟩ := List.mem_map.mp hd
  have := hr e he
  exact RP.int (by omega) (by omega)
/-- moments whose numbers are small -/
def SmallM (m : Mo) : Prop := (∀ y ∈ m.wt, y ≤ 1000) ∧ ∀ y ∈ m.hd, y ≤ 1000
theorem RP.mom (hb : BoardOk ws c) (hm : MoOk ws c m) (hs : SmallM m) : RP (.tup [boardT ws c, moT m]) 300000 6 := by
  have w6 := hb.w6
  have c4 := hb.c4
  refine (RP.tup (w := 100000) (h := 5) (n := 2) (fun d hd => ?_) (by simp)).mono (by omega) (by omega)
  simp only [List.mem_cons, List.mem_nil_iff, or_false] at hd
  rcases hd with rfl | rfl
  · exact RP.board hb.wheels (by omega) (by omega) hb.c0 (by omega)
  · refine (RP.tup (w := 800) (h := 2) (n := 3) (fun d hd => ?_) (by simp)).mono (by omega) (by omega)
    simp only [List.mem_cons, List.mem_nil_iff, or_false] at hd
    rcases hd with rfl | rfl | rfl
    · refine RP.nums (by rw [hm.sl]; exact w6) fun y hy => ?_
      obtain ⟨i, hi⟩ := List.mem_iff_getElem?.mp hy
      have hlt : i < ws.length := by rw [← hm.sl]; exact (List.getElem?_eq_some_iff.mp hi).1
      obtain ⟨a, b⟩ := hm.sr i y _ hi (List.getElem?_eq_getElem hlt)
      have := (hb.wheels _ (List.getElem_mem hlt)).2.1
      omega
    · exact RP.nums (by rw [hm.wl]; exact w6) fun y hy => ⟨hm.wn y hy, hs.1 y hy⟩
    · exact RP.nums (by have := hm.hl; omega) fun y hy => ⟨hm.hn y hy, hs.2 y hy⟩
theorem rows_repr (hb : BoardOk ws c) (hm : MoF ws c m) (hmost : most ≤ 500) : ∃ t, SeqAt.shaped (.str t) = true ∧ ∀ M, gRepr [.tup ((rowsM ws folk most m).map rowT)] M = .ok (.str t) M := by
  obtain ⟨a, b⟩ := rows_ok (folk := folk) hb most m hm
  have w6 := hb.w6
  exact RP.repr (RP.rows (by omega) fun row hr => ⟨by have := (b row hr).1; omega, fun i hi => by have := (b row hr).2 i hi; omega⟩) (by omega) (by omega)
abbrev h52 (ws : List (List (List Int))) (c : Int) (m : Mo) (t : Str) (p : Nat) (j : Int) (ns : List Int) : List (Nat × D) := [(3, boardT ws c), (4, moT m), (5, .str t), (2, .ref p), (1, .int j), (0, .scr ns)]
theorem due_ev {fa fb : F D} (hw : Wf M) (hb : BoardOk ws c) (hm : MoF ws c m) (hmost : most ≤ 500) (hfu : 501 ≤ fu) (h3 : σ[3]? = some (some (boardT ws c))) (h4 : σ[4]? = some (some (moT m))) (ha : fa σ M = .ok (.int (folk : Int)) M) (hb' : fb σ M = .ok (.int (most : Int)) M) :
    fCall gTuple (fCons (fBin gIx (fCall (m_law_rows_5da548 fu) (fCons (fVar 3) (fCons (fVar 4) (fCons fa (fCons fb fNil))))) (fC (.int 0))) fNil) σ M = .ok (.tup ((rowsM ws folk most m).map rowT)) M := by
  obtain ⟨m', e⟩ := m_law_rows_eq (folk := folk) (most := most) (fu := fu) hw hb hm (by omega) (by omega)
  refine (call1_ev ((bin_ev (a := .tup [.lst ((rowsM ws folk most m).map rowT), moT m']) (b := .int 0) ?_ rfl).trans (show gIx (.tup [.lst ((rowsM ws folk most m).map rowT), moT m']) (.int 0) M = .ok (.lst ((rowsM ws folk most m).map rowT)) M by simp))).trans gTuple_lst
  refine (call_ev (ds := [boardT ws c, moT m, .int (folk : Int), .int (most : Int)]) (M1 := M) ?_).trans e
  rw [ev_cons, var_ev h3, bind_ok, ev_cons, var_ev h4, bind_ok, ev_cons, ha, bind_ok, ev_cons, hb', bind_ok, ev_nil, bind_ok, bind_ok, bind_ok, bind_ok]
theorem x52_2_eq {ns : List Int} {j : Int} {t : Str} (hx : M[p]? = some x) (hw : Wf M) (ho : PenOk (k + 1) x) (hb : BoardOk ws c) (hm : MoOk ws c m) (hmost : most ≤ 500) (hfu : 501 ≤ fu) (hs : Has σ 10 ((6, .int (most : Int)) :: h52 ws c m t p j ns)) :
    ∃ σ' x', x52_2 fu σ M = .ok (.nx σ') (M.set p x') ∧ PenOk k x' ∧ Has σ' 10 (h52 ws c m t p j ns) := by
  have hp : p < M.length := (List.getElem?_eq_some_iff.mp hx).1
  obtain ⟨z, x1, e1, z0, z1, o1⟩ := m_draw_eq (k := k) (n := 6) hx ho (by decide) (by decide)
  obtain ⟨fo, hfo⟩ := Int.eq_ofNat_of_zero_le z0
  subst hfo
  have hw1 : Wf (M.set p x1) := wf_set hw o1
  have s1 : sSet 7 (fBin gAdd (fC (.int 1)) (fCall m_law_draw_321cf4 (fCons (fVar 2) (fCons (fC (.int 6)) fNil)))) σ M = .ok (.nx (σ.set 7 (some (.int ((fo + 1 : Nat) : Int))))) (M.set p x1) := by
    as_aux_lemma =>
      refine set_ev ((bin_ev (a := .int 1) (b := .int (fo : Int)) rfl ((call2_ev (var_ev (hs.at (i := 2) (d := .ref p) (by simp))) rfl).trans e1)).trans ?_)
      rw [gAdd_int]
      congr 2
      omega
  have hs1 : Has (σ.set 7 (some (.int ((fo + 1 : Nat) : Int)))) 10 ((7, .int ((fo + 1 : Nat) : Int)) :: (6, .int (most : Int)) :: h52 ws c m t p j ns) := hs.put (by decide) (by simp)
  generalize σ.set 7 (some (D.int ((fo + 1 : Nat) : Int))) = σ1 at s1 hs1
  have s2 : sSet 8 (fCall gTuple (fCons (fBin gIx (fCall (m_law_rows_5da548 fu) (fCons (fVar 3) (fCons (fVar 4) (fCons (fVar 7) (fCons (fVar 6) fNil))))) (fC (.int 0))) fNil)) σ1 (M.set p x1) = .ok (.nx (σ1.set 8 (some (.tup ((rowsM ws (fo + 1) most m).map rowT))))) (M.set p x1) := set_ev (due_ev hw1 hb hm.toMoF hmost hfu (hs1.at (by simp)) (hs1.at (by simp)) (var_ev (hs1.at (by simp))) (var_ev (hs1.at (by simp))))
  have hs2 : Has (σ1.set 8 (some (.tup ((rowsM ws (fo + 1) most m).map rowT)))) 10 ((8, .tup ((rowsM ws (fo + 1) most m).map rowT)) :: (7, .int ((fo + 1 : Nat) : Int)) :: (6, .int (most : Int)) :: h52 ws c m t p j ns) := hs1.put (by decide) (by simp)
  generalize σ1.set 8 (some (D.tup ((rowsM ws (fo + 1) most m).map rowT))) = σ2 at s2 hs2
  obtain ⟨r, sr, hr⟩ := rows_repr (folk := fo + 1) hb hm.toMoF hmost
  have er := m_rows_of_eq (folk := fo + 1) (most := most) (fu := fu) hw1 hb hm hmost (by omega) (by omega) (by omega)
  obtain ⟨σ3, M3, f3, rfl, hs3⟩ := for_nums (b := x52_1 fu) (n := (M.set p x1).length) (m := 2) (i := 9) (σ := σ2) (M := M.set p x1) (fun i σ N => N = M.set p x1 ∧ Has σ 10 ((8, .tup ((rowsM ws (fo + 1) most m).map rowT)) :: (7, .int ((fo + 1 : Nat) : Int)) :: (6, .int (most : Int)) :: h52 ws c m t p j ns)) ⟨rfl, hs2⟩ (fun i σ N hi hv => by
    obtain ⟨rfl, hs⟩ := hv
    have hs' : Has (σ.set 9 (some (.int (i : Int)))) 10 ((8, .tup ((rowsM ws (fo + 1) most m).map rowT)) :: (7, .int ((fo + 1 : Nat) : Int)) :: (6, .int (most : Int)) :: h52 ws c m t p j ns) := hs.set (by simp)
    generalize σ.set 9 (some (D.int (i : Int))) = σ1 at hs'
    refine ⟨σ1, M.set p x1, .inl ?_, ?_⟩
    · refine (sif_ev (p := false) (test_ev ?_)).trans rfl
      have ek : fCallK (m_rows_of fu) [0, 1, 2, 3] (fCons (fVar 3) (fCons (fVar 4) (fCons (fVar 6) fNil))) (fCons (fVar 7) fNil) σ1 (M.set p x1) = .ok (.tup ((rowsM ws (fo + 1) most m).map rowT)) (M.set p x1) := by
        rw [ev_callK, ev_cons, var_ev (hs'.at (i := 3) (d := boardT ws c) (by simp)), bind_ok, ev_cons, var_ev (hs'.at (i := 4) (d := moT m) (by simp)), bind_ok, ev_cons, var_ev (hs'.at (i := 6) (d := .int (most : Int)) (by simp)), bind_ok, ev_nil, bind_ok, bind_ok, bind_ok, bind_ok, ev_cons, var_ev (hs'.at (i := 7) (d := .int ((fo + 1 : Nat) : Int)) (by simp)), bind_ok, ev_nil, bind_ok, bind_ok]
        exact er
      exact (bin_ev ((call1_ev ek).trans (hr _)) ((call1_ev (var_ev (hs'.at (i := 8) (d := .tup ((rowsM ws (fo + 1) most m).map rowT)) (by simp)))).trans (hr _))).trans (gNe_str sr)
    · rw [gc_same rfl]
      exact ⟨rfl, hs'⟩)
  exact ⟨σ3, x1, (seq_nx s1).trans ((seq_nx s2).trans (for_of (range1_ev (M1 := M.set p x1) (n := 2) (j := 2) rfl (by decide) (by decide) rfl) f3)), o1, hs3.sub (by simp +contextual)⟩
theorem x52_3_eq {ns : List Int} {j : Int} {t : Str} (hw : Wf M) (hb : BoardOk ws c) (hm : MoOk ws c m) (hfu : 501 ≤ fu) (st : SeqAt.shaped (.str t) = true) (ht : ∀ M, gRepr [.tup [boardT ws c, moT m]] M = .ok (.str t) M) (hs : Has σ 10 ((8, .tup ((rowsM ws 1 5 m).map rowT)) :: h52 ws c m t p j ns)) : x52_3 fu σ M = .ok (.nx σ) M := by
  have hf2 : few 2 = true := by decide
  obtain ⟨r, sr, hr⟩ := rows_repr (folk := 1) (most := 5) hb hm.toMoF (by decide)
  have er := m_rows_of_eq (folk := 1) (most := 5) (fu := fu) hw hb hm (by decide) (by omega) (by decide) (by decide)
  have k3 := hs.at (i := 3) (d := boardT ws c) (by simp)
  have k4 := hs.at (i := 4) (d := moT m) (by simp)
  refine (sif_ev (p := false) (or_ev (p := false) (q := false) (test_ev ?_) fun _ => test_ev ?_)).trans rfl
  · have ek : fCall (fun ds M => (m_rows_of fu) (ds ++ [.int 1]) M) (fCons (fVar 3) (fCons (fVar 4) (fCons (fC (.int 5)) fNil))) σ M = .ok (.tup ((rowsM ws 1 5 m).map rowT)) M := (call3_ev (var_ev k3) (var_ev k4) rfl).trans er
    exact (bin_ev ((call1_ev ek).trans (hr _)) ((call1_ev (var_ev (hs.at (i := 8) (d := .tup ((rowsM ws 1 5 m).map rowT)) (by simp)))).trans (hr _))).trans (gNe_str sr)
  · refine (bin_ev ((call1_ev (a := .tup [boardT ws c, moT m]) ?_).trans (ht _)) (var_ev (hs.at (i := 5) (d := .str t) (by simp)))).trans (gNe_str st)
    rw [ev_tup, ev_cons, var_ev k3, bind_ok, ev_cons, var_ev k4, bind_ok, ev_nil, bind_ok, bind_ok, bind_ok]
    exact if_pos hf2
theorem x52_4_eq {ns : List Int} {j : Int} (hx : M[p]? = some x) (hw : Wf M) (ho : PenOk (k + 40) x) (hb : BoardOk ws c) (hfu : 501 ≤ fu) (hs : Has σ 10 [(3, boardT ws c), (2, .ref p), (1, .int j), (0, .scr ns)]) :
    ∃ σ' x', x52_4 fu σ M = .ok (.nx σ') (M.set p x') ∧ PenOk k x' ∧ Has σ' 10 [(2, .ref p), (1, .int j), (0, .scr ns)] := by
  have hp : p < M.length := (List.getElem?_eq_some_iff.mp hx).1
  have hf2 : few 2 = true := by decide
  have hf4 : few 4 = true := by decide
  obtain ⟨m, x1, e1, hm, m1, m2, o1⟩ := m_law_momentN_eq (k := k + 10) (most := 3) hx hw hb (ho.less (by omega)) (by decide) (by decide)
  have hsm : SmallM m := ⟨fun y hy => by have := m1 y hy; omega, fun y hy => by have := m2 y hy; omega⟩
  have hw1 : Wf (M.set p x1) := wf_set hw o1
  obtain ⟨t, st, ht⟩ := RP.repr (RP.mom hb hm hsm) (by omega) (by omega)
  have s1 : sSet 4 (fCall m_law_moment_bfcba9 (fCons (fVar 2) (fCons (fVar 3) (fCons (fC (.int 3)) fNil)))) σ M = .ok (.nx (σ.set 4 (some (moT m)))) (M.set p x1) := set_ev ((call3_ev (var_ev (hs.at (i := 2) (d := .ref p) (by simp))) (var_ev (hs.at (i := 3) (d := boardT ws c) (by simp))) rfl).trans e1)
  have hs1 : Has (σ.set 4 (some (moT m))) 10 [(4, moT m), (3, boardT ws c), (2, .ref p), (1, .int j), (0, .scr ns)] := hs.put (by decide) (by simp)
  generalize σ.set 4 (some (moT m)) = σ1 at s1 hs1
  have s2 : sSet 5 (fCall gRepr (fCons (fTup (fCons (fVar 3) (fCons (fVar 4) fNil))) fNil)) σ1 (M.set p x1) = .ok (.nx (σ1.set 5 (some (.str t)))) (M.set p x1) := by
    as_aux_lemma =>
      refine set_ev ((call1_ev (a := .tup [boardT ws c, moT m]) ?_).trans (ht _))
      rw [ev_tup, ev_cons, var_ev (hs1.at (i := 3) (d := boardT ws c) (by simp)), bind_ok, ev_cons, var_ev (hs1.at (i := 4) (d := moT m) (by simp)), bind_ok, ev_nil, bind_ok, bind_ok, bind_ok]
      exact if_pos hf2
  have hs2 : Has (σ1.set 5 (some (.str t))) 10 (h52 ws c m t p j ns) := by
    refine (hs1.put (i := 5) (d := .str t) (by decide) (by simp)).sub fun q hq => ?_
    simp only [h52, List.mem_cons, List.mem_nil_iff, or_false] at hq ⊢
    rcases hq with h | h | h | h | h | h
    · exact .inr (.inr (.inl h))
    · exact .inr (.inl h)
    · exact .inl h
    · exact .inr (.inr (.inr (.inl h)))
    · exact .inr (.inr (.inr (.inr (.inl h))))
    · exact .inr (.inr (.inr (.inr (.inr h))))
  generalize σ1.set 5 (some (D.str t)) = σ2 at s2 hs2
  obtain ⟨z, x2, e2, z0, z1, o2⟩ := m_draw_eq (k := k + 9) (n := 30) (M := M.set p x1) (p := p) (x := x1) (List.getElem?_set_self hp) o1 (by decide) (by decide)
  rw [List.set_set] at e2
  obtain ⟨zn, rfl⟩ := Int.eq_ofNat_of_zero_le z0
  obtain ⟨u, hu, eu⟩ : ∃ u : Nat, u ≤ 500 ∧ fBin gIx (fLst (fCons (fC (.int 60)) (fCons (fC (.int 500)) fNil))) (fCall gInt (fCons (fBin (gEq false) (fVar 1) (fC (.int 0))) fNil)) σ2 (M.set p x2) = .ok (.int (u : Int)) (M.set p x2) := by
    have e : fBin (gEq false) (fVar 1) (fC (.int 0)) σ2 (M.set p x2) = .ok (.bl (decide (j = 0))) (M.set p x2) := (bin_ev (b := .int 0) (var_ev (hs2.at (i := 1) (d := .int j) (by simp))) rfl).trans (by rw [gEq_int]; rfl)
    by_cases hj : j = 0
    · rw [decide_eq_true hj] at e
      exact ⟨500, by decide, (bin_ev (a := .lst [.int 60, .int 500]) rfl ((call1_ev e).trans gInt_bl)).trans rfl⟩
    · rw [decide_eq_false hj] at e
      exact ⟨60, by decide, (bin_ev (a := .lst [.int 60, .int 500]) rfl ((call1_ev e).trans gInt_bl)).trans rfl⟩
  have hi : x52_i σ2 (M.set p x1) = .ok ⟨(([0, 1, zn, u] : List Nat).map fun n : Nat => D.int (n : Int)).map .d, fun _ => true⟩ (M.set p x2) := by
    as_aux_lemma =>
      show fIter _ _ _ = _
      rw [ev_iter, ev_tup, ev_cons, ev_c, bind_ok, ev_cons, ev_c, bind_ok, ev_cons, (call2_ev (var_ev (hs2.at (i := 2) (d := .ref p) (by simp))) rfl).trans e2, bind_ok, ev_cons, eu, bind_ok, ev_nil, bind_ok, bind_ok, bind_ok, bind_ok, bind_ok]
      rw [if_pos (by exact hf4)]
      rfl
  have hw2 : Wf (M.set p x2) := wf_set hw o2
  have hall : ∀ n ∈ ([0, 1, zn, u] : List Nat), n ≤ 500 := by
    intro n hn
    simp only [List.mem_cons, List.mem_nil_iff, or_false] at hn
    rcases hn with rfl | rfl | rfl | rfl <;> omega
  have h4 : ([0, 1, zn, u] : List Nat).length = 4 := rfl
  generalize ([0, 1, zn, u] : List Nat) = us at hi hall h4
  obtain ⟨σ3, M3, f3, ⟨y, rfl, oy⟩, hs3⟩ := for_items (b := x52_2 fu) (n := (M.set p x2).length) (i := 6) (σ := σ2) (M := M.set p x2) (ds := us.map fun n : Nat => D.int (n : Int)) (fun i σ N => (∃ y, N = M.set p y ∧ PenOk (k + (9 - i)) y) ∧ Has σ 10 (h52 ws c m t p j ns)) ⟨⟨x2, rfl, o2⟩, hs2⟩ (fun i σ N d hd hv => by
    obtain ⟨⟨y, rfl, oy⟩, hs⟩ := hv
    rw [List.getElem?_map] at hd
    cases q : us[i]? with
    | none => rw [q] at hd; cases hd
    | some n =>
      rw [q] at hd
      cases hd
      have hil : i < 4 := by rw [← h4]; exact (List.getElem?_eq_some_iff.mp q).1
      have oy' : PenOk ((k + (9 - (i + 1))) + 1) y := oy.less (by omega)
      obtain ⟨σ', y', g1, g2, g3⟩ := x52_2_eq (M := M.set p y) (p := p) (x := y) (most := n) (fu := fu) (σ := σ.set 6 (some (.int (n : Int)))) (List.getElem?_set_self hp) (wf_set hw oy) oy' hb hm (hall n (List.mem_of_getElem? q)) hfu (hs.put (by decide) (by simp))
      rw [List.set_set] at g1
      refine ⟨σ', _, .inl g1, ?_⟩
      rw [gc_same (by simp)]
      exact ⟨⟨y', rfl, g2⟩, g3⟩)
  have s3 : sFor x52_i (.name 6) (x52_2 fu) σ2 (M.set p x1) = .ok (.nx σ3) (M.set p y) := for_of hi f3
  rw [List.length_map, h4] at oy
  have hw3 : Wf (M.set p y) := wf_set hw oy
  have s4 : sSet 8 (fCall gTuple (fCons (fBin gIx (fCall (m_law_rows_5da548 fu) (fCons (fVar 3) (fCons (fVar 4) (fCons (fC (.int 1)) (fCons (fC (.int 5)) fNil))))) (fC (.int 0))) fNil)) σ3 (M.set p y) = .ok (.nx (σ3.set 8 (some (.tup ((rowsM ws 1 5 m).map rowT))))) (M.set p y) := set_ev (due_ev (folk := 1) (most := 5) hw3 hb hm.toMoF (by decide) hfu (hs3.at (by simp)) (hs3.at (by simp)) rfl rfl)
  have hs4 : Has (σ3.set 8 (some (.tup ((rowsM ws 1 5 m).map rowT)))) 10 ((8, .tup ((rowsM ws 1 5 m).map rowT)) :: h52 ws c m t p j ns) := hs3.put (by decide) (by simp)
  generalize σ3.set 8 (some (D.tup ((rowsM ws 1 5 m).map rowT))) = σ4 at s4 hs4
  have s5 := x52_3_eq (fu := fu) hw3 hb hm hfu st ht hs4
  exact ⟨σ4, y, (seq_nx s1).trans ((seq_nx s2).trans ((seq_nx s3).trans ((seq_nx s4).trans s5))), oy.less (by omega), hs4.sub (by simp +contextual)⟩
theorem m_law_kept_eq (hx : M[p]? = some x) (ho : PenOk (k + 1) x) : ∃ ws x', m_law_kept_c36398 [.ref p] M = .ok (boardT ws 1) (M.set p x') ∧ BoardOk ws 1 ∧ PenOk k x' := by
  obtain ⟨z, x1, e1, z0, z1, o1⟩ := m_draw_eq (k := k) (n := 5) hx ho (by decide) (by decide)
  let all : List (List (List (List Int))) := [[[[0]]], [[[1]], [[0]]], [[[0, 0], []]], [[[1, 2]], [[0]]], [[[0], [0]], [[0, 1]]]]
  have hf2 : few 2 = true := by decide
  have s1 : sSet 1 (fLst (fCons (fTup (fCons (fTup (fCons (fTup (fCons (fC (.int 0)) fNil)) fNil)) fNil)) (fCons (fTup (fCons (fTup (fCons (fTup (fCons (fC (.int 1)) fNil)) fNil)) (fCons (fTup (fCons (fTup (fCons (fC (.int 0)) fNil)) fNil)) fNil))) (fCons (fTup (fCons (fTup (fCons (fTup (fCons (fC (.int 0)) (fCons (fC (.int 0)) fNil))) (fCons (fTup fNil) fNil))) fNil)) (fCons (fTup (fCons (fTup (fCons (fTup (fCons (fC (.int 1)) (fCons (fC (.int 2)) fNil))) fNil)) (fCons (fTup (fCons (fTup (fCons (fC (.int 0)) fNil)) fNil)) fNil))) (fCons (fTup (fCons (fTup (fCons (fTup (fCons (fC (.int 0)) fNil)) (fCons (fTup (fCons (fC (.int 0)) fNil)) fNil))) (fCons (fTup (fCons (fTup (fCons (fC (.int 0)) (fCons (fC (.int 1)) fNil))) fNil)) fNil))) fNil)))))) (startA 2 [.ref p]) M = .ok (.nx [some (.ref p), some (.lst (all.map wheelsT))]) M := by
    as_aux_lemma => exact set_ev rfl
  have hz : z.toNat < all.length := by simp only [all, List.length_cons, List.length_nil]; omega
  have hbk : ∀ w ∈ all, BoardOk w 1 := by
    intro w hw
    simp only [all, List.mem_cons, List.mem_nil_iff, or_false] at hw
    rcases hw with rfl | rfl | rfl | rfl | rfl <;> exact ⟨by decide, by decide, by decide, by decide, by simp [WheelOk, EndsOk]⟩
  refine ⟨all[z.toNat], x1, ?_, hbk _ (List.getElem_mem hz), o1⟩
  have e2 : fBin gIx (fVar 1) (fCall m_law_draw_321cf4 (fCons (fVar 0) (fCons (fC (.int 5)) fNil))) [some (.ref p), some (.lst (all.map wheelsT))] M = .ok (wheelsT all[z.toNat]) (M.set p x1) := by
    refine (bin_ev (a := .lst (all.map wheelsT)) (b := .int z) (var_ev rfl) ((call2_ev (var_ev rfl) rfl).trans e1)).trans ?_
    have : atI (all.map wheelsT) z = some (wheelsT all[z.toNat]) := by rw [atI_nn z0, List.getElem?_map, List.getElem?_eq_getElem hz]; rfl
    rw [gIx_lst, this]
  have sb : b_law_kept_c36398 (startA 2 [.ref p]) M = .ok (.rt (boardT all[z.toNat] 1)) (M.set p x1) := by
    refine (seq_nx s1).trans (ret_ev ?_)
    rw [ev_tup, ev_cons, e2, bind_ok, ev_cons, ev_c, bind_ok, ev_nil, bind_ok, bind_ok, bind_ok]
    exact if_pos hf2
  exact (run_rt (n := 2) (k := 1) rfl sb).trans (trim_id (by simp))
theorem x52_5_eq {ns : List Int} {j : Nat} (hfu : 501 ≤ fu) (hs : Has σ 10 [(1, .int (j : Int)), (0, .scr ns)]) : ∃ σ' y, x52_5 fu σ [] = .ok (.nx σ') [y] ∧ Has σ' 10 [(0, .scr ns)] := by
  have k0 := hs.at (i := 0) (d := .scr ns) (by simp)
  have k1 := hs.at (i := 1) (d := .int (j : Int)) (by simp)
  obtain ⟨x, e1, o1⟩ := m_pen_eq (c := ns.getD j 0) (M := [])
  have s1 : sSet 2 (fCall m_law_pen_579b16 (fCons (fCall m_law_cell_at_e50a56 (fCons (fVar 0) (fCons (fVar 1) fNil))) fNil)) σ [] = .ok (.nx (σ.set 2 (some (.ref 0)))) [x] := by
    refine set_ev ((call1_ev (M1 := []) (a := .int (ns.getD j 0)) ?_).trans e1)
    simp only [ev_call, ev_cons, ev_var, k0, k1, ev_nil, bind_ok, m_cell_at_eq]
  have hs1 : Has (σ.set 2 (some (.ref 0))) 10 [(2, .ref 0), (1, .int (j : Int)), (0, .scr ns)] := hs.put (by decide) (by simp)
  generalize σ.set 2 (some (D.ref 0)) = σ1 at s1 hs1
  have hWx : ∀ {k : Nat} {y : Cell}, PenOk k y → Wf [y] := fun oy => Wf.push (c := _) Wf.nil oy.und
  obtain ⟨w1, c1, x1, d1, b1, _, _, p1⟩ := m_drain_board_eq (k := 10000) (M := [x]) (p := 0) (x := x) (most := 3) (cm := 3) rfl (hWx o1) (o1.less (by omega)) (by decide) (by decide) (by decide) (by decide)
  obtain ⟨w2, c2, x2, d2, b2, _, _, p2⟩ := m_any_board_eq (k := 9000) (M := [x1]) (p := 0) (x := x1) (most := 4) (cm := 2) rfl (hWx p1) (p1.less (by omega)) (by decide) (by decide) (by decide) (by decide)
  obtain ⟨w3, x3, d3, b3, p3⟩ := m_law_kept_eq (k := 8000) (M := [x2]) (p := 0) (x := x2) rfl (p2.less (by omega))
  have g2 := hs1.at (i := 2) (d := .ref 0) (by simp)
  have hi : fIter x52_l σ1 [x] = .ok ⟨[boardT w1 c1, boardT w2 c2, boardT w3 1].map .d, fun _ => true⟩ [x3] := by
    as_aux_lemma =>
      have ev := lst3_ev (σ := σ1) ((call3_ev (m := m_law_board_8f2c56) (fb := fC (.int 3)) (fc := fC (.int 3)) (var_ev g2) rfl rfl).trans d1) ((call3_ev (m := m_law_any_board_7df546) (fb := fC (.int 4)) (fc := fC (.int 2)) (var_ev g2) rfl rfl).trans d2) ((call1_ev (m := m_law_kept_c36398) (var_ev g2)).trans d3)
      show fIter (fLst _) _ _ = _
      rw [ev_iter]
      exact (congrArg (fun r => Res.bind r gIter) ev).trans rfl
  have hbs : ∀ d ∈ [boardT w1 c1, boardT w2 c2, boardT w3 1], ∃ ws c, d = boardT ws c ∧ BoardOk ws c := by
    intro d hd
    simp only [List.mem_cons, List.mem_nil_iff, or_false] at hd
    rcases hd with rfl | rfl | rfl
    · exact ⟨_, _, rfl, b1⟩
    · exact ⟨_, _, rfl, b2⟩
    · exact ⟨_, _, rfl, b3⟩
  have hl3 : [boardT w1 c1, boardT w2 c2, boardT w3 1].length = 3 := rfl
  generalize [boardT w1 c1, boardT w2 c2, boardT w3 1] = bs at hi hbs hl3
  obtain ⟨σ2, M2, f2, ⟨y, rfl, oy⟩, hs2⟩ := for_items (b := x52_4 fu) (n := 1) (i := 3) (σ := σ1) (M := [x3]) (ds := bs) (fun i σ N => (∃ y, N = [y] ∧ PenOk (1000 * (8 - i)) y) ∧ Has σ 10 [(2, .ref 0), (1, .int (j : Int)), (0, .scr ns)]) ⟨⟨x3, rfl, p3⟩, hs1⟩ (fun i σ N d hd hv => by
    obtain ⟨⟨y, rfl, oy⟩, hs⟩ := hv
    have hil : i < 3 := by rw [← hl3]; exact (List.getElem?_eq_some_iff.mp hd).1
    obtain ⟨ws, c, rfl, hb⟩ := hbs d (List.mem_of_getElem? hd)
    have oy' : PenOk (1000 * (8 - (i + 1)) + 40) y := oy.less (by omega)
    obtain ⟨σ', y', g1, g2, g3⟩ := x52_4_eq (M := [y]) (p := 0) (x := y) (fu := fu) (σ := σ.set 3 (some (boardT ws c))) rfl (hWx oy) oy' hb hfu (hs.put (by decide) (by simp))
    refine ⟨σ', _, .inl g1, ?_⟩
    rw [gc_same (by simp)]
    exact ⟨⟨y', rfl, g2⟩, g3⟩)
  exact ⟨σ2, y, (seq_nx s1).trans (for_of hi f2), hs2.sub (by simp)⟩
theorem law52_true (ns : List Int) (hn : ns.length ≤ 63) : ∃ M, m_law_271f5f 1000 [.scr ns] [] = .ok (.bl true) M := by
  have hr : ∃ m : Nat, fIt gRange1 (fCons (fCall gMax2 (fCons (fC (.int 1)) (fCons (fCall gMin2 (fCons (fCall gLen (fCons (fVar 0) fNil)) (fCons (fC (.int 4)) fNil))) fNil))) fNil) (startA 10 [.scr ns]) [] = .ok ⟨nums 0 m, fun _ => true⟩ [] := by
    refine ⟨_, range1_ev (j := if (if (4 : Int) < ns.length then 4 else (ns.length : Int)) > 1 then (if (4 : Int) < ns.length then 4 else (ns.length : Int)) else 1) ?_ ?_ ?_ rfl⟩
    · simp [startA]
    · split <;> (try split) <;> omega
    · split <;> (try split) <;> omega
  obtain ⟨m, hr⟩ := hr
  obtain ⟨σ2, M2, f2, rfl, hs2⟩ := for_nums (b := x52_5 1000) (n := 0) (m := m) (i := 1) (σ := startA 10 [.scr ns]) (M := []) (fun j σ N => N = [] ∧ Has σ 10 [(0, .scr ns)]) ⟨rfl, rfl, fun q hq => by
      simp only [List.mem_cons, List.mem_nil_iff, or_false] at hq
      rcases hq with rfl
      rfl⟩ (fun j σ N hj hv => by
    obtain ⟨rfl, hs⟩ := hv
    obtain ⟨σ', y, g1, g2⟩ := x52_5_eq (ns := ns) (j := j) (fu := 1000) (σ := σ.set 1 (some (.int (j : Int)))) (by decide) (hs.put (by decide) (by simp))
    refine ⟨σ', _, .inl g1, ?_⟩
    have := gc_app (n := 0) (σ := σ') (M := []) (g := [y]) rfl Wf.nil (by simp)
    rw [List.nil_append] at this
    rw [this]
    exact ⟨rfl, g2.keep (by simp [D.und])⟩)
  refine ⟨[], ?_⟩
  have sb : b_law_271f5f 1000 (startA 10 [.scr ns]) [] = .ok (.rt (.bl true)) [] := by
    rw [law52_body]
    exact (seq_nx (for_of hr f2)).trans (ret_ev rfl)
  unfold m_law_271f5f runD
  rw [sb]
  simp
end QX
namespace Q52
theorem law_true (ns : List Int) (hn : ns.length ≤ 63) : ∃ M, QX.m_law_271f5f 1000 [.scr ns] [] = .ok (.bl true) M := QX.law52_true ns hn
end Q52

set_option maxRecDepth 100000
set_option maxHeartbeats 1000000
open PySem PySem.W PyProof.Rows
set_option maxHeartbeats 0 in
theorem PySem.Challenge.cw_marblefall_k52_rows_beat_by_beat_holds : PySem.Challenge.rw_marblefall_k52_rows_beat_by_beat.Holds := by
  w_on; o_law; k_head; (case hw => w_witness2)
  k_fill
  refine HX.walk_ofTG (l := PySem.Challenge.rw_marblefall_k52_rows_beat_by_beat) (n := 63) (k := 11) (x := "_law_script") rfl (by decide) rfl ⟨rfl, by decide, by decide⟩ ?I (fun w h Y => PySem.W.kIn_of Y) ?F
  case I => first | rfl | decide +kernel
  case F =>
    intro w mg fa h KX G hmg tabs
    obtain ⟨t_MOST_WHEELS, g_MOST_WHEELS⟩ : ∃ t, mg "MOST_WHEELS" = some (.int 6 t) := by
      refine' HX.gint_mk KX G ?a
      (case a => k_is)
    obtain ⟨t_MOST_CUPS, g_MOST_CUPS⟩ : ∃ t, mg "MOST_CUPS" = some (.int 4 t) := by
      refine' HX.gint_mk KX G ?a
      (case a => k_is)
    obtain ⟨t_MOST_STEPS, g_MOST_STEPS⟩ : ∃ t, mg "MOST_STEPS" = some (.int 4 t) := by
      refine' HX.gint_mk KX G ?a
      (case a => k_is)
    obtain ⟨t_MOST_ENDS, g_MOST_ENDS⟩ : ∃ t, mg "MOST_ENDS" = some (.int 3 t) := by
      refine' HX.gint_mk KX G ?a
      (case a => k_is)
    obtain ⟨t_MOST_HANDS, g_MOST_HANDS⟩ : ∃ t, mg "MOST_HANDS" = some (.int 6 t) := by
      refine' HX.gint_mk KX G ?a
      (case a => k_is)
    obtain ⟨t_MOST_ROWS, g_MOST_ROWS⟩ : ∃ t, mg "MOST_ROWS" = some (.int 500 t) := by
      refine' HX.gint_mk KX G ?a
      (case a => k_is)
    refine' HX.def_cut (x := "_law_pen") (st := Q52.s__law_pen) (ps := ["_law_cell"]) KX G ?a ?l ?c ?k ?b (fun d__law_pen => ?z__law_pen)
    (case a => k_is); (case l => k_is); (case c => k_is); (case k => k_is); (case b => exact fun _ _ _ _ _ _ us hl => match us, hl with | [_], _ => rfl)
    refine' HX.def_cut (x := "_law_cell_at") (st := Q52.s__law_cell_at) (ps := ["_law_script", "_law_k"]) KX G ?a ?l ?c ?k ?b (fun d__law_cell_at => ?z__law_cell_at)
    (case a => k_is); (case l => k_is); (case c => k_is); (case k => k_is); (case b => exact fun _ _ _ _ _ _ us hl => match us, hl with | [_, _], _ => rfl)
    refine' HX.def_cut (x := "_law_draw") (st := Q52.s__law_draw) (ps := ["_law_pen_here", "_law_many"]) KX G ?a ?l ?c ?k ?b (fun d__law_draw => ?z__law_draw)
    (case a => k_is); (case l => k_is); (case c => k_is); (case k => k_is); (case b => exact fun _ _ _ _ _ _ us hl => match us, hl with | [_, _], _ => rfl)
    refine' HX.def_cut (x := "_law_mixed") (st := Q52.s__law_mixed) (ps := ["_law_pen_here", "_law_some"]) KX G ?a ?l ?c ?k ?b (fun d__law_mixed => ?z__law_mixed)
    (case a => k_is); (case l => k_is); (case c => k_is); (case k => k_is); (case b => exact fun _ _ _ _ _ _ us hl => match us, hl with | [_, _], _ => rfl)
    refine' HX.def_cut (x := "_law_ends") (st := Q52.s__law_ends) (ps := ["_law_wheel"]) KX G ?a ?l ?c ?k ?b (fun d__law_ends => ?z__law_ends)
    (case a => k_is); (case l => k_is); (case c => k_is); (case k => k_is); (case b => exact fun _ _ _ _ _ _ us hl => match us, hl with | [_], _ => rfl)
    refine' HX.def_cut (x := "_law_table") (st := Q52.s__law_table) (ps := ["_law_board_here"]) KX G ?a ?l ?c ?k ?b (fun d__law_table => ?z__law_table)
    (case a => k_is); (case l => k_is); (case c => k_is); (case k => k_is); (case b => exact fun _ _ _ _ _ _ us hl => match us, hl with | [_], _ => rfl)
    refine' HX.def_cut (x := "_law_falls") (st := Q52.s__law_falls) (ps := ["_law_board_here"]) KX G ?a ?l ?c ?k ?b (fun d__law_falls => ?z__law_falls)
    (case a => k_is); (case l => k_is); (case c => k_is); (case k => k_is); (case b => exact fun _ _ _ _ _ _ us hl => match us, hl with | [_], _ => rfl)
    refine' HX.def_cut (x := "_law_without") (st := Q52.s__law_without) (ps := ["_law_board_here", "_law_wheel", "_law_step"]) KX G ?a ?l ?c ?k ?b (fun d__law_without => ?z__law_without)
    (case a => k_is); (case l => k_is); (case c => k_is); (case k => k_is); (case b => exact fun _ _ _ _ _ _ us hl => match us, hl with | [_, _, _], _ => rfl)
    refine' HX.def_cut (x := "_law_drained") (st := Q52.s__law_drained) (ps := ["_law_pen_here", "_law_board_here"]) KX G ?a ?l ?c ?k ?b (fun d__law_drained => ?z__law_drained)
    (case a => k_is); (case l => k_is); (case c => k_is); (case k => k_is); (case b => exact fun _ _ _ _ _ _ us hl => match us, hl with | [_, _], _ => rfl)
    refine' HX.def_cut (x := "_law_any_board") (st := Q52.s__law_any_board) (ps := ["_law_pen_here", "_law_most", "_law_cups"]) KX G ?a ?l ?c ?k ?b (fun d__law_any_board => ?z__law_any_board)
    (case a => k_is); (case l => k_is); (case c => k_is); (case k => k_is); (case b => exact fun _ _ _ _ _ _ us hl => match us, hl with | [_, _, _], _ => rfl)
    refine' HX.def_cut (x := "_law_board") (st := Q52.s__law_board) (ps := ["_law_pen_here", "_law_most", "_law_cups"]) KX G ?a ?l ?c ?k ?b (fun d__law_board => ?z__law_board)
    (case a => k_is); (case l => k_is); (case c => k_is); (case k => k_is); (case b => exact fun _ _ _ _ _ _ us hl => match us, hl with | [_, _, _], _ => rfl)
    refine' HX.def_cut (x := "_law_kept") (st := Q52.s__law_kept) (ps := ["_law_pen_here"]) KX G ?a ?l ?c ?k ?b (fun d__law_kept => ?z__law_kept)
    (case a => k_is); (case l => k_is); (case c => k_is); (case k => k_is); (case b => exact fun _ _ _ _ _ _ us hl => match us, hl with | [_], _ => rfl)
    refine' HX.def_cut (x := "_law_stand") (st := Q52.s__law_stand) (ps := ["_law_pen_here", "_law_board_here"]) KX G ?a ?l ?c ?k ?b (fun d__law_stand => ?z__law_stand)
    (case a => k_is); (case l => k_is); (case c => k_is); (case k => k_is); (case b => exact fun _ _ _ _ _ _ us hl => match us, hl with | [_, _], _ => rfl)
    refine' HX.def_cut (x := "_law_moment") (st := Q52.s__law_moment) (ps := ["_law_pen_here", "_law_board_here", "_law_most"]) KX G ?a ?l ?c ?k ?b (fun d__law_moment => ?z__law_moment)
    (case a => k_is); (case l => k_is); (case c => k_is); (case k => k_is); (case b => exact fun _ _ _ _ _ _ us hl => match us, hl with | [_, _, _], _ => rfl)
    refine' HX.def_cut (x := "_law_handled") (st := Q52.s__law_handled) (ps := ["_law_board_here", "_law_moment_here", "_law_wheel"]) KX G ?a ?l ?c ?k ?b (fun d__law_handled => ?z__law_handled)
    (case a => k_is); (case l => k_is); (case c => k_is); (case k => k_is); (case b => exact fun _ _ _ _ _ _ us hl => match us, hl with | [_, _, _], _ => rfl)
    refine' HX.def_cut (x := "_law_rows") (st := Q52.s__law_rows) (ps := ["_law_board_here", "_law_moment_here", "_law_folk", "_law_most"]) KX G ?a ?l ?c ?k ?b (fun d__law_rows => ?z__law_rows)
    (case a => k_is); (case l => k_is); (case c => k_is); (case k => k_is); (case b => exact fun _ _ _ _ _ _ us hl => match us, hl with | [_, _, _, _], _ => rfl)
    refine' HX.def_cut (x := "has_parts") (st := Q52.s_has_parts) (ps := ["thing", "least", "most"]) KX G ?a ?l ?c ?k ?b (fun d_has_parts => ?z_has_parts)
    (case a => k_is); (case l => k_is); (case c => k_is); (case k => k_is); (case b => exact fun _ _ _ _ _ _ us hl => match us, hl with | [_, _, _], _ => rfl)
    refine' HX.def_cut (x := "is_whole") (st := Q52.s_is_whole) (ps := ["thing"]) KX G ?a ?l ?c ?k ?b (fun d_is_whole => ?z_is_whole)
    (case a => k_is); (case l => k_is); (case c => k_is); (case k => k_is); (case b => exact fun _ _ _ _ _ _ us hl => match us, hl with | [_], _ => rfl)
    refine' HX.def_cut (x := "is_within") (st := Q52.s_is_within) (ps := ["thing", "least", "most"]) KX G ?a ?l ?c ?k ?b (fun d_is_within => ?z_is_within)
    (case a => k_is); (case l => k_is); (case c => k_is); (case k => k_is); (case b => exact fun _ _ _ _ _ _ us hl => match us, hl with | [_, _, _], _ => rfl)
    refine' HX.def_cut (x := "is_step") (st := Q52.s_is_step) (ps := ["thing", "ends"]) KX G ?a ?l ?c ?k ?b (fun d_is_step => ?z_is_step)
    (case a => k_is); (case l => k_is); (case c => k_is); (case k => k_is); (case b => exact fun _ _ _ _ _ _ us hl => match us, hl with | [_, _], _ => rfl)
    refine' HX.def_cut (x := "is_wheel") (st := Q52.s_is_wheel) (ps := ["thing", "ends"]) KX G ?a ?l ?c ?k ?b (fun d_is_wheel => ?z_is_wheel)
    (case a => k_is); (case l => k_is); (case c => k_is); (case k => k_is); (case b => exact fun _ _ _ _ _ _ us hl => match us, hl with | [_, _], _ => rfl)
    refine' HX.def_cut (x := "is_board") (st := Q52.s_is_board) (ps := ["thing"]) KX G ?a ?l ?c ?k ?b (fun d_is_board => ?z_is_board)
    (case a => k_is); (case l => k_is); (case c => k_is); (case k => k_is); (case b => exact fun _ _ _ _ _ _ us hl => match us, hl with | [_], _ => rfl)
    refine' HX.def_cut (x := "need_board") (st := Q52.s_need_board) (ps := ["thing"]) KX G ?a ?l ?c ?k ?b (fun d_need_board => ?z_need_board)
    (case a => k_is); (case l => k_is); (case c => k_is); (case k => k_is); (case b => exact fun _ _ _ _ _ _ us hl => match us, hl with | [_], _ => rfl)
    refine' HX.def_cut (x := "is_stand") (st := Q52.s_is_stand) (ps := ["board", "thing"]) KX G ?a ?l ?c ?k ?b (fun d_is_stand => ?z_is_stand)
    (case a => k_is); (case l => k_is); (case c => k_is); (case k => k_is); (case b => exact fun _ _ _ _ _ _ us hl => match us, hl with | [_, _], _ => rfl)
    refine' HX.def_cut (x := "are_marbles") (st := Q52.s_are_marbles) (ps := ["thing", "places"]) KX G ?a ?l ?c ?k ?b (fun d_are_marbles => ?z_are_marbles)
    (case a => k_is); (case l => k_is); (case c => k_is); (case k => k_is); (case b => exact fun _ _ _ _ _ _ us hl => match us, hl with | [_, _], _ => rfl)
    refine' HX.def_cut (x := "is_moment") (st := Q52.s_is_moment) (ps := ["board", "thing"]) KX G ?a ?l ?c ?k ?b (fun d_is_moment => ?z_is_moment)
    (case a => k_is); (case l => k_is); (case c => k_is); (case k => k_is); (case b => exact fun _ _ _ _ _ _ us hl => match us, hl with | [_, _], _ => rfl)
    refine' HX.def_cut (x := "need_moment") (st := Q52.s_need_moment) (ps := ["board", "thing"]) KX G ?a ?l ?c ?k ?b (fun d_need_moment => ?z_need_moment)
    (case a => k_is); (case l => k_is); (case c => k_is); (case k => k_is); (case b => exact fun _ _ _ _ _ _ us hl => match us, hl with | [_, _], _ => rfl)
    refine' HX.def_cut (x := "need_hands") (st := Q52.s_need_hands) (ps := ["thing"]) KX G ?a ?l ?c ?k ?b (fun d_need_hands => ?z_need_hands)
    (case a => k_is); (case l => k_is); (case c => k_is); (case k => k_is); (case b => exact fun _ _ _ _ _ _ us hl => match us, hl with | [_], _ => rfl)
    refine' HX.def_cut (x := "loosened") (st := Q52.s_loosened) (ps := ["moment"]) KX G ?a ?l ?c ?k ?b (fun d_loosened => ?z_loosened)
    (case a => k_is); (case l => k_is); (case c => k_is); (case k => k_is); (case b => exact fun _ _ _ _ _ _ us hl => match us, hl with | [_], _ => rfl)
    refine' HX.def_cut (x := "handle_marble") (st := Q52.s_handle_marble) (ps := ["board", "parts", "wheel"]) KX G ?a ?l ?c ?k ?b (fun d_handle_marble => ?z_handle_marble)
    (case a => k_is); (case l => k_is); (case c => k_is); (case k => k_is); (case b => exact fun _ _ _ _ _ _ us hl => match us, hl with | [_, _, _], _ => rfl)
    refine' HX.def_cut (x := "handle_beat") (st := Q52.s_handle_beat) (ps := ["board", "parts", "hands"]) KX G ?a ?l ?c ?k ?b (fun d_handle_beat => ?z_handle_beat)
    (case a => k_is); (case l => k_is); (case c => k_is); (case k => k_is); (case b => exact fun _ _ _ _ _ _ us hl => match us, hl with | [_, _, _], _ => rfl)
    refine' QX.defD_cut (x := "rows_of") (st := Q52.s_rows_of) (dvs := []) (kws := [("hands", L2.V.int 1)]) KX G ?a ?l ?c ?k (.inl ⟨rfl, rfl⟩) (QX.kwd_one ?kw) (fun d_rows_of => ?z_rows_of)
    (case a => k_is); (case l => k_is); (case c => k_is); (case k => k_is); (case kw => k_is)
    refine' HX.def_cut (x := "law") (st := Q52.s_law) (ps := ["_law_script"]) KX G ?a ?l ?c ?k ?b (fun d_law => ?z_law)
    (case a => k_is); (case l => k_is); (case c => k_is); (case k => k_is); (case b => exact fun _ _ _ _ _ _ us hl => match us, hl with | [_], _ => rfl)
    have z_len : mg "len" = none := by
      refine' PySem.W.mg_none_of KX G ?a
      (case a => k_is)
    have z_isinstance : mg "isinstance" = none := by
      refine' PySem.W.mg_none_of KX G ?a
      (case a => k_is)
    have z_int : mg "int" = none := by
      refine' PySem.W.mg_none_of KX G ?a
      (case a => k_is)
    have z_bool : mg "bool" = none := by
      refine' PySem.W.mg_none_of KX G ?a
      (case a => k_is)
    have z_tuple : mg "tuple" = none := by
      refine' PySem.W.mg_none_of KX G ?a
      (case a => k_is)
    have z_list : mg "list" = none := by
      refine' PySem.W.mg_none_of KX G ?a
      (case a => k_is)
    have z_all : mg "all" = none := by
      refine' PySem.W.mg_none_of KX G ?a
      (case a => k_is)
    have z_range : mg "range" = none := by
      refine' PySem.W.mg_none_of KX G ?a
      (case a => k_is)
    have z_max : mg "max" = none := by
      refine' PySem.W.mg_none_of KX G ?a
      (case a => k_is)
    have z_min : mg "min" = none := by
      refine' PySem.W.mg_none_of KX G ?a
      (case a => k_is)
    have z_repr : mg "repr" = none := by
      refine' PySem.W.mg_none_of KX G ?a
      (case a => k_is)
    have B : HX.Bi mg := ⟨z_len, z_isinstance, z_int, z_bool, z_tuple, z_list, z_all, z_range, z_max, z_min, z_repr⟩
    have z_zip : mg "zip" = none := by
      refine' PySem.W.mg_none_of KX G ?a
      (case a => k_is)
    have z_enumerate : mg "enumerate" = none := by
      refine' PySem.W.mg_none_of KX G ?a
      (case a => k_is)
    have z_sum : mg "sum" = none := by
      refine' PySem.W.mg_none_of KX G ?a
      (case a => k_is)
    have B2 : HX.Bi2 mg := ⟨z_zip, z_enumerate, z_sum⟩
    refine' QX.err_mk (x := "NoBoard") KX G ?a ?kC ?ex ?sb ?ty (fun C_NoBoard R_NoBoard => ?zE_NoBoard)
    (case a => k_is); (case kC => k_is); (case ex => k_exc); (case sb => k_is); (case ty => k_is)
    refine' QX.err_mk (x := "NoMoment") KX G ?a ?kC ?ex ?sb ?ty (fun C_NoMoment R_NoMoment => ?zE_NoMoment)
    (case a => k_is); (case kC => k_is); (case ex => k_exc); (case sb => k_is); (case ty => k_is)
    refine' QX.err_mk (x := "NoNumber") KX G ?a ?kC ?ex ?sb ?ty (fun C_NoNumber R_NoNumber => ?zE_NoNumber)
    (case a => k_is); (case kC => k_is); (case ex => k_exc); (case sb => k_is); (case ty => k_is)
    refine' QX.err_mk (x := "NoHands") KX G ?a ?kC ?ex ?sb ?ty (fun C_NoHands R_NoHands => ?zE_NoHands)
    (case a => k_is); (case kC => k_is); (case ex => k_exc); (case sb => k_is); (case ty => k_is)
    obtain ⟨f, fd, F, hm, hb⟩ := d_law
    have e := hmg.symm.trans hm
    cases e
    refine QX.law_tg (S := ⟨_, [], (fun j => if j = 0 then C_NoBoard else if j = 2 then C_NoMoment else if j = 9 then C_NoNumber else if j = 16 then C_NoHands else 0)⟩) (fd := fd) (m := (QX.m_law_271f5f 1000)) rfl (fun s u hK => hb s [u] hK rfl) (fun base => Q52.law_all (S := ⟨_, [], (fun j => if j = 0 then C_NoBoard else if j = 2 then C_NoMoment else if j = 9 then C_NoNumber else if j = 16 then C_NoHands else 0)⟩) F B B2 g_MOST_WHEELS g_MOST_CUPS g_MOST_STEPS g_MOST_ENDS g_MOST_HANDS g_MOST_ROWS R_NoBoard R_NoMoment R_NoNumber R_NoHands d__law_pen d__law_cell_at d__law_draw d__law_mixed d__law_ends d__law_table d__law_falls d__law_without d__law_drained d__law_any_board d__law_board d__law_kept d__law_stand d__law_moment d__law_handled d__law_rows d_has_parts d_is_whole d_is_within d_is_step d_is_wheel d_is_board d_need_board d_is_stand d_are_marbles d_is_moment d_need_moment d_need_hands d_loosened d_handle_marble d_handle_beat d_rows_of) Q52.law_true

