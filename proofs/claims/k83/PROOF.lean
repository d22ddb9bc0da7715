import PyProof.Rows.All
import Wide.All
import OpenK.AllK
import Wide.FinOn
import HandS.ForMost
import HandS.Wide
import HandS.IsInst
import HandS.TupAny
import HandS.TupMul
import HandS.EndBits
import HandS.Flow
import HandS.Zip
import HandS.Style
import PyProof.ReprRoads
import HandS.Walk
import KE.GoesNew
import KE.GoesEnum
import HandS.SetFor
import KE.KTupSum
import KE.GoesMore
import HandS.NoneIn
import HandS.Strs
import HandS.Lambda
import HandS.ExcOwn
import HandS.ExcIs
import HandS.HotCalls
import HandS.WordsExc
import HandS.EndTab
import KE.KNest
import HandS.Deep
import KE.KeyNested
import HandS.Dict
import HandS.Conv
import HandS.TryOnly
import HandS.TupLe
import HandS.WideBits
import HandS.Defaults
import HandS.MakeKwOnly
import HandS.CallSlots
import HandS.Text
import HandS.FStr
import KE.KUnpackStar
import KE.SortData
import KE.KDictSum
import KE.KDictWalk
import KE.KDictCopyH
import KE.KDictDisplayH
import HandS.DictComp
import KE.DataCmp
import HandS.ExcInit
import KE.KExcSuper
import KE.KSuper
import HandS.ExcField
import KE.KExcIs
import KE.KDictKeyed
import KE.KDictPairs
import KE.KEqDict
import KE.DataMinMax
import HandS.Iter
import KE.SortKeyHeap
import KE.DataMinKey
import HandS.Nested
import HandS.FltList
import PyProof.AutoSeq1
import PyProof.Rows.ReprOcc
import KE.KxAffix
import KE.IntBitsLaws
import KE.RegKTryMore
import KE.RegKIsAll
import PySem.Challenge.RW_marblefall_k83_texts_that_write_none
set_option Elab.async false
set_option linter.all false
set_option maxRecDepth 100000
set_option maxHeartbeats 4000000
namespace HX
open PySem PySem.Spec PyProof.Rows L2
def Def (K : PySem.W.Frag) (mg : Str → Option Value) (x : Str) (st : Stmt) (ps : List Str) : Prop :=
  ∃ (f : Addr) (fd : FuncData), Fun K x x st f fd ∧ mg x = some (.ref f) ∧ Binds K fd ps []
section
variable {P : Program} {w : World} {K : PySem.W.Frag} {mg : Str → Option Value} {base : Heap} {j k : Nat} {x : Str} {ps : List Str} {sp sp' : Sp}
end
section
variable {X : Cx} {k : Nat} {x : Str} {ps : List Str} {sp : Sp} {p pos : Pos} {e : Expr} {es : List Expr} {t : TA}
end
theorem pe_gint {X : Cx} {x : Str} {i : Int} {tk : Tok} {pos : Pos} (hg : Gl X x) (hm : X.mg x = some (.int i tk)) (hd : (x == ("__debug__" : Str)) = false := by decide) : PE X (.Name x pos) (tC (.int i)) := pe_glob hg hm ⟨tk, rfl⟩ hd
def Kp (N : Addr → Prop) (H H' : Hp) : Prop := ∀ b o, H b = some o → ¬ N b → H' b = some o
theorem Same.new {H : Hp} {p : Addr} {o : HO} (h : H p = none) : Same H (upd H p o) := fun b x e => by
  rw [upd_ne (ne_of_none e h)]
  exact e
theorem Kp.put {N : Addr → Prop} {H : Hp} {p : Addr} {o : HO} (h : N p) : Kp N H (upd H p o) := fun b x e nb => by
  rw [upd_ne (fun z => nb (by rw [z]; exact h))]
  exact e
structure Bi (mg : Str → Option Value) : Prop where
  len_ : mg "len" = none
  isinstance_ : mg "isinstance" = none
  int_ : mg "int" = none
  bool_ : mg "bool" = none
  tuple_ : mg "tuple" = none
  list_ : mg "list" = none
  all_ : mg "all" = none
  range_ : mg "range" = none
  max_ : mg "max" = none
  min_ : mg "min" = none
  repr_ : mg "repr" = none
end HX
set_option maxRecDepth 100000
set_option maxHeartbeats 4000000
namespace HX
open PySem PySem.Spec PyProof.Rows L2
section
variable {prog : Program} {w : World} {A : Around} {E : Value → Shared → Prop} {s : Shared}
end
section
variable {X : Cx}
end
end HX
set_option maxRecDepth 100000
set_option maxHeartbeats 4000000
namespace HX
open PySem PySem.Spec PyProof.Rows L2
structure Ent (A : Around) (s : Shared) (H : Hp) : Prop where
  gu : A.guards = some []
  sm : ∃ o, s.heap.get? sysModules = some o
  hm : H sysModules = none
structure FnG (P : Program) (w : World) (K : PySem.W.Frag) (mg : Str → Option Value) (base : Heap) (k : Nat) (f : Addr) (fd : FuncData) (ps : List Str) (sp : Sp) : Prop where
  len : ∀ vs H Q E, sp vs H Q E → vs.length = ps.length
  run : ∀ (A : Around) (outer : List Env) (s : Shared) (H : Hp) (args : Args) (us : List Value) (vs : List V) (Q : VK) (E : XK), Ent A s H → Room k A → Env0 P w K mg base A outer s H → BindsTo s fd args (ps.zip us) → Vals vs us → sp vs H Q E →
    codeAny (model P w) A (.call (.ref f) args) (CR CX0 outer P w H s Q E) s
section
variable {P : Program} {w : World} {K : PySem.W.Frag} {mg : Str → Option Value} {base : Heap}
end
structure EntX (X : Cx) : Prop where
  gu : X.A.guards = some []
  sm : ∃ o, X.s_0.heap.get? sysModules = some o
  hm : X.H_0 sysModules = none
  ex : sysModules ∉ X.ex
section
variable {X : Cx} {pins : List (Addr × Obj)} {σ : L2.St} {H : Hp} {s : Shared}
theorem inv_sys (I : Inv X pins σ H s) (e : EntX X) : H sysModules = none ∧ ∃ o, s.heap.get? sysModules = some o := by
  obtain ⟨o, ho⟩ := e.sm
  exact ⟨I.base.free _ o ho e.hm e.ex, I.base.there _ o ho e.ex⟩
end
section
variable {X : Cx} {pins : List (Addr × Obj)} {σ : L2.St} {H : Hp} {s : Shared} {N : Addr → Prop}
end
mutual
def wt : PyData → Nat
  | .none => 4
  | .bool _ => 5
  | .int _ => 130
  | .str x => (reprText x).length
  | .list ds => 2 + wtAll ds
  | .tuple ds => 3 + wtAll ds
  | .dict ds => 2 + wtKv ds
def wtAll : List PyData → Nat
  | [] => 0
  | d :: ds => wt d + 2 + wtAll ds
def wtKv : List (PyData × PyData) → Nat
  | [] => 0
  | (a, b) :: ds => wt a + wt b + 4 + wtKv ds
end
mutual
def within (b : Int) : PyData → Prop
  | .none => True
  | .bool _ => True
  | .int i => -b ≤ i ∧ i ≤ b
  | .str _ => True
  | .list ds => withinAll b ds
  | .tuple ds => withinAll b ds
  | .dict ds => withinKv b ds
def withinAll (b : Int) : List PyData → Prop
  | [] => True
  | d :: ds => within b d ∧ withinAll b ds
def withinKv (b : Int) : List (PyData × PyData) → Prop
  | [] => True
  | (x, y) :: ds => within b x ∧ within b y ∧ withinKv b ds
end
theorem textFrom_le : ∀ (ts : List Str) (k : Nat) (acc : Str), (textFrom k acc ts).length ≤ acc.length + piled ts
  | [], _, _ => Nat.le_add_right _ _
  | t :: ts, k, acc => by
    have h := textFrom_le ts (k + 1) (acc ++ (if k > 0 then ", " else "" : String) ++ t)
    have e : (acc ++ (if k > 0 then ", " else "" : String) ++ t).length ≤ acc.length + 2 + t.length := by
      rw [strLen_append, strLen_append]
      have : (Str.ofString (if k > 0 then ", " else "" : String)).length ≤ 2 := by split <;> decide
      omega
    rw [piled_cons]
    show (textFrom (k + 1) _ ts).length ≤ _
    omega
theorem listText_le (ts : List Str) : (listText ts).length ≤ 2 + piled ts := by
  unfold listText
  have h := textFrom_le ts 0 "["
  rw [strLen_append]
  have e1 : (Str.ofString "[").length = 1 := by decide
  have e2 : (Str.ofString "]").length = 1 := by decide
  have h' : (textFrom 0 (Str.ofString "[") ts).length ≤ (Str.ofString "[").length + piled ts := h
  show (textFrom 0 (Str.ofString "[") ts).length + (Str.ofString "]").length ≤ _
  omega
theorem join_le (ts : List Str) : (Str.join ", " ts).length ≤ piled ts := by
  by_cases h : ts = []
  · subst h
    decide
  · have := join_length_add ts h
    omega
theorem tupleText_le (ts : List Str) : (tupleText ts).length ≤ 3 + piled ts := by
  unfold tupleText
  have h := join_le ts
  rw [strLen_append, strLen_append]
  have e1 : (Str.ofString "(").length = 1 := by decide
  have e2 : (Str.ofString (if ts.length == 1 then ",)" else ")" : String)).length ≤ 2 := by split <;> decide
  show (Str.ofString "(").length + (Str.join (Str.ofString ", ") ts).length + (Str.ofString (if ts.length == 1 then ",)" else ")" : String)).length ≤ _
  have h' : (Str.join (Str.ofString ", ") ts).length ≤ piled ts := h
  omega
theorem dictText_le (ts : List Str) : (dictText ts).length ≤ 2 + piled ts := by
  unfold dictText
  have h := join_le ts
  rw [strLen_append, strLen_append]
  have e1 : (Str.ofString "{").length = 1 := by decide
  have e2 : (Str.ofString "}").length = 1 := by decide
  show (Str.ofString "{").length + (Str.join (Str.ofString ", ") ts).length + (Str.ofString "}").length ≤ _
  have h' : (Str.join (Str.ofString ", ") ts).length ≤ piled ts := h
  omega
theorem int_log {i b : Int} (h : -b ≤ i ∧ i ≤ b) (hb : b < 10 ^ 120) : i.natAbs.log2 < 400 := by
  have h1 : i.natAbs < 2 ^ 400 := by
    have h2 : (10 : Nat) ^ 120 < 2 ^ 400 := by decide +kernel
    have h3 : i.natAbs < 10 ^ 120 := by omega
    exact Nat.lt_trans h3 h2
  exact PySem.Flt.log2_lt_of (by decide) h1
theorem nat_short {n k : Nat} (hk : 0 < k) (h : n < 10 ^ k) : (toString n).length ≤ k := by
  show (String.ofList (Nat.toDigits 10 n)).length ≤ k
  rw [String.length_ofList]
  exact (Nat.length_toDigits_le_iff (by decide) hk).mpr h
theorem int_short {i : Int} {k : Nat} (hk : 0 < k) (h : i.natAbs < 10 ^ k) : (toString i).length ≤ k + 1 := by
  cases i with
  | ofNat n =>
    have := nat_short hk (n := n) (by simpa using h)
    show (toString n).length ≤ _
    omega
  | negSucc n =>
    have := nat_short hk (n := n + 1) (by simpa using h)
    show ("-" ++ toString (n + 1)).length ≤ _
    rw [String.length_append]
    have e : "-".length = 1 := by decide
    omega
mutual
theorem shown_le {b : Int} (hb : b < 10 ^ 120) : ∀ d : PyData, within b d → d.shown.length ≤ wt d ∧ d.showable = true
  | .none, _ => by
    simp only [PyData.shown, PyData.showable, wt]
    decide
  | .bool c, _ => by
    cases c <;> (simp only [PyData.shown, PyData.showable, wt]; decide)
  | .int i, h => by
    have h' : -b ≤ i ∧ i ≤ b := by simpa only [within] using h
    have hl := int_log h' hb
    simp only [PyData.shown, PyData.showable, wt]
    have q := int_short (i := i) (k := 120) (by decide) (by omega)
    refine ⟨?_, decide_eq_true (by omega)⟩
    have e := PySem.ofString_length (toString i)
    show (Str.ofString (toString i)).length ≤ 130
    omega
  | .str x, _ => by
    simp only [PyData.shown, PyData.showable, wt]
    exact ⟨Nat.le_refl _, trivial⟩
  | .list ds, h => by
    have h' : withinAll b ds := by simpa only [within] using h
    obtain ⟨q1, q2⟩ := shownAll_le hb ds h'
    simp only [PyData.shown, PyData.showable, wt]
    have := listText_le (PyData.shownAll ds)
    exact ⟨by omega, q2⟩
  | .tuple ds, h => by
    have h' : withinAll b ds := by simpa only [within] using h
    obtain ⟨q1, q2⟩ := shownAll_le hb ds h'
    simp only [PyData.shown, PyData.showable, wt]
    have := tupleText_le (PyData.shownAll ds)
    exact ⟨by omega, q2⟩
  | .dict ds, h => by
    have h' : withinKv b ds := by simpa only [within] using h
    obtain ⟨q1, q2⟩ := shownKv_le hb ds h'
    simp only [PyData.shown, PyData.showable, wt]
    have := dictText_le (PyData.shownKv ds)
    exact ⟨by omega, q2⟩
theorem shownAll_le {b : Int} (hb : b < 10 ^ 120) : ∀ ds : List PyData, withinAll b ds → piled (PyData.shownAll ds) ≤ wtAll ds ∧ PyData.showableAll ds = true
  | [], _ => by
    simp only [PyData.shownAll, PyData.showableAll, wtAll]
    exact ⟨Nat.le_refl _, trivial⟩
  | d :: ds, h => by
    have h' : within b d ∧ withinAll b ds := by simpa only [withinAll] using h
    obtain ⟨a1, a2⟩ := shown_le hb d h'.1
    obtain ⟨b1, b2⟩ := shownAll_le hb ds h'.2
    simp only [PyData.shownAll, PyData.showableAll, wtAll]
    rw [piled_cons, a2, b2]
    exact ⟨by omega, rfl⟩
theorem shownKv_le {b : Int} (hb : b < 10 ^ 120) : ∀ ds : List (PyData × PyData), withinKv b ds → piled (PyData.shownKv ds) ≤ wtKv ds ∧ PyData.showableKv ds = true
  | [], _ => by
    simp only [PyData.shownKv, PyData.showableKv, wtKv]
    exact ⟨Nat.le_refl _, trivial⟩
  | (x, y) :: ds, h => by
    have h' : within b x ∧ within b y ∧ withinKv b ds := by simpa only [withinKv] using h
    obtain ⟨a1, a2⟩ := shown_le hb x h'.1
    obtain ⟨c1, c2⟩ := shown_le hb y h'.2.1
    obtain ⟨b1, b2⟩ := shownKv_le hb ds h'.2.2
    simp only [PyData.shownKv, PyData.showableKv, wtKv]
    have e : (Str.ofString ": ").length = 2 := by decide
    rw [piled_cons, a2, b2, c2, strLen_append, strLen_append]
    refine ⟨?_, rfl⟩
    show x.shown.length + (Str.ofString ": ").length + y.shown.length + 2 + _ ≤ _
    omega
end
structure Gd (n e : Nat) (d : PyData) : Prop where
  iw : within 100000000000000000000000000000000000000000000000000000000000000000000000000000000000000000000000000000000000000000000000 d
  wn : wt d ≤ n
  dp : d.depth ≤ e
end HX
set_option maxRecDepth 100000
set_option maxHeartbeats 4000000
namespace HX
open PySem PySem.Spec PyProof.Rows L2
def EndsOk (n : Int) (s : List Int) : Prop := s.length ≤ 3 ∧ ∀ e ∈ s, 0 ≤ e ∧ e < n
def WheelOk (n : Int) (w : List (List Int)) : Prop := 1 ≤ w.length ∧ w.length ≤ 4 ∧ ∀ s ∈ w, EndsOk n s
structure BoardOk (ws : List (List (List Int))) (c : Int) : Prop where
  w1 : 1 ≤ ws.length
  w6 : ws.length ≤ 6
  c0 : 0 ≤ c
  c4 : c ≤ 4
  wheels : ∀ w ∈ ws, WheelOk ((ws.length : Int) + c) w
end HX
set_option maxRecDepth 100000
set_option maxHeartbeats 4000000
namespace HX
open PySem PySem.Spec PyProof.Rows L2
section
variable {N : Addr → Prop} {σ : L2.St} {H : Hp} {te : TE} {ta : TA} {d : PyData} {ds : List PyData}
end
theorem entx_of {P : Program} {w : World} {K : PySem.W.Frag} {mg : Str → Option Value} {base : Heap} {N : List Str} {qual : Str} {scope : Scope} {f : Addr} {cdv : Value} {A : Around} {outer : List Env} {s : Shared} {H : Hp} {E : XK} (en : Ent A s H) :
    EntX (cxOf CX0 P w K mg base N qual scope f cdv A outer s H E).nox := ⟨en.gu, en.sm, en.hm, fun z => absurd (show sysModules ∈ ([] : List Addr) from z) (by simp)⟩
theorem hu150 {A : Around} {k : Nat} (hr : Room k A) : A.units + 150 < cLine := by
  have := hr.un
  omega
theorem def_mk {K : PySem.W.Frag} {mg : Str → Option Value} {h : Heap} {x : Str} {st : Stmt} {ps : List Str} {f : Addr} {od an : Option Addr} {sl : Array (Option Value)} {oc kV dc pm cd ct : Value} (X : K.In h) (G : h.Ns mainGlobals mg)
    (a : PySem.W.nsIn K mainGlobals x = some (some (.ref f))) (l : K.lookup f = some ⟨oc, od, .func (PySem.W.fnOf x x (defArgs st) (defBody st) (defScope st) .none kV dc pm an cd ct), sl⟩) (c : PySem.W.codeIn K cd x = true) (k : PySem.W.keepIn K (.ref f) = true)
    (hb : ∀ (kV doc pm : Value) (an : Option Addr) (cdv ct : Value) (us : List Value), us.length = ps.length → bindArgs (PySem.W.fnOf x x (defArgs st) (defBody st) (defScope st) .none kV doc pm an cdv ct) ⟨us, []⟩ = pure (ps.zip us)) : Def K mg x st ps :=
  ⟨f, _, fun_mk l c k, PySem.W.mg_of X G a, (fun_mk l c k).binds hb⟩
theorem gint_mk {K : PySem.W.Frag} {mg : Str → Option Value} {h : Heap} {x : Str} {i : Int} {t : Tok} (X : K.In h) (G : h.Ns mainGlobals mg) (a : PySem.W.nsIn K mainGlobals x = some (some (.int i t))) : ∃ t, mg x = some (.int i t) := ⟨t, PySem.W.mg_of X G a⟩
theorem def_cut {C : Prop} {K : PySem.W.Frag} {mg : Str → Option Value} {h : Heap} {x : Str} {st : Stmt} {ps : List Str} {f : Addr} {od an : Option Addr} {sl : Array (Option Value)} {oc kV dc pm cd ct : Value} (X : K.In h) (G : h.Ns mainGlobals mg)
    (a : PySem.W.nsIn K mainGlobals x = some (some (.ref f))) (l : K.lookup f = some ⟨oc, od, .func (PySem.W.fnOf x x (defArgs st) (defBody st) (defScope st) .none kV dc pm an cd ct), sl⟩) (c : PySem.W.codeIn K cd x = true) (k : PySem.W.keepIn K (.ref f) = true)
    (hb : ∀ (kV doc pm : Value) (an : Option Addr) (cdv ct : Value) (us : List Value), us.length = ps.length → bindArgs (PySem.W.fnOf x x (defArgs st) (defBody st) (defScope st) .none kV doc pm an cdv ct) ⟨us, []⟩ = pure (ps.zip us)) (z : Def K mg x st ps → C) : C :=
  z (def_mk X G a l c k hb)
end HX
set_option maxRecDepth 100000
set_option maxHeartbeats 1000000
namespace HX
open PySem PySem.Spec PyProof.Rows L2
inductive Ki where
  | l | t
def SqK (K : PySem.W.Frag) (H : Hp) : Ki → Addr → List V → Prop
  | .l, a, xs => SqL K H a xs
  | .t, a, xs => SqT K H a xs
def ItrK (h : Heap) : Ki → Addr → Addr → Nat → Prop
  | .l, it, a, i => h.IsListIter it a i
  | .t, it, a, i => h.IsTupleIter it a i
def SeqK (h : Heap) : Ki → Addr → Array Value → Prop
  | .l, a, its => h.IsList a its
  | .t, a, its => h.IsTuple a its
def itO : Ki → Addr → Obj
  | .l, a => { cls := .type "list_iterator", data := .fields #[.ref a, .int 0 0] }
  | .t, a => { cls := .type "tuple_iterator", data := .fields #[.ref a, .int 0 0] }
theorem beginsK (k : Ki) (a : Addr) (its : Array Value) : Begins (.ref a) (itO k a) (fun h => SeqK h k a its) := by
  cases k with
  | l => exact begins_list a its
  | t => exact begins_tuple a its
theorem drawsK {prog : Program} {w : World} {A : Around} (hh : A.handled = none) (k : Ki) (it a : Addr) (hne : a ≠ it) (its : Array Value) :
    Draws prog w A it [it, a] its.size (fun i v => its[i]? = some v) (fun i h => ItrK h k it a i ∧ SeqK h k a its) := by
  cases k with
  | l => exact Draws.list hh it a hne its
  | t => exact Draws.tuple hh it a hne its
theorem itrK_of {h : Heap} {k : Ki} {it a : Addr} (e : h.get? it = some (itO k a)) : ItrK h k it a 0 := by
  cases k with
  | l => exact ⟨_, e, rfl, rfl⟩
  | t => exact ⟨_, e, rfl, rfl⟩
theorem itrK_at {h h' : Heap} {k : Ki} {it a : Addr} {i : Nat} (x : ItrK h k it a i) (e : ∀ o, h.get? it = some o → h'.get? it = some o) : ItrK h' k it a i := by
  cases k with
  | l => exact Heap.IsListIter.at x e
  | t => exact Heap.IsTupleIter.at x e
theorem itrK_obj {h : Heap} {k : Ki} {it a : Addr} {i : Nat} (x : ItrK h k it a i) : ∃ o, h.get? it = some o ∧ ∀ v, o.data ≠ .cell v := by
  cases k with
  | l =>
    obtain ⟨o, e, _, d⟩ := x
    exact ⟨o, e, fun v q => by rw [d] at q; cases q⟩
  | t =>
    obtain ⟨o, e, _, d⟩ := x
    exact ⟨o, e, fun v q => by rw [d] at q; cases q⟩
section
variable {X : Cx} {pins : List (Addr × Obj)} {σ : L2.St} {H : Hp} {s : Shared} {k : Ki} {a : Addr} {xs ys : List V}
theorem inv_seqK (I : Inv X pins σ H s) (h : SqK X.K H k a xs) : ∃ its : List Value, Vals xs its ∧ SeqK s.heap k a its.toArray := by
  cases k with
  | l =>
    obtain ⟨its, rv, p, _⟩ := I.list h
    exact ⟨its, rv, p.isList⟩
  | t =>
    obtain ⟨its, rv, p, _⟩ := I.tuple h
    exact ⟨its, rv, p⟩
theorem inv_seqK_inj (I : Inv X pins σ H s) (h : SqK X.K H k a xs) (h' : SqK X.K H k a ys) : xs = ys := by
  cases k with
  | l => exact I.list_inj h h'
  | t => exact I.tuple_inj h h'
theorem seqK_lt {h : Heap} {its : Array Value} (x : SeqK h k a its) : a < h.objs.size := by
  cases k with
  | l =>
    obtain ⟨o, e, _⟩ := x
    exact Heap.lt_size e
  | t =>
    obtain ⟨o, e, _⟩ := x
    exact Heap.lt_size e
end
end HX
set_option maxRecDepth 100000
set_option maxHeartbeats 1000000
namespace HX
open PySem PySem.Spec PyProof.Rows L2
structure Bi2 (mg : Str → Option Value) : Prop where
  zip_ : mg "zip" = none
  enumerate_ : mg "enumerate" = none
  sum_ : mg "sum" = none
end HX
set_option maxRecDepth 100000
set_option maxHeartbeats 1000000
namespace HX
open PySem PySem.Spec PyProof.Rows L2
theorem enum_make {v : Value} {o : Obj} {J : Heap → Prop} (B : Begins v o J) :
    Meets (Builtin.«enumerate.__new__» ⟨[.type "enumerate", v], []⟩) (fun _ R s => J s.heap ∧ R (.ok (.ret (.ref (s.heap.push o).objs.size))) { s with heap := (s.heap.push o).push { cls := .type "enumerate", data := .fields #[.none, .bool false, .ref s.heap.objs.size, rawInt 0, .none, .none] } }) :=
  .of_wp fun prog w A R s h => by
    obtain ⟨hp, g, d, tk, os⟩ := s
    obtain ⟨hJ, h⟩ := h
    have hsub := sub_enumerate
    have goes : ∀ {A' : Around} {E : Value → Shared → Prop} {Q : Value → Shared → Prop}, Q (.ref hp.objs.size) ⟨hp.push o, g, d, tk, os⟩ → wpAny (model prog w) A' (pyIter v) Q E ⟨hp, g, d, tk, os⟩ :=
      fun q => B.iter prog w _ _ ⟨hp, g, d, tk, os⟩ _ hJ q
    wp_walk using goes
    refine wpAny_stack_any fun st => wpAny_pure ?_
    split
    · rename_i c _ _ _ _ _
      cases (c == Value.type "enumerate") <;> (wp_walk using goes; exact ⟨_, rfl, h⟩)
    · wp_walk using goes
      exact ⟨_, rfl, h⟩
theorem enum_call {prog : Program} {w : World} {A : Around} {E : Value → Shared → Prop} {s : Shared} {v : Value} {o : Obj} {J : Heap → Prop} {Q : Value → Shared → Prop} (B : Begins v o J) (hJ : J s.heap)
    (h : ∀ h', IsEnum h' (s.heap.objs.size + 1) s.heap.objs.size 0 .none → h'.get? s.heap.objs.size = some o → h'.objs.size = s.heap.objs.size + 2 → (∀ b o, s.heap.get? b = some o → h'.get? b = some o) → Q (.ref (s.heap.objs.size + 1)) { s with heap := h' }) :
    wpAny (model prog w) A (call (.type "enumerate") [v]) Q E s := by
  refine callType_new F.called_enumerate (by decide) (F.typeCall_enumerate_1 _) (F.newCall_enumerate_1 _) (fun obj => F.args_object_init_2 obj _) F.entry_enumerate_new (enum_make B) ⟨hJ, ?_⟩
  have hz : (s.heap.push o).objs.size = s.heap.objs.size + 1 := Heap.size_push ..
  show _ ∧ _
  rw [hz]
  have he : IsEnum ((s.heap.push o).push { cls := .type "enumerate", data := .fields #[.none, .bool false, .ref s.heap.objs.size, rawInt 0, .none, .none] }) (s.heap.objs.size + 1) s.heap.objs.size 0 .none := by
    have e := Heap.get?_push_size (s.heap.push o) (o := { cls := .type "enumerate", data := .fields #[.none, .bool false, .ref s.heap.objs.size, rawInt 0, .none, .none] }) rfl
    rw [hz] at e
    exact e
  exact ⟨⟨_, he, rfl⟩, h _ he (Heap.get?_push_of_some _ (Heap.get?_push_size _ B.free)) (by rw [Heap.size_push, hz]) fun b o x => Heap.get?_push_of_some _ (Heap.get?_push_of_some _ x)⟩
def IteK (K : PySem.W.Frag) (k : Ki) (a : Addr) : It :=
  ⟨fun i H => ∃ (xs : List V) (x : V), SqK K H k a xs ∧ xs[i]? = some x,
    fun i H v H' => ∃ T x, v = .ref T ∧ H T = none ∧ H' = upd H T (.tup [.int (i : Nat), x]) ∧ ∀ xs, SqK K H k a xs → xs[i]? = some x,
    fun i H => ∃ xs : List V, SqK K H k a xs ∧ i = xs.length⟩
theorem turn_enumK {P : Program} {w : World} {K : PySem.W.Frag} {elts : List Expr} {kk : Nat} {tpos : Pos} {k : Ki} {a e it : Addr} (nei : e ≠ it) (nea : e ≠ a) (na : a ≠ it) :
    Turn P w K (.Tuple elts kk tpos) (IteK K k a) [e, it] e (fun i h => (∃ old, IsEnum h e it ((0 : Int) + (i : Int)) old) ∧ ItrK h k it a i) where
  mem := by simp
  obj := fun i h st c hc => by
    obtain ⟨⟨old, he⟩, h1⟩ := st
    have e' : c = e ∨ c = it := by simpa using hc
    rcases e' with rfl | rfl
    · exact ⟨_, he, fun v q => nomatch q⟩
    · exact itrK_obj h1
  keep := fun i h h' st k => by
    obtain ⟨⟨old, he⟩, h1⟩ := st
    exact ⟨⟨old, k e (by simp) _ he⟩, itrK_at h1 fun o q => k it (by simp) o q⟩
  item := by
    intro X hP hw hK hc i pins s σ H E I hf st hg
    subst hP hw hK
    obtain ⟨he, h1⟩ := st
    obtain ⟨xs, x, hqx, hx⟩ := hg
    obtain ⟨its, rv, p⟩ := inv_seqK I hqx
    have l1 := rv.length
    have b1 := (List.getElem?_eq_some_iff.mp hx).1
    have hh : X.A.in1.handled = none := I.ok.hd hc
    have G := GoesN.enumFrom (A := X.A) (elts := elts) (x1 := kk) (pos := tpos) 0 (drawsK (prog := X.prog) (w := X.w) hh k it a na its.toArray) e nei (by simp [nei, nea]) (by simp)
    refine G.goes i s _ E (by rw [List.size_toArray]; omega) ⟨he, ⟨h1, p⟩⟩ fun v h' tk hY st' hk htk => ?_
    obtain ⟨T, t, u, rfl, hT, hu, hTup⟩ := hY
    obtain ⟨q1, q2, q3⟩ := st'
    obtain ⟨u', e1, ru⟩ := rv.get hx
    have e3 : u' = u := Option.some.inj (e1.symm.trans (by simpa using hu))
    subst e3
    have e0 : (0 : Int) + (i : Int) = ((i : Nat) : Int) := by omega
    rw [e0] at hTup
    have new : ObjOk X.prog X.w (upd H T (.tup [.int (i : Nat), x])) h' T (.tup [.int (i : Nat), x]) := ⟨by show 2 ≤ sizeLine; decide, [.int (i : Nat) t, u'], .cons ⟨_, rfl⟩ (.cons ru .nil), hTup⟩
    have I1 : Inv X pins σ (upd H T (.tup [.int (i : Nat), x])) { s with heap := h', toks := tk } := I.turnedNew (t' := tk) (ch := [e, it]) (fun c o hb q => hk c o hb q) hf hT new
    refine ⟨.ref T, _, I1, rfl, ⟨T, x, rfl, I.hok.fresh hT, rfl, fun l hl => by rw [inv_seqK_inj I hl hqx]; exact hx⟩, ⟨q1, q2⟩, fun c hcm => ?_⟩
    have hlt : c < s.heap.objs.size := by
      have e' : c = e ∨ c = it := by simpa using hcm
      obtain ⟨old, he'⟩ := he
      rcases e' with rfl | rfl
      · exact Heap.lt_size he'
      · exact Heap.lt_size (itrK_obj h1).choose_spec.1
    rw [upd_ne (Nat.ne_of_lt (Nat.lt_of_lt_of_le hlt hT))]
    exact (hf c hcm).1
  done := by
    intro X hP hw hK hc i pins s σ H E I hf st hg
    subst hP hw hK
    obtain ⟨he, h1⟩ := st
    obtain ⟨xs, hqx, hend⟩ := hg
    obtain ⟨its, rv, p⟩ := inv_seqK I hqx
    have l1 := rv.length
    have hh : X.A.in1.handled = none := I.ok.hd hc
    have G := GoesN.enumFrom (A := X.A) (elts := elts) (x1 := kk) (pos := tpos) 0 (drawsK (prog := X.prog) (w := X.w) hh k it a na its.toArray) e nei (by simp [nei, nea]) (by simp)
    have ei : i = its.toArray.size := by rw [List.size_toArray]; omega
    subst ei
    exact G.stops s _ E ⟨he, ⟨h1, p⟩⟩ fun h' tk hk htk => I.turnedL (t' := tk) (ch := [e, it]) (fun c o hb q => hk c o hb q) hf
  self := fun A i s Q E st h => let ⟨⟨_, he⟩, _⟩ := st; wpAny_pyIter_enum he h
def iEnumK (K : PySem.W.Frag) (ta : TA) : TI := fun σ H R => ta σ H fun vs H1 => ∃ k a xs, vs = [.ref a] ∧ SqK K H1 k a xs ∧ R (IteK K k a) H1
theorem pi_enumT {X : Cx} {e : Expr} {ta : TA} {p pos tpos : Pos} {elts : List Expr} {kk : Nat} (hg : Gl X "enumerate") (hm : X.mg "enumerate" = none) (ha : PA X [e] ta) (hs : starEach [e] X.env = [(false, eval e X.env)] := by rfl) :
    PI X (.Tuple elts kk tpos) (.Call (.Name "enumerate" p) [e] [] pos) (iEnumK X.K ta) := by
  refine ⟨fun pins s σ H R I h => ?_⟩
  refine Call_ (ld_blt I hg hm boot_enumerate (PyProof.Rows.callWith_type1 (thn (ha.run pos pins s σ H _ I h) fun us s1 ⟨vs, H1, I1, r1, q1⟩ => ?_) hs rfl))
  obtain ⟨k, a, xs, rfl, hqx, q⟩ := q1
  obtain ⟨u1, rfl, r⟩ := vals1 r1
  cases r
  obtain ⟨its, rv, p1⟩ := inv_seqK I1 hqx
  have la := seqK_lt p1
  refine enum_call (beginsK k a its.toArray) p1 fun h' he g1 hsz hk => wpAny_pyIter_enum he ?_
  have I2 : Inv X pins σ H1 { s1 with heap := h' } := I1.kept (t' := s1.toks) hk
  refine ⟨s1.heap.objs.size + 1, [s1.heap.objs.size + 1, s1.heap.objs.size], _, _, H1, rfl, I2, turn_enumK (Nat.succ_ne_self _) (Nat.ne_of_gt (Nat.lt_succ_of_lt la)) (Nat.ne_of_lt la), ⟨⟨.none, he⟩, itrK_of g1⟩, fun c hcm => ?_, q⟩
  have hle : s1.heap.objs.size ≤ c := by
    have e' : c = s1.heap.objs.size + 1 ∨ c = s1.heap.objs.size := by simpa using hcm
    rcases e' with e' | e' <;> rw [e'] <;> first | exact Nat.le_refl _ | exact Nat.le_add_right _ _
  exact I1.fpOk hle (I1.hok.fresh hle)
end HX
set_option maxRecDepth 100000
set_option maxHeartbeats 1000000
namespace HX
open PySem PySem.Spec PyProof.Rows L2
end HX
set_option maxRecDepth 100000
set_option maxHeartbeats 1000000
namespace HX
open PySem PySem.Spec PyProof.Rows L2
end HX
set_option maxRecDepth 100000
set_option maxHeartbeats 1000000
namespace HX
open PySem PySem.Spec PyProof.Rows L2
theorem hu64 {A : Around} {k : Nat} (hr : Room k A) : A.units + 64 < cLine := by
  have := hu150 hr
  omega
theorem call_tuple_frz {X : Cx} : CallR X (.type "tuple") (fun xs H Q => ∃ p ys, xs = [.ref p] ∧ SqL X.K H p ys ∧ ∀ l o, H l = none → o.dict = none → Q (.ref l) (upd H l (.frz o (.tup ys)))) := by
  intro pins s σ H xs us Q I r h
  obtain ⟨p, ys, rfl, hq, q⟩ := h
  obtain ⟨u, rfl, rx⟩ := vals1 r
  cases rx
  obtain ⟨its, r', pl, hz⟩ := I.list hq
  have hlen := r'.length
  refine call_tuple_list pl.isList (fun h' kp => ?_) (by simp only [List.size_toArray] <;> omega)
  have I1 : Inv X pins σ H { s with heap := h' } := I.kept (t' := s.toks) kp
  have I2 : Inv X pins σ (upd H h'.objs.size (.frz { cls := .type "tuple", data := .seq its.toArray } (.tup ys))) { s with heap := h'.push { cls := .type "tuple", data := .seq its.toArray } } :=
    I1.laid (t' := s.toks) (fun b o e => Heap.get?_push_of_some _ e) (Nat.le_refl _) (show ObjOk X.prog X.w _ _ _ (.frz _ (.tup ys)) from ⟨Heap.get?_push_size _ rfl, hz, its, r', IsTup.new _ _⟩)
  exact ⟨.ref h'.objs.size, _, I2, rfl, q _ _ (I1.hok.fresh (Nat.le_refl _)) rfl⟩
end HX
set_option maxRecDepth 100000
set_option maxHeartbeats 1000000
namespace HX
open PySem PySem.Spec PyProof.Rows L2
end HX
set_option maxRecDepth 100000
set_option maxHeartbeats 1000000
namespace HX
open PySem PySem.Spec PyProof.Rows L2
end HX
set_option maxRecDepth 100000
set_option maxHeartbeats 3200000
namespace HX
open PySem PySem.Spec PyProof.Rows L2
section
variable {P : Program} {w : World} {A : Around} {E : Value → Shared → Prop} {s : Shared}
end
section
variable {X : Cx}
end
end HX
set_option maxRecDepth 100000
set_option maxHeartbeats 2000000
namespace HX
open PySem PySem.Spec PyProof.Rows L2 L2H
def CalX (P : Program) (w : World) (K : PySem.W.Frag) (mg : Str → Option Value) (base : Heap) (k : Nat) (x : Str) (ps : List Str) (sp : Sp) : Prop :=
  ∃ (f : Addr) (fd : FuncData), FnOk P w K mg base (L2.CX P w) k f fd ps sp ∧ mg x = some (.ref f) ∧ PySem.W.keepIn K (.ref f) = true ∧ Binds K fd ps []
section
variable {P : Program} {w : World} {K : PySem.W.Frag} {mg : Str → Option Value} {base : Heap} {j k : Nat} {x : Str} {ps : List Str} {sp : Sp}
theorem CalX.mono (c : CalX P w K mg base j x ps sp) (h : j ≤ k) : CalX P w K mg base k x ps sp := by
  obtain ⟨f, fd, F, a, b, d⟩ := c
  exact ⟨f, fd, F.mono h, a, b, d⟩
theorem Def.okX {st : Stmt} {N : List Str} (D : Def K mg x st ps) (S : FnScope N ps (defScope st)) (len : ∀ vs H Q E, sp vs H Q E → vs.length = ps.length)
    (hbody : ∀ (f : Addr) (cdv : Value) (A : Around) (outer : List Env) (s : Shared) (H : Hp) (vs : List V) (Q : VK) (E : XK), Room k (A.deeper (envOfC x (defScope st) s.heap.objs.size f cdv)) → sp vs H Q E →
      Takes (cxOf (L2.CX P w) P w K mg base N x (defScope st) f cdv A outer s H E) (fun cls d _ H => E cls d H) →
      ∃ t, PSs (cxOf (L2.CX P w) P w K mg base N x (defScope st) f cdv A outer s H E) (defBody st) t ∧ t { nx := fun _ H' => Q .non H', rt := Q } (start N vs) H) : CalX P w K mg base (k + 1) x ps sp := by
  obtain ⟨f, fd, F, hm, hb⟩ := D
  exact ⟨f, fd, Fun.okX F S len fun cdv A outer s H vs Q E hr h => hbody f cdv A outer s H vs Q E hr h (takes_of rfl rfl rfl rfl), hm, F.kp, hb⟩
end
section
variable {X : Cx} {k : Nat} {x : Str} {ps : List Str} {sp : Sp} {p pos : Pos} {e : Expr} {es : List Expr} {t : TA} {W : WX}
theorem pe_calX (tk : Takes X W) (c : CalX X.prog X.w X.K X.mg X.base k x ps sp) (hr : Room k X.A) (hg : Gl X x) (ha : PA X (e :: es) t) (hdb : (x == ("__debug__" : Str)) = false := by decide) (he : starEach (e :: es) X.env = (false, eval e X.env) :: starEach es X.env := by rfl)
    (hpl : (backTo pos (starEach es X.env)).any (·.1) = false := by rfl) : PE X (.Call (.Name x p) (e :: es) [] pos) (tCallS sp (WE W) t) := by
  obtain ⟨f, fd, F, hm, hk, hb⟩ := c
  exact pe_callS F hr hg hm hk hb (passAt tk) ha hdb he hpl
theorem pe_never {e : Expr} : PE X e (fun _ _ _ => False) := ⟨fun _ _ _ _ _ _ h => h.elim⟩
end
section
variable {X : Cx} {C : Addr}
theorem call_isP {a D : Addr} {oe : Obj} (hp : (a, oe) ∈ X.pn) (C : ExcC X.K D) (hz : Zc (.ref D) none oe) (hf : ∃ vs, oe.data = .fields vs) : CallR X (.builtin "isinstance") (rIsE X.K D a) := by
  intro pins s σ H xs us Q I r h
  obtain ⟨c, cv, b, rfl, hcv, e, q⟩ := h
  obtain ⟨u1, u2, rfl, r1, r2⟩ := r.two
  obtain rfl := hcv _ r2
  cases r1
  obtain ⟨hget, _⟩ := I.pin (a, oe) (List.mem_append_left _ hp)
  obtain ⟨vs, hv⟩ := hf
  have J : PySem.W.InstAt s.heap a oe D none := by
    obtain ⟨_, _, _, _⟩ := oe
    obtain ⟨h1, h2⟩ := hz
    dsimp only at h1 h2 hv
    subst h1 h2 hv
    exact ⟨hget, rfl, rfl, trivial⟩
  exact PySem.W.kia_one (PySem.W.handS_kitx_exc C.hg C.hk C.hs C.hd C.ha C.hn C.ht C.hm) I.kIn J e (fun z => nomatch z) fun tk => ⟨.bl b, H, I.kept (t' := tk) fun _ _ z => z, rfl, q⟩
def rCntF (K : PySem.W.Frag) : V → List V → Hp → VK → Prop := fun x xs H Q => ∃ (a : Addr) (ys : List V) (y : V), x = V.ref a ∧ xs = [y] ∧ SqL K H a ys ∧ flatV y = true ∧ ys.all flatV = true ∧ Q (.int ((ys.countP fun z => eqV z y : Nat) : Int)) H
theorem countP_flat {y : V} : ∀ {ys : List V} {us : List Value}, Vals ys us → ys.all flatV = true → us.countP (eqU y) = ys.countP fun z => eqV z y
  | _, _, .nil, _ => rfl
  | z :: ys, u :: us, .cons r t, f => by
    rw [List.all_cons, Bool.and_eq_true] at f
    rw [List.countP_cons, List.countP_cons, countP_flat t f.2, eqU_of r f.1]
theorem mt_countF : MtR X "list.count" (rCntF X.K) := by
  intro pins s σ H x xs v us Q I rx rxs h
  obtain ⟨a, ys, y, rfl, rfl, hs, fy, fys, q⟩ := h
  cases rx
  obtain ⟨u, rfl, ru⟩ := rxs.one
  obtain ⟨its, rv, ⟨⟨cls, dd, data, sl⟩, n, ho, hc, _, hd⟩, hlen⟩ := I.list hs
  simp only at hc hd
  subst hc hd
  refine call_meets PySem.F.slot_list_count ⟨_, ho, rfl⟩ PySem.F.entry_list_count (PySem.F.args_list_count_2 _ _) (SeqAt.list_countAt a its.toArray n dd sl u (eqU y)) ⟨ho, fun z hz => mem_eqAt ru fy rv fys z (by simpa using hz), ?_⟩
  refine ⟨.int ((ys.countP fun z => eqV z y : Nat) : Int), H, I.tok _, ⟨s.toks, ?_⟩, q⟩
  show Value.int ((its.toArray.toList.countP (eqU y) : Nat) : Int) s.toks = _
  rw [show its.toArray.toList = its from rfl, countP_flat rv fys]
end
structure FnE (P : Program) (w : World) (K : PySem.W.Frag) (mg : Str → Option Value) (base : Heap) (k : Nat) (f : Addr) (fd : FuncData) (a : Str) (sp : Addr → Value → Option Addr → Hp → VK → Prop) : Prop where
  run : ∀ (A : Around) (outer : List Env) (s : Shared) (H : Hp) (p : Addr × Obj) (cls : Value) (d : Option Addr) (Q : VK), RoomH k A → PinOk outer H s p → Zc cls d p.2 → (∃ vs, p.2.data = .fields vs) → Env0 P w K mg base A outer s H → BindsTo s fd ⟨[.ref p.1], []⟩ [(a, .ref p.1)] → sp p.1 cls d H Q →
    codeAny (model P w) A (.call (.ref f) ⟨[.ref p.1], []⟩) (CR CX0 outer P w H s Q E0) s
def CalE (P : Program) (w : World) (K : PySem.W.Frag) (mg : Str → Option Value) (base : Heap) (k : Nat) (x a : Str) (sp : Addr → Value → Option Addr → Hp → VK → Prop) : Prop :=
  ∃ (f : Addr) (fd : FuncData), FnE P w K mg base k f fd a sp ∧ mg x = some (.ref f) ∧ PySem.W.keepIn K (.ref f) = true ∧ Binds K fd [a] []
section
variable {P : Program} {w : World} {K : PySem.W.Frag} {mg : Str → Option Value} {base : Heap} {k : Nat} {x a : Str} {sp : Addr → Value → Option Addr → Hp → VK → Prop}
theorem CalE.mono {j : Nat} (c : CalE P w K mg base j x a sp) (h : j ≤ k) : CalE P w K mg base k x a sp := by
  obtain ⟨f, fd, F, b1, b2, b3⟩ := c
  exact ⟨f, fd, ⟨fun A outer s H p cls d Q hr => F.run A outer s H p cls d Q (hr.mono h)⟩, b1, b2, b3⟩
theorem Def.okE {st : Stmt} {N : List Str} (D : Def K mg x st [a]) (S : FnScope N [a] (defScope st))
    (hbody : ∀ (f : Addr) (cdv : Value) (A : Around) (outer : List Env) (s : Shared) (H : Hp) (p : Addr × Obj) (cls : Value) (d : Option Addr) (Q : VK), Zc cls d p.2 → (∃ vs, p.2.data = .fields vs) → RoomH k (A.deeper (envOfC x (defScope st) s.heap.objs.size f cdv)) → sp p.1 cls d H Q →
      ∃ t, PSs (cxH CX0 P w K mg base N x (defScope st) f cdv A outer s H E0 p) (defBody st) t ∧ t { nx := fun _ H' => Q .non H', rt := Q } (start N [.ref p.1]) H) : CalE P w K mg base (k + 1) x a sp := by
  obtain ⟨f, fd, F, hm, hb⟩ := D
  obtain ⟨oc, od, kV, doc, pm, an, cdv, ct, osl, rfl, lk, hcd⟩ := F.ex
  refine ⟨f, _, ⟨fun A outer s H p cls d Q hr hpin hz hf e0 hbn hsp => ?_⟩, hm, F.kp, hb⟩
  have KX : K.In s.heap := e0.mod.kin.keeps fun b o e => (e0.bs b o e).1
  have lim : s.heap.NoLimit := e0.mod.nolimit.keeps fun b o e => (e0.bs b o e).1
  have hkind : ∀ y ∈ [a].zip [Value.ref p.1], (defScope st).names.lookup y.1 = some .local ∨ ((defScope st).names.lookup y.1 = some .cell ∧ ((cellsFrom (s.heap.objs.size + 1) (defScope st).names []).lookup y.1).isSome = true) := by
    rintro ⟨n, v⟩ hy
    rcases S.par n (List.of_mem_zip hy).1 with z | z
    · exact .inl z
    · exact .inr ⟨z, PySem.W.cellsFrom_some _ _ _ (.inl z)⟩
  refine codeAny_call_function hr.depth (KX _ _ lk) rfl S.co S.gen rfl (PySem.W.codeRec_of KX hcd) (hbn _ _ _ _ ?_)
  refine wpAny_newFunctionEnv_cells S.kind hkind fun env he s1 xx => ?_
  subst he
  refine ⟨lim.keeps xx.toInCall.keep, codeAny_func ?_⟩
  obtain ⟨t, ht, hq⟩ := hbody f cdv A outer s H p cls d Q hz hf (hr.deeper _) hsp
  have I : Inv (cxH CX0 P w K mg base N x (defScope st) f cdv A outer s H E0 p) [] (start N [.ref p.1]) H s1 := inv_startH (vs := [.ref p.1]) (us := [.ref p.1]) S hpin e0 rfl (.cons rfl .nil) xx
  refine wpAny_mono (ht.run [] s1 _ H _ I hq) (fun fl s' hs => ?_) fun e s' hs => hs
  cases fl with
  | ret u =>
    obtain ⟨v, σ', H', J, rv, q⟩ := hs
    exact ⟨v, H', J.os, J.bare, J.base, J.hok, rv, q⟩
  | next =>
    obtain ⟨σ', H', J, q⟩ := hs
    exact ⟨V.non, H', J.os, J.bare, J.base, J.hok, rfl, q⟩
  | brk =>
    obtain ⟨_, _, _, q⟩ := hs
    exact False.elim q
  | cont =>
    obtain ⟨_, _, _, q⟩ := hs
    exact False.elim q
theorem pe_calE {X : Cx} {ea : Addr} {oe : Obj} {cls : Value} {d : Option Addr} {pn : List (Addr × Obj)} {e : Expr} {te : TE} {q pos : Pos} (c : CalE X.prog X.w X.K X.mg X.base k x a sp) (hr : RoomH k X.A) (hz : Zc cls d oe) (hf : ∃ vs, oe.data = .fields vs) (hg : Gl X x) (he : PE (X.suite ea ((ea, oe) :: pn)) e te) (hdb : (x == ("__debug__" : Str)) = false := by decide)
    (hst : starEach [e] X.env = (false, eval e X.env) :: starEach [] X.env := by rfl) : PE (X.suite ea ((ea, oe) :: pn)) (.Call (.Name x q) [e] [] pos) (fun σ H Q => te σ H fun v H1 => [v] = [.ref ea] ∧ sp ea cls d H1 Q) := by
  obtain ⟨f, fd, F, hm, hk, hb⟩ := c
  refine ⟨fun pins s σ H Q I h => ?_⟩
  refine wpAny_Call_Name_kw (ld_glob (X := X.suite ea ((ea, oe) :: pn)) I hg hm ?_ hdb)
  have ha : PA (X.suite ea ((ea, oe) :: pn)) [e] (tCons te tNil) := pa_cons he pa_nil hst
  refine PySem.W.callWith_K (h₀ := X.base) I.ok.mod.kin hk (thn (ha.run pos pins s σ H (fun vs H1 => vs = [.ref ea] ∧ sp ea cls d H1 Q) I h) fun us s1 ⟨vs, H1, I1, r, q⟩ => ⟨I1.kIn, ?_⟩) hst rfl
  · obtain ⟨rfl, q⟩ := q
    obtain ⟨u, rfl, ru⟩ := r.one
    cases ru
    have P1 := I1.pin (ea, oe) (List.mem_append_left _ List.mem_cons_self)
    have hpin : PinOk X.stack H1 s1 (ea, oe) := ⟨P1.1, P1.2.1, fun hm => (List.mem_cons.mp (I1.stkSub ea hm)).elim P1.2.2.1 P1.2.2.2.1, P1.2.2.2.2⟩
    have b := hb s1 [.ref ea] I1.kIn rfl
    refine wpAny_call (codeAny_mono (F.run (X.A.mark (some (.ref ea))) X.stack s1 H1 (ea, oe) cls d Q ⟨hr.dp, hr.un⟩ hpin hz hf I1.env0 b q) fun r s' hq => ?_)
    cases r with
    | error e => exact False.elim hq
    | ok fl =>
      cases fl with
      | ret u => exact I1.after hq
      | next => exact False.elim hq
      | brk => exact False.elim hq
      | cont => exact False.elim hq
end
end HX
set_option maxRecDepth 100000
set_option maxHeartbeats 2000000
namespace HX
open PySem PySem.Spec PyProof.Rows L2 L2H LamX
theorem takes_len {X : Cx} {W : WX} (tk : Takes X W) : Takes X (fun cls d σ H => σ.length = X.N.length → W cls d σ H) := fun u s' ⟨a, B, sI, pins, σ, H, cls, d, e, I, nb, up, sky, na, os, ag, w⟩ =>
  tk u s' ⟨a, B, sI, pins, σ, H, cls, d, e, I, nb, up, sky, na, os, ag, w I.len⟩
theorem law_callTG {P : Program} {w : World} {K : PySem.W.Frag} {mg mb : Str → Option Value} {k : Nat} {fa a : Addr} {cs : List (Addr × Addr)} {fd : FuncData} {x : Str} {sp : Sp} {s1 : Shared} {vs : List Value} {ns : List Int}
    (KX : K.In s1.heap) (hns : s1.heap.Ns mainGlobals mg) (hb : s1.heap.Ns builtinsNs mb) (hbb : ∀ x : Str, x ≠ "__name__" → mb x = bootBuiltins x) (hlim : s1.heap.NoLimit) (hsys : ∃ mm, s1.heap.Ns sysModules mm) (hg : s1.gens = #[])
    (hT : ∀ p ∈ cs, s1.heap.get? p.2 = some { cls := .none, data := .fields #[] }) (nT : ∀ p ∈ cs, K.lookup p.2 = none) (hC : ∀ p ∈ cs, PySem.W.CodeHd s1.heap p.1 p.2)
    (hbm : ∃ (bm : Addr) (ob : Obj), mg "__builtins__" = some (.ref bm) ∧ bm ≠ builtinsNs ∧ s1.heap.get? bm = some ob ∧ ob.cls = .type "module" ∧ ob.dict = some builtinsNs ∧ ob.data = .plain)
    (ha : s1.heap.get? a = some { cls := .type "list", data := .seq vs.toArray }) (hi : IntsAre vs ns) (hl : ns.length ≤ sizeLine) (hr : Room k callerA)
    (F : ∀ base : Heap, K.In base → base.Ns mainGlobals mg → (∀ p ∈ cs, TabB base mg p.1 p.2) → FnG P w K mg base k fa fd [x] sp) (hbind : ∀ (s : Shared) (u : Value), K.In s.heap → BindsTo s fd ⟨[u], []⟩ [(x, u)])
    (hsp : ∀ H : Hp, (∀ p ∈ cs, H p.2 = some (.tbl #[])) → SqL K H a (ns.map V.int) → sp [.ref a] H (fun v _ => v = .bl true) fun _ _ _ => False) :
    codeAny (model P w) callerA (.call (.ref fa) ⟨[.ref a], []⟩) (fun r s' => r = .ok (.ret (.bool true)) ∧ OldK s1.heap s'.heap ∧ s'.os = s1.os ∧ AllBare s'.gens) s1 := by
  have rv := vals_ints hi
  have lenV := hi.length
  let tab : Addr → Prop := fun b => b ∈ cs.map (·.2)
  have tabAt : ∀ {b : Addr}, tab b → s1.heap.get? b = some { cls := .none, data := .fields #[] } := by
    intro b hb
    obtain ⟨p, hp, rfl⟩ := List.mem_map.mp hb
    exact hT p hp
  have aNo : ¬ tab a := fun z => by
    have e := tabAt z
    rw [ha] at e
    cases e
  have tabOf : ∀ {p}, p ∈ cs → tab p.2 := fun {p} hp => List.mem_map.mpr ⟨p, hp, rfl⟩
  have main : ∀ H : Hp, (∀ p ∈ cs, H p.2 = some (.tbl #[])) → (∀ b, ¬ tab b → H b = none ∨ ∃ o xs, H b = some (.frz o (.lst xs))) → SqL K H a (ns.map V.int) → HOk P w H s1.heap → (∀ b, H b ≠ none → b = a ∨ tab b) → (H a ≠ none → K.lookup a = none) →
      codeAny (model P w) callerA (.call (.ref fa) ⟨[.ref a], []⟩) (fun r s' => r = .ok (.ret (.bool true)) ∧ OldK s1.heap s'.heap ∧ s'.os = s1.os ∧ AllBare s'.gens) s1 := by
    intro H hH hO hS hok hA hK
    have out : ∀ {b : Addr} {o : Obj}, s1.heap.get? b = some o → (∀ vs n, o.data ≠ .seq vs n) → o.data ≠ .fields #[] → H b = none := by
      intro b o e n1 n2
      cases q : H b with
      | none => rfl
      | some u =>
        exfalso
        rcases hA b (by rw [q]; exact fun z => nomatch z) with z | z
        · rw [z, ha] at e
          cases e
          exact n1 _ _ rfl
        · rw [tabAt z] at e
          cases e
          exact n2 rfl
    have at_dict : ∀ {b : Addr} {o : Obj} {es : Array DictEntry} {ep : Nat}, s1.heap.get? b = some o → o.data = .dict es ep → H b = none := fun {b o es ep} e d => out e (fun _ _ z => by rw [d] at z; cases z) fun z => by rw [d] at z; cases z
    have keepNs : ∀ {b : Addr} {m : Str → Option Value}, s1.heap.Ns b m → (hidT s1.heap H).Ns b m := by
      rintro b m ⟨o, es, ep, e, d, r⟩
      exact ⟨o, es, ep, hidT_get e (at_dict e d), d, r⟩
    have hKb : K.In (hidT s1.heap H) := by
      intro b o e
      refine hidT_get (KX b o e) ?_
      cases q : H b with
      | none => rfl
      | some u =>
        exfalso
        have hn : H b ≠ none := by rw [q]; exact fun z => nomatch z
        rcases hA b hn with z | z
        · subst z
          rw [hK hn] at e
          cases e
        · obtain ⟨p, hp, rfl⟩ := List.mem_map.mp z
          rw [nT p hp] at e
          cases e
    have e0 : Env0 P w K mg (hidT s1.heap H) callerA [] s1 H := by
      refine ⟨rfl, ⟨hKb, keepNs hns, ⟨mb, keepNs hb, hbb⟩, ?_⟩, fun b o e => of_hidT e, Nat.le_of_eq (hidT_size _ _), trivial, fun b hb => ?_, hok, .of_eq hg⟩
      · obtain ⟨mc, h1, h2⟩ := hlim
        exact ⟨mc, keepNs h1, h2⟩
      · exact absurd (show b ∈ ([] : List Addr) from hb) (by simp)
    have en : Ent callerA s1 H := by
      obtain ⟨mm, o, es, ep, e, d, _⟩ := hsys
      exact ⟨rfl, ⟨o, e⟩, at_dict e d⟩
    have tb : ∀ p ∈ cs, TabB (hidT s1.heap H) mg p.1 p.2 := by
      intro p hp
      refine ⟨?_, ?_, fun z => ?_⟩
      · obtain ⟨o, us, file, tf, flags, tg, inF, text, tt, e1, r1, r2, r3, rest⟩ := hC p hp
        refine ⟨o, us, file, tf, flags, tg, inF, text, tt, hidT_get e1 (out e1 (fun _ _ z => by rw [r2] at z; cases z) fun z => ?_), r1, r2, r3, rest⟩
        rw [r2] at z
        cases z
        simp at r3
      · obtain ⟨bm, ob, b1, b2, b3, b4, b5, b6⟩ := hbm
        refine ⟨bm, ob, b1, b2, fun z => ?_, fun z => ?_, hidT_get b3 (out b3 (fun _ _ z => by rw [b6] at z; cases z) fun z => by rw [b6] at z; cases z), b4, b5, b6⟩
        · obtain ⟨o, es, ep, e, d, _⟩ := hns
          rw [z, e] at b3
          cases b3
          rw [d] at b6
          cases b6
        · rw [z, hT p hp] at b3
          cases b3
          cases b6
      · obtain ⟨o, es, ep, e, d, _⟩ := hns
        rw [z, hT p hp] at e
        cases e
        cases d
    refine codeAny_mono ((F _ hKb (keepNs hns) tb).run callerA [] s1 H ⟨[.ref a], []⟩ [.ref a] [.ref a] _ _ en hr e0 (hbind s1 (.ref a) KX) (.cons rfl .nil) (hsp H hH hS)) fun r s' h => ?_
    cases r with
    | error e => exact False.elim h
    | ok fl =>
      cases fl with
      | next => exact False.elim h
      | brk => exact False.elim h
      | cont => exact False.elim h
      | ret u =>
        obtain ⟨v, H', os, bare, un, hok', r', q⟩ := h
        obtain rfl : v = .bl true := q
        obtain rfl : u = Value.bool true := r'
        have stays : ∀ b o, ¬ tab b → s1.heap.get? b = some o → s'.heap.get? b = some o := by
          intro b o nb e
          rcases hO b nb with z | ⟨ob, xs, z⟩
          · exact un.keep b o e z (fun m => absurd (show b ∈ ([] : List Addr) from m) (by simp)) (by simp)
          · have e1 := (hok b _ z).1
            have e2 := (hok' b _ (un.frzs b ob _ z)).1
            rw [e] at e1
            cases e1
            exact e2
        have grows : ∀ p ∈ cs, ∃ more : Array Value, s'.heap.get? p.2 = some { cls := .none, data := .fields more } := by
          intro p hp
          obtain ⟨more, z⟩ := un.tbls p.2 #[] (hH p hp)
          exact ⟨_, hok' p.2 _ z⟩
        refine ⟨rfl, ⟨fun b o e => ?_, fun b o e => ?_⟩, os, bare⟩
        · by_cases hb : tab b
          · obtain ⟨p, hp, rfl⟩ := List.mem_map.mp hb
            obtain ⟨more, hm⟩ := grows p hp
            have e' := e
            rw [hT p hp] at e'
            cases e'
            exact .inr (.inl ⟨((hC p hp).tab (hT p hp)).isCodeTable, rfl, #[], more, rfl, by rw [Array.empty_append]; exact hm⟩)
          · exact .inl (stays b o hb e)
        · by_cases hb : tab b
          · obtain ⟨p, hp, rfl⟩ := List.mem_map.mp hb
            obtain ⟨more, hm⟩ := grows p hp
            exact ⟨_, hm⟩
          · exact ⟨o, stays b o hb e⟩
  cases hk : K.lookup a with
  | some o =>
    have e := KX a o hk
    rw [ha] at e
    cases e
    let Hs : Hp := fun b => if b ∈ cs.map (·.2) then some (.tbl #[]) else none
    have in_ : ∀ b, tab b → Hs b = some (.tbl #[]) := fun b hb => if_pos hb
    have out_ : ∀ b, ¬ tab b → Hs b = none := fun b hb => if_neg hb
    refine main Hs (fun p hp => in_ _ (tabOf hp)) (fun b nb => .inl (out_ b nb)) (.inr ⟨_, vs.toArray, _, hk, rfl, rfl, rfl, ?_, ?_⟩) (fun b u z => ?_) (fun b z => ?_) fun z => absurd (out_ a aNo) z
    · rw [List.size_toArray, lenV]
      exact hl
    · simpa using rv
    · by_cases hb : tab b
      · rw [in_ b hb] at z
        cases z
        exact tabAt hb
      · rw [out_ b hb] at z
        cases z
    · by_cases hb : tab b
      · exact .inr hb
      · exact absurd (out_ b hb) z
  | none =>
    let Hs : Hp := fun b => if b = a then some (.frz { cls := .type "list", data := .seq vs.toArray } (.lst (ns.map V.int))) else if b ∈ cs.map (·.2) then some (.tbl #[]) else none
    have at_a : Hs a = some (.frz { cls := .type "list", data := .seq vs.toArray } (.lst (ns.map V.int))) := if_pos rfl
    have in_ : ∀ b, tab b → Hs b = some (.tbl #[]) := fun b hb => (if_neg (fun z : b = a => aNo (z ▸ hb))).trans (if_pos hb)
    have out_ : ∀ b, b ≠ a → ¬ tab b → Hs b = none := fun b h1 h2 => (if_neg h1).trans (if_neg h2)
    refine main Hs (fun p hp => in_ _ (tabOf hp)) (fun b nb => ?_) (.inl (.inr ⟨_, at_a⟩)) (fun b u z => ?_) (fun b z => ?_) fun _ => hk
    · by_cases hb : b = a
      · rw [hb]
        exact .inr ⟨_, _, at_a⟩
      · exact .inl (out_ b hb nb)
    · by_cases hb : b = a
      · rw [hb, at_a] at z
        cases z
        rw [hb]
        exact ⟨ha, by rw [List.length_map]; exact hl, vs, _, rv, ha⟩
      · by_cases hb2 : tab b
        · rw [in_ b hb2] at z
          cases z
          exact tabAt hb2
        · rw [out_ b hb hb2] at z
          cases z
    · by_cases hb : b = a
      · exact .inl hb
      · by_cases hb2 : tab b
        · exact .inr hb2
        · exact absurd (out_ b hb hb2) z
def LawTG (l : PySem.W.OpenLaw) (w : World) (K : PySem.W.Frag) (k n : Nat) (x : Str) (mg : Str → Option Value) (fa : Addr) (h : Heap) : Prop :=
  ∃ (fd : FuncData) (cs : List (Addr × Addr)) (sp : Sp), (∀ p ∈ cs, h.get? p.2 = some { cls := .none, data := .fields #[] }) ∧ (∀ p ∈ cs, K.lookup p.2 = none) ∧ (∀ p ∈ cs, PySem.W.CodeHd h p.1 p.2) ∧ (∀ (s : Shared) (u : Value), K.In s.heap → BindsTo s fd ⟨[u], []⟩ [(x, u)]) ∧
    (∀ (H : Hp) (a : Addr) (ns : List Int), ns.length ≤ n → (∀ p ∈ cs, H p.2 = some (.tbl #[])) → SqL K H a (ns.map V.int) → sp [.ref a] H (fun v _ => v = .bl true) fun _ _ _ => False) ∧
    ∀ base : Heap, K.In base → base.Ns mainGlobals mg → (∀ p ∈ cs, TabB base mg p.1 p.2) → FnG l.prog w K mg base k fa fd [x] sp
theorem walk_ofTG {l : PySem.W.OpenLaw} {n k : Nat} {q : Program} {loose : List Str} {XP : (Str → Option Value) → Heap → Prop} {YP : World → Heap → Prop} {d : DefRec} {K : Params → PySem.W.Frag} {x : Str}
    (hn : l.most = some n) (hn2 : n ≤ sizeLine) (hdf : d.params.defaults = []) (hr : Room k callerA) (hi : importsNone q = true) (hY : ∀ (w : World) (h : Heap), YP w h → (K w.params).In h)
    (F : ∀ (w : World) (mg : Str → Option Value) (fa : Addr) (h : Heap), (K w.params).In h → h.Ns mainGlobals mg → mg d.name = some (.ref fa) →
      (∀ (y : Str) (e : DefRec) (c T : Addr), (recsOf q).find? (fun e => e.name == y) = some e → PySem.W.tabIn (K w.params) y = some (c, T) → PySem.W.CodeHd h c T ∧ h.get? T = some { cls := .none, data := .fields #[] }) → LawTG l w (K w.params) k n x mg fa h) :
    PySem.W.WalkO q loose XP YP l.row.toRowW d [] (fun f vs => PySem.call f vs) := by
  refine Att.attach_callB hn hdf fun w s0 s1 mg mb fa o pm cd doc a vs ns G Y ho hd hcd hmg hobj hints hlen hbits hg => ?_
  have KX := hY w _ Y
  obtain ⟨fd, cs, sp, hT, nT, hC, hb, hsp, hF⟩ := F w mg fa _ KX G.T.g hmg fun y e c T h1 h2 => PySem.W.tab_of G.T KX h1 h2
  obtain ⟨mm, hm, _⟩ := (G.T.seer hi).mods
  exact law_callTG KX G.T.g G.T.b G.T.builtins G.T.nolimit ⟨mm, hm⟩ hg hT nT hC G.T.bmain hobj hints (Nat.le_trans hlen hn2) hr hF hb fun H hH hS => hsp H a ns hlen hH hS
section
variable {P : Program} {w : World} {K : PySem.W.Frag} {mg : Str → Option Value} {base : Heap}
theorem Fun.okGC {x qual : Str} {st : Stmt} {f c : Addr} {fd : FuncData} {N ps : List Str} {k : Nat} {sp : Sp} (F : Fun K x qual st f fd) (hc : fd.code = .ref c) (S : FnScope N ps (defScope st)) (len : ∀ vs H Q E, sp vs H Q E → vs.length = ps.length)
    (hbody : ∀ (A : Around) (outer : List Env) (s : Shared) (H : Hp) (vs : List V) (Q : VK) (E : XK), Ent A s H → Room k (A.deeper (envOfC qual (defScope st) s.heap.objs.size f (.ref c))) → sp vs H Q E →
      ∃ t, PSs (cxOf CX0 P w K mg base N qual (defScope st) f (.ref c) A outer s H E).nox (defBody st) t ∧ t { nx := fun _ H' => Q .non H', rt := Q } (start N vs) H) : FnG P w K mg base (k + 1) f fd ps sp := by
  obtain ⟨oc, od, kV, doc, pm, an, cdv, ct, osl, rfl, lk, hcd⟩ := F.ex
  obtain rfl : cdv = .ref c := hc
  refine ⟨len, fun A outer s H args us vs Q E en hr e0 hb r hsp => ?_⟩
  have hl := len _ _ _ _ hsp
  have KX : K.In s.heap := e0.mod.kin.keeps fun b o e => (e0.bs b o e).1
  have lim : s.heap.NoLimit := e0.mod.nolimit.keeps fun b o e => (e0.bs b o e).1
  have hkind : ∀ y ∈ ps.zip us, (defScope st).names.lookup y.1 = some .local ∨ ((defScope st).names.lookup y.1 = some .cell ∧ ((cellsFrom (s.heap.objs.size + 1) (defScope st).names []).lookup y.1).isSome = true) := by
    rintro ⟨n, v⟩ hy
    rcases S.par n (List.of_mem_zip hy).1 with q | q
    · exact .inl q
    · exact .inr ⟨q, PySem.W.cellsFrom_some _ _ _ (.inl q)⟩
  refine codeAny_call_function hr.depth (KX _ _ lk) rfl S.co S.gen rfl (PySem.W.codeRec_of KX hcd) (hb _ _ _ _ ?_)
  refine wpAny_newFunctionEnv_cells S.kind hkind fun env he s1 xx => ?_
  subst he
  refine ⟨lim.keeps xx.toInCall.keep, codeAny_func ?_⟩
  obtain ⟨t, ht, hq⟩ := hbody A outer s H vs Q E en (hr.deeper _) hsp
  have I := inv_start (CX := CX0) (E := E) S hr.hd e0 hl r xx
  refine wpAny_mono (ht.nox.run [] s1 (start N vs) H _ I hq) (fun fl s' hs => ?_) fun e s' hs => hs
  cases fl with
  | ret u =>
    obtain ⟨v, σ', H', J, rv, q⟩ := hs
    exact ⟨v, H', J.os, J.bare, J.base, J.hok, rv, q⟩
  | next =>
    obtain ⟨σ', H', J, q⟩ := hs
    exact ⟨V.non, H', J.os, J.bare, J.base, J.hok, rfl, q⟩
  | brk =>
    obtain ⟨_, _, _, q⟩ := hs
    exact False.elim q
  | cont =>
    obtain ⟨_, _, _, q⟩ := hs
    exact False.elim q
end
theorem Tabs.kp {T : List (Addr × Str)} {H H' : Hp} {pn : Addr} {xs : List V} (t : Tabs T H) (e : H pn = some (.lst xs)) (k : Kp (· = pn) H H') : Tabs T H' := fun p hp => by
  obtain ⟨ps, h1, h2, h3⟩ := t p hp
  refine ⟨ps, k _ _ h1 fun z => ?_, h2, fun pos cv hc => ?_⟩
  · rw [z, e] at h1
    cases h1
  · obtain ⟨c, e1, e2⟩ := h3 pos cv hc
    refine ⟨c, e1, k _ _ e2 fun z => ?_⟩
    rw [z, e] at e2
    unfold CodeO at e2
    cases e2
end HX
set_option maxRecDepth 100000
set_option maxHeartbeats 2000000
namespace HX
open PySem PySem.Spec PyProof.Rows L2 L2H LamX
structure Cls21 (mg : Str → Option Value) (C : Nat → Addr) : Prop where
  NoBoard : mg "NoBoard" = some (.ref (C 0))
  NoStand : mg "NoStand" = some (.ref (C 1))
  NoMoment : mg "NoMoment" = some (.ref (C 2))
  NoWheel : mg "NoWheel" = some (.ref (C 3))
  NotNow : mg "NotNow" = some (.ref (C 4))
  NoRow : mg "NoRow" = some (.ref (C 5))
  NoDrain : mg "NoDrain" = some (.ref (C 6))
  NoDrops : mg "NoDrops" = some (.ref (C 7))
  NoAgain : mg "NoAgain" = some (.ref (C 8))
  NoNumber : mg "NoNumber" = some (.ref (C 9))
  NoLinks : mg "NoLinks" = some (.ref (C 10))
  NoMouths : mg "NoMouths" = some (.ref (C 11))
  NoWord : mg "NoWord" = some (.ref (C 12))
  NotAlike : mg "NotAlike" = some (.ref (C 13))
  NoFault : mg "NoFault" = some (.ref (C 14))
  NoSeen : mg "NoSeen" = some (.ref (C 15))
  NoHands : mg "NoHands" = some (.ref (C 16))
  NoDeed : mg "NoDeed" = some (.ref (C 17))
  NoLine : mg "NoLine" = some (.ref (C 18))
  NoText : mg "NoText" = some (.ref (C 19))
  TooMany : mg "TooMany" = some (.ref (C 20))
structure EF (K : PySem.W.Frag) (C : Nat → Addr) (D : Addr) (i : Nat) : Prop where
  ec : ExcC K D
  ve : PySem.W.kitOne K (.ref D) (.type "ValueError") = some true
  is : ∀ j, j < 21 → PySem.W.kitOne K (.ref D) (.ref (C j)) = some (decide (j = i))
structure Bi4 (mg : Str → Option Value) : Prop where
  ValueError : mg "ValueError" = none
def words21 : List V := [.str "board", .str "stand", .str "moment", .str "wheel", .str "now", .str "row", .str "drain", .str "drops", .str "again", .str "number", .str "links", .str "mouths", .str "word", .str "alike", .str "fault", .str "seen", .str "hands", .str "deed", .str "line", .str "text", .str "many"]
def wordAt : Nat → Str
  | 0 => "board" | 1 => "stand" | 2 => "moment" | 3 => "wheel" | 4 => "now" | 5 => "row" | 6 => "drain" | 7 => "drops" | 8 => "again" | 9 => "number" | 10 => "links" | 11 => "mouths" | 12 => "word" | 13 => "alike" | 14 => "fault" | 15 => "seen" | 16 => "hands" | 17 => "deed" | 18 => "line" | 19 => "text" | _ => "many"
def marks (i : Nat) : List V := (List.range 21).map fun j => V.bl (decide (j = i))
theorem marks_flat (i : Nat) : (marks i).all flatV = true := by
  rw [List.all_eq_true]
  intro v hv
  obtain ⟨j, _, rfl⟩ := List.mem_map.mp hv
  rfl
theorem marks_one : ∀ i, i < 21 → (marks i).countP (fun z => eqV z (.bl true)) = 1 := by decide +kernel
theorem marks_at {i : Nat} (h : i < 21) : (marks i)[i]? = some (.bl true) := by
  unfold marks
  rw [List.getElem?_map, List.getElem?_range h]
  show some (V.bl (decide (i = i))) = _
  rw [decide_eq_true rfl]
theorem marks_no {i m : Nat} {z : V} (h : m < i) (e : (marks i)[m]? = some z) : eqV z (.bl true) = false := by
  unfold marks at e
  rw [List.getElem?_map] at e
  cases q : (List.range 21)[m]? with
  | none => rw [q] at e; cases e
  | some j =>
    rw [q] at e
    cases e
    have : j = m := by
      have := List.getElem?_eq_some_iff.mp q
      obtain ⟨h1, h2⟩ := this
      rw [List.getElem_range] at h2
      omega
    subst this
    have : decide (j = i) = false := decide_eq_false (by omega)
    show eqV (.bl (decide (j = i))) (.bl true) = false
    rw [this]
    rfl
theorem words_at : ∀ i, i < 21 → words21[i]? = some (.str (wordAt i)) := by
  intro i h
  match i, h with
  | 0, _ | 1, _ | 2, _ | 3, _ | 4, _ | 5, _ | 6, _ | 7, _ | 8, _ | 9, _ | 10, _ | 11, _ | 12, _ | 13, _ | 14, _ | 15, _ | 16, _ | 17, _ | 18, _ | 19, _ | 20, _ => rfl
  | n + 21, h => omega
theorem word_ne : ∀ i, i < 19 → wordAt i ≠ "many" ∧ wordAt i ≠ "text" := by
  intro i h
  match i, h with
  | 0, _ | 1, _ | 2, _ | 3, _ | 4, _ | 5, _ | 6, _ | 7, _ | 8, _ | 9, _ | 10, _ | 11, _ | 12, _ | 13, _ | 14, _ | 15, _ | 16, _ | 17, _ | 18, _ => exact ⟨by decide, by decide⟩
  | n + 19, h => omega
def lamQ (x : Str) : Str := x ++ ".<locals>." ++ "<lambda>"
theorem qual_cx {CX : CXT} {P : Program} {w : World} {K : PySem.W.Frag} {mg : Str → Option Value} {base : Heap} {N : List Str} {q : Str} {sc : Scope} {f : Addr} {cd : Value} {A : Around} {outer : List Env} {s : Shared} {H : Hp} {E : XK} : (cxOf CX P w K mg base N q sc f cd A outer s H E).nox.env.qual ++ "<lambda>" = lamQ q := rfl
theorem tab_in {K : PySem.W.Frag} {x : Str} {f c T : Addr} {fd : FuncData} {oc e : Value} {od dd : Option Addr} {sl sl' : Array (Option Value)} {vs : Array Value} (a : PySem.W.nsIn K mainGlobals x = some (some (.ref f))) (l : K.lookup f = some ⟨oc, od, .func fd, sl⟩) (hc : fd.code = .ref c) (lc : K.lookup c = some ⟨e, dd, .fields vs, sl'⟩) (hv : vs[11]? = some (.ref T)) : PySem.W.tabIn K x = some (c, T) := by
  unfold PySem.W.tabIn
  rw [a]
  dsimp only
  rw [l]
  dsimp only
  rw [hc]
  dsimp only
  rw [lc]
  dsimp only
  rw [hv]
theorem law_cut {G0 : Prop} {K : PySem.W.Frag} {mg : Str → Option Value} {h : Heap} {q : Program} {x : Str} {st : Stmt} {ps : List Str} {f c T : Addr} {od an dd : Option Addr} {sl sl' : Array (Option Value)} {oc kV dc pm ct e : Value} {vs : Array Value} {rec : DefRec} (X : K.In h) (G : h.Ns mainGlobals mg)
    (tabs : ∀ (y : Str) (e : DefRec) (c T : Addr), (recsOf q).find? (fun e => e.name == y) = some e → PySem.W.tabIn K y = some (c, T) → PySem.W.CodeHd h c T ∧ h.get? T = some { cls := .none, data := .fields #[] })
    (a : PySem.W.nsIn K mainGlobals x = some (some (.ref f))) (l : K.lookup f = some ⟨oc, od, .func (PySem.W.fnOf x x (defArgs st) (defBody st) (defScope st) .none kV dc pm an (.ref c) ct), sl⟩) (cc : PySem.W.codeIn K (.ref c) x = true) (k : PySem.W.keepIn K (.ref f) = true)
    (hb : ∀ (kV doc pm : Value) (an : Option Addr) (cdv ct : Value) (us : List Value), us.length = ps.length → bindArgs (PySem.W.fnOf x x (defArgs st) (defBody st) (defScope st) .none kV doc pm an cdv ct) ⟨us, []⟩ = pure (ps.zip us))
    (lc : K.lookup c = some ⟨e, dd, .fields vs, sl'⟩) (hv : vs[11]? = some (.ref T)) (nT : K.lookup T = none) (r : (recsOf q).find? (fun e => e.name == x) = some rec)
    (z : ∀ (f : Addr) (fd : FuncData), Fun K x x st f fd → mg x = some (.ref f) → Binds K fd ps [] → fd.code = .ref c → K.lookup T = none → PySem.W.CodeHd h c T → h.get? T = some { cls := .none, data := .fields #[] } → G0) : G0 := by
  have t := tab_in a l rfl lc hv
  obtain ⟨h1, h2⟩ := tabs x rec c T r t
  exact z f _ (fun_mk l cc k) (PySem.W.mg_of X G a) ((fun_mk l cc k).binds hb) rfl nT h1 h2
theorem cls_cut {G0 : Prop} {K : PySem.W.Frag} {mg : Str → Option Value} {h : Heap} {c0 c1 c2 c3 c4 c5 c6 c7 c8 c9 c10 c11 c12 c13 c14 c15 c16 c17 c18 c19 c20 cM : Addr} (X : K.In h) (G : h.Ns mainGlobals mg)
    (a0 : PySem.W.nsIn K mainGlobals "NoBoard" = some (some (.ref c0))) (a1 : PySem.W.nsIn K mainGlobals "NoStand" = some (some (.ref c1))) (a2 : PySem.W.nsIn K mainGlobals "NoMoment" = some (some (.ref c2))) (a3 : PySem.W.nsIn K mainGlobals "NoWheel" = some (some (.ref c3)))
    (a4 : PySem.W.nsIn K mainGlobals "NotNow" = some (some (.ref c4))) (a5 : PySem.W.nsIn K mainGlobals "NoRow" = some (some (.ref c5))) (a6 : PySem.W.nsIn K mainGlobals "NoDrain" = some (some (.ref c6))) (a7 : PySem.W.nsIn K mainGlobals "NoDrops" = some (some (.ref c7)))
    (a8 : PySem.W.nsIn K mainGlobals "NoAgain" = some (some (.ref c8))) (a9 : PySem.W.nsIn K mainGlobals "NoNumber" = some (some (.ref c9))) (a10 : PySem.W.nsIn K mainGlobals "NoLinks" = some (some (.ref c10))) (a11 : PySem.W.nsIn K mainGlobals "NoMouths" = some (some (.ref c11)))
    (a12 : PySem.W.nsIn K mainGlobals "NoWord" = some (some (.ref c12))) (a13 : PySem.W.nsIn K mainGlobals "NotAlike" = some (some (.ref c13))) (a14 : PySem.W.nsIn K mainGlobals "NoFault" = some (some (.ref c14))) (a15 : PySem.W.nsIn K mainGlobals "NoSeen" = some (some (.ref c15)))
    (a16 : PySem.W.nsIn K mainGlobals "NoHands" = some (some (.ref c16))) (a17 : PySem.W.nsIn K mainGlobals "NoDeed" = some (some (.ref c17))) (a18 : PySem.W.nsIn K mainGlobals "NoLine" = some (some (.ref c18))) (a19 : PySem.W.nsIn K mainGlobals "NoText" = some (some (.ref c19)))
    (a20 : PySem.W.nsIn K mainGlobals "TooMany" = some (some (.ref c20))) (aM : PySem.W.nsIn K mainGlobals "MarbleError" = some (some (.ref cM)))
    (z : Cls21 mg (fun j => [c0, c1, c2, c3, c4, c5, c6, c7, c8, c9, c10, c11, c12, c13, c14, c15, c16, c17, c18, c19, c20].getD j 0) → mg "NoBoard" = some (.ref c0) → mg "NoStand" = some (.ref c1) → mg "NoMoment" = some (.ref c2) → mg "NoWheel" = some (.ref c3) → mg "NotNow" = some (.ref c4) → mg "NoRow" = some (.ref c5) → mg "NoDrain" = some (.ref c6) → mg "NoDrops" = some (.ref c7) → mg "NoAgain" = some (.ref c8) → mg "NoNumber" = some (.ref c9) → mg "NoLinks" = some (.ref c10) → mg "NoMouths" = some (.ref c11) → mg "NoWord" = some (.ref c12) → mg "NotAlike" = some (.ref c13) → mg "NoFault" = some (.ref c14) → mg "NoSeen" = some (.ref c15) → mg "NoHands" = some (.ref c16) → mg "NoDeed" = some (.ref c17) → mg "NoLine" = some (.ref c18) → mg "NoText" = some (.ref c19) → mg "TooMany" = some (.ref c20) → mg "MarbleError" = some (.ref cM) → G0) : G0 :=
  z ⟨PySem.W.mg_of X G a0, PySem.W.mg_of X G a1, PySem.W.mg_of X G a2, PySem.W.mg_of X G a3, PySem.W.mg_of X G a4, PySem.W.mg_of X G a5, PySem.W.mg_of X G a6, PySem.W.mg_of X G a7, PySem.W.mg_of X G a8, PySem.W.mg_of X G a9, PySem.W.mg_of X G a10, PySem.W.mg_of X G a11, PySem.W.mg_of X G a12, PySem.W.mg_of X G a13, PySem.W.mg_of X G a14, PySem.W.mg_of X G a15, PySem.W.mg_of X G a16, PySem.W.mg_of X G a17, PySem.W.mg_of X G a18, PySem.W.mg_of X G a19, PySem.W.mg_of X G a20⟩ (PySem.W.mg_of X G a0) (PySem.W.mg_of X G a1) (PySem.W.mg_of X G a2) (PySem.W.mg_of X G a3) (PySem.W.mg_of X G a4) (PySem.W.mg_of X G a5) (PySem.W.mg_of X G a6) (PySem.W.mg_of X G a7) (PySem.W.mg_of X G a8) (PySem.W.mg_of X G a9) (PySem.W.mg_of X G a10) (PySem.W.mg_of X G a11) (PySem.W.mg_of X G a12) (PySem.W.mg_of X G a13) (PySem.W.mg_of X G a14) (PySem.W.mg_of X G a15) (PySem.W.mg_of X G a16) (PySem.W.mg_of X G a17) (PySem.W.mg_of X G a18) (PySem.W.mg_of X G a19) (PySem.W.mg_of X G a20) (PySem.W.mg_of X G aM)
end HX
set_option maxRecDepth 100000
set_option maxHeartbeats 2000000
namespace HX
open PySem PySem.Spec PyProof.Rows L2
section
variable {X : Cx}
theorem laidF {pins : List (Addr × Obj)} {σ : L2.St} {H : Hp} {s : Shared} {ys : List V} {its : List Value} {Q : VK} (I : Inv X pins σ H s) (hz : ys.length ≤ sizeLine) (r : Vals ys its) (q : ∀ p o, H p = none → o.dict = none → Q (.ref p) (upd H p (.frz o (.tup ys)))) :
    EP X pins σ Q (.ref s.heap.objs.size) { s with heap := s.heap.push { cls := .type "tuple", data := .seq its.toArray } } := by
  have I2 : Inv X pins σ (upd H s.heap.objs.size (.frz { cls := .type "tuple", data := .seq its.toArray } (.tup ys))) { s with heap := s.heap.push { cls := .type "tuple", data := .seq its.toArray } } :=
    I.laid (t' := s.toks) (fun b o e => Heap.get?_push_of_some _ e) (Nat.le_refl _) (show ObjOk X.prog X.w _ _ _ (.frz _ (.tup ys)) from ⟨Heap.get?_push_size _ rfl, hz, its, r, IsTup.new _ _⟩)
  exact ⟨.ref s.heap.objs.size, _, I2, rfl, q _ _ (I.hok.fresh (Nat.le_refl _)) rfl⟩
def rSlF (K : PySem.W.Frag) : V → Option Int → Option Int → Hp → VK → Prop := fun x lo hi H Q => ∃ a xs, x = .ref a ∧ SqT K H a xs ∧ (HT.sIx xs.length 0 lo = 0 ∧ HT.sIx xs.length xs.length hi = xs.length → Q (.ref a) H) ∧
  (¬ (HT.sIx xs.length 0 lo = 0 ∧ HT.sIx xs.length xs.length hi = xs.length) → ∀ p o, H p = none → o.dict = none → Q (.ref p) (upd H p (.frz o (.tup (cutV xs lo hi)))))
theorem sl_tupF : SlR X (rSlF X.K) := by
  intro pins s σ H x v vl vu lo hi sl Q I rx hs pl pu h
  obtain ⟨a, xs, rfl, hx, q1, q2⟩ := h
  cases rx
  obtain ⟨its, r, ht, hz⟩ := I.tuple hx
  have hn : its.toArray.size = xs.length := by rw [List.size_toArray]; exact r.length.symm
  refine ⟨"tuple", _, PyProof.Rows.slot_tuple_getitem.lookup, ht.typeIs, ?_⟩
  by_cases hw : HT.sIx xs.length 0 lo = 0 ∧ HT.sIx xs.length xs.length hi = xs.length
  · exact getItem_tuple_whole ht hs pl pu (by rw [hn]; exact hw) ⟨.ref a, H, I, rfl, q1 hw⟩
  · refine HT.getItem_tuple_cut ht hs pl pu (by rw [hn]; exact hw) ?_ (by rw [hn]; exact hz)
    rw [hn]
    exact laidF I (Nat.le_trans (cutV_length xs lo hi) hz) ((r.drop (HT.sIx xs.length 0 lo)).take (HT.sIx xs.length xs.length hi - HT.sIx xs.length 0 lo)) (q2 hw)
def rCatF (K : PySem.W.Frag) : R2 := fun x y H Q => ∃ a b xs ys, x = .ref a ∧ y = .ref b ∧ SqT K H a xs ∧ SqT K H b ys ∧ xs.length + ys.length ≤ sizeLine ∧
  (xs = [] → Q (.ref b) H) ∧ (xs ≠ [] → ys = [] → Q (.ref a) H) ∧ (xs ≠ [] → ys ≠ [] → ∀ p o, H p = none → o.dict = none → Q (.ref p) (upd H p (.frz o (.tup (xs ++ ys)))))
theorem op_catF : OpR X (binaryOp .Add) (rCatF X.K) := by
  intro pins s σ H x y v u Q I rx ry h
  obtain ⟨a, b, xs, ys, rfl, rfl, ha, hb, hz, q0, q1, q2⟩ := h
  cases rx
  cases ry
  obtain ⟨i1, r1, p1, _⟩ := I.tuple ha
  obtain ⟨i2, r2, p2, _⟩ := I.tuple hb
  by_cases hx : xs = []
  · subst hx
    cases r1
    exact cat_tup0 p1 p2 ⟨.ref b, H, I, rfl, q0 rfl⟩
  · refine HT.cat_tup p1 p2 (fun z => hx (r1.nil_iff.mp z)) (fun z => ⟨.ref a, H, I, rfl, q1 hx (r2.nil_iff.mp z)⟩) (fun z => ?_) (by rw [← r1.length, ← r2.length]; exact hz)
    exact laidF I (by rw [List.length_append]; exact hz) (r1.append r2) (q2 hx (fun w => z (r2.nil_iff.mpr w)))
def tTupF (t : TA) : TE := fun σ H Q => t σ H fun xs H1 => xs.length ≤ sizeLine ∧ ∀ p o, H1 p = none → o.dict = none → Q (.ref p) (upd H1 p (.frz o (.tup xs)))
theorem pe_tupF {es : List Expr} {t : TA} {x1} {pos : Pos} (h : PA X es t) : PE X (.Tuple es x1 pos) (tTupF t) := by
  refine ⟨fun pins s σ H Q I hq => ?_⟩
  refine wpAny_Tuple_spliced (thn (h.run pos pins s σ H _ I hq) fun us s1 ⟨xs, H1, I1, r, z, q⟩ => ⟨by rw [← r.length]; exact z, ?_⟩)
  exact laidF I1 z r q
end
end HX
set_option maxRecDepth 100000
set_option maxHeartbeats 2000000
namespace HX
open PySem PySem.Spec PyProof.Rows L2 L2H LamX
end HX
namespace HX
open PySem PySem.Spec PyProof.Rows L2
end HX
set_option maxRecDepth 100000
set_option maxHeartbeats 1000000
namespace HX
open PySem PySem.Spec PyProof.Rows L2
end HX
set_option maxRecDepth 100000
set_option maxHeartbeats 2000000
namespace HX
open PySem PySem.Spec PyProof.Rows L2
mutual
def pureK : NestedKey → Bool
  | .num _ => true
  | .tup ks => pureA ks
  | _ => false
def pureA : List NestedKey → Bool
  | [] => true
  | k :: ks => pureK k && pureA ks
end
mutual
def hN : NestedKey → Int
  | .num i => hashInt i
  | .tup ks => reduceHash (Builtin.Tuple.tupleHashOf (hNs ks))
  | _ => 0
def hNs : List NestedKey → List Int
  | [] => []
  | k :: ks => hN k :: hNs ks
end
section
variable {P : Program} {w : World} {H : Hp} {h : Heap}
abbrev NE := NestedKey × Addr × V
def nEnt (x : NestedKey × Addr × Value) : DictEntry := ⟨hN x.1, .ref x.2.1, x.2.2⟩
def NRel : List NE → List (NestedKey × Addr × Value) → Prop := Paired fun p q => p.1 = q.1 ∧ p.2.1 = q.2.1 ∧ RelV p.2.2 q.2.2
def NdAt (h : Heap) (d : Addr) (xs : List NE) : Prop := (d == sysModules) = false ∧ xs.length ≤ sizeLine ∧ ∃ us, NRel xs us ∧ ∃ o es ep, h.get? d = some o ∧ o.ExactDict ∧ o.data = .dict es ep ∧ es.toList = us.map nEnt ∧ (us.map (·.1)).Nodup
def NdO (d : Addr) (xs : List NE) : HO := .ext fun h => NdAt h d xs
end
section
variable {X : Cx}
end
end HX
set_option maxRecDepth 100000
set_option maxHeartbeats 1000000
namespace QX
open PySem PySem.Spec PyProof.Rows L2 HX
inductive D where
  | non | bl (b : Bool) | int (i : Int) | str (x : Str) | tup (ds : List D) | lst (ds : List D) | dct (ks : List Key) (ds : List D) | scr (ns : List Int) | ref (n : Nat) | adr (v : V)
inductive Cell where
  | lst (ds : List D)
  | dic (kvs : List (NestedKey × D))
  | fro (kvs : List (NestedKey × D))
abbrev Mem := List Cell
abbrev Sa := List (Option D)
def FzT (H : Hp) (a : Addr) (xs : List V) : Prop := ∃ o : Obj, o.dict = none ∧ H a = some (.frz o (.tup xs))
def ScrAt (K : PySem.W.Frag) (ρ : List Addr) (H : Hp) (a : Addr) (ns : List Int) : Prop :=
  (Rd H a (.lst (ns.map V.int)) ∧ a ∉ ρ) ∨ ∃ (o : Obj) (its : Array Value) (n : Nat), K.lookup a = some o ∧ o.cls = .type "list" ∧ o.dict = none ∧ o.data = .seq its n ∧ its.size ≤ sizeLine ∧ Vals (ns.map V.int) its.toList
mutual
inductive Rep (K : PySem.W.Frag) (ρ : List Addr) (H : Hp) : V → D → Prop
  | non : Rep K ρ H .non .non
  | bl (b : Bool) : Rep K ρ H (.bl b) (.bl b)
  | int (i : Int) : Rep K ρ H (.int i) (.int i)
  | str (x : Str) : Rep K ρ H (.str x) (.str x)
  | tup {a : Addr} {xs : List V} {ds : List D} : FzT H a xs → a ∉ ρ → RepA K ρ H xs ds → Rep K ρ H (.ref a) (.tup ds)
  | lst {a : Addr} {xs : List V} {ds : List D} : H a = some (.lst xs) → a ∉ ρ → RepA K ρ H xs ds → Rep K ρ H (.ref a) (.lst ds)
  | dct {a : Addr} {kvs : List (Key × V)} {ks : List Key} {ds : List D} : H a = some (.dK kvs) → a ∉ ρ → ks = kvs.map (·.1) → RepA K ρ H (kvs.map (·.2)) ds → Rep K ρ H (.ref a) (.dct ks ds)
  | scr {a : Addr} {ns : List Int} : ScrAt K ρ H a ns → Rep K ρ H (.ref a) (.scr ns)
  | ref {a : Addr} {n : Nat} : ρ[n]? = some a → Rep K ρ H (.ref a) (.ref n)
  | adr (v : V) : Rep K ρ H v (.adr v)
inductive RepA (K : PySem.W.Frag) (ρ : List Addr) (H : Hp) : List V → List D → Prop
  | nil : RepA K ρ H [] []
  | cons {v : V} {vs : List V} {d : D} {ds : List D} : Rep K ρ H v d → RepA K ρ H vs ds → RepA K ρ H (v :: vs) (d :: ds)
end
def Th (H : Hp) (a : Addr) : Prop := ∃ o, H a = some o ∧ ∀ ps, o ≠ .tbl ps
structure Ext (ρ : List Addr) (H : Hp) (ρ' : List Addr) (H' : Hp) : Prop where
  pre : ∃ more, ρ' = ρ ++ more ∧ ∀ a ∈ more, ¬ Th H a
  keep : ∀ a o, H a = some o → a ∉ ρ → (∀ ps, o ≠ .tbl ps) → H' a = some o
  live : ∀ a, Th H a → Th H' a
  frz : ∀ a o u, H a = some (.frz o u) → H' a = some (.frz o u)
theorem Th.none {H : Hp} {a : Addr} (h : H a = none) : ¬ Th H a := fun ⟨o, e, _⟩ => by rw [h] at e; cases e
theorem Ext.refl (ρ : List Addr) (H : Hp) : Ext ρ H ρ H := ⟨⟨[], by simp, by simp⟩, fun _ _ h _ _ => h, fun _ h => h, fun _ _ _ h => h⟩
theorem Ext.notin {ρ ρ' : List Addr} {H H' : Hp} (e : Ext ρ H ρ' H') {a : Addr} (n : a ∉ ρ) (h : Th H a) : a ∉ ρ' := by
  obtain ⟨more, rfl, hm⟩ := e.pre
  intro z
  rcases List.mem_append.mp z with z | z
  · exact n z
  · exact hm a z h
theorem Ext.trans {ρ ρ1 ρ2 : List Addr} {H H1 H2 : Hp} (a : Ext ρ H ρ1 H1) (b : Ext ρ1 H1 ρ2 H2) : Ext ρ H ρ2 H2 := by
  refine ⟨?_, fun x o h n t => ?_, fun x h => b.live x (a.live x h), fun x o u h => b.frz x o u (a.frz x o u h)⟩
  · obtain ⟨m1, rfl, h1⟩ := a.pre
    obtain ⟨m2, rfl, h2⟩ := b.pre
    refine ⟨m1 ++ m2, by rw [List.append_assoc], fun x hx => ?_⟩
    rcases List.mem_append.mp hx with z | z
    · exact h1 x z
    · exact fun t => h2 x z (a.live x t)
  · exact b.keep x o (a.keep x o h n t) (a.notin n ⟨o, h, t⟩) t
theorem Ext.at {ρ ρ' : List Addr} {H H' : Hp} (e : Ext ρ H ρ' H') {n : Nat} {a : Addr} (h : ρ[n]? = some a) : ρ'[n]? = some a := by
  obtain ⟨more, rfl, hm⟩ := e.pre
  have := (List.getElem?_eq_some_iff.mp h).1
  rw [List.getElem?_append_left this]
  exact h
theorem FzT.ext {ρ ρ' : List Addr} {H H' : Hp} {a : Addr} {xs : List V} (e : Ext ρ H ρ' H') (h : FzT H a xs) (n : a ∉ ρ) : FzT H' a xs ∧ a ∉ ρ' := by
  obtain ⟨o, h1, h2⟩ := h
  exact ⟨⟨o, h1, e.keep _ _ h2 n fun _ z => nomatch z⟩, e.notin n ⟨_, h2, fun _ z => nomatch z⟩⟩
theorem ScrAt.ext {K : PySem.W.Frag} {ρ ρ' : List Addr} {H H' : Hp} {a : Addr} {ns : List Int} (e : Ext ρ H ρ' H') (h : ScrAt K ρ H a ns) : ScrAt K ρ' H' a ns := by
  rcases h with ⟨h | ⟨o, h⟩, n⟩ | h
  · exact .inl ⟨.inl (e.keep _ _ h n fun _ z => nomatch z), e.notin n ⟨_, h, fun _ z => nomatch z⟩⟩
  · exact .inl ⟨.inr ⟨o, e.keep _ _ h n fun _ z => nomatch z⟩, e.notin n ⟨_, h, fun _ z => nomatch z⟩⟩
  · exact .inr h
mutual
theorem Rep.mono {K : PySem.W.Frag} {ρ ρ' : List Addr} {H H' : Hp} (e : Ext ρ H ρ' H') : ∀ (d : D) (v : V), Rep K ρ H v d → Rep K ρ' H' v d
  | .non, _, h => by cases h; exact .non
  | .bl b, _, h => by cases h; exact .bl b
  | .int i, _, h => by cases h; exact .int i
  | .str x, _, h => by cases h; exact .str x
  | .tup ds, _, h => by
    cases h with
    | tup f n ha => exact .tup (f.ext e n).1 (f.ext e n).2 (RepA.mono e ds _ ha)
  | .lst ds, _, h => by
    cases h with
    | lst f n ha => exact .lst (e.keep _ _ f n fun _ z => nomatch z) (e.notin n ⟨_, f, fun _ z => nomatch z⟩) (RepA.mono e ds _ ha)
  | .dct ks ds, _, h => by
    cases h with
    | dct f n hk ha => exact .dct (e.keep _ _ f n fun _ z => nomatch z) (e.notin n ⟨_, f, fun _ z => nomatch z⟩) hk (RepA.mono e ds _ ha)
  | .scr ns, _, h => by
    cases h with
    | scr f => exact .scr (f.ext e)
  | .ref n, _, h => by
    cases h with
    | ref f => exact .ref (e.at f)
  | .adr v, _, h => by cases h; exact .adr v
theorem RepA.mono {K : PySem.W.Frag} {ρ ρ' : List Addr} {H H' : Hp} (e : Ext ρ H ρ' H') : ∀ (ds : List D) (vs : List V), RepA K ρ H vs ds → RepA K ρ' H' vs ds
  | [], _, h => by cases h; exact .nil
  | d :: ds, _, h => by
    cases h with
    | cons h1 h2 => exact .cons (Rep.mono e d _ h1) (RepA.mono e ds _ h2)
end
section
variable {K : PySem.W.Frag} {ρ : List Addr} {H : Hp}
theorem RepA.len : ∀ {vs : List V} {ds : List D}, RepA K ρ H vs ds → vs.length = ds.length
  | _, _, .nil => rfl
  | _, _, .cons _ t => by rw [List.length_cons, List.length_cons, RepA.len t]
theorem RepA.at : ∀ {vs : List V} {ds : List D} {i : Nat} {d : D}, RepA K ρ H vs ds → ds[i]? = some d → ∃ v, vs[i]? = some v ∧ Rep K ρ H v d
  | _, _, _, _, .nil, e => by simp at e
  | _, _, 0, _, .cons h _, e => ⟨_, rfl, by simp at e; exact e ▸ h⟩
  | _, _, i + 1, _, .cons _ t, e => by
    obtain ⟨d, h1, h2⟩ := RepA.at (i := i) t (by simpa using e)
    exact ⟨d, by simpa using h1, h2⟩
theorem RepA.append : ∀ {vs us : List V} {ds es : List D}, RepA K ρ H vs ds → RepA K ρ H us es → RepA K ρ H (vs ++ us) (ds ++ es)
  | _, _, _, _, .nil, s => s
  | _, _, _, _, .cons r t, s => .cons r (RepA.append t s)
theorem RepA.take : ∀ {vs : List V} {ds : List D} (n : Nat), RepA K ρ H vs ds → RepA K ρ H (vs.take n) (ds.take n)
  | _, _, 0, _ => .nil
  | _, _, _ + 1, .nil => .nil
  | _, _, n + 1, .cons r t => .cons r (RepA.take n t)
theorem RepA.drop : ∀ {vs : List V} {ds : List D} (n : Nat), RepA K ρ H vs ds → RepA K ρ H (vs.drop n) (ds.drop n)
  | _, _, 0, r => r
  | _, _, _ + 1, .nil => .nil
  | _, _, n + 1, .cons _ t => RepA.drop n t
theorem RepA.reverse : ∀ {vs : List V} {ds : List D}, RepA K ρ H vs ds → RepA K ρ H vs.reverse ds.reverse
  | _, _, .nil => .nil
  | _, _, .cons r t => by
    rw [List.reverse_cons, List.reverse_cons]
    exact RepA.append (RepA.reverse t) (.cons r .nil)
theorem RepA.set {v : V} {d : D} (r : Rep K ρ H v d) : ∀ {vs : List V} {ds : List D} (i : Nat), RepA K ρ H vs ds → RepA K ρ H (vs.set i v) (ds.set i d)
  | _, _, _, .nil => .nil
  | _, _, 0, .cons _ t => .cons r t
  | _, _, i + 1, .cons q t => .cons q (RepA.set r i t)
theorem RepA.rep {vs : List V} {ds : List D} (h : RepA K ρ H vs ds) : ∀ n : Nat, RepA K ρ H (List.replicate n vs).flatten (List.replicate n ds).flatten
  | 0 => .nil
  | n + 1 => by
    rw [List.replicate_succ, List.replicate_succ, List.flatten_cons, List.flatten_cons]
    exact h.append (RepA.rep h n)
theorem RepA.ints : ∀ (ns : List Int), RepA K ρ H (ns.map V.int) (ns.map D.int)
  | [] => .nil
  | n :: ns => .cons (.int n) (RepA.ints ns)
end
structure Sc where
  K : PySem.W.Frag
  T : List (Addr × Str)
  C : Nat → Addr
mutual
def dK : NestedKey → D
  | .none => .non
  | .num i => .int i
  | .text x => .str x
  | .tup ks => .tup (dKs ks)
def dKs : List NestedKey → List D
  | [] => []
  | k :: ks => dK k :: dKs ks
end
def DRel (K : PySem.W.Frag) (ρ : List Addr) (H : Hp) : List NE → List (NestedKey × D) → Prop := Paired fun x kv => x.1 = kv.1 ∧ pureK kv.1 = true ∧ kv.1.depth ≤ 8 ∧ Rep K ρ H (.ref x.2.1) (dK kv.1) ∧ Rep K ρ H x.2.2 kv.2
theorem DRel.mono {K : PySem.W.Frag} {ρ ρ' : List Addr} {H H' : Hp} (e : Ext ρ H ρ' H') {xs : List NE} {kvs : List (NestedKey × D)} (h : DRel K ρ H xs kvs) : DRel K ρ' H' xs kvs :=
  Paired.mapP h fun _ _ ⟨a, b, c, d, f⟩ => ⟨a, b, c, Rep.mono e _ _ d, Rep.mono e _ _ f⟩
def CellOk (K : PySem.W.Frag) (ρ : List Addr) (H : Hp) (a : Addr) : Cell → Prop
  | .lst ds => ∃ xs, H a = some (.lst xs) ∧ RepA K ρ H xs ds
  | .dic kvs => ∃ xs, H a = some (NdO a xs) ∧ DRel K ρ H xs kvs
  | .fro kvs => ∃ xs o, H a = some (.frz o (NdO a xs)) ∧ DRel K ρ H xs kvs
structure MemOk (S : Sc) (ρ : List Addr) (H : Hp) (M : Mem) : Prop where
  len : ρ.length = M.length
  nd : ρ.Nodup
  cell : ∀ (n : Nat) (a : Addr) (c : Cell), ρ[n]? = some a → M[n]? = some c → CellOk S.K ρ H a c
  tab : LamX.Tabs S.T H
theorem CellOk.some {K : PySem.W.Frag} {ρ : List Addr} {H : Hp} {a : Addr} {c : Cell} (h : CellOk K ρ H a c) : H a ≠ none := by
  cases c with
  | lst ds => obtain ⟨xs, e, _⟩ := h; rw [e]; exact fun z => nomatch z
  | dic kvs => obtain ⟨xs, e, _⟩ := h; rw [e]; exact fun z => nomatch z
  | fro kvs => obtain ⟨xs, o, e, _⟩ := h; rw [e]; exact fun z => nomatch z
theorem CellOk.ext {K : PySem.W.Frag} {ρ ρ' : List Addr} {H H' : Hp} {a : Addr} {c : Cell} (h : CellOk K ρ H a c) (e : Ext ρ H ρ' H') (k : H' a = H a) : CellOk K ρ' H' a c := by
  cases c with
  | lst ds => obtain ⟨xs, e1, r⟩ := h; exact ⟨xs, k.trans e1, RepA.mono e _ _ r⟩
  | dic kvs => obtain ⟨xs, e1, r⟩ := h; exact ⟨xs, k.trans e1, DRel.mono e r⟩
  | fro kvs => obtain ⟨xs, o, e1, r⟩ := h; exact ⟨xs, o, k.trans e1, DRel.mono e r⟩
section
variable {S : Sc} {ρ : List Addr} {H : Hp} {M : Mem}
theorem MemOk.at (m : MemOk S ρ H M) {n : Nat} {a : Addr} (h : ρ[n]? = some a) : ∃ c, M[n]? = some c ∧ CellOk S.K ρ H a c := by
  have hn := (List.getElem?_eq_some_iff.mp h).1
  rw [m.len] at hn
  exact ⟨_, List.getElem?_eq_getElem hn, m.cell n a _ h (List.getElem?_eq_getElem hn)⟩
theorem MemOk.there (m : MemOk S ρ H M) {a : Addr} (h : a ∈ ρ) : H a ≠ none := by
  obtain ⟨n, hn, e⟩ := List.getElem_of_mem h
  obtain ⟨c, _, ok⟩ := m.at (n := n) (a := a) (by rw [List.getElem?_eq_getElem hn, e])
  exact ok.some
theorem MemOk.new (m : MemOk S ρ H M) {p : Addr} (h : H p = none) : p ∉ ρ := fun z => m.there z h
end
def Stp (S : Sc) (ρ : List Addr) (H : Hp) (ρ' : List Addr) (H' : Hp) (M : Mem) : Prop := Ext ρ H ρ' H' ∧ MemOk S ρ' H' M
section
variable {S : Sc} {ρ : List Addr} {H : Hp} {M : Mem}
theorem Stp.refl (m : MemOk S ρ H M) : Stp S ρ H ρ H M := ⟨Ext.refl ρ H, m⟩
theorem Ext.fresh {p : Addr} {o : HO} (h : H p = none) : Ext ρ H ρ (upd H p o) := by
  refine ⟨⟨[], by simp, by simp⟩, fun a u e _ _ => by rw [upd_ne (ne_of_none e h)]; exact e, fun a ⟨u, e, t⟩ => ⟨u, by rw [upd_ne (ne_of_none e h)]; exact e, t⟩, fun a o u e => by rw [upd_ne (ne_of_none e h)]; exact e⟩
theorem Stp.fresh (m : MemOk S ρ H M) {p : Addr} {o : HO} (h : H p = none) : Stp S ρ H ρ (upd H p o) M := by
  have e : Ext ρ H ρ (upd H p o) := Ext.fresh h
  refine ⟨e, m.len, m.nd, fun n a c h1 h2 => ?_, m.tab.ext fun b u q => by rw [upd_ne (ne_of_none q h)]; exact q⟩
  have ok := m.cell n a c h1 h2
  refine ok.ext e (upd_ne ?_)
  intro z
  exact ok.some (by rw [z]; exact h)
theorem Stp.alloc (m : MemOk S ρ H M) {p : Addr} {xs : List V} {ds : List D} (h : H p = none) (r : RepA S.K ρ H xs ds) : Stp S ρ H (ρ ++ [p]) (upd H p (.lst xs)) (M ++ [.lst ds]) := by
  have e : Ext ρ H (ρ ++ [p]) (upd H p (.lst xs)) := by
    refine ⟨⟨[p], rfl, fun a ha => ?_⟩, (Ext.fresh (ρ := ρ) h).keep, (Ext.fresh (ρ := ρ) h).live, (Ext.fresh (ρ := ρ) h).frz⟩
    rw [List.mem_singleton.mp ha]
    exact Th.none h
  refine ⟨e, ?_, ?_, fun n a c h1 h2 => ?_, m.tab.ext fun b u q => by rw [upd_ne (ne_of_none q h)]; exact q⟩
  · rw [List.length_append, List.length_append, m.len]
    rfl
  · refine List.nodup_append.mpr ⟨m.nd, by simp, ?_⟩
    intro a ha b hb
    rw [List.mem_singleton.mp hb]
    rintro rfl
    exact m.new h ha
  · by_cases hn : n < ρ.length
    · rw [List.getElem?_append_left hn] at h1
      rw [List.getElem?_append_left (by rw [← m.len]; exact hn)] at h2
      have ok := m.cell n a c h1 h2
      refine ok.ext e (upd_ne ?_)
      intro z
      exact ok.some (by rw [z]; exact h)
    · rw [List.getElem?_append_right (by omega)] at h1
      rw [List.getElem?_append_right (by rw [← m.len]; omega)] at h2
      have e0 : n - ρ.length = 0 := by
        have := (List.getElem?_eq_some_iff.mp h1).1
        simp at this
        omega
      rw [← m.len] at h2
      rw [e0] at h1 h2
      simp at h1 h2
      subst h1 h2
      exact ⟨xs, upd_same, RepA.mono e _ _ r⟩
theorem Stp.put (m : MemOk S ρ H M) {n : Nat} {a : Addr} {ds0 : List D} {xs : List V} {ds : List D} (h : ρ[n]? = some a) (h2 : M[n]? = some (.lst ds0)) (r : RepA S.K ρ H xs ds) : Stp S ρ H ρ (upd H a (.lst xs)) (M.set n (.lst ds)) := by
  obtain ⟨ys, ey, _⟩ := m.cell n a _ h h2
  have ha : a ∈ ρ := List.mem_of_getElem? h
  have e : Ext ρ H ρ (upd H a (.lst xs)) := by
    refine ⟨⟨[], by simp, by simp⟩, fun b u q nb _ => by rw [upd_ne (fun z => nb (by rw [z]; exact ha))]; exact q, fun b ⟨u, q, t⟩ => ?_, fun b o u q => by rw [upd_ne (fun z => by rw [z, ey] at q; cases q)]; exact q⟩
    by_cases hb : b = a
    · exact ⟨.lst xs, by rw [hb, upd_same], fun _ z => nomatch z⟩
    · exact ⟨u, by rw [upd_ne hb]; exact q, t⟩
  refine ⟨e, by rw [List.length_set]; exact m.len, m.nd, fun k b c h1 h3 => ?_, HX.Tabs.kp m.tab ey (Kp.put rfl)⟩
  by_cases hk : k = n
  · subst hk
    rw [h] at h1
    cases h1
    rw [List.getElem?_set_self (List.getElem?_eq_some_iff.mp h2).1] at h3
    cases h3
    exact ⟨xs, upd_same, RepA.mono e _ _ r⟩
  · rw [List.getElem?_set_ne (Ne.symm hk)] at h3
    have ok := m.cell k b c h1 h3
    refine ok.ext e (upd_ne ?_)
    intro z
    subst z
    exact hk ((List.getElem?_inj (List.getElem?_eq_some_iff.mp h1).1 m.nd).mp (h1.trans h.symm))
end
inductive Res (α : Type) where
  | ok (x : α) (M : Mem) | exc (c : Nat) (fs : List (Str × D)) (M : Mem) | bad
def Res.bind {α β : Type} : Res α → (α → Mem → Res β) → Res β
  | .ok x M, k => k x M
  | .exc c fs M, _ => .exc c fs M
  | .bad, _ => .bad
abbrev F (α : Type) := Sa → Mem → Res α
def XRep (K : PySem.W.Frag) (ρ : List Addr) (H : Hp) : Option Addr → List (Str × D) → Prop
  | none, fs => fs = []
  | some a, fs => a ∉ ρ ∧ ∃ vs, H a = some (.xd vs) ∧ vs.map (·.1) = fs.map (·.1) ∧ RepA K ρ H (vs.map (·.2)) (fs.map (·.2)) ∧ fs ≠ []
def Post {α β : Type} (S : Sc) (W : WX) (R : List Addr → Hp → β → α → Prop) (σ : L2.St) (ρ : List Addr) (H : Hp) (Q : β → Hp → Prop) : Res α → Prop
  | .ok x M => ∀ ρ' H' v, Stp S ρ H ρ' H' M → R ρ' H' v x → Q v H'
  | .exc c fs M => ∀ ρ' H' d, Stp S ρ H ρ' H' M → XRep S.K ρ' H' d fs → W (.ref (S.C c)) d σ H'
  | .bad => False
def RepSt (K : PySem.W.Frag) (ρ : List Addr) (H : Hp) (σ : L2.St) (σa : Sa) : Prop := σ.length = σa.length ∧ ∀ (i : Nat) (d : D), σa[i]? = some (some d) → ∃ v, σ[i]? = some (some v) ∧ Rep K ρ H v d
def tOf {α β : Type} (S : Sc) (W : WX) (R : List Addr → Hp → β → α → Prop) (f : F α) : L2.St → Hp → (β → Hp → Prop) → Prop := fun σ H Q => ∃ ρ M σa, MemOk S ρ H M ∧ RepSt S.K ρ H σ σa ∧ Post S W R σ ρ H Q (f σa M)
theorem RepSt.mono {K : PySem.W.Frag} {ρ ρ' : List Addr} {H H' : Hp} {σ : L2.St} {σa : Sa} (h : RepSt K ρ H σ σa) (e : Ext ρ H ρ' H') : RepSt K ρ' H' σ σa := ⟨h.1, fun i d q => let ⟨v, h1, h2⟩ := h.2 i d q; ⟨v, h1, Rep.mono e _ _ h2⟩⟩
section
variable {α β γ δ : Type} {S : Sc} {W : WX} {R : List Addr → Hp → β → α → Prop} {R2 : List Addr → Hp → δ → γ → Prop} {σ : L2.St} {σa : Sa} {ρ ρ' : List Addr} {H H' : Hp} {M : Mem}
theorem Post.mono {Q : β → Hp → Prop} {r : Res α} (h : Post S W R σ ρ H Q r) (e : Ext ρ H ρ' H') : Post S W R σ ρ' H' Q r := by
  cases r with
  | ok x M => exact fun ρ2 H2 v st => h ρ2 H2 v ⟨e.trans st.1, st.2⟩
  | exc c fs M => exact fun ρ2 H2 d st => h ρ2 H2 d ⟨e.trans st.1, st.2⟩
  | bad => exact h
theorem use {f : F α} {k : α → Mem → Res γ} {Q : β → Hp → Prop} {Q2 : δ → Hp → Prop} (mo : MemOk S ρ H M) (rs : RepSt S.K ρ H σ σa) (h : Post S W R2 σ ρ H Q2 ((f σa M).bind k))
    (c : ∀ x M1 ρ1 H1 v, Stp S ρ H ρ1 H1 M1 → R ρ1 H1 v x → RepSt S.K ρ1 H1 σ σa → Post S W R2 σ ρ1 H1 Q2 (k x M1) → Q v H1) : tOf S W R f σ H Q := by
  refine ⟨ρ, M, σa, mo, rs, ?_⟩
  cases e : f σa M with
  | ok x M1 =>
    rw [e] at h
    intro ρ1 H1 v st r
    exact c x M1 ρ1 H1 v st r (rs.mono st.1) (Post.mono h st.1)
  | exc c2 fs M1 => rw [e] at h; exact h
  | bad => rw [e] at h; exact h
end
section
variable {X : Cx}
theorem PE.imp {e : Expr} {t t' : TE} (h : PE X e t) (w : ∀ σ H Q, t' σ H Q → t σ H Q) : PE X e t' := ⟨fun pins s σ H Q I q => h.run pins s σ H Q I (w σ H Q q)⟩
theorem PT.imp {e : Expr} {t t' : TT} (h : PT X e t) (w : ∀ σ H Q, t' σ H Q → t σ H Q) : PT X e t' := ⟨fun pins s σ H Q I q => h.run pins s σ H Q I (w σ H Q q)⟩
theorem PW.imp {e : Expr} {t t' : TT} (h : PW X e t) (w : ∀ σ H Q, t' σ H Q → t σ H Q) : PW X e t' := ⟨fun wh pins s σ H Q I q => h.run wh pins s σ H Q I (w σ H Q q)⟩
theorem PA.imp {es : List Expr} {t t' : TA} (h : PA X es t) (w : ∀ σ H Q, t' σ H Q → t σ H Q) : PA X es t' := ⟨fun pos pins s σ H Q I q => h.run pos pins s σ H Q I (w σ H Q q)⟩
theorem PS.imp {st : Stmt} {t t' : TS} (h : PS X st t) (w : ∀ D σ H, t' D σ H → t D σ H) : PS X st t' := ⟨fun pins s σ H D I q => h.run pins s σ H D I (w D σ H q)⟩
theorem PSs.imp {st : List Stmt} {t t' : TS} (h : PSs X st t) (w : ∀ D σ H, t' D σ H → t D σ H) : PSs X st t' := ⟨fun pins s σ H D I q => h.run pins s σ H D I (w D σ H q)⟩
theorem PI.imp {tg e : Expr} {t t' : TI} (h : PI X tg e t) (w : ∀ σ H R, t' σ H R → t σ H R) : PI X tg e t' := ⟨fun pins s σ H R I q => h.run pins s σ H R I (w σ H R q)⟩
end
abbrev QE (S : Sc) (W : WX) (X : Cx) (e : Expr) (f : F D) : Prop := PE X e (tOf S W (Rep S.K) f)
def REq {α : Type} : List Addr → Hp → α → α → Prop := fun _ _ a b => a = b
abbrev QT (S : Sc) (W : WX) (X : Cx) (e : Expr) (f : F Bool) : Prop := PT X e (tOf S W REq f)
abbrev QW (S : Sc) (W : WX) (X : Cx) (e : Expr) (f : F Bool) : Prop := PW X e (tOf S W REq f)
abbrev QA (S : Sc) (W : WX) (X : Cx) (es : List Expr) (f : F (List D)) : Prop := PA X es (tOf S W (RepA S.K) f)
end QX
set_option maxRecDepth 100000
set_option maxHeartbeats 1000000
namespace QX
open PySem PySem.Spec PyProof.Rows L2 HX
section
variable {X : Cx} {S : Sc} {W : WX} {e a b c : Expr} {pos : Pos}
def fVar (i : Nat) : F D := fun σ M => match σ[i]? with | some (some d) => .ok d M | _ => .bad
def fC (d : D) : F D := fun _ M => .ok d M
theorem qe_var {i : Nat} (h : PE X e (tVar i)) : QE S W X e (fVar i) := PE.imp h fun σ H Q ⟨ρ, M, σa, mo, rs, p⟩ => by
  unfold fVar at p
  split at p
  · rename_i d hd
    obtain ⟨v, e1, r⟩ := rs.2 _ _ hd
    exact ⟨v, e1, p ρ H v (Stp.refl mo) r⟩
  · exact p.elim
theorem qe_c {v : V} {d : D} (h : PE X e (tC v)) (r : ∀ K ρ H, Rep K ρ H v d) : QE S W X e (fC d) := PE.imp h fun σ H Q ⟨ρ, M, σa, mo, rs, p⟩ => p ρ H v (Stp.refl mo) (r _ _ _)
theorem qe_int {i j pos} : QE S W X (.Constant (.int i) j pos) (fC (.int i)) := qe_c pe_int fun _ _ _ => .int i
theorem qe_bl {i j pos} : QE S W X (.Constant (.bool i) j pos) (fC (.bl i)) := qe_c pe_bl fun _ _ _ => .bl i
theorem qe_non {j pos} : QE S W X (.Constant .none j pos) (fC .non) := qe_c pe_non fun _ _ _ => .non
theorem qe_str {i j pos} : QE S W X (.Constant (.str i) j pos) (fC (.str i)) := qe_c pe_str fun _ _ _ => .str i
theorem qe_gint {x : Str} {i : Int} (h : PE X e (tC (.int i))) : QE S W X e (fC (.int i)) := qe_c h fun _ _ _ => .int i
theorem qe_adr {v : V} (h : PE X e (tC v)) : QE S W X e (fC (.adr v)) := qe_c h fun _ _ _ => .adr v
def fBin (g : D → D → Mem → Res D) (fa fb : F D) : F D := fun σ M => (fa σ M).bind fun x M1 => (fb σ M1).bind fun y M2 => g x y M2
def OpQ (S : Sc) (r : R2) (g : D → D → Mem → Res D) : Prop := ∀ (W : WX) (σ : L2.St) (ρ : List Addr) (H : Hp) (M : Mem) (x y : V) (dx dy : D) (Q : VK), MemOk S ρ H M → Rep S.K ρ H x dx → Rep S.K ρ H y dy → Post S W (Rep S.K) σ ρ H Q (g dx dy M) → r x y H Q
theorem bin_imp {r : R2} {g : D → D → Mem → Res D} {fa fb : F D} (hq : OpQ S r g) {σ : L2.St} {H : Hp} {Q : VK} (h : tOf S W (Rep S.K) (fBin g fa fb) σ H Q) : tOp r (tOf S W (Rep S.K) fa) (tOf S W (Rep S.K) fb) σ H Q := by
  obtain ⟨ρ, M, σa, mo, rs, p⟩ := h
  exact use mo rs p fun x M1 ρ1 H1 v st1 r1 rs1 p1 => use st1.2 rs1 p1 fun y M2 ρ2 H2 u st2 r2 rs2 p2 => hq _ _ _ _ _ _ _ _ _ _ st2.2 (Rep.mono st2.1 _ _ r1) r2 p2
variable {fa fb fc : F D}
theorem qe_bin {op : Operator} {r : R2} {g : D → D → Mem → Res D} (ho : OpR X (binaryOp op) r) (hq : OpQ S r g) (ha : QE S W X a fa) (hb : QE S W X b fb) : QE S W X (.BinOp a op b pos) (fBin g fa fb) :=
  PE.imp (pe_op ho ha hb) fun _ _ _ h => bin_imp hq h
theorem qe_cmp {op : CmpOp} {r : R2} {g : D → D → Mem → Res D} (ho : OpR X (compareOp op) r) (hq : OpQ S r g) (ha : QE S W X a fa) (hb : QE S W X b fb) (hm : behindInMarks op b = false) : QE S W X (.Compare a [op] [b] pos) (fBin g fa fb) :=
  PE.imp (pe_cmpR ho ha hb hm) fun _ _ _ h => bin_imp hq h
def fTest (f : F D) : F Bool := fun σ M => (f σ M).bind fun d M1 => match d with | .bl b => .ok b M1 | _ => .bad
theorem test_imp {f : F D} {σ : L2.St} {H : Hp} {Q : Bool → Hp → Prop} (h : tOf S W REq (fTest f) σ H Q) : tOf S W (Rep S.K) f σ H fun x H' => ∃ k, x = .bl k ∧ Q k H' := by
  obtain ⟨ρ, M, σa, mo, rs, p⟩ := h
  refine use mo rs p fun x M1 ρ1 H1 v st1 r1 rs1 p1 => ?_
  cases x with
  | bl b =>
    cases r1
    exact ⟨b, rfl, p1 ρ1 H1 b (Stp.refl st1.2) rfl⟩
  | _ => exact False.elim p1
theorem qt_cmp {op : CmpOp} {r : R2} {g : D → D → Mem → Res D} (ho : OpR X (compareOp op) r) (hq : OpQ S r g) (ha : QE S W X a fa) (hb : QE S W X b fb) (hm : behindInMarks op b = false) : QT S W X (.Compare a [op] [b] pos) (fTest (fBin g fa fb)) :=
  PT.imp (pt_cmpR ho ha hb hm) fun _ _ _ h => bin_imp hq (test_imp h)
theorem qt_val (h : QE S W X a fa) (he : ∀ whole, isTrue a X.env whole = (do let v ← whole; standAt a.pos; holding [v] (truthy v)) := by intro _; rfl) : QT S W X a (fTest fa) := PT.imp (pt_val h he) fun _ _ _ h => test_imp h
def fChain (g g' : D → D → Mem → Res D) (fa fb fc : F D) : F D := fun σ M => (fa σ M).bind fun x M1 => (fb σ M1).bind fun y M2 => (g x y M2).bind fun z M3 => match z with
  | .bl true => (fc σ M3).bind fun w M4 => g' y w M4
  | .bl false => .ok (.bl false) M3
  | _ => .bad
def Flat (g : D → D → Mem → Res D) : Prop := ∀ x y M, (∃ b, g x y M = .ok (.bl b) M) ∨ g x y M = .bad
theorem chain_imp {r r' : R2} {g g' : D → D → Mem → Res D} (hf : Flat g) (hq : OpQ S r g) (hq' : OpQ S r' g') {σ : L2.St} {H : Hp} {Q : VK} (h : tOf S W (Rep S.K) (fChain g g' fa fb fc) σ H Q) : tChain r r' (tOf S W (Rep S.K) fa) (tOf S W (Rep S.K) fb) (tOf S W (Rep S.K) fc) σ H Q := by
  obtain ⟨ρ, M, σa, mo, rs, p⟩ := h
  refine use mo rs p fun x M1 ρ1 H1 v st1 r1 rs1 p1 => use st1.2 rs1 p1 fun y M2 ρ2 H2 u st2 r2 rs2 p2 => ?_
  refine hq W σ ρ2 H2 M2 _ _ _ _ _ st2.2 (Rep.mono st2.1 _ _ r1) r2 ?_
  rcases hf x y M2 with ⟨k, e⟩ | e
  · rw [e] at p2 ⊢
    intro ρ3 H3 w st3 r3
    cases r3
    refine ⟨k, rfl, ?_⟩
    have p3 := Post.mono p2 st3.1
    cases k with
    | false => exact p3 ρ3 H3 _ (Stp.refl st3.2) (.bl false)
    | true =>
      refine use st3.2 (rs2.mono st3.1) p3 fun z M4 ρ4 H4 w' st4 r4 rs4 p4 => ?_
      exact hq' W σ ρ4 H4 M4 _ _ _ _ _ st4.2 (Rep.mono (st3.1.trans st4.1) _ _ r2) r4 p4
  · rw [e] at p2
    exact p2.elim
theorem qe_chain {op op' : CmpOp} {r r' : R2} {g g' : D → D → Mem → Res D} (ho : OpR X (compareOp op) r) (ho' : OpR X (compareOp op') r') (hf : Flat g) (hq : OpQ S r g) (hq' : OpQ S r' g') (ha : QE S W X a fa) (hb : QE S W X b fb) (hc : QE S W X c fc)
    (hm : lastMarks [op, op'] [b, c] = false := by with_unfolding_all rfl) : QE S W X (.Compare a [op, op'] [b, c] pos) (fChain g g' fa fb fc) := PE.imp (pe_chain ho ho' ha hb hc hm) fun _ _ _ h => chain_imp hf hq hq' h
theorem qt_chain {op op' : CmpOp} {r r' : R2} {g g' : D → D → Mem → Res D} (ho : OpR X (compareOp op) r) (ho' : OpR X (compareOp op') r') (hf : Flat g) (hq : OpQ S r g) (hq' : OpQ S r' g') (ha : QE S W X a fa) (hb : QE S W X b fb) (hc : QE S W X c fc)
    (hm : lastMarks [op, op'] [b, c] = false := by with_unfolding_all rfl) : QT S W X (.Compare a [op, op'] [b, c] pos) (fTest (fChain g g' fa fb fc)) := PT.imp (pt_chain ho ho' ha hb hc hm) fun _ _ _ h => chain_imp hf hq hq' (test_imp h)
variable {ga gb : F Bool} {rest : List Expr}
def fAndT (ga gb : F Bool) : F Bool := fun σ M => (ga σ M).bind fun c M1 => if c = true then gb σ M1 else .ok false M1
def fOrT (ga gb : F Bool) : F Bool := fun σ M => (ga σ M).bind fun c M1 => if c = true then .ok true M1 else gb σ M1
def fNotT (ga : F Bool) : F Bool := fun σ M => (ga σ M).bind fun c M1 => .ok (!c) M1
theorem qw_and1 (ha : QT S W X a ga) : QW S W X (.BoolOp .And [a] pos) ga := pw_and1 ha
theorem qw_or1 (ha : QT S W X a ga) : QW S W X (.BoolOp .Or [a] pos) ga := pw_or1 ha
theorem qw_and (ha : QT S W X a ga) (hb : QW S W X (.BoolOp .And (b :: rest) pos) gb) : QW S W X (.BoolOp .And (a :: b :: rest) pos) (fAndT ga gb) := PW.imp (pw_and ha hb) fun σ H Q ⟨ρ, M, σa, mo, rs, p⟩ => by
  refine use mo rs p fun x M1 ρ1 H1 v st1 r1 rs1 p1 => ?_
  cases (show v = x from r1)
  cases x with
  | true => exact ⟨ρ1, M1, σa, st1.2, rs1, p1⟩
  | false => exact p1 ρ1 H1 _ (Stp.refl st1.2) rfl
theorem qw_or (ha : QT S W X a ga) (hb : QW S W X (.BoolOp .Or (b :: rest) pos) gb) : QW S W X (.BoolOp .Or (a :: b :: rest) pos) (fOrT ga gb) := PW.imp (pw_or ha hb) fun σ H Q ⟨ρ, M, σa, mo, rs, p⟩ => by
  refine use mo rs p fun x M1 ρ1 H1 v st1 r1 rs1 p1 => ?_
  cases (show v = x from r1)
  cases x with
  | false => exact ⟨ρ1, M1, σa, st1.2, rs1, p1⟩
  | true => exact p1 ρ1 H1 _ (Stp.refl st1.2) rfl
theorem qt_pw (h : QW S W X a ga) : QT S W X a ga := PW.pt h
theorem qt_not (ha : QT S W X a ga) : QT S W X (.UnaryOp .Not a pos) (fNotT ga) := PT.imp (pt_not ha) fun σ H Q ⟨ρ, M, σa, mo, rs, p⟩ => by
  refine use mo rs p fun x M1 ρ1 H1 v st1 r1 rs1 p1 => ?_
  cases (show v = x from r1)
  exact p1 ρ1 H1 _ (Stp.refl st1.2) rfl
def fAnd (fa fb : F D) : F D := fun σ M => (fa σ M).bind fun x M1 => match x with | .bl true => fb σ M1 | .bl false => .ok (.bl false) M1 | _ => .bad
def fOr (fa fb : F D) : F D := fun σ M => (fa σ M).bind fun x M1 => match x with | .bl true => .ok (.bl true) M1 | .bl false => fb σ M1 | _ => .bad
def fNot (fa : F D) : F D := fun σ M => (fa σ M).bind fun x M1 => match x with | .bl b => .ok (.bl (!b)) M1 | _ => .bad
theorem qe_one {op} (h : QE S W X a fa) : QE S W X (.BoolOp op [a] pos) fa := pe_one h
theorem qe_and (ha : QE S W X a fa) (hb : QE S W X (.BoolOp .And (b :: rest) pos) fb) : QE S W X (.BoolOp .And (a :: b :: rest) pos) (fAnd fa fb) := PE.imp (pe_and ha hb) fun σ H Q ⟨ρ, M, σa, mo, rs, p⟩ => by
  refine use mo rs p fun x M1 ρ1 H1 v st1 r1 rs1 p1 => ?_
  cases x with
  | bl k =>
    cases r1
    refine ⟨k, rfl, ?_⟩
    cases k with
    | true => exact ⟨ρ1, M1, σa, st1.2, rs1, p1⟩
    | false => exact p1 ρ1 H1 _ (Stp.refl st1.2) (.bl false)
  | _ => exact False.elim p1
theorem qe_or (ha : QE S W X a fa) (hb : QE S W X (.BoolOp .Or (b :: rest) pos) fb) : QE S W X (.BoolOp .Or (a :: b :: rest) pos) (fOr fa fb) := PE.imp (pe_or ha hb) fun σ H Q ⟨ρ, M, σa, mo, rs, p⟩ => by
  refine use mo rs p fun x M1 ρ1 H1 v st1 r1 rs1 p1 => ?_
  cases x with
  | bl k =>
    cases r1
    refine ⟨k, rfl, ?_⟩
    cases k with
    | false => exact ⟨ρ1, M1, σa, st1.2, rs1, p1⟩
    | true => exact p1 ρ1 H1 _ (Stp.refl st1.2) (.bl true)
  | _ => exact False.elim p1
theorem qe_not (ha : QE S W X a fa) : QE S W X (.UnaryOp .Not a pos) (fNot fa) := PE.imp (pe_not ha) fun σ H Q ⟨ρ, M, σa, mo, rs, p⟩ => by
  refine use mo rs p fun x M1 ρ1 H1 v st1 r1 rs1 p1 => ?_
  cases x with
  | bl k =>
    cases r1
    exact ⟨k, rfl, p1 ρ1 H1 _ (Stp.refl st1.2) (.bl _)⟩
  | _ => exact False.elim p1
def fIf (g : F Bool) (fa fb : F D) : F D := fun σ M => (g σ M).bind fun c M1 => if c = true then fa σ M1 else fb σ M1
theorem qe_if (hc : QT S W X c ga) (ha : QE S W X a fa) (hb : QE S W X b fb) : QE S W X (.IfExp c a b pos) (fIf ga fa fb) := PE.imp (pe_ifExp hc ha hb) fun σ H Q ⟨ρ, M, σa, mo, rs, p⟩ => by
  refine use mo rs p fun x M1 ρ1 H1 v st1 r1 rs1 p1 => ?_
  cases (show v = x from r1)
  cases x with
  | true => exact ⟨ρ1, M1, σa, st1.2, rs1, p1⟩
  | false => exact ⟨ρ1, M1, σa, st1.2, rs1, p1⟩
variable {es : List Expr} {fs : F (List D)}
def fNil : F (List D) := fun _ M => .ok [] M
def fCons (fa : F D) (fs : F (List D)) : F (List D) := fun σ M => (fa σ M).bind fun x M1 => (fs σ M1).bind fun xs M2 => .ok (x :: xs) M2
theorem qa_nil : QA S W X [] fNil := PA.imp pa_nil fun σ H Q ⟨ρ, M, σa, mo, rs, p⟩ => p ρ H [] (Stp.refl mo) .nil
theorem qa_cons (ha : QE S W X e fa) (hr : QA S W X es fs) (hs : starEach (e :: es) X.env = (false, eval e X.env) :: starEach es X.env := by rfl) : QA S W X (e :: es) (fCons fa fs) := PA.imp (pa_cons ha hr hs) fun σ H Q ⟨ρ, M, σa, mo, rs, p⟩ =>
  use mo rs p fun x M1 ρ1 H1 v st1 r1 rs1 p1 => use st1.2 rs1 p1 fun y M2 ρ2 H2 u st2 r2 rs2 p2 => p2 ρ2 H2 _ (Stp.refl st2.2) (.cons (Rep.mono st2.1 _ _ r1) r2)
abbrev few (n : Nat) : Bool := Nat.ble n 16777216
theorem few_ok {n : Nat} (h : few n = true) : n ≤ sizeLine := by rw [sizeLine_eq]; exact Nat.le_of_ble_eq_true h
theorem ok_few {n : Nat} (h : n ≤ sizeLine) : few n = true := by rw [sizeLine_eq] at h; exact Nat.ble_eq_true_of_le h
def fTup (fs : F (List D)) : F D := fun σ M => (fs σ M).bind fun ds M1 => if few ds.length = true then .ok (.tup ds) M1 else .bad
def fLst (fs : F (List D)) : F D := fun σ M => (fs σ M).bind fun ds M1 => if few ds.length = true then .ok (.lst ds) M1 else .bad
def fNew (fs : F (List D)) : F D := fun σ M => (fs σ M).bind fun ds M1 => if few ds.length = true then .ok (.ref M1.length) (M1 ++ [.lst ds]) else .bad
theorem rep_tup {ρ : List Addr} {H : Hp} {M : Mem} {p : Addr} {o : Obj} {xs : List V} {ds : List D} (m : MemOk S ρ H M) (h : H p = none) (ho : o.dict = none) (r : RepA S.K ρ H xs ds) : Rep S.K ρ (upd H p (.frz o (.tup xs))) (.ref p) (.tup ds) :=
  .tup ⟨o, ho, upd_same⟩ (m.new h) (RepA.mono (Ext.fresh h) _ _ r)
theorem rep_lst {ρ : List Addr} {H : Hp} {M : Mem} {p : Addr} {xs : List V} {ds : List D} (m : MemOk S ρ H M) (h : H p = none) (r : RepA S.K ρ H xs ds) : Rep S.K ρ (upd H p (.lst xs)) (.ref p) (.lst ds) :=
  .lst upd_same (m.new h) (RepA.mono (Ext.fresh h) _ _ r)
theorem rep_new {ρ : List Addr} {H H' : Hp} {M : Mem} {p : Addr} (m : MemOk S ρ H M) : Rep S.K (ρ ++ [p]) H' (.ref p) (.ref M.length) := by
  refine .ref ?_
  rw [← m.len, List.getElem?_append_right (Nat.le_refl _), Nat.sub_self]
  rfl
theorem qe_tup {x1} (h : QA S W X es fs) : QE S W X (.Tuple es x1 pos) (fTup fs) := PE.imp (pe_tupF h) fun σ H Q ⟨ρ, M, σa, mo, rs, p⟩ => by
  refine use mo rs p fun ds M1 ρ1 H1 vs st1 r1 rs1 p1 => ?_
  split at p1
  · rename_i hf
    exact ⟨by rw [r1.len]; exact few_ok hf, fun q o hq ho => p1 ρ1 _ _ (Stp.fresh st1.2 hq) (rep_tup st1.2 hq ho r1)⟩
  · exact p1.elim
theorem qe_lst (h : QA S W X es fs) : QE S W X (.List es pos) (fLst fs) := PE.imp (pe_lst h) fun σ H Q ⟨ρ, M, σa, mo, rs, p⟩ => by
  refine use mo rs p fun ds M1 ρ1 H1 vs st1 r1 rs1 p1 => ?_
  split at p1
  · rename_i hf
    exact ⟨by rw [r1.len]; exact few_ok hf, fun q hq => p1 ρ1 _ _ (Stp.fresh st1.2 hq) (rep_lst st1.2 hq r1)⟩
  · exact p1.elim
theorem qe_new (h : QA S W X es fs) : QE S W X (.List es pos) (fNew fs) := PE.imp (pe_lst h) fun σ H Q ⟨ρ, M, σa, mo, rs, p⟩ => by
  refine use mo rs p fun ds M1 ρ1 H1 vs st1 r1 rs1 p1 => ?_
  split at p1
  · rename_i hf
    exact ⟨by rw [r1.len]; exact few_ok hf, fun q hq => p1 (ρ1 ++ [q]) _ _ (Stp.alloc st1.2 hq r1) (rep_new st1.2)⟩
  · exact p1.elim
end
def listOf (M : Mem) : D → Option (List D)
  | .lst ds => some ds
  | .ref n => match M[n]? with | some (.lst ds) => some ds | _ => none
  | _ => none
def seqOf (M : Mem) : D → Option (List D)
  | .tup ds => some ds
  | .scr ns => some (ns.map .int)
  | d => listOf M d
section
variable {S : Sc} {ρ : List Addr} {H : Hp} {M : Mem} {v : V} {d : D} {ds : List D}
theorem list_of (m : MemOk S ρ H M) (r : Rep S.K ρ H v d) (h : listOf M d = some ds) : ∃ a xs, v = .ref a ∧ H a = some (.lst xs) ∧ RepA S.K ρ H xs ds := by
  cases r with
  | lst e n ra => cases h; exact ⟨_, _, rfl, e, ra⟩
  | ref e =>
    rename_i a n
    unfold listOf at h
    dsimp only at h
    split at h
    · rename_i ds' hm
      cases h
      obtain ⟨xs, e1, ra⟩ := m.cell n a _ e hm
      exact ⟨a, xs, rfl, e1, ra⟩
    · cases h
  | _ => cases h
theorem scr_sq {K : PySem.W.Frag} {a : Addr} {ns : List Int} (h : ScrAt K ρ H a ns) : SqL K H a (ns.map V.int) := by
  rcases h with ⟨h, _⟩ | h
  · exact .inl h
  · exact .inr h
theorem seq_of (m : MemOk S ρ H M) (r : Rep S.K ρ H v d) (h : seqOf M d = some ds) : ∃ a xs, v = .ref a ∧ (SqL S.K H a xs ∨ SqT S.K H a xs) ∧ RepA S.K ρ H xs ds := by
  cases r with
  | tup f n ra =>
    cases h
    obtain ⟨o, _, e⟩ := f
    exact ⟨_, _, rfl, .inr (.inl (.inr ⟨o, e⟩)), ra⟩
  | scr f =>
    cases h
    exact ⟨_, _, rfl, .inl (scr_sq f), RepA.ints _⟩
  | lst e n ra => cases h; exact ⟨_, _, rfl, .inl (SqL.of e), ra⟩
  | ref e =>
    obtain ⟨a, xs, e0, e1, ra⟩ := list_of m (.ref e) h
    exact ⟨a, xs, e0, .inl (SqL.of e1), ra⟩
  | _ => cases h
theorem tup_of (r : Rep S.K ρ H v (.tup ds)) : ∃ a xs, v = .ref a ∧ SqT S.K H a xs ∧ RepA S.K ρ H xs ds ∧ FzT H a xs ∧ a ∉ ρ := by
  cases r with
  | tup f n ra =>
    obtain ⟨o, h1, e⟩ := id f
    exact ⟨_, _, rfl, .inl (.inr ⟨o, e⟩), ra, f, n⟩
theorem RepA.atI {xs : List V} {i : Int} (r : RepA S.K ρ H xs ds) (h : L2.atI ds i = some d) : ∃ v, L2.atI xs i = some v ∧ Rep S.K ρ H v d := by
  unfold L2.atI at h ⊢
  rw [r.len]
  cases e : ixN ds.length i with
  | none => rw [e] at h; cases h
  | some j => rw [e] at h; exact r.at h
end
def gIx : D → D → Mem → Res D
  | .str z, .int i, M => if few z.length = true then match atI z.cps.toList i with | some c => .ok (.str ⟨#[c]⟩) M | none => .bad else .bad
  | d, .int i, M => match seqOf M d with | some ds => (match atI ds i with | some d => .ok d M | none => .bad) | none => .bad
  | _, _, _ => .bad
theorem oq_ix {S : Sc} : OpQ S (rIx S.K) gIx := by
  intro W σ ρ H M x y dx dy Q mo rx ry p
  unfold gIx at p
  split at p
  · cases rx
    cases ry
    split at p
    · rename_i hf
      split at p
      · rename_i c hc
        exact .inr (.inr ⟨_, _, c, rfl, rfl, few_ok hf, hc, p ρ H _ (Stp.refl mo) (.str _)⟩)
      · exact p.elim
    · exact p.elim
  · cases ry
    split at p
    · rename_i ds hs
      split at p
      · rename_i d hd
        obtain ⟨a, xs, rfl, hq, ra⟩ := seq_of mo rx hs
        obtain ⟨v, hv, rv⟩ := ra.atI hd
        rcases hq with hq | hq
        · exact .inl ⟨a, xs, _, v, rfl, rfl, hq, hv, p ρ H v (Stp.refl mo) rv⟩
        · exact .inr (.inl ⟨a, xs, _, v, rfl, rfl, hq, hv, p ρ H v (Stp.refl mo) rv⟩)
      · exact p.elim
    · exact p.elim
  · exact p.elim
theorem qe_ix {X : Cx} {S : Sc} {W : WX} {a b : Expr} {pos : Pos} {fa fb : F D} (hk : X.K = S.K) (ha : QE S W X a fa) (hb : QE S W X b fb) (hs : PlainIx b := by exact fun _ _ => rfl) : QE S W X (.Subscript a b pos) (fBin gIx fa fb) := by
  have h : IxR X (rIx S.K) := hk ▸ ix_seq
  exact PE.imp (pe_ix h ha hb hs) fun _ _ _ h => bin_imp oq_ix h
section
variable {X : Cx} {S : Sc} {W : WX} {e : Expr} {lo hi : Option Expr} {p2 pos : Pos} {fe : F D} {fl fh : F (Option Int)}
abbrev QO (S : Sc) (W : WX) (X : Cx) (e : Option Expr) (f : F (Option Int)) : Prop := PO X e (tOf S W REq f)
theorem PO.imp {e : Option Expr} {t t' : TO} (h : PO X e t) (w : ∀ σ H Q, t' σ H Q → t σ H Q) : PO X e t' := ⟨fun pins s σ H Q I q => h.run pins s σ H Q I (w σ H Q q)⟩
def fNoPart : F (Option Int) := fun _ M => .ok none M
def fPart (f : F D) : F (Option Int) := fun σ M => (f σ M).bind fun d M1 => match d with | .int i => .ok (some i) M1 | _ => .bad
theorem qo_none : QO S W X none fNoPart := PO.imp po_none fun σ H Q ⟨ρ, M, σa, mo, rs, p⟩ => p ρ H none (Stp.refl mo) rfl
theorem qo_some (h : QE S W X e fe) : QO S W X (some e) (fPart fe) := PO.imp (po_some h) fun σ H Q ⟨ρ, M, σa, mo, rs, p⟩ => by
  refine use mo rs p fun x M1 ρ1 H1 v st1 r1 rs1 p1 => ?_
  cases x with
  | int i =>
    cases r1
    exact ⟨i, rfl, p1 ρ1 H1 _ (Stp.refl st1.2) rfl⟩
  | _ => exact False.elim p1
def cutD (ds : List D) (lo hi : Option Int) : List D := (ds.drop (HT.sIx ds.length 0 lo)).take (HT.sIx ds.length ds.length hi - HT.sIx ds.length 0 lo)
theorem RepA.cut {K : PySem.W.Frag} {ρ : List Addr} {H : Hp} {xs : List V} {ds : List D} (r : RepA K ρ H xs ds) (lo hi : Option Int) : RepA K ρ H (cutV xs lo hi) (cutD ds lo hi) := by
  unfold cutV cutD
  rw [r.len]
  exact (r.drop _).take _
theorem cutV_whole {xs : List V} {lo hi : Option Int} (h : HT.sIx xs.length 0 lo = 0 ∧ HT.sIx xs.length xs.length hi = xs.length) : cutV xs lo hi = xs := by
  unfold cutV
  rw [h.1, h.2]
  simp
def gSl (d : D) (lo hi : Option Int) (M : Mem) : Res D := match d with
  | .tup ds => .ok (.tup (cutD ds lo hi)) M
  | d => match listOf M d with | some ds => .ok (.lst (cutD ds lo hi)) M | none => .bad
def fSl (fe : F D) (fl fh : F (Option Int)) : F D := fun σ M => (fe σ M).bind fun d M1 => (fl σ M1).bind fun l M2 => (fh σ M2).bind fun h M3 => gSl d l h M3
theorem qe_sl (hk : X.K = S.K) (he : QE S W X e fe) (hl : QO S W X lo fl) (hh : QO S W X hi fh) : QE S W X (.Subscript e (.Slice lo hi none p2) pos) (fSl fe fl fh) := by
  have h : SlR X (fun x lo hi H Q => rSlF S.K x lo hi H Q ∨ rSlL S.K x lo hi H Q) := (hk ▸ sl_tupF : SlR X (rSlF S.K)).or (hk ▸ sl_list : SlR X (rSlL S.K))
  refine PE.imp (pe_slice h he hl hh) fun σ H Q ⟨ρ, M, σa, mo, rs, p⟩ => ?_
  refine use mo rs p fun d M1 ρ1 H1 v st1 r1 rs1 p1 => use st1.2 rs1 p1 fun l M2 ρ2 H2 l' st2 r2 rs2 p2 => use st2.2 rs2 p2 fun u M3 ρ3 H3 u' st3 r3 rs3 p3 => ?_
  cases (show l' = l from r2)
  cases (show u' = u from r3)
  have r := Rep.mono (st2.1.trans st3.1) _ _ r1
  have mo3 := st3.2
  unfold gSl at p3
  split at p3
  · obtain ⟨a, xs, rfl, hq, ra, hf, na⟩ := tup_of r
    refine .inl ⟨a, xs, rfl, hq, fun hw => ?_, fun _ q o hq ho => p3 ρ3 _ _ (Stp.fresh mo3 hq) (rep_tup mo3 hq ho (ra.cut _ _))⟩
    have rc := ra.cut l u
    rw [cutV_whole hw] at rc
    exact p3 ρ3 H3 _ (Stp.refl mo3) (.tup hf na rc)
  · split at p3
    · rename_i ds hs
      obtain ⟨a, xs, rfl, e1, ra⟩ := list_of mo3 r hs
      exact .inr ⟨a, xs, rfl, SqL.of e1, fun q hq => p3 ρ3 _ _ (Stp.fresh mo3 hq) (rep_lst mo3 hq (ra.cut _ _))⟩
    · exact p3.elim
end
end QX
set_option maxRecDepth 100000
set_option maxHeartbeats 1000000
namespace QX
open PySem PySem.Spec PyProof.Rows L2 HX
mutual
def D.beq : D → D → Bool
  | .non, .non => true
  | .bl a, .bl b => a == b
  | .int a, .int b => a == b
  | .str a, .str b => decide (a = b)
  | .tup a, .tup b => D.beqA a b
  | .lst a, .lst b => D.beqA a b
  | .dct k a, .dct l b => decide (k = l) && D.beqA a b
  | .scr a, .scr b => decide (a = b)
  | .ref a, .ref b => a == b
  | .adr a, .adr b => decide (a = b)
  | _, _ => false
def D.beqA : List D → List D → Bool
  | [], [] => true
  | a :: as, b :: bs => D.beq a b && D.beqA as bs
  | _, _ => false
end
mutual
theorem D.beq_eq : ∀ (a b : D), D.beq a b = true → a = b
  | .non, b, h => by cases b <;> first | rfl | (simp [D.beq] at h)
  | .bl a, b, h => by cases b <;> first | (simp [D.beq] at h; done) | (simp [D.beq] at h; rw [h])
  | .int a, b, h => by cases b <;> first | (simp [D.beq] at h; done) | (simp [D.beq] at h; rw [h])
  | .str a, b, h => by cases b <;> first | (simp [D.beq] at h; done) | (simp [D.beq] at h; rw [h])
  | .tup a, b, h => by cases b <;> first | (simp [D.beq] at h; done) | (simp only [D.beq] at h; rw [D.beqA_eq _ _ h])
  | .lst a, b, h => by cases b <;> first | (simp [D.beq] at h; done) | (simp only [D.beq] at h; rw [D.beqA_eq _ _ h])
  | .dct k a, b, h => by cases b <;> first | (simp [D.beq] at h; done) | (simp only [D.beq, Bool.and_eq_true, decide_eq_true_eq] at h; rw [h.1, D.beqA_eq _ _ h.2])
  | .scr a, b, h => by cases b <;> first | (simp [D.beq] at h; done) | (simp [D.beq] at h; rw [h])
  | .ref a, b, h => by cases b <;> first | (simp [D.beq] at h; done) | (simp [D.beq] at h; rw [h])
  | .adr a, b, h => by cases b <;> first | (simp [D.beq] at h; done) | (simp [D.beq] at h; rw [h])
theorem D.beqA_eq : ∀ (as bs : List D), D.beqA as bs = true → as = bs
  | [], b, h => by cases b <;> first | rfl | (simp [D.beqA] at h)
  | a :: as, b, h => by
    cases b with
    | nil => simp [D.beqA] at h
    | cons b bs =>
      simp only [D.beqA, Bool.and_eq_true] at h
      rw [D.beq_eq _ _ h.1, D.beqA_eq _ _ h.2]
end
inductive Im where
  | d (d : D) | pr (ds : List D)
def RepI (K : PySem.W.Frag) (ρ : List Addr) (H : Hp) (v : V) : Im → Prop
  | .d d => Rep K ρ H v d
  | .pr ds => ∃ a xs, v = .ref a ∧ SqT K H a xs ∧ RepA K ρ H xs ds
structure Ita where
  items : List Im
  chk : Mem → Bool
structure ItaOk (S : Sc) (ρ : List Addr) (H : Hp) (J : It) (it : Ita) : Prop where
  go : ∀ ρ' H' M' i, Ext ρ H ρ' H' → MemOk S ρ' H' M' → it.chk M' = true → i < it.items.length → J.go i H'
  stop : ∀ ρ' H' M', Ext ρ H ρ' H' → MemOk S ρ' H' M' → it.chk M' = true → J.stop it.items.length H'
  yld : ∀ ρ' H' M' i x H2, Ext ρ H ρ' H' → MemOk S ρ' H' M' → it.chk M' = true → i < it.items.length → J.yld i H' x H2 → ∃ im, it.items[i]? = some im ∧ Stp S ρ' H' ρ' H2 M' ∧ RepI S.K ρ' H2 x im
abbrev QI (S : Sc) (W : WX) (X : Cx) (tg e : Expr) (f : F Ita) : Prop := PI X tg e (tOf S W (fun ρ H J it => ItaOk S ρ H J it) f)
def chkOf (n : Nat) (ds : List D) : Mem → Bool := fun M => match M[n]? with | some (.lst es) => D.beqA es ds | _ => false
def seqI (M : Mem) : D → Option (List D × (Mem → Bool))
  | .tup ds => some (ds, fun _ => true)
  | .lst ds => some (ds, fun _ => true)
  | .scr ns => some (ns.map .int, fun _ => true)
  | .ref n => match M[n]? with | some (.lst ds) => some (ds, chkOf n ds) | _ => none
  | _ => none
def SeqIOk (S : Sc) (ρ : List Addr) (H : Hp) (k : Ki) (a : Addr) (ds : List D) (chk : Mem → Bool) : Prop :=
  ∀ ρ' H' M', Ext ρ H ρ' H' → MemOk S ρ' H' M' → chk M' = true → ∃ xs, SqK S.K H' k a xs ∧ RepA S.K ρ' H' xs ds
theorem seqI_ok {S : Sc} {ρ : List Addr} {H : Hp} {M : Mem} {v : V} {d : D} {ds : List D} {chk : Mem → Bool} (m : MemOk S ρ H M) (r : Rep S.K ρ H v d) (h : seqI M d = some (ds, chk)) :
    ∃ k a xs, v = .ref a ∧ SqK S.K H k a xs ∧ SeqIOk S ρ H k a ds chk := by
  cases r with
  | tup f n ra =>
    cases h
    obtain ⟨o, h1, e⟩ := id f
    refine ⟨.t, _, _, rfl, .inl (.inr ⟨o, e⟩), fun ρ' H' M' ex mo _ => ⟨_, .inl (.inr ⟨o, ex.keep _ _ e n fun _ z => nomatch z⟩), RepA.mono ex _ _ ra⟩⟩
  | lst e n ra =>
    cases h
    exact ⟨.l, _, _, rfl, SqL.of e, fun ρ' H' M' ex mo _ => ⟨_, SqL.of (ex.keep _ _ e n fun _ z => nomatch z), RepA.mono ex _ _ ra⟩⟩
  | scr f =>
    cases h
    exact ⟨.l, _, _, rfl, scr_sq f, fun ρ' H' M' ex mo _ => ⟨_, scr_sq (f.ext ex), RepA.ints _⟩⟩
  | ref e =>
    rename_i a n
    unfold seqI at h
    dsimp only at h
    split at h
    · rename_i ds' hm
      cases h
      obtain ⟨xs, e1, ra⟩ := m.cell n a _ e hm
      refine ⟨.l, a, xs, rfl, SqL.of e1, fun ρ' H' M' ex mo hc => ?_⟩
      unfold chkOf at hc
      split at hc
      · rename_i es he
        obtain rfl := D.beqA_eq _ _ hc
        obtain ⟨ys, e2, rb⟩ := mo.cell n a _ (ex.at e) he
        exact ⟨ys, SqL.of e2, rb⟩
      · cases hc
    · cases h
  | _ => cases h
section
variable {X : Cx} {S : Sc} {W : WX} {tg e e2 e3 : Expr} {pos p tpos : Pos} {fe : F D} {fs : F (List D)}
def gIter (d : D) (M : Mem) : Res Ita := match seqI M d with | some (ds, chk) => .ok ⟨ds.map .d, chk⟩ M | none => .bad
def fIter (fe : F D) : F Ita := fun σ M => (fe σ M).bind gIter
def ItK (K : PySem.W.Frag) (a : Addr) : Ki → It
  | .l => Itl K a
  | .t => Itt K a
def iSeq (K : PySem.W.Frag) (tl : TE) : TI := fun σ H R => tl σ H fun x H1 => ∃ k a xs, x = .ref a ∧ SqK K H1 k a xs ∧ R (ItK K a k) H1
theorem pi_seq {l : Expr} {tl : TE} (hl : PE X l tl) : PI X tg l (iSeq X.K tl) := by
  refine ⟨fun pins s σ H R I h => ?_⟩
  refine thn (hl.run pins s σ H _ I h) fun v s1 ⟨x, H1, I1, r1, q1⟩ => ?_
  obtain ⟨k, a, xs, e, hq, q⟩ := q1
  subst e
  cases r1
  cases k with
  | l =>
    obtain ⟨its, rv, p, hz⟩ := I1.list hq
    refine wpAny_pyIter_list p.isList ?_
    refine ⟨s1.heap.objs.size, [s1.heap.objs.size], _, _, H1, rfl, I1.kept (t' := s1.toks) fun b o e => Heap.get?_push_of_some _ e, turn_list a _, ⟨_, Heap.get?_push_size _ rfl, rfl, rfl⟩, fun b hb => ?_, q⟩
    have e : b = s1.heap.objs.size := by simpa using hb
    subst e
    exact I1.fpOk (Nat.le_refl _) (I1.hok.fresh (Nat.le_refl _))
  | t =>
    obtain ⟨its, rv, p, hz⟩ := I1.tuple hq
    refine wpAny_pyIter_tuple (show s1.heap.IsTuple a its.toArray from p) ?_
    refine ⟨s1.heap.objs.size, [s1.heap.objs.size], _, _, H1, rfl, I1.kept (t' := s1.toks) fun b o e => Heap.get?_push_of_some _ e, turn_tuple a _, ⟨_, Heap.get?_push_size _ rfl, rfl, rfl⟩, fun b hb => ?_, q⟩
    have e : b = s1.heap.objs.size := by simpa using hb
    subst e
    exact I1.fpOk (Nat.le_refl _) (I1.hok.fresh (Nat.le_refl _))
theorem at_of {S : Sc} {ρ : List Addr} {H : Hp} {xs : List V} {ds : List D} {i : Nat} (r : RepA S.K ρ H xs ds) (h : i < ds.length) : ∃ v d, xs[i]? = some v ∧ ds[i]? = some d ∧ Rep S.K ρ H v d := by
  obtain ⟨v, h1, h2⟩ := r.at (List.getElem?_eq_getElem h)
  exact ⟨v, _, h1, List.getElem?_eq_getElem h, h2⟩
theorem ok_iter {ρ : List Addr} {H : Hp} {k : Ki} {a : Addr} {ds : List D} {chk : Mem → Bool} (s : SeqIOk S ρ H k a ds chk) : ItaOk S ρ H (ItK S.K a k) ⟨ds.map .d, chk⟩ := by
  refine ⟨fun ρ' H' M' i ex mo hc hi => ?_, fun ρ' H' M' ex mo hc => ?_, fun ρ' H' M' i x H2 ex mo hc hi y => ?_⟩
  all_goals obtain ⟨xs, hq, ra⟩ := s ρ' H' M' ex mo hc
  · rw [List.length_map] at hi
    obtain ⟨v, d, h1, h2, _⟩ := at_of ra hi
    cases k with
    | l => exact ⟨xs, v, hq, h1⟩
    | t => exact ⟨xs, v, hq, h1⟩
  · show (ItK S.K a k).stop (ds.map Im.d).length H'
    rw [List.length_map, ← ra.len]
    cases k with
    | l => exact ⟨xs, hq, Nat.le_refl _⟩
    | t => exact ⟨xs, hq, Nat.le_refl _⟩
  · rw [List.length_map] at hi
    obtain ⟨v, d, h1, h2, rv⟩ := at_of ra hi
    have e : (ds.map Im.d)[i]? = some (.d d) := by rw [List.getElem?_map, h2]; rfl
    cases k with
    | l =>
      obtain ⟨rfl, y2⟩ := y
      obtain rfl := Option.some.inj ((y2 xs hq).symm.trans h1)
      exact ⟨_, e, Stp.refl mo, rv⟩
    | t =>
      obtain ⟨rfl, y2⟩ := y
      obtain rfl := Option.some.inj ((y2 xs hq).symm.trans h1)
      exact ⟨_, e, Stp.refl mo, rv⟩
theorem qi_seq (hk : X.K = S.K) (he : QE S W X e fe) : QI S W X tg e (fIter fe) := by
  have h : PI X tg e (iSeq S.K (tOf S W (Rep S.K) fe)) := by
    have h := pi_seq (tg := tg) he
    rw [hk] at h
    exact h
  refine PI.imp h fun σ H R ⟨ρ, M, σa, mo, rs, p⟩ => ?_
  refine use mo rs p fun d M1 ρ1 H1 v st1 r1 rs1 p1 => ?_
  unfold gIter at p1
  split at p1
  · rename_i ds chk hs
    obtain ⟨k, a, xs, rfl, hq, ok⟩ := seqI_ok st1.2 r1 hs
    exact ⟨k, a, xs, rfl, hq, p1 ρ1 H1 _ (Stp.refl st1.2) (ok_iter ok)⟩
  · exact p1.elim
def nums (lo : Int) : Nat → List Im
  | 0 => []
  | n + 1 => .d (.int lo) :: nums (lo + 1) n
theorem nums_len : ∀ (n : Nat) (lo : Int), (nums lo n).length = n
  | 0, _ => rfl
  | n + 1, lo => by rw [nums, List.length_cons, nums_len n]
theorem nums_at : ∀ (n : Nat) (lo : Int) (i : Nat), i < n → (nums lo n)[i]? = some (.d (.int (lo + i)))
  | n + 1, lo, 0, _ => by simp [nums]
  | n + 1, lo, i + 1, h => by
    rw [nums, List.getElem?_cons_succ, nums_at n (lo + 1) i (by omega)]
    congr 3
    omega
theorem ok_range {ρ : List Addr} {H : Hp} {lo : Int} {n : Nat} : ItaOk S ρ H (Itr lo n) ⟨nums lo n, fun _ => true⟩ := by
  refine ⟨fun ρ' H' M' i ex mo hc hi => ?_, fun ρ' H' M' ex mo hc => ?_, fun ρ' H' M' i x H2 ex mo hc hi y => ?_⟩
  · rw [nums_len] at hi; exact hi
  · exact Nat.le_of_eq (nums_len n lo).symm
  · rw [nums_len] at hi
    obtain ⟨rfl, rfl⟩ := y
    exact ⟨_, nums_at n lo i hi, Stp.refl mo, .int _⟩
abbrev mid (i : Int) : Bool := decide (-4611686018427387904 ≤ i) && decide (i < 4611686018427387904)
theorem mid_ok {i : Int} (h : mid i = true) : -(2 ^ 62) ≤ i ∧ i < 2 ^ 62 := by
  rw [Bool.and_eq_true, decide_eq_true_eq, decide_eq_true_eq] at h
  exact ⟨by omega, by omega⟩
def gRange1 : List D → Mem → Res Ita
  | [.int j], M => if mid j = true then .ok ⟨nums 0 j.toNat, fun _ => true⟩ M else .bad
  | _, _ => .bad
def fIt (g : List D → Mem → Res Ita) (fs : F (List D)) : F Ita := fun σ M => (fs σ M).bind g
theorem RepA.one {K : PySem.W.Frag} {ρ : List Addr} {H : Hp} {vs : List V} {d : D} (r : RepA K ρ H vs [d]) : ∃ v, vs = [v] ∧ Rep K ρ H v d := by
  cases r with
  | cons h t => cases t; exact ⟨_, rfl, h⟩
theorem RepA.two {K : PySem.W.Frag} {ρ : List Addr} {H : Hp} {vs : List V} {d d2 : D} (r : RepA K ρ H vs [d, d2]) : ∃ v v2, vs = [v, v2] ∧ Rep K ρ H v d ∧ Rep K ρ H v2 d2 := by
  cases r with
  | cons h t =>
    obtain ⟨v, rfl, h2⟩ := RepA.one t
    exact ⟨_, _, rfl, h, h2⟩
theorem qi_range1 (hg : Gl X "range") (hm : X.mg "range" = none) (ha : QA S W X [e] fs) (hs : starEach [e] X.env = [(false, eval e X.env)] := by rfl) : QI S W X tg (.Call (.Name "range" p) [e] [] pos) (fIt gRange1 fs) := by
  refine PI.imp (pi_range1 hg hm ha hs) fun σ H R ⟨ρ, M, σa, mo, rs, p⟩ => ?_
  refine use mo rs p fun ds M1 ρ1 H1 vs st1 r1 rs1 p1 => ?_
  unfold gRange1 at p1
  split at p1
  · obtain ⟨v, rfl, rv⟩ := RepA.one r1
    cases rv
    split at p1
    · rename_i hm
      exact ⟨_, rfl, (mid_ok hm).1, (mid_ok hm).2, p1 ρ1 H1 _ (Stp.refl st1.2) ok_range⟩
    · exact p1.elim
  · exact p1.elim
def enumI (i : Int) : List D → List Im
  | [] => []
  | a :: as => .pr [.int i, a] :: enumI (i + 1) as
theorem enum_len : ∀ (as : List D) (i : Int), (enumI i as).length = as.length
  | [], _ => rfl
  | a :: as, i => by simp only [enumI, List.length_cons, enum_len as]
theorem enum_at : ∀ (as : List D) (k : Int) (i : Nat) (a : D), as[i]? = some a → (enumI k as)[i]? = some (.pr [.int (k + i), a])
  | x :: as, k, 0, a, h => by simp at h; simp [enumI, h]
  | x :: as, k, i + 1, a, h => by
    rw [enumI, List.getElem?_cons_succ, enum_at as (k + 1) i a (by simpa using h)]
    congr 4
    omega
  | [], _, _, _, h => by simp at h
def gEnum : List D → Mem → Res Ita
  | [a], M => match seqI M a with | some (x, c) => .ok ⟨enumI 0 x, c⟩ M | none => .bad
  | _, _ => .bad
theorem pair_ok {ρ : List Addr} {H : Hp} {M : Mem} {U : Addr} {xs : List V} {ds : List D} (mo : MemOk S ρ H M) (h : H U = none) (r : RepA S.K ρ H xs ds) : Stp S ρ H ρ (upd H U (.tup xs)) M ∧ RepI S.K ρ (upd H U (.tup xs)) (.ref U) (.pr ds) :=
  ⟨Stp.fresh mo h, U, xs, rfl, SqT.of upd_same, RepA.mono (Ext.fresh h) _ _ r⟩
theorem qi_enum {elts : List Expr} {kk : Nat} (hk : X.K = S.K) (hg : Gl X "enumerate") (hm : X.mg "enumerate" = none) (ha : QA S W X [e] fs) (hs : starEach [e] X.env = [(false, eval e X.env)] := by rfl) :
    QI S W X (.Tuple elts kk tpos) (.Call (.Name "enumerate" p) [e] [] pos) (fIt gEnum fs) := by
  have h : PI X (.Tuple elts kk tpos) (.Call (.Name "enumerate" p) [e] [] pos) (iEnumK S.K (tOf S W (RepA S.K) fs)) := by
    have h := pi_enumT (elts := elts) (kk := kk) (tpos := tpos) (p := p) (pos := pos) hg hm ha hs
    rw [hk] at h
    exact h
  refine PI.imp h fun σ H R ⟨ρ, M, σa, mo, rs, p⟩ => ?_
  refine use mo rs p fun ds M1 ρ1 H1 vs st1 r1 rs1 p1 => ?_
  unfold gEnum at p1
  split at p1
  · obtain ⟨v, rfl, rv⟩ := RepA.one r1
    split at p1
    · rename_i x c h1
      obtain ⟨k1, a1, xs1, rfl, q1, ok1⟩ := seqI_ok st1.2 rv h1
      refine ⟨k1, a1, xs1, rfl, q1, p1 ρ1 H1 _ (Stp.refl st1.2) ?_⟩
      refine ⟨fun ρ' H' M' i ex mo hc hi => ?_, fun ρ' H' M' ex mo hc => ?_, fun ρ' H' M' i z H2 ex mo hc hi w => ?_⟩
      all_goals obtain ⟨ys1, e1, ra1⟩ := ok1 ρ' H' M' ex mo hc
      · dsimp only at hi
        rw [enum_len] at hi
        obtain ⟨v1, d1, g1, g1', _⟩ := at_of ra1 hi
        exact ⟨ys1, v1, e1, g1⟩
      · refine ⟨ys1, e1, ?_⟩
        dsimp only
        rw [enum_len, ra1.len]
      · dsimp only at hi ⊢
        rw [enum_len] at hi
        obtain ⟨v1, d1, g1, g1', rr1⟩ := at_of ra1 hi
        obtain ⟨U, u1, rfl, hU, rfl, w1⟩ := w
        obtain rfl := Option.some.inj ((w1 ys1 e1).symm.trans g1)
        refine ⟨_, enum_at _ _ _ _ g1', pair_ok mo hU (.cons ?_ (.cons rr1 .nil))⟩
        rw [Int.zero_add]
        exact .int _
    · exact p1.elim
  · exact p1.elim
end
end QX
set_option maxRecDepth 100000
set_option maxHeartbeats 1000000
namespace QX
open PySem PySem.Spec PyProof.Rows L2 HX
mutual
def D.und (n : Nat) : D → Bool
  | .tup ds => D.undA n ds
  | .lst ds => D.undA n ds
  | .dct _ ds => D.undA n ds
  | .ref m => Nat.blt m n
  | _ => true
def D.undA (n : Nat) : List D → Bool
  | [] => true
  | d :: ds => D.und n d && D.undA n ds
end
def Cell.und (n : Nat) : Cell → Bool
  | .lst ds => D.undA n ds
  | .dic kvs => D.undA n (kvs.map (·.2))
  | .fro kvs => D.undA n (kvs.map (·.2))
def closed (n : Nat) (M : Mem) : Bool := (M.take n).all (Cell.und n)
def resL (g : D → Option D) : List D → Option (List D)
  | [] => some []
  | d :: ds => match g d, resL g ds with | some a, some b => some (a :: b) | _, _ => none
def D.res : Nat → Nat → Mem → D → Option D
  | 0, n, _, d => if d.und n = true then some d else none
  | k + 1, n, M, d => if d.und n = true then some d else match d with
    | .tup ds => (resL (D.res k n M) ds).map .tup
    | .lst ds => (resL (D.res k n M) ds).map .lst
    | .ref m => (match M[m]? with | some (.lst ds) => (resL (D.res k n M) ds).map .lst | _ => none)
    | _ => none
def trimR (n : Nat) : Res D → Res D
  | .ok d M => if Nat.ble M.length n = true then .ok d M else (match D.res 5 n M d with | some d' => if closed n M = true then .ok d' (M.take n) else .bad | none => .bad)
  | .exc c fs M => if Nat.ble M.length n = true then .exc c fs M else if (fs.all (fun p => p.2.und n) && closed n M) = true then .exc c fs (M.take n) else .bad
  | .bad => .bad
section
variable {K : PySem.W.Frag} {ρ more : List Addr} {H : Hp}
mutual
theorem Rep.down : ∀ (d : D) (v : V), d.und ρ.length = true → Rep K (ρ ++ more) H v d → Rep K ρ H v d
  | .non, _, _, h => by cases h; exact .non
  | .bl b, _, _, h => by cases h; exact .bl b
  | .int i, _, _, h => by cases h; exact .int i
  | .str x, _, _, h => by cases h; exact .str x
  | .tup ds, _, b, h => by
    cases h with
    | tup f n ha => exact .tup f (fun z => n (List.mem_append_left _ z)) (RepA.down ds _ (by simpa only [D.und] using b) ha)
  | .lst ds, _, b, h => by
    cases h with
    | lst f n ha => exact .lst f (fun z => n (List.mem_append_left _ z)) (RepA.down ds _ (by simpa only [D.und] using b) ha)
  | .dct ks ds, _, b, h => by
    cases h with
    | dct f n hk ha => exact .dct f (fun z => n (List.mem_append_left _ z)) hk (RepA.down ds _ (by simpa only [D.und] using b) ha)
  | .scr ns, _, _, h => by
    cases h with
    | scr f => exact .scr (f.imp (fun ⟨a, n⟩ => ⟨a, fun z => n (List.mem_append_left _ z)⟩) id)
  | .ref n, _, b, h => by
    cases h with
    | ref f =>
      have hn : n < ρ.length := by simpa only [D.und, Nat.blt_eq] using b
      rw [List.getElem?_append_left hn] at f
      exact .ref f
  | .adr v, _, _, h => by cases h; exact .adr v
theorem RepA.down : ∀ (ds : List D) (vs : List V), D.undA ρ.length ds = true → RepA K (ρ ++ more) H vs ds → RepA K ρ H vs ds
  | [], _, _, h => by cases h; exact .nil
  | d :: ds, _, b, h => by
    simp only [D.undA, Bool.and_eq_true] at b
    cases h with
    | cons h1 h2 => exact .cons (Rep.down d _ b.1 h1) (RepA.down ds _ b.2 h2)
end
mutual
theorem und_dK {n : Nat} : ∀ k : NestedKey, pureK k = true → (dK k).und n = true
  | .none, h => by simp [pureK] at h
  | .num i, _ => by rw [dK]; rfl
  | .text x, h => by simp [pureK] at h
  | .tup ks, h => by
    rw [dK, D.und]
    exact und_dKs ks (by simpa [pureK] using h)
theorem und_dKs {n : Nat} : ∀ ks : List NestedKey, pureA ks = true → D.undA n (dKs ks) = true
  | [], _ => by rw [dKs]; rfl
  | k :: ks, h => by
    rw [pureA, Bool.and_eq_true] at h
    rw [dKs, D.undA, und_dK k h.1, und_dKs ks h.2]
    rfl
end
theorem DRel.down {xs : List NE} {kvs : List (NestedKey × D)} (hb : D.undA ρ.length (kvs.map (·.2)) = true) (r : DRel K (ρ ++ more) H xs kvs) : DRel K ρ H xs kvs := by
  induction r with
  | nil => exact .nil
  | cons q _ ih =>
    obtain ⟨a, b, c, d, f⟩ := q
    rw [List.map_cons, D.undA, Bool.and_eq_true] at hb
    exact .cons ⟨a, b, c, Rep.down _ _ (und_dK _ b) d, Rep.down _ _ hb.1 f⟩ (ih hb.2)
theorem resL_ok {g : D → Option D} (hg : ∀ d d' v, g d = some d' → Rep K (ρ ++ more) H v d → Rep K ρ H v d') : ∀ (ds ds' : List D) (vs : List V), resL g ds = some ds' → RepA K (ρ ++ more) H vs ds → RepA K ρ H vs ds'
  | [], ds', vs, h, r => by
    cases h
    cases r
    exact .nil
  | d :: ds, ds', vs, h, r => by
    cases r with
    | cons r1 r2 =>
      unfold resL at h
      split at h
      · rename_i a b h1 h2
        cases h
        exact .cons (hg _ _ _ h1 r1) (resL_ok hg ds _ _ h2 r2)
      · cases h
theorem res_ok {S : Sc} {M : Mem} (mo : MemOk S (ρ ++ more) H M) : ∀ (k : Nat) (d d' : D) (v : V), D.res k ρ.length M d = some d' → Rep S.K (ρ ++ more) H v d → Rep S.K ρ H v d'
  | 0, d, d', v, h, r => by
    unfold D.res at h
    split at h
    · cases h
      exact Rep.down d v (by assumption) r
    · cases h
  | k + 1, d, d', v, h, r => by
    unfold D.res at h
    split at h
    · cases h
      exact Rep.down d v (by assumption) r
    · rename_i hb
      have ih := res_ok mo k
      split at h
      · rename_i ds
        cases e : resL (D.res k ρ.length M) ds with
        | none => rw [e] at h; cases h
        | some es =>
          rw [e] at h
          cases h
          cases r with
          | tup f n ha => exact .tup f (fun z => n (List.mem_append_left _ z)) (resL_ok (fun a b c => ih a b c) ds es _ e ha)
      · rename_i ds
        cases e : resL (D.res k ρ.length M) ds with
        | none => rw [e] at h; cases h
        | some es =>
          rw [e] at h
          cases h
          cases r with
          | lst f n ha => exact .lst f (fun z => n (List.mem_append_left _ z)) (resL_ok (fun a b c => ih a b c) ds es _ e ha)
      · rename_i m
        split at h
        · rename_i ds hm
          cases e : resL (D.res k ρ.length M) ds with
          | none => rw [e] at h; cases h
          | some es =>
            rw [e] at h
            cases h
            cases r with
            | ref f =>
              obtain ⟨xs, e1, ra⟩ := mo.cell _ _ _ f hm
              refine .lst e1 (fun z => ?_) (resL_ok (fun a b c => ih a b c) ds es _ e ra)
              have hge : ρ.length ≤ m := by
                simp only [D.und, Nat.blt_eq] at hb
                omega
              rw [List.getElem?_append_right hge] at f
              exact (List.nodup_append.mp mo.nd).2.2 _ z _ (List.mem_of_getElem? f) rfl
        · cases h
      · cases h
theorem mem_down {S : Sc} {M : Mem} (mo : MemOk S (ρ ++ more) H M) (hc : closed ρ.length M = true) : MemOk S ρ H (M.take ρ.length) := by
  have hl : ρ.length ≤ M.length := by
    have := mo.len
    rw [List.length_append] at this
    omega
  refine ⟨by rw [List.length_take]; omega, (List.nodup_append.mp mo.nd).1, fun n a c h1 h2 => ?_, mo.tab⟩
  have hn := (List.getElem?_eq_some_iff.mp h1).1
  rw [List.getElem?_take, if_pos hn] at h2
  have ok := mo.cell n a c (by rw [List.getElem?_append_left hn]; exact h1) h2
  have hb : Cell.und ρ.length c = true := by
    unfold closed at hc
    rw [List.all_eq_true] at hc
    refine hc c (List.mem_of_getElem? (i := n) ?_)
    rw [List.getElem?_take, if_pos hn]
    exact h2
  cases c with
  | lst ds =>
    obtain ⟨xs, e, ra⟩ := ok
    exact ⟨xs, e, RepA.down ds _ hb ra⟩
  | dic kvs =>
    obtain ⟨xs, e, r⟩ := ok
    exact ⟨xs, e, DRel.down hb r⟩
  | fro kvs =>
    obtain ⟨xs, o, e, r⟩ := ok
    exact ⟨xs, o, e, DRel.down hb r⟩
end
section
variable {S : Sc} {W : WX} {σ : L2.St} {ρ : List Addr} {H : Hp} {M : Mem} {Q : VK}
theorem Post.trim {r : Res D} (mo : MemOk S ρ H M) (h : Post S W (Rep S.K) σ ρ H Q (trimR M.length r)) : Post S W (Rep S.K) σ ρ H Q r := by
  rw [← mo.len] at h
  cases r with
  | ok d M' =>
    unfold trimR at h
    dsimp only at h
    split at h
    · exact h
    split at h
    · rename_i d' hd
      split at h
      · rename_i hc
        intro ρ' H' v st rv
        obtain ⟨e, m'⟩ := st
        obtain ⟨more, rfl, hm⟩ := e.pre
        exact h ρ H' v ⟨⟨⟨[], by simp, by simp⟩, e.keep, e.live, e.frz⟩, mem_down m' hc⟩ (res_ok m' 5 d d' v hd rv)
      · exact h.elim
    · exact h.elim
  | exc c fs M' =>
    unfold trimR at h
    dsimp only at h
    split at h
    · exact h
    split at h
    · rename_i hc
      rw [Bool.and_eq_true] at hc
      intro ρ' H' d st rx
      obtain ⟨e, m'⟩ := st
      obtain ⟨more, rfl, hm⟩ := e.pre
      refine h ρ H' d ⟨⟨⟨[], by simp, by simp⟩, e.keep, e.live, e.frz⟩, mem_down m' hc.2⟩ ?_
      cases d with
      | none => exact rx
      | some a =>
        obtain ⟨n1, vs, e1, e2, e3, e4⟩ := rx
        refine ⟨fun z => n1 (List.mem_append_left _ z), vs, e1, e2, RepA.down _ _ ?_ e3, e4⟩
        have ha := hc.1
        clear hc e1 e2 e3 e4 h m'
        induction fs with
        | nil => rfl
        | cons p fs ih =>
          rw [List.all_cons, Bool.and_eq_true] at ha
          rw [List.map_cons, D.undA, ha.1, ih ha.2]
          rfl
    · exact h.elim
  | bad => exact h
def fTrim (f : F D) : F D := fun σ M => trimR M.length (f σ M)
theorem qe_trim {X : Cx} {e : Expr} {f : F D} (h : QE S W X e f) : QE S W X e (fTrim f) := PE.imp h fun σ H Q ⟨ρ, M, σa, mo, rs, p⟩ => ⟨ρ, M, σa, mo, rs, Post.trim mo p⟩
end
inductive Tg where
  | name (i : Nat) | tup (is : List Nat)
def setAll : Sa → List Nat → List D → Sa
  | σ, i :: is, d :: ds => setAll (σ.set i (some d)) is ds
  | σ, _, _ => σ
def Tg.put : Tg → Im → Sa → Option Sa
  | .name i, .d d, σ => some (σ.set i (some d))
  | .tup is, .d (.tup ds), σ => if ds.length == is.length then some (setAll σ is ds) else none
  | .tup is, .pr ds, σ => if ds.length == is.length then some (setAll σ is ds) else none
  | _, _, _ => none
def Tg.slots : Tg → List Nat
  | .name i => [i]
  | .tup is => is
def gNames : List Nat → TGs
  | [] => gNil
  | i :: is => gCons (gName i) (gNames is)
def gOf (K : PySem.W.Frag) : Tg → TG
  | .name i => gName i
  | .tup is => gTup K is.length (gNames is)
theorem wipe_get (σ : L2.St) : ∀ (vs : List Nat) (j : Nat), (wipe σ vs)[j]? = if j ∈ vs then σ[j]?.map (fun _ => none) else σ[j]?
  | [], j => by simp [wipe]
  | v :: vs, j => by
    rw [wipe, List.getElem?_set]
    have hl := wipe_length σ vs
    by_cases h : v = j
    · subst h
      rw [if_pos rfl, if_pos List.mem_cons_self, hl]
      by_cases hv : v < σ.length
      · rw [if_pos hv, List.getElem?_eq_getElem hv]; rfl
      · rw [if_neg hv, List.getElem?_eq_none (by omega)]; rfl
    · rw [if_neg h, wipe_get σ vs j]
      by_cases hm : j ∈ vs
      · rw [if_pos hm, if_pos (List.mem_cons_of_mem _ hm)]
      · rw [if_neg hm, if_neg (fun z => (List.mem_cons.mp z).elim (fun e => h e.symm) hm)]
theorem wipe_set {σ : L2.St} {i : Nat} {x : Option V} {vs : List Nat} (h : i ∈ vs) : wipe (σ.set i x) vs = wipe σ vs := by
  refine List.ext_getElem? fun j => ?_
  rw [wipe_get, wipe_get]
  by_cases hj : j ∈ vs
  · rw [if_pos hj, if_pos hj, List.getElem?_set]
    by_cases e : i = j
    · subst e
      rw [if_pos rfl]
      by_cases hl : i < σ.length
      · rw [if_pos hl, List.getElem?_eq_getElem hl]; rfl
      · rw [if_neg hl, List.getElem?_eq_none (by omega)]
    · rw [if_neg e]
  · rw [if_neg hj, if_neg hj, List.getElem?_set_ne (fun e => hj (by rw [← e]; exact h))]
def wipeA (σ : Sa) : List Nat → Sa
  | [] => σ
  | v :: vs => (wipeA σ vs).set v none
theorem RepSt.forget {K : PySem.W.Frag} {ρ : List Addr} {H : Hp} {σ : L2.St} {σa : Sa} (h : RepSt K ρ H σ σa) (i : Nat) : RepSt K ρ H (σ.set i none) (σa.set i none) := by
  refine ⟨by rw [List.length_set, List.length_set]; exact h.1, fun j d e => ?_⟩
  by_cases hj : i = j
  · subst hj
    by_cases hl : i < σa.length
    · rw [List.getElem?_set_self hl] at e; cases e
    · rw [List.getElem?_eq_none (by rw [List.length_set]; omega)] at e; cases e
  · rw [List.getElem?_set_ne hj] at e ⊢
    exact h.2 j d e
theorem RepSt.wipe {K : PySem.W.Frag} {ρ : List Addr} {H : Hp} {σ : L2.St} {σa : Sa} (h : RepSt K ρ H σ σa) : ∀ vs : List Nat, RepSt K ρ H (L2.wipe σ vs) (wipeA σa vs)
  | [] => h
  | v :: vs => (RepSt.wipe h vs).forget v
theorem RepSt.set {K : PySem.W.Frag} {ρ : List Addr} {H : Hp} {σ : L2.St} {σa : Sa} {v : V} {d : D} (h : RepSt K ρ H σ σa) (i : Nat) (r : Rep K ρ H v d) : RepSt K ρ H (σ.set i (some v)) (σa.set i (some d)) := by
  refine ⟨by rw [List.length_set, List.length_set]; exact h.1, fun j d' e => ?_⟩
  by_cases hj : i = j
  · subst hj
    by_cases hl : i < σa.length
    · rw [List.getElem?_set_self hl] at e
      cases e
      exact ⟨v, List.getElem?_set_self (by rw [h.1]; exact hl), r⟩
    · rw [List.getElem?_eq_none (by rw [List.length_set]; omega)] at e; cases e
  · rw [List.getElem?_set_ne hj] at e ⊢
    exact h.2 j d' e
theorem names_ok {K : PySem.W.Frag} {ρ : List Addr} {H : Hp} {Q : L2.St → Hp → Prop} : ∀ (is : List Nat) (xs : List V) (ds : List D) (σ : L2.St) (σa : Sa), RepA K ρ H xs ds → ds.length = is.length → RepSt K ρ H σ σa →
    (∀ σ', RepSt K ρ H σ' (setAll σa is ds) → (∀ vs : List Nat, (∀ i ∈ is, i ∈ vs) → wipe σ' vs = wipe σ vs) → Q σ' H) → gNames is xs σ H Q
  | [], _, _, σ, σa, .nil, _, rs, q => ⟨rfl, q σ rs fun _ _ => rfl⟩
  | [], _, _, _, _, .cons _ _, hl, _, _ => by simp at hl
  | i :: is, _, _, _, _, .nil, hl, _, _ => by simp at hl
  | i :: is, _, _, σ, σa, .cons r1 r2, hl, rs, q => by
    refine ⟨_, _, rfl, ?_⟩
    refine names_ok is _ _ _ _ r2 (by simpa using hl) (rs.set i r1) fun σ' rs' w' => q σ' rs' fun vs hvs => ?_
    rw [w' vs fun j hj => hvs j (List.mem_cons_of_mem _ hj), wipe_set (hvs i List.mem_cons_self)]
theorem put_ok {S : Sc} {ρ : List Addr} {H : Hp} {Q : L2.St → Hp → Prop} {t : Tg} {v : V} {im : Im} {σ : L2.St} {σa σa' : Sa} (rs : RepSt S.K ρ H σ σa) (ri : RepI S.K ρ H v im) (h : t.put im σa = some σa')
    (q : ∀ σ', RepSt S.K ρ H σ' σa' → (∀ vs : List Nat, (∀ i ∈ t.slots, i ∈ vs) → wipe σ' vs = wipe σ vs) → Q σ' H) : gOf S.K t v σ H Q := by
  unfold Tg.put at h
  split at h
  · cases h
    exact q _ (rs.set _ ri) fun vs hvs => wipe_set (hvs _ (by simp [Tg.slots]))
  · rename_i is ds
    split at h
    · rename_i hl
      cases h
      obtain ⟨a, xs, rfl, hq, ra, _, _⟩ := tup_of ri
      have hl' : ds.length = is.length := by simpa using hl
      exact ⟨a, xs, rfl, hq, by rw [ra.len]; exact hl', names_ok is xs ds _ _ ra hl' rs q⟩
    · cases h
  · rename_i is ds
    split at h
    · rename_i hl
      cases h
      obtain ⟨a, xs, rfl, hq, ra⟩ := ri
      have hl' : ds.length = is.length := by simpa using hl
      exact ⟨a, xs, rfl, hq, by rw [ra.len]; exact hl', names_ok is xs ds _ _ ra hl' rs q⟩
    · cases h
  · cases h
abbrev QG (S : Sc) (X : Cx) (tg : Expr) (t : Tg) : Prop := PG X tg (gOf S.K t)
def Res.nox {α : Type} : Res α → Res α
  | .exc _ _ _ => .bad
  | r => r
def compL (t : Tg) (c : F Bool) (e : F D) (chk : Mem → Bool) (σ : Sa) (n : Nat) : List Im → Mem → Res Unit
  | [], M => if chk M = true then .ok () M else .bad
  | im :: ims, M => if chk M = true then (match t.put im σ with
      | none => .bad
      | some σ1 => (c σ1 M).nox.bind fun b M1 => if b = true then (e σ1 M1).nox.bind fun d M2 => (match M2[n]? with
          | some (.lst acc) => if Nat.blt acc.length 16777216 = true then compL t c e chk σ n ims (M2.set n (.lst (acc ++ [d]))) else .bad
          | _ => .bad) else compL t c e chk σ n ims M1) else .bad
def fCompC (fi : F Ita) (vs : List Nat) (t : Tg) (c : F Bool) (e : F D) : F D := fun σ M => (fi σ M).bind fun it M1 => (compL t c e it.chk (wipeA σ vs) M1.length it.items (M1 ++ [.lst []])).bind fun _ M2 => .ok (.ref M1.length) M2
abbrev W0 : WX := fun _ _ _ _ => False
def fYes : F Bool := fun _ M => .ok true M
theorem nox_use {α β : Type} {S : Sc} {R : List Addr → Hp → β → α → Prop} {f : F α} {σ : L2.St} {σa : Sa} {ρ : List Addr} {H : Hp} {M : Mem} {Q : β → Hp → Prop} (mo : MemOk S ρ H M) (rs : RepSt S.K ρ H σ σa) {γ : Type} {k : α → Mem → Res γ} {P : Res γ → Prop} (hb : P .bad → False)
    (h : P ((f σa M).nox.bind k)) (c : ∀ x M1 ρ1 H1 v, Stp S ρ H ρ1 H1 M1 → R ρ1 H1 v x → P (k x M1) → Q v H1) : tOf S W0 R f σ H Q := by
  refine ⟨ρ, M, σa, mo, rs, ?_⟩
  cases e : f σa M with
  | ok x M1 =>
    rw [e] at h
    exact fun ρ1 H1 v st r => c x M1 ρ1 H1 v st r h
  | exc c2 fs M1 => rw [e] at h; exact (hb h).elim
  | bad => rw [e] at h; exact (hb h).elim
section
variable {X : Cx} {S : Sc} {W : WX}
theorem lc_imp {fi : F Ita} {vs : List Nat} {t : Tg} {c : F Bool} {e : F D} (ht : ∀ i ∈ t.slots, i ∈ vs) {σ : L2.St} {H : Hp} {Q : VK} (h : tOf S W (Rep S.K) (fCompC fi vs t c e) σ H Q) :
    tLc (tOf S W (fun ρ H J it => ItaOk S ρ H J it) fi) (gOf S.K t) (tOf S W0 REq c) (tOf S W0 (Rep S.K) e) vs σ H Q := by
  obtain ⟨ρ, M, σa, mo, rs, p⟩ := h
  refine use mo rs p fun it M1 ρ1 H1 J st1 ok rs1 p1 => ?_
  intro D hD
  have sA : Stp S ρ1 H1 (ρ1 ++ [D]) (upd H1 D (.lst [])) (M1 ++ [.lst []]) := Stp.alloc st1.2 hD .nil
  have hl1 := st1.2.len
  have atn : ∀ {ρ2 : List Addr} {H2 : Hp}, Ext (ρ1 ++ [D]) (upd H1 D (.lst [])) ρ2 H2 → ρ2[M1.length]? = some D := fun e => e.at (by
    rw [List.getElem?_append_right (by omega), hl1, Nat.sub_self]
    rfl)
  refine ⟨fun i m Hc => m = it.items.length - i ∧ i ≤ it.items.length ∧ ∃ ρc Mc, Stp S (ρ1 ++ [D]) (upd H1 D (.lst [])) ρc Hc Mc ∧ Post S W (Rep S.K) σ ρ1 H1 Q ((compL t c e it.chk (wipeA σa vs) M1.length (it.items.drop i) Mc).bind fun _ M2 => .ok (.ref M1.length) M2),
    ⟨_, rfl, Nat.zero_le _, ρ1 ++ [D], M1 ++ [.lst []], Stp.refl sA.2, by rw [List.drop_zero]; exact p1⟩, ?_⟩
  rintro i m Hc ⟨rfl, hi, ρc, Mc, stc, pc⟩
  have ex1 : Ext ρ1 H1 ρc Hc := sA.1.trans stc.1
  by_cases hlt : i < it.items.length
  · have hdrop : it.items.drop i = it.items[i] :: it.items.drop (i + 1) := List.drop_eq_getElem_cons hlt
    rw [hdrop] at pc
    unfold compL at pc
    by_cases hc : it.chk Mc = true
    · rw [if_pos hc] at pc
      refine .inr ⟨ok.go ρc Hc Mc i ex1 stc.2 hc hlt, fun H' => ∃ ρc' Mc', Stp S (ρ1 ++ [D]) (upd H1 D (.lst [])) ρc' H' Mc' ∧ Post S W (Rep S.K) σ ρ1 H1 Q ((compL t c e it.chk (wipeA σa vs) M1.length (it.items.drop (i + 1)) Mc').bind fun _ M2 => .ok (.ref M1.length) M2),
        fun H' ⟨ρc', Mc', a, b⟩ => ⟨_, by omega, rfl, hlt, ρc', Mc', a, b⟩, fun x H2 y => ?_⟩
      obtain ⟨im, him, st2, ri⟩ := ok.yld ρc Hc Mc i x H2 ex1 stc.2 hc hlt y
      have e0 : it.items[i] = im := by
        rw [List.getElem?_eq_getElem hlt] at him
        exact Option.some.inj him
      rw [e0] at pc
      split at pc
      · exact pc.elim
      · rename_i σ1 hput
        have rsw : RepSt S.K ρc H2 (wipe σ vs) (wipeA σa vs) := (rs1.mono (ex1.trans st2.1)).wipe vs
        refine put_ok rsw ri hput fun σ' rs' hw => ⟨?_, ?_⟩
        · have := hw vs ht
          rw [this]
          refine List.ext_getElem? fun j => ?_
          rw [wipe_get, wipe_get]
          by_cases hj : j ∈ vs
          · rw [if_pos hj, if_pos hj]
            cases σ[j]? <;> rfl
          · rw [if_neg hj, if_neg hj]
        · have stc2 : Stp S (ρ1 ++ [D]) (upd H1 D (.lst [])) ρc H2 Mc := ⟨stc.1.trans st2.1, st2.2⟩
          refine nox_use (P := fun r => Post S W (Rep S.K) σ ρ1 H1 Q (r.bind fun _ M2 => .ok (.ref M1.length) M2)) stc2.2 rs' (fun z => z) pc fun b M3 ρ3 H3 b' st3 rb p3 => ?_
          cases (show b' = b from rb)
          cases b with
          | false => exact ⟨ρ3, M3, ⟨stc2.1.trans st3.1, st3.2⟩, p3⟩
          | true =>
            refine nox_use (P := fun r => Post S W (Rep S.K) σ ρ1 H1 Q (r.bind fun _ M2 => .ok (.ref M1.length) M2)) st3.2 (rs'.mono st3.1) (fun z => z) p3 fun d M4 ρ4 H4 v st4 rv p4 => ?_
            have ex4 := stc2.1.trans (st3.1.trans st4.1)
            have hD4 := atn ex4
            split at p4
            · rename_i acc hacc
              obtain ⟨xs, e1, ra⟩ := st4.2.cell _ _ _ hD4 hacc
              split at p4
              · rename_i hsz
                refine ⟨xs, e1, ?_, ρ4, _, ?_, p4⟩
                · rw [ra.len, sizeLine_eq]
                  simpa [Nat.blt_eq] using hsz
                · have sp := Stp.put st4.2 hD4 hacc (ra.append (.cons rv .nil))
                  exact ⟨ex4.trans sp.1, sp.2⟩
              · exact p4.elim
            · exact p4.elim
    · rw [if_neg hc] at pc
      exact pc.elim
  · have e : i = it.items.length := by omega
    subst e
    rw [List.drop_length] at pc
    unfold compL at pc
    by_cases hc : it.chk Mc = true
    · rw [if_pos hc] at pc
      refine .inl ⟨ok.stop ρc Hc Mc ex1 stc.2 hc, ?_⟩
      exact pc ρc Hc (.ref D) ⟨ex1, stc.2⟩ (.ref (atn stc.1))
    · rw [if_neg hc] at pc
      exact pc.elim
variable {elt tg iter : Expr} {ifs : List Expr} {scope : Scope} {own : List (Str × Nat)} {pos : Pos} {fi : F Ita} {t : Tg} {c : F Bool} {e : F D}
abbrev QTs (S : Sc) (W : WX) (X : Cx) (es : List Expr) (f : F Bool) : Prop := PTs X es (tOf S W REq f)
theorem PTs.imp {es : List Expr} {t t' : TT} (h : PTs X es t) (w : ∀ σ H Q, t' σ H Q → t σ H Q) : PTs X es t' := ⟨fun pins s σ H Q I q => h.run pins s σ H Q I (w σ H Q q)⟩
theorem qts_nil : QTs S W X [] fYes := PTs.imp pts_nil fun σ H Q ⟨ρ, M, σa, mo, rs, p⟩ => p ρ H true (Stp.refl mo) rfl
theorem qts_one {a : Expr} {g : F Bool} (h : QT S W X a g) : QTs S W X [a] g := pts_one h
theorem qe_lcC (hc : X.calm = true) (hN : X.N.Nodup) (hi : QI S W X tg iter fi) (ok : BlkOk X.N X.env.scope scope own)
    (hg : ∀ (s : Shared) (H : Hp) (C : Addr) (cl : List (Str × Addr)) (fp : List Addr), QG S (X.blk s H scope (compEnvC scope cl C X.env) fp) tg t) (ht : ∀ (s : Shared) (H : Hp) (C : Addr) (cl : List (Str × Addr)) (fp : List Addr), QTs S W0 (X.blk s H scope (compEnvC scope cl C X.env) fp) ifs c)
    (he : ∀ (s : Shared) (H : Hp) (C : Addr) (cl : List (Str × Addr)) (fp : List Addr), QE S W0 (X.blk s H scope (compEnvC scope cl C X.env) fp) elt e) (hsl : ∀ i ∈ t.slots, i ∈ own.map (·.2) := by decide) (hs : ∀ x, foldedSetIterable iter X.env x = pure x := by intro _; rfl) :
    QE S W X (.ListComp elt [⟨tg, iter, ifs, 0⟩] scope pos) (fCompC fi (own.map (·.2)) t c e) := PE.imp (pe_lc hc hN hi ok hg ht he hs) fun _ _ _ h => lc_imp hsl h
theorem qe_lc (hc : X.calm = true) (hN : X.N.Nodup) (hi : QI S W X tg iter fi) (ok : BlkOk X.N X.env.scope scope own)
    (hg : ∀ (s : Shared) (H : Hp) (C : Addr) (cl : List (Str × Addr)) (fp : List Addr), QG S (X.blk s H scope (compEnvC scope cl C X.env) fp) tg t) (ht : ∀ (s : Shared) (H : Hp) (C : Addr) (cl : List (Str × Addr)) (fp : List Addr), QTs S W0 (X.blk s H scope (compEnvC scope cl C X.env) fp) ifs c)
    (he : ∀ (s : Shared) (H : Hp) (C : Addr) (cl : List (Str × Addr)) (fp : List Addr), QE S W0 (X.blk s H scope (compEnvC scope cl C X.env) fp) elt e) (hsl : ∀ i ∈ t.slots, i ∈ own.map (·.2) := by decide) (hs : ∀ x, foldedSetIterable iter X.env x = pure x := by intro _; rfl) :
    QE S W X (.ListComp elt [⟨tg, iter, ifs, 0⟩] scope pos) (fTrim (fCompC fi (own.map (·.2)) t c e)) := qe_trim (qe_lcC hc hN hi ok hg ht he hsl hs)
end
end QX
set_option maxRecDepth 100000
set_option maxHeartbeats 1000000
namespace QX
open PySem PySem.Spec PyProof.Rows L2 HX
inductive Fl where
  | nx (σ : Sa) | rt (d : D) | bk (σ : Sa) | ct (σ : Sa)
inductive RS where
  | ok (f : Fl) (M : Mem) | exc (c : Nat) (fs : List (Str × D)) (σ : Sa) (M : Mem) | bad
abbrev FS := Sa → Mem → RS
def Res.bindS {α : Type} (r : Res α) (σ : Sa) (k : α → Mem → RS) : RS := match r with
  | .ok x M => k x M
  | .exc c fs M => .exc c fs σ M
  | .bad => .bad
def PostS (S : Sc) (W : WX) (ρ : List Addr) (H : Hp) (E : Ends) : RS → Prop
  | .ok (.nx σa) M => ∀ ρ' H' σ, Stp S ρ H ρ' H' M → RepSt S.K ρ' H' σ σa → E.nx σ H'
  | .ok (.rt d) M => ∀ ρ' H' v, Stp S ρ H ρ' H' M → Rep S.K ρ' H' v d → E.rt v H'
  | .ok (.bk σa) M => ∀ ρ' H' σ, Stp S ρ H ρ' H' M → RepSt S.K ρ' H' σ σa → E.bk σ H'
  | .ok (.ct σa) M => ∀ ρ' H' σ, Stp S ρ H ρ' H' M → RepSt S.K ρ' H' σ σa → E.ct σ H'
  | .exc c fs σa M => ∀ ρ' H' σ d, Stp S ρ H ρ' H' M → RepSt S.K ρ' H' σ σa → XRep S.K ρ' H' d fs → W (.ref (S.C c)) d σ H'
  | .bad => False
def tOfS (S : Sc) (W : WX) (f : FS) : TS := fun E σ H => ∃ ρ M σa, MemOk S ρ H M ∧ RepSt S.K ρ H σ σa ∧ PostS S W ρ H E (f σa M)
abbrev QS (S : Sc) (W : WX) (X : Cx) (st : Stmt) (f : FS) : Prop := PS X st (tOfS S W f)
abbrev QSs (S : Sc) (W : WX) (X : Cx) (st : List Stmt) (f : FS) : Prop := PSs X st (tOfS S W f)
section
variable {S : Sc} {W : WX} {ρ ρ' : List Addr} {H H' : Hp} {E : Ends}
theorem PostS.mono {r : RS} (h : PostS S W ρ H E r) (e : Ext ρ H ρ' H') : PostS S W ρ' H' E r := by
  cases r with
  | ok f M =>
    cases f with
    | nx σ => exact fun ρ2 H2 v st => h ρ2 H2 v ⟨e.trans st.1, st.2⟩
    | rt d => exact fun ρ2 H2 v st => h ρ2 H2 v ⟨e.trans st.1, st.2⟩
    | bk σ => exact fun ρ2 H2 v st => h ρ2 H2 v ⟨e.trans st.1, st.2⟩
    | ct σ => exact fun ρ2 H2 v st => h ρ2 H2 v ⟨e.trans st.1, st.2⟩
  | exc c fs σ M => exact fun ρ2 H2 σ d st => h ρ2 H2 σ d ⟨e.trans st.1, st.2⟩
  | bad => exact h
theorem useS {α β : Type} {R : List Addr → Hp → β → α → Prop} {σ : L2.St} {σa : Sa} {M : Mem} {f : F α} {k : α → Mem → RS} {Q : β → Hp → Prop} (mo : MemOk S ρ H M) (rs : RepSt S.K ρ H σ σa) (h : PostS S W ρ H E ((f σa M).bindS σa k))
    (c : ∀ x M1 ρ1 H1 v, Stp S ρ H ρ1 H1 M1 → R ρ1 H1 v x → RepSt S.K ρ1 H1 σ σa → PostS S W ρ1 H1 E (k x M1) → Q v H1) : tOf S W R f σ H Q := by
  refine ⟨ρ, M, σa, mo, rs, ?_⟩
  cases e : f σa M with
  | ok x M1 =>
    rw [e] at h
    intro ρ1 H1 v st r
    exact c x M1 ρ1 H1 v st r (rs.mono st.1) (PostS.mono h st.1)
  | exc c2 fs M1 =>
    rw [e] at h
    exact fun ρ1 H1 d st xr => h ρ1 H1 σ d st (rs.mono st.1) xr
  | bad => rw [e] at h; exact h
variable {X : Cx} {st : Stmt} {rest : List Stmt} {e : Expr} {pos : Pos} {fe : F D} {s1 s2 : FS} {g : F Bool}
def sNext : FS := fun σ M => .ok (.nx σ) M
def sRet (f : F D) : FS := fun σ M => (f σ M).bindS σ fun d M1 => .ok (.rt d) M1
def sExpr (f : F D) : FS := fun σ M => (f σ M).bindS σ fun _ M1 => .ok (.nx σ) M1
def sSet (i : Nat) (f : F D) : FS := fun σ M => (f σ M).bindS σ fun d M1 => .ok (.nx (σ.set i (some d))) M1
def sAsg (f : F D) (t : Tg) : FS := fun σ M => (f σ M).bindS σ fun d M1 => match t.put (.d d) σ with | some σ1 => .ok (.nx σ1) M1 | none => .bad
def sPar (i j : Nat) (fs : F (List D)) : FS := fun σ M => (fs σ M).bindS σ fun ds M1 => match ds with | [a, b] => .ok (.nx ((σ.set i (some a)).set j (some b))) M1 | _ => .bad
def sIf (g : F Bool) (s1 s2 : FS) : FS := fun σ M => (g σ M).bindS σ fun c M1 => if c = true then s1 σ M1 else s2 σ M1
def sSeq (s1 s2 : FS) : FS := fun σ M => match s1 σ M with | .ok (.nx σ1) M1 => s2 σ1 M1 | r => r
theorem qss_nil : QSs S W X [] sNext := PSs.imp pss_nil fun E σ H ⟨ρ, M, σa, mo, rs, p⟩ => p ρ H σ (Stp.refl mo) rs
theorem qss_one (h : QS S W X st s1) : QSs S W X [st] s1 := pss_one h
theorem qss_cons (h1 : QS S W X st s1) (h2 : QSs S W X rest s2) : QSs S W X (st :: rest) (sSeq s1 s2) := PSs.imp (pss_cons h1 h2) fun E σ H ⟨ρ, M, σa, mo, rs, p⟩ => by
  refine ⟨ρ, M, σa, mo, rs, ?_⟩
  unfold sSeq at p
  cases e : s1 σa M with
  | ok f M1 =>
    rw [e] at p
    cases f with
    | nx σ1 => exact fun ρ1 H1 σ' st rs' => ⟨ρ1, M1, σ1, st.2, rs', PostS.mono p st.1⟩
    | rt d => exact p
    | bk σ1 => exact p
    | ct σ1 => exact p
  | exc c fs σ1 M1 => rw [e] at p; exact p
  | bad => rw [e] at p; exact p
theorem qs_ret (h : QE S W X e fe) : QS S W X (.Return (some e) pos) (sRet fe) := PS.imp (ps_ret h) fun E σ H ⟨ρ, M, σa, mo, rs, p⟩ => useS mo rs p fun x M1 ρ1 H1 v st1 r1 rs1 p1 => p1 ρ1 H1 v (Stp.refl st1.2) r1
theorem qs_expr (h : QE S W X e fe) (hs : swapsWith e none pos.line X.env = pure false := by rfl) : QS S W X (.Expr e pos) (sExpr fe) := PS.imp (ps_expr h hs) fun E σ H ⟨ρ, M, σa, mo, rs, p⟩ => useS mo rs p fun x M1 ρ1 H1 v st1 r1 rs1 p1 => p1 ρ1 H1 σ (Stp.refl st1.2) rs1
theorem asg_imp {i : Nat} {E : Ends} {σ : L2.St} {H : Hp} (h : tOfS S W (sSet i fe) E σ H) : tAsg (tOf S W (Rep S.K) fe) (gName i) E σ H := by
  obtain ⟨ρ, M, σa, mo, rs, p⟩ := h
  exact useS mo rs p fun x M1 ρ1 H1 v st1 r1 rs1 p1 => p1 ρ1 H1 _ (Stp.refl st1.2) (rs1.set i r1)
theorem qs_set {i : Nat} {x : Str} {pos' : Pos} (hN : X.N.Nodup) (hi : X.N[i]? = some x) (hx : Loc X.env.scope x) (he : QE S W X e fe) (hs : swapsWith e (some (.Name x pos')) pos.line X.env = pure false := by rfl) (hf : X.fn x = true ∨ X.env.scope.names.lookup x = some .local := by first | exact .inl rfl | exact .inr rfl | assumption) :
    QS S W X (.Assign [.Name x pos'] e pos) (sSet i fe) := PS.imp (ps_set hN hi hx he hs hf) fun _ _ _ h => asg_imp h
theorem qs_asg {tg : Expr} {t : Tg} (he : QE S W X e fe) (hg : QG S X tg t) (hs : swapsWithSole [tg] e pos.line X.env = pure false := by rfl) (hw : swappedStores [tg] e X.env = pure none := by rfl)
    (h1 : (assignEach [tg] X.env).map (·.2) = [assign tg X.env] := by rfl) : QS S W X (.Assign [tg] e pos) (sAsg fe t) := PS.imp (ps_asg he hg hs hw h1) fun E σ H ⟨ρ, M, σa, mo, rs, p⟩ => by
  refine useS mo rs p fun x M1 ρ1 H1 v st1 r1 rs1 p1 => ?_
  split at p1
  · rename_i σ1 hp
    exact put_ok (im := .d x) rs1 r1 hp fun σ' rs' _ => p1 ρ1 H1 σ' (Stp.refl st1.2) rs'
  · exact p1.elim
theorem qs_par {i j : Nat} {x y : Str} {a b : Expr} {fs : F (List D)} {px py pt : Pos} {kt k2 pt2} (hc : X.calm = true) (hN : X.N.Nodup) (hi : X.N[i]? = some x) (hj : X.N[j]? = some y) (hij : i ≠ j)
    (hx : X.env.scope.names.lookup x = some .local) (hy : X.env.scope.names.lookup y = some .local) (ha : QA S W X [a, b] fs)
    (hw : swappedStores [.Tuple [.Name x px, .Name y py] kt pt] (.Tuple [a, b] k2 pt2) X.env = pure (some [x, y]))
    (hs : swapsWithSole [.Tuple [.Name x px, .Name y py] kt pt] (.Tuple [a, b] k2 pt2) pos.line X.env = pure false := by rfl) :
    QS S W X (.Assign [.Tuple [.Name x px, .Name y py] kt pt] (.Tuple [a, b] k2 pt2) pos) (sPar i j fs) := PS.imp (ps_par hc hN hi hj hij hx hy ha hw hs) fun E σ H ⟨ρ, M, σa, mo, rs, p⟩ => by
  refine useS mo rs p fun ds M1 ρ1 H1 vs st1 r1 rs1 p1 => ?_
  split at p1
  · obtain ⟨v, w, rfl, rv, rw'⟩ := RepA.two r1
    exact ⟨v, w, rfl, p1 ρ1 H1 _ (Stp.refl st1.2) ((rs1.set i rv).set j rw')⟩
  · exact p1.elim
theorem qs_if {c : Expr} {a b : List Stmt} (hc : QT S W X c g) (ha : QSs S W X a s1) (hb : QSs S W X b s2) : QS S W X (.If c a b pos) (sIf g s1 s2) := PS.imp (ps_if hc ha hb) fun E σ H ⟨ρ, M, σa, mo, rs, p⟩ => by
  refine useS mo rs p fun x M1 ρ1 H1 v st1 r1 rs1 p1 => ?_
  cases (show v = x from r1)
  cases x with
  | true => exact ⟨ρ1, M1, σa, st1.2, rs1, p1⟩
  | false => exact ⟨ρ1, M1, σa, st1.2, rs1, p1⟩
def keepS (n : Nat) : Option D → Option D
  | some d => if d.und n = true then some d else none
  | none => none
def gc (n : Nat) (σ : Sa) (M : Mem) : Sa × Mem := if Nat.ble M.length n = true then (σ, M) else if closed n M = true then (σ.map (keepS n), M.take n) else (σ, M)
theorem gc_ok {ρ0 : List Addr} {H0 : Hp} {M : Mem} {σ : L2.St} {σa : Sa} (e : Ext ρ0 H0 ρ H) (mo : MemOk S ρ H M) (rs : RepSt S.K ρ H σ σa) : ∃ ρ', Stp S ρ0 H0 ρ' H (gc ρ0.length σa M).2 ∧ RepSt S.K ρ' H σ (gc ρ0.length σa M).1 := by
  unfold gc
  split
  · exact ⟨ρ, ⟨e, mo⟩, rs⟩
  · split
    · rename_i hc
      obtain ⟨more, rfl, hm⟩ := e.pre
      refine ⟨ρ0, ⟨⟨⟨[], by simp, by simp⟩, e.keep, e.live, e.frz⟩, mem_down mo hc⟩, by rw [List.length_map]; exact rs.1, fun i d h => ?_⟩
      rw [List.getElem?_map] at h
      cases q : σa[i]? with
      | none => rw [q] at h; cases h
      | some o =>
        rw [q] at h
        cases o with
        | none => cases h
        | some d' =>
          have h' : keepS ρ0.length (some d') = some d := Option.some.inj h
          have h2 : (if d'.und ρ0.length = true then some d' else none) = some d := h'
          by_cases hb : d'.und ρ0.length = true
          · rw [if_pos hb] at h2
            cases h2
            obtain ⟨v, h1, h2⟩ := rs.2 i d q
            exact ⟨v, h1, Rep.down d v hb h2⟩
          · rw [if_neg hb] at h2
            cases h2
    · exact ⟨ρ, ⟨e, mo⟩, rs⟩
def forL (t : Tg) (b : FS) (chk : Mem → Bool) (n : Nat) : List Im → FS
  | [], σ, M => if chk M = true then .ok (.nx σ) M else .bad
  | im :: ims, σ, M => if chk M = true then (match t.put im σ with
      | none => .bad
      | some σ1 => (match b σ1 M with
        | .ok (.nx σ2) M2 => forL t b chk n ims (gc n σ2 M2).1 (gc n σ2 M2).2
        | .ok (.ct σ2) M2 => forL t b chk n ims (gc n σ2 M2).1 (gc n σ2 M2).2
        | .ok (.bk σ2) M2 => .ok (.nx σ2) M2
        | .ok (.rt d) M2 => .ok (.rt d) M2
        | .exc c fs σ2 M2 => .exc c fs σ2 M2
        | .bad => .bad)) else .bad
def sFor (fi : F Ita) (t : Tg) (b : FS) : FS := fun σ M => (fi σ M).bindS σ fun it M1 => forL t b it.chk M1.length it.items σ M1
theorem qs_for {iter tg : Expr} {body : List Stmt} {fi : F Ita} {t : Tg} {b : FS} {pos : Pos} (hp : PassesOwn (model X.prog X.w) X.A X.env X.xe) (hc : X.calm = true) (hi : QI S W X tg iter fi) (hg : QG S X tg t) (hb : QSs S W X body b)
    (hs : ∀ x, foldedSetIterable iter X.env x = pure x := by intro _; rfl) : QS S W X (.For tg iter body [] pos) (sFor fi t b) := PS.imp (ps_for hp hc hi hg hb hs) fun E σ H ⟨ρ, M, σa, mo, rs, p⟩ => by
  refine useS mo rs p fun it M1 ρ1 H1 J st1 ok rs1 p1 => ?_
  rw [← st1.2.len] at p1
  refine ⟨fun i m σ H => m = it.items.length - i ∧ i ≤ it.items.length ∧ ∃ ρc Mc σc, Stp S ρ1 H1 ρc H Mc ∧ RepSt S.K ρc H σ σc ∧ PostS S W ρ1 H1 E (forL t b it.chk ρ1.length (it.items.drop i) σc Mc),
    ⟨_, rfl, Nat.zero_le _, ρ1, M1, σa, Stp.refl st1.2, rs1, by rw [List.drop_zero]; exact p1⟩, ?_⟩
  rintro i m σ' Hc ⟨rfl, hi, ρc, Mc, σc, stc, rsc, pc⟩
  by_cases hlt : i < it.items.length
  · rw [List.drop_eq_getElem_cons hlt] at pc
    unfold forL at pc
    by_cases hc : it.chk Mc = true
    · rw [if_pos hc] at pc
      refine .inr ⟨ok.go ρc Hc Mc i stc.1 stc.2 hc hlt, fun σ' H' => ∃ ρc' Mc' σc', Stp S ρ1 H1 ρc' H' Mc' ∧ RepSt S.K ρc' H' σ' σc' ∧ PostS S W ρ1 H1 E (forL t b it.chk ρ1.length (it.items.drop (i + 1)) σc' Mc'),
        fun σ' H' ⟨ρc', Mc', σc', a1, a2, a3⟩ => ⟨_, by omega, rfl, hlt, ρc', Mc', σc', a1, a2, a3⟩, fun x H2 y => ?_⟩
      obtain ⟨im, him, st2, ri⟩ := ok.yld ρc Hc Mc i x H2 stc.1 stc.2 hc hlt y
      have e0 : it.items[i] = im := by
        rw [List.getElem?_eq_getElem hlt] at him
        exact Option.some.inj him
      rw [e0] at pc
      split at pc
      · exact pc.elim
      · rename_i σ1 hput
        refine put_ok (rsc.mono st2.1) ri hput fun σ2 rs2 _ => ⟨ρc, Mc, σ1, st2.2, rs2, ?_⟩
        have ex2 := stc.1.trans st2.1
        have go : ∀ {σ3 : Sa} {M3 : Mem}, PostS S W ρ1 H1 E (forL t b it.chk ρ1.length (it.items.drop (i + 1)) (gc ρ1.length σ3 M3).1 (gc ρ1.length σ3 M3).2) → ∀ ρ' H' σ', Stp S ρc H2 ρ' H' M3 → RepSt S.K ρ' H' σ' σ3 → ∃ ρc' Mc' σc', Stp S ρ1 H1 ρc' H' Mc' ∧ RepSt S.K ρc' H' σ' σc' ∧ PostS S W ρ1 H1 E (forL t b it.chk ρ1.length (it.items.drop (i + 1)) σc' Mc') := by
          intro σ3 M3 p3 ρ' H' σ' st' rs'
          obtain ⟨ρ4, a1, a2⟩ := gc_ok (ex2.trans st'.1) st'.2 rs'
          exact ⟨ρ4, _, _, a1, a2, p3⟩
        cases e : b σ1 Mc with
        | ok f M3 =>
          rw [e] at pc
          cases f with
          | nx σ3 => exact go pc
          | ct σ3 => exact go pc
          | bk σ3 => exact (PostS.mono pc ex2 : PostS S W ρc H2 E (.ok (.nx σ3) M3))
          | rt d => exact (PostS.mono pc ex2 : PostS S W ρc H2 E (.ok (.rt d) M3))
        | exc c fs σ3 M3 => rw [e] at pc; exact (PostS.mono pc ex2 : PostS S W ρc H2 E (.exc c fs σ3 M3))
        | bad => rw [e] at pc; exact pc
    · rw [if_neg hc] at pc
      exact pc.elim
  · have e : i = it.items.length := by omega
    subst e
    rw [List.drop_length] at pc
    unfold forL at pc
    by_cases hc : it.chk Mc = true
    · rw [if_pos hc] at pc
      exact .inl ⟨ok.stop ρc Hc Mc stc.1 stc.2 hc, pc ρc Hc σ' stc rsc⟩
    · rw [if_neg hc] at pc
      exact pc.elim
def gSetIx (o i v : D) (M : Mem) : Option Mem := match o, i with
  | .ref n, .int k => (match M[n]? with | some (.lst ds) => (match ixN ds.length k with | some j => some (M.set n (.lst (ds.set j v))) | none => none) | _ => none)
  | _, _ => none
theorem set_ok {M M2 : Mem} {o i v : D} {vo vi vv : V} {Q : Hp → Prop} (mo : MemOk S ρ H M) (ro : Rep S.K ρ H vo o) (ri : Rep S.K ρ H vi i) (rv : Rep S.K ρ H vv v) (h : gSetIx o i v M = some M2) (q : ∀ H', Stp S ρ H ρ H' M2 → Q H') : rSetL vo vi vv H Q := by
  unfold gSetIx at h
  split at h
  · split at h
    · rename_i ds hm
      split at h
      · rename_i j hj
        cases h
        cases ri
        cases ro with
        | ref e =>
          obtain ⟨xs, e1, ra⟩ := mo.cell _ _ _ e hm
          exact ⟨_, xs, _, j, rfl, rfl, e1, by rw [ra.len]; exact hj, q _ (Stp.put mo e hm (ra.set rv j))⟩
      · cases h
    · cases h
  · cases h
def sSetIx (fo fi fv : F D) : FS := fun σ M => (fv σ M).bindS σ fun v M1 => (fo σ M1).bindS σ fun o M2 => (fi σ M2).bindS σ fun i M3 => match gSetIx o i v M3 with | some M4 => .ok (.nx σ) M4 | none => .bad
theorem qs_setIx {o i e : Expr} {fo fi fv : F D} {pos pos' : Pos} (ho : QE S W X o fo) (hi : QE S W X i fi) (he : QE S W X e fv)
    (ha : ∀ v, assign (.Subscript o i pos') X.env v = (do
      let ov ← holding [v] (eval o X.env)
      let iv ← holding [v, ov] (eval i X.env)
      standAt pos'
      holding [v, ov, iv] (setItem ov iv v)
      release [v, ov, iv] []) := by intro _; rfl) (hs : swapsWithSole [.Subscript o i pos'] e pos.line X.env = pure false := by rfl) (hw : swappedStores [.Subscript o i pos'] e X.env = pure none := by rfl)
    (h1 : (assignEach [.Subscript o i pos'] X.env).map (·.2) = [assign (.Subscript o i pos') X.env] := by rfl) : QS S W X (.Assign [.Subscript o i pos'] e pos) (sSetIx fo fi fv) :=
  PS.imp (ps_asg he (pg_sub ho hi set_list ha) hs hw h1) fun E σ H ⟨ρ, M, σa, mo, rs, p⟩ => by
  refine useS mo rs p fun x M1 ρ1 H1 v st1 r1 rs1 p1 => useS st1.2 rs1 p1 fun x2 M2 ρ2 H2 v2 st2 r2 rs2 p2 => useS st2.2 rs2 p2 fun x3 M3 ρ3 H3 v3 st3 r3 rs3 p3 => ?_
  split at p3
  · rename_i M4 h4
    exact set_ok st3.2 (Rep.mono st3.1 _ _ r2) r3 (Rep.mono (st2.1.trans st3.1) _ _ r1) h4 fun H' st4 => p3 ρ3 H' σ st4 (rs3.mono st4.1)
  · exact p3.elim
end
def startA (n : Nat) (ds : List D) : Sa := ds.map some ++ List.replicate (n - ds.length) none
def runD (n k : Nat) (b : FS) (ds : List D) (M : Mem) : Res D := if ds.length == k then (match b (startA n ds) M with
  | .ok (.rt d) M1 => .ok d M1
  | .ok (.nx _) M1 => .ok .non M1
  | .exc c fs _ M1 => .exc c fs M1
  | _ => .bad) else .bad
def runT (n k : Nat) (b : FS) (ds : List D) (M : Mem) : Res D := trimR M.length (runD n k b ds M)
def spM (S : Sc) (n : Nat) (m : List D → Mem → Res D) : Sp := fun vs H Q E => vs.length = n ∧ ∃ ρ M ds, MemOk S ρ H M ∧ RepA S.K ρ H vs ds ∧ Post S (fun cls d _ H => E cls d H) (Rep S.K) [] ρ H Q (m ds M)
abbrev CalQ (S : Sc) (P : Program) (w : World) (mg : Str → Option Value) (base : Heap) (k : Nat) (x : Str) (ps : List Str) (m : List D → Mem → Res D) : Prop := CalX P w S.K mg base k x ps (spM S ps.length m)
theorem rep_start {K : PySem.W.Frag} {ρ : List Addr} {H : Hp} {N : List Str} {vs : List V} {ds : List D} (r : RepA K ρ H vs ds) : RepSt K ρ H (start N vs) (startA N.length ds) := by
  refine ⟨?_, fun i d h => ?_⟩
  · unfold L2.start startA
    rw [List.length_append, List.length_append, List.length_map, List.length_map, List.length_replicate, List.length_replicate, r.len]
  · unfold startA at h
    unfold L2.start
    by_cases hi : i < ds.length
    · rw [List.getElem?_append_left (by rw [List.length_map]; exact hi), List.getElem?_map] at h
      rw [List.getElem?_append_left (by rw [List.length_map, r.len]; exact hi), List.getElem?_map]
      cases q : ds[i]? with
      | none => rw [q] at h; cases h
      | some d' =>
        rw [q] at h
        cases h
        obtain ⟨v, h1, h2⟩ := r.at q
        exact ⟨v, by rw [h1]; rfl, h2⟩
    · rw [List.getElem?_append_right (by rw [List.length_map]; omega), List.length_map, List.getElem?_replicate] at h
      split at h
      · cases h
      · cases h
section
variable {S : Sc} {P : Program} {w : World} {mg : Str → Option Value} {base : Heap} {k : Nat} {x : Str} {ps N : List Str} {st : Stmt} {b : FS}
theorem Def.okQ (T : HX.Def S.K mg x st ps) (sc : FnScope N ps (defScope st))
    (hb : ∀ (f : Addr) (cdv : Value) (A : Around) (outer : List Env) (s : Shared) (H : Hp) (E : XK), Room k (A.deeper (envOfC x (defScope st) s.heap.objs.size f cdv)) → Takes (cxOf (L2.CX P w) P w S.K mg base N x (defScope st) f cdv A outer s H E) (fun cls d _ H => E cls d H) →
      PassesOwn (model P w) (cxOf (L2.CX P w) P w S.K mg base N x (defScope st) f cdv A outer s H E).A (cxOf (L2.CX P w) P w S.K mg base N x (defScope st) f cdv A outer s H E).env (cxOf (L2.CX P w) P w S.K mg base N x (defScope st) f cdv A outer s H E).xe →
      QSs S (fun cls d _ H => E cls d H) (cxOf (L2.CX P w) P w S.K mg base N x (defScope st) f cdv A outer s H E) (defBody st) b) : CalQ S P w mg base (k + 1) x ps (runD N.length ps.length b) := by
  refine HX.Def.okX T sc (fun vs H Q E h => h.1) fun f cdv A outer s H vs Q E hr h tk => ⟨_, hb f cdv A outer s H E hr tk (passes_of (X := cxOf (L2.CX P w) P w S.K mg base N x (defScope st) f cdv A outer s H E) rfl), ?_⟩
  obtain ⟨hl, ρ, M, ds, mo, ra, p⟩ := h
  refine ⟨ρ, M, _, mo, rep_start ra, ?_⟩
  unfold runD at p
  split at p
  · cases e : b (startA N.length ds) M with
    | ok fl M1 =>
      rw [e] at p
      cases fl with
      | rt d => exact p
      | nx σ => exact fun ρ' H' _ st' _ => p ρ' H' .non st' .non
      | bk σ => exact p.elim
      | ct σ => exact p.elim
    | exc c fs σ M1 => rw [e] at p; exact fun ρ' H' _ d st' _ xr => p ρ' H' d st' xr
    | bad => rw [e] at p; exact p
  · exact p.elim
theorem CalQ.imp {m m' : List D → Mem → Res D} (c : CalQ S P w mg base k x ps m) (h : ∀ (W : WX) (ρ : List Addr) (H : Hp) (Q : VK) (vs : List V) (ds : List D) (M : Mem), MemOk S ρ H M → RepA S.K ρ H vs ds → Post S W (Rep S.K) [] ρ H Q (m' ds M) → Post S W (Rep S.K) [] ρ H Q (m ds M)) : CalQ S P w mg base k x ps m' := by
  obtain ⟨f, fd, F, a1, a2, a3⟩ := c
  exact ⟨f, fd, F.imp fun vs H Q E ⟨hl, ρ, M, ds, mo, ra, p⟩ => ⟨hl, ρ, M, ds, mo, ra, h _ _ _ _ _ _ _ mo ra p⟩, a1, a2, a3⟩
theorem CalQ.trim {m : List D → Mem → Res D} (c : CalQ S P w mg base k x ps m) : CalQ S P w mg base k x ps (fun ds M => trimR M.length (m ds M)) := CalQ.imp c fun _ _ _ _ _ _ _ mo _ p => Post.trim mo p
end
theorem len_nil : ∀ σ M ds M1, fNil σ M = .ok ds M1 → ds.length = 0 := fun σ M ds M1 h => by cases h; rfl
theorem len_cons {fa : F D} {fs : F (List D)} {n : Nat} (h : ∀ σ M ds M1, fs σ M = .ok ds M1 → ds.length = n) : ∀ σ M ds M1, fCons fa fs σ M = .ok ds M1 → ds.length = n + 1 := fun σ M ds M1 e => by
  unfold fCons at e
  cases q : fa σ M with
  | ok x M2 =>
    rw [q] at e
    dsimp only [Res.bind] at e
    cases q2 : fs σ M2 with
    | ok xs M3 =>
      rw [q2] at e
      cases e
      rw [List.length_cons, h _ _ _ _ q2]
    | exc c f2 M3 => rw [q2] at e; cases e
    | bad => rw [q2] at e; cases e
  | exc c f2 M3 => rw [q] at e; cases e
  | bad => rw [q] at e; cases e
def fCall (m : List D → Mem → Res D) (fs : F (List D)) : F D := fun σ M => (fs σ M).bind m
theorem qe_call {X : Cx} {S : Sc} {W : WX} {k : Nat} {x : Str} {ps : List Str} {m : List D → Mem → Res D} {p pos : Pos} {e : Expr} {es : List Expr} {fs : F (List D)} (tk : Takes X W) (hk : X.K = S.K) (c : CalQ S X.prog X.w X.mg X.base k x ps m) (hr : Room k X.A) (hg : Gl X x) (ha : QA S W X (e :: es) fs) (hn : ∀ σ M ds M1, fs σ M = .ok ds M1 → ds.length = ps.length) (hdb : (x == ("__debug__" : Str)) = false := by decide)
    (he : starEach (e :: es) X.env = (false, eval e X.env) :: starEach es X.env := by rfl) (hpl : (backTo pos (starEach es X.env)).any (·.1) = false := by rfl) : QE S W X (.Call (.Name x p) (e :: es) [] pos) (fCall m fs) := by
  have c' : CalX X.prog X.w X.K X.mg X.base k x ps (spM S ps.length m) := by rw [hk]; exact c
  refine PE.imp (pe_calX tk c' hr hg ha hdb he hpl) fun σ H Q ⟨ρ, M, σa, mo, rs, p⟩ => ?_
  refine ⟨ρ, M, σa, mo, rs, ?_⟩
  unfold fCall at p
  cases e0 : fs σa M with
  | ok ds M1 =>
    rw [e0] at p
    intro ρ1 H1 vs st1 r1
    refine ⟨by rw [r1.len]; exact hn _ _ _ _ e0, ρ1, M1, ds, st1.2, r1, ?_⟩
    have p1 := Post.mono p st1.1
    cases e1 : m ds M1 with
    | ok d M2 => dsimp only [Res.bind] at p1; rw [e1] at p1; exact p1
    | exc c fs M2 => dsimp only [Res.bind] at p1; rw [e1] at p1; exact p1
    | bad => dsimp only [Res.bind] at p1; rw [e1] at p1; exact p1
  | exc c fs M1 => rw [e0] at p; exact p
  | bad => rw [e0] at p; exact p
end QX
set_option maxRecDepth 100000
set_option maxHeartbeats 2000000
namespace QX
open PySem PySem.Spec PyProof.Rows L2 HX
theorem tuple_mulS (l : Addr) (items : Array Value) (n : Nat) (dd : Option Addr) (sl : Array (Option Value)) (x : Int) (u : Tok) (c0 : (decide (x < -(2 ^ 63)) || decide (x ≥ 2 ^ 63)) = false) (c1 : (items.isEmpty || x == 1) = true) :
    Meets (Builtin.«tuple.__mul__» ⟨[.ref l, .int x u], []⟩) (fun _ R s => s.heap.get? l = some { cls := .type "tuple", dict := dd, data := .seq items n, slots := sl } ∧ R (.ok (.ret (Value.ref l))) s) :=
  .of_wp fun prog w A R s h => by
    obtain ⟨hp, g, d, tk, os⟩ := s
    obtain ⟨hl, h⟩ := h
    have f1 := AutoSeq1.idx_int
    wp_walk using wpAny_loadPart' hl
    repeat (first
      | (refine wpAny_ite_false (decide_eq_false (by rw [c0]; exact Bool.false_ne_true)) ?_; wp_walk using wpAny_loadPart' hl)
      | (refine wpAny_ite_true (decide_eq_true (by rw [c1])) ?_; wp_walk using wpAny_loadPart' hl)
      | (refine wpAny_ite_true (decide_eq_true rfl) ?_; wp_walk using wpAny_loadPart' hl))
    exact ⟨_, rfl, h⟩
theorem tuple_mul0 (l : Addr) (items : Array Value) (n : Nat) (dd : Option Addr) (sl : Array (Option Value)) (x : Int) (u : Tok) (c0 : (decide (x < -(2 ^ 63)) || decide (x ≥ 2 ^ 63)) = false) (c1 : (items.isEmpty || x == 1) = false) (c2 : (decide (x ≤ 0) || items.isEmpty) = true) :
    Meets (Builtin.«tuple.__mul__» ⟨[.ref l, .int x u], []⟩) (fun _ R s => s.heap.get? l = some { cls := .type "tuple", dict := dd, data := .seq items n, slots := sl } ∧
      R (.ok (.ret (Value.ref s.heap.objs.size))) { s with heap := s.heap.push { cls := Value.type "tuple", data := Data.seq #[] }, toks := s.toks }) :=
  .of_wp fun prog w A R s h => by
    obtain ⟨hp, g, d, tk, os⟩ := s
    obtain ⟨hl, h⟩ := h
    have f1 := AutoSeq1.idx_int
    wp_walk using wpAny_loadPart' hl
    repeat (first
      | (refine wpAny_ite_false (decide_eq_false (by rw [c0]; exact Bool.false_ne_true)) ?_; wp_walk using wpAny_loadPart' hl)
      | (refine wpAny_ite_false (decide_eq_false (by rw [c1]; exact Bool.false_ne_true)) ?_; wp_walk using wpAny_loadPart' hl)
      | (refine wpAny_ite_true (decide_eq_true (by rw [c2])) ?_; wp_walk using wpAny_loadPart' hl)
      | (refine wpAny_ite_false (decide_eq_false (Nat.not_lt.mpr (by show 0 ≤ sizeLine; exact Nat.zero_le _))) ?_; wp_walk using wpAny_loadPart' hl))
    exact ⟨_, rfl, h⟩
section
variable {X : Cx}
def rRepF (K : PySem.W.Frag) : R2 := fun x y H Q => ∃ l k xs, x = .ref l ∧ y = .int k ∧ SqT K H l xs ∧ -1000 ≤ k ∧ k ≤ 1000 ∧ xs.length ≤ 1000 ∧ ((xs = [] ∨ k = 1) → Q (.ref l) H) ∧ (xs ≠ [] → k ≠ 1 → ∀ p o, H p = none → o.dict = none → Q (.ref p) (upd H p (.frz o (.tup (List.replicate k.toNat xs).flatten))))
theorem op_repF : OpR X (binaryOp .Mult) (rRepF X.K) := by
  intro pins s σ H x y v u Q I rx ry h
  obtain ⟨l, k, xs, rfl, rfl, hT, h1, h2, hz, q1, q2⟩ := h
  cases rx
  obtain ⟨t, rfl⟩ := ry
  obtain ⟨its, r, ⟨⟨cls, dd, data, sl⟩, ho, hc, n, hd⟩, hs⟩ := I.tuple hT
  simp only at hc hd
  subst hc hd
  have hle : its.length = xs.length := r.length.symm
  have c0 : (decide (k < -(2 ^ 63)) || decide (k ≥ 2 ^ 63)) = false := by
    rw [decide_eq_false (by omega), decide_eq_false (by omega)] <;> rfl
  by_cases hs1 : xs = [] ∨ k = 1
  · have c1 : (its.toArray.isEmpty || k == 1) = true := by
      rcases hs1 with e | e
      · rw [e] at hle
        have : its = [] := List.eq_nil_of_length_eq_zero hle
        rw [this]
        rfl
      · rw [e, show ((1 : Int) == 1) = true from rfl, Bool.or_true]
    exact wpAny_binaryOp_repeat_ref (T := "tuple") (U := "int") (by decide) ⟨_, ho, rfl⟩ (fun s' => typeIs_int s' k t) noFill_tuple_mul F.fills_int_mul F.slot_int_rmul repeat_tuple F.slot_int_index.lookup
      (call_meets F.slot_int_rmul (typeIs_int s k t) F.entry_int_rmul (F.args_int_rmul_2 _ _) (int_rmul_tuple k t l its.toArray n dd sl)
        ⟨ho, rfl, ⟨_, ho, rfl⟩, call_meets F.slot_tuple_mul ⟨_, ho, rfl⟩ F.entry_tuple_mul (F.args_tuple_mul_2 _ _) (tuple_mulS l its.toArray n dd sl k t c0 c1) ⟨ho, .ref l, H, I, rfl, q1 hs1⟩⟩)
  · have hne : xs ≠ [] := fun e => hs1 (.inl e)
    have hk1 : k ≠ 1 := fun e => hs1 (.inr e)
    have hn : its ≠ [] := fun e => hne (by
      rw [e] at hle
      exact List.eq_nil_of_length_eq_zero hle.symm)
    have hi : its.toArray.isEmpty = false := by
      cases its with
      | nil => exact absurd rfl hn
      | cons a b => rfl
    have c1 : (its.toArray.isEmpty || k == 1) = false := by
      rw [hi, Bool.false_or]
      exact beq_eq_false_iff_ne.mpr hk1
    by_cases hk0 : k ≤ 0
    · have c2 : (decide (k ≤ 0) || its.toArray.isEmpty) = true := by rw [decide_eq_true hk0]; rfl
      refine wpAny_binaryOp_repeat_ref (T := "tuple") (U := "int") (by decide) ⟨_, ho, rfl⟩ (fun s' => typeIs_int s' k t) noFill_tuple_mul F.fills_int_mul F.slot_int_rmul repeat_tuple F.slot_int_index.lookup
        (call_meets F.slot_int_rmul (typeIs_int s k t) F.entry_int_rmul (F.args_int_rmul_2 _ _) (int_rmul_tuple k t l its.toArray n dd sl)
          ⟨ho, rfl, ⟨_, ho, rfl⟩, call_meets F.slot_tuple_mul ⟨_, ho, rfl⟩ F.entry_tuple_mul (F.args_tuple_mul_2 _ _) (tuple_mul0 l its.toArray n dd sl k t c0 c1 c2) ⟨ho, ?_⟩⟩)
      have e0 : (List.replicate k.toNat xs).flatten = [] := by
        rw [show k.toNat = 0 by omega]
        rfl
      rw [e0] at q2
      exact laidF (its := []) I (Nat.zero_le _) .nil (q2 hne hk1)
    · have hsz0 : its.toArray.size = xs.length := by rw [List.size_toArray, hle]
      have hm : ((its.toArray.size : Nat) : Int) * k ≤ 1000000 := by
        rw [hsz0]
        have a1 : ((xs.length : Nat) : Int) * k ≤ 1000 * k := Int.mul_le_mul_of_nonneg_right (by omega) (by omega)
        omega
      have flen : (List.replicate k.toNat its).flatten.length ≤ sizeLine := by
        rw [PyProof.Rows.lm_len_rep_flat, hle, sizeLine_eq]
        have a1 : k.toNat * xs.length ≤ 1000 * 1000 := Nat.mul_le_mul (by omega) hz
        omega
      have c2 : (decide (k ≤ 0) || its.toArray.isEmpty) = false := by
        rw [hi, Bool.or_false]
        exact decide_eq_false hk0
      have c4 : Builtin.Tuple.tupleTooMany (((its.toArray.size : Nat) : Int) * k) = false := by
        unfold Builtin.Tuple.tupleTooMany
        rw [sizeLine_eq]
        exact decide_eq_false (by omega)
      refine wpAny_binaryOp_repeat_ref (T := "tuple") (U := "int") (by decide) ⟨_, ho, rfl⟩ (fun s' => typeIs_int s' k t) noFill_tuple_mul F.fills_int_mul F.slot_int_rmul repeat_tuple F.slot_int_index.lookup
        (call_meets F.slot_int_rmul (typeIs_int s k t) F.entry_int_rmul (F.args_int_rmul_2 _ _) (int_rmul_tuple k t l its.toArray n dd sl)
          ⟨ho, rfl, ⟨_, ho, rfl⟩, call_meets F.slot_tuple_mul ⟨_, ho, rfl⟩ F.entry_tuple_mul (F.args_tuple_mul_2 _ _) (tuple_mulW l its.toArray n dd sl k t c0 c1 c2 (by omega) c4 (by rw [size_rep, List.size_toArray]; exact flen)) ⟨ho, ?_⟩⟩)
      rw [size_rep]
      refine laidF I ?_ (r.rep k.toNat) (q2 hne hk1)
      rw [PyProof.Rows.lm_len_rep_flat, sizeLine_eq]
      have a1 : k.toNat * xs.length ≤ 1000 * 1000 := Nat.mul_le_mul (by omega) hz
      omega
end
section
variable {S : Sc} {X : Cx}
def gAdd : D → D → Mem → Res D
  | .int i, .int j, M => .ok (.int (i + j)) M
  | .str a, .str b, M => if few (a.length + b.length) = true then .ok (.str (a ++ b)) M else .bad
  | .tup a, .tup b, M => if few (a.length + b.length) = true then .ok (.tup (a ++ b)) M else .bad
  | x, y, M => match listOf M x, listOf M y with | some a, some b => if few (a.length + b.length) = true then .ok (.lst (a ++ b)) M else .bad | _, _ => .bad
def rAddA (K : PySem.W.Frag) : R2 := fun x y H Q => (∃ i j, x = .int i ∧ y = .int j ∧ Q (.int (i + j)) H) ∨ (∃ i j, x = .str i ∧ y = .str j ∧ i.length + j.length ≤ sizeLine ∧ Q (.str (i ++ j)) H) ∨ rCatF K x y H Q ∨ rCat x y H Q
theorem op_addA : OpR X (binaryOp .Add) (rAddA X.K) := op_add.or (op_add_str.or (op_catF.or op_cat))
theorem rep_cat {ρ : List Addr} {H : Hp} {M : Mem} {a b : Addr} {xs ys : List V} {as bs : List D} {W : WX} {σ : L2.St} {Q : VK} (mo : MemOk S ρ H M) (fa : FzT H a xs) (na : a ∉ ρ) (ra : RepA S.K ρ H xs as) (fb : FzT H b ys) (nb : b ∉ ρ) (rb : RepA S.K ρ H ys bs) (hz : few (as.length + bs.length) = true) (p : Post S W (Rep S.K) σ ρ H Q (.ok (.tup (as ++ bs)) M)) : rCatF S.K (.ref a) (.ref b) H Q := by
  obtain ⟨oa, ha, ea⟩ := id fa
  obtain ⟨ob, hb, eb⟩ := id fb
  refine ⟨a, b, xs, ys, rfl, rfl, .inl (.inr ⟨oa, ea⟩), .inl (.inr ⟨ob, eb⟩), by rw [ra.len, rb.len]; exact few_ok hz, fun e => ?_, fun _ e => ?_, fun _ _ q o hq ho => p ρ _ _ (Stp.fresh mo hq) (rep_tup mo hq ho (ra.append rb))⟩
  · subst e
    cases ra
    exact p ρ H _ (Stp.refl mo) (.tup fb nb rb)
  · subst e
    cases rb
    rw [List.append_nil] at p
    exact p ρ H _ (Stp.refl mo) (.tup fa na ra)
theorem oq_add : OpQ S (rAddA S.K) gAdd := by
  intro W σ ρ H M x y dx dy Q mo rx ry p
  unfold gAdd at p
  split at p
  · cases rx; cases ry
    exact .inl ⟨_, _, rfl, rfl, p ρ H _ (Stp.refl mo) (.int _)⟩
  · split at p
    · rename_i hf
      cases rx; cases ry
      exact .inr (.inl ⟨_, _, rfl, rfl, few_ok hf, p ρ H _ (Stp.refl mo) (.str _)⟩)
    · exact p.elim
  · split at p
    · rename_i hf
      cases rx with
      | tup fa na ra =>
        cases ry with
        | tup fb nb rb => exact .inr (.inr (.inl (rep_cat mo fa na ra fb nb rb hf p)))
    · exact p.elim
  · split at p
    · rename_i a b h1 h2
      split at p
      · rename_i hf
        obtain ⟨l, xs, rfl, e1, ra⟩ := list_of mo rx h1
        obtain ⟨l2, ys, rfl, e2, rb⟩ := list_of mo ry h2
        exact .inr (.inr (.inr ⟨l, l2, xs, ys, rfl, rfl, e1, e2, by rw [ra.len, rb.len]; exact few_ok hf, fun q hq => p ρ _ _ (Stp.fresh mo hq) (rep_lst mo hq (ra.append rb))⟩))
      · exact p.elim
    · exact p.elim
def gSub : D → D → Mem → Res D
  | .int i, .int j, M => .ok (.int (i - j)) M
  | _, _, _ => .bad
theorem oq_sub : OpQ S (rI0 fun i j => .int (i - j)) gSub := by
  intro W σ ρ H M x y dx dy Q mo rx ry p
  unfold gSub at p
  split at p
  · cases rx; cases ry
    exact ⟨_, _, rfl, rfl, p ρ H _ (Stp.refl mo) (.int _)⟩
  · exact p.elim
def mulOk (i j : Int) : Bool := Nat.blt (i.natAbs.log2 + j.natAbs.log2) 1000000
abbrev thou (k : Int) : Bool := decide (-1000 ≤ k) && decide (k ≤ 1000)
def gMul : D → D → Mem → Res D
  | .int i, .int j, M => if mulOk i j = true then .ok (.int (i * j)) M else .bad
  | .tup a, .int k, M => if (thou k && Nat.ble a.length 1000) = true then .ok (.tup (List.replicate k.toNat a).flatten) M else .bad
  | x, .int k, M => match listOf M x with | some a => if (thou k && Nat.ble a.length 1000) = true then .ok (.lst (List.replicate k.toNat a).flatten) M else .bad | none => .bad
  | _, _, _ => .bad
def rMulA (K : PySem.W.Frag) : R2 := fun x y H Q => rI CMulW (fun i j => .int (i * j)) x y H Q ∨ rRepF K x y H Q ∨ rRep x y H Q
theorem op_mulA : OpR X (binaryOp .Mult) (rMulA X.K) := op_mulW.or (op_repF.or op_rep)
theorem thou_ok {k : Int} {n : Nat} (h : (thou k && Nat.ble n 1000) = true) : -1000 ≤ k ∧ k ≤ 1000 ∧ n ≤ 1000 := by
  rw [Bool.and_eq_true, Bool.and_eq_true, decide_eq_true_eq, decide_eq_true_eq] at h
  exact ⟨h.1.1, h.1.2, Nat.le_of_ble_eq_true h.2⟩
theorem oq_mul : OpQ S (rMulA S.K) gMul := by
  intro W σ ρ H M x y dx dy Q mo rx ry p
  unfold gMul at p
  split at p
  · split at p
    · rename_i hm
      cases rx; cases ry
      exact .inl ⟨_, _, rfl, rfl, (show CMulW _ _ from by unfold CMulW; simpa [mulOk, Nat.blt_eq] using hm), p ρ H _ (Stp.refl mo) (.int _)⟩
    · exact p.elim
  · split at p
    · rename_i hm
      obtain ⟨h1, h2, h3⟩ := thou_ok hm
      cases ry
      cases rx with
      | tup fa na ra =>
        obtain ⟨oa, ha, ea⟩ := id fa
        refine .inr (.inl ⟨_, _, _, rfl, rfl, .inl (.inr ⟨oa, ea⟩), h1, h2, by rw [ra.len]; exact h3, fun e => ?_, fun _ _ q o hq ho => p ρ _ _ (Stp.fresh mo hq) (rep_tup mo hq ho (ra.rep _))⟩)
        refine p ρ H _ (Stp.refl mo) (.tup fa na ?_)
        rcases e with e | e
        · subst e
          cases ra
          have : ∀ n : Nat, (List.replicate n ([] : List D)).flatten = [] := fun n => by simp
          rw [this]
          exact .nil
        · subst e
          show RepA S.K ρ H _ (List.replicate 1 _).flatten
          rw [show (List.replicate 1 _).flatten = (_ : List D) ++ [] from rfl, List.append_nil]
          exact ra
    · exact p.elim
  · split at p
    · rename_i a h1
      split at p
      · rename_i hm
        obtain ⟨g1, g2, g3⟩ := thou_ok hm
        cases ry
        obtain ⟨l, xs, rfl, e1, ra⟩ := list_of mo rx h1
        refine .inr (.inr ⟨l, _, xs, rfl, rfl, e1, by omega, by omega, ?_, fun q hq => p ρ _ _ (Stp.fresh mo hq) (rep_lst mo hq (ra.rep _))⟩)
        rw [ra.len, sizeLine_eq]
        have a0 : ∀ k : Int, k ≤ 1000 → a.length * k.toNat ≤ 1000 * 1000 := fun k hk => Nat.mul_le_mul g3 (by omega)
        have a1 := a0 _ g2
        omega
      · exact p.elim
    · exact p.elim
  · exact p.elim
def gMod : D → D → Mem → Res D
  | .int i, .int j, M => if decide (0 < j) = true then .ok (.int (i % j)) M else .bad
  | _, _, _ => .bad
theorem oq_mod : OpQ S (rI (fun _ j => 0 < j) fun i j => .int (i % j)) gMod := by
  intro W σ ρ H M x y dx dy Q mo rx ry p
  unfold gMod at p
  split at p
  · split at p
    · rename_i hm
      cases rx; cases ry
      exact ⟨_, _, rfl, rfl, of_decide_eq_true hm, p ρ H _ (Stp.refl mo) (.int _)⟩
    · exact p.elim
  · exact p.elim
def gFdiv : D → D → Mem → Res D
  | .int i, .int j, M => if (decide (0 < j) && Nat.blt j.natAbs.log2 9000) = true then .ok (.int (i / j)) M else .bad
  | _, _, _ => .bad
theorem oq_fdiv : OpQ S (rI CDivW fun i j => .int (i / j)) gFdiv := by
  intro W σ ρ H M x y dx dy Q mo rx ry p
  unfold gFdiv at p
  split at p
  · split at p
    · rename_i hm
      rw [Bool.and_eq_true, decide_eq_true_eq, Nat.blt_eq] at hm
      cases rx; cases ry
      exact ⟨_, _, rfl, rfl, hm, p ρ H _ (Stp.refl mo) (.int _)⟩
    · exact p.elim
  · exact p.elim
def gPow : D → D → Mem → Res D
  | .int i, .int j, M => if (decide (0 ≤ j) && decide (j ≤ 1000000) && Nat.blt i.natAbs 18446744073709551616) = true then .ok (.int (i ^ j.toNat)) M else .bad
  | _, _, _ => .bad
theorem oq_pow : OpQ S (rI CPow fun i j => .int (i ^ j.toNat)) gPow := by
  intro W σ ρ H M x y dx dy Q mo rx ry p
  unfold gPow at p
  split at p
  · split at p
    · rename_i hm
      rw [Bool.and_eq_true, Bool.and_eq_true, decide_eq_true_eq, decide_eq_true_eq, Nat.blt_eq] at hm
      cases rx; cases ry
      exact ⟨_, _, rfl, rfl, ⟨hm.1.1, hm.1.2, by have := hm.2; omega⟩, p ρ H _ (Stp.refl mo) (.int _)⟩
    · exact p.elim
  · exact p.elim
def gCmp (f : Int → Int → Bool) : D → D → Mem → Res D
  | .int i, .int j, M => .ok (.bl (f i j)) M
  | _, _, _ => .bad
theorem oq_cmp (f : Int → Int → Bool) : OpQ S (rI0 fun i j => .bl (f i j)) (gCmp f) := by
  intro W σ ρ H M x y dx dy Q mo rx ry p
  unfold gCmp at p
  split at p
  · cases rx; cases ry
    exact ⟨_, _, rfl, rfl, p ρ H _ (Stp.refl mo) (.bl _)⟩
  · exact p.elim
theorem flat_cmp (f : Int → Int → Bool) : Flat (gCmp f) := by
  intro x y M
  unfold gCmp
  split
  · exact .inl ⟨_, rfl⟩
  · exact .inr rfl
def gIsN (neg : Bool) : D → D → Mem → Res D
  | .adr _, _, _ => .bad
  | .non, .non, M => .ok (.bl (!neg)) M
  | _, .non, M => .ok (.bl neg) M
  | _, _, _ => .bad
theorem not_non {K : PySem.W.Frag} {ρ : List Addr} {H : Hp} {x : V} {d : D} (r : Rep K ρ H x d) (h1 : d ≠ .non) (h2 : ∀ v, d ≠ .adr v) : x ≠ .non := by
  intro e
  subst e
  cases r with
  | non => exact h1 rfl
  | adr => exact h2 _ rfl
theorem oq_isN : OpQ S (fun x y H Q => y = .non ∧ Q (.bl (decide (x = .non))) H) (gIsN false) := by
  intro W σ ρ H M x y dx dy Q mo rx ry p
  unfold gIsN at p
  split at p
  · exact p.elim
  · cases rx; cases ry
    exact ⟨rfl, p ρ H _ (Stp.refl mo) (.bl _)⟩
  · rename_i h1 h2
    cases ry
    refine ⟨rfl, ?_⟩
    rw [decide_eq_false (not_non rx (fun e => h2 e) h1)]
    exact p ρ H _ (Stp.refl mo) (.bl _)
  · exact p.elim
mutual
def D.py : D → Option PyData
  | .non => some .none
  | .bl b => some (.bool b)
  | .int i => some (.int i)
  | .str x => some (.str x)
  | .tup ds => (match D.pyA ds with | some ps => some (.tuple ps) | none => none)
  | .lst ds => (match D.pyA ds with | some ps => some (.list ps) | none => none)
  | _ => none
def D.pyA : List D → Option (List PyData)
  | [] => some []
  | d :: ds => (match D.py d, D.pyA ds with | some p, some ps => some (p :: ps) | _, _ => none)
end
def toPy (M : Mem) : D → Option PyData
  | .ref n => (match M[n]? with | some (.lst ds) => (match D.pyA ds with | some ps => some (.list ps) | none => none) | _ => none)
  | d => D.py d
mutual
theorem py_dp {K : PySem.W.Frag} {ρ : List Addr} {H : Hp} : ∀ (d : D) (v : V) (p : PyData), Rep K ρ H v d → D.py d = some p → Dp K H v p
  | .non, _, _, r, h => by cases r; cases h; exact .non
  | .bl b, _, _, r, h => by cases r; cases h; exact .bl b
  | .int i, _, _, r, h => by cases r; cases h; exact .int i
  | .str x, _, _, r, h => by cases r; cases h; exact .str x
  | .tup ds, _, _, r, h => by
    unfold D.py at h
    split at h
    · rename_i ps e
      cases h
      cases r with
      | tup f n ra =>
        obtain ⟨o, _, e1⟩ := f
        exact .tup (.inl (.inr ⟨o, e1⟩)) (pyA_dp ds _ _ ra e)
    · cases h
  | .lst ds, _, _, r, h => by
    unfold D.py at h
    split at h
    · rename_i ps e
      cases h
      cases r with
      | lst f n ra => exact .lst (SqL.of f) (pyA_dp ds _ _ ra e)
    · cases h
  | .dct _ _, _, _, _, h => by cases h
  | .scr _, _, _, _, h => by cases h
  | .ref _, _, _, _, h => by cases h
  | .adr _, _, _, _, h => by cases h
theorem pyA_dp {K : PySem.W.Frag} {ρ : List Addr} {H : Hp} : ∀ (ds : List D) (vs : List V) (ps : List PyData), RepA K ρ H vs ds → D.pyA ds = some ps → DpAll K H vs ps
  | [], _, _, r, h => by cases r; cases h; exact .nil
  | d :: ds, _, _, r, h => by
    unfold D.pyA at h
    split at h
    · rename_i p ps e1 e2
      cases h
      cases r with
      | cons r1 r2 => exact .cons (py_dp d _ _ r1 e1) (pyA_dp ds _ _ r2 e2)
    · cases h
end
theorem toPy_dp {ρ : List Addr} {H : Hp} {M : Mem} {d : D} {v : V} {p : PyData} (mo : MemOk S ρ H M) (r : Rep S.K ρ H v d) (h : toPy M d = some p) : Dp S.K H v p := by
  unfold toPy at h
  split at h
  · split at h
    · rename_i ds hm
      split at h
      · rename_i ps e
        cases h
        cases r with
        | ref f =>
          obtain ⟨xs, e1, ra⟩ := mo.cell _ _ _ f hm
          exact .lst (SqL.of e1) (pyA_dp ds _ _ ra e)
      · cases h
    · cases h
  · exact py_dp _ _ _ r h
def gEq (neg : Bool) (x y : D) (M : Mem) : Res D := match toPy M x, toPy M y with
  | some a, some b => if (SeqAt.shaped a && SeqAt.shaped b) = true then .ok (.bl (if neg = true then !PyData.eqv a b else PyData.eqv a b)) M else .bad
  | _, _ => .bad
theorem oq_eq : OpQ S (rEqD S.K) (gEq false) := by
  intro W σ ρ H M x y dx dy Q mo rx ry p
  unfold gEq at p
  split at p
  · rename_i a b h1 h2
    split at p
    · rename_i hs
      rw [Bool.and_eq_true] at hs
      exact ⟨a, b, toPy_dp mo rx h1, toPy_dp mo ry h2, hs.1, hs.2, p ρ H _ (Stp.refl mo) (.bl _)⟩
    · exact p.elim
  · exact p.elim
theorem oq_ne : OpQ S (rNeD S.K) (gEq true) := by
  intro W σ ρ H M x y dx dy Q mo rx ry p
  unfold gEq at p
  split at p
  · rename_i a b h1 h2
    split at p
    · rename_i hs
      rw [Bool.and_eq_true] at hs
      exact ⟨a, b, toPy_dp mo rx h1, toPy_dp mo ry h2, hs.1, hs.2, p ρ H _ (Stp.refl mo) (.bl _)⟩
    · exact p.elim
  · exact p.elim
def gNeg : D → Mem → Res D
  | .int i, M => .ok (.int (-i)) M
  | _, _ => .bad
def fUn (g : D → Mem → Res D) (f : F D) : F D := fun σ M => (f σ M).bind g
theorem qe_neg {W : WX} {a : Expr} {pos : Pos} {fa : F D} (ha : QE S W X a fa) : QE S W X (.UnaryOp .USub a pos) (fUn gNeg fa) := PE.imp (pe_un un_neg ha) fun σ H Q ⟨ρ, M, σa, mo, rs, p⟩ => by
  refine use mo rs p fun x M1 ρ1 H1 v st1 r1 rs1 p1 => ?_
  cases x with
  | int i => cases r1; exact ⟨i, rfl, p1 ρ1 H1 _ (Stp.refl st1.2) (.int _)⟩
  | _ => exact False.elim p1
end
section
variable {S : Sc} {X : Cx} {W : WX}
def CallQ (S : Sc) (r : List V → Hp → VK → Prop) (g : List D → Mem → Res D) : Prop := ∀ (W : WX) (σ : L2.St) (ρ : List Addr) (H : Hp) (M : Mem) (xs : List V) (ds : List D) (Q : VK), MemOk S ρ H M → RepA S.K ρ H xs ds → Post S W (Rep S.K) σ ρ H Q (g ds M) → r xs H Q
theorem cb_imp {r : List V → Hp → VK → Prop} {g : List D → Mem → Res D} {fs : F (List D)} (hq : CallQ S r g) {σ : L2.St} {H : Hp} {Q : VK} (h : tOf S W (Rep S.K) (fCall g fs) σ H Q) : tCB r (tOf S W (RepA S.K) fs) σ H Q := by
  obtain ⟨ρ, M, σa, mo, rs, p⟩ := h
  exact use mo rs p fun ds M1 ρ1 H1 vs st1 r1 rs1 p1 => hq _ _ _ _ _ _ _ _ st1.2 r1 p1
variable {e : Expr} {es : List Expr} {fs : F (List D)} {x : Str} {p pos : Pos}
theorem qe_callB {id : String} {r : List V → Hp → VK → Prop} {g : List D → Mem → Res D} (hc : CallR X (.builtin id) r) (hq : CallQ S r g) (hg : Gl X x) (hm : X.mg x = none) (hv : bootBuiltins x = some (.builtin id)) (ha : QA S W X (e :: es) fs) (hn : x ≠ "__name__" := by decide) (hdb : (x == ("__debug__" : Str)) = false := by decide)
    (he : starEach (e :: es) X.env = (false, eval e X.env) :: starEach es X.env := by rfl) (hpl : (backTo pos (starEach es X.env)).any (·.1) = false := by rfl) : QE S W X (.Call (.Name x p) (e :: es) [] pos) (fCall g fs) := PE.imp (pe_callB hc hg hm hv ha hn hdb he hpl) fun _ _ _ h => cb_imp hq h
theorem qe_callTy {id : String} {r : List V → Hp → VK → Prop} {g : List D → Mem → Res D} (hc : CallR X (.type id) r) (hq : CallQ S r g) (hg : Gl X x) (hm : X.mg x = none) (hv : bootBuiltins x = some (.type id)) (ha : QA S W X (e :: es) fs) (hn : x ≠ "__name__" := by decide) (hdb : (x == ("__debug__" : Str)) = false := by decide)
    (he : starEach (e :: es) X.env = (false, eval e X.env) :: starEach es X.env := by rfl) (hpl : (backTo pos (starEach es X.env)).any (·.1) = false := by rfl) : QE S W X (.Call (.Name x p) (e :: es) [] pos) (fCall g fs) := PE.imp (pe_callTy hc hg hm hv ha hn hdb he hpl) fun _ _ _ h => cb_imp hq h
end
end QX
set_option maxRecDepth 100000
set_option maxHeartbeats 2000000
namespace QX
open PySem PySem.Spec PyProof.Rows L2 HX
section
variable {S : Sc} {X : Cx} {W : WX}
inductive Ty where
  | none | bool | int | str | tuple | list | dict
  deriving DecidableEq
def Ty.name : Ty → String
  | .none => "NoneType" | .bool => "bool" | .int => "int" | .str => "str" | .tuple => "tuple" | .list => "list" | .dict => "dict"
def D.ty : D → Option Ty
  | .non => some .none
  | .bl _ => some .bool
  | .int _ => some .int
  | .str _ => some .str
  | .tup _ => some .tuple
  | .lst _ => some .list
  | .dct _ _ => some .dict
  | .ref _ => none
  | .scr _ => none
  | .adr _ => none
def Ty.is (t c : Ty) : Bool := decide (t = c) || (decide (t = .bool) && decide (c = .int))
theorem kit_is : ∀ t c : Ty, c ≠ .none → kitB t.name c.name = some (t.is c) := by
  intro t c h
  cases c with
  | none => exact absurd rfl h
  | _ => cases t <;> decide +kernel
theorem ty_ok {ρ : List Addr} {H : Hp} {M : Mem} {v : V} {d : D} {t : Ty} (mo : MemOk S ρ H M) (r : Rep S.K ρ H v d) (h : d.ty = some t) : TyX S.K H v (.type t.name) := by
  cases r with
  | non => cases h; exact .base .non
  | bl b => cases h; exact .base (.bl b)
  | int i => cases h; exact .base (.int i)
  | str x => cases h; exact .base (.str x)
  | tup f n ra =>
    cases h
    obtain ⟨o, _, e⟩ := f
    exact .fTuple e
  | lst e n ra => cases h; exact .base (.lst e)
  | dct e n hk ra => cases h; exact .base (.dK e)
  | scr f => cases h
  | ref f => cases h
  | adr v => cases h
def gIsi (c : Ty) : List D → Mem → Res D
  | [d, .adr (.ty n)], M => if n = c.name then (match d.ty with | some t => .ok (.bl (t.is c)) M | none => .bad) else .bad
  | _, _ => .bad
theorem cq_isi (c : Ty) (hc : c ≠ .none) : CallQ S (rIsi S.K) (gIsi c) := by
  intro W σ ρ H M xs ds Q mo ra p
  unfold gIsi at p
  split at p
  · split at p
    · rename_i hn
      split at p
      · rename_i t ht
        obtain ⟨v, v2, rfl, r1, r2⟩ := RepA.two ra
        cases r2
        subst hn
        exact ⟨v, _, _, _, _, rfl, .ty _, ty_ok mo r1 ht, kit_ty (kit_is t c hc), p ρ H _ (Stp.refl mo) (.bl _)⟩
      · exact p.elim
    · exact p.elim
  · exact p.elim
def gLen : List D → Mem → Res D
  | [.str z], M => if few z.length = true then .ok (.int z.length) M else .bad
  | [d], M => (match seqOf M d with | some ds => .ok (.int ds.length) M | none => .bad)
  | _, _ => .bad
def rLenA (K : PySem.W.Frag) : List V → Hp → VK → Prop := fun xs H Q => (∃ p ys, xs = [.ref p] ∧ (SqL K H p ys ∨ SqT K H p ys) ∧ Q (.int ys.length) H) ∨ ∃ z, xs = [.str z] ∧ z.length ≤ sizeLine ∧ Q (.int z.length) H
theorem call_lenA : CallR X (.builtin "len") (rLenA X.K) := call_len_seq.or call_len_str
theorem cq_len : CallQ S (rLenA S.K) gLen := by
  intro W σ ρ H M xs ds Q mo ra p
  unfold gLen at p
  split at p
  · split at p
    · rename_i hf
      obtain ⟨v, rfl, r⟩ := RepA.one ra
      cases r
      exact .inr ⟨_, rfl, few_ok hf, p ρ H _ (Stp.refl mo) (.int _)⟩
    · exact p.elim
  · split at p
    · rename_i ds hs
      obtain ⟨v, rfl, r⟩ := RepA.one ra
      obtain ⟨a, ys, rfl, hq, rb⟩ := seq_of mo r hs
      refine .inl ⟨a, ys, rfl, hq, ?_⟩
      rw [rb.len]
      exact p ρ H _ (Stp.refl mo) (.int _)
    · exact p.elim
  · exact p.elim
def blsOf : List D → Option (List Bool)
  | [] => some []
  | .bl b :: ds => (match blsOf ds with | some bs => some (b :: bs) | none => none)
  | _ => none
theorem bls_ok {K : PySem.W.Frag} {ρ : List Addr} {H : Hp} : ∀ (ds : List D) (xs : List V) (bs : List Bool), RepA K ρ H xs ds → blsOf ds = some bs → xs = bs.map V.bl
  | [], _, _, r, h => by cases r; cases h; rfl
  | d :: ds, _, bs, r, h => by
    cases r with
    | cons r1 r2 =>
      cases d with
      | bl b =>
        unfold blsOf at h
        split at h
        · rename_i bs' e
          cases h
          cases r1
          rw [List.map_cons, bls_ok ds _ _ r2 e]
        · cases h
      | _ => cases h
def gAll : List D → Mem → Res D
  | [d], M => (match listOf M d with | some ds => (match blsOf ds with | some bs => .ok (.bl (bs.all id)) M | none => .bad) | none => .bad)
  | _, _ => .bad
theorem cq_all : CallQ S (rAll S.K) gAll := by
  intro W σ ρ H M xs ds Q mo ra p
  unfold gAll at p
  split at p
  · split at p
    · rename_i es hl
      split at p
      · rename_i bs hb
        obtain ⟨v, rfl, r⟩ := RepA.one ra
        obtain ⟨a, ys, rfl, e, rb⟩ := list_of mo r hl
        rw [bls_ok es ys bs rb hb] at e
        exact ⟨a, bs, rfl, SqL.of e, p ρ H _ (Stp.refl mo) (.bl _)⟩
      · exact p.elim
    · exact p.elim
  · exact p.elim
def gMax2 : List D → Mem → Res D
  | [.int i, .int j], M => .ok (.int (if j > i then j else i)) M
  | _, _ => .bad
def gMin2 : List D → Mem → Res D
  | [.int i, .int j], M => .ok (.int (if j < i then j else i)) M
  | _, _ => .bad
theorem cq_max2 : CallQ S (fun xs H Q => ∃ i j, xs = [.int i, .int j] ∧ Q (.int (if j > i then j else i)) H) gMax2 := by
  intro W σ ρ H M xs ds Q mo ra p
  unfold gMax2 at p
  split at p
  · obtain ⟨v, v2, rfl, r1, r2⟩ := RepA.two ra
    cases r1; cases r2
    exact ⟨_, _, rfl, p ρ H _ (Stp.refl mo) (.int _)⟩
  · exact p.elim
theorem cq_min2 : CallQ S (fun xs H Q => ∃ i j, xs = [.int i, .int j] ∧ Q (.int (if j < i then j else i)) H) gMin2 := by
  intro W σ ρ H M xs ds Q mo ra p
  unfold gMin2 at p
  split at p
  · obtain ⟨v, v2, rfl, r1, r2⟩ := RepA.two ra
    cases r1; cases r2
    exact ⟨_, _, rfl, p ρ H _ (Stp.refl mo) (.int _)⟩
  · exact p.elim
def gTuple : List D → Mem → Res D
  | [.tup ds], M => .ok (.tup ds) M
  | [d], M => (match listOf M d with | some ds => .ok (.tup ds) M | none => .bad)
  | _, _ => .bad
def rTupleA (K : PySem.W.Frag) : List V → Hp → VK → Prop := fun xs H Q => (∃ p ys, xs = [.ref p] ∧ SqL K H p ys ∧ ∀ l o, H l = none → o.dict = none → Q (.ref l) (upd H l (.frz o (.tup ys)))) ∨ ∃ a ys, xs = [.ref a] ∧ SqT K H a ys ∧ Q (.ref a) H
theorem call_tupleA : CallR X (.type "tuple") (rTupleA X.K) := call_tuple_frz.or call_tupleT
theorem cq_tuple : CallQ S (rTupleA S.K) gTuple := by
  intro W σ ρ H M xs ds Q mo ra p
  unfold gTuple at p
  split at p
  · obtain ⟨v, rfl, r⟩ := RepA.one ra
    have r' := r
    obtain ⟨a, ys, rfl, hq, rb, _, _⟩ := tup_of r
    exact .inr ⟨a, ys, rfl, hq, p ρ H _ (Stp.refl mo) r'⟩
  · split at p
    · rename_i es hl
      obtain ⟨v, rfl, r⟩ := RepA.one ra
      obtain ⟨a, ys, rfl, e, rb⟩ := list_of mo r hl
      exact .inl ⟨a, ys, rfl, SqL.of e, fun q o hq ho => p ρ _ _ (Stp.fresh mo hq) (rep_tup mo hq ho rb)⟩
    · exact p.elim
  · exact p.elim
def gInt : List D → Mem → Res D
  | [.int i], M => .ok (.int i) M
  | [.bl b], M => .ok (.int (if b then 1 else 0)) M
  | _, _ => .bad
theorem cq_int : CallQ S (fun xs H Q => (∃ i, xs = [.int i] ∧ Q (.int i) H) ∨ ∃ k, xs = [.bl k] ∧ Q (.int (if k then 1 else 0)) H) gInt := by
  intro W σ ρ H M xs ds Q mo ra p
  unfold gInt at p
  split at p
  · obtain ⟨v, rfl, r⟩ := RepA.one ra
    cases r
    exact .inl ⟨_, rfl, p ρ H _ (Stp.refl mo) (.int _)⟩
  · obtain ⟨v, rfl, r⟩ := RepA.one ra
    cases r
    exact .inr ⟨_, rfl, p ρ H _ (Stp.refl mo) (.int _)⟩
  · exact p.elim
variable {a b : Expr} {fa fb : F D} {p p2 pos pos2 : Pos}
def MtQ (S : Sc) (r : V → List V → Hp → VK → Prop) (g : D → List D → Mem → Res D) : Prop := ∀ (W : WX) (σ : L2.St) (ρ : List Addr) (H : Hp) (M : Mem) (x : V) (d : D) (xs : List V) (ds : List D) (Q : VK), MemOk S ρ H M → Rep S.K ρ H x d → RepA S.K ρ H xs ds → Post S W (Rep S.K) σ ρ H Q (g d ds M) → r x xs H Q
def isL (M : Mem) (d : D) : Bool := (listOf M d).isSome
def fMeth (g : D → List D → Mem → Res D) (fo : F D) (fs : F (List D)) : F D := fun σ M => (fo σ M).bind fun d M1 => if isL M1 d = true then (fs σ M1).bind fun ds M2 => g d ds M2 else .bad
variable {o e : Expr} {es : List Expr} {fo : F D} {fs : F (List D)} {name : Str} {id : String} {apos cpos : Pos} {r : V → List V → Hp → VK → Prop} {g : D → List D → Mem → Res D}
theorem isL_ty {ρ : List Addr} {H : Hp} {M : Mem} {v : V} {d : D} (mo : MemOk S ρ H M) (r : Rep S.K ρ H v d) (h : isL M d = true) : tyV S.K "list" v H := by
  unfold isL at h
  obtain ⟨ds, e⟩ := Option.isSome_iff_exists.mp h
  obtain ⟨a, xs, rfl, e1, _⟩ := list_of mo r e
  exact .inl ⟨rfl, xs, SqL.of e1⟩
theorem qe_bm (hk : X.K = S.K) (pa : PlainAttrs "list") (slot : Slot "list" name id) (hty : typeOf (.builtin id) = pure (.type "method_descriptor")) (hm : MtR X id r) (hq : MtQ S r g) (ho : QE S W X o fo) (ha : QA S W X (e :: es) fs)
    (hbase : attributeBase o name X.env (eval o X.env) = eval o X.env := by rfl)
    (hfew : ((backTo cpos (starEach (e :: es) X.env)).all (fun x => !x.1) && (backToKw cpos (keywordEach [] X.env)).all (fun x => x.1.isSome)
      && decide ((e :: es).length + ([] : List Keyword).length + (if ([] : List Keyword).isEmpty then 0 else 1) < 30)) = true := by rfl)
    (hline : (apos.endLine == cpos.line) = true := by rfl) (hs : starEach (e :: es) X.env = (false, eval e X.env) :: starEach es X.env := by rfl) (hplain : (backTo cpos (starEach es X.env)).any (·.1) = false := by rfl) :
    QE S W X (.Call (.Attribute o name apos) (e :: es) [] cpos) (fMeth g fo fs) := by
  have h := pe_bm pa slot hty hm ho ha hbase hfew hline hs hplain
  rw [hk] at h
  refine PE.imp h fun σ H Q ⟨ρ, M, σa, mo, rs, p⟩ => ?_
  refine use mo rs p fun d M1 ρ1 H1 v st1 r1 rs1 p1 => ?_
  split at p1
  · rename_i hl
    refine ⟨isL_ty st1.2 r1 hl, use st1.2 rs1 p1 fun ds M2 ρ2 H2 vs st2 r2 rs2 p2 => hq _ _ _ _ _ _ _ _ _ _ st2.2 (Rep.mono st2.1 _ _ r1) r2 p2⟩
  · exact p1.elim
def gAppend : D → List D → Mem → Res D
  | .ref n, [d], M => (match M[n]? with | some (.lst ds) => if Nat.blt ds.length 16777216 = true then .ok .non (M.set n (.lst (ds ++ [d]))) else .bad | _ => .bad)
  | _, _, _ => .bad
theorem mq_append : MtQ S rAppend gAppend := by
  intro W σ ρ H M x d xs ds Q mo rx ra p
  unfold gAppend at p
  split at p
  · split at p
    · rename_i es hm
      split at p
      · rename_i hf
        obtain ⟨v, rfl, r⟩ := RepA.one ra
        cases rx with
        | ref f =>
          obtain ⟨ys, e, rb⟩ := mo.cell _ _ _ f hm
          refine ⟨_, ys, v, rfl, rfl, e, ?_, p ρ _ _ (Stp.put mo f hm (rb.append (.cons r .nil))) .non⟩
          rw [rb.len, sizeLine_eq]
          simpa [Nat.blt_eq] using hf
      · exact p.elim
    · exact p.elim
  · exact p.elim
end
end QX
set_option maxRecDepth 100000
set_option maxHeartbeats 2000000
namespace QX
open PySem PySem.Spec PyProof.Rows L2 HX
section
variable {X : Cx} {S : Sc} {W : WX}
section
variable {i : Nat} {y : Str} {py : Pos} {elt tg iter : Expr} {ifs : List Expr} {scope : Scope} {own : List (Str × Nat)} {pos spos : Pos} {fi : F Ita} {t : Tg} {c : F Bool} {e : F D}
theorem setLc_imp {f : F D} {tt : TE} (h : ∀ σ H Q, tOf S W (Rep S.K) f σ H Q → tt σ H Q) {E : Ends} {σ : L2.St} {H : Hp} (q : tOfS S W (sSet i f) E σ H) : tAsg tt (gName i) E σ H := h _ _ _ (asg_imp q)
theorem qs_setLc (hc : X.calm = true) (hN : X.N.Nodup) (hy : X.N[i]? = some y) (hyl : X.env.scope.names.lookup y = some .local)
    (hsw : swapsWith (.ListComp elt [⟨tg, iter, ifs, 0⟩] scope pos) (some (.Name y py)) spos.line X.env = pure true) (hi : QI S W X tg iter fi) (ok : BlkOk X.N X.env.scope scope own)
    (hg : ∀ (s : Shared) (H : Hp) (C : Addr) (cl : List (Str × Addr)) (fp : List Addr), QG S (X.blk s H scope (compEnvC scope cl C X.env) fp) tg t) (ht : ∀ (s : Shared) (H : Hp) (C : Addr) (cl : List (Str × Addr)) (fp : List Addr), QTs S W0 (X.blk s H scope (compEnvC scope cl C X.env) fp) ifs c)
    (he : ∀ (s : Shared) (H : Hp) (C : Addr) (cl : List (Str × Addr)) (fp : List Addr), QE S W0 (X.blk s H scope (compEnvC scope cl C X.env) fp) elt e) (hsl : ∀ i ∈ t.slots, i ∈ own.map (·.2) := by decide) (hs : ∀ x, foldedSetIterable iter X.env x = pure x := by intro _; rfl) :
    QS S W X (.Assign [.Name y py] (.ListComp elt [⟨tg, iter, ifs, 0⟩] scope pos) spos) (sSet i (fTrim (fCompC fi (own.map (·.2)) t c e))) :=
  PS.imp (ps_setLc hc hN hy hyl hsw hi ok hg ht he hs) fun _ _ _ h => setLc_imp (fun σ H Q ⟨ρ, M, σa, mo, rs, p⟩ => lc_imp hsl ⟨ρ, M, σa, mo, rs, Post.trim mo p⟩) h
end
variable {o e : Expr} {es : List Expr} {fo : F D} {fs : F (List D)} {apos cpos : Pos}
mutual
def withinB : PyData → Bool
  | .int i => decide (-100000000000000000000000000000000000000000000000000000000000000000000000000000000000000000000000000000000000000000000000 ≤ i) && decide (i ≤ 100000000000000000000000000000000000000000000000000000000000000000000000000000000000000000000000000000000000000000000000)
  | .list ds => withinBA ds
  | .tuple ds => withinBA ds
  | .dict _ => false
  | _ => true
def withinBA : List PyData → Bool
  | [] => true
  | d :: ds => withinB d && withinBA ds
end
mutual
theorem within_ok : ∀ d : PyData, withinB d = true → within 100000000000000000000000000000000000000000000000000000000000000000000000000000000000000000000000000000000000000000000000 d
  | .none, _ => by simp [within]
  | .bool _, _ => by simp [within]
  | .int i, h => by simpa [withinB, within] using h
  | .str _, _ => by simp [within]
  | .list ds, h => by simp only [within]; exact withinA_ok ds (by simpa only [withinB] using h)
  | .tuple ds, h => by simp only [within]; exact withinA_ok ds (by simpa only [withinB] using h)
  | .dict _, h => by simp [withinB] at h
theorem withinA_ok : ∀ ds : List PyData, withinBA ds = true → withinAll 100000000000000000000000000000000000000000000000000000000000000000000000000000000000000000000000000000000000000000000000 ds
  | [], _ => by simp [withinAll]
  | d :: ds, h => by
    simp only [withinBA, Bool.and_eq_true] at h
    simp only [withinAll]
    exact ⟨within_ok d h.1, withinA_ok ds h.2⟩
end
end
def spG (S : Sc) (n : Nat) (m : List D → Mem → Res D) : Sp := fun vs H Q _ => vs.length = n ∧ ∃ ρ M ds, MemOk S ρ H M ∧ RepA S.K ρ H vs ds ∧ Post S W0 (Rep S.K) [] ρ H Q (m ds M)
theorem run_start {S : Sc} {N : List Str} {k : Nat} {b : FS} {vs : List V} {H : Hp} {Q : VK} {ρ : List Addr} {M : Mem} {ds : List D} (mo : MemOk S ρ H M) (ra : RepA S.K ρ H vs ds) (p : Post S W0 (Rep S.K) [] ρ H Q (runD N.length k b ds M)) :
    tOfS S W0 b { nx := fun _ H' => Q .non H', rt := Q } (L2.start N vs) H := by
  refine ⟨ρ, M, _, mo, rep_start ra, ?_⟩
  unfold runD at p
  split at p
  · cases e : b (startA N.length ds) M with
    | ok fl M1 =>
      rw [e] at p
      cases fl with
      | rt d => exact p
      | nx σ => exact fun ρ' H' _ st' _ => p ρ' H' .non st' .non
      | bk σ => exact p.elim
      | ct σ => exact p.elim
    | exc c fs σ M1 => rw [e] at p; exact fun ρ' H' _ d st' _ xr => p ρ' H' d st' xr
    | bad => rw [e] at p; exact p
  · exact p.elim
section
variable {S : Sc} {P : Program} {w : World} {mg : Str → Option Value} {base : Heap} {k : Nat} {x : Str} {ps N : List Str} {st : Stmt} {b : FS}
end
theorem law_sp {S : Sc} {H : Hp} {a : Addr} {ns : List Int} {m : List D → Mem → Res D} (hT : LamX.Tabs S.T H) (hS : SqL S.K H a (ns.map V.int)) (h : ∃ M, m [.scr ns] [] = .ok (.bl true) M) : spG S 1 m [.ref a] H (fun v _ => v = .bl true) fun _ _ _ => False := by
  obtain ⟨M, e⟩ := h
  refine ⟨rfl, [], [], [.scr ns], ⟨rfl, List.nodup_nil, fun n a c h => by simp at h, hT⟩, .cons (.scr ?_) .nil, ?_⟩
  · rcases hS with h | h
    · exact .inl ⟨h, by simp⟩
    · exact .inr h
  · rw [e]
    intro ρ' H' v st r
    cases r
    rfl
abbrev cLt (i j : Int) : Bool := decide (i < j)
abbrev cLe (i j : Int) : Bool := decide (i ≤ j)
abbrev cGt (i j : Int) : Bool := decide (j < i)
end QX
namespace QX
open PySem PySem.Spec PyProof.Rows L2 HX
end QX
set_option maxRecDepth 100000
set_option maxHeartbeats 2000000
namespace QX
open PySem PySem.Spec PyProof.Rows L2 HX
section
variable {X : Cx} {S : Sc} {W : WX} {e : Expr} {fe : F D} {pos : Pos}
end
section
variable {S : Sc}
end
section
variable {S : Sc}
end
end QX
set_option maxRecDepth 100000
set_option maxHeartbeats 2000000
namespace QX
open PySem PySem.Spec PyProof.Rows L2 HX
section
variable {S : Sc}
end
end QX
set_option maxRecDepth 100000
set_option maxHeartbeats 2000000
namespace QX
open PySem PySem.Spec PyProof.Rows L2 HX
section
variable {prog : Program} {w : World} {A : Around} {E : Value → Shared → Prop} {s : Shared} {l : Addr} {xs : Array (Int × Tok)}
end
section
variable {X : Cx} {S : Sc}
end
end QX
set_option maxRecDepth 100000
set_option maxHeartbeats 2000000
namespace QX
open PySem PySem.Spec PyProof.Rows L2 HX
section
variable {S : Sc} {P : Program} {w : World} {mg : Str → Option Value} {base : Heap} {j k : Nat} {x : Str} {ps N : List Str} {st : Stmt} {b : FS} {dvs : List V} {kws : List (Str × V)} {m m' : List D → Mem → Res D}
end
section
variable {X : Cx} {S : Sc} {W : WX} {k : Nat} {x : Str} {ps ks : List Str} {m : List D → Mem → Res D} {p pos kpos : Pos} {e : Expr} {es : List Expr} {kws : List Keyword} {fs fk : F (List D)} {fe : F D} {st : Stmt} {dvs : List V} {kds : List (Str × V)} {nm : Option Str}
end
end QX
namespace QX
open PySem PySem.Spec PyProof.Rows L2 HX
end QX
set_option maxRecDepth 100000
set_option maxHeartbeats 2000000
namespace QX
open PySem PySem.Spec PyProof.Rows L2 HX
structure Bi6 (mg : Str → Option Value) : Prop where
  str_ : mg "str" = none
  reversed_ : mg "reversed" = none
theorem hu65 {A : Around} {k : Nat} (hr : Room k A) : A.units + 65 < cLine := by
  have := hu150 hr
  omega
theorem gstr_mk {K : PySem.W.Frag} {mg : Str → Option Value} {h : Heap} {x z : Str} {t : Tok} (X : K.In h) (G : h.Ns mainGlobals mg) (a : PySem.W.nsIn K mainGlobals x = some (some (.str z t))) : ∃ t, mg x = some (.str z t) := ⟨t, PySem.W.mg_of X G a⟩
section
variable {X : Cx} {S : Sc} {W : WX} {e o : Expr} {fe fo : F D} {pos : Pos}
theorem pe_gstr {x z : Str} {tk : Tok} (hg : Gl X x) (hm : X.mg x = some (.str z tk)) (hd : (x == ("__debug__" : Str)) = false := by decide) : PE X (.Name x pos) (tC (.str z)) := pe_glob hg hm ⟨tk, rfl⟩ hd
theorem qe_gstr {z : Str} (h : PE X e (tC (.str z))) : QE S W X e (fC (.str z)) := qe_c h fun _ _ _ => .str z
def gStr : List D → Mem → Res D
  | [.int i], M => if Nat.blt i.natAbs.log2 1920 = true then .ok (.str (toString i)) M else .bad
  | _, _ => .bad
theorem cq_str : CallQ S (fun xs H Q => ∃ i, xs = [.int i] ∧ i.natAbs.log2 < 1920 ∧ Q (.str (toString i)) H) gStr := by
  intro W σ ρ H M xs ds Q mo ra p
  unfold gStr at p
  split at p
  · split at p
    · rename_i hb
      obtain ⟨v, rfl, r⟩ := RepA.one ra
      cases r
      exact ⟨_, rfl, by simpa [Nat.blt_eq] using hb, p ρ H _ (Stp.refl mo) (.str _)⟩
    · exact p.elim
  · exact p.elim
def rIntA : List V → Hp → VK → Prop := fun xs H Q => ((∃ i, xs = [.int i] ∧ Q (.int i) H) ∨ ∃ k, xs = [.bl k] ∧ Q (.int (if k then 1 else 0)) H) ∨ ∃ a n, xs = [.str a] ∧ PySem.intText? a = some n ∧ a.length ≤ 640 ∧ Q (.int n) H
theorem call_intA : CallR X (.type "int") rIntA := call_int1.or call_int_str
def gIntT : List D → Mem → Res D
  | [.str a], M => (match PySem.intText? a with | some n => if Nat.ble a.length 640 = true then .ok (.int n) M else .bad | none => .bad)
  | _, _ => .bad
theorem cq_intT : CallQ S rIntA gIntT := by
  intro W σ ρ H M xs ds Q mo ra p
  unfold gIntT at p
  split at p
  · split at p
    · rename_i n hn
      split at p
      · rename_i hb
        obtain ⟨v, rfl, r⟩ := RepA.one ra
        cases r
        exact .inr ⟨_, _, rfl, hn, Nat.le_of_ble_eq_true hb, p ρ H _ (Stp.refl mo) (.int _)⟩
      · exact p.elim
    · exact p.elim
  · exact p.elim
def isS : D → Bool
  | .str _ => true
  | _ => false
theorem isS_ok {K : PySem.W.Frag} {ρ : List Addr} {H : Hp} {v : V} {d : D} (r : Rep K ρ H v d) (h : isS d = true) : ∃ a, v = .str a ∧ d = .str a := by
  cases d with
  | str x => cases r; exact ⟨_, rfl, rfl⟩
  | _ => cases h
def fM1 (g : D → D → Mem → Res D) (fo fe : F D) : F D := fun σ M => (fo σ M).bind fun d M1 => if isS d = true then (fe σ M1).bind fun y M2 => g d y M2 else .bad
def M1Q (S : Sc) (r : V → List V → Hp → VK → Prop) (g : D → D → Mem → Res D) : Prop := ∀ (W : WX) (σ : L2.St) (ρ : List Addr) (H : Hp) (M : Mem) (x y : V) (dx dy : D) (Q : VK), MemOk S ρ H M → Rep S.K ρ H x dx → Rep S.K ρ H y dy → Post S W (Rep S.K) σ ρ H Q (g dx dy M) → r x [y] H Q
theorem qe_m1 {id : String} {name : Str} {apos cpos : Pos} {r : V → List V → Hp → VK → Prop} {g : D → D → Mem → Res D} (slot : Slot "str" name id) (ty : typeOf (.builtin id) = pure (.type "method_descriptor")) (rule : MtR X id r) (hq : M1Q S r g) (ho : QE S W X o fo) (he : QE S W X e fe)
    (hs : starEach [e] X.env = [(false, eval e X.env)] := by rfl) (hbase : attributeBase o name X.env (eval o X.env) = eval o X.env := by rfl) (hline : (apos.endLine == cpos.line) = true := by rfl) :
    QE S W X (.Call (.Attribute o name apos) [e] [] cpos) (fM1 g fo fe) := by
  refine PE.imp (pe_m1 slot ty rule ho he hs hbase hline) fun σ H Q ⟨ρ, M, σa, mo, rs, p⟩ => ?_
  refine use mo rs p fun d M1 ρ1 H1 v st1 r1 rs1 p1 => ?_
  split at p1
  · rename_i hl
    obtain ⟨a, rfl, rfl⟩ := isS_ok r1 hl
    exact ⟨⟨a, rfl⟩, use st1.2 rs1 p1 fun y M2 ρ2 H2 u st2 r2 rs2 p2 => hq _ _ _ _ _ _ _ _ _ _ st2.2 (Rep.mono st2.1 _ _ r1) r2 p2⟩
  · exact p1.elim
def strsOf : List D → Option (List Str)
  | [] => some []
  | .str x :: ds => (match strsOf ds with | some xs => some (x :: xs) | none => none)
  | _ :: _ => none
theorem strs_ok {K : PySem.W.Frag} {ρ : List Addr} {H : Hp} : ∀ (ds : List D) (xs : List V) (ys : List Str), RepA K ρ H xs ds → strsOf ds = some ys → xs = ys.map V.str
  | [], _, _, .nil, h => by cases h; rfl
  | .str x :: ds, _, ys, .cons r ra, h => by
    unfold strsOf at h
    split at h
    · rename_i zs e
      cases h
      cases r
      rw [strs_ok ds _ zs ra e]
      rfl
    · cases h
  | .non :: _, _, _, _, h => by cases h
  | .bl _ :: _, _, _, _, h => by cases h
  | .int _ :: _, _, _, _, h => by cases h
  | .tup _ :: _, _, _, _, h => by cases h
  | .lst _ :: _, _, _, _, h => by cases h
  | .dct _ _ :: _, _, _, _, h => by cases h
  | .scr _ :: _, _, _, _, h => by cases h
  | .ref _ :: _, _, _, _, h => by cases h
  | .adr _ :: _, _, _, _, h => by cases h
theorem strsOf_map : ∀ ys : List Str, strsOf (ys.map D.str) = some ys
  | [] => rfl
  | y :: ys => by
    show (match strsOf (ys.map D.str) with | some xs => some (y :: xs) | none => none) = _
    rw [strsOf_map ys]
theorem repA_strs {K : PySem.W.Frag} {ρ : List Addr} {H : Hp} : ∀ ys : List Str, RepA K ρ H (ys.map V.str) (ys.map D.str)
  | [] => .nil
  | y :: ys => .cons (.str y) (repA_strs ys)
def gJoin : D → D → Mem → Res D
  | .str a, y, M => (match seqOf M y with | some ds => (match strsOf ds with | some ys => if few ((ys.map (·.length)).sum + ys.length * a.length) = true then .ok (.str (Txt.join a ys)) M else .bad | none => .bad) | none => .bad)
  | _, _, _ => .bad
theorem mq_join : M1Q S (fun x xs H Q => ∃ a p, ∃ ys : List Str, x = .str a ∧ xs = [.ref p] ∧ (SqL S.K H p (ys.map V.str) ∨ SqT S.K H p (ys.map V.str)) ∧
    (ys.map (·.length)).sum + ys.length * a.length ≤ 16777216 ∧ Q (.str (Txt.join a ys)) H) gJoin := by
  intro W σ ρ H M x y dx dy Q mo rx ry p
  unfold gJoin at p
  split at p
  · split at p
    · rename_i ds hd
      split at p
      · rename_i ys hy
        split at p
        · rename_i hf
          cases rx
          obtain ⟨a, xs, rfl, e1, ra⟩ := seq_of mo ry hd
          rw [strs_ok _ _ _ ra hy] at e1
          exact ⟨_, a, ys, rfl, rfl, e1, Nat.le_of_ble_eq_true hf, p ρ H _ (Stp.refl mo) (.str _)⟩
        · exact p.elim
      · exact p.elim
    · exact p.elim
  · exact p.elim
def gSplit : D → D → Mem → Res D
  | .str a, .str b, M => if ((!(b.length == 0)) && few (a.length + 2)) = true then .ok (.lst ((Txt.split a b).map .str)) M else .bad
  | _, _, _ => .bad
theorem mq_split : M1Q S (fun x xs H Q => ∃ a b, x = .str a ∧ xs = [.str b] ∧ (b.length == 0) = false ∧ a.length + 2 ≤ sizeLine ∧ rNewStrs (Txt.split a b) H Q) gSplit := by
  intro W σ ρ H M x y dx dy Q mo rx ry p
  unfold gSplit at p
  split at p
  · split at p
    · rename_i hb
      rw [Bool.and_eq_true] at hb
      cases rx
      cases ry
      exact ⟨_, _, rfl, rfl, by simpa using hb.1, few_ok hb.2, fun q hq => p ρ _ _ (Stp.fresh mo hq) (rep_lst mo hq (repA_strs _))⟩
    · exact p.elim
  · exact p.elim
def gEndsw : D → D → Mem → Res D
  | .str a, .str b, M => .ok (.bl (Txt.endswith a b)) M
  | _, _, _ => .bad
theorem mq_endswith : M1Q S (fun x xs H Q => ∃ a b, x = .str a ∧ xs = [.str b] ∧ Q (.bl (Txt.endswith a b)) H) gEndsw := by
  intro W σ ρ H M x y dx dy Q mo rx ry p
  unfold gEndsw at p
  split at p
  · cases rx
    cases ry
    exact ⟨_, _, rfl, rfl, p ρ H _ (Stp.refl mo) (.bl _)⟩
  · exact p.elim
def gSlS (d : D) (lo hi : Option Int) (M : Mem) : Res D := match d with
  | .str z => if few z.length = true then .ok (.str (cutS z lo hi)) M else .bad
  | _ => .bad
def fSlS (fe : F D) (fl fh : F (Option Int)) : F D := fun σ M => (fe σ M).bind fun d M1 => (fl σ M1).bind fun l M2 => (fh σ M2).bind fun h M3 => gSlS d l h M3
theorem qe_slS {lo hi : Option Expr} {p2 : Pos} {fl fh : F (Option Int)} (he : QE S W X e fe) (hl : QO S W X lo fl) (hh : QO S W X hi fh) : QE S W X (.Subscript e (.Slice lo hi none p2) pos) (fSlS fe fl fh) := by
  refine PE.imp (pe_slice sl_str he hl hh) fun σ H Q ⟨ρ, M, σa, mo, rs, p⟩ => ?_
  refine use mo rs p fun d M1 ρ1 H1 v st1 r1 rs1 p1 => use st1.2 rs1 p1 fun l M2 ρ2 H2 l' st2 r2 rs2 p2 => use st2.2 rs2 p2 fun u M3 ρ3 H3 u' st3 r3 rs3 p3 => ?_
  cases (show l' = l from r2)
  cases (show u' = u from r3)
  have r := Rep.mono (st2.1.trans st3.1) _ _ r1
  unfold gSlS at p3
  split at p3
  · split at p3
    · rename_i hf
      cases r
      exact ⟨_, rfl, few_ok hf, p3 ρ3 H3 _ (Stp.refl st3.2) (.str _)⟩
    · exact p3.elim
  · exact p3.elim
def fIterS (fe : F D) : F Ita := fun σ M => (fe σ M).bind fun d M1 => match d with | .str z => .ok ⟨z.cps.toList.map fun c => .d (.str ⟨#[c]⟩), fun _ => true⟩ M1 | _ => .bad
theorem qi_str {tg : Expr} (he : QE S W X e fe) : QI S W X tg e (fIterS fe) := by
  refine PI.imp (pi_str (tg := tg) he) fun σ H R ⟨ρ, M, σa, mo, rs, p⟩ => ?_
  refine use mo rs p fun d M1 ρ1 H1 v st1 r1 rs1 p1 => ?_
  split at p1
  · rename_i z
    cases r1
    refine ⟨_, rfl, p1 ρ1 H1 _ (Stp.refl st1.2) ⟨fun ρ' H' M' i ex mo hc hi => ?_, fun ρ' H' M' ex mo hc => ?_, fun ρ' H' M' i x H2 ex mo hc hi y => ?_⟩⟩
    · simpa [Its] using hi
    · simp [Its]
    · obtain ⟨rfl, c, hc, rfl⟩ := y
      refine ⟨.d (.str ⟨#[c]⟩), ?_, Stp.refl mo, .str _⟩
      rw [List.getElem?_map, Array.getElem?_toList, hc]
      rfl
  · exact p1.elim
def gInS : D → D → Mem → Res D
  | .str x, .str z, M => (match x.cps.toList with | [c] => .ok (.bl (decide (c ∈ z.cps.toList))) M | _ => .bad)
  | _, _, _ => .bad
theorem oq_inS : OpQ S (fun x y H Q => ∃ (c : Nat) (z : Str), x = .str ⟨#[c]⟩ ∧ y = .str z ∧ Q (.bl (decide (c ∈ z.cps.toList))) H) gInS := by
  intro W σ ρ H M x y dx dy Q mo rx ry p
  unfold gInS at p
  split at p
  · split at p
    · rename_i c hc
      cases rx
      cases ry
      refine ⟨c, _, ?_, rfl, p ρ H _ (Stp.refl mo) (.bl _)⟩
      rw [show (_ : Str) = (⟨#[c]⟩ : Str) from Str.ext' (Array.toList_inj.mp hc)]
    · exact p.elim
  · exact p.elim
def gInD (x y : D) (M : Mem) : Res D := match toPy M x, toPy M y with
  | some a, some (.list b) => if (SeqAt.shaped a && SeqAt.shaped (.list b)) = true then .ok (.bl (b.any fun z => PyData.eqv z a)) M else .bad
  | _, _ => .bad
theorem oq_inD : OpQ S (rInD S.K) gInD := by
  intro W σ ρ H M x y dx dy Q mo rx ry p
  unfold gInD at p
  split at p
  · rename_i a b h1 h2
    split at p
    · rename_i hs
      rw [Bool.and_eq_true] at hs
      exact ⟨a, b, toPy_dp mo rx h1, toPy_dp mo ry h2, hs.1, hs.2, p ρ H _ (Stp.refl mo) (.bl _)⟩
    · exact p.elim
  · exact p.elim
def sPart (fo fe : F D) (is : List Nat) : FS := fun σ M => (fo σ M).bindS σ fun d M1 => if isS d = true then (fe σ M1).bindS σ fun y M2 => (match d, y with
  | .str a, .str b => if ((!(b.length == 0)) && few a.length && is.length == 3) = true then .ok (.nx (setAll σ is [.str (Txt.partition a b).1, .str (Txt.partition a b).2.1, .str (Txt.partition a b).2.2])) M2 else .bad
  | _, _ => .bad) else .bad
theorem qs_part {tg : Expr} {is : List Nat} {apos cpos : Pos} (he0 : QE S W X o fo) (he : QE S W X e fe) (hg : PG X tg (gTup S.K 3 (gNames is)))
    (hst : starEach [e] X.env = [(false, eval e X.env)] := by rfl) (hbase : attributeBase o "partition" X.env (eval o X.env) = eval o X.env := by rfl) (hline : (apos.endLine == cpos.line) = true := by rfl)
    (hs : swapsWithSole [tg] (.Call (.Attribute o "partition" apos) [e] [] cpos) pos.line X.env = pure false := by rfl) (hw : swappedStores [tg] (.Call (.Attribute o "partition" apos) [e] [] cpos) X.env = pure none := by rfl)
    (h1 : (assignEach [tg] X.env).map (·.2) = [assign tg X.env] := by rfl) : QS S W X (.Assign [tg] (.Call (.Attribute o "partition" apos) [e] [] cpos) pos) (sPart fo fe is) := PS.imp (ps_asg (pe_partition he0 he hst hbase hline) hg hs hw h1) fun E σ H ⟨ρ, M, σa, mo, rs, p⟩ => by
  refine useS mo rs p fun x M1 ρ1 H1 v st1 r1 rs1 p1 => ?_
  split at p1
  · rename_i hl
    obtain ⟨a, rfl, rfl⟩ := isS_ok r1 hl
    refine ⟨⟨a, rfl⟩, useS st1.2 rs1 p1 fun y M2 ρ2 H2 u st2 r2 rs2 p2 => ?_⟩
    split at p2
    · rename_i a' b hy
      cases hy
      split at p2
      · rename_i hb
        rw [Bool.and_eq_true, Bool.and_eq_true] at hb
        cases r2
        have hi : 3 = is.length := (eq_of_beq hb.2).symm
        refine ⟨_, _, rfl, rfl, by simpa using hb.1.1, few_ok hb.1.2, fun q hq => ?_⟩
        refine ⟨q, _, rfl, SqT.of upd_same, rfl, ?_⟩
        have st3 : Stp S ρ2 H2 ρ2 (upd H2 q (.tup [.str (Txt.partition a b).1, .str (Txt.partition a b).2.1, .str (Txt.partition a b).2.2])) M2 := Stp.fresh st2.2 hq
        exact names_ok is _ _ _ _ (.cons (.str _) (.cons (.str _) (.cons (.str _) .nil))) hi (rs2.mono st3.1) fun σ' rs' _ => p2 ρ2 _ σ' st3 rs'
      · exact p2.elim
    · exact p2.elim
  · exact p1.elim
def gStar2 (K : PySem.W.Frag) (t : TGs) : TG := fun v σ H Q => ∃ a x xs, v = .ref a ∧ SqL K H a (x :: xs) ∧ ∀ q, H q = none → t [x, .ref q] σ (upd H q (.lst xs)) Q
theorem pg_star2 {a b : Expr} {k : Nat} {sp : Pos} {t : TGs} (hc : X.calm = true) (h : PGs X [a, b] t) (hn : (assignEach [a, .Starred b sp] X.env).length = 2 := by rfl) (hst : (assignEach [a, .Starred b sp] X.env).findIdx? (·.1) = some 1 := by rfl)
    (hm : (assignEach [a, .Starred b sp] X.env).map (·.2) = (assignEach [a, b] X.env).map (·.2) := by rfl) : PG X (.Tuple [a, .Starred b sp] k pos) (gStar2 X.K t) := by
  refine ⟨fun pins s σ H v u Q I r hw => ?_⟩
  obtain ⟨l, x, xs, e1, hq, hw⟩ := hw
  subst e1
  cases r
  obtain ⟨its, rv, pl, hz⟩ := I.list hq
  cases rv with
  | @cons _ u1 _ us rx rxs =>
  rw [PyProof.Rows.assign_Tuple]
  refine wpAny_bind (wpAny_standAt ?_)
  unfold unpack
  rw [hn, hst]
  have hl := pl.isList
  have hh := I.ok.hd hc
  have hz' : (u1 :: us).length ≤ sizeLine := by
    rw [List.length_cons, ← rxs.length]
    exact hz
  have hz2 : us.length ≤ sizeLine := by
    rw [List.length_cons] at hz'
    omega
  have hlt : l ≠ s.heap.objs.size := by obtain ⟨o, ho, _⟩ := hl; exact Nat.ne_of_lt (Heap.lt_size ho)
  refine wpAny_bind (wpAny_holding ?_)
  unfold unpackItems
  refine wpAny_bind ?_
  unfold notIterableAtAll
  refine wpAny_bind (wpAny_specialOf hl.typeIs slot_list_iter.lookup ?_)
  refine wpAny_pure ?_
  simp only [Bool.false_eq_true, if_false]
  refine wpAny_bind (wpAny_holding (wpAny_pyIter_list hl ?_))
  refine wpAny_bind (wpAny_holding (PySem.W.kun_draw hlt 1 0 _ _ ⟨_, Heap.get?_push_size _ rfl, rfl, rfl⟩ (hl.push _) (by simp) fun h₁ hit₁ hs₁ => ?_))
  have hl₁ : h₁.IsList l (u1 :: us).toArray := (hl.push _).extBut hs₁.extBut hlt
  have hit₁' := hit₁
  obtain ⟨oi, hoi, _⟩ := hit₁'
  have hl₁' := hl₁
  obtain ⟨ol, hol, _⟩ := hl₁'
  rw [if_neg (by simp)]
  refine wpAny_bind (wpAny_holding (PySem.W.kun_collect (s := { s with heap := h₁ }) (T := "list_iterator") (.inr (.inr (.inl rfl))) (Walks.list (A := X.A.in1) hh s.heap.objs.size l hlt _) (fun j u st => st.1.typeIs) (k := 1) (by simp) ⟨hit₁, hl₁⟩ (Heap.lt_size hoi) (Heap.lt_size hol) (fun h₂ tk hk => ?_) (by simpa using hz')))
  have hrl : ((u1 :: us).toArray.toList.drop 1) = us := rfl
  rw [hrl]
  show wpAny _ _ (if us.length < 2 - 1 - 1 then _ else _) _ _ _
  rw [if_neg (by simp)]
  have hkk : ∀ b o, s.heap.get? b = some o → h₂.get? b = some o := fun b o e => hk b o (Nat.ne_of_lt (Heap.lt_size e)) (hs₁.extBut b o (Nat.ne_of_lt (Heap.lt_size e)) (Heap.get?_push_of_some _ e))
  have I1 : Inv X pins σ H { s with heap := h₂, toks := tk } := I.kept (t' := tk) hkk
  show wpAny _ _ (newList (us.take (us.length - (2 - 1 - 1))) >>= fun d => pure ([u1] ++ [d] ++ us.drop (us.length - (2 - 1 - 1)))) _ _ _
  have e0 : us.length - (2 - 1 - 1) = us.length := by simp
  rw [e0, List.take_length, List.drop_length]
  refine wpAny_bind (wpAny_newList ?_ hz2)
  refine wpAny_pure ?_
  rw [hm]
  have hq0 := I1.hok.fresh (Nat.le_refl _)
  refine h.run pins _ σ _ [x, .ref h₂.objs.size] _ Q (I1.laid (o := .lst xs) (t' := tk) (fun b u q => Heap.get?_push_of_some _ q) (Nat.le_refl _) ⟨by rw [rxs.length]; exact hz2, us, _, rxs, Heap.get?_push_size _ rfl⟩) (.cons rx (.cons rfl .nil)) (hw _ hq0)
def sStar2 (f : F D) (i j : Nat) : FS := fun σ M => (f σ M).bindS σ fun d M1 => match listOf M1 d with | some (x :: ds) => .ok (.nx (setAll σ [i, j] [x, .lst ds])) M1 | _ => .bad
theorem qs_star2 {tg : Expr} {i j : Nat} (hk : X.K = S.K) (he : QE S W X e fe) (hg : PG X tg (gStar2 X.K (gNames [i, j]))) (hs : swapsWithSole [tg] e pos.line X.env = pure false := by rfl) (hw : swappedStores [tg] e X.env = pure none := by rfl)
    (h1 : (assignEach [tg] X.env).map (·.2) = [assign tg X.env] := by rfl) : QS S W X (.Assign [tg] e pos) (sStar2 fe i j) := PS.imp (ps_asg he hg hs hw h1) fun E σ H ⟨ρ, M, σa, mo, rs, p⟩ => by
  refine useS mo rs p fun x M1 ρ1 H1 v st1 r1 rs1 p1 => ?_
  split at p1
  · rename_i y ds hd
    obtain ⟨a, xs, rfl, e1, ra⟩ := list_of st1.2 r1 hd
    cases ra with
    | @cons v vs _ _ rx ra =>
      rw [hk]
      refine ⟨a, _, _, rfl, SqL.of e1, fun q hq => ?_⟩
      have st3 := Stp.fresh st1.2 (o := .lst vs) hq
      exact names_ok [i, j] _ [_, .lst ds] _ _ (.cons (Rep.mono st3.1 _ _ rx) (.cons (rep_lst st1.2 hq ra) .nil)) rfl (rs1.mono st3.1) fun σ' rs' _ => p1 ρ1 _ σ' st3 rs'
  · exact p1.elim
end
section
variable {f fo fe : F D} {g : D → D → Mem → Res D} {i j : Nat} {is : List Nat} {σ : Sa} {M : Mem} {a b : Str} {n : Int}
theorem ev_m1 {x y : D} {M1 M2 : Mem} (h1 : fo σ M = .ok x M1) (hx : isS x = true) (h2 : fe σ M1 = .ok y M2) : fM1 g fo fe σ M = g x y M2 := by
  unfold fM1
  rw [h1]
  show (if isS x = true then (fe σ M1).bind fun y M2 => g x y M2 else .bad) = _
  rw [if_pos hx, h2]
  rfl
end
end QX
set_option maxRecDepth 100000
set_option maxHeartbeats 2000000
namespace QX
open PySem PySem.Spec PyProof.Rows L2 HX
section
variable {S : Sc}
end
end QX
set_option maxRecDepth 100000
set_option maxHeartbeats 2000000
namespace QX
open PySem PySem.Spec PyProof.Rows L2 HX
section
variable {X : Cx} {S : Sc} {W : WX}
end
end QX
set_option maxRecDepth 100000
set_option maxHeartbeats 1000000
namespace QX
open PySem PySem.Spec PyProof.Rows L2 L2H HX
section
variable {S : Sc} {ρ : List Addr} {H H1 : Hp} {M : Mem}
theorem Stp.lam (m : MemOk S ρ H M) (e : LamX.ExtN H H1) (t : LamX.Tabs S.T H1) : Stp S ρ H ρ H1 M := by
  have x : Ext ρ H ρ H1 := ⟨⟨[], by simp, by simp⟩, fun a o h _ n => e a o h n, fun a ⟨o, h, n⟩ => ⟨o, e a o h n, n⟩, fun a o u h => e a _ h fun _ z => nomatch z⟩
  refine ⟨x, m.len, m.nd, fun n a c h1 h2 => ?_, t⟩
  have ok := m.cell n a c h1 h2
  refine ok.ext x ?_
  cases c with
  | lst ds =>
    obtain ⟨xs, e1, _⟩ := ok
    rw [e1]
    exact e a _ e1 fun _ z => nomatch z
  | dic kvs =>
    obtain ⟨xs, e1, _⟩ := ok
    rw [e1]
    exact e a _ e1 fun _ z => nomatch z
  | fro kvs =>
    obtain ⟨xs, o, e1, _⟩ := ok
    rw [e1]
    exact e a _ e1 fun _ z => nomatch z
theorem Stp.same (m : MemOk S ρ H M) (s : Same H H1) : Stp S ρ H ρ H1 M := Stp.lam m (LamX.ExtN.of s) (m.tab.ext s)
end
def spWordF (K : PySem.W.Frag) (C : Nat → Addr) (a : Addr) (cls : Value) (d : Option Addr) (H : Hp) (Q : VK) : Prop :=
  ∃ (D : Addr) (i : Nat), cls = .ref D ∧ d = none ∧ i < 19 ∧ EF K C D i ∧ ∀ (p : Addr) (o : Obj) (H' : Hp), Same H H' → o.dict = none → H p = none → H' p = some (.frz o (.tup [.str (wordAt i)])) → Q (.ref p) H'
def tIsQ (K : PySem.W.Frag) (Dc a c : Addr) : TE := tCB (rIsE K Dc a) (tCons (tVar 0) (tCons (tC (.ref c)) tNil))
theorem isQ_one {K : PySem.W.Frag} {Dc a : Addr} {C : Nat → Addr} {i j : Nat} (E : EF K C Dc i) (hj : j < 21) {σ : L2.St} {H : Hp} {Q : VK} (hs : σ[0]? = some (some (.ref a))) (q : Q (.bl (decide (j = i))) H) : tIsQ K Dc a (C j) σ H Q :=
  ⟨.ref a, hs, .ref (C j), .ref (C j), _, rfl, fun u r => r, E.is j hj, q⟩
theorem marksQ_take {i m : Nat} (h : m < 21) : (marks i).take (m + 1) = (marks i).take m ++ [.bl (decide (m = i))] := by
  have e : (marks i)[m]? = some (.bl (decide (m = i))) := by
    unfold marks
    rw [List.getElem?_map, List.getElem?_range h]
    rfl
  rw [List.take_add_one, e]
  rfl
theorem catQ4 {K : PySem.W.Frag} {Dc a L : Addr} {C : Nat → Addr} {i m : Nat} (E : EF K C Dc i) (hm : m + 4 ≤ 21) {σ : L2.St} {H : Hp} {Q : VK} (h0 : σ[0]? = some (some (.ref a))) (h1 : σ[1]? = some (some (.ref L))) (eL : H L = some (.lst ((marks i).take m)))
    (q : ∀ L' H', Same H H' → H' L' = some (.lst ((marks i).take (m + 4))) → H L' = none → Q (.ref L') H') :
    tOp rCat (tVar 1) (tLst (tCons (tIsQ K Dc a (C m)) (tCons (tIsQ K Dc a (C (m + 1))) (tCons (tIsQ K Dc a (C (m + 2))) (tCons (tIsQ K Dc a (C (m + 3))) tNil))))) σ H Q := by
  refine ⟨.ref L, h1, isQ_one E (by omega) h0 (isQ_one E (by omega) h0 (isQ_one E (by omega) h0 (isQ_one E (by omega) h0 ⟨by show 4 ≤ sizeLine; decide, fun M n => ?_⟩)))⟩
  have sM : Same H (upd H M (.lst [.bl (decide (m = i)), .bl (decide (m + 1 = i)), .bl (decide (m + 2 = i)), .bl (decide (m + 3 = i))])) := Same.new n
  refine ⟨L, M, _, _, rfl, rfl, sM _ _ eL, upd_same, ?_, fun p np => q p _ (sM.trans (Same.new np)) ?_ ?_⟩
  · rw [List.length_take]
    show _ + 4 ≤ sizeLine
    have : min m (marks i).length ≤ m := Nat.min_le_left ..
    exact Nat.le_of_lt (small1000 (by omega))
  · rw [upd_same, show m + 4 = m + 3 + 1 by omega, marksQ_take (by omega), show m + 3 = m + 2 + 1 by omega, marksQ_take (by omega), show m + 2 = m + 1 + 1 by omega, marksQ_take (by omega), marksQ_take (by omega)]
    simp only [List.append_assoc, List.cons_append, List.nil_append]
  · cases e : H p with
    | none => rfl
    | some o => rw [sM _ _ e] at np; cases np
def TSaidF (K : PySem.W.Frag) (CM : Addr) (told : Str) (spW : Addr → Value → Option Addr → Hp → VK → Prop) : (XK → Hp → VK → Prop) → Hp → VK → Prop := fun tl H Q =>
  tl (fun cls d H' => ∃ b, PySem.W.exmOne K cls (.ref CM) = some b ∧ (b = true → ∀ a, H' a = none → spW a cls d H' Q) ∧ (b = false → False)) H fun v H1 => [V.str told, v].length ≤ sizeLine ∧ ∀ p o, H1 p = none → o.dict = none → Q (.ref p) (upd H1 p (.frz o (.tup [.str told, v])))
theorem said_givesH {X : Cx} {k : Nat} {x a n e q told : Str} {sg : Scope} {g CM : Addr} {cdg : Value} {spW : Addr → Value → Option Addr → Hp → VK → Prop} {he : Expr} {j kt : Nat} {p1 p2 p3 p4 p5 p6 p10 p11 p12 : Pos} (hr : Room (k + 1) X.A)
    (hge : sg.names.lookup e = some .globalImplicit) (hme : X.mg e = some (.ref CM)) (hnd : [a, n].Nodup) (hln : sg.names.lookup n = some .local)
    (hh : ∀ (Y : Cx) (ea : Addr) (oe : Obj) (cls : Value) (d : Option Addr) (pn : List (Addr × Obj)), Y.prog = X.prog → Y.w = X.w → Y.K = X.K → Y.mg = X.mg → Y.base = X.base → Y.N = [a, n] → Y.env.scope = sg → RoomH k Y.A → Zc cls d oe → (∃ vs, oe.data = .fields vs) →
      PE (Y.suite ea ((ea, oe) :: pn)) he (fun σ H Q => σ[1]? = some (some (.ref ea)) ∧ spW ea cls d H Q))
    (hde : (e == ("__debug__" : Str)) = false := by decide) :
    LamX.GivesTo X [a, n] x sg g cdg [.Try [.Return (some (.Tuple [.Constant (.str told) j p1, .Call (.Name a p2) [] [] p3] kt p4)) p5] [.ExceptHandler (some (.Name e p6)) (some n) [.Return (some he) p10] p11] [] [] p12] a q (TSaidF X.K CM told spW) := by
  intro f c' s H Q tl act hc h
  have hgl : Gl (cxOf C8.CX0 X.prog X.w X.K X.mg X.base [a, n] x sg g cdg X.A X.stack s H C8.E0).nox e := hge
  have hrm : RoomH k (cxOf C8.CX0 X.prog X.w X.K X.mg X.base [a, n] x sg g cdg X.A X.stack s H C8.E0).nox.A := roomH_of (hr.deeper _)
  refine ⟨_, pss_one (ps_try_as (X := (cxOf C8.CX0 X.prog X.w X.K X.mg X.base [a, n] x sg g cdg X.A X.stack s H C8.E0).nox) (c := .ref CM) (i := 1)
      (tb := fun W D σ H => ∃ Ech : XK, (∀ cls d σ' H', σ'.length = 2 → Ech cls d H' → W cls d σ' H') ∧ σ[0]? = some (some (.ref f)) ∧ H c' = some (LamX.CodeO c' q) ∧ tl Ech H fun v H1 => [V.str told, v].length ≤ sizeLine ∧ ∀ p o, H1 p = none → o.dict = none → D.rt (.ref p) (upd H1 p (.frz o (.tup [.str told, v]))))
      rfl rfl hnd rfl hln ⟨hgl, hde, .inl hme⟩ LamX.takes0 (fun W pn xe tk _ => ?_) (fun ea oe cls d pn hz hf => pss_one (ps_ret (hh _ ea oe cls d pn rfl rfl rfl rfl rfl rfl rfl hrm hz hf)))), ?_⟩
  · refine ⟨fun pins s' σ H' D I h' => ?_⟩
    obtain ⟨Ech, hW, h1, h2, h3⟩ := h'
    have hp := act (fun cls d σ H => σ.length = 2 → W cls d σ H) pn xe Ech p2 p3 (takes_len tk) fun cls d σ' H' he hl => hW cls d σ' H' hl he
    refine (pss_one (ps_ret (pos := p5) (PE.imp (t' := fun σZ HZ (Q' : VK) => σZ[0]? = some (some (.ref f)) ∧ HZ c' = some (LamX.CodeO c' q) ∧ tl Ech HZ fun v H1 => [V.str told, v].length ≤ sizeLine ∧ ∀ p o, H1 p = none → o.dict = none → Q' (.ref p) (upd H1 p (.frz o (.tup [.str told, v])))) (pe_tupF (x1 := kt) (pos := p4) (pa_cons (pe_str (pos := p1)) (pa_cons hp pa_nil))) fun σ H Q z => ?_))).run pins s' σ H' D I ⟨h1, h2, h3⟩
    exact z
  · refine ⟨fun cls d H' => ∃ b, PySem.W.exmOne X.K cls (.ref CM) = some b ∧ (b = true → ∀ a, H' a = none → spW a cls d H' Q) ∧ (b = false → False), ?_, rfl, hc, h⟩
    rintro cls d σ' H' hl ⟨b, e1, e2, e3⟩
    refine ⟨b, e1, fun hb ea na => ?_, fun hb => (e3 hb).elim⟩
    refine ⟨?_, e2 hb ea na⟩
    rw [List.getElem?_set_self (by omega)]
def XCs (S : Sc) (CM : Addr) (L : List Nat) : Prop := ∀ c ∈ L, c < 19 ∧ EF S.K S.C (S.C c) c ∧ PySem.W.exmOne S.K (.ref (S.C c)) (.ref CM) = some true
theorem qe_dct0 {X : Cx} {S : Sc} {W : WX} {pos : Pos} : QE S W X (.Dict [] [] pos) (fC (.dct [] [])) := PE.imp pe_dnewK fun σ H Q ⟨ρ, M, σa, mo, rs, p⟩ q hq => p ρ _ _ (Stp.fresh mo hq) (.dct upd_same (mo.new hq) rfl .nil)
theorem qe_dctS {X : Cx} {S : Sc} {W : WX} {i : Str} {i' : Int} {j j' : Nat} {p1 p2 pos : Pos} : QE S W X (.Dict [some (.Constant (.str i) j p1)] [.Constant (.int i') j' p2] pos) (fC (.dct [.inr i] [.int i'])) :=
  PE.imp (pe_disp (pps_cons pe_str pe_int pps_nil) (by rfl) (by rfl) (fun z => by cases z) (by show 1 ≤ 15; decide)) fun σ H Q ⟨ρ, M, σa, mo, rs, p⟩ q hq => by
    refine ⟨upd_same, [(.inr i, .int i')], rfl, by show 1 ≤ 15; decide, ?_⟩
    rw [upd_upd]
    exact p ρ _ _ (Stp.fresh mo hq) (.dct upd_same (mo.new hq) rfl (.cons (.int _) .nil))
section
variable {S : Sc} {P : Program} {w : World} {mg : Str → Option Value} {base : Heap} {k : Nat} {x : Str} {ps N : List Str} {st : Stmt} {b : FS} {c : Addr}
theorem Fun.okGCQ {f : Addr} {fd : FuncData} (F : Fun S.K x x st f fd) (hc : fd.code = .ref c) (sc : FnScope N ps (defScope st))
    (hb : ∀ (A : Around) (outer : List Env) (s : Shared) (H : Hp) (E : XK), Ent A s H → Room k (A.deeper (envOfC x (defScope st) s.heap.objs.size f (.ref c))) → QSs S W0 (cxOf CX0 P w S.K mg base N x (defScope st) f (.ref c) A outer s H E).nox (defBody st) b) : FnG P w S.K mg base (k + 1) f fd ps (spG S ps.length (runD N.length ps.length b)) := by
  refine HX.Fun.okGC F hc sc (fun vs H Q E h => h.1) fun A outer s H vs Q E en hr h => ⟨_, hb A outer s H E en hr, ?_⟩
  obtain ⟨hl, ρ, M, ds, mo, ra, p⟩ := h
  exact run_start mo ra p
end
theorem law_tgT {l : PySem.W.OpenLaw} {w : World} {S : Sc} {k n : Nat} {x q : Str} {mg : Str → Option Value} {fa c T : Addr} {h : Heap} {fd : FuncData} {m : List D → Mem → Res D} (hS : S.T = [(T, q)])
    (h1 : h.get? T = some { cls := .none, data := .fields #[] }) (h2 : S.K.lookup T = none) (h3 : PySem.W.CodeHd h c T)
    (hb : ∀ (s : Shared) (u : Value), S.K.In s.heap → BindsTo s fd ⟨[u], []⟩ [(x, u)]) (hF : ∀ base : Heap, LamX.TabB base mg c T → FnG l.prog w S.K mg base k fa fd [x] (spG S 1 m))
    (hm : ∀ ns : List Int, ns.length ≤ n → ∃ M, m [.scr ns] [] = .ok (.bl true) M) : LawTG l w S.K k n x mg fa h :=
  ⟨fd, [(c, T)], spG S 1 m, fun p hp => by rw [List.mem_singleton.mp hp]; exact h1, fun p hp => by rw [List.mem_singleton.mp hp]; exact h2, fun p hp => by rw [List.mem_singleton.mp hp]; exact h3, hb,
    fun H a ns hl hP hS' => law_sp (by rw [hS]; exact fun p hp => by rw [List.mem_singleton.mp hp]; exact LamX.TabS.nil (hP _ (List.mem_singleton.mpr rfl))) hS' (hm ns hl), fun base _ _ TB => hF base (TB _ (List.mem_singleton.mpr rfl))⟩
end QX
set_option maxRecDepth 100000
set_option maxHeartbeats 1000000
namespace QX
open PySem PySem.Spec PyProof.Rows L2 HX
def sPar3 (i j l : Nat) (fs : F (List D)) : FS := fun σ M => (fs σ M).bindS σ fun ds M1 => match ds with
  | [a, b, c] => .ok (.nx (((σ.set i (some a)).set j (some b)).set l (some c))) M1
  | _ => .bad
theorem qs_par3 {X : Cx} {S : Sc} {W : WX} {i j l : Nat} {x y z : Str} {a b c : Expr} {fs : F (List D)} {px py pz pt pos : Pos} {kt k2 pt2} (hc : X.calm = true) (hN : X.N.Nodup) (hi : X.N[i]? = some x) (hj : X.N[j]? = some y) (hl : X.N[l]? = some z) (hij : i ≠ j) (hil : i ≠ l) (hjl : j ≠ l)
    (hx : X.env.scope.names.lookup x = some .local) (hy : X.env.scope.names.lookup y = some .local) (hz : X.env.scope.names.lookup z = some .local) (ha : QA S W X [a, b, c] fs)
    (hw : swappedStores [.Tuple [.Name x px, .Name y py, .Name z pz] kt pt] (.Tuple [a, b, c] k2 pt2) X.env = pure (some [x, y, z]))
    (hs : swapsWithSole [.Tuple [.Name x px, .Name y py, .Name z pz] kt pt] (.Tuple [a, b, c] k2 pt2) pos.line X.env = pure false := by rfl) :
    QS S W X (.Assign [.Tuple [.Name x px, .Name y py, .Name z pz] kt pt] (.Tuple [a, b, c] k2 pt2) pos) (sPar3 i j l fs) := PS.imp (ps_par3 hc hN hi hj hl hij hil hjl hx hy hz ha hw hs) fun E σ H ⟨ρ, M, σa, mo, rs, p⟩ => by
  refine useS mo rs p fun ds M1 ρ1 H1 vs st1 r1 rs1 p1 => ?_
  split at p1
  · cases r1 with
    | cons h1 t1 =>
      cases t1 with
      | cons h2 t2 =>
        cases t2 with
        | cons h3 t3 =>
          cases t3
          exact ⟨_, _, _, rfl, p1 ρ1 H1 _ (Stp.refl st1.2) (((rs1.set i h1).set j h2).set l h3)⟩
  · exact p1.elim
end QX
set_option maxRecDepth 100000
set_option maxHeartbeats 1000000
namespace QX
open PySem PySem.Spec PyProof.Rows L2 HX
end QX
set_option maxRecDepth 100000
set_option maxHeartbeats 1000000
namespace HX
open PySem PySem.Spec PyProof.Rows L2
end HX
set_option maxRecDepth 100000
set_option maxHeartbeats 1000000
namespace QX
open PySem PySem.Spec PyProof.Rows L2 HX
section
variable {K : PySem.W.Frag} {ρ : List Addr} {H : Hp}
end
section
variable {X : Cx} {S : Sc} {W : WX} {σ : L2.St} {ρ : List Addr} {H : Hp} {M : Mem}
def findP (x : PyData) : List PyData → Nat → Option Nat
  | [], _ => none
  | z :: zs, n => if PyData.eqv z x = true then some n else findP x zs (n + 1)
theorem findP_ok (x : PyData) : ∀ (zs : List PyData) (n j : Nat), findP x zs n = some j → ∃ i z, j = n + i ∧ zs[i]? = some z ∧ PyData.eqv z x = true ∧ ∀ (m : Nat) (z' : PyData), m < i → zs[m]? = some z' → PyData.eqv z' x = false
  | [], n, j, h => by simp [findP] at h
  | z :: zs, n, j, h => by
    unfold findP at h
    split at h
    · rename_i e
      cases h
      exact ⟨0, z, rfl, rfl, e, fun m z' hm => absurd hm (by omega)⟩
    · rename_i e
      obtain ⟨i, z1, h1, h2, h3, h4⟩ := findP_ok x zs (n + 1) j h
      refine ⟨i + 1, z1, by omega, by simpa using h2, h3, fun m z' hm hz => ?_⟩
      cases m with
      | zero =>
        have : z = z' := by simpa using hz
        rw [← this]
        simpa using e
      | succ m => exact h4 m z' (by omega) (by simpa using hz)
def gIndexD : D → List D → Mem → Res D
  | x, [y], M => (match toPy M x, toPy M y with
    | some (.list ds), some d => if (SeqAt.shaped (.list ds) && SeqAt.shaped d) = true then (match findP d ds 0 with | some j => .ok (.int (j : Int)) M | none => .bad) else .bad
    | _, _ => .bad)
  | _, _, _ => .bad
theorem mq_indexD : MtQ S (rIndexD S.K) gIndexD := by
  intro W σ ρ H M x d xs ds Q mo rx ra p
  unfold gIndexD at p
  split at p
  · split at p
    · rename_i es v h1 h2
      split at p
      · rename_i hs
        rw [Bool.and_eq_true] at hs
        split at p
        · rename_i j hj
          obtain ⟨u, rfl, r⟩ := RepA.one ra
          obtain ⟨i, z, e0, g1, g2, g3⟩ := findP_ok _ _ 0 j hj
          rw [Nat.zero_add] at e0
          subst e0
          have dl := toPy_dp mo rx h1
          cases dl with
          | _ => exact ⟨_, u, _, _, j, z, rfl, rfl, toPy_dp mo rx h1, toPy_dp mo r h2, hs.1, hs.2, g1, g2, g3, p ρ H _ (Stp.refl mo) (.int _)⟩
        · exact p.elim
      · exact p.elim
    · exact p.elim
  · exact p.elim
end
end QX
set_option maxRecDepth 100000
set_option maxHeartbeats 1000000
namespace HX
open PySem PySem.Spec PyProof.Rows L2
variable {X : Cx} {pins : List (Addr × Obj)} {σ : L2.St} {H : Hp} {s : Shared}
end HX
set_option maxRecDepth 100000
set_option maxHeartbeats 1000000
namespace QX
open PySem PySem.Spec PyProof.Rows L2 HX
section
variable {S : Sc} {ρ : List Addr} {H : Hp}
end
end QX
set_option maxRecDepth 100000
set_option maxHeartbeats 1000000
namespace HX
open PySem PySem.Spec PyProof.Rows L2 PySem.W PyProof.V PySem.Calls
section
variable {prog : Program} {w : World} {A : Around} {E : Value → Shared → Prop} {s : Shared} {d : Addr}
end
section
variable {prog : Program} {w : World} {A : Around} {E : Value → Shared → Prop} {s : Shared} {T : String} {r d : Addr} {n : Nat} {P : Nat → Value → Prop} {OK : Heap → Prop}
end
section
variable {P : Program} {w : World} {H : Hp} {h : Heap}
end
variable {X : Cx}
end HX
set_option maxRecDepth 100000
set_option maxHeartbeats 1000000
namespace QX
open PySem PySem.Spec PyProof.Rows L2 HX
section
variable {S : Sc} {ρ : List Addr} {H : Hp}
end
end QX
set_option maxRecDepth 100000
set_option maxHeartbeats 1000000
namespace QX
open PySem PySem.Spec PyProof.Rows L2 HX
section
variable {X : Cx} {S : Sc} {W : WX} {σ : L2.St} {ρ : List Addr} {H : Hp} {M : Mem}
end
end QX
set_option maxRecDepth 100000
set_option maxHeartbeats 2000000
namespace HX
open PySem PySem.Spec PyProof.Rows L2 PySem.W PyProof.V PySem.Calls
section
variable {X : Cx}
end
end HX
set_option maxRecDepth 100000
set_option maxHeartbeats 1000000
namespace QX
open PySem PySem.Spec PyProof.Rows L2 HX
section
variable {X : Cx} {S : Sc} {W : WX} {σ : L2.St} {ρ : List Addr} {H : Hp} {M : Mem} {e : Expr} {fe : F D}
end
end QX
set_option maxRecDepth 100000
set_option maxHeartbeats 1000000
namespace QX
open PySem PySem.Spec PyProof.Rows L2 HX
section
variable {X : Cx} {S : Sc} {W : WX}
variable {elt tg iter tg1 iter1 : Expr} {ifs ifs1 : List Expr} {scope : Scope} {own : List (Str × Nat)} {pos : Pos} {fi fi1 : F Ita} {t t1 : Tg} {c c1 : F Bool} {e : F D} {vs1 : List Nat}
variable {i : Nat} {y : Str} {py spos : Pos}
end
section
variable {X : Cx} {S : Sc}
def rInT (K : PySem.W.Frag) : R2 := fun x y H Q => ∃ d ds, Dp K H x d ∧ Dp K H y (.tuple ds) ∧ SeqAt.shaped d = true ∧ SeqAt.shaped (.tuple ds) = true ∧ Q (.bl (ds.any fun z => PyData.eqv z d)) H
theorem op_inT (hu : X.A.units + 65 < cLine) : OpR X (compareOp .In) (rInT X.K) := by
  intro pins s σ H x y v u Q I rx ry h
  obtain ⟨d, ds, hd, he, sd, se, q⟩ := h
  obtain ⟨as, r1⟩ := Dp.reads I d x v hd rx
  obtain ⟨bs, r2⟩ := Dp.reads I (.tuple ds) y u he ry
  exact SeqAt.in_tuple_reads r2 r1 (SeqAt.canLay_of_shaped se) (SeqAt.canLay_of_shaped sd) (room_in_shaped sd hu) ⟨.bl _, H, I, rfl, q⟩
def gInT (x y : D) (M : Mem) : Res D := match toPy M x, toPy M y with
  | some a, some (.tuple b) => if (SeqAt.shaped a && SeqAt.shaped (.tuple b)) = true then .ok (.bl (b.any fun z => PyData.eqv z a)) M else .bad
  | _, _ => .bad
theorem oq_inT : OpQ S (rInT S.K) gInT := by
  intro W σ ρ H M x y dx dy Q mo rx ry p
  unfold gInT at p
  split at p
  · rename_i a b h1 h2
    split at p
    · rename_i hs
      rw [Bool.and_eq_true] at hs
      exact ⟨a, b, toPy_dp mo rx h1, toPy_dp mo ry h2, hs.1, hs.2, p ρ H _ (Stp.refl mo) (.bl _)⟩
    · exact p.elim
  · exact p.elim
end
end QX
set_option maxRecDepth 100000
set_option maxHeartbeats 1000000
namespace QX
open PySem PySem.Spec PyProof.Rows L2 HX
section
variable {X : Cx} {S : Sc} {W : WX} {e : Expr} {fe : F D}
end
end QX
set_option maxRecDepth 100000
set_option maxHeartbeats 2000000
namespace HX
open PySem PySem.Spec PyProof.Rows L2 PySem.W PyProof.V PySem.Calls
section
variable {X : Cx}
end
end HX
set_option maxRecDepth 100000
set_option maxHeartbeats 1000000
namespace QX
open PySem PySem.Spec PyProof.Rows L2 HX
section
variable {X : Cx} {S : Sc} {W : WX}
end
end QX
set_option maxRecDepth 100000
set_option maxHeartbeats 1000000
namespace HX
open PySem PySem.Spec PyProof.Rows L2
end HX
namespace QX
open PySem PySem.Spec PyProof.Rows L2 HX
end QX
set_option maxRecDepth 100000
set_option maxHeartbeats 2000000
namespace HX
open PySem PySem.Spec PyProof.Rows L2 PySem.W PySem.Calls
section
variable {prog : Program} {w : World} {A : Around} {E : Value → Shared → Prop} {h : Heap} {g : Array GenState} {d : Drawn} {t : Nat} {os : OsState}
variable {nm q : Str} {C N : Addr} {bs bm : List Value} {hdct : Bool} {sn : List Str} {sub : List Value} {ab : Bool} {col : Option Bool} {dd : Option Addr} {k0 k1 k2 k3 k5 : Option Value}
theorem mw_call {u e t0 : Addr} {rest : List Value} {Q : Value → Shared → Prop} (hC : h.get? C = some (excClassObj nm q C N bs bm hdct sn sub ab col dd k0 k1 k2 k3 k5 "ValueError.__new__")) (he : h.get? e = some (PySem.HandSPX.excO C t0)) (hu : h.get? u = some (kxs_mw "ValueError.__init__" e)) (hr : rest.length ≤ sizeLine)
    (hq : ∀ hh t1, (∀ b o, b ≠ e → h.get? b = some o → hh.get? b = some o) → hh.get? e = some (PySem.HandSPX.excO C t1) → Q .none ⟨hh, g, d, t, os⟩) : wpAny (model prog w) A (call (.ref u) rest) Q E ⟨h, g, d, t, os⟩ := by
  have FB := PySem.F.excBase_ValueError
  refine wpAny_call (codeAny_of_tree ?_)
  show wpAny _ A.in1 (callAny (.ref u) ⟨rest, []⟩) _ _ _
  unfold callAny
  refine wpAny_bind (wpAny_load hu ?_)
  simp only [kxs_mw, show (Value.type "method-wrapper" == Value.type "method" || Value.type "method-wrapper" == Value.type "builtin_function_or_method" || Value.type "method-wrapper" == Value.type "method-wrapper") = true from by decide, if_true]
  refine PySem.W.KFB.if_so (by decide) (wpAny_bind (check_bound_init FB.toExcCallFacts hC he rfl (wpAny_bind (wpAny_pure (wpAny_pure ⟨plainId_quiet FB.init.plain _, codeAny_builtin FB.initEntry ?_⟩)))))
  rw [Around.under_plainId FB.init.plain _]
  wp_walk
  exact hq _ h.objs.size (fun b o hb ho => (Heap.get?_update_other _ _ (Ne.symm hb)).trans (Heap.get?_push_of_some _ ho)) ((Heap.get?_update_self _ (Heap.get?_push_of_some _ he) rfl).trans rfl)
end
theorem meth_eq {env : Env} {o : Expr} {name : Str} {p2 q0 : Pos} {e : Expr} (h : (p2.endLine == q0.line) = true) (hs : starEach [e] env = [(false, eval e env)] := by rfl) : eval (.Call (.Attribute o name p2) [e] [] q0) env = (do
      let ov ← attributeBase o name env (eval o env)
      standAt p2.atName
      let (f, first) ← holding [ov] (getMethod ov name (do return (← importBound o env).getD true))
      callWith q0 f first (backTo q0 (starEach [e] env)) []) := by
  show (do
      let ov ← attributeBase o name env (eval o env)
      standAt p2.atName
      methodCall o name p2 q0 env ov _ (backTo q0 (starEach [e] env)) []) = _
  unfold methodCall methodCallPos
  rw [h, hs, Bool.or_true]
  rfl
theorem backTo_one {env : Env} {q0 : Pos} {e : Expr} (hs : starEach [e] env = [(false, eval e env)] := by rfl) : backTo q0 (starEach [e] env) = [(false, eval e env)] := by
  rw [hs]
  rfl
section
variable {prog : Program} {w : World} {A : Around} {E : Value → Shared → Prop} {h : Heap} {g : Array GenState} {d : Drawn} {t : Nat} {os : OsState}
end
section
variable {P : Program} {w : World} {K : Frag} {mg : Str → Option Value} {base : Heap} {C : Addr} {A : Around} {R : Result → Shared → Prop} {h : Heap} {g : Array GenState} {d : Drawn} {t : Nat} {os : OsState}
end
section
variable {X : Cx} {C : Addr} {e1 e2 : Expr} {p pos : Pos} {ta : TA} {k : Nat}
end
end HX
set_option maxRecDepth 100000
set_option maxHeartbeats 1000000
namespace QX
open PySem PySem.Spec PyProof.Rows L2 L2H HX
theorem log_small {i : Int} (h : i.natAbs < 2 ^ 100) : i.natAbs.log2 < 1900 := by
  by_cases h0 : i.natAbs = 0
  · rw [h0]
    decide
  · exact Nat.lt_trans ((Nat.log2_lt h0).mpr h) (by decide)
def rIsX (K : PySem.W.Frag) (D a dd : Addr) : List V → Hp → VK → Prop := fun xs H Q => (∃ fs, H dd = some (.xd fs)) ∧ ∃ (c : V) (cv : Value) (b : Bool), xs = [.ref a, c] ∧ (∀ u, RelV c u → u = cv) ∧ PySem.W.kitOne K (.ref D) cv = some b ∧ Q (.bl b) H
theorem iteT' {b : Bool} {p q : Prop} (h : b = true) (x : p) : if b = true then p else q := by rw [h]; exact x
end QX
set_option maxRecDepth 100000
set_option maxHeartbeats 2000000
namespace HX
open PySem PySem.Spec PyProof.Rows L2 PySem.W
def oexIn (K : Frag) (C : Addr) : Bool := match K.lookup C with
  | some ⟨.type "type", _, .cls cd, sl⟩ => (match cd.mro, sl.toList with
    | .ref C' :: bm, [_, _, _, _, some (.builtin n), _] => C' == C && n == "ValueError.__new__" && !cd.hasDel && cd.hasDict && PySem.HandSPX.refsVE bm
    | _, _ => false)
  | _ => false
theorem oex_of {K : Frag} {C : Addr} (q : oexIn K C = true) : ∃ nm q N bs bm sn sub ab col dd k0 k1 k2 k3 k5, K.lookup C = some (excClassObj nm q C N bs bm true sn sub ab col dd k0 k1 k2 k3 k5 "ValueError.__new__") ∧ PySem.HandSPX.refsVE bm = true := by
  unfold oexIn at q
  split at q
  · rename_i dd cd sl ho
    split at q
    · rename_i C' bm k0 k1 k2 k3 n k5 hm hs
      simp only [Bool.and_eq_true, beq_iff_eq, Bool.not_eq_true'] at q
      obtain ⟨⟨⟨⟨rfl, rfl⟩, hdel⟩, hd⟩, ht⟩ := q
      obtain ⟨nm, bs, mro, ns, qn, hdct, sn, sub, ab, col, del⟩ := cd
      dsimp only at hm hdel hd
      subst hm hdel hd
      have hsl : sl = #[k0, k1, k2, k3, some (.builtin "ValueError.__new__"), k5] := by
        obtain ⟨l⟩ := sl
        simp only at hs
        rw [hs]
      subst hsl
      exact ⟨nm, qn, ns, bs, bm, sn, sub, ab, col, dd, k0, k1, k2, k3, k5, ho, ht⟩
    · cases q
  · cases q
end HX
set_option maxRecDepth 100000
set_option maxHeartbeats 1000000
namespace QX
open PySem PySem.Spec PyProof PyProof.Rows L2 HX
def keyP : Key → PyData
  | .inl i => .int i
  | .inr x => .str x
mutual
def D.pyD : D → Option PyData
  | .non => some .none
  | .bl b => some (.bool b)
  | .int i => some (.int i)
  | .str x => some (.str x)
  | .tup ds => (match D.pyDA ds with | some ps => some (.tuple ps) | none => none)
  | .lst ds => (match D.pyDA ds with | some ps => some (.list ps) | none => none)
  | .dct ks ds => (match D.pyDA ds with | some ps => some (.dict ((ks.map keyP).zip ps)) | none => none)
  | _ => none
def D.pyDA : List D → Option (List PyData)
  | [] => some []
  | d :: ds => (match D.pyD d, D.pyDA ds with | some p, some ps => some (p :: ps) | _, _ => none)
end
def toPyD (M : Mem) : D → Option PyData
  | .ref n => (match M[n]? with | some (.lst ds) => (match D.pyDA ds with | some ps => some (.list ps) | none => none) | _ => none)
  | d => D.pyD d
theorem repK_len {K : PySem.W.Frag} {ρ : List Addr} {H : Hp} {vs : List V} {ds : List D} (r : RepA K ρ H vs ds) : vs.length = ds.length := by
  induction ds generalizing vs with
  | nil => cases r; rfl
  | cons d ds ih =>
    cases r with
    | cons r1 r2 => rw [List.length_cons, List.length_cons, ih r2]
theorem pyDA_len : ∀ {ds : List D} {ps : List PyData}, D.pyDA ds = some ps → ps.length = ds.length
  | [], _, h => by cases h; rfl
  | d :: ds, _, h => by
    unfold D.pyDA at h
    split at h
    · rename_i p ps e1 e2
      cases h
      rw [List.length_cons, List.length_cons, pyDA_len e2]
    · cases h
theorem pairs_reads {P : Program} {w : World} {h : Heap} : ∀ {es : List DictEntry} {kvs : List (Key × Value)}, Pairs (mixKind P w) es kvs → ReadsAll h (es.map (·.key)) ((kvs.map (·.1)).map keyP) [] ∧ es.map (·.val) = kvs.map (·.2) := by
  intro es kvs r
  induction r with
  | nil => exact ⟨.nil, rfl⟩
  | cons hk hv _ ih =>
    refine ⟨?_, ?_⟩
    · refine ReadsAll.cons (as := []) (bs := []) ?_ ih.1
      rcases keyIs_shape hk with ⟨i, t, e1, e2⟩ | ⟨x, t, e1, e2⟩
      · dsimp only
        rw [e1, e2]
        exact .int i t
      · dsimp only
        rw [e1, e2]
        exact .str x t
    · rw [List.map_cons, List.map_cons, ih.2]
      first | rfl | rw [hv]
theorem kv_keys {kvs : List (Key × V)} {vs : List (Key × Value)} (r : KV kvs vs) : vs.map (·.1) = kvs.map (·.1) ∧ Vals (kvs.map (·.2)) (vs.map (·.2)) := by
  induction r with
  | nil => exact ⟨rfl, .nil⟩
  | cons h t ih => exact ⟨by rw [List.map_cons, List.map_cons, ih.1, h.1], .cons h.2 ih.2⟩
section
variable {X : Cx} {pins : List (Addr × Obj)} {σ : L2.St} {H : Hp} {s : Shared} {ρ : List Addr}
mutual
theorem rep_reads (I : Inv X pins σ H s) (hz : H sysModules = none) : ∀ (d : D) (v : V) (u : Value) (p : PyData), Rep X.K ρ H v d → D.pyD d = some p → RelV v u → ∃ as, Reads s.heap u p as ∧ sysModules ∉ as
  | .non, _, _, _, r, h, q => by cases r; cases h; cases q; exact ⟨_, .none, by simp⟩
  | .bl b, _, _, _, r, h, q => by cases r; cases h; cases q; exact ⟨_, .bool b, by simp⟩
  | .int i, _, _, _, r, h, q => by cases r; cases h; obtain ⟨t, rfl⟩ := q; exact ⟨_, .int i t, by simp⟩
  | .str x, _, _, _, r, h, q => by cases r; cases h; obtain ⟨t, rfl⟩ := q; exact ⟨_, .str x t, by simp⟩
  | .tup ds, _, _, _, r, h, q => by
    unfold D.pyD at h
    split at h
    · rename_i ps e
      cases h
      cases r with
      | tup f n ra =>
        cases q
        obtain ⟨o, _, e1⟩ := f
        obtain ⟨its, rv, ⟨o, ho, hc, n, hd⟩, _⟩ := I.tuple (.inl (.inr ⟨o, e1⟩))
        obtain ⟨as, hr, hn⟩ := repA_reads I hz ds _ its ps ra e rv
        exact ⟨_, .tuple ho hc hd hr, hn⟩
    · cases h
  | .lst ds, _, _, _, r, h, q => by
    unfold D.pyD at h
    split at h
    · rename_i ps e
      cases h
      cases r with
      | @lst a _ _ f n ra =>
        cases q
        obtain ⟨its, rv, ⟨o, n, ho, hc, _, hd⟩, _⟩ := I.list (SqL.of f)
        obtain ⟨as, hr, hn⟩ := repA_reads I hz ds _ its ps ra e rv
        refine ⟨_, .list ho hc hd hr, fun hm => ?_⟩
        rcases List.mem_cons.mp hm with rfl | hm
        · rw [f] at hz; cases hz
        · exact hn hm
    · cases h
  | .dct ks ds, _, _, _, r, h, q => by
    unfold D.pyD at h
    split at h
    · rename_i ps e
      cases h
      cases r with
      | @dct a kvs _ _ f n hk ra =>
        cases q
        obtain ⟨_, _, vs, kv, o, es, ep, ho, hx, hd, _, hp, _⟩ := dk_of I.hok f
        obtain ⟨hp1, hp2⟩ := pairs_reads (h := s.heap) hp
        obtain ⟨k1, k2⟩ := kv_keys kv
        obtain ⟨as, hr, hn⟩ := repA_reads I hz ds _ _ ps ra e k2
        have hl : (ks.map keyP).length = ps.length := by
          rw [List.length_map, hk, List.length_map, pyDA_len e, ← repK_len ra, List.length_map]
        have e1 : ((ks.map keyP).zip ps).map (·.1) = ks.map keyP := List.map_fst_zip (by omega)
        have e2 : ((ks.map keyP).zip ps).map (·.2) = ps := List.map_snd_zip (by omega)
        refine ⟨_, .dict ho hx.1 hd (as := []) (bs := as) (by rw [e1, hk, ← k1]; exact hp1) (by rw [e2, hp2]; exact hr), fun hm => ?_⟩
        have hm' : sysModules = a ∨ sysModules ∈ as := by simpa using hm
        rcases hm' with rfl | hm
        · rw [f] at hz; cases hz
        · exact hn hm
    · cases h
  | .scr _, _, _, _, _, h, _ => by cases h
  | .ref _, _, _, _, _, h, _ => by cases h
  | .adr _, _, _, _, _, h, _ => by cases h
theorem repA_reads (I : Inv X pins σ H s) (hz : H sysModules = none) : ∀ (ds : List D) (vs : List V) (us : List Value) (ps : List PyData), RepA X.K ρ H vs ds → D.pyDA ds = some ps → Vals vs us → ∃ as, ReadsAll s.heap us ps as ∧ sysModules ∉ as
  | [], _, _, _, r, h, q => by cases r; cases h; cases q; exact ⟨_, .nil, by simp⟩
  | d :: ds, _, _, _, r, h, q => by
    unfold D.pyDA at h
    split at h
    · rename_i p ps e1 e2
      cases h
      cases r with
      | cons r1 r2 =>
        cases q with
        | cons q1 q2 =>
          obtain ⟨as, a1, a2⟩ := rep_reads I hz d _ _ p r1 e1 q1
          obtain ⟨bs, b1, b2⟩ := repA_reads I hz ds _ _ ps r2 e2 q2
          exact ⟨_, .cons a1 b1, fun hm => (List.mem_append.mp hm).elim a2 b2⟩
    · cases h
end
end
def rReprR (K : PySem.W.Frag) : List V → Hp → VK → Prop := fun xs H Q => ∃ (ρ : List Addr) (v : V) (d : D) (p : PyData), xs = [v] ∧ (Rep K ρ H v d ∧ D.pyD d = some p ∨ ∃ (n : Nat) (a : Addr) (vs : List V) (ds : List D) (ps : List PyData), v = .ref a ∧ H a = some (.lst vs) ∧ RepA K ρ H vs ds ∧ D.pyDA ds = some ps ∧ p = .list ps) ∧ Gd 16000000 100 p ∧ Q (.str p.shown) H
theorem call_reprD {X : Cx} (en : EntX X) (hu : X.A.units + 150 < cLine) : CallR X (.builtin "repr") (rReprR X.K) := by
  intro pins s σ H xs us Q I r h
  obtain ⟨ρ, v, d, p, rfl, hd, hg, q⟩ := h
  obtain ⟨u, rfl, rv⟩ := vals1 r
  have hz : H sysModules = none := (inv_sys I en).1
  obtain ⟨as, hr, hn⟩ : ∃ as, Reads s.heap u p as ∧ sysModules ∉ as := by
    rcases hd with ⟨r1, e⟩ | ⟨n, a, vs, ds, ps, rfl, f, ra, e, rfl⟩
    · exact rep_reads I hz d v u p r1 e rv
    · cases rv
      obtain ⟨its, rv, ⟨o, n, ho, hc, _, hd⟩, _⟩ := I.list (SqL.of f)
      obtain ⟨as, hr, hn⟩ := repA_reads I hz ds _ its ps ra e rv
      refine ⟨_, .list ho hc hd hr, fun hm => ?_⟩
      rcases List.mem_cons.mp hm with rfl | hm
      · rw [f] at hz; cases hz
      · exact hn hm
  obtain ⟨z1, z2⟩ := shown_le (by decide) p hg.iw
  have hs : p.shown.length ≤ sizeLine := Nat.le_trans z1 (Nat.le_trans hg.wn (by decide))
  have hsm : p.hasDict = true → sysModules ∉ as := fun _ => hn
  have hdp := hg.dp
  cases hr with
  | none => exact PySem.P.repr_of_none ⟨.str _, H, I.tok _, ⟨_, rfl⟩, by simpa only [PyData.shown] using q⟩
  | bool b => exact PySem.P.repr_of_bool ⟨.str _, H, I.tok _, ⟨_, rfl⟩, by simpa only [PyData.shown] using q⟩
  | int i t => exact PySem.P.repr_of_int (by simpa [PyData.showable] using z2) ⟨.str _, H, I.tok _, ⟨_, rfl⟩, by simpa only [PyData.shown] using q⟩
  | str x t => exact PySem.P.repr_of_str ⟨.str _, H, I.tok _, ⟨_, rfl⟩, by simpa only [PyData.shown] using q⟩ (by simpa only [PyData.shown] using hs)
  | list a1 a2 a3 a4 => exact repr_of_reads' (.list a1 a2 a3 a4) z2 hsm en.gu (by omega) (fun _ _ e => e) (fun h' u' tk k => ⟨.str _, H, I.kept (t' := tk) k, ⟨_, rfl⟩, q⟩) hs
  | tuple a1 a2 a3 a4 => exact repr_of_reads' (.tuple a1 a2 a3 a4) z2 hsm en.gu (by omega) (fun _ _ e => e) (fun h' u' tk k => ⟨.str _, H, I.kept (t' := tk) k, ⟨_, rfl⟩, q⟩) hs
  | dict a1 a2 a3 a4 a5 => exact repr_of_reads' (.dict a1 a2 a3 a4 a5) z2 hsm en.gu (by omega) (fun _ _ e => e) (fun h' u' tk k => ⟨.str _, H, I.kept (t' := tk) k, ⟨_, rfl⟩, q⟩) hs
mutual
def withinD : PyData → Bool
  | .int i => withinB (.int i)
  | .list ds => withinDA ds
  | .tuple ds => withinDA ds
  | .dict kvs => withinDK kvs
  | _ => true
def withinDA : List PyData → Bool
  | [] => true
  | d :: ds => withinD d && withinDA ds
def withinDK : List (PyData × PyData) → Bool
  | [] => true
  | (x, y) :: ds => withinD x && (withinD y && withinDK ds)
end
mutual
theorem withinD_ok : ∀ d : PyData, withinD d = true → within 100000000000000000000000000000000000000000000000000000000000000000000000000000000000000000000000000000000000000000000000 d
  | .none, _ => by simp [within]
  | .bool _, _ => by simp [within]
  | .int i, h => within_ok (.int i) (by simpa only [withinD] using h)
  | .str _, _ => by simp [within]
  | .list ds, h => by simp only [within]; exact withinDA_ok ds (by simpa only [withinD] using h)
  | .tuple ds, h => by simp only [within]; exact withinDA_ok ds (by simpa only [withinD] using h)
  | .dict ds, h => by simp only [within]; exact withinDK_ok ds (by simpa only [withinD] using h)
theorem withinDA_ok : ∀ ds : List PyData, withinDA ds = true → withinAll 100000000000000000000000000000000000000000000000000000000000000000000000000000000000000000000000000000000000000000000000 ds
  | [], _ => by simp [withinAll]
  | d :: ds, h => by
    simp only [withinDA, Bool.and_eq_true] at h
    simp only [withinAll]
    exact ⟨withinD_ok d h.1, withinDA_ok ds h.2⟩
theorem withinDK_ok : ∀ ds : List (PyData × PyData), withinDK ds = true → withinKv 100000000000000000000000000000000000000000000000000000000000000000000000000000000000000000000000000000000000000000000000 ds
  | [], _ => by simp [withinKv]
  | (x, y) :: ds, h => by
    simp only [withinDK, Bool.and_eq_true] at h
    simp only [withinKv]
    exact ⟨withinD_ok x h.1, withinD_ok y h.2.1, withinDK_ok ds h.2.2⟩
end
def okReprD (p : PyData) : Bool := withinD p && Nat.ble (wt p) 16000000 && Nat.ble p.depth 100
def gReprD : List D → Mem → Res D
  | [d], M => (match toPyD M d with | some p => if okReprD p = true then .ok (.str p.shown) M else .bad | none => .bad)
  | _, _ => .bad
section
variable {S : Sc}
theorem cq_reprD : CallQ S (rReprR S.K) gReprD := by
  intro W σ ρ H M xs ds Q mo ra p
  unfold gReprD at p
  split at p
  · rename_i d
    split at p
    · rename_i py hd
      split at p
      · rename_i ho
        unfold okReprD at ho
        simp only [Bool.and_eq_true] at ho
        obtain ⟨v, rfl, r⟩ := RepA.one ra
        refine ⟨ρ, v, d, py, rfl, ?_, ⟨withinD_ok _ ho.1.1, Nat.le_of_ble_eq_true ho.1.2, Nat.le_of_ble_eq_true ho.2⟩, p ρ H _ (Stp.refl mo) (.str _)⟩
        unfold toPyD at hd
        split at hd
        · split at hd
          · rename_i ds hm
            split at hd
            · rename_i ps e
              cases hd
              cases r with
              | ref f =>
                obtain ⟨xs, e1, ra⟩ := mo.cell _ _ _ f hm
                exact .inr ⟨0, _, xs, ds, ps, rfl, e1, ra, e, rfl⟩
            · cases hd
          · cases hd
        · exact .inl ⟨r, hd⟩
      · exact p.elim
    · exact p.elim
  · exact p.elim
end
end QX
set_option maxRecDepth 100000
set_option maxHeartbeats 1000000
namespace QX
open PySem PySem.Spec PyProof.Rows L2 L2H HX
end QX
set_option maxRecDepth 100000
set_option maxHeartbeats 2000000
namespace HX
open PySem PySem.Spec PyProof.Rows L2 PySem.W PyProof.V PySem.Calls
section
variable {P : Program} {w : World} {K : PySem.W.Frag} {tg : Expr} {d : Addr} {o : Obj} {es : Array DictEntry} {ep : Nat}
end
section
variable {X : Cx} {tg e : Expr} {td : TE}
end
section
variable {X : Cx}
end
section
variable {prog : Program} {w : World} {A : Around} {E : Value → Shared → Prop} {s : Shared}
end
end HX
set_option maxRecDepth 100000
set_option maxHeartbeats 1000000
namespace QX
open PySem PySem.Spec PyProof.Rows L2 HX
section
variable {X : Cx} {S : Sc} {W : WX} {σ : L2.St} {ρ : List Addr} {H : Hp} {M : Mem} {e : Expr} {fe : F D}
end
section
variable {X : Cx} {S : Sc} {W : WX}
variable {o e : Expr} {es : List Expr} {to : TE} {t : TA} {fo : F D} {fs : F (List D)} {name : Str} {id : String} {apos cpos : Pos} {r : V → List V → Hp → VK → Prop} {g : D → List D → Mem → Res D}
end
end QX
set_option maxRecDepth 100000
set_option maxHeartbeats 2000000
namespace HX
open PySem PySem.Spec PyProof.Rows L2 PySem.W PyProof.V PySem.Calls
section
variable {P : Program} {w : World} {H : Hp} {h : Heap}
end
section
variable {X : Cx}
end
end HX
set_option maxRecDepth 100000
set_option maxHeartbeats 1000000
namespace QX
open PySem PySem.Spec PyProof.Rows L2 HX
section
variable {S : Sc} {ρ : List Addr} {H : Hp} {M : Mem}
end
section
variable {X : Cx} {S : Sc} {W : WX} {k : Nat} {x : Str} {ps : List Str} {m : List D → Mem → Res D} {p pos : Pos} {sp : Sp}
end
end QX
set_option maxRecDepth 100000
set_option maxHeartbeats 1000000
namespace HX
open PySem PySem.Spec PyProof.Rows L2
variable {X : Cx} {pins : List (Addr × Obj)} {σ : L2.St} {H : Hp} {s : Shared}
end HX
set_option maxRecDepth 100000
set_option maxHeartbeats 1000000
namespace QX
open PySem PySem.Spec PyProof PyProof.Rows L2 HX
section
variable {S : Sc} {ρ : List Addr} {H : Hp} {M : Mem}
end
end QX
set_option maxRecDepth 100000
set_option maxHeartbeats 4000000
namespace HX
open PySem
end HX
set_option maxRecDepth 100000
set_option maxHeartbeats 2000000
namespace HX
open PySem PySem.Spec PyProof.Rows L2 LamX NdefX
section
variable {X : Cx} {pins : List (Addr × Obj)} {σ : L2.St} {H H1 H2 : Hp} {s s' : Shared}
end
end HX
set_option maxRecDepth 100000
set_option maxHeartbeats 2000000
namespace QX
open PySem PySem.Spec PyProof PyProof.Rows L2 HX LamX NdefX
section
variable {S : Sc} {ρ : List Addr} {H : Hp} {M : Mem}
end
end QX
set_option maxRecDepth 100000
set_option maxHeartbeats 2000000
namespace HX
open PySem PySem.Spec PyProof.Rows L2 L2H
section
variable {P : Program} {w : World} {K : PySem.W.Frag} {mg : Str → Option Value} {base : Heap}
end
end HX
set_option maxRecDepth 100000
set_option maxHeartbeats 2000000
namespace QX
open PySem PySem.Spec PyProof PyProof.Rows L2 HX LamX NdefX
section
variable {S : Sc} {P : Program} {w : World} {mg : Str → Option Value} {base : Heap} {k : Nat} {x : Str} {ps : List Str} {st : Stmt} {N : List Str} {c : Addr} {b : FS}
end
end QX
set_option maxRecDepth 100000
set_option maxHeartbeats 4000000
namespace HX
open PySem PySem.Spec PyProof.Rows L2
end HX
set_option maxRecDepth 100000
set_option maxHeartbeats 2000000
namespace QX
open PySem PySem.Spec PyProof PyProof.Rows L2 HX
section
variable {S : Sc}
end
end QX
set_option maxRecDepth 100000
set_option maxHeartbeats 2000000
namespace QX
open PySem PySem.Spec PyProof PyProof.Rows L2 HX
section
variable {S : Sc} {X : Cx} {W : WX}
def gRevL : D → Mem → Res D := fun d M => match listOf M d with
  | some ds => .ok (.lst ds.reverse) M
  | none => .bad
def fRevL (fe : F D) : F D := fun σ M => (fe σ M).bind gRevL
theorem qe_revL {e : Expr} {fe : F D} {k : Nat} {p1 p2 p3 pos : Pos} (hk : X.K = S.K) (he : QE S W X e fe) : QE S W X (.Subscript e (.Slice none none (some (.UnaryOp .USub (.Constant (.int 1) k p1) p2)) p3) pos) (fRevL fe) := PE.imp (pe_revL he) fun σ H Q ⟨ρ, M, σa, mo, rs, p⟩ => use mo rs p fun d M1 ρ1 H1 v st1 r1 rs1 p1 => by
  unfold gRevL at p1
  split at p1
  · rename_i ds hs
    obtain ⟨a, xs, rfl, e1, ra⟩ := list_of st1.2 r1 hs
    exact ⟨a, xs, rfl, by rw [hk]; exact SqL.of e1, fun q hq => p1 ρ1 _ _ (Stp.fresh st1.2 hq) (rep_lst st1.2 hq ra.reverse)⟩
  · exact p1.elim
end
end QX
set_option maxRecDepth 100000
set_option maxHeartbeats 2000000
namespace QX
open PySem PySem.Spec PyProof.Rows L2 HX
section
variable {X : Cx}
end
section
variable {S : Sc}
end
end QX
set_option maxRecDepth 100000
set_option maxHeartbeats 2000000
namespace HX
open PySem PySem.Spec PyProof.Rows L2 PySem.W PySem.Calls
section
variable {prog : Program} {w : World} {A : Around} {E : Value → Shared → Prop} {h : Heap} {g : Array GenState} {d : Drawn} {t : Nat} {os : OsState}
theorem txt_text {env : Env} {m : Str → Option Value} {i : Int} {ti : Tok} {fa : Nat} {p3 p4 p5 p9 : Pos} {Q : Value → Shared → Prop} (hk : env.scope.kind = .function) (ha : env.kindOf "line" = some .local) (hn : h.Ns env.locals m) (hm : m "line" = some (.int i ti))
    (li : i.natAbs.log2 < 1900) (hq : ∀ x tk t', Q (.str x tk) ⟨h, g, d, t', os⟩) :
    wpAny (model prog w) A (eval (.JoinedStr [.Constant (.str "no text of a board: line ") fa p3, .FormattedValue (.Name "line" p4) (-1) none p5] p9) env) Q E ⟨h, g, d, t, os⟩ := by
  have la := int_text_length_le (a := i) (k := 1900) (by decide) li
  have ea := PySem.ofString_length (toString i)
  have c1 : (Str.ofString "no text of a board: line ").length = 25 := by decide
  have c0 : Str.empty.length = 0 := rfl
  refine wpAny_JoinedStr ?_
  refine wpAny_Constant_str ⟨_, _, rfl, by rw [strLen_append, sizeLine_eq, c0, c1]; omega, ?_⟩
  refine wpAny_FormattedValue_plain (wpAny_Name (wpAny_loadName_local hk ha hn hm (wpAny_formatField_int (by omega) ⟨_, _, rfl, by simp only [strLen_append]; rw [sizeLine_eq]; omega, ?_⟩)))
  exact ⟨by simp only [strLen_append]; rw [sizeLine_eq]; omega, hq _ _ _⟩
end
def txtScope : Scope := { kind := .function, names := [(PySem.Str.ofString "self", .local), (PySem.Str.ofString "line", .local), (PySem.Str.ofString "__class__", .free), (PySem.Str.ofString "super", .globalImplicit)], isGenerator := false, isCoroutine := false, more := [] }
def TxtB (body : List Stmt) : Prop := ∃ (p0 p1 p2 p3 p4 p5 p9 q0 q1 q2 q3 r0 r1 : Pos) (fa : Nat), (p2.endLine == q0.line) = true ∧ body = [
  .Expr (.Call (.Attribute (.Call (.Name "super" p0) [] [] p1) "__init__" p2) [.JoinedStr [.Constant (.str "no text of a board: line ") fa p3, .FormattedValue (.Name "line" p4) (-1) none p5] p9] [] q0) q1,
  .Assign [.Attribute (.Name "self" q2) "line" q3] (.Name "line" r0) r1]
abbrev txtFn (qual : Str) (params : Arguments) (body : List Stmt) (dV kV doc pm : Value) (an : Option Addr) (cdv ct : Value) (cc : Addr) : FuncData := ksFn "__init__" qual params body txtScope dV kV doc pm an cdv ct cc
def TxtI (P : Program) (K : Frag) (C fI : Addr) : Prop := ∃ (qual : Str) (params : Arguments) (body : List Stmt) (dV kV doc pm : Value) (an : Option Addr) (cda : Addr) (ct : Value) (cc : Addr) (oc : Value) (od : Option Addr) (osl : Array (Option Value)) (ar : Arg),
  K.lookup fI = some ⟨oc, od, .func (txtFn qual params body dV kV doc pm an (.ref cda) ct cc), osl⟩ ∧ codeIn K (.ref cda) qual = true ∧ (∃ (ccl : Value) (cdd : Option Addr) (vs : Array Value) (ccs : Array (Option Value)) (file : Str) (tf : Tok), K.lookup cda = some ⟨ccl, cdd, .fields vs, ccs⟩ ∧ vs[2]? = some (.str file tf) ∧ ((P.main.file : Str) == file) = true) ∧
  (∃ (cl : Value) (cld : Option Addr) (csl : Array (Option Value)), K.lookup cc = some ⟨cl, cld, .cell (some (.ref C)), csl⟩) ∧ TxtB body ∧ (params.posonlyargs ++ params.args).head? = some ar ∧ ar.arg = "self" ∧
  ∀ a b : Value, bindArgs (txtFn qual params body dV kV doc pm an (.ref cda) ct cc) ⟨[a, b], []⟩ = (pure [(("self" : Str), a), (("line" : Str), b)] : Sem (List (Str × Value)))
structure TxtC (P : Program) (K : Frag) (mg : Str → Option Value) (C : Addr) : Prop where
  T : OexC K C
  gC : mg "NoText" = some (.ref C)
  fm : findIn K (.ref C) "line" = some none
  sp : ks_superIn K C C "__init__" = some (some (.builtin "ValueError.__init__"))
  op : nsIn K cStatics "thirdparty.any" = some none
  iv : subIn K (.ref C) (.type "ValueError") = some true
  sb : mroIn K C (.ref C) = some true
  tp : (P.main.scope.names.lookup ("super" : Str)).isSome = false
  gs : mg "super" = none
  ini : ∃ fI, findIn K (.ref C) "__init__" = some (some (.ref fI)) ∧ typeIn K (.ref fI) = some (.type "function") ∧ TxtI P K C fI
section
variable {P : Program} {w : World} {K : Frag} {mg : Str → Option Value} {base : Heap} {C : Addr} {A : Around} {R : Result → Shared → Prop} {h : Heap} {g : Array GenState} {d : Drawn} {t : Nat} {os : OsState}
theorem txt_walk {fI e t0 : Addr} {i : Int} {ti : Tok} (T : TxtC P K mg C) (I : TxtI P K C fI) (X : K.In h) (MG : h.Ns mainGlobals mg) (MB : ∃ mb, h.Ns builtinsNs mb ∧ ∀ x : Str, x ≠ "__name__" → mb x = bootBuiltins x) (NL : h.NoLimit) (hroom : A.depth < recursionLimit) (he : h.get? e = some (PySem.HandSPX.excO C t0)) (hek : ∀ o, K.lookup e ≠ some o) (hi : i.natAbs.log2 < 1900)
    (hq : ∀ hh tk dx t1, (∀ b o, b ≠ e → h.get? b = some o → hh.get? b = some o) → h.objs.size ≤ dx → dx ≠ e → hh.get? e = some ({ cls := .ref C, dict := some dx, data := .fields #[.ref t1, .none, .none, .none, .bool false, .none] } : Obj) → hh.Ns1 dx (fun y => if y = "line" then some (.int i ti) else none) → R (.ok (.ret .none)) ⟨hh, g, d, tk, os⟩) :
    codeAny (model P w) A (.call (.ref fI) ⟨[.ref e, .int i ti], []⟩) R ⟨h, g, d, t, os⟩ := by
  obtain ⟨qual, params, body, dV, kV, doc, pm, an, cda, ct, cc, oc, od, osl, ar, lk, hcd, ⟨ccl, cdd, vs, ccs, file, tf, lkc, hvs, hfile⟩, ⟨cl, cld, csl, lkk⟩, ⟨p0, p1, p2, p3, p4, p5, p9, q0, q1, q2, q3, r0, r1, fa, hpe, rfl⟩, hp, har, hbind⟩ := I
  obtain ⟨nm, q, N, bs, bm, sn, sub, ab, col, dd, k0, k1, k2, k3, k5, hC, hbm⟩ := T.T.cls
  have hcl : PySem.W.clsIn K C = some { name := nm, bases := bs, mro := .ref C :: bm, ns := N, qualname := q, hasDict := true, slotNames := sn, subclasses := sub, abstract := ab, collection := col, hasDel := false } := by unfold PySem.W.clsIn; rw [hC] <;> rfl
  obtain ⟨mb, MB1, MB2⟩ := MB
  refine ks_codeAny_call_defAt (fd := txtFn qual params _ dV kV doc pm an (.ref cda) ct cc) (binds := [("self", .ref e), ("line", .int i ti)]) hroom (X _ _ lk) rfl NL (codeRec_of X hcd) rfl (BindsTo.of_eq (hbind _ _)) (show ∀ x ∈ txtScope.names, x.2 ≠ .cell by unfold txtScope; decide) (show ∀ x ∈ [(("self" : Str), Value.ref e), (("line" : Str), Value.int i ti)], txtScope.names.lookup x.1 = some .local from fun x hx => by
    rcases List.mem_cons.mp hx with rfl | hx
    · rfl
    rcases List.mem_cons.mp hx with rfl | hx
    · rfl
    cases hx) (fun h1 hns hk1 => ?_)
  have X1 : K.In h1 := X.keeps hk1
  have he1 := hk1 _ _ he
  refine ks_wpAt_execs_cons ?_
  refine ks_wpAt_Expr_any ?_
  refine ks_wpAt_MethodCall ?_ (meth_eq hpe)
  refine (ks_wpAt_super_base (vs := vs) (oc := ⟨ccl, cdd, .fields vs, ccs⟩) (ar := ar) rfl rfl rfl rfl (X1 _ _ lk) rfl hp rfl (X1 _ _ lkc) rfl hvs hfile T.tp ?_)
  refine ks_loadName_global rfl rfl (loadGlobal_builtin (MG.keeps hk1) T.gs (MB1.keeps hk1) ((MB2 _ (by decide +kernel)).trans PyProof.Rows.Boot.«super») ⟨rfl, ?_⟩)
  refine wpAny_loadName_free rfl rfl rfl ⟨_, X1 _ _ lkk, rfl⟩ ?_
  refine wpAny_loadName_local rfl (by rw [har]; rfl) hns (by rw [har]; rfl) ?_
  have hC1 := X1 _ _ hC
  refine ks_wpAny_isType_cls hC1 rfl ⟨rfl, ?_⟩
  refine ks_wpAny_call_super hC1 rfl he1 rfl (fun c z => by cases z) (looks_mroIn X1 T.sb) (fun h2 hso k2 => ?_)
  have X2 : K.In h2 := X1.keeps k2
  have he2 := k2 _ _ he1
  have hC2 := X2 _ _ hC
  have hne : e ≠ C := by
    rintro rfl
    rw [hC2] at he2
    cases he2
  have I2 : PySem.W.InstAt h2 e (PySem.HandSPX.excO C t0) C none := ⟨he2, rfl, rfl, trivial⟩
  have hsp := T.sp
  unfold ks_superIn at hsp
  rw [hcl] at hsp
  refine kxs_getMethod kxs_ValueError hso (looks_opaque X2 T.op) ((looks_clsIn X2 hcl).andThen .now) rfl X2 hsp (I2.type.andThen (looks_subIn X2 T.iv)) hne (by decide) ?_
  have up3 : ∀ b o, h2.get? b = some o → (h2.push (kxs_mw "ValueError.__init__" e)).get? b = some o := fun b o z => Heap.get?_push_of_some _ z
  have he3 := up3 _ _ he2
  have hC3 := up3 _ _ hC2
  have hu3 : (h2.push (kxs_mw "ValueError.__init__" e)).get? h2.objs.size = some (kxs_mw "ValueError.__init__" e) := Heap.get?_push_at rfl rfl
  have hns3 := (hns.keeps k2).keeps up3
  rw [backTo_one]
  refine kxs_callWith (i := "ValueError.__init__") (x := e) rfl ?_
  refine evalArgs_plain (spliced_cons (txt_text rfl rfl hns3 rfl hi fun x tk t' => spliced_nil ⟨hu3, ?_⟩))
  refine mw_call hC3 he3 hu3 (show 1 ≤ sizeLine by rw [sizeLine_eq]; decide) (fun h4 t4 k4 he4 => ?_)
  have X3 : K.In (h2.push (kxs_mw "ValueError.__init__" e)) := X2.keeps up3
  have nek : ∀ {b : Addr} {o : Obj}, K.lookup b = some o → b ≠ e := fun {b o} z y => hek o (y ▸ z)
  have X4 : K.In h4 := fun b o z => k4 b o (nek z) (X3 b o z)
  have hLe : h.objs.size ≠ e := fun z => absurd (Heap.lt_size he) (by rw [← z]; exact Nat.lt_irrefl _)
  have hns4 : h4.Ns h.objs.size _ := hns3.at fun o z => k4 _ _ hLe z
  have hrefs : PySem.HandSPX.refsVE (.ref C :: bm) = true := hbm
  refine wpAt_of_wpAny (wpAny_execs_cons (plainObj_wpAny_Assign_Attribute ?_))
  refine wpAny_Name (wpAny_loadName_local rfl rfl hns4 rfl (wpAny_Name (wpAny_loadName_local rfl rfl hns4 rfl ?_)))
  refine PySem.W.set_plain X4 (ox := PySem.HandSPX.excO C t4) (od := none) ⟨he4, rfl, rfl, trivial⟩ T.T.sa ?_
  refine PySem.HandSPX.exc_osa X4 he4 hcl hrefs rfl T.fm (fun h5 tk5 dx k5 dn dne hx hn5 => ?_)
  have X5 : K.In h5 := fun b o z => k5 b o (nek z) (X4 b o z)
  have hns5 : h5.Ns h.objs.size _ := hns4.at fun o z => k5 _ _ hLe z
  have hLd : h.objs.size ≤ dx := Nat.le_trans (Nat.le_of_lt hns4.lt) dn
  refine wpAny_execs_nil (hq h5 _ dx t4 (fun b o hb z => ?_) hLd dne hx ?_)
  · exact k5 _ _ hb (k4 _ _ hb (up3 _ _ (k2 _ _ (hk1 _ _ z))))
  · exact hn5
end
section
variable {X : Cx} {C : Addr} {e1 : Expr} {p pos : Pos} {ta : TA} {k : Nat}
theorem pmk_txt (T : TxtC X.prog X.K X.mg C) (hr : Room k X.A) (hg : Gl X "NoText") (ha : PA X [e1] ta)
    (he : starEach [e1] X.env = (false, eval e1 X.env) :: starEach [] X.env := by rfl) (hpl : (backTo pos (starEach [] X.env)).any (·.1) = false := by rfl) :
    PMk X (.Call (.Name "NoText" p) [e1] [] pos) (fun σ H Q => ta σ H fun vs H1 => ∃ i : Int, vs = [.int i] ∧ i.natAbs.log2 < 1900 ∧ ∀ d : Addr, H1 d = none → Q (.ref C) (some d) (upd H1 d (.xd [("line", .int i)]))) := by
  intro pins s σ H Q I h
  obtain ⟨nm, q, N, bs, bm, sn, sub, ab, col, dd, k0, k1, k2, k3, k5, hC, hbm⟩ := T.T.cls
  obtain ⟨fI, iC, tI, init⟩ := T.ini
  refine wpAny_Call_Name_kw (ld_glob I hg T.gC ?_)
  refine PySem.W.callWith_K (h₀ := X.base) I.ok.mod.kin T.T.kC (thn (ha.run pos pins s σ H _ I h) fun us s1 ⟨vs, H1, I1, r1, i, evs, li, q1⟩ => ⟨I1.kIn, ?_⟩) he hpl
  show wpAny _ _ (call (.ref C) us) _ _ _
  subst evs
  obtain ⟨u1, rfl, ⟨ti, rfl⟩⟩ := r1.one
  obtain ⟨hp, g, dr, tk, os⟩ := s1
  have hsz : hp.objs.size ≤ hp.objs.size + 1 := Nat.le_succ _
  have hna : H1 (hp.objs.size + 1) = none := I1.hok.fresh hsz
  have kk : ∀ b o, hp.get? b = some o → ((hp.push (PySem.W.kdv_tup [.int i ti])).push (PySem.HandSPX.excO C hp.objs.size)).get? b = some o := fun b o e => Heap.get?_push_of_some _ (Heap.get?_push_of_some _ e)
  have hget : ((hp.push (PySem.W.kdv_tup [.int i ti])).push (PySem.HandSPX.excO C hp.objs.size)).get? (hp.objs.size + 1) = some (PySem.HandSPX.excO C hp.objs.size) := by heap_get
  have hlt : ∀ {b : Addr} {o : Obj}, hp.get? b = some o → b ≠ hp.objs.size + 1 := fun {b o} z => Nat.ne_of_lt (Nat.lt_succ_of_lt (Heap.lt_size z))
  have hek : ∀ o, X.K.lookup (hp.objs.size + 1) ≠ some o := fun o z => hlt (I1.kIn _ _ z) rfl
  obtain ⟨mb, hb1, hb2⟩ := I1.ok.mod.blt
  refine wpAny_call (PySem.HandSPX.call_own PySem.F.excBase_ValueError (fun Y => PySem.HandSPX.refsVE_contains Y bm hbm) (I1.kIn _ _ hC) (PySem.W.looks_findIn I1.kIn iC) (fun self => PySem.W.bind_fn I1.kIn self tI) (show 1 ≤ sizeLine by rw [sizeLine_eq]; decide) ?_)
  refine txt_walk T init (fun b o z => kk _ _ (I1.kIn _ _ z)) ((I1.ok.mod.glob.keeps I1.bk).keeps kk) ⟨mb, (hb1.keeps I1.bk).keeps kk, hb2⟩ (I1.nolimit.keeps kk) (by have := hr.dp; rw [make_depth]; omega) hget hek li (fun hh tk2 dx t1 kh hdx hda hx hn => ⟨rfl, ?_⟩)
  have hs2 : ∀ {b : Addr} {o : Obj}, ((hp.push (PySem.W.kdv_tup [.int i ti])).push (PySem.HandSPX.excO C hp.objs.size)).get? b = some o → b ≠ dx := fun {b o} z => Nat.ne_of_lt (Nat.lt_of_lt_of_le (Heap.lt_size z) hdx)
  have hnd : H1 dx = none := by
    cases z : H1 dx with
    | none => rfl
    | some u =>
      have z1 := I1.hok.lt z
      have z2 := Heap.lt_size hget
      exact absurd (Nat.lt_trans (Nat.lt_succ_of_lt z1) z2) (Nat.not_lt.mpr hdx)
  have na : ∀ {b : Addr}, upd H1 (hp.objs.size + 1) (exo (hp.objs.size + 1) C none) b = none → b ≠ hp.objs.size + 1 ∧ H1 b = none := fun {b} n => by
    by_cases hb : b = hp.objs.size + 1
    · rw [hb, upd_same] at n
      cases n
    · exact ⟨hb, by rw [upd_ne hb] at n; exact n⟩
  have un : Un (frs X.stack) [] (upd H1 (hp.objs.size + 1) (exo (hp.objs.size + 1) C none)) (upd (upd H1 dx (exd dx [("line", .int i)])) (hp.objs.size + 1) (exo (hp.objs.size + 1) C (some dx))) ((hp.push (PySem.W.kdv_tup [.int i ti])).push (PySem.HandSPX.excO C hp.objs.size)) hh := {
    keep := fun b o q n _ _ => kh b o (na n).1 q
    slot := fun b o q n _ _ => ⟨o.slots, kh b o (na n).1 q⟩
    free := fun b o q n _ => by rw [upd_ne (na n).1, upd_ne (hs2 q)]; exact (na n).2
    there := fun b o q _ => by
      by_cases hb : b = hp.objs.size + 1
      · exact ⟨_, by rw [hb]; exact hx⟩
      · exact ⟨o, kh b o hb q⟩
    tups := fun b xs q => by
      have hb := at_ne (upd_same (H := H1) (a := hp.objs.size + 1) (o := exo (hp.objs.size + 1) C none)) q exo_tup
      rw [upd_ne hb] at q
      rw [upd_ne hb, upd_ne (ne_of_none q hnd)]
      exact q
    frzs := fun b o v q => by
      have hb := at_ne (upd_same (H := H1) (a := hp.objs.size + 1) (o := exo (hp.objs.size + 1) C none)) q exo_frz
      rw [upd_ne hb] at q
      rw [upd_ne hb, upd_ne (ne_of_none q hnd)]
      exact q
    tbls := fun b ps q => by
      have hb := at_ne (upd_same (H := H1) (a := hp.objs.size + 1) (o := exo (hp.objs.size + 1) C none)) q exo_tbl
      rw [upd_ne hb] at q
      exact ⟨#[], by rw [upd_ne hb, upd_ne (ne_of_none q hnd), q]; simp⟩ }
  have hok : HOk X.prog X.w (upd (upd H1 dx (exd dx [("line", .int i)])) (hp.objs.size + 1) (exo (hp.objs.size + 1) C (some dx))) hh := fun b o z => by
    by_cases hb : b = hp.objs.size + 1
    · subst hb
      rw [upd_same] at z
      cases z
      exact exo_ok hx
    · rw [upd_ne hb] at z
      by_cases hd : b = dx
      · subst hd
        rw [upd_same] at z
        cases z
        exact exd_ok hn (relO_put (fs := []) ⟨ti, rfl⟩ fun g => True.intro)
      · rw [upd_ne hd] at z
        exact (I1.hok b o z).stay (fun c v _ y => kh c v (hlt y) (kk c v y)) (fun c hc => by rw [upd_ne (ne_of_none hc hna), upd_ne (ne_of_none hc hnd)]; exact hc) (fun c xs hc => by rw [upd_ne (ne_of_none hc hna), upd_ne (ne_of_none hc hnd)]; exact hc)
  have e2 : upd (del (upd (upd H1 dx (exd dx [("line", .int i)])) (hp.objs.size + 1) (exo (hp.objs.size + 1) C (some dx))) (hp.objs.size + 1)) dx (.xd [("line", .int i)]) = upd H1 dx (.xd [("line", .int i)]) := by
    funext b
    by_cases hd : b = dx
    · rw [hd, upd_same, upd_same]
    · rw [upd_ne hd, upd_ne hd]
      by_cases hb : b = hp.objs.size + 1
      · rw [hb, del_same, hna]
      · rw [del_ne hb, upd_ne hb, upd_ne hd]
  exact mk_end (raises_own T.T.exC T.T.tyC) I1 hsz kk un hok rfl I1.bare upd_same (by rw [upd_ne (Ne.symm (Ne.symm hda)), upd_same]) hnd (by rw [e2]; exact q1 dx hnd)
end
end HX
set_option maxRecDepth 100000
set_option maxHeartbeats 1000000
namespace QX
open PySem PySem.Spec PyProof.Rows L2 L2H HX
def fsText (i : Int) : List (Str × D) := [("line", .int i)]
def sRaiseT (f : F (List D)) : FS := fun σ M => (f σ M).bindS σ fun ds M1 => match ds with
  | [.int i] => if decide (i.natAbs < 2 ^ 100) = true then .exc 19 (fsText i) σ M1 else .bad
  | _ => .bad
theorem qs_txt {X : Cx} {S : Sc} {W : WX} {e1 : Expr} {f : F (List D)} {p pos pos2 : Pos} {k : Nat} (T : TxtC X.prog X.K X.mg (S.C 19)) (hK : X.K = S.K) (hr : Room k X.A) (tk : Takes X W) (ha : QA S W X [e1] f) (hc : X.calm = true := by rfl) (hg : Gl X "NoText" := by rfl)
    (he : starEach [e1] X.env = (false, eval e1 X.env) :: starEach [] X.env := by rfl) (hpl : (backTo pos (starEach [] X.env)).any (·.1) = false := by rfl) :
    QS S W X (.Raise (some (.Call (.Name "NoText" p) [e1] [] pos)) none pos2) (sRaiseT f) := PS.imp (ps_raise hc tk (pmk_txt T hr hg ha he hpl)) fun E σ H ⟨ρ, M, σa, mo, rs, p⟩ => by
  refine useS mo rs p fun ds M1 ρ1 H1 vs st1 r1 rs1 p1 => ?_
  split at p1
  · rename_i i
    split at p1
    · rename_i hb
      rw [decide_eq_true_eq] at hb
      obtain ⟨v, rfl, rv⟩ := RepA.one r1
      cases rv
      refine ⟨i, rfl, log_small hb, fun d hd => ?_⟩
      have st2 := Stp.fresh st1.2 hd (o := .xd [("line", .int i)])
      exact p1 ρ1 _ σ (some d) st2 (rs1.mono st2.1) ⟨st1.2.new hd, _, upd_same, rfl, .cons (.int _) .nil, fun z => by cases z⟩
    · exact p1.elim
  · exact p1.elim
theorem call_isY {X : Cx} {a D dd : Addr} {oe : Obj} (hp : (a, oe) ∈ X.pn) (C : ExcC X.K D) (hz : Zc (.ref D) (some dd) oe) (hf : ∃ vs, oe.data = .fields vs) : CallR X (.builtin "isinstance") (rIsX X.K D a dd) := by
  intro pins s σ H xs us Q I r h
  obtain ⟨⟨fs, ea⟩, c, cv, b, rfl, hcv, e, q⟩ := h
  cases r with
  | cons rx rr =>
    cases rr with
    | cons rt rr =>
      cases rr
      cases rx
      have ec := hcv _ rt
      subst ec
      obtain ⟨hget, _⟩ := I.pin (a, oe) (List.mem_append_left _ hp)
      obtain ⟨vs, hv⟩ := hf
      have hx : ObjOk X.prog X.w H s.heap dd (.xd fs) := I.hok dd _ ea
      obtain ⟨mA, ⟨od, es, ep, ho, _⟩, hr⟩ := hx
      have J : PySem.W.InstAt s.heap a oe D (some od) := ⟨hget, hz.1, by unfold PySem.W.notCls; rw [hv] <;> rfl, by rw [hz.2]; exact ho⟩
      obtain ⟨cdD, hcD, _⟩ := PySem.W.any_some C.hd
      exact PySem.W.kia_one (PySem.W.kitx_exc (by rw [hcD]; rfl) C.hg C.hk C.hs C.ha C.hn C.ht C.hm) I.kIn J e (fun z => nomatch z) fun tk => ⟨.bl b, H, I.kept (t' := tk) fun _ _ z => z, rfl, q⟩
theorem pe_xfP {X : Cx} {a C : Addr} {oe : Obj} {cls : Value} {d : Option Addr} {e : Expr} {te : TE} {pos : Pos} {n : Str} (hp : (a, oe) ∈ X.pn) (T : XfC X.K C) (hno : PySem.W.findIn X.K (.ref C) n = some none)
    (hz : Zc cls d oe) (hf : ∃ vs, oe.data = .fields vs) (he : PE X e te) (hb : attributeBase e n X.env (eval e X.env) = eval e X.env := by rfl) :
    PE X (.Attribute e n pos) (tXf a cls d C n te) := by
  refine ⟨fun pins s σ H Q I h => ?_⟩
  refine attr_of hb (thn (he.run pins s σ H _ I h) fun u s1 hh => ?_)
  obtain ⟨x, H1, I1, rx, ex, ec, dd, fs, v, ed, ea, l, q⟩ := hh
  subst ex
  obtain rfl : u = Value.ref a := rx
  subst ec
  subst ed
  obtain ⟨ha, _⟩ := I1.pin (a, oe) (List.mem_append_left _ hp)
  obtain ⟨vs, hd⟩ := hf
  have hx : ObjOk X.prog X.w H1 s1.heap dd (.xd fs) := I1.hok dd _ ea
  obtain ⟨mA, hns, hr⟩ := hx
  obtain ⟨od, ho, hl⟩ := lookIn_ns hns
  obtain ⟨u, hu, ru⟩ := RelO.some_of (v := v) (o := mA n) (by rw [← l]; exact hr n)
  have J : PySem.W.InstAt s1.heap a oe C (some od) := ⟨ha, hz.1, by unfold PySem.W.notCls; rw [hd] <;> rfl, by rw [hz.2]; exact ho⟩
  exact HandSPX.exc_get I1.kIn J T.ga T.gg T.exC (PySem.W.findObj_own T.hdC hno rfl (by rw [hl, hu])) (handed_of ru) ⟨v, H1, I1.tok _, ru, q⟩
def tIsX (K : PySem.W.Frag) (Dc a dd c : Addr) : TE := tCB (rIsX K Dc a dd) (tCons (tVar 0) (tCons (tC (.ref c)) tNil))
theorem isX_one {K : PySem.W.Frag} {Dc a dd : Addr} {C : Nat → Addr} {i j : Nat} (E : EF K C Dc i) (hj : j < 21) {σ : L2.St} {H : Hp} {Q : VK} (hs : σ[0]? = some (some (.ref a))) (hx : ∃ vs, H dd = some (.xd vs)) (q : Q (.bl (decide (j = i))) H) : tIsX K Dc a dd (C j) σ H Q :=
  ⟨.ref a, hs, hx, .ref (C j), .ref (C j), _, rfl, fun u r => r, E.is j hj, q⟩
theorem catX4 {K : PySem.W.Frag} {Dc a dd L : Addr} {C : Nat → Addr} {i m : Nat} (E : EF K C Dc i) (hm : m + 4 ≤ 21) {σ : L2.St} {H : Hp} {Q : VK} (h0 : σ[0]? = some (some (.ref a))) (h1 : σ[1]? = some (some (.ref L))) (hx : ∃ vs, H dd = some (.xd vs)) (eL : H L = some (.lst ((marks i).take m)))
    (q : ∀ L' H', Same H H' → H' L' = some (.lst ((marks i).take (m + 4))) → H L' = none → Q (.ref L') H') :
    tOp rCat (tVar 1) (tLst (tCons (tIsX K Dc a dd (C m)) (tCons (tIsX K Dc a dd (C (m + 1))) (tCons (tIsX K Dc a dd (C (m + 2))) (tCons (tIsX K Dc a dd (C (m + 3))) tNil))))) σ H Q := by
  refine ⟨.ref L, h1, isX_one E (by omega) h0 hx (isX_one E (by omega) h0 hx (isX_one E (by omega) h0 hx (isX_one E (by omega) h0 hx ⟨by show 4 ≤ sizeLine; decide, fun M n => ?_⟩)))⟩
  have sM : Same H (upd H M (.lst [.bl (decide (m = i)), .bl (decide (m + 1 = i)), .bl (decide (m + 2 = i)), .bl (decide (m + 3 = i))])) := Same.new n
  refine ⟨L, M, _, _, rfl, rfl, sM _ _ eL, upd_same, ?_, fun p np => q p _ (sM.trans (Same.new np)) ?_ ?_⟩
  · rw [List.length_take]
    show _ + 4 ≤ sizeLine
    have : min m (marks i).length ≤ m := Nat.min_le_left ..
    exact Nat.le_of_lt (small1000 (by omega))
  · rw [upd_same, show m + 4 = m + 3 + 1 by omega, marksQ_take (by omega), show m + 3 = m + 2 + 1 by omega, marksQ_take (by omega), show m + 2 = m + 1 + 1 by omega, marksQ_take (by omega), marksQ_take (by omega)]
    simp only [List.append_assoc, List.cons_append, List.nil_append]
  · cases e : H p with
    | none => rfl
    | some o => rw [sM _ _ e] at np; cases np
def spWordT (K : PySem.W.Frag) (C : Nat → Addr) (a : Addr) (cls : Value) (d : Option Addr) (H : Hp) (Q : VK) : Prop :=
  spWordF K C a cls d H Q ∨ ∃ (dd : Addr) (vs : List (Str × V)) (j : Int), cls = .ref (C 19) ∧ EF K C (C 19) 19 ∧ XfC K (C 19) ∧ PySem.W.findIn K (.ref (C 19)) "line" = some none ∧ d = some dd ∧ H dd = some (.xd vs) ∧ vs.lookup (Str.ofString "line") = some (V.int j) ∧
    ∀ (p : Addr) (o : Obj) (H' : Hp), Same H H' → o.dict = none → H p = none → H' p = some (.frz o (.tup [.str "text", .int j])) → Q (.ref p) H'
structure XText (K : PySem.W.Frag) (C : Nat → Addr) (CM : Addr) : Prop where
  ef : EF K C (C 19) 19
  xf : XfC K (C 19)
  f1 : PySem.W.findIn K (.ref (C 19)) "line" = some none
  xm : PySem.W.exmOne K (.ref (C 19)) (.ref CM) = some true
theorem pe_saidT {X Y : Cx} {k : Nat} {C : Nat → Addr} {a n wd aw : Str} {sg : Scope} {q5 q6 q7 : Pos} (cw : CalE X.prog X.w X.K X.mg X.base k wd aw (spWordT X.K C))
    (e1 : Y.prog = X.prog) (e2 : Y.w = X.w) (e3 : Y.K = X.K) (e4 : Y.mg = X.mg) (e5 : Y.base = X.base) (e6 : Y.N = [a, n]) (e7 : Y.env.scope = sg) (hr : RoomH k Y.A)
    (hln : sg.names.lookup n = some .local) (hgw : sg.names.lookup wd = some .globalImplicit)
    {ea : Addr} {oe : Obj} {cls : Value} {d : Option Addr} {pn : List (Addr × Obj)} (hz : Zc cls d oe) (hf : ∃ vs, oe.data = .fields vs) (hdn : (n == ("__debug__" : Str)) = false := by decide) (hcn : (n == ("__classdict__" : Str)) = false := by decide) (hdw : (wd == ("__debug__" : Str)) = false := by decide) :
    PE (Y.suite ea ((ea, oe) :: pn)) (.Call (.Name wd q5) [.Name n q6] [] q7) (fun σ H Q => σ[1]? = some (some (.ref ea)) ∧ spWordT X.K C ea cls d H Q) := by
  refine ⟨fun pins s σ H Q I h => ?_⟩
  obtain ⟨hs, h⟩ := h
  have hN : (Y.suite ea ((ea, oe) :: pn)).N[1]? = some n := by show Y.N[1]? = _; rw [e6]; rfl
  have hsc : (Y.suite ea ((ea, oe) :: pn)).env.scope = sg := e7
  have vn6 : PE (Y.suite ea ((ea, oe) :: pn)) (.Name n q6) (tVar 1) := pe_var hN (by rw [hsc]; exact .inl hln) hdn hcn
  rw [← e3] at h
  have cw' : CalE Y.prog Y.w Y.K Y.mg Y.base k wd aw (spWordT Y.K C) := by rw [e1, e2, e3, e4, e5]; exact cw
  exact (pe_calE (X := Y) (pn := pn) cw' hr hz hf (by show Y.env.scope.names.lookup _ = _; rw [e7]; exact hgw) vn6 hdw (pos := q7)).run pins s σ H Q I ⟨.ref ea, hs, rfl, h⟩
def fSaidT (L : List Nat) (f : F D) : F D := fun σ M => match f σ M with
  | .ok d M1 => .ok (.tup [.str "told", d]) M1
  | .exc c fs M1 => if L.contains c && fs.isEmpty then .ok (.tup [.str (wordAt c)]) M1 else match c, fs with
    | 19, [(a, .int i)] => if a == ("line" : Str) then .ok (.tup [.str "text", .int i]) M1 else .bad
    | _, _ => .bad
  | .bad => .bad
theorem qe_lamT {X : Cx} {S : Sc} {W : WX} {CM : Addr} {L : List Nat} {e : Expr} {f : F D} (xs : XCs S CM L) (xy : XText S.K S.C CM) (h : PE X e (LamX.tLam S.T (TSaidF S.K CM "told" (spWordT S.K S.C)) (fun E => tOf S (fun cls d _ H => E cls d H) (Rep S.K) f))) : QE S W X e (fSaidT L f) := by
  refine PE.imp h fun σ H Q ⟨ρ, M, σa, mo, rs, p⟩ => ⟨mo.tab, fun H1 eN T1 => ?_⟩
  have st := Stp.lam mo eN T1
  refine ⟨ρ, M, σa, st.2, rs.mono st.1, ?_⟩
  have p1 := Post.mono p st.1
  unfold fSaidT at p1
  cases e1 : f σa M with
  | ok d M1 =>
    rw [e1] at p1
    intro ρ' H' v st' r
    refine ⟨by show 2 ≤ sizeLine; decide, fun q o hq ho => p1 ρ' _ _ ⟨st'.1.trans (Stp.fresh st'.2 hq).1, (Stp.fresh st'.2 hq).2⟩ (rep_tup st'.2 hq ho (.cons (.str _) (.cons r .nil)))⟩
  | exc c fs M1 =>
    rw [e1] at p1
    dsimp only at p1
    split at p1
    · rename_i hc
      rw [Bool.and_eq_true, List.contains_iff_mem, List.isEmpty_iff] at hc
      obtain ⟨hc, rfl⟩ := hc
      obtain ⟨c19, ef, xm⟩ := xs c hc
      intro ρ' H' d st' xr
      refine ⟨true, xm, fun _ a na => ?_, fun z => by cases z⟩
      have hd : d = none := by
        cases d with
        | none => rfl
        | some q => obtain ⟨_, _, _, _, _, z⟩ := xr; exact absurd rfl z
      refine Or.inl ⟨S.C c, c, rfl, hd, c19, ef, fun q o H2 s2 ho nq e2 => ?_⟩
      have s3 := Stp.same st'.2 s2
      exact p1 ρ' H2 _ ⟨st'.1.trans s3.1, s3.2⟩ (.tup ⟨o, ho, e2⟩ (st'.2.new nq) (.cons (.str _) .nil))
    · split at p1
      · rename_i a i hn
        split at p1
        · rename_i hab
          rw [beq_iff_eq] at hab
          subst hab
          intro ρ' H' d st' xr
          refine ⟨true, xy.xm, fun _ a na => ?_, fun z => by cases z⟩
          cases d with
          | none => cases (show [((Str.ofString "line"), D.int i)] = [] from xr)
          | some dd =>
            obtain ⟨_, vs, hd, hm, ra, _⟩ := xr
            obtain ⟨v, ev, rv⟩ := RepA.one ra
            cases rv
            have evs : vs = [((Str.ofString "line"), V.int i)] := by
              match vs, hm, ev with
              | [(x1, y1)], hm, ev =>
                simp only [List.map_cons, List.map_nil, List.cons.injEq, and_true] at hm ev
                rw [hm, ev]
            subst evs
            refine Or.inr ⟨dd, _, i, rfl, xy.ef, xy.xf, xy.f1, rfl, hd, rfl, fun q o H2 s2 ho nq e2 => ?_⟩
            have s3 := Stp.same st'.2 s2
            exact p1 ρ' H2 _ ⟨st'.1.trans s3.1, s3.2⟩ (.tup ⟨o, ho, e2⟩ (st'.2.new nq) (.cons (.str _) (.cons (.int _) .nil)))
        · exact p1.elim
      · exact p1.elim
  | bad => rw [e1] at p1; exact p1.elim
end QX
set_option maxRecDepth 100000
set_option maxHeartbeats 2000000
namespace HX
open PySem PySem.Spec PyProof.Rows L2 PySem.W
theorem txt_cut {G0 : Prop} {P : Program} {K : PySem.W.Frag} {h : Heap} {mg : Str → Option Value} {c0 c1 c2 c3 c4 c5 c6 c7 c8 c9 c10 c11 c12 c13 c14 c15 c16 c17 c18 c19 c20 cM fI cda cc : Addr} {qual file : Str} {params : Arguments} {body : List Stmt} {dV kV doc pm ct oc cl ccl : Value} {an od cld cdd : Option Addr} {osl csl ccs : Array (Option Value)} {vs : Array Value} {tf : Tok} {ar : Arg} (X : K.In h) (G : h.Ns mainGlobals mg)
    (h0 : mg "NoBoard" = some (.ref c0)) (h1 : mg "NoStand" = some (.ref c1)) (h2 : mg "NoMoment" = some (.ref c2)) (h3 : mg "NoWheel" = some (.ref c3)) (h4 : mg "NotNow" = some (.ref c4)) (h5 : mg "NoRow" = some (.ref c5)) (h6 : mg "NoDrain" = some (.ref c6)) (h7 : mg "NoDrops" = some (.ref c7)) (h8 : mg "NoAgain" = some (.ref c8)) (h9 : mg "NoNumber" = some (.ref c9)) (h10 : mg "NoLinks" = some (.ref c10)) (h11 : mg "NoMouths" = some (.ref c11)) (h12 : mg "NoWord" = some (.ref c12)) (h13 : mg "NotAlike" = some (.ref c13)) (h14 : mg "NoFault" = some (.ref c14)) (h15 : mg "NoSeen" = some (.ref c15)) (h16 : mg "NoHands" = some (.ref c16)) (h17 : mg "NoDeed" = some (.ref c17)) (h18 : mg "NoLine" = some (.ref c18)) (h19 : mg "NoText" = some (.ref c19)) (h20 : mg "TooMany" = some (.ref c20)) (hM : mg "MarbleError" = some (.ref cM))
    (ox : oexIn K c19 = true) (sa : PySem.W.findIn K (.ref c19) "__setattr__" = some (some (.builtin "object.__setattr__")))
    (kC : PySem.W.keepIn K (.ref c19) = true) (sb : PySem.W.subIn K (.ref c19) (.type "BaseException") = some true) (ty : PySem.W.typeIn K (.ref c19) = some (.type "type"))
    (e1 : PySem.W.findIn K (.ref c19) "__getattribute__" = some (some (.builtin "BaseException.__getattribute__"))) (e2 : PySem.W.findIn K (.ref c19) "__getattr__" = some none) (e3 : PySem.W.hasDictIn K c19 = true) (e4 : PySem.W.findIn K (.ref c19) "__class__" = some (some (.builtin "object.__class__")))
    (e5 : PySem.W.specialIn K (.builtin "object.__class__") "__get__" = some (some (.builtin "getset_descriptor.__get__"))) (e6 : PySem.W.takesIn K (.builtin "object.__class__") = some true) (e7 : PySem.W.mroIn K c19 (.type "object") = some true) (ve : PySem.W.kitOne K (.ref c19) (.type "ValueError") = some true) (xm : PySem.W.exmOne K (.ref c19) (.ref cM) = some true)
    (k0 : PySem.W.kitOne K (.ref c19) (.ref c0) = some (decide (0 = 19))) (k1 : PySem.W.kitOne K (.ref c19) (.ref c1) = some (decide (1 = 19))) (k2 : PySem.W.kitOne K (.ref c19) (.ref c2) = some (decide (2 = 19))) (k3 : PySem.W.kitOne K (.ref c19) (.ref c3) = some (decide (3 = 19))) (k4 : PySem.W.kitOne K (.ref c19) (.ref c4) = some (decide (4 = 19))) (k5 : PySem.W.kitOne K (.ref c19) (.ref c5) = some (decide (5 = 19))) (k6 : PySem.W.kitOne K (.ref c19) (.ref c6) = some (decide (6 = 19))) (k7 : PySem.W.kitOne K (.ref c19) (.ref c7) = some (decide (7 = 19))) (k8 : PySem.W.kitOne K (.ref c19) (.ref c8) = some (decide (8 = 19))) (k9 : PySem.W.kitOne K (.ref c19) (.ref c9) = some (decide (9 = 19))) (k10 : PySem.W.kitOne K (.ref c19) (.ref c10) = some (decide (10 = 19))) (k11 : PySem.W.kitOne K (.ref c19) (.ref c11) = some (decide (11 = 19))) (k12 : PySem.W.kitOne K (.ref c19) (.ref c12) = some (decide (12 = 19))) (k13 : PySem.W.kitOne K (.ref c19) (.ref c13) = some (decide (13 = 19))) (k14 : PySem.W.kitOne K (.ref c19) (.ref c14) = some (decide (14 = 19))) (k15 : PySem.W.kitOne K (.ref c19) (.ref c15) = some (decide (15 = 19))) (k16 : PySem.W.kitOne K (.ref c19) (.ref c16) = some (decide (16 = 19))) (k17 : PySem.W.kitOne K (.ref c19) (.ref c17) = some (decide (17 = 19))) (k18 : PySem.W.kitOne K (.ref c19) (.ref c18) = some (decide (18 = 19))) (k19 : PySem.W.kitOne K (.ref c19) (.ref c19) = some (decide (19 = 19))) (k20 : PySem.W.kitOne K (.ref c19) (.ref c20) = some (decide (20 = 19)))
    (fm : findIn K (.ref c19) "line" = some none) (sp : ks_superIn K c19 c19 "__init__" = some (some (.builtin "ValueError.__init__"))) (op : nsIn K cStatics "thirdparty.any" = some none)
    (iv : subIn K (.ref c19) (.type "ValueError") = some true) (mr : mroIn K c19 (.ref c19) = some true) (tp : (P.main.scope.names.lookup ("super" : Str)).isSome = false) (gs : nsIn K mainGlobals "super" = some none)
    (fi : findIn K (.ref c19) "__init__" = some (some (.ref fI))) (ft : typeIn K (.ref fI) = some (.type "function"))
    (i1 : K.lookup fI = some ⟨oc, od, .func (txtFn qual params body dV kV doc pm an (.ref cda) ct cc), osl⟩) (i2 : codeIn K (.ref cda) qual = true) (i3 : K.lookup cda = some ⟨ccl, cdd, .fields vs, ccs⟩) (i4 : vs[2]? = some (.str file tf)) (i5 : ((P.main.file : Str) == file) = true)
    (i6 : K.lookup cc = some ⟨cl, cld, .cell (some (.ref c19)), csl⟩) (i7 : TxtB body) (i8 : (params.posonlyargs ++ params.args).head? = some ar) (i9 : ar.arg = "self")
    (ib : ∀ a b : Value, bindArgs (txtFn qual params body dV kV doc pm an (.ref cda) ct cc) ⟨[a, b], []⟩ = (pure [(("self" : Str), a), (("line" : Str), b)] : Sem (List (Str × Value))))
    (z : TxtC P K mg c19 → QX.XText K (fun j => [c0, c1, c2, c3, c4, c5, c6, c7, c8, c9, c10, c11, c12, c13, c14, c15, c16, c17, c18, c19, c20].getD j 0) cM → G0) : G0 :=
  z ⟨⟨oex_of ox, sa, sb, ty, kC⟩, h19, fm, sp, op, iv, mr, tp, PySem.W.mg_none_of X G gs, fI, fi, ft, qual, params, body, dV, kV, doc, pm, an, cda, ct, cc, oc, od, osl, ar, i1, i2, ⟨ccl, cdd, vs, ccs, file, tf, i3, i4, i5⟩, ⟨cl, cld, csl, i6⟩, i7, i8, i9, ib⟩
    ⟨⟨⟨e1, e2, sb, e3, e4, e5, e6, e7⟩, ve, fun j hj => by
      match j, hj with
      | 0, _ => exact k0
      | 1, _ => exact k1
      | 2, _ => exact k2
      | 3, _ => exact k3
      | 4, _ => exact k4
      | 5, _ => exact k5
      | 6, _ => exact k6
      | 7, _ => exact k7
      | 8, _ => exact k8
      | 9, _ => exact k9
      | 10, _ => exact k10
      | 11, _ => exact k11
      | 12, _ => exact k12
      | 13, _ => exact k13
      | 14, _ => exact k14
      | 15, _ => exact k15
      | 16, _ => exact k16
      | 17, _ => exact k17
      | 18, _ => exact k18
      | 19, _ => exact k19
      | 20, _ => exact k20
      | n + 21, h => omega⟩, ⟨e1, e2, sb, e3⟩, fm, xm⟩
end HX
set_option maxRecDepth 100000
set_option maxHeartbeats 1000000
namespace QX
open PySem PySem.Spec PyProof.Rows L2 HX
def gNinS : D → D → Mem → Res D
  | .str x, .str z, M => (match x.cps.toList with | [c] => .ok (.bl (!decide (c ∈ z.cps.toList))) M | _ => .bad)
  | _, _, _ => .bad
theorem oq_ninS {S : Sc} : OpQ S (fun x y H Q => ∃ (c : Nat) (z : Str), x = .str ⟨#[c]⟩ ∧ y = .str z ∧ Q (.bl (!decide (c ∈ z.cps.toList))) H) gNinS := by
  intro W σ ρ H M x y dx dy Q mo rx ry p
  unfold gNinS at p
  split at p
  · split at p
    · rename_i c hc
      cases rx
      cases ry
      refine ⟨c, _, ?_, rfl, p ρ H _ (Stp.refl mo) (.bl _)⟩
      rw [show (_ : Str) = (⟨#[c]⟩ : Str) from Str.ext' (Array.toList_inj.mp hc)]
    · exact p.elim
  · exact p.elim
end QX
set_option maxRecDepth 100000
set_option maxHeartbeats 1000000
namespace QX
open PySem PySem.Spec PyProof.Rows L2 HX
def Wf (M : Mem) : Prop := ∀ c ∈ M, Cell.und M.length c = true
mutual
theorem und_mono {n m : Nat} (h : n ≤ m) : ∀ d : D, d.und n = true → d.und m = true
  | .non, _ => rfl
  | .bl _, _ => rfl
  | .int _, _ => rfl
  | .str _, _ => rfl
  | .tup ds, e => by simp only [D.und] at e ⊢; exact undA_mono h ds e
  | .lst ds, e => by simp only [D.und] at e ⊢; exact undA_mono h ds e
  | .dct _ ds, e => by simp only [D.und] at e ⊢; exact undA_mono h ds e
  | .scr _, _ => rfl
  | .ref k, e => by simp only [D.und, Nat.blt_eq] at e ⊢; omega
  | .adr _, _ => rfl
theorem undA_mono {n m : Nat} (h : n ≤ m) : ∀ ds : List D, D.undA n ds = true → D.undA m ds = true
  | [], _ => rfl
  | d :: ds, e => by
    simp only [D.undA, Bool.and_eq_true] at e ⊢
    exact ⟨und_mono h d e.1, undA_mono h ds e.2⟩
end
theorem cund_mono {n m : Nat} (h : n ≤ m) {c : Cell} (e : Cell.und n c = true) : Cell.und m c = true := by
  cases c with
  | lst ds => exact undA_mono h ds e
  | dic kvs => exact undA_mono h _ e
  | fro kvs => exact undA_mono h _ e
theorem undA_iff {n : Nat} : ∀ {ds : List D}, D.undA n ds = true ↔ ∀ d ∈ ds, d.und n = true
  | [] => by simp [D.undA]
  | d :: ds => by simp only [D.undA, Bool.and_eq_true, undA_iff (ds := ds), List.mem_cons, forall_eq_or_imp]
theorem Wf.nil : Wf [] := fun c h => by simp at h
theorem Wf.push {M : Mem} {c : Cell} (h : Wf M) (hc : Cell.und (M.length + 1) c = true) : Wf (M ++ [c]) := by
  intro x hx
  rw [List.length_append, List.length_singleton]
  rcases List.mem_append.mp hx with z | z
  · exact cund_mono (Nat.le_succ _) (h x z)
  · rw [List.mem_singleton.mp z]; exact hc
theorem Wf.set {M : Mem} {c : Cell} {p : Nat} (h : Wf M) (hc : Cell.und M.length c = true) : Wf (M.set p c) := by
  intro x hx
  rw [List.length_set]
  rcases List.mem_or_eq_of_mem_set hx with z | z
  · exact h x z
  · rw [z]; exact hc
theorem closed_app {M g : Mem} {n : Nat} (hn : M.length = n) (h : Wf M) : closed n (M ++ g) = true := by
  unfold closed
  rw [← hn, List.take_left, List.all_eq_true]
  exact h
theorem res_und {k n : Nat} {M : Mem} {d : D} (h : d.und n = true) : D.res k n M d = some d := by
  cases k <;> simp only [D.res, h, if_true]
theorem resL_und {k n : Nat} {M : Mem} : ∀ {ds : List D}, D.undA n ds = true → resL (D.res k n M) ds = some ds
  | [], _ => rfl
  | d :: ds, h => by
    simp only [D.undA, Bool.and_eq_true] at h
    simp only [resL, res_und h.1, resL_und h.2]
theorem trim_app {M g : Mem} {n : Nat} {d : D} (hn : M.length = n) (h : Wf M) (hd : d.und n = true) : trimR n (.ok d (M ++ g)) = .ok d M := by
  unfold trimR
  by_cases hg : g = []
  · subst hg
    rw [List.append_nil]
    dsimp only
    rw [hn, if_pos (by simp)]
  · have hl : 0 < g.length := List.length_pos_iff.mpr hg
    have hb : Nat.ble (M ++ g).length n = false := by
      rw [List.length_append, hn]
      cases e : Nat.ble (n + g.length) n with
      | false => rfl
      | true => have := Nat.le_of_ble_eq_true e; omega
    simp only [hb, Bool.false_eq_true, if_false, res_und hd, closed_app hn h, if_true]
    rw [← hn, List.take_left]
theorem trim_id {M : Mem} {n : Nat} {d : D} (hn : M.length = n) : trimR n (.ok d M) = .ok d M := by
  unfold trimR
  dsimp only
  rw [hn, if_pos (by simp)]
theorem trim_exc {M : Mem} {n c : Nat} {fs : List (Str × D)} (hn : M.length = n) : trimR n (.exc c fs M) = .exc c fs M := by
  unfold trimR
  dsimp only
  rw [hn, if_pos (by simp)]
theorem trim_ref {M g : Mem} {n : Nat} {ds : List D} (hn : M.length = n) (h : Wf M) (hd : D.undA n ds = true) : trimR n (.ok (.ref n) (M ++ .lst ds :: g)) = .ok (.lst ds) M := by
  unfold trimR
  have hb : Nat.ble (M ++ Cell.lst ds :: g).length n = false := by
    rw [List.length_append, hn, List.length_cons]
    cases e : Nat.ble (n + (g.length + 1)) n with
    | false => rfl
    | true => have := Nat.le_of_ble_eq_true e; omega
  have hu : D.und n (.ref n) = false := by
    simp only [D.und]
    cases e : Nat.blt n n with
    | false => rfl
    | true => rw [Nat.blt_eq] at e; omega
  have hm : (M ++ Cell.lst ds :: g)[n]? = some (.lst ds) := by
    rw [List.getElem?_append_right (by omega), hn, Nat.sub_self]
    rfl
  have hr : D.res 5 n (M ++ Cell.lst ds :: g) (.ref n) = some (.lst ds) := by
    rw [D.res, hu]
    simp only [Bool.false_eq_true, if_false]
    rw [hm]
    simp only [resL_und hd, Option.map_some]
  simp only [hb, Bool.false_eq_true, if_false, hr, closed_app hn h, if_true]
  rw [← hn, List.take_left]
theorem comp_loop {t : Tg} {c : F Bool} {e : F D} {chk : Mem → Bool} {σ : Sa} {n : Nat} (Iv : Nat → List D → Mem → Prop) : ∀ (items : List Im) (i : Nat) (acc : List D) (M : Mem), acc.length + items.length ≤ 1000000 →
    (∀ j acc M im, items[j - i]? = some im → i ≤ j → Iv j acc M → chk M = true ∧ ∃ σ1, t.put im σ = some σ1 ∧ ((∃ M1, c σ1 M = .ok false M1 ∧ Iv (j + 1) acc M1) ∨ ∃ M1 d M2, c σ1 M = .ok true M1 ∧ e σ1 M1 = .ok d M2 ∧ M2[n]? = some (.lst acc) ∧ Iv (j + 1) (acc ++ [d]) (M2.set n (.lst (acc ++ [d]))))) →
    (∀ acc M, Iv (i + items.length) acc M → chk M = true) → Iv i acc M → ∃ acc' M', compL t c e chk σ n items M = .ok () M' ∧ Iv (i + items.length) acc' M' ∧ acc'.length ≤ acc.length + items.length
  | [], i, acc, M, _, _, hf, h0 => ⟨acc, M, by unfold compL; rw [if_pos (hf acc M h0)], h0, by simp⟩
  | im :: ims, i, acc, M, hl, hs, hf, h0 => by
    obtain ⟨hc, σ1, h1, h2⟩ := hs i acc M im (by rw [Nat.sub_self]; rfl) (Nat.le_refl _) h0
    have e0 : i + (im :: ims).length = (i + 1) + ims.length := by rw [List.length_cons]; omega
    have step : ∀ j acc M im', ims[j - (i + 1)]? = some im' → i + 1 ≤ j → Iv j acc M → chk M = true ∧ ∃ σ1, t.put im' σ = some σ1 ∧ ((∃ M1, c σ1 M = .ok false M1 ∧ Iv (j + 1) acc M1) ∨ ∃ M1 d M2, c σ1 M = .ok true M1 ∧ e σ1 M1 = .ok d M2 ∧ M2[n]? = some (.lst acc) ∧ Iv (j + 1) (acc ++ [d]) (M2.set n (.lst (acc ++ [d])))) := by
      intro j acc M im' hj hij
      refine hs j acc M im' ?_ (by omega)
      rw [show j - i = (j - (i + 1)) + 1 by omega, List.getElem?_cons_succ]
      exact hj
    rw [e0]
    rw [List.length_cons] at hl
    rcases h2 with ⟨M1, g1, g2⟩ | ⟨M1, d, M2, g1, g2, g3, g4⟩
    · obtain ⟨acc', M', a1, a2, a3⟩ := comp_loop Iv ims (i + 1) acc M1 (by omega) step (fun acc M h => hf acc M (by rw [e0]; exact h)) g2
      refine ⟨acc', M', ?_, a2, by rw [List.length_cons]; omega⟩
      unfold compL
      rw [if_pos hc, h1]
      simp only [g1, Res.nox, Res.bind, Bool.false_eq_true, if_false]
      exact a1
    · obtain ⟨acc', M', a1, a2, a3⟩ := comp_loop Iv ims (i + 1) (acc ++ [d]) (M2.set n (.lst (acc ++ [d]))) (by rw [List.length_append, List.length_singleton]; omega) step (fun acc M h => hf acc M (by rw [e0]; exact h)) g4
      rw [List.length_append, List.length_singleton] at a3
      refine ⟨acc', M', ?_, a2, by rw [List.length_cons]; omega⟩
      unfold compL
      rw [if_pos hc, h1]
      have hb : Nat.blt acc.length 16777216 = true := by rw [Nat.blt_eq]; omega
      simp only [g1, g2, g3, hb, Res.nox, Res.bind, if_true]
      exact a1
theorem comp_pure {fi : F Ita} {vs : List Nat} {t : Tg} {e : F D} {σ : Sa} {M : Mem} {it : Ita} (f : Im → D) (hi : fi σ M = .ok it M) (hc : ∀ M', it.chk M' = true) (hw : Wf M) (hl : it.items.length ≤ 1000000)
    (he : ∀ im ∈ it.items, (f im).und M.length = true ∧ ∃ σ1, t.put im (wipeA σ vs) = some σ1 ∧ ∀ M', Wf M' → M.length < M'.length → e σ1 M' = .ok (f im) M') : fTrim (fCompC fi vs t fYes e) σ M = .ok (.lst (it.items.map f)) M := by
  unfold fTrim fCompC
  rw [hi]
  dsimp only [Res.bind]
  have step : ∀ j acc M2 im, it.items[j - 0]? = some im → 0 ≤ j → (acc = (it.items.take j).map f ∧ M2 = M ++ [.lst acc]) → it.chk M2 = true ∧ ∃ σ1, t.put im (wipeA σ vs) = some σ1 ∧ ((∃ M1, fYes σ1 M2 = .ok false M1 ∧ (acc = (it.items.take (j + 1)).map f ∧ M1 = M ++ [.lst acc])) ∨ ∃ M1 d M3, fYes σ1 M2 = .ok true M1 ∧ e σ1 M1 = .ok d M3 ∧ M3[M.length]? = some (.lst acc) ∧ (acc ++ [d] = (it.items.take (j + 1)).map f ∧ M3.set M.length (.lst (acc ++ [d])) = M ++ [.lst (acc ++ [d])])) := by
    intro j acc M2 im hj _ ⟨ha, hM⟩
    subst hM
    rw [Nat.sub_zero] at hj
    have him := List.mem_of_getElem? hj
    obtain ⟨hu, σ1, hp, hev⟩ := he im him
    have hacc : D.undA M.length acc = true := by
      rw [ha, undA_iff]
      intro d hd
      obtain ⟨im', him', rfl⟩ := List.mem_map.mp hd
      exact (he im' (List.mem_of_mem_take him')).1
    refine ⟨hc _, σ1, hp, .inr ⟨_, f im, _, rfl, hev _ (hw.push (undA_mono (Nat.le_succ _) _ hacc)) (by simp), ?_, ?_, ?_⟩⟩
    · rw [List.getElem?_append_right (Nat.le_refl _), Nat.sub_self]; rfl
    · rw [ha, List.take_add_one, hj, List.map_append]; rfl
    · rw [List.set_append_right _ _ (Nat.le_refl _), Nat.sub_self]; rfl
  obtain ⟨acc', M', h1, ⟨h2, h3⟩, _⟩ := comp_loop (t := t) (c := fYes) (e := e) (chk := it.chk) (σ := wipeA σ vs) (n := M.length) (fun j acc M2 => acc = (it.items.take j).map f ∧ M2 = M ++ [.lst acc]) it.items 0 [] (M ++ [.lst []]) (by simpa using hl) step (fun acc M2 _ => hc M2) ⟨by simp, rfl⟩
  subst h3
  rw [h1]
  dsimp only
  rw [Nat.zero_add, List.take_length] at h2
  rw [h2]
  refine trim_ref (g := []) rfl hw ?_
  rw [undA_iff]
  intro d hd
  obtain ⟨im, him, rfl⟩ := List.mem_map.mp hd
  exact (he im him).1
theorem for_loop {t : Tg} {b : FS} {chk : Mem → Bool} {n : Nat} (Iv : Nat → Sa → Mem → Prop) : ∀ (items : List Im) (i : Nat) (σ : Sa) (M : Mem),
    (∀ j σ M im, items[j - i]? = some im → i ≤ j → Iv j σ M → chk M = true ∧ ∃ σ1, t.put im σ = some σ1 ∧ ∃ σ2 M2, (b σ1 M = .ok (.nx σ2) M2 ∨ b σ1 M = .ok (.ct σ2) M2) ∧ Iv (j + 1) (gc n σ2 M2).1 (gc n σ2 M2).2) →
    (∀ σ M, Iv (i + items.length) σ M → chk M = true) → Iv i σ M → ∃ σ' M', forL t b chk n items σ M = .ok (.nx σ') M' ∧ Iv (i + items.length) σ' M'
  | [], i, σ, M, _, hf, h0 => ⟨σ, M, by unfold forL; rw [if_pos (hf σ M h0)], h0⟩
  | im :: ims, i, σ, M, hs, hf, h0 => by
    obtain ⟨hc, σ1, h1, σ2, M2, h2, h3⟩ := hs i σ M im (by rw [Nat.sub_self]; rfl) (Nat.le_refl _) h0
    have e0 : i + (im :: ims).length = (i + 1) + ims.length := by rw [List.length_cons]; omega
    obtain ⟨σ', M', a1, a2⟩ := for_loop Iv ims (i + 1) _ _ (fun j σ M im' hj hij => hs j σ M im' (by
      rw [show j - i = (j - (i + 1)) + 1 by omega, List.getElem?_cons_succ]
      exact hj) (by omega)) (fun σ M h => hf σ M (by rw [e0]; exact h)) h3
    refine ⟨σ', M', ?_, by rw [e0]; exact a2⟩
    unfold forL
    rw [if_pos hc, h1]
    dsimp only
    rcases h2 with h2 | h2 <;> (rw [h2]; exact a1)
theorem gc_same {n : Nat} {σ : Sa} {M : Mem} (h : M.length = n) : gc n σ M = (σ, M) := by
  unfold gc
  rw [h]
  simp
theorem gc_app {n : Nat} {σ : Sa} {M g : Mem} (h : M.length = n) (hw : Wf M) (hg : g ≠ []) : gc n σ (M ++ g) = (σ.map (keepS n), M) := by
  unfold gc
  have hl : 0 < g.length := List.length_pos_iff.mpr hg
  have hb : Nat.ble (M ++ g).length n = false := by
    rw [List.length_append, h]
    cases e : Nat.ble (n + g.length) n with
    | false => rfl
    | true => have := Nat.le_of_ble_eq_true e; omega
  simp only [hb, Bool.false_eq_true, if_false, closed_app h hw, if_true]
  rw [← h, List.take_left]
end QX
set_option maxRecDepth 100000
set_option maxHeartbeats 1000000
namespace QX
open PySem
/- has_parts -/
def b_has_parts : FS :=
  (sRet (fAnd (fCall (gIsi .tuple) (fCons (fVar 0) (fCons (fC (.adr (.ty "tuple"))) fNil))) (fChain (gCmp cLe) (gCmp cLe) (fVar 1) (fCall gLen (fCons (fVar 0) fNil)) (fVar 2))))
def m_has_parts : List D → Mem → Res D := runT 3 3 b_has_parts
/- is_whole -/
def b_is_whole : FS :=
  (sRet (fAnd (fCall (gIsi .int) (fCons (fVar 0) (fCons (fC (.adr (.ty "int"))) fNil))) (fNot (fCall (gIsi .bool) (fCons (fVar 0) (fCons (fC (.adr (.ty "bool"))) fNil))))))
def m_is_whole : List D → Mem → Res D := runT 1 1 b_is_whole
/- is_within -/
def b_is_within : FS :=
  (sRet (fAnd (fCall m_is_whole (fCons (fVar 0) fNil)) (fChain (gCmp cLe) (gCmp cLe) (fVar 1) (fVar 0) (fVar 2))))
def m_is_within : List D → Mem → Res D := runT 3 3 b_is_within
/- is_step -/
def b_is_step : FS :=
  (sRet (fAnd (fCall m_has_parts (fCons (fVar 0) (fCons (fC (.int 0)) (fCons (fC (.int 3)) fNil)))) (fCall gAll (fCons (fTrim (fCompC (fIter (fVar 0)) [2] (.name 2) fYes (fCall m_is_within (fCons (fVar 2) (fCons (fC (.int 0)) (fCons (fBin gSub (fVar 1) (fC (.int 1))) fNil)))))) fNil))))
def m_is_step : List D → Mem → Res D := runT 3 2 b_is_step
/- is_wheel -/
def b_is_wheel : FS :=
  (sRet (fAnd (fCall m_has_parts (fCons (fVar 0) (fCons (fC (.int 1)) (fCons (fC (.int 4)) fNil)))) (fCall gAll (fCons (fTrim (fCompC (fIter (fVar 0)) [2] (.name 2) fYes (fCall m_is_step (fCons (fVar 2) (fCons (fVar 1) fNil))))) fNil))))
def m_is_wheel : List D → Mem → Res D := runT 3 2 b_is_wheel
/- is_board -/
def b_is_board : FS :=
  (sSeq (sIf (fNotT (fTest (fCall m_has_parts (fCons (fVar 0) (fCons (fC (.int 2)) (fCons (fC (.int 2)) fNil))))))
  (sRet (fC (.bl false)))
  sNext)
  (sSeq (sAsg (fVar 0) (.tup [1, 2]))
  (sSeq (sIf (fOrT (fNotT (fTest (fCall m_has_parts (fCons (fVar 1) (fCons (fC (.int 1)) (fCons (fC (.int 6)) fNil)))))) (fNotT (fTest (fCall m_is_within (fCons (fVar 2) (fCons (fC (.int 0)) (fCons (fC (.int 4)) fNil)))))))
  (sRet (fC (.bl false)))
  sNext)
  (sSeq (sSet 3 (fBin gAdd (fCall gLen (fCons (fVar 1) fNil)) (fVar 2)))
  (sRet (fCall gAll (fCons (fTrim (fCompC (fIter (fVar 1)) [4] (.name 4) fYes (fCall m_is_wheel (fCons (fVar 4) (fCons (fVar 3) fNil))))) fNil)))))))
def m_is_board : List D → Mem → Res D := runT 5 1 b_is_board
/- need_board -/
/- is_wheel_number -/
/- _law_cell_at -/
def b_law_cell_at_e50a56 : FS :=
  (sSeq (sIf (fTest (fBin (gCmp cLt) (fVar 1) (fCall gLen (fCons (fVar 0) fNil))))
  (sRet (fBin gIx (fVar 0) (fVar 1)))
  sNext)
  (sRet (fC (.int 0))))
def m_law_cell_at_e50a56 : List D → Mem → Res D := runT 2 2 b_law_cell_at_e50a56
/- _law_pen -/
def b_law_pen_579b16 : FS :=
  (sRet (fNew (fCons (fCall gMax2 (fCons (fC (.int 0)) (fCons (fBin gSub (fVar 0) (fBin gPow (fC (.int 10)) (fC (.int 18)))) fNil))) (fCons (fBin gMod (fVar 0) (fC (.int 1000000007))) (fCons (fC (.int 0)) fNil)))))
def m_law_pen_579b16 : List D → Mem → Res D := runD 1 1 b_law_pen_579b16
/- _law_draw -/
def b_law_draw_321cf4 : FS :=
  (sSeq (sIf (fTest (fBin (gCmp cGt) (fBin gIx (fVar 0) (fC (.int 0))) (fC (.int 0))))
  (sSeq (sSet 2 (fBin gMod (fBin gIx (fVar 0) (fC (.int 0))) (fVar 1)))
  (sSeq (sSetIx (fVar 0) (fC (.int 0)) (fBin gFdiv (fBin gIx (fVar 0) (fC (.int 0))) (fVar 1)))
  (sRet (fVar 2))))
  sNext)
  (sSeq (sSetIx (fVar 0) (fC (.int 2)) (fBin gAdd (fBin gIx (fVar 0) (fC (.int 2))) (fC (.int 1))))
  (sSeq (sSet 3 (fBin gMod (fBin gMul (fBin gAdd (fBin gIx (fVar 0) (fC (.int 1))) (fBin gMul (fC (.int 17)) (fBin gIx (fVar 0) (fC (.int 2))))) (fBin gAdd (fC (.int 69621)) (fBin gMul (fC (.int 2)) (fBin gIx (fVar 0) (fC (.int 2)))))) (fC (.int 2147483647))))
  (sSeq (sSet 3 (fBin gMod (fBin gAdd (fBin gAdd (fBin gMul (fVar 3) (fVar 3)) (fBin gMul (fC (.int 40503)) (fBin gIx (fVar 0) (fC (.int 2))))) (fC (.int 5))) (fC (.int 2147483629))))
  (sRet (fBin gMod (fBin gFdiv (fBin gMod (fBin gMul (fVar 3) (fC (.int 48271))) (fC (.int 2147483647))) (fC (.int 32))) (fVar 1)))))))
def m_law_draw_321cf4 : List D → Mem → Res D := runT 4 2 b_law_draw_321cf4
/- _law_any_board -/
/- need_few -/
/- renumbered -/
/- are_links -/
/- ends_of_first -/
/- ends_of_second -/
/- joined -/
end QX
set_option maxRecDepth 100000
set_option maxHeartbeats 1000000
namespace QX
open PySem
/- is_stand -/
/- are_marbles -/
/- is_moment -/
/- need_moment -/
/- loosened -/
/- fastened -/
/- handle_marble -/
/- is_row -/
/- need_row -/
/- walked -/
/- first_wrong -/
/- behind -/
/- _law_pick -/
/- _law_board -/
def b_law_board_049704 : FS :=
  (sSeq (sPar 2 3 (fCons (fBin gAdd (fC (.int 1)) (fCall m_law_draw_321cf4 (fCons (fVar 0) (fCons (fVar 1) fNil)))) (fCons (fCall m_law_draw_321cf4 (fCons (fVar 0) (fCons (fC (.int 4)) fNil))) fNil)))
  (sSeq (sSet 4 (fNew fNil))
  (sSeq (sFor (fIt gRange1 (fCons (fVar 2) fNil)) (.name 5)
  (sSeq (sSet 6 (fNew fNil))
  (sSeq (sFor (fIt gRange1 (fCons (fBin gAdd (fC (.int 1)) (fCall m_law_draw_321cf4 (fCons (fVar 0) (fCons (fC (.int 4)) fNil)))) fNil)) (.name 7)
  (sSeq (sSet 8 (fNew fNil))
  (sSeq (sFor (fIt gRange1 (fCons (fBin gIx (fLst (fCons (fC (.int 0)) (fCons (fC (.int 1)) (fCons (fC (.int 1)) (fCons (fC (.int 2)) (fCons (fC (.int 3)) fNil)))))) (fCall m_law_draw_321cf4 (fCons (fVar 0) (fCons (fC (.int 5)) fNil)))) fNil)) (.name 9)
  (sSeq (sSet 10 (fIf (fTest (fBin (gCmp cGt) (fCall m_law_draw_321cf4 (fCons (fVar 0) (fCons (fC (.int 4)) fNil))) (fC (.int 0)))) (fBin gAdd (fBin gAdd (fVar 5) (fC (.int 1))) (fCall m_law_draw_321cf4 (fCons (fVar 0) (fCons (fC (.int 3)) fNil)))) (fCall m_law_draw_321cf4 (fCons (fVar 0) (fCons (fBin gAdd (fVar 2) (fVar 3)) fNil)))))
  (sExpr (fMeth gAppend (fVar 8) (fCons (fCall gMin2 (fCons (fVar 10) (fCons (fCall gMax2 (fCons (fC (.int 0)) (fCons (fBin gSub (fBin gAdd (fVar 2) (fVar 3)) (fC (.int 1))) fNil))) fNil))) fNil)))))
  (sExpr (fMeth gAppend (fVar 6) (fCons (fCall gTuple (fCons (fVar 8) fNil)) fNil))))))
  (sExpr (fMeth gAppend (fVar 4) (fCons (fCall gTuple (fCons (fVar 6) fNil)) fNil))))))
  (sRet (fTup (fCons (fCall gTuple (fCons (fVar 4) fNil)) (fCons (fVar 3) fNil)))))))
def m_law_board_049704 : List D → Mem → Res D := runT 11 2 b_law_board_049704
/- _law_moment -/
/- _law_handle -/
/- _law_ready -/
/- _law_let_row -/
end QX
set_option maxRecDepth 100000
set_option maxHeartbeats 1000000
namespace QX
open PySem
/- step_text -/
/- wheel_text -/
/- board_text -/
/- is_number_text -/
def b_is_number_text : FS :=
  (sSeq (sIf (fOrT (fNotT (fTest (fChain (gCmp cLe) (gCmp cLe) (fC (.int 1)) (fCall gLen (fCons (fVar 0) fNil)) (fC (.int 13))))) (fNotT (fTest (fCall gAll (fCons (fTrim (fCompC (fIterS (fVar 0)) [1] (.name 1) fYes (fBin gInS (fVar 1) (fC (.str "0123456789"))))) fNil)))))
  (sRet (fC (.bl false)))
  sNext)
  (sRet (fOr (fBin (gEq false) (fVar 0) (fC (.str "0"))) (fBin (gEq true) (fBin gIx (fVar 0) (fC (.int 0))) (fC (.str "0"))))))
def m_is_number_text : List D → Mem → Res D := runT 2 1 b_is_number_text
/- read_cups -/
def b_read_cups : FS :=
  (sSeq (sPart (fVar 0) (fC (.str " ")) [1, 2, 3])
  (sRet (fIf (fAndT (fTest (fBin (gEq false) (fVar 1) (fC (.str "cups")))) (fTest (fCall m_is_number_text (fCons (fVar 3) fNil)))) (fCall gIntT (fCons (fVar 3) fNil)) (fC .non))))
def m_read_cups : List D → Mem → Res D := runT 4 1 b_read_cups
/- read_step -/
def b_read_step : FS :=
  (sSeq (sIf (fTest (fBin (gEq false) (fVar 0) (fC (.str "-"))))
  (sRet (fTup fNil))
  sNext)
  (sSeq (sSet 1 (fM1 gSplit (fVar 0) (fC (.str ","))))
  (sRet (fIf (fTest (fCall gAll (fCons (fTrim (fCompC (fIter (fVar 1)) [2] (.name 2) fYes (fCall m_is_number_text (fCons (fVar 2) fNil)))) fNil))) (fCall gTuple (fCons (fTrim (fCompC (fIter (fVar 1)) [2] (.name 2) fYes (fCall gIntT (fCons (fVar 2) fNil)))) fNil)) (fC .non)))))
def m_read_step : List D → Mem → Res D := runT 3 1 b_read_step
/- read_wheel -/
def b_read_wheel : FS :=
  (sSeq (sStar2 (fM1 gSplit (fVar 0) (fC (.str " "))) 1 2)
  (sSeq (sSet 3 (fTrim (fCompC (fIter (fVar 2)) [4] (.name 4) fYes (fCall m_read_step (fCons (fVar 4) fNil)))))
  (sSeq (sIf (fOrT (fTest (fBin (gEq true) (fVar 1) (fC (.str "wheel")))) (fOrT (fTest (fBin (gEq false) (fVar 3) (fLst fNil))) (fTest (fBin gInD (fC .non) (fVar 3)))))
  (sRet (fC .non))
  sNext)
  (sRet (fCall gTuple (fCons (fVar 3) fNil))))))
def m_read_wheel : List D → Mem → Res D := runT 5 1 b_read_wheel
/- read_board -/
/- is_let -/
/- counts_of -/
/- rests -/
/- need_wheel -/
/- handled -/
end QX
set_option maxRecDepth 100000
set_option maxHeartbeats 1000000
namespace QX
open PySem
/- _law_text -/
def b_law_text_24ce07 : FS :=
  (sSeq (sSet 1 (fNew (fCons (fBin gAdd (fC (.str "cups ")) (fCall gStr (fCons (fBin gIx (fVar 0) (fC (.int 1))) fNil))) fNil)))
  (sSeq (sFor (fIter (fBin gIx (fVar 0) (fC (.int 0)))) (.name 2)
  (sSeq (sSet 3 (fNew (fCons (fC (.str "wheel")) fNil)))
  (sSeq (sFor (fIter (fVar 2)) (.name 4)
  (sExpr (fMeth gAppend (fVar 3) (fCons (fIf (fTest (fBin (gEq true) (fVar 4) (fTup fNil))) (fM1 gJoin (fC (.str ",")) (fTrim (fCompC (fIter (fVar 4)) [5] (.name 5) fYes (fCall gStr (fCons (fVar 5) fNil))))) (fC (.str "-"))) fNil))))
  (sExpr (fMeth gAppend (fVar 1) (fCons (fM1 gJoin (fC (.str " ")) (fVar 3)) fNil))))))
  (sRet (fBin gAdd (fM1 gJoin (fC (.str "\n")) (fVar 1)) (fC (.str "\n"))))))
def m_law_text_24ce07 : List D → Mem → Res D := runT 6 1 b_law_text_24ce07
/- _law_odd -/
def b_law_odd_ee5538 : FS :=
  (sSeq (sSet 1 (fLst (fCons (fC .non) (fCons (fC (.bl true)) (fCons (fC (.bl false)) (fCons (fUn gNeg (fC (.int 1))) (fCons (fBin gPow (fC (.int 10)) (fC (.int 12))) (fCons (fC (.str "")) (fCons (fC (.str "wheel")) (fCons (fC (.str "-")) (fCons (fTup fNil) (fCons (fLst fNil) (fCons (fC (.dct [] [])) (fCons (fTup (fCons (fC (.int 0)) fNil)) (fCons (fLst (fCons (fC (.int 0)) fNil)) (fCons (fTup (fCons (fTup fNil) fNil)) (fCons (fC (.dct [.inr "a"] [.int 0])) (fCons (fC (.int 7)) fNil))))))))))))))))))
  (sRet (fBin gIx (fVar 1) (fCall m_law_draw_321cf4 (fCons (fVar 0) (fCons (fC (.int 16)) fNil))))))
def m_law_odd_ee5538 : List D → Mem → Res D := runT 2 1 b_law_odd_ee5538
/- _law_bent -/
/- _law_is_wheel -/
def b_law_is_wheel_65c825 : FS :=
  (sSeq (sIf (fOrT (fNotT (fTest (fCall (gIsi .tuple) (fCons (fVar 0) (fCons (fC (.adr (.ty "tuple"))) fNil))))) (fNotT (fTest (fChain (gCmp cLe) (gCmp cLe) (fC (.int 1)) (fCall gLen (fCons (fVar 0) fNil)) (fC (.int 4))))))
  (sRet (fC (.bl false)))
  sNext)
  (sSeq (sFor (fIter (fVar 0)) (.name 2)
  (sIf (fOrT (fNotT (fTest (fCall (gIsi .tuple) (fCons (fVar 2) (fCons (fC (.adr (.ty "tuple"))) fNil))))) (fOrT (fTest (fBin (gCmp cGt) (fCall gLen (fCons (fVar 2) fNil)) (fC (.int 3)))) (fNotT (fTest (fCall gAll (fCons (fTrim (fCompC (fIter (fVar 2)) [3] (.name 3) fYes (fCall m_is_within (fCons (fVar 3) (fCons (fC (.int 0)) (fCons (fBin gSub (fVar 1) (fC (.int 1))) fNil)))))) fNil))))))
  (sRet (fC (.bl false)))
  sNext))
  (sRet (fC (.bl true)))))
def m_law_is_wheel_65c825 : List D → Mem → Res D := runT 4 2 b_law_is_wheel_65c825
/- _law_is_board -/
def b_law_is_board_8cfce4 : FS :=
  (sSeq (sIf (fOrT (fNotT (fTest (fCall (gIsi .tuple) (fCons (fVar 0) (fCons (fC (.adr (.ty "tuple"))) fNil))))) (fOrT (fTest (fBin (gEq true) (fCall gLen (fCons (fVar 0) fNil)) (fC (.int 2)))) (fNotT (fTest (fCall (gIsi .tuple) (fCons (fBin gIx (fVar 0) (fC (.int 0))) (fCons (fC (.adr (.ty "tuple"))) fNil)))))))
  (sRet (fC (.bl false)))
  sNext)
  (sSeq (sIf (fOrT (fNotT (fTest (fChain (gCmp cLe) (gCmp cLe) (fC (.int 1)) (fCall gLen (fCons (fBin gIx (fVar 0) (fC (.int 0))) fNil)) (fC (.int 6))))) (fNotT (fTest (fCall m_is_within (fCons (fBin gIx (fVar 0) (fC (.int 1))) (fCons (fC (.int 0)) (fCons (fC (.int 4)) fNil)))))))
  (sRet (fC (.bl false)))
  sNext)
  (sRet (fCall gAll (fCons (fTrim (fCompC (fIter (fBin gIx (fVar 0) (fC (.int 0)))) [1] (.name 1) fYes (fCall m_law_is_wheel_65c825 (fCons (fVar 1) (fCons (fBin gAdd (fCall gLen (fCons (fBin gIx (fVar 0) (fC (.int 0))) fNil)) (fBin gIx (fVar 0) (fC (.int 1)))) fNil))))) fNil)))))
def m_law_is_board_8cfce4 : List D → Mem → Res D := runT 2 1 b_law_is_board_8cfce4
/- law -/
end QX
set_option maxRecDepth 100000
set_option maxHeartbeats 1000000
namespace QX
open PySem
/- read_board -/
def b_read_board_ba71bd : FS :=
  (sSeq (sIf (fOrT (fNotT (fTest (fCall (gIsi .str) (fCons (fVar 0) (fCons (fC (.adr (.ty "str"))) fNil))))) (fNotT (fTest (fM1 gEndsw (fVar 0) (fC (.str "\n"))))))
  (sRaiseT (fCons (fC (.int 0)) fNil))
  sNext)
  (sSeq (sSet 1 (fM1 gSplit (fSlS (fVar 0) fNoPart (fPart (fUn gNeg (fC (.int 1))))) (fC (.str "\n"))))
  (sSeq (sSet 2 (fCall m_read_cups (fCons (fBin gIx (fVar 1) (fC (.int 0))) fNil)))
  (sSeq (sIf (fTest (fBin (gIsN false) (fVar 2) (fC .non)))
  (sRaiseT (fCons (fC (.int 1)) fNil))
  sNext)
  (sSeq (sSet 3 (fTrim (fCompC (fIter (fSl (fVar 1) (fPart (fC (.int 1))) fNoPart)) [5] (.name 5) fYes (fCall m_read_wheel (fCons (fVar 5) fNil)))))
  (sSeq (sIf (fTest (fBin gInD (fC .non) (fVar 3)))
  (sRaiseT (fCons (fBin gAdd (fMeth gIndexD (fVar 3) (fCons (fC .non) fNil)) (fC (.int 2))) fNil))
  sNext)
  (sSeq (sSet 4 (fTup (fCons (fCall gTuple (fCons (fVar 3) fNil)) (fCons (fVar 2) fNil))))
  (sSeq (sIf (fNotT (fTest (fCall m_is_board (fCons (fVar 4) fNil))))
  (sRaiseT (fCons (fBin gAdd (fCall gLen (fCons (fVar 1) fNil)) (fC (.int 1))) fNil))
  sNext)
  (sRet (fVar 4))))))))))
def m_read_board_ba71bd : List D → Mem → Res D := runT 6 1 b_read_board_ba71bd
/- law -/
end QX
set_option maxRecDepth 100000
set_option maxHeartbeats 1000000
namespace QX
open PySem
/- _law_figures -/
def b_law_figures_264fdc : FS :=
  (sSeq (sIf (fOrT (fNotT (fTest (fChain (gCmp cLe) (gCmp cLe) (fC (.int 1)) (fCall gLen (fCons (fVar 0) fNil)) (fC (.int 13))))) (fTest (fBin (gEq true) (fTrim (fCompC (fIterS (fVar 0)) [1] (.name 1) (fTest (fBin gNinS (fVar 1) (fC (.str "0123456789")))) (fVar 1))) (fLst fNil))))
  (sRet (fC .non))
  sNext)
  (sRet (fIf (fOrT (fTest (fBin (gEq false) (fVar 0) (fC (.str "0")))) (fTest (fBin (gEq true) (fBin gIx (fVar 0) (fC (.int 0))) (fC (.str "0"))))) (fCall gIntT (fCons (fVar 0) fNil)) (fC .non))))
def m_law_figures_264fdc : List D → Mem → Res D := runT 2 1 b_law_figures_264fdc
/- _law_line_in -/
def b_law_line_in_a53ef1 : FS :=
  (sSeq (sSet 2 (fM1 gSplit (fVar 0) (fC (.str " "))))
  (sSeq (sIf (fTest (fBin (gEq false) (fVar 1) (fC (.int 1))))
  (sRet (fIf (fAndT (fTest (fBin (gEq false) (fCall gLen (fCons (fVar 2) fNil)) (fC (.int 2)))) (fTest (fBin (gEq false) (fBin gIx (fVar 2) (fC (.int 0))) (fC (.str "cups"))))) (fCall m_law_figures_264fdc (fCons (fBin gIx (fVar 2) (fC (.int 1))) fNil)) (fC .non)))
  sNext)
  (sSeq (sIf (fOrT (fTest (fBin (gEq true) (fBin gIx (fVar 2) (fC (.int 0))) (fC (.str "wheel")))) (fTest (fBin (gCmp cLt) (fCall gLen (fCons (fVar 2) fNil)) (fC (.int 2)))))
  (sRet (fC .non))
  sNext)
  (sSeq (sSet 3 (fNew fNil))
  (sSeq (sFor (fIter (fSl (fVar 2) (fPart (fC (.int 1))) fNoPart)) (.name 4)
  (sSeq (sSet 5 (fIf (fTest (fBin (gEq false) (fVar 4) (fC (.str "-")))) (fLst fNil) (fTrim (fCompC (fIter (fM1 gSplit (fVar 4) (fC (.str ",")))) [6] (.name 6) fYes (fCall m_law_figures_264fdc (fCons (fVar 6) fNil))))))
  (sSeq (sIf (fTest (fBin gInD (fC .non) (fVar 5)))
  (sRet (fC .non))
  sNext)
  (sExpr (fMeth gAppend (fVar 3) (fCons (fCall gTuple (fCons (fVar 5) fNil)) fNil))))))
  (sRet (fCall gTuple (fCons (fVar 3) fNil))))))))
def m_law_line_in_a53ef1 : List D → Mem → Res D := runT 7 2 b_law_line_in_a53ef1
/- _law_read -/
def b_law_read_1c5c72 : FS :=
  (sSeq (sIf (fOrT (fNotT (fTest (fCall (gIsi .str) (fCons (fVar 0) (fCons (fC (.adr (.ty "str"))) fNil))))) (fOrT (fTest (fBin (gEq false) (fVar 0) (fC (.str "")))) (fTest (fBin (gEq true) (fBin gIx (fVar 0) (fUn gNeg (fC (.int 1)))) (fC (.str "\n"))))))
  (sRet (fTup (fCons (fC (.str "text")) (fCons (fC (.int 0)) fNil))))
  sNext)
  (sSeq (sSet 1 (fM1 gSplit (fSlS (fVar 0) fNoPart (fPart (fUn gNeg (fC (.int 1))))) (fC (.str "\n"))))
  (sSeq (sSet 2 (fTrim (fCompC (fIt gEnum (fCons (fVar 1) fNil)) [4, 5] (.tup [4, 5]) fYes (fCall m_law_line_in_a53ef1 (fCons (fVar 5) (fCons (fBin gAdd (fVar 4) (fC (.int 1))) fNil))))))
  (sSeq (sIf (fTest (fBin gInD (fC .non) (fVar 2)))
  (sRet (fTup (fCons (fC (.str "text")) (fCons (fBin gAdd (fMeth gIndexD (fVar 2) (fCons (fC .non) fNil)) (fC (.int 1))) fNil))))
  sNext)
  (sSeq (sSet 3 (fTup (fCons (fCall gTuple (fCons (fSl (fVar 2) (fPart (fC (.int 1))) fNoPart) fNil)) (fCons (fBin gIx (fVar 2) (fC (.int 0))) fNil))))
  (sRet (fIf (fTest (fCall m_law_is_board_8cfce4 (fCons (fVar 3) fNil))) (fTup (fCons (fC (.str "told")) (fCons (fVar 3) fNil))) (fTup (fCons (fC (.str "text")) (fCons (fBin gAdd (fCall gLen (fCons (fVar 1) fNil)) (fC (.int 1))) fNil))))))))))
def m_law_read_1c5c72 : List D → Mem → Res D := runT 6 1 b_law_read_1c5c72
/- _law_spoilt -/
def b_law_spoilt_0c0464 : FS :=
  (sSeq (sPar3 2 3 4 (fCons (fM1 gSplit (fVar 1) (fC (.str "\n"))) (fCons (fCall m_law_draw_321cf4 (fCons (fVar 0) (fCons (fBin gAdd (fCall gLen (fCons (fVar 1) fNil)) (fC (.int 1))) fNil))) (fCons (fCall m_law_draw_321cf4 (fCons (fVar 0) (fCons (fC (.int 8)) fNil))) fNil))))
  (sSeq (sPar 5 6 (fCons (fBin gIx (fC (.str "0129 ,-\nwc")) (fCall m_law_draw_321cf4 (fCons (fVar 0) (fCons (fC (.int 10)) fNil)))) (fCons (fCall m_law_draw_321cf4 (fCons (fVar 0) (fCons (fCall gLen (fCons (fVar 2) fNil)) fNil))) fNil)))
  (sSeq (sIf (fTest (fBin (gCmp cLt) (fVar 4) (fC (.int 4))))
  (sRet (fBin gAdd (fBin gAdd (fSlS (fVar 1) fNoPart (fPart (fVar 3))) (fBin gIx (fLst (fCons (fVar 5) (fCons (fC (.str "")) (fCons (fVar 5) (fCons (fC (.str " ")) fNil))))) (fVar 4))) (fSlS (fVar 1) (fPart (fBin gAdd (fVar 3) (fCall gInt (fCons (fBin gInT (fVar 4) (fTup (fCons (fC (.int 1)) (fCons (fC (.int 2)) fNil)))) fNil)))) fNoPart)))
  sNext)
  (sSeq (sIf (fTest (fBin (gCmp cLt) (fVar 4) (fC (.int 7))))
  (sSeq (sSet 7 (fLst (fCons (fBin gAdd (fSl (fVar 2) fNoPart (fPart (fVar 6))) (fSl (fVar 2) (fPart (fBin gAdd (fVar 6) (fC (.int 1)))) fNoPart)) (fCons (fBin gAdd (fSl (fVar 2) fNoPart (fPart (fBin gAdd (fVar 6) (fC (.int 1))))) (fSl (fVar 2) (fPart (fVar 6)) fNoPart)) (fCons (fRevL (fVar 2)) fNil)))))
  (sRet (fM1 gJoin (fC (.str "\n")) (fBin gIx (fVar 7) (fBin gSub (fVar 4) (fC (.int 4)))))))
  sNext)
  (sSeq (sPar 8 9 (fCons (fM1 gSplit (fBin gIx (fVar 2) (fVar 6)) (fC (.str " "))) (fCons (fLst (fCons (fC (.str "")) (fCons (fC (.str "-")) (fCons (fC (.str "0")) (fCons (fC (.str "01")) (fCons (fC (.str "9,9")) (fCons (fC (.str "1234567890123")) (fCons (fC (.str "12345678901234")) (fCons (fC (.str "wheel")) fNil))))))))) fNil)))
  (sSeq (sSet 10 (fCall m_law_draw_321cf4 (fCons (fVar 0) (fCons (fCall gLen (fCons (fVar 8) fNil)) fNil))))
  (sSeq (sSet 11 (fM1 gJoin (fC (.str " ")) (fBin gAdd (fBin gAdd (fSl (fVar 8) fNoPart (fPart (fVar 10))) (fLst (fCons (fBin gIx (fVar 9) (fCall m_law_draw_321cf4 (fCons (fVar 0) (fCons (fC (.int 8)) fNil)))) fNil))) (fSl (fVar 8) (fPart (fBin gAdd (fVar 10) (fC (.int 1)))) fNoPart))))
  (sRet (fM1 gJoin (fC (.str "\n")) (fBin gAdd (fBin gAdd (fSl (fVar 2) fNoPart (fPart (fVar 6))) (fLst (fCons (fVar 11) fNil))) (fSl (fVar 2) (fPart (fBin gAdd (fVar 6) (fC (.int 1)))) fNoPart)))))))))))
def m_law_spoilt_0c0464 : List D → Mem → Res D := runT 12 2 b_law_spoilt_0c0464
/- law -/
def b_law_f49a3b : FS :=
  (sSeq (sSet 1 (fLst (fCons (fC (.str "")) (fCons (fC (.str "\n")) (fCons (fC (.str "cups 0")) (fCons (fC (.str "cups 0\n")) (fCons (fC (.str "cups 5\nwheel -\n")) (fCons (fC (.str "cups 1\nwheel\n")) (fCons (fC (.str "cups 1\nwheel 1\nwheel 0\n")) fNil)))))))))
  (sSeq (sSet 1 (fBin gAdd (fVar 1) (fLst (fCons (fC (.str "cups 1\nwheel 2\n")) (fCons (fC (.str "cups 01\nwheel -\n")) (fCons (fC (.str "cups 1\ncups 1\n")) (fCons (fC (.str "wheel -\ncups 1\n")) (fCons (fC (.str "cups 1 1\n")) fNil))))))))
  (sSeq (sSet 1 (fBin gAdd (fVar 1) (fLst (fCons (fC (.str "cups 1\nwheel - \n")) (fCons (fC (.str "cups 1\nwheel 0,\n")) (fCons (fC (.str "cups 1\nwheel 0,-\n")) (fCons (fC (.str "cups 1\nwheel 1,1,1,1\n")) fNil)))))))
  (sSeq (sSet 1 (fBin gAdd (fVar 1) (fLst (fCons (fC (.str "cups 1\nwheel - - - - -\n")) (fCons (fC (.str "cups 1\n\n")) (fCons (fC (.str "cups 1\nwheel 1234567890123\n")) (fCons (fC (.str " cups 1\nwheel -\n")) fNil)))))))
  (sSeq (sFor (fIt gRange1 (fCons (fCall gMax2 (fCons (fC (.int 1)) (fCons (fCall gMin2 (fCons (fCall gLen (fCons (fVar 0) fNil)) (fCons (fC (.int 4)) fNil))) fNil))) fNil)) (.name 2)
  (sSeq (sSet 3 (fCall m_law_pen_579b16 (fCons (fCall m_law_cell_at_e50a56 (fCons (fVar 0) (fCons (fVar 2) fNil))) fNil)))
  (sSeq (sSet 4 (fCall m_law_text_24ce07 (fCons (fCall m_law_board_049704 (fCons (fVar 3) (fCons (fC (.int 6)) fNil))) fNil)))
  (sSeq (sSet 5 (fBin gAdd (fVar 1) (fLst (fCons (fVar 4) (fCons (fC .non) (fCons (fC (.int 7)) (fCons (fLst (fCons (fVar 4) fNil)) (fCons (fC (.dct [] [])) (fCons (fCall m_law_odd_ee5538 (fCons (fVar 3) fNil)) fNil)))))))))
  (sFor (fIter (fBin gAdd (fVar 5) (fTrim (fCompC (fIt gRange1 (fCons (fC (.int 16)) fNil)) [9] (.name 9) fYes (fCall m_law_spoilt_0c0464 (fCons (fVar 3) (fCons (fVar 4) fNil))))))) (.name 6)
  (sSeq (sSet 7 (fCall m_law_read_1c5c72 (fCons (fVar 6) fNil)))
  (sFor (fIt gRange1 (fCons (fC (.int 2)) fNil)) (.name 8)
  (sIf (fTest (fBin (gEq true) (fCall gReprD (fCons (fSaidT [] (fCall m_read_board_ba71bd (fCons (fVar 6) fNil))) fNil)) (fCall gReprD (fCons (fVar 7) fNil))))
  (sRet (fC (.bl false)))
  sNext))))))))
  (sRet (fC (.bl true))))))))
def m_law_f49a3b : List D → Mem → Res D := runD 10 1 b_law_f49a3b
end QX
set_option maxRecDepth 100000
set_option maxHeartbeats 1000000
namespace Q83
open PySem PySem.Spec PyProof.Rows L2 HX QX
def topS (i : Nat) : Stmt := PySem.Challenge.pw_marblefall_k83_texts_that_write_none.main.body.getD i (.Pass ⟨0, 0, 0, 0⟩)
abbrev s__law_pen : Stmt := topS 44
theorem sc__law_pen : FnScope ["_law_cell"] ["_law_cell"] (defScope s__law_pen) := ⟨rfl, rfl, rfl, by decide +kernel, rfl, by decide +kernel, by decide +kernel⟩
abbrev s__law_text : Stmt := topS 54
theorem sc__law_text : FnScope ["_law_board_here", "_law_lines", "_law_wheel", "_law_words", "_law_step", "_law_end"] ["_law_board_here"] (defScope s__law_text) := ⟨rfl, rfl, rfl, by decide +kernel, rfl, by decide +kernel, by decide +kernel⟩
abbrev s__law_cell_at : Stmt := topS 43
theorem sc__law_cell_at : FnScope ["_law_script", "_law_k"] ["_law_script", "_law_k"] (defScope s__law_cell_at) := ⟨rfl, rfl, rfl, by decide +kernel, rfl, by decide +kernel, by decide +kernel⟩
abbrev s__law_draw : Stmt := topS 45
theorem sc__law_draw : FnScope ["_law_pen_here", "_law_many", "_law_digit", "_law_stir"] ["_law_pen_here", "_law_many"] (defScope s__law_draw) := ⟨rfl, rfl, rfl, by decide +kernel, rfl, by decide +kernel, by decide +kernel⟩
abbrev s__law_board : Stmt := topS 51
theorem sc__law_board : FnScope ["_law_pen_here", "_law_most", "_law_many", "_law_cups", "_law_wheels", "_law_wheel", "_law_steps", "_law_turn", "_law_ends", "_law_lap", "_law_far"] ["_law_pen_here", "_law_most"] (defScope s__law_board) := ⟨rfl, rfl, rfl, by decide +kernel, rfl, by decide +kernel, by decide +kernel⟩
abbrev s__law_figures : Stmt := topS 55
theorem sc__law_figures : FnScope ["_law_word_here", "_law_sign"] ["_law_word_here"] (defScope s__law_figures) := ⟨rfl, rfl, rfl, by decide +kernel, rfl, by decide +kernel, by decide +kernel⟩
abbrev s__law_line_in : Stmt := topS 56
theorem sc__law_line_in : FnScope ["_law_line", "_law_number", "_law_words", "_law_steps", "_law_word_here", "_law_ends", "_law_one"] ["_law_line", "_law_number"] (defScope s__law_line_in) := ⟨rfl, rfl, rfl, by decide +kernel, rfl, by decide +kernel, by decide +kernel⟩
abbrev s__law_whole : Stmt := topS 46
theorem sc__law_whole : FnScope ["_law_thing"] ["_law_thing"] (defScope s__law_whole) := ⟨rfl, rfl, rfl, by decide +kernel, rfl, by decide +kernel, by decide +kernel⟩
abbrev s__law_within : Stmt := topS 47
theorem sc__law_within : FnScope ["_law_thing", "_law_low", "_law_high"] ["_law_thing", "_law_low", "_law_high"] (defScope s__law_within) := ⟨rfl, rfl, rfl, by decide +kernel, rfl, by decide +kernel, by decide +kernel⟩
abbrev s__law_is_wheel : Stmt := topS 52
theorem sc__law_is_wheel : FnScope ["_law_thing", "_law_ends", "_law_step", "_law_end"] ["_law_thing", "_law_ends"] (defScope s__law_is_wheel) := ⟨rfl, rfl, rfl, by decide +kernel, rfl, by decide +kernel, by decide +kernel⟩
abbrev s__law_is_board : Stmt := topS 53
theorem sc__law_is_board : FnScope ["_law_thing", "_law_wheel"] ["_law_thing"] (defScope s__law_is_board) := ⟨rfl, rfl, rfl, by decide +kernel, rfl, by decide +kernel, by decide +kernel⟩
abbrev s__law_read : Stmt := topS 57
theorem sc__law_read : FnScope ["_law_text_here", "_law_lines", "_law_found", "_law_board_here", "_law_at", "_law_line"] ["_law_text_here"] (defScope s__law_read) := ⟨rfl, rfl, rfl, by decide +kernel, rfl, by decide +kernel, by decide +kernel⟩
abbrev s__law_odd : Stmt := topS 48
theorem sc__law_odd : FnScope ["_law_pen_here", "_law_some"] ["_law_pen_here"] (defScope s__law_odd) := ⟨rfl, rfl, rfl, by decide +kernel, rfl, by decide +kernel, by decide +kernel⟩
abbrev s__law_spoilt : Stmt := topS 58
theorem sc__law_spoilt : FnScope ["_law_pen_here", "_law_text_here", "_law_lines", "_law_at", "_law_way", "_law_sign", "_law_spot", "_law_rows", "_law_words", "_law_odd_here", "_law_place", "_law_line"] ["_law_pen_here", "_law_text_here"] (defScope s__law_spoilt) := ⟨rfl, rfl, rfl, by decide +kernel, rfl, by decide +kernel, by decide +kernel⟩
abbrev s_is_number_text : Stmt := topS 37
theorem sc_is_number_text : FnScope ["text", "sign"] ["text"] (defScope s_is_number_text) := ⟨rfl, rfl, rfl, by decide +kernel, rfl, by decide +kernel, by decide +kernel⟩
abbrev s_read_cups : Stmt := topS 40
theorem sc_read_cups : FnScope ["line", "word", "blank", "number"] ["line"] (defScope s_read_cups) := ⟨rfl, rfl, rfl, by decide +kernel, rfl, by decide +kernel, by decide +kernel⟩
abbrev s_read_step : Stmt := topS 38
theorem sc_read_step : FnScope ["text", "ends", "end"] ["text"] (defScope s_read_step) := ⟨rfl, rfl, rfl, by decide +kernel, rfl, by decide +kernel, by decide +kernel⟩
abbrev s_read_wheel : Stmt := topS 39
theorem sc_read_wheel : FnScope ["line", "word", "texts", "steps", "text"] ["line"] (defScope s_read_wheel) := ⟨rfl, rfl, rfl, by decide +kernel, rfl, by decide +kernel, by decide +kernel⟩
abbrev s_has_parts : Stmt := topS 30
theorem sc_has_parts : FnScope ["thing", "least", "most"] ["thing", "least", "most"] (defScope s_has_parts) := ⟨rfl, rfl, rfl, by decide +kernel, rfl, by decide +kernel, by decide +kernel⟩
abbrev s_is_whole : Stmt := topS 28
theorem sc_is_whole : FnScope ["thing"] ["thing"] (defScope s_is_whole) := ⟨rfl, rfl, rfl, by decide +kernel, rfl, by decide +kernel, by decide +kernel⟩
abbrev s_is_within : Stmt := topS 29
theorem sc_is_within : FnScope ["thing", "least", "most"] ["thing", "least", "most"] (defScope s_is_within) := ⟨rfl, rfl, rfl, by decide +kernel, rfl, by decide +kernel, by decide +kernel⟩
abbrev s_is_step : Stmt := topS 31
theorem sc_is_step : FnScope ["thing", "ends", "end"] ["thing", "ends"] (defScope s_is_step) := ⟨rfl, rfl, rfl, by decide +kernel, rfl, by decide +kernel, by decide +kernel⟩
abbrev s_is_wheel : Stmt := topS 32
theorem sc_is_wheel : FnScope ["thing", "ends", "step"] ["thing", "ends"] (defScope s_is_wheel) := ⟨rfl, rfl, rfl, by decide +kernel, rfl, by decide +kernel, by decide +kernel⟩
abbrev s_is_board : Stmt := topS 33
theorem sc_is_board : FnScope ["thing", "wheels", "cups", "ends", "wheel"] ["thing"] (defScope s_is_board) := ⟨rfl, rfl, rfl, by decide +kernel, rfl, by decide +kernel, by decide +kernel⟩
abbrev s_read_board : Stmt := topS 41
theorem sc_read_board : FnScope ["text", "lines", "cups", "wheels", "board", "line"] ["text"] (defScope s_read_board) := ⟨rfl, rfl, rfl, by decide +kernel, rfl, by decide +kernel, by decide +kernel⟩
abbrev s_law : Stmt := topS 59
theorem sc_law : FnScope ["_law_script", "_law_fixed", "_law_k", "_law_pen_here", "_law_sheet", "_law_things", "_law_thing", "_law_due", "_law_lap", "_law_turn"] ["_law_script"] (defScope s_law) := ⟨rfl, rfl, rfl, by decide +kernel, rfl, by decide +kernel, by decide +kernel⟩
abbrev s__law_word : Stmt := topS 49
theorem sc__law_word : FnScope ["_law_e", "_law_some", "_law_words", "_law_word_here"] ["_law_e"] (defScope s__law_word) := ⟨rfl, rfl, rfl, by decide +kernel, rfl, by decide +kernel, by decide +kernel⟩
abbrev s__law_said : Stmt := topS 50
theorem sc__law_said : FnScope ["_law_call", "_law_e"] ["_law_call"] (defScope s__law_said) := ⟨rfl, rfl, rfl, by decide +kernel, rfl, by decide +kernel, by decide +kernel⟩
section
variable {S : Sc} {P : Program} {w : World} {mg : Str → Option Value} {base : Heap} {k : Nat}
theorem ok__law_word {C : Nat → Addr} (D : HX.Def S.K mg "_law_word" s__law_word ["_law_e"]) (B : Bi mg) (B4 : Bi4 mg) (G : Cls21 mg C) : CalE P w S.K mg base (k + 1) "_law_word" "_law_e" (spWordT S.K C) := by
  refine D.okE sc__law_word (fun f cdv A outer s H p cls d Q hz hf hr h => ?_)
  have hp : (p.1, p.2) ∈ [p] := List.mem_singleton.mpr rfl
  rcases h with h | h
  · obtain ⟨Dc, i, rfl, rfl, hi, E, q⟩ := h
    refine ⟨_, (pss_cons (ps_set (i := 1) sc__law_word.nd rfl (Or.inl rfl) (pe_lst (pa_cons (pe_callB (call_isP hp E.ec hz hf) rfl B.isinstance_ (by decide +kernel) (pa_cons (pv 0) (pa_cons (pe_glob (v := .ref _) rfl G.NoBoard rfl) pa_nil))) (pa_cons (pe_callB (call_isP hp E.ec hz hf) rfl B.isinstance_ (by decide +kernel) (pa_cons (pv 0) (pa_cons (pe_glob (v := .ref _) rfl G.NoStand rfl) pa_nil))) (pa_cons (pe_callB (call_isP hp E.ec hz hf) rfl B.isinstance_ (by decide +kernel) (pa_cons (pv 0) (pa_cons (pe_glob (v := .ref _) rfl G.NoMoment rfl) pa_nil))) (pa_cons (pe_callB (call_isP hp E.ec hz hf) rfl B.isinstance_ (by decide +kernel) (pa_cons (pv 0) (pa_cons (pe_glob (v := .ref _) rfl G.NoWheel rfl) pa_nil))) pa_nil))))))
  (pss_cons (ps_set (i := 1) sc__law_word.nd rfl (Or.inl rfl) (pe_op op_cat (pv 1) (pe_lst (pa_cons (pe_callB (call_isP hp E.ec hz hf) rfl B.isinstance_ (by decide +kernel) (pa_cons (pv 0) (pa_cons (pe_glob (v := .ref _) rfl G.NotNow rfl) pa_nil))) (pa_cons (pe_callB (call_isP hp E.ec hz hf) rfl B.isinstance_ (by decide +kernel) (pa_cons (pv 0) (pa_cons (pe_glob (v := .ref _) rfl G.NoRow rfl) pa_nil))) (pa_cons (pe_callB (call_isP hp E.ec hz hf) rfl B.isinstance_ (by decide +kernel) (pa_cons (pv 0) (pa_cons (pe_glob (v := .ref _) rfl G.NoDrain rfl) pa_nil))) (pa_cons (pe_callB (call_isP hp E.ec hz hf) rfl B.isinstance_ (by decide +kernel) (pa_cons (pv 0) (pa_cons (pe_glob (v := .ref _) rfl G.NoDrops rfl) pa_nil))) pa_nil)))))))
  (pss_cons (ps_set (i := 1) sc__law_word.nd rfl (Or.inl rfl) (pe_op op_cat (pv 1) (pe_lst (pa_cons (pe_callB (call_isP hp E.ec hz hf) rfl B.isinstance_ (by decide +kernel) (pa_cons (pv 0) (pa_cons (pe_glob (v := .ref _) rfl G.NoAgain rfl) pa_nil))) (pa_cons (pe_callB (call_isP hp E.ec hz hf) rfl B.isinstance_ (by decide +kernel) (pa_cons (pv 0) (pa_cons (pe_glob (v := .ref _) rfl G.NoNumber rfl) pa_nil))) (pa_cons (pe_callB (call_isP hp E.ec hz hf) rfl B.isinstance_ (by decide +kernel) (pa_cons (pv 0) (pa_cons (pe_glob (v := .ref _) rfl G.NoLinks rfl) pa_nil))) (pa_cons (pe_callB (call_isP hp E.ec hz hf) rfl B.isinstance_ (by decide +kernel) (pa_cons (pv 0) (pa_cons (pe_glob (v := .ref _) rfl G.NoMouths rfl) pa_nil))) pa_nil)))))))
  (pss_cons (ps_set (i := 1) sc__law_word.nd rfl (Or.inl rfl) (pe_op op_cat (pv 1) (pe_lst (pa_cons (pe_callB (call_isP hp E.ec hz hf) rfl B.isinstance_ (by decide +kernel) (pa_cons (pv 0) (pa_cons (pe_glob (v := .ref _) rfl G.NoWord rfl) pa_nil))) (pa_cons (pe_callB (call_isP hp E.ec hz hf) rfl B.isinstance_ (by decide +kernel) (pa_cons (pv 0) (pa_cons (pe_glob (v := .ref _) rfl G.NotAlike rfl) pa_nil))) (pa_cons (pe_callB (call_isP hp E.ec hz hf) rfl B.isinstance_ (by decide +kernel) (pa_cons (pv 0) (pa_cons (pe_glob (v := .ref _) rfl G.NoFault rfl) pa_nil))) (pa_cons (pe_callB (call_isP hp E.ec hz hf) rfl B.isinstance_ (by decide +kernel) (pa_cons (pv 0) (pa_cons (pe_glob (v := .ref _) rfl G.NoSeen rfl) pa_nil))) pa_nil)))))))
  (pss_cons (ps_set (i := 1) sc__law_word.nd rfl (Or.inl rfl) (pe_op op_cat (pv 1) (pe_lst (pa_cons (pe_callB (call_isP hp E.ec hz hf) rfl B.isinstance_ (by decide +kernel) (pa_cons (pv 0) (pa_cons (pe_glob (v := .ref _) rfl G.NoHands rfl) pa_nil))) (pa_cons (pe_callB (call_isP hp E.ec hz hf) rfl B.isinstance_ (by decide +kernel) (pa_cons (pv 0) (pa_cons (pe_glob (v := .ref _) rfl G.NoDeed rfl) pa_nil))) (pa_cons (pe_callB (call_isP hp E.ec hz hf) rfl B.isinstance_ (by decide +kernel) (pa_cons (pv 0) (pa_cons (pe_glob (v := .ref _) rfl G.NoLine rfl) pa_nil))) (pa_cons (pe_callB (call_isP hp E.ec hz hf) rfl B.isinstance_ (by decide +kernel) (pa_cons (pv 0) (pa_cons (pe_glob (v := .ref _) rfl G.NoText rfl) pa_nil))) pa_nil)))))))
  (pss_cons (ps_expr (pe_bm PySem.F.plainAttrs_list PySem.F.slot_list_append PySem.F.type_list_append mt_append (pv 1) (pa_cons (pe_callB (call_isP hp E.ec hz hf) rfl B.isinstance_ (by decide +kernel) (pa_cons (pv 0) (pa_cons (pe_glob (v := .ref _) rfl G.TooMany rfl) pa_nil))) pa_nil)))
  (pss_cons (ps_set (i := 2) sc__law_word.nd rfl (Or.inl rfl) (pe_lst (pa_cons pe_str (pa_cons pe_str (pa_cons pe_str (pa_cons pe_str (pa_cons pe_str (pa_cons pe_str (pa_cons pe_str (pa_cons pe_str (pa_cons pe_str (pa_cons pe_str (pa_cons pe_str (pa_cons pe_str pa_nil))))))))))))))
  (pss_cons (ps_set (i := 2) sc__law_word.nd rfl (Or.inl rfl) (pe_op op_cat (pv 2) (pe_lst (pa_cons pe_str (pa_cons pe_str (pa_cons pe_str (pa_cons pe_str (pa_cons pe_str (pa_cons pe_str (pa_cons pe_str (pa_cons pe_str (pa_cons pe_str pa_nil))))))))))))
  (pss_cons (ps_if (PW.pt (pw_or (pt_cmpR op_ne (pe_bm PySem.F.plainAttrs_list PySem.F.slot_list_count PySem.F.type_list_count mt_countF (pv 1) (pa_cons pe_bl pa_nil)) pe_int (nomark _)) (pw_or1 (pt_not (pt_val (pe_callB (call_isP hp E.ec hz hf) rfl B.isinstance_ (by decide +kernel) (pa_cons (pv 0) (pa_cons (pe_bltn (v := .ty "ValueError") (u := .type "ValueError") rfl B4.ValueError (by decide +kernel) rfl) pa_nil))))))))
  (pss_one (ps_ret (pe_tupF (pa_cons pe_str pa_nil))))
  pss_nil)
  (pss_cons (ps_set (i := 3) sc__law_word.nd rfl (Or.inl rfl) (pe_ix ix_list (pv 2) (pe_bm PySem.F.plainAttrs_list PySem.F.slot_list_index PySem.F.type_list_index mt_index (pv 1) (pa_cons pe_bl pa_nil)) (fun _ _ => rfl)))
  (pss_cons (ps_if (pt_cmpR op_eq (pv 3) pe_str (nomark _))
  (pss_one ps_never)
  pss_nil)
  (pss_one (ps_ret (pe_ifExp (pt_cmpR op_eq (pv 3) pe_str (nomark _)) pe_never (pe_tupF (pa_cons (pv 3) pa_nil)))))))))))))))), ?_⟩
    refine isQ_one E (j := 0) (by decide) rfl (isQ_one E (j := 1) (by decide) rfl (isQ_one E (j := 2) (by decide) rfl (isQ_one E (j := 3) (by decide) rfl ⟨by show 4 ≤ sizeLine; decide, fun L1 n1 => ?_⟩)))
    have s1 : Same H (upd H L1 (.lst [.bl (decide (0 = i)), .bl (decide (1 = i)), .bl (decide (2 = i)), .bl (decide (3 = i))])) := Same.new n1
    have e1 : upd H L1 (.lst [.bl (decide (0 = i)), .bl (decide (1 = i)), .bl (decide (2 = i)), .bl (decide (3 = i))]) L1 = some (.lst ((marks i).take 4)) := upd_same
    generalize upd H L1 (.lst [.bl (decide (0 = i)), .bl (decide (1 = i)), .bl (decide (2 = i)), .bl (decide (3 = i))]) = H1 at s1 e1 ⊢
    refine catQ4 (m := 4) E (by decide) rfl rfl e1 fun L2 H2 s2 e2 _ => ?_
    refine catQ4 (m := 8) E (by decide) rfl rfl e2 fun L3 H3 s3 e3 _ => ?_
    refine catQ4 (m := 12) E (by decide) rfl rfl e3 fun L4 H4 s4 e4 _ => ?_
    refine catQ4 (m := 16) E (by decide) rfl rfl e4 fun L5 H5 s5 e5 n5 => ?_
    have s05 : Same H H5 := s1.trans (s2.trans (s3.trans (s4.trans s5)))
    have n05 : H L5 = none := by
      cases e : H L5 with
      | none => rfl
      | some o => rw [(s1.trans (s2.trans (s3.trans s4))) _ _ e] at n5; cases n5
    refine ⟨.ref L5, rfl, .inl ⟨rfl, _, SqL.of e5⟩, isQ_one E (j := 20) (by decide) rfl ⟨L5, _, _, rfl, rfl, e5, ?_, ?_⟩⟩
    · rw [List.length_take]
      have : min 20 (marks i).length ≤ 20 := Nat.min_le_left ..
      exact small1000 (by omega)
    have e6 : upd H5 L5 (.lst ((marks i).take 20 ++ [.bl (decide (20 = i))])) L5 = some (.lst (marks i)) := by
      rw [upd_same, ← marksQ_take (by decide)]
      rfl
    have s06 : Same H (upd H5 L5 (.lst ((marks i).take 20 ++ [.bl (decide (20 = i))]))) := fun b o e => by
      rw [upd_ne (ne_of_none e n05)]
      exact s05 _ _ e
    generalize upd H5 L5 (.lst ((marks i).take 20 ++ [.bl (decide (20 = i))])) = H6 at e6 s06 ⊢
    refine ⟨by show 12 ≤ sizeLine; decide, fun W1 m1 => ?_⟩
    refine ⟨.ref W1, rfl, by show 9 ≤ sizeLine; decide, fun W2 m2 => ?_⟩
    refine ⟨W1, W2, _, _, rfl, rfl, Same.new m2 _ _ upd_same, upd_same, by show 21 ≤ sizeLine; decide, fun W3 m3 => ?_⟩
    generalize hE : upd (upd (upd H6 W1 _) W2 _) W3 _ = H9
    have s9 : Same H6 H9 := by
      rw [← hE]
      exact (Same.new m1).trans ((Same.new m2).trans (Same.new m3))
    have ew : H9 W3 = some (.lst words21) := by
      rw [← hE]
      exact upd_same
    clear hE
    have em := s9 _ _ e6
    refine ⟨.ref L5, rfl, .inl ⟨rfl, _, SqL.of em⟩, L5, marks i, .bl true, rfl, rfl, SqL.of em, rfl, marks_flat i, rfl, _, rfl, ?_⟩
    rw [marks_one i (by omega)]
    refine iteF ⟨.ref p.1, rfl, .ty "ValueError", .type "ValueError", _, rfl, fun u r => r, E.ve, _, rfl, iteF ?_⟩
    refine ⟨.ref W3, rfl, .ref L5, rfl, .inl ⟨rfl, _, SqL.of em⟩, L5, marks i, .bl true, i, .bl true, rfl, rfl, SqL.of em, rfl, marks_flat i, marks_at (by omega), rfl, fun m z hm e => marks_no hm e, W3, words21, (i : Int), _, rfl, rfl, SqL.of ew, atI_nat (words_at i (by omega)), ?_⟩
    obtain ⟨w1, w2⟩ := word_ne i hi
    refine ⟨.str (wordAt i), rfl, rfl, _, rfl, ?_⟩
    rw [show decide (V.str (wordAt i) = V.str "many") = false from decide_eq_false fun z => w1 (V.str.inj z)]
    refine iteF ⟨.str (wordAt i), rfl, rfl, _, rfl, ?_⟩
    rw [show decide (V.str (wordAt i) = V.str "text") = false from decide_eq_false fun z => w2 (V.str.inj z)]
    refine iteF ⟨.str (wordAt i), rfl, by show 1 ≤ sizeLine; decide, fun U o nU ho => q U o _ (s06.trans (s9.trans (Same.new nU))) ho ?_ upd_same⟩
    cases e : H U with
    | none => rfl
    | some u => rw [(s06.trans s9) _ _ e] at nU; cases nU
  · obtain ⟨dd, vs, jn, rfl, E, T1, fm, rfl, hx, hl, q⟩ := h
    refine ⟨_, (pss_cons (ps_set (i := 1) sc__law_word.nd rfl (Or.inl rfl) (pe_lst (pa_cons (pe_callB (call_isY hp E.ec hz hf) rfl B.isinstance_ (by decide +kernel) (pa_cons (pv 0) (pa_cons (pe_glob (v := .ref _) rfl G.NoBoard rfl) pa_nil))) (pa_cons (pe_callB (call_isY hp E.ec hz hf) rfl B.isinstance_ (by decide +kernel) (pa_cons (pv 0) (pa_cons (pe_glob (v := .ref _) rfl G.NoStand rfl) pa_nil))) (pa_cons (pe_callB (call_isY hp E.ec hz hf) rfl B.isinstance_ (by decide +kernel) (pa_cons (pv 0) (pa_cons (pe_glob (v := .ref _) rfl G.NoMoment rfl) pa_nil))) (pa_cons (pe_callB (call_isY hp E.ec hz hf) rfl B.isinstance_ (by decide +kernel) (pa_cons (pv 0) (pa_cons (pe_glob (v := .ref _) rfl G.NoWheel rfl) pa_nil))) pa_nil))))))
  (pss_cons (ps_set (i := 1) sc__law_word.nd rfl (Or.inl rfl) (pe_op op_cat (pv 1) (pe_lst (pa_cons (pe_callB (call_isY hp E.ec hz hf) rfl B.isinstance_ (by decide +kernel) (pa_cons (pv 0) (pa_cons (pe_glob (v := .ref _) rfl G.NotNow rfl) pa_nil))) (pa_cons (pe_callB (call_isY hp E.ec hz hf) rfl B.isinstance_ (by decide +kernel) (pa_cons (pv 0) (pa_cons (pe_glob (v := .ref _) rfl G.NoRow rfl) pa_nil))) (pa_cons (pe_callB (call_isY hp E.ec hz hf) rfl B.isinstance_ (by decide +kernel) (pa_cons (pv 0) (pa_cons (pe_glob (v := .ref _) rfl G.NoDrain rfl) pa_nil))) (pa_cons (pe_callB (call_isY hp E.ec hz hf) rfl B.isinstance_ (by decide +kernel) (pa_cons (pv 0) (pa_cons (pe_glob (v := .ref _) rfl G.NoDrops rfl) pa_nil))) pa_nil)))))))
  (pss_cons (ps_set (i := 1) sc__law_word.nd rfl (Or.inl rfl) (pe_op op_cat (pv 1) (pe_lst (pa_cons (pe_callB (call_isY hp E.ec hz hf) rfl B.isinstance_ (by decide +kernel) (pa_cons (pv 0) (pa_cons (pe_glob (v := .ref _) rfl G.NoAgain rfl) pa_nil))) (pa_cons (pe_callB (call_isY hp E.ec hz hf) rfl B.isinstance_ (by decide +kernel) (pa_cons (pv 0) (pa_cons (pe_glob (v := .ref _) rfl G.NoNumber rfl) pa_nil))) (pa_cons (pe_callB (call_isY hp E.ec hz hf) rfl B.isinstance_ (by decide +kernel) (pa_cons (pv 0) (pa_cons (pe_glob (v := .ref _) rfl G.NoLinks rfl) pa_nil))) (pa_cons (pe_callB (call_isY hp E.ec hz hf) rfl B.isinstance_ (by decide +kernel) (pa_cons (pv 0) (pa_cons (pe_glob (v := .ref _) rfl G.NoMouths rfl) pa_nil))) pa_nil)))))))
  (pss_cons (ps_set (i := 1) sc__law_word.nd rfl (Or.inl rfl) (pe_op op_cat (pv 1) (pe_lst (pa_cons (pe_callB (call_isY hp E.ec hz hf) rfl B.isinstance_ (by decide +kernel) (pa_cons (pv 0) (pa_cons (pe_glob (v := .ref _) rfl G.NoWord rfl) pa_nil))) (pa_cons (pe_callB (call_isY hp E.ec hz hf) rfl B.isinstance_ (by decide +kernel) (pa_cons (pv 0) (pa_cons (pe_glob (v := .ref _) rfl G.NotAlike rfl) pa_nil))) (pa_cons (pe_callB (call_isY hp E.ec hz hf) rfl B.isinstance_ (by decide +kernel) (pa_cons (pv 0) (pa_cons (pe_glob (v := .ref _) rfl G.NoFault rfl) pa_nil))) (pa_cons (pe_callB (call_isY hp E.ec hz hf) rfl B.isinstance_ (by decide +kernel) (pa_cons (pv 0) (pa_cons (pe_glob (v := .ref _) rfl G.NoSeen rfl) pa_nil))) pa_nil)))))))
  (pss_cons (ps_set (i := 1) sc__law_word.nd rfl (Or.inl rfl) (pe_op op_cat (pv 1) (pe_lst (pa_cons (pe_callB (call_isY hp E.ec hz hf) rfl B.isinstance_ (by decide +kernel) (pa_cons (pv 0) (pa_cons (pe_glob (v := .ref _) rfl G.NoHands rfl) pa_nil))) (pa_cons (pe_callB (call_isY hp E.ec hz hf) rfl B.isinstance_ (by decide +kernel) (pa_cons (pv 0) (pa_cons (pe_glob (v := .ref _) rfl G.NoDeed rfl) pa_nil))) (pa_cons (pe_callB (call_isY hp E.ec hz hf) rfl B.isinstance_ (by decide +kernel) (pa_cons (pv 0) (pa_cons (pe_glob (v := .ref _) rfl G.NoLine rfl) pa_nil))) (pa_cons (pe_callB (call_isY hp E.ec hz hf) rfl B.isinstance_ (by decide +kernel) (pa_cons (pv 0) (pa_cons (pe_glob (v := .ref _) rfl G.NoText rfl) pa_nil))) pa_nil)))))))
  (pss_cons (ps_expr (pe_bm PySem.F.plainAttrs_list PySem.F.slot_list_append PySem.F.type_list_append mt_append (pv 1) (pa_cons (pe_callB (call_isY hp E.ec hz hf) rfl B.isinstance_ (by decide +kernel) (pa_cons (pv 0) (pa_cons (pe_glob (v := .ref _) rfl G.TooMany rfl) pa_nil))) pa_nil)))
  (pss_cons (ps_set (i := 2) sc__law_word.nd rfl (Or.inl rfl) (pe_lst (pa_cons pe_str (pa_cons pe_str (pa_cons pe_str (pa_cons pe_str (pa_cons pe_str (pa_cons pe_str (pa_cons pe_str (pa_cons pe_str (pa_cons pe_str (pa_cons pe_str (pa_cons pe_str (pa_cons pe_str pa_nil))))))))))))))
  (pss_cons (ps_set (i := 2) sc__law_word.nd rfl (Or.inl rfl) (pe_op op_cat (pv 2) (pe_lst (pa_cons pe_str (pa_cons pe_str (pa_cons pe_str (pa_cons pe_str (pa_cons pe_str (pa_cons pe_str (pa_cons pe_str (pa_cons pe_str (pa_cons pe_str pa_nil))))))))))))
  (pss_cons (ps_if (PW.pt (pw_or (pt_cmpR op_ne (pe_bm PySem.F.plainAttrs_list PySem.F.slot_list_count PySem.F.type_list_count mt_countF (pv 1) (pa_cons pe_bl pa_nil)) pe_int (nomark _)) (pw_or1 (pt_not (pt_val (pe_callB (call_isY hp E.ec hz hf) rfl B.isinstance_ (by decide +kernel) (pa_cons (pv 0) (pa_cons (pe_bltn (v := .ty "ValueError") (u := .type "ValueError") rfl B4.ValueError (by decide +kernel) rfl) pa_nil))))))))
  (pss_one (ps_ret (pe_tupF (pa_cons pe_str pa_nil))))
  pss_nil)
  (pss_cons (ps_set (i := 3) sc__law_word.nd rfl (Or.inl rfl) (pe_ix ix_list (pv 2) (pe_bm PySem.F.plainAttrs_list PySem.F.slot_list_index PySem.F.type_list_index mt_index (pv 1) (pa_cons pe_bl pa_nil)) (fun _ _ => rfl)))
  (pss_cons (ps_if (pt_cmpR op_eq (pv 3) pe_str (nomark _))
  (pss_one ps_never)
  pss_nil)
  (pss_one (ps_ret (pe_ifExp (pt_cmpR op_eq (pv 3) pe_str (nomark _)) (pe_tupF (pa_cons (pv 3) (pa_cons (pe_xfP hp T1 fm hz hf (pv 0)) pa_nil))) (pe_tupF (pa_cons (pv 3) pa_nil)))))))))))))))), ?_⟩
    refine isX_one E (j := 0) (by decide) rfl ⟨_, hx⟩ (isX_one E (j := 1) (by decide) rfl ⟨_, hx⟩ (isX_one E (j := 2) (by decide) rfl ⟨_, hx⟩ (isX_one E (j := 3) (by decide) rfl ⟨_, hx⟩ ⟨by show 4 ≤ sizeLine; decide, fun L1 n1 => ?_⟩)))
    have s1 : Same H (upd H L1 (.lst [.bl (decide (0 = 19)), .bl (decide (1 = 19)), .bl (decide (2 = 19)), .bl (decide (3 = 19))])) := Same.new n1
    have e1 : upd H L1 (.lst [.bl (decide (0 = 19)), .bl (decide (1 = 19)), .bl (decide (2 = 19)), .bl (decide (3 = 19))]) L1 = some (.lst ((marks 19).take 4)) := upd_same
    generalize upd H L1 (.lst [.bl (decide (0 = 19)), .bl (decide (1 = 19)), .bl (decide (2 = 19)), .bl (decide (3 = 19))]) = H1 at s1 e1 ⊢
    refine catX4 (m := 4) E (by decide) rfl rfl ⟨_, s1 _ _ hx⟩ e1 fun L2 H2 s2 e2 _ => ?_
    refine catX4 (m := 8) E (by decide) rfl rfl ⟨_, (s1.trans s2) _ _ hx⟩ e2 fun L3 H3 s3 e3 _ => ?_
    refine catX4 (m := 12) E (by decide) rfl rfl ⟨_, (s1.trans (s2.trans s3)) _ _ hx⟩ e3 fun L4 H4 s4 e4 _ => ?_
    refine catX4 (m := 16) E (by decide) rfl rfl ⟨_, (s1.trans (s2.trans (s3.trans s4))) _ _ hx⟩ e4 fun L5 H5 s5 e5 n5 => ?_
    have s05 : Same H H5 := s1.trans (s2.trans (s3.trans (s4.trans s5)))
    have n05 : H L5 = none := by
      cases e : H L5 with
      | none => rfl
      | some o => rw [(s1.trans (s2.trans (s3.trans s4))) _ _ e] at n5; cases n5
    refine ⟨.ref L5, rfl, .inl ⟨rfl, _, SqL.of e5⟩, isX_one E (j := 20) (by decide) rfl ⟨_, s05 _ _ hx⟩ ⟨L5, _, _, rfl, rfl, e5, ?_, ?_⟩⟩
    · rw [List.length_take]
      have : min 20 (marks 19).length ≤ 20 := Nat.min_le_left ..
      exact small1000 (by omega)
    have e6 : upd H5 L5 (.lst ((marks 19).take 20 ++ [.bl (decide (20 = 19))])) L5 = some (.lst (marks 19)) := by
      rw [upd_same, ← marksQ_take (by decide)]
      rfl
    have s06 : Same H (upd H5 L5 (.lst ((marks 19).take 20 ++ [.bl (decide (20 = 19))]))) := fun b o e => by
      rw [upd_ne (ne_of_none e n05)]
      exact s05 _ _ e
    generalize upd H5 L5 (.lst ((marks 19).take 20 ++ [.bl (decide (20 = 19))])) = H6 at e6 s06 ⊢
    refine ⟨by show 12 ≤ sizeLine; decide, fun W1 m1 => ?_⟩
    refine ⟨.ref W1, rfl, by show 9 ≤ sizeLine; decide, fun W2 m2 => ?_⟩
    refine ⟨W1, W2, _, _, rfl, rfl, Same.new m2 _ _ upd_same, upd_same, by show 21 ≤ sizeLine; decide, fun W3 m3 => ?_⟩
    generalize hE : upd (upd (upd H6 W1 _) W2 _) W3 _ = H9
    have s9 : Same H6 H9 := by
      rw [← hE]
      exact (Same.new m1).trans ((Same.new m2).trans (Same.new m3))
    have ew : H9 W3 = some (.lst words21) := by
      rw [← hE]
      exact upd_same
    clear hE
    have em := s9 _ _ e6
    refine ⟨.ref L5, rfl, .inl ⟨rfl, _, SqL.of em⟩, L5, marks 19, .bl true, rfl, rfl, SqL.of em, rfl, marks_flat 19, rfl, _, rfl, ?_⟩
    rw [marks_one 19 (by omega)]
    refine iteF ⟨.ref p.1, rfl, ⟨_, s9 _ _ (s06 _ _ hx)⟩, .ty "ValueError", .type "ValueError", _, rfl, fun u r => r, E.ve, _, rfl, iteF ?_⟩
    refine ⟨.ref W3, rfl, .ref L5, rfl, .inl ⟨rfl, _, SqL.of em⟩, L5, marks 19, .bl true, 19, .bl true, rfl, rfl, SqL.of em, rfl, marks_flat 19, marks_at (by omega), rfl, fun m z hm e => marks_no hm e, W3, words21, ((19 : Nat) : Int), _, rfl, rfl, SqL.of ew, atI_nat (words_at 19 (by omega)), ?_⟩
    refine ⟨.str (wordAt 19), rfl, rfl, _, rfl, ?_⟩
    rw [show decide (V.str (wordAt 19) = V.str "many") = false from by decide +kernel]
    refine iteF ⟨.str (wordAt 19), rfl, rfl, _, rfl, ?_⟩
    rw [show decide (V.str (wordAt 19) = V.str "text") = true from by decide +kernel]
    refine iteT' rfl ⟨.str (wordAt 19), rfl, .ref p.1, rfl, rfl, rfl, dd, vs, .int jn, rfl, (s06.trans s9) _ _ hx, hl, by show 2 ≤ sizeLine; decide, fun U o nU ho => q U o _ (s06.trans (s9.trans (Same.new nU))) ho ?_ upd_same⟩
    cases e : H U with
    | none => rfl
    | some u => rw [(s06.trans s9) _ _ e] at nU; cases nU
theorem pe__law_said {X : Cx} {T : List (Addr × Str)} {c Pt CM : Addr} {k : Nat} {C : Nat → Addr} {params : Arguments} {body : Expr} {scope : Scope} {t : XK → TE} {p lpos pos : Pos} (D : HX.Def X.K X.mg "_law_said" s__law_said ["_law_call"]) (cw : CalE X.prog X.w X.K X.mg X.base k "_law_word" "_law_e" (spWordT X.K C)) (G : Cls21 X.mg C) (B : Bi X.mg) 
    (hM : X.mg "MarbleError" = some (.ref CM)) (TB : LamX.TabB X.base X.mg c Pt) (hcode : X.env.code = .ref c) (hmT : (Pt, X.env.qual ++ "<lambda>") ∈ T) (hu : ∀ p ∈ T, p.1 = Pt → p.2 = X.env.qual ++ "<lambda>") (hr : Room (k + 2) X.A) (hg : Gl X "_law_said") (L : LamX.LamS X.env.scope scope) (hdef : defaultsOf params X.env = ([], []))
    (hbind : ∀ (q : Str) (cl : List (Str × Addr)) (pm cv ctv : Value), bindArgs (PySem.W.kla_fn "<lambda>" q params body scope cl pm cv ctv) ⟨[], []⟩ = pure [])
    (hbody : ∀ (A : Around) (outer : List Env) (s : Shared) (H : Hp) (E : XK) (f c' : Addr), Room k (A.deeper (LamX.lamEnv X scope s.heap.objs.size f c')) → PE (LamX.lamCx X A outer s H E scope f c') body (t E)) :
    PE X (.Call (.Name "_law_said" p) [.Lambda params body scope lpos] [] pos) (LamX.tLam T (TSaidF X.K CM "told" (spWordT X.K C)) t) := by
  obtain ⟨g, fd, F, hm, hb⟩ := D
  obtain ⟨oc, od, kV, doc, pm, an, cdv, ct, osl, rfl, lk, hcd⟩ := F.ex
  exact LamX.pe_lamcall hg hm F.kp lk hcd hb sc__law_said rfl (.inl rfl) (said_givesH (X := X) (a := "_law_call") (n := "_law_e") (e := "MarbleError") (k := k) (hr.mono (by omega)) rfl hM (by decide) rfl (fun Y ea oe cls d pn e1 e2 e3 e4 e5 e6 e7 hrm hz hf => pe_saidT (a := "_law_call") (n := "_law_e") (wd := "_law_word") cw e1 e2 e3 e4 e5 e6 e7 hrm rfl rfl hz hf)) TB hcode hmT hu hr L hdef hbind hbody
theorem ok__law_pen (T : HX.Def S.K mg "_law_pen" s__law_pen ["_law_cell"]) (B : Bi mg) : CalQ S P w mg base (k + 1) "_law_pen" ["_law_cell"] m_law_pen_579b16 :=
  (Def.okQ T sc__law_pen (fun f cdv A outer s H E hr tk hp =>
  (qss_one (qs_ret (qe_new (qa_cons (qe_callB (S := S) (call_max2 rfl) cq_max2 rfl B.max_ (by decide +kernel) (qa_cons qe_int (qa_cons (qe_bin (S := S) op_sub oq_sub (qe_var (pv 0)) (qe_bin (S := S) op_pow oq_pow qe_int qe_int)) qa_nil))) (qa_cons (qe_bin (S := S) op_mod oq_mod (qe_var (pv 0)) qe_int) (qa_cons qe_int qa_nil))))))))
theorem ok__law_text (T : HX.Def S.K mg "_law_text" s__law_text ["_law_board_here"]) (B6 : Bi6 mg) : CalQ S P w mg base (k + 1) "_law_text" ["_law_board_here"] m_law_text_24ce07 :=
  CalQ.trim (Def.okQ T sc__law_text (fun f cdv A outer s H E hr tk hp =>
  (qss_cons (qs_set (i := 1) sc__law_text.nd rfl (Or.inl rfl) (qe_new (qa_cons (qe_bin (S := S) op_addA oq_add qe_str (qe_callTy (S := S) call_str_int cq_str rfl B6.str_ (by decide +kernel) (qa_cons (qe_ix rfl (qe_var (pv 0)) qe_int) qa_nil))) qa_nil)))
  (qss_cons (qs_for (t := (.name 2)) hp rfl (qi_seq rfl (qe_ix rfl (qe_var (pv 0)) qe_int)) (pg_name (i := 2) sc__law_text.nd rfl (Or.inl rfl))
  (qss_cons (qs_set (i := 3) sc__law_text.nd rfl (Or.inl rfl) (qe_new (qa_cons qe_str qa_nil)))
  (qss_cons (qs_for (t := (.name 4)) hp rfl (qi_seq rfl (qe_var (pv 2))) (pg_name (i := 4) sc__law_text.nd rfl (Or.inl rfl))
  (qss_one (qs_expr (qe_bm (S := S) rfl PySem.F.plainAttrs_list PySem.F.slot_list_append PySem.F.type_list_append mt_append mq_append (qe_var (pv 3)) (qa_cons (qe_if (qt_cmp (S := S) (op_neD (hu64 hr)) oq_ne (qe_var (pv 4)) (qe_tup qa_nil) (nomark _)) (qe_m1 (S := S) PySem.F.slot_str_join PySem.F.type_str_join mt_join mq_join qe_str (qe_lc (own := [("_law_end", 5)]) (t := (.name 5)) rfl sc__law_text.nd (qi_seq rfl (qe_var (pv 4))) (blkOk_by (N := ["_law_board_here", "_law_lines", "_law_wheel", "_law_words", "_law_step", "_law_end"]) (sc := (defScope s__law_text)) (by decide +kernel)) (fun _ _ _ _ _ => (pg_name (i := 5) sc__law_text.nd rfl (Or.inl rfl))) (fun _ _ _ _ _ => qts_nil) (fun _ _ _ _ _ => (qe_callTy (S := S) call_str_int cq_str rfl B6.str_ (by decide +kernel) (qa_cons (qe_var (pv 5)) qa_nil))))) qe_str) qa_nil)))))
  (qss_one (qs_expr (qe_bm (S := S) rfl PySem.F.plainAttrs_list PySem.F.slot_list_append PySem.F.type_list_append mt_append mq_append (qe_var (pv 1)) (qa_cons (qe_m1 (S := S) PySem.F.slot_str_join PySem.F.type_str_join mt_join mq_join qe_str (qe_var (pv 3))) qa_nil)))))))
  (qss_one (qs_ret (qe_bin (S := S) op_addA oq_add (qe_m1 (S := S) PySem.F.slot_str_join PySem.F.type_str_join mt_join mq_join qe_str (qe_var (pv 1))) qe_str)))))))
theorem ok__law_cell_at (T : HX.Def S.K mg "_law_cell_at" s__law_cell_at ["_law_script", "_law_k"]) (B : Bi mg) : CalQ S P w mg base (k + 1) "_law_cell_at" ["_law_script", "_law_k"] m_law_cell_at_e50a56 :=
  CalQ.trim (Def.okQ T sc__law_cell_at (fun f cdv A outer s H E hr tk hp =>
  (qss_cons (qs_if (qt_cmp (S := S) op_lt (oq_cmp cLt) (qe_var (pv 1)) (qe_callB (S := S) call_lenA cq_len rfl B.len_ (by decide +kernel) (qa_cons (qe_var (pv 0)) qa_nil)) (nomark _))
  (qss_one (qs_ret (qe_ix rfl (qe_var (pv 0)) (qe_var (pv 1)))))
  qss_nil)
  (qss_one (qs_ret qe_int)))))
theorem ok__law_draw (T : HX.Def S.K mg "_law_draw" s__law_draw ["_law_pen_here", "_law_many"])  : CalQ S P w mg base (k + 1) "_law_draw" ["_law_pen_here", "_law_many"] m_law_draw_321cf4 :=
  CalQ.trim (Def.okQ T sc__law_draw (fun f cdv A outer s H E hr tk hp =>
  (qss_cons (qs_if (qt_cmp (S := S) op_gt (oq_cmp cGt) (qe_ix rfl (qe_var (pv 0)) qe_int) qe_int (nomark _))
  (qss_cons (qs_set (i := 2) sc__law_draw.nd rfl (Or.inl rfl) (qe_bin (S := S) op_mod oq_mod (qe_ix rfl (qe_var (pv 0)) qe_int) (qe_var (pv 1))))
  (qss_cons (qs_setIx (qe_var (pv 0)) qe_int (qe_bin (S := S) op_fdivW oq_fdiv (qe_ix rfl (qe_var (pv 0)) qe_int) (qe_var (pv 1))))
  (qss_one (qs_ret (qe_var (pv 2))))))
  qss_nil)
  (qss_cons (qs_setIx (qe_var (pv 0)) qe_int (qe_bin (S := S) op_addA oq_add (qe_ix rfl (qe_var (pv 0)) qe_int) qe_int))
  (qss_cons (qs_set (i := 3) sc__law_draw.nd rfl (Or.inl rfl) (qe_bin (S := S) op_mod oq_mod (qe_bin (S := S) op_mulA oq_mul (qe_bin (S := S) op_addA oq_add (qe_ix rfl (qe_var (pv 0)) qe_int) (qe_bin (S := S) op_mulA oq_mul qe_int (qe_ix rfl (qe_var (pv 0)) qe_int))) (qe_bin (S := S) op_addA oq_add qe_int (qe_bin (S := S) op_mulA oq_mul qe_int (qe_ix rfl (qe_var (pv 0)) qe_int)))) qe_int))
  (qss_cons (qs_set (i := 3) sc__law_draw.nd rfl (Or.inl rfl) (qe_bin (S := S) op_mod oq_mod (qe_bin (S := S) op_addA oq_add (qe_bin (S := S) op_addA oq_add (qe_bin (S := S) op_mulA oq_mul (qe_var (pv 3)) (qe_var (pv 3))) (qe_bin (S := S) op_mulA oq_mul qe_int (qe_ix rfl (qe_var (pv 0)) qe_int))) qe_int) qe_int))
  (qss_one (qs_ret (qe_bin (S := S) op_mod oq_mod (qe_bin (S := S) op_fdivW oq_fdiv (qe_bin (S := S) op_mod oq_mod (qe_bin (S := S) op_mulA oq_mul (qe_var (pv 3)) qe_int) qe_int) qe_int) (qe_var (pv 1)))))))))))
theorem ok__law_board (T : HX.Def S.K mg "_law_board" s__law_board ["_law_pen_here", "_law_most"]) (B : Bi mg) (c__law_draw : CalQ S P w mg base k "_law_draw" ["_law_pen_here", "_law_many"] m_law_draw_321cf4) : CalQ S P w mg base (k + 1) "_law_board" ["_law_pen_here", "_law_most"] m_law_board_049704 :=
  CalQ.trim (Def.okQ T sc__law_board (fun f cdv A outer s H E hr tk hp =>
  (qss_cons (qs_par (i := 2) (j := 3) (by rfl) sc__law_board.nd rfl rfl (by decide) rfl rfl (qa_cons (qe_bin (S := S) op_addA oq_add qe_int (qe_call tk rfl c__law_draw hr rfl (qa_cons (qe_var (pv 0)) (qa_cons (qe_var (pv 1)) qa_nil)) (len_cons (len_cons len_nil)))) (qa_cons (qe_call tk rfl c__law_draw hr rfl (qa_cons (qe_var (pv 0)) (qa_cons qe_int qa_nil)) (len_cons (len_cons len_nil))) qa_nil)) (by rfl))
  (qss_cons (qs_set (i := 4) sc__law_board.nd rfl (Or.inl rfl) (qe_new qa_nil))
  (qss_cons (qs_for (t := (.name 5)) hp rfl (qi_range1 rfl B.range_ (qa_cons (qe_var (pv 2)) qa_nil)) (pg_name (i := 5) sc__law_board.nd rfl (Or.inl rfl))
  (qss_cons (qs_set (i := 6) sc__law_board.nd rfl (Or.inl rfl) (qe_new qa_nil))
  (qss_cons (qs_for (t := (.name 7)) hp rfl (qi_range1 rfl B.range_ (qa_cons (qe_bin (S := S) op_addA oq_add qe_int (qe_call tk rfl c__law_draw hr rfl (qa_cons (qe_var (pv 0)) (qa_cons qe_int qa_nil)) (len_cons (len_cons len_nil)))) qa_nil)) (pg_name (i := 7) sc__law_board.nd rfl (Or.inl rfl))
  (qss_cons (qs_set (i := 8) sc__law_board.nd rfl (Or.inl rfl) (qe_new qa_nil))
  (qss_cons (qs_for (t := (.name 9)) hp rfl (qi_range1 rfl B.range_ (qa_cons (qe_ix rfl (qe_lst (qa_cons qe_int (qa_cons qe_int (qa_cons qe_int (qa_cons qe_int (qa_cons qe_int qa_nil)))))) (qe_call tk rfl c__law_draw hr rfl (qa_cons (qe_var (pv 0)) (qa_cons qe_int qa_nil)) (len_cons (len_cons len_nil)))) qa_nil)) (pg_name (i := 9) sc__law_board.nd rfl (Or.inl rfl))
  (qss_cons (qs_set (i := 10) sc__law_board.nd rfl (Or.inl rfl) (qe_if (qt_cmp (S := S) op_gt (oq_cmp cGt) (qe_call tk rfl c__law_draw hr rfl (qa_cons (qe_var (pv 0)) (qa_cons qe_int qa_nil)) (len_cons (len_cons len_nil))) qe_int (nomark _)) (qe_bin (S := S) op_addA oq_add (qe_bin (S := S) op_addA oq_add (qe_var (pv 5)) qe_int) (qe_call tk rfl c__law_draw hr rfl (qa_cons (qe_var (pv 0)) (qa_cons qe_int qa_nil)) (len_cons (len_cons len_nil)))) (qe_call tk rfl c__law_draw hr rfl (qa_cons (qe_var (pv 0)) (qa_cons (qe_bin (S := S) op_addA oq_add (qe_var (pv 2)) (qe_var (pv 3))) qa_nil)) (len_cons (len_cons len_nil)))))
  (qss_one (qs_expr (qe_bm (S := S) rfl PySem.F.plainAttrs_list PySem.F.slot_list_append PySem.F.type_list_append mt_append mq_append (qe_var (pv 8)) (qa_cons (qe_callB (S := S) (call_min2 rfl) cq_min2 rfl B.min_ (by decide +kernel) (qa_cons (qe_var (pv 10)) (qa_cons (qe_callB (S := S) (call_max2 rfl) cq_max2 rfl B.max_ (by decide +kernel) (qa_cons qe_int (qa_cons (qe_bin (S := S) op_sub oq_sub (qe_bin (S := S) op_addA oq_add (qe_var (pv 2)) (qe_var (pv 3))) qe_int) qa_nil))) qa_nil))) qa_nil))))))
  (qss_one (qs_expr (qe_bm (S := S) rfl PySem.F.plainAttrs_list PySem.F.slot_list_append PySem.F.type_list_append mt_append mq_append (qe_var (pv 6)) (qa_cons (qe_callTy (S := S) call_tupleA cq_tuple rfl B.tuple_ (by decide +kernel) (qa_cons (qe_var (pv 8)) qa_nil)) qa_nil)))))))
  (qss_one (qs_expr (qe_bm (S := S) rfl PySem.F.plainAttrs_list PySem.F.slot_list_append PySem.F.type_list_append mt_append mq_append (qe_var (pv 4)) (qa_cons (qe_callTy (S := S) call_tupleA cq_tuple rfl B.tuple_ (by decide +kernel) (qa_cons (qe_var (pv 6)) qa_nil)) qa_nil)))))))
  (qss_one (qs_ret (qe_tup (qa_cons (qe_callTy (S := S) call_tupleA cq_tuple rfl B.tuple_ (by decide +kernel) (qa_cons (qe_var (pv 4)) qa_nil)) (qa_cons (qe_var (pv 3)) qa_nil))))))))))
theorem ok__law_figures (T : HX.Def S.K mg "_law_figures" s__law_figures ["_law_word_here"]) (B : Bi mg) : CalQ S P w mg base (k + 1) "_law_figures" ["_law_word_here"] m_law_figures_264fdc :=
  CalQ.trim (Def.okQ T sc__law_figures (fun f cdv A outer s H E hr tk hp =>
  (qss_cons (qs_if (qt_pw (qw_or (qt_not (qt_chain op_le op_le (flat_cmp cLe) (oq_cmp cLe) (oq_cmp cLe) qe_int (qe_callB (S := S) call_lenA cq_len rfl B.len_ (by decide +kernel) (qa_cons (qe_var (pv 0)) qa_nil)) qe_int)) (qw_or1 (qt_cmp (S := S) (op_neD (hu64 hr)) oq_ne (qe_lc (own := [("_law_sign", 1)]) (t := (.name 1)) rfl sc__law_figures.nd (qi_str (qe_var (pv 0))) (blkOk_by (N := ["_law_word_here", "_law_sign"]) (sc := (defScope s__law_figures)) (by decide +kernel)) (fun _ _ _ _ _ => (pg_name (i := 1) sc__law_figures.nd rfl (Or.inl rfl))) (fun _ _ _ _ _ => (qts_one (qt_cmp (S := S) op_notIn_sign oq_ninS (qe_var (pv 1)) qe_str rfl))) (fun _ _ _ _ _ => (qe_var (pv 1)))) (qe_lst qa_nil) (nomark _)))))
  (qss_one (qs_ret qe_non))
  qss_nil)
  (qss_one (qs_ret (qe_if (qt_pw (qw_or (qt_cmp (S := S) (op_eqD (hu64 hr)) oq_eq (qe_var (pv 0)) qe_str (nomark _)) (qw_or1 (qt_cmp (S := S) (op_neD (hu64 hr)) oq_ne (qe_ix rfl (qe_var (pv 0)) qe_int) qe_str (nomark _))))) (qe_callTy (S := S) call_intA cq_intT rfl B.int_ (by decide +kernel) (qa_cons (qe_var (pv 0)) qa_nil)) qe_non))))))
theorem ok__law_line_in (T : HX.Def S.K mg "_law_line_in" s__law_line_in ["_law_line", "_law_number"]) (B : Bi mg) (c__law_figures : CalQ S P w mg base k "_law_figures" ["_law_word_here"] m_law_figures_264fdc) : CalQ S P w mg base (k + 1) "_law_line_in" ["_law_line", "_law_number"] m_law_line_in_a53ef1 :=
  CalQ.trim (Def.okQ T sc__law_line_in (fun f cdv A outer s H E hr tk hp =>
  (qss_cons (qs_set (i := 2) sc__law_line_in.nd rfl (Or.inl rfl) (qe_m1 (S := S) PySem.F.slot_str_split PySem.F.type_str_split mt_split mq_split (qe_var (pv 0)) qe_str))
  (qss_cons (qs_if (qt_cmp (S := S) (op_eqD (hu64 hr)) oq_eq (qe_var (pv 1)) qe_int (nomark _))
  (qss_one (qs_ret (qe_if (qt_pw (qw_and (qt_cmp (S := S) (op_eqD (hu64 hr)) oq_eq (qe_callB (S := S) call_lenA cq_len rfl B.len_ (by decide +kernel) (qa_cons (qe_var (pv 2)) qa_nil)) qe_int (nomark _)) (qw_and1 (qt_cmp (S := S) (op_eqD (hu64 hr)) oq_eq (qe_ix rfl (qe_var (pv 2)) qe_int) qe_str (nomark _))))) (qe_call tk rfl c__law_figures hr rfl (qa_cons (qe_ix rfl (qe_var (pv 2)) qe_int) qa_nil) (len_cons len_nil)) qe_non)))
  qss_nil)
  (qss_cons (qs_if (qt_pw (qw_or (qt_cmp (S := S) (op_neD (hu64 hr)) oq_ne (qe_ix rfl (qe_var (pv 2)) qe_int) qe_str (nomark _)) (qw_or1 (qt_cmp (S := S) op_lt (oq_cmp cLt) (qe_callB (S := S) call_lenA cq_len rfl B.len_ (by decide +kernel) (qa_cons (qe_var (pv 2)) qa_nil)) qe_int (nomark _)))))
  (qss_one (qs_ret qe_non))
  qss_nil)
  (qss_cons (qs_set (i := 3) sc__law_line_in.nd rfl (Or.inl rfl) (qe_new qa_nil))
  (qss_cons (qs_for (t := (.name 4)) hp rfl (qi_seq rfl (qe_sl rfl (qe_var (pv 2)) (qo_some qe_int) qo_none)) (pg_name (i := 4) sc__law_line_in.nd rfl (Or.inl rfl))
  (qss_cons (qs_set (i := 5) sc__law_line_in.nd rfl (Or.inl rfl) (qe_if (qt_cmp (S := S) (op_eqD (hu64 hr)) oq_eq (qe_var (pv 4)) qe_str (nomark _)) (qe_lst qa_nil) (qe_lc (own := [("_law_one", 6)]) (t := (.name 6)) rfl sc__law_line_in.nd (qi_seq rfl (qe_m1 (S := S) PySem.F.slot_str_split PySem.F.type_str_split mt_split mq_split (qe_var (pv 4)) qe_str)) (blkOk_by (N := ["_law_line", "_law_number", "_law_words", "_law_steps", "_law_word_here", "_law_ends", "_law_one"]) (sc := (defScope s__law_line_in)) (by decide +kernel)) (fun _ _ _ _ _ => (pg_name (i := 6) sc__law_line_in.nd rfl (Or.inl rfl))) (fun _ _ _ _ _ => qts_nil) (fun _ _ _ _ _ => (qe_call LamX.takes0 rfl c__law_figures hr rfl (qa_cons (qe_var (pv 6)) qa_nil) (len_cons len_nil))))))
  (qss_cons (qs_if (qt_cmp (S := S) (op_inD (hu65 hr)) oq_inD qe_non (qe_var (pv 5)) rfl)
  (qss_one (qs_ret qe_non))
  qss_nil)
  (qss_one (qs_expr (qe_bm (S := S) rfl PySem.F.plainAttrs_list PySem.F.slot_list_append PySem.F.type_list_append mt_append mq_append (qe_var (pv 3)) (qa_cons (qe_callTy (S := S) call_tupleA cq_tuple rfl B.tuple_ (by decide +kernel) (qa_cons (qe_var (pv 5)) qa_nil)) qa_nil)))))))
  (qss_one (qs_ret (qe_callTy (S := S) call_tupleA cq_tuple rfl B.tuple_ (by decide +kernel) (qa_cons (qe_var (pv 3)) qa_nil)))))))))))
theorem ok__law_whole (T : HX.Def S.K mg "_law_whole" s__law_whole ["_law_thing"]) (B : Bi mg) : CalQ S P w mg base (k + 1) "_law_whole" ["_law_thing"] m_is_whole :=
  CalQ.trim (Def.okQ T sc__law_whole (fun f cdv A outer s H E hr tk hp =>
  (qss_one (qs_ret (qe_and (qe_callB (S := S) call_isi (cq_isi .int (by decide)) rfl B.isinstance_ (by decide +kernel) (qa_cons (qe_var (pv 0)) (qa_cons (qe_adr (pe_bltn (v := .ty "int") (u := .type "int") rfl B.int_ (by decide +kernel) rfl)) qa_nil))) (qe_one (qe_not (qe_callB (S := S) call_isi (cq_isi .bool (by decide)) rfl B.isinstance_ (by decide +kernel) (qa_cons (qe_var (pv 0)) (qa_cons (qe_adr (pe_bltn (v := .ty "bool") (u := .type "bool") rfl B.bool_ (by decide +kernel) rfl)) qa_nil))))))))))
theorem ok__law_within (T : HX.Def S.K mg "_law_within" s__law_within ["_law_thing", "_law_low", "_law_high"]) (c__law_whole : CalQ S P w mg base k "_law_whole" ["_law_thing"] m_is_whole) : CalQ S P w mg base (k + 1) "_law_within" ["_law_thing", "_law_low", "_law_high"] m_is_within :=
  CalQ.trim (Def.okQ T sc__law_within (fun f cdv A outer s H E hr tk hp =>
  (qss_one (qs_ret (qe_and (qe_call tk rfl c__law_whole hr rfl (qa_cons (qe_var (pv 0)) qa_nil) (len_cons len_nil)) (qe_one (qe_chain op_le op_le (flat_cmp cLe) (oq_cmp cLe) (oq_cmp cLe) (qe_var (pv 1)) (qe_var (pv 0)) (qe_var (pv 2)))))))))
theorem ok__law_is_wheel (T : HX.Def S.K mg "_law_is_wheel" s__law_is_wheel ["_law_thing", "_law_ends"]) (B : Bi mg) (c__law_within : CalQ S P w mg base k "_law_within" ["_law_thing", "_law_low", "_law_high"] m_is_within) : CalQ S P w mg base (k + 1) "_law_is_wheel" ["_law_thing", "_law_ends"] m_law_is_wheel_65c825 :=
  CalQ.trim (Def.okQ T sc__law_is_wheel (fun f cdv A outer s H E hr tk hp =>
  (qss_cons (qs_if (qt_pw (qw_or (qt_not (qt_val (qe_callB (S := S) call_isi (cq_isi .tuple (by decide)) rfl B.isinstance_ (by decide +kernel) (qa_cons (qe_var (pv 0)) (qa_cons (qe_adr (pe_bltn (v := .ty "tuple") (u := .type "tuple") rfl B.tuple_ (by decide +kernel) rfl)) qa_nil))))) (qw_or1 (qt_not (qt_chain op_le op_le (flat_cmp cLe) (oq_cmp cLe) (oq_cmp cLe) qe_int (qe_callB (S := S) call_lenA cq_len rfl B.len_ (by decide +kernel) (qa_cons (qe_var (pv 0)) qa_nil)) qe_int)))))
  (qss_one (qs_ret qe_bl))
  qss_nil)
  (qss_cons (qs_for (t := (.name 2)) hp rfl (qi_seq rfl (qe_var (pv 0))) (pg_name (i := 2) sc__law_is_wheel.nd rfl (Or.inl rfl))
  (qss_one (qs_if (qt_pw (qw_or (qt_not (qt_val (qe_callB (S := S) call_isi (cq_isi .tuple (by decide)) rfl B.isinstance_ (by decide +kernel) (qa_cons (qe_var (pv 2)) (qa_cons (qe_adr (pe_bltn (v := .ty "tuple") (u := .type "tuple") rfl B.tuple_ (by decide +kernel) rfl)) qa_nil))))) (qw_or (qt_cmp (S := S) op_gt (oq_cmp cGt) (qe_callB (S := S) call_lenA cq_len rfl B.len_ (by decide +kernel) (qa_cons (qe_var (pv 2)) qa_nil)) qe_int (nomark _)) (qw_or1 (qt_not (qt_val (qe_callB (S := S) (cr_all rfl) cq_all rfl B.all_ (by decide +kernel) (qa_cons (qe_lc (own := [("_law_end", 3)]) (t := (.name 3)) rfl sc__law_is_wheel.nd (qi_seq rfl (qe_var (pv 2))) (blkOk_by (N := ["_law_thing", "_law_ends", "_law_step", "_law_end"]) (sc := (defScope s__law_is_wheel)) (by decide +kernel)) (fun _ _ _ _ _ => (pg_name (i := 3) sc__law_is_wheel.nd rfl (Or.inl rfl))) (fun _ _ _ _ _ => qts_nil) (fun _ _ _ _ _ => (qe_call LamX.takes0 rfl c__law_within hr rfl (qa_cons (qe_var (pv 3)) (qa_cons qe_int (qa_cons (qe_bin (S := S) op_sub oq_sub (qe_var (pv 1)) qe_int) qa_nil))) (len_cons (len_cons (len_cons len_nil)))))) qa_nil))))))))
  (qss_one (qs_ret qe_bl))
  qss_nil)))
  (qss_one (qs_ret qe_bl))))))
theorem ok__law_is_board (T : HX.Def S.K mg "_law_is_board" s__law_is_board ["_law_thing"]) (B : Bi mg) (c__law_is_wheel : CalQ S P w mg base k "_law_is_wheel" ["_law_thing", "_law_ends"] m_law_is_wheel_65c825) (c__law_within : CalQ S P w mg base k "_law_within" ["_law_thing", "_law_low", "_law_high"] m_is_within) : CalQ S P w mg base (k + 1) "_law_is_board" ["_law_thing"] m_law_is_board_8cfce4 :=
  CalQ.trim (Def.okQ T sc__law_is_board (fun f cdv A outer s H E hr tk hp =>
  (qss_cons (qs_if (qt_pw (qw_or (qt_not (qt_val (qe_callB (S := S) call_isi (cq_isi .tuple (by decide)) rfl B.isinstance_ (by decide +kernel) (qa_cons (qe_var (pv 0)) (qa_cons (qe_adr (pe_bltn (v := .ty "tuple") (u := .type "tuple") rfl B.tuple_ (by decide +kernel) rfl)) qa_nil))))) (qw_or (qt_cmp (S := S) (op_neD (hu64 hr)) oq_ne (qe_callB (S := S) call_lenA cq_len rfl B.len_ (by decide +kernel) (qa_cons (qe_var (pv 0)) qa_nil)) qe_int (nomark _)) (qw_or1 (qt_not (qt_val (qe_callB (S := S) call_isi (cq_isi .tuple (by decide)) rfl B.isinstance_ (by decide +kernel) (qa_cons (qe_ix rfl (qe_var (pv 0)) qe_int) (qa_cons (qe_adr (pe_bltn (v := .ty "tuple") (u := .type "tuple") rfl B.tuple_ (by decide +kernel) rfl)) qa_nil)))))))))
  (qss_one (qs_ret qe_bl))
  qss_nil)
  (qss_cons (qs_if (qt_pw (qw_or (qt_not (qt_chain op_le op_le (flat_cmp cLe) (oq_cmp cLe) (oq_cmp cLe) qe_int (qe_callB (S := S) call_lenA cq_len rfl B.len_ (by decide +kernel) (qa_cons (qe_ix rfl (qe_var (pv 0)) qe_int) qa_nil)) qe_int)) (qw_or1 (qt_not (qt_val (qe_call tk rfl c__law_within hr rfl (qa_cons (qe_ix rfl (qe_var (pv 0)) qe_int) (qa_cons qe_int (qa_cons qe_int qa_nil))) (len_cons (len_cons (len_cons len_nil)))))))))
  (qss_one (qs_ret qe_bl))
  qss_nil)
  (qss_one (qs_ret (qe_callB (S := S) (cr_all rfl) cq_all rfl B.all_ (by decide +kernel) (qa_cons (qe_lc (own := [("_law_wheel", 1)]) (t := (.name 1)) rfl sc__law_is_board.nd (qi_seq rfl (qe_ix rfl (qe_var (pv 0)) qe_int)) (blkOk_by (N := ["_law_thing", "_law_wheel"]) (sc := (defScope s__law_is_board)) (by decide +kernel)) (fun _ _ _ _ _ => (pg_name (i := 1) sc__law_is_board.nd rfl (Or.inl rfl))) (fun _ _ _ _ _ => qts_nil) (fun _ _ _ _ _ => (qe_call LamX.takes0 rfl c__law_is_wheel hr rfl (qa_cons (qe_var (pv 1)) (qa_cons (qe_bin (S := S) op_addA oq_add (qe_callB (S := S) call_lenA cq_len rfl B.len_ (by decide +kernel) (qa_cons (qe_ix rfl (qe_var (pv 0)) qe_int) qa_nil)) (qe_ix rfl (qe_var (pv 0)) qe_int)) qa_nil)) (len_cons (len_cons len_nil))))) qa_nil))))))))
theorem ok__law_read (T : HX.Def S.K mg "_law_read" s__law_read ["_law_text_here"]) (B : Bi mg) (B2 : Bi2 mg) (B6 : Bi6 mg) (c__law_is_board : CalQ S P w mg base k "_law_is_board" ["_law_thing"] m_law_is_board_8cfce4) (c__law_line_in : CalQ S P w mg base k "_law_line_in" ["_law_line", "_law_number"] m_law_line_in_a53ef1) : CalQ S P w mg base (k + 1) "_law_read" ["_law_text_here"] m_law_read_1c5c72 :=
  CalQ.trim (Def.okQ T sc__law_read (fun f cdv A outer s H E hr tk hp =>
  (qss_cons (qs_if (qt_pw (qw_or (qt_not (qt_val (qe_callB (S := S) call_isi (cq_isi .str (by decide)) rfl B.isinstance_ (by decide +kernel) (qa_cons (qe_var (pv 0)) (qa_cons (qe_adr (pe_bltn (v := .ty "str") (u := .type "str") rfl B6.str_ (by decide +kernel) rfl)) qa_nil))))) (qw_or (qt_cmp (S := S) (op_eqD (hu64 hr)) oq_eq (qe_var (pv 0)) qe_str (nomark _)) (qw_or1 (qt_cmp (S := S) (op_neD (hu64 hr)) oq_ne (qe_ix rfl (qe_var (pv 0)) (qe_neg qe_int)) qe_str (nomark _))))))
  (qss_one (qs_ret (qe_tup (qa_cons qe_str (qa_cons qe_int qa_nil)))))
  qss_nil)
  (qss_cons (qs_set (i := 1) sc__law_read.nd rfl (Or.inl rfl) (qe_m1 (S := S) PySem.F.slot_str_split PySem.F.type_str_split mt_split mq_split (qe_slS (qe_var (pv 0)) qo_none (qo_some (qe_neg qe_int))) qe_str))
  (qss_cons (qs_setLc (i := 2) (own := [("_law_at", 4), ("_law_line", 5)]) (t := (.tup [4, 5])) rfl sc__law_read.nd rfl rfl (sw_true rfl rfl rfl (by decide +kernel)) (qi_enum rfl rfl B2.enumerate_ (qa_cons (qe_var (pv 1)) qa_nil)) (blkOk_by (N := ["_law_text_here", "_law_lines", "_law_found", "_law_board_here", "_law_at", "_law_line"]) (sc := (defScope s__law_read)) (by decide +kernel)) (fun _ _ _ _ _ => (pg_tup rfl (pgs_cons (pg_name (i := 4) sc__law_read.nd rfl (Or.inl rfl)) (pgs_cons (pg_name (i := 5) sc__law_read.nd rfl (Or.inl rfl)) pgs_nil)))) (fun _ _ _ _ _ => qts_nil) (fun _ _ _ _ _ => (qe_call LamX.takes0 rfl c__law_line_in hr rfl (qa_cons (qe_var (pv 5)) (qa_cons (qe_bin (S := S) op_addA oq_add (qe_var (pv 4)) qe_int) qa_nil)) (len_cons (len_cons len_nil)))))
  (qss_cons (qs_if (qt_cmp (S := S) (op_inD (hu65 hr)) oq_inD qe_non (qe_var (pv 2)) rfl)
  (qss_one (qs_ret (qe_tup (qa_cons qe_str (qa_cons (qe_bin (S := S) op_addA oq_add (qe_bm (S := S) rfl PySem.F.plainAttrs_list PySem.F.slot_list_index PySem.F.type_list_index (mt_indexD (hu65 hr)) mq_indexD (qe_var (pv 2)) (qa_cons qe_non qa_nil)) qe_int) qa_nil)))))
  qss_nil)
  (qss_cons (qs_set (i := 3) sc__law_read.nd rfl (Or.inl rfl) (qe_tup (qa_cons (qe_callTy (S := S) call_tupleA cq_tuple rfl B.tuple_ (by decide +kernel) (qa_cons (qe_sl rfl (qe_var (pv 2)) (qo_some qe_int) qo_none) qa_nil)) (qa_cons (qe_ix rfl (qe_var (pv 2)) qe_int) qa_nil))))
  (qss_one (qs_ret (qe_if (qt_val (qe_call tk rfl c__law_is_board hr rfl (qa_cons (qe_var (pv 3)) qa_nil) (len_cons len_nil))) (qe_tup (qa_cons qe_str (qa_cons (qe_var (pv 3)) qa_nil))) (qe_tup (qa_cons qe_str (qa_cons (qe_bin (S := S) op_addA oq_add (qe_callB (S := S) call_lenA cq_len rfl B.len_ (by decide +kernel) (qa_cons (qe_var (pv 1)) qa_nil)) qe_int) qa_nil)))))))))))))
theorem ok__law_odd (T : HX.Def S.K mg "_law_odd" s__law_odd ["_law_pen_here"]) (c__law_draw : CalQ S P w mg base k "_law_draw" ["_law_pen_here", "_law_many"] m_law_draw_321cf4) : CalQ S P w mg base (k + 1) "_law_odd" ["_law_pen_here"] m_law_odd_ee5538 :=
  CalQ.trim (Def.okQ T sc__law_odd (fun f cdv A outer s H E hr tk hp =>
  (qss_cons (qs_set (i := 1) sc__law_odd.nd rfl (Or.inl rfl) (qe_lst (qa_cons qe_non (qa_cons qe_bl (qa_cons qe_bl (qa_cons (qe_neg qe_int) (qa_cons (qe_bin (S := S) op_pow oq_pow qe_int qe_int) (qa_cons qe_str (qa_cons qe_str (qa_cons qe_str (qa_cons (qe_tup qa_nil) (qa_cons (qe_lst qa_nil) (qa_cons qe_dct0 (qa_cons (qe_tup (qa_cons qe_int qa_nil)) (qa_cons (qe_lst (qa_cons qe_int qa_nil)) (qa_cons (qe_tup (qa_cons (qe_tup qa_nil) qa_nil)) (qa_cons qe_dctS (qa_cons qe_int qa_nil))))))))))))))))))
  (qss_one (qs_ret (qe_ix rfl (qe_var (pv 1)) (qe_call tk rfl c__law_draw hr rfl (qa_cons (qe_var (pv 0)) (qa_cons qe_int qa_nil)) (len_cons (len_cons len_nil)))))))))
theorem ok__law_spoilt (T : HX.Def S.K mg "_law_spoilt" s__law_spoilt ["_law_pen_here", "_law_text_here"]) (B : Bi mg) (c__law_draw : CalQ S P w mg base k "_law_draw" ["_law_pen_here", "_law_many"] m_law_draw_321cf4) : CalQ S P w mg base (k + 1) "_law_spoilt" ["_law_pen_here", "_law_text_here"] m_law_spoilt_0c0464 :=
  CalQ.trim (Def.okQ T sc__law_spoilt (fun f cdv A outer s H E hr tk hp =>
  (qss_cons (qs_par3 (i := 2) (j := 3) (l := 4) (by rfl) sc__law_spoilt.nd rfl rfl rfl (by decide) (by decide) (by decide) rfl rfl rfl (qa_cons (qe_m1 (S := S) PySem.F.slot_str_split PySem.F.type_str_split mt_split mq_split (qe_var (pv 1)) qe_str) (qa_cons (qe_call tk rfl c__law_draw hr rfl (qa_cons (qe_var (pv 0)) (qa_cons (qe_bin (S := S) op_addA oq_add (qe_callB (S := S) call_lenA cq_len rfl B.len_ (by decide +kernel) (qa_cons (qe_var (pv 1)) qa_nil)) qe_int) qa_nil)) (len_cons (len_cons len_nil))) (qa_cons (qe_call tk rfl c__law_draw hr rfl (qa_cons (qe_var (pv 0)) (qa_cons qe_int qa_nil)) (len_cons (len_cons len_nil))) qa_nil))) (by rfl))
  (qss_cons (qs_par (i := 5) (j := 6) (by rfl) sc__law_spoilt.nd rfl rfl (by decide) rfl rfl (qa_cons (qe_ix rfl qe_str (qe_call tk rfl c__law_draw hr rfl (qa_cons (qe_var (pv 0)) (qa_cons qe_int qa_nil)) (len_cons (len_cons len_nil)))) (qa_cons (qe_call tk rfl c__law_draw hr rfl (qa_cons (qe_var (pv 0)) (qa_cons (qe_callB (S := S) call_lenA cq_len rfl B.len_ (by decide +kernel) (qa_cons (qe_var (pv 2)) qa_nil)) qa_nil)) (len_cons (len_cons len_nil))) qa_nil)) (by rfl))
  (qss_cons (qs_if (qt_cmp (S := S) op_lt (oq_cmp cLt) (qe_var (pv 4)) qe_int (nomark _))
  (qss_one (qs_ret (qe_bin (S := S) op_addA oq_add (qe_bin (S := S) op_addA oq_add (qe_slS (qe_var (pv 1)) qo_none (qo_some (qe_var (pv 3)))) (qe_ix rfl (qe_lst (qa_cons (qe_var (pv 5)) (qa_cons qe_str (qa_cons (qe_var (pv 5)) (qa_cons qe_str qa_nil))))) (qe_var (pv 4)))) (qe_slS (qe_var (pv 1)) (qo_some (qe_bin (S := S) op_addA oq_add (qe_var (pv 3)) (qe_callTy (S := S) call_int1 cq_int rfl B.int_ (by decide +kernel) (qa_cons (qe_cmp (S := S) (op_inT (hu65 hr)) oq_inT (qe_var (pv 4)) (qe_tup (qa_cons qe_int (qa_cons qe_int qa_nil))) rfl) qa_nil)))) qo_none))))
  qss_nil)
  (qss_cons (qs_if (qt_cmp (S := S) op_lt (oq_cmp cLt) (qe_var (pv 4)) qe_int (nomark _))
  (qss_cons (qs_set (i := 7) sc__law_spoilt.nd rfl (Or.inl rfl) (qe_lst (qa_cons (qe_bin (S := S) op_addA oq_add (qe_sl rfl (qe_var (pv 2)) qo_none (qo_some (qe_var (pv 6)))) (qe_sl rfl (qe_var (pv 2)) (qo_some (qe_bin (S := S) op_addA oq_add (qe_var (pv 6)) qe_int)) qo_none)) (qa_cons (qe_bin (S := S) op_addA oq_add (qe_sl rfl (qe_var (pv 2)) qo_none (qo_some (qe_bin (S := S) op_addA oq_add (qe_var (pv 6)) qe_int))) (qe_sl rfl (qe_var (pv 2)) (qo_some (qe_var (pv 6))) qo_none)) (qa_cons (qe_revL rfl (qe_var (pv 2))) qa_nil)))))
  (qss_one (qs_ret (qe_m1 (S := S) PySem.F.slot_str_join PySem.F.type_str_join mt_join mq_join qe_str (qe_ix rfl (qe_var (pv 7)) (qe_bin (S := S) op_sub oq_sub (qe_var (pv 4)) qe_int))))))
  qss_nil)
  (qss_cons (qs_par (i := 8) (j := 9) (by rfl) sc__law_spoilt.nd rfl rfl (by decide) rfl rfl (qa_cons (qe_m1 (S := S) PySem.F.slot_str_split PySem.F.type_str_split mt_split mq_split (qe_ix rfl (qe_var (pv 2)) (qe_var (pv 6))) qe_str) (qa_cons (qe_lst (qa_cons qe_str (qa_cons qe_str (qa_cons qe_str (qa_cons qe_str (qa_cons qe_str (qa_cons qe_str (qa_cons qe_str (qa_cons qe_str qa_nil))))))))) qa_nil)) (by rfl))
  (qss_cons (qs_set (i := 10) sc__law_spoilt.nd rfl (Or.inl rfl) (qe_call tk rfl c__law_draw hr rfl (qa_cons (qe_var (pv 0)) (qa_cons (qe_callB (S := S) call_lenA cq_len rfl B.len_ (by decide +kernel) (qa_cons (qe_var (pv 8)) qa_nil)) qa_nil)) (len_cons (len_cons len_nil))))
  (qss_cons (qs_set (i := 11) sc__law_spoilt.nd rfl (Or.inl rfl) (qe_m1 (S := S) PySem.F.slot_str_join PySem.F.type_str_join mt_join mq_join qe_str (qe_bin (S := S) op_addA oq_add (qe_bin (S := S) op_addA oq_add (qe_sl rfl (qe_var (pv 8)) qo_none (qo_some (qe_var (pv 10)))) (qe_lst (qa_cons (qe_ix rfl (qe_var (pv 9)) (qe_call tk rfl c__law_draw hr rfl (qa_cons (qe_var (pv 0)) (qa_cons qe_int qa_nil)) (len_cons (len_cons len_nil)))) qa_nil))) (qe_sl rfl (qe_var (pv 8)) (qo_some (qe_bin (S := S) op_addA oq_add (qe_var (pv 10)) qe_int)) qo_none))))
  (qss_one (qs_ret (qe_m1 (S := S) PySem.F.slot_str_join PySem.F.type_str_join mt_join mq_join qe_str (qe_bin (S := S) op_addA oq_add (qe_bin (S := S) op_addA oq_add (qe_sl rfl (qe_var (pv 2)) qo_none (qo_some (qe_var (pv 6)))) (qe_lst (qa_cons (qe_var (pv 11)) qa_nil))) (qe_sl rfl (qe_var (pv 2)) (qo_some (qe_bin (S := S) op_addA oq_add (qe_var (pv 6)) qe_int)) qo_none))))))))))))))
theorem ok_is_number_text {t_MOST_FIGURES : Tok} {t_FIGURES : Tok} (T : HX.Def S.K mg "is_number_text" s_is_number_text ["text"]) (B : Bi mg) (g_MOST_FIGURES : mg "MOST_FIGURES" = some (.int 13 t_MOST_FIGURES)) (g_FIGURES : mg "FIGURES" = some (.str "0123456789" t_FIGURES)) : CalQ S P w mg base (k + 1) "is_number_text" ["text"] m_is_number_text :=
  CalQ.trim (Def.okQ T sc_is_number_text (fun f cdv A outer s H E hr tk hp =>
  (qss_cons (qs_if (qt_pw (qw_or (qt_not (qt_chain op_le op_le (flat_cmp cLe) (oq_cmp cLe) (oq_cmp cLe) qe_int (qe_callB (S := S) call_lenA cq_len rfl B.len_ (by decide +kernel) (qa_cons (qe_var (pv 0)) qa_nil)) (qe_gint (x := "MOST_FIGURES") (pe_gint rfl g_MOST_FIGURES)))) (qw_or1 (qt_not (qt_val (qe_callB (S := S) (cr_all rfl) cq_all rfl B.all_ (by decide +kernel) (qa_cons (qe_lc (own := [("sign", 1)]) (t := (.name 1)) rfl sc_is_number_text.nd (qi_str (qe_var (pv 0))) (blkOk_by (N := ["text", "sign"]) (sc := (defScope s_is_number_text)) (by decide +kernel)) (fun _ _ _ _ _ => (pg_name (i := 1) sc_is_number_text.nd rfl (Or.inl rfl))) (fun _ _ _ _ _ => qts_nil) (fun _ _ _ _ _ => (qe_cmp (S := S) op_in_sign oq_inS (qe_var (pv 1)) (qe_gstr (pe_gstr (x := "FIGURES") rfl g_FIGURES)) rfl))) qa_nil)))))))
  (qss_one (qs_ret qe_bl))
  qss_nil)
  (qss_one (qs_ret (qe_or (qe_cmp (S := S) (op_eqD (hu64 hr)) oq_eq (qe_var (pv 0)) qe_str (nomark _)) (qe_one (qe_cmp (S := S) (op_neD (hu64 hr)) oq_ne (qe_ix rfl (qe_var (pv 0)) qe_int) qe_str (nomark _)))))))))
theorem ok_read_cups (T : HX.Def S.K mg "read_cups" s_read_cups ["line"]) (B : Bi mg) (c_is_number_text : CalQ S P w mg base k "is_number_text" ["text"] m_is_number_text) : CalQ S P w mg base (k + 1) "read_cups" ["line"] m_read_cups :=
  CalQ.trim (Def.okQ T sc_read_cups (fun f cdv A outer s H E hr tk hp =>
  (qss_cons (qs_part (is := [1, 2, 3]) (qe_var (pv 0)) qe_str (pg_tup rfl (pgs_cons (pg_name (i := 1) sc_read_cups.nd rfl (Or.inl rfl)) (pgs_cons (pg_name (i := 2) sc_read_cups.nd rfl (Or.inl rfl)) (pgs_cons (pg_name (i := 3) sc_read_cups.nd rfl (Or.inl rfl)) pgs_nil)))))
  (qss_one (qs_ret (qe_if (qt_pw (qw_and (qt_cmp (S := S) (op_eqD (hu64 hr)) oq_eq (qe_var (pv 1)) qe_str (nomark _)) (qw_and1 (qt_val (qe_call tk rfl c_is_number_text hr rfl (qa_cons (qe_var (pv 3)) qa_nil) (len_cons len_nil)))))) (qe_callTy (S := S) call_intA cq_intT rfl B.int_ (by decide +kernel) (qa_cons (qe_var (pv 3)) qa_nil)) qe_non))))))
theorem ok_read_step (T : HX.Def S.K mg "read_step" s_read_step ["text"]) (B : Bi mg) (c_is_number_text : CalQ S P w mg base k "is_number_text" ["text"] m_is_number_text) : CalQ S P w mg base (k + 1) "read_step" ["text"] m_read_step :=
  CalQ.trim (Def.okQ T sc_read_step (fun f cdv A outer s H E hr tk hp =>
  (qss_cons (qs_if (qt_cmp (S := S) (op_eqD (hu64 hr)) oq_eq (qe_var (pv 0)) qe_str (nomark _))
  (qss_one (qs_ret (qe_tup qa_nil)))
  qss_nil)
  (qss_cons (qs_set (i := 1) sc_read_step.nd rfl (Or.inl rfl) (qe_m1 (S := S) PySem.F.slot_str_split PySem.F.type_str_split mt_split mq_split (qe_var (pv 0)) qe_str))
  (qss_one (qs_ret (qe_if (qt_val (qe_callB (S := S) (cr_all rfl) cq_all rfl B.all_ (by decide +kernel) (qa_cons (qe_lc (own := [("end", 2)]) (t := (.name 2)) rfl sc_read_step.nd (qi_seq rfl (qe_var (pv 1))) (blkOk_by (N := ["text", "ends", "end"]) (sc := (defScope s_read_step)) (by decide +kernel)) (fun _ _ _ _ _ => (pg_name (i := 2) sc_read_step.nd rfl (Or.inl rfl))) (fun _ _ _ _ _ => qts_nil) (fun _ _ _ _ _ => (qe_call LamX.takes0 rfl c_is_number_text hr rfl (qa_cons (qe_var (pv 2)) qa_nil) (len_cons len_nil)))) qa_nil))) (qe_callTy (S := S) call_tupleA cq_tuple rfl B.tuple_ (by decide +kernel) (qa_cons (qe_lc (own := [("end", 2)]) (t := (.name 2)) rfl sc_read_step.nd (qi_seq rfl (qe_var (pv 1))) (blkOk_by (N := ["text", "ends", "end"]) (sc := (defScope s_read_step)) (by decide +kernel)) (fun _ _ _ _ _ => (pg_name (i := 2) sc_read_step.nd rfl (Or.inl rfl))) (fun _ _ _ _ _ => qts_nil) (fun _ _ _ _ _ => (qe_callTy (S := S) call_intA cq_intT rfl B.int_ (by decide +kernel) (qa_cons (qe_var (pv 2)) qa_nil)))) qa_nil)) qe_non)))))))
theorem ok_read_wheel (T : HX.Def S.K mg "read_wheel" s_read_wheel ["line"]) (B : Bi mg) (c_read_step : CalQ S P w mg base k "read_step" ["text"] m_read_step) : CalQ S P w mg base (k + 1) "read_wheel" ["line"] m_read_wheel :=
  CalQ.trim (Def.okQ T sc_read_wheel (fun f cdv A outer s H E hr tk hp =>
  (qss_cons (qs_star2 (i := 1) (j := 2) rfl (qe_m1 (S := S) PySem.F.slot_str_split PySem.F.type_str_split mt_split mq_split (qe_var (pv 0)) qe_str) (pg_star2 rfl (pgs_cons (pg_name (i := 1) sc_read_wheel.nd rfl (Or.inl rfl)) (pgs_cons (pg_name (i := 2) sc_read_wheel.nd rfl (Or.inl rfl)) pgs_nil))))
  (qss_cons (qs_setLc (i := 3) (own := [("text", 4)]) (t := (.name 4)) rfl sc_read_wheel.nd rfl rfl (sw_true rfl rfl rfl (by decide +kernel)) (qi_seq rfl (qe_var (pv 2))) (blkOk_by (N := ["line", "word", "texts", "steps", "text"]) (sc := (defScope s_read_wheel)) (by decide +kernel)) (fun _ _ _ _ _ => (pg_name (i := 4) sc_read_wheel.nd rfl (Or.inl rfl))) (fun _ _ _ _ _ => qts_nil) (fun _ _ _ _ _ => (qe_call LamX.takes0 rfl c_read_step hr rfl (qa_cons (qe_var (pv 4)) qa_nil) (len_cons len_nil))))
  (qss_cons (qs_if (qt_pw (qw_or (qt_cmp (S := S) (op_neD (hu64 hr)) oq_ne (qe_var (pv 1)) qe_str (nomark _)) (qw_or (qt_cmp (S := S) (op_eqD (hu64 hr)) oq_eq (qe_var (pv 3)) (qe_lst qa_nil) (nomark _)) (qw_or1 (qt_cmp (S := S) (op_inD (hu65 hr)) oq_inD qe_non (qe_var (pv 3)) rfl)))))
  (qss_one (qs_ret qe_non))
  qss_nil)
  (qss_one (qs_ret (qe_callTy (S := S) call_tupleA cq_tuple rfl B.tuple_ (by decide +kernel) (qa_cons (qe_var (pv 3)) qa_nil)))))))))
theorem ok_has_parts (T : HX.Def S.K mg "has_parts" s_has_parts ["thing", "least", "most"]) (B : Bi mg) : CalQ S P w mg base (k + 1) "has_parts" ["thing", "least", "most"] m_has_parts :=
  CalQ.trim (Def.okQ T sc_has_parts (fun f cdv A outer s H E hr tk hp =>
  (qss_one (qs_ret (qe_and (qe_callB (S := S) call_isi (cq_isi .tuple (by decide)) rfl B.isinstance_ (by decide +kernel) (qa_cons (qe_var (pv 0)) (qa_cons (qe_adr (pe_bltn (v := .ty "tuple") (u := .type "tuple") rfl B.tuple_ (by decide +kernel) rfl)) qa_nil))) (qe_one (qe_chain op_le op_le (flat_cmp cLe) (oq_cmp cLe) (oq_cmp cLe) (qe_var (pv 1)) (qe_callB (S := S) call_lenA cq_len rfl B.len_ (by decide +kernel) (qa_cons (qe_var (pv 0)) qa_nil)) (qe_var (pv 2)))))))))
theorem ok_is_whole (T : HX.Def S.K mg "is_whole" s_is_whole ["thing"]) (B : Bi mg) : CalQ S P w mg base (k + 1) "is_whole" ["thing"] m_is_whole :=
  CalQ.trim (Def.okQ T sc_is_whole (fun f cdv A outer s H E hr tk hp =>
  (qss_one (qs_ret (qe_and (qe_callB (S := S) call_isi (cq_isi .int (by decide)) rfl B.isinstance_ (by decide +kernel) (qa_cons (qe_var (pv 0)) (qa_cons (qe_adr (pe_bltn (v := .ty "int") (u := .type "int") rfl B.int_ (by decide +kernel) rfl)) qa_nil))) (qe_one (qe_not (qe_callB (S := S) call_isi (cq_isi .bool (by decide)) rfl B.isinstance_ (by decide +kernel) (qa_cons (qe_var (pv 0)) (qa_cons (qe_adr (pe_bltn (v := .ty "bool") (u := .type "bool") rfl B.bool_ (by decide +kernel) rfl)) qa_nil))))))))))
theorem ok_is_within (T : HX.Def S.K mg "is_within" s_is_within ["thing", "least", "most"]) (c_is_whole : CalQ S P w mg base k "is_whole" ["thing"] m_is_whole) : CalQ S P w mg base (k + 1) "is_within" ["thing", "least", "most"] m_is_within :=
  CalQ.trim (Def.okQ T sc_is_within (fun f cdv A outer s H E hr tk hp =>
  (qss_one (qs_ret (qe_and (qe_call tk rfl c_is_whole hr rfl (qa_cons (qe_var (pv 0)) qa_nil) (len_cons len_nil)) (qe_one (qe_chain op_le op_le (flat_cmp cLe) (oq_cmp cLe) (oq_cmp cLe) (qe_var (pv 1)) (qe_var (pv 0)) (qe_var (pv 2)))))))))
theorem ok_is_step {t_MOST_ENDS : Tok} (T : HX.Def S.K mg "is_step" s_is_step ["thing", "ends"]) (B : Bi mg) (g_MOST_ENDS : mg "MOST_ENDS" = some (.int 3 t_MOST_ENDS)) (c_is_within : CalQ S P w mg base k "is_within" ["thing", "least", "most"] m_is_within) (c_has_parts : CalQ S P w mg base k "has_parts" ["thing", "least", "most"] m_has_parts) : CalQ S P w mg base (k + 1) "is_step" ["thing", "ends"] m_is_step :=
  CalQ.trim (Def.okQ T sc_is_step (fun f cdv A outer s H E hr tk hp =>
  (qss_one (qs_ret (qe_and (qe_call tk rfl c_has_parts hr rfl (qa_cons (qe_var (pv 0)) (qa_cons qe_int (qa_cons (qe_gint (x := "MOST_ENDS") (pe_gint rfl g_MOST_ENDS)) qa_nil))) (len_cons (len_cons (len_cons len_nil)))) (qe_one (qe_callB (S := S) (cr_all rfl) cq_all rfl B.all_ (by decide +kernel) (qa_cons (qe_lc (own := [("end", 2)]) (t := (.name 2)) rfl sc_is_step.nd (qi_seq rfl (qe_var (pv 0))) (blkOk_by (N := ["thing", "ends", "end"]) (sc := (defScope s_is_step)) (by decide +kernel)) (fun _ _ _ _ _ => (pg_name (i := 2) sc_is_step.nd rfl (Or.inl rfl))) (fun _ _ _ _ _ => qts_nil) (fun _ _ _ _ _ => (qe_call LamX.takes0 rfl c_is_within hr rfl (qa_cons (qe_var (pv 2)) (qa_cons qe_int (qa_cons (qe_bin (S := S) op_sub oq_sub (qe_var (pv 1)) qe_int) qa_nil))) (len_cons (len_cons (len_cons len_nil)))))) qa_nil))))))))
theorem ok_is_wheel {t_MOST_STEPS : Tok} (T : HX.Def S.K mg "is_wheel" s_is_wheel ["thing", "ends"]) (B : Bi mg) (g_MOST_STEPS : mg "MOST_STEPS" = some (.int 4 t_MOST_STEPS)) (c_is_step : CalQ S P w mg base k "is_step" ["thing", "ends"] m_is_step) (c_has_parts : CalQ S P w mg base k "has_parts" ["thing", "least", "most"] m_has_parts) : CalQ S P w mg base (k + 1) "is_wheel" ["thing", "ends"] m_is_wheel :=
  CalQ.trim (Def.okQ T sc_is_wheel (fun f cdv A outer s H E hr tk hp =>
  (qss_one (qs_ret (qe_and (qe_call tk rfl c_has_parts hr rfl (qa_cons (qe_var (pv 0)) (qa_cons qe_int (qa_cons (qe_gint (x := "MOST_STEPS") (pe_gint rfl g_MOST_STEPS)) qa_nil))) (len_cons (len_cons (len_cons len_nil)))) (qe_one (qe_callB (S := S) (cr_all rfl) cq_all rfl B.all_ (by decide +kernel) (qa_cons (qe_lc (own := [("step", 2)]) (t := (.name 2)) rfl sc_is_wheel.nd (qi_seq rfl (qe_var (pv 0))) (blkOk_by (N := ["thing", "ends", "step"]) (sc := (defScope s_is_wheel)) (by decide +kernel)) (fun _ _ _ _ _ => (pg_name (i := 2) sc_is_wheel.nd rfl (Or.inl rfl))) (fun _ _ _ _ _ => qts_nil) (fun _ _ _ _ _ => (qe_call LamX.takes0 rfl c_is_step hr rfl (qa_cons (qe_var (pv 2)) (qa_cons (qe_var (pv 1)) qa_nil)) (len_cons (len_cons len_nil))))) qa_nil))))))))
theorem ok_is_board {t_MOST_CUPS : Tok} {t_MOST_WHEELS : Tok} (T : HX.Def S.K mg "is_board" s_is_board ["thing"]) (B : Bi mg) (g_MOST_CUPS : mg "MOST_CUPS" = some (.int 4 t_MOST_CUPS)) (g_MOST_WHEELS : mg "MOST_WHEELS" = some (.int 6 t_MOST_WHEELS)) (c_is_wheel : CalQ S P w mg base k "is_wheel" ["thing", "ends"] m_is_wheel) (c_is_within : CalQ S P w mg base k "is_within" ["thing", "least", "most"] m_is_within) (c_has_parts : CalQ S P w mg base k "has_parts" ["thing", "least", "most"] m_has_parts) : CalQ S P w mg base (k + 1) "is_board" ["thing"] m_is_board :=
  CalQ.trim (Def.okQ T sc_is_board (fun f cdv A outer s H E hr tk hp =>
  (qss_cons (qs_if (qt_not (qt_val (qe_call tk rfl c_has_parts hr rfl (qa_cons (qe_var (pv 0)) (qa_cons qe_int (qa_cons qe_int qa_nil))) (len_cons (len_cons (len_cons len_nil))))))
  (qss_one (qs_ret qe_bl))
  qss_nil)
  (qss_cons (qs_asg (t := (.tup [1, 2])) (qe_var (pv 0)) (pg_tup rfl (pgs_cons (pg_name (i := 1) sc_is_board.nd rfl (Or.inl rfl)) (pgs_cons (pg_name (i := 2) sc_is_board.nd rfl (Or.inl rfl)) pgs_nil))))
  (qss_cons (qs_if (qt_pw (qw_or (qt_not (qt_val (qe_call tk rfl c_has_parts hr rfl (qa_cons (qe_var (pv 1)) (qa_cons qe_int (qa_cons (qe_gint (x := "MOST_WHEELS") (pe_gint rfl g_MOST_WHEELS)) qa_nil))) (len_cons (len_cons (len_cons len_nil)))))) (qw_or1 (qt_not (qt_val (qe_call tk rfl c_is_within hr rfl (qa_cons (qe_var (pv 2)) (qa_cons qe_int (qa_cons (qe_gint (x := "MOST_CUPS") (pe_gint rfl g_MOST_CUPS)) qa_nil))) (len_cons (len_cons (len_cons len_nil)))))))))
  (qss_one (qs_ret qe_bl))
  qss_nil)
  (qss_cons (qs_set (i := 3) sc_is_board.nd rfl (Or.inr rfl) (qe_bin (S := S) op_addA oq_add (qe_callB (S := S) call_lenA cq_len rfl B.len_ (by decide +kernel) (qa_cons (qe_var (pv 1)) qa_nil)) (qe_var (pv 2))))
  (qss_one (qs_ret (qe_callB (S := S) (cr_all rfl) cq_all rfl B.all_ (by decide +kernel) (qa_cons (qe_lc (own := [("wheel", 4)]) (t := (.name 4)) rfl sc_is_board.nd (qi_seq rfl (qe_var (pv 1))) (blkOk_by (N := ["thing", "wheels", "cups", "ends", "wheel"]) (sc := (defScope s_is_board)) (by decide +kernel)) (fun _ _ _ _ _ => (pg_name (i := 4) sc_is_board.nd rfl (Or.inl rfl))) (fun _ _ _ _ _ => qts_nil) (fun _ _ _ _ _ => (qe_call LamX.takes0 rfl c_is_wheel hr rfl (qa_cons (qe_var (pv 4)) (qa_cons (qe_var (pv 3)) qa_nil)) (len_cons (len_cons len_nil))))) qa_nil))))))))))
theorem ok_read_board (T : HX.Def S.K mg "read_board" s_read_board ["text"]) (B : Bi mg) (B6 : Bi6 mg) (TM : TxtC P S.K mg (S.C 19)) (c_is_board : CalQ S P w mg base k "is_board" ["thing"] m_is_board) (c_read_wheel : CalQ S P w mg base k "read_wheel" ["line"] m_read_wheel) (c_read_cups : CalQ S P w mg base k "read_cups" ["line"] m_read_cups) : CalQ S P w mg base (k + 1) "read_board" ["text"] m_read_board_ba71bd :=
  CalQ.trim (Def.okQ T sc_read_board (fun f cdv A outer s H E hr tk hp =>
  (qss_cons (qs_if (qt_pw (qw_or (qt_not (qt_val (qe_callB (S := S) call_isi (cq_isi .str (by decide)) rfl B.isinstance_ (by decide +kernel) (qa_cons (qe_var (pv 0)) (qa_cons (qe_adr (pe_bltn (v := .ty "str") (u := .type "str") rfl B6.str_ (by decide +kernel) rfl)) qa_nil))))) (qw_or1 (qt_not (qt_val (qe_m1 (S := S) PySem.F.slot_str_endswith PySem.F.type_str_endswith mt_endswith mq_endswith (qe_var (pv 0)) qe_str))))))
  (qss_one (qs_txt TM rfl hr tk (qa_cons qe_int qa_nil)))
  qss_nil)
  (qss_cons (qs_set (i := 1) sc_read_board.nd rfl (Or.inl rfl) (qe_m1 (S := S) PySem.F.slot_str_split PySem.F.type_str_split mt_split mq_split (qe_slS (qe_var (pv 0)) qo_none (qo_some (qe_neg qe_int))) qe_str))
  (qss_cons (qs_set (i := 2) sc_read_board.nd rfl (Or.inl rfl) (qe_call tk rfl c_read_cups hr rfl (qa_cons (qe_ix rfl (qe_var (pv 1)) qe_int) qa_nil) (len_cons len_nil)))
  (qss_cons (qs_if (qt_cmp (S := S) op_isN oq_isN (qe_var (pv 2)) qe_non (nomark _))
  (qss_one (qs_txt TM rfl hr tk (qa_cons qe_int qa_nil)))
  qss_nil)
  (qss_cons (qs_setLc (i := 3) (own := [("line", 5)]) (t := (.name 5)) rfl sc_read_board.nd rfl rfl (sw_true rfl rfl rfl (by decide +kernel)) (qi_seq rfl (qe_sl rfl (qe_var (pv 1)) (qo_some qe_int) qo_none)) (blkOk_by (N := ["text", "lines", "cups", "wheels", "board", "line"]) (sc := (defScope s_read_board)) (by decide +kernel)) (fun _ _ _ _ _ => (pg_name (i := 5) sc_read_board.nd rfl (Or.inl rfl))) (fun _ _ _ _ _ => qts_nil) (fun _ _ _ _ _ => (qe_call LamX.takes0 rfl c_read_wheel hr rfl (qa_cons (qe_var (pv 5)) qa_nil) (len_cons len_nil))))
  (qss_cons (qs_if (qt_cmp (S := S) (op_inD (hu65 hr)) oq_inD qe_non (qe_var (pv 3)) rfl)
  (qss_one (qs_txt TM rfl hr tk (qa_cons (qe_bin (S := S) op_addA oq_add (qe_bm (S := S) rfl PySem.F.plainAttrs_list PySem.F.slot_list_index PySem.F.type_list_index (mt_indexD (hu65 hr)) mq_indexD (qe_var (pv 3)) (qa_cons qe_non qa_nil)) qe_int) qa_nil)))
  qss_nil)
  (qss_cons (qs_set (i := 4) sc_read_board.nd rfl (Or.inl rfl) (qe_tup (qa_cons (qe_callTy (S := S) call_tupleA cq_tuple rfl B.tuple_ (by decide +kernel) (qa_cons (qe_var (pv 3)) qa_nil)) (qa_cons (qe_var (pv 2)) qa_nil))))
  (qss_cons (qs_if (qt_not (qt_val (qe_call tk rfl c_is_board hr rfl (qa_cons (qe_var (pv 4)) qa_nil) (len_cons len_nil))))
  (qss_one (qs_txt TM rfl hr tk (qa_cons (qe_bin (S := S) op_addA oq_add (qe_callB (S := S) call_lenA cq_len rfl B.len_ (by decide +kernel) (qa_cons (qe_var (pv 1)) qa_nil)) qe_int) qa_nil)))
  qss_nil)
  (qss_one (qs_ret (qe_var (pv 4))))))))))))))
theorem ok_law {c Pt CM : Addr} {f : Addr} {fd : FuncData} (F : Fun S.K "law" "law" s_law f fd) (hc : fd.code = .ref c) (B : Bi mg) (G : Cls21 mg S.C) (xs : XCs S CM []) (hM : mg "MarbleError" = some (.ref CM)) (TB : LamX.TabB base mg c Pt) (hT : S.T = [(Pt, lamQ "law")]) (xy : XText S.K S.C CM) (D__law_said : HX.Def S.K mg "_law_said" s__law_said ["_law_call"]) (cw : CalE P w S.K mg base k "_law_word" "_law_e" (spWordT S.K S.C)) (c__law_spoilt : CalQ S P w mg base k "_law_spoilt" ["_law_pen_here", "_law_text_here"] m_law_spoilt_0c0464) (c_read_board : CalQ S P w mg base k "read_board" ["text"] m_read_board_ba71bd) (c__law_read : CalQ S P w mg base k "_law_read" ["_law_text_here"] m_law_read_1c5c72) (c__law_odd : CalQ S P w mg base k "_law_odd" ["_law_pen_here"] m_law_odd_ee5538) (c__law_text : CalQ S P w mg base k "_law_text" ["_law_board_here"] m_law_text_24ce07) (c__law_board : CalQ S P w mg base k "_law_board" ["_law_pen_here", "_law_most"] m_law_board_049704) (c__law_pen : CalQ S P w mg base k "_law_pen" ["_law_cell"] m_law_pen_579b16) (c__law_cell_at : CalQ S P w mg base k "_law_cell_at" ["_law_script", "_law_k"] m_law_cell_at_e50a56) : FnG P w S.K mg base (k + 3) f fd ["_law_script"] (spG S 1 m_law_f49a3b) :=
  Fun.okGCQ F hc sc_law (fun A outer s H E en hr2 => by
  have hr : Room k _ := hr2.mono (by omega)
  exact (qss_cons (qs_set (i := 1) sc_law.nd rfl (Or.inl rfl) (qe_lst (qa_cons qe_str (qa_cons qe_str (qa_cons qe_str (qa_cons qe_str (qa_cons qe_str (qa_cons qe_str (qa_cons qe_str qa_nil)))))))))
  (qss_cons (qs_set (i := 1) sc_law.nd rfl (Or.inl rfl) (qe_bin (S := S) op_addA oq_add (qe_var (pv 1)) (qe_lst (qa_cons qe_str (qa_cons qe_str (qa_cons qe_str (qa_cons qe_str (qa_cons qe_str qa_nil))))))))
  (qss_cons (qs_set (i := 1) sc_law.nd rfl (Or.inl rfl) (qe_bin (S := S) op_addA oq_add (qe_var (pv 1)) (qe_lst (qa_cons qe_str (qa_cons qe_str (qa_cons qe_str (qa_cons qe_str qa_nil)))))))
  (qss_cons (qs_set (i := 1) sc_law.nd rfl (Or.inl rfl) (qe_bin (S := S) op_addA oq_add (qe_var (pv 1)) (qe_lst (qa_cons qe_str (qa_cons qe_str (qa_cons qe_str (qa_cons qe_str qa_nil)))))))
  (qss_cons (qs_for (t := (.name 2)) PassesOwn.never rfl (qi_range1 rfl B.range_ (qa_cons (qe_callB (S := S) (call_max2 rfl) cq_max2 rfl B.max_ (by decide +kernel) (qa_cons qe_int (qa_cons (qe_callB (S := S) (call_min2 rfl) cq_min2 rfl B.min_ (by decide +kernel) (qa_cons (qe_callB (S := S) call_lenA cq_len rfl B.len_ (by decide +kernel) (qa_cons (qe_var (pv 0)) qa_nil)) (qa_cons qe_int qa_nil))) qa_nil))) qa_nil)) (pg_name (i := 2) sc_law.nd rfl (Or.inl rfl))
  (qss_cons (qs_set (i := 3) sc_law.nd rfl (Or.inr rfl) (qe_call LamX.takes0 rfl c__law_pen hr rfl (qa_cons (qe_call LamX.takes0 rfl c__law_cell_at hr rfl (qa_cons (qe_var (pv 0)) (qa_cons (qe_var (pv 2)) qa_nil)) (len_cons (len_cons len_nil))) qa_nil) (len_cons len_nil)))
  (qss_cons (qs_set (i := 4) sc_law.nd rfl (Or.inr rfl) (qe_call LamX.takes0 rfl c__law_text hr rfl (qa_cons (qe_call LamX.takes0 rfl c__law_board hr rfl (qa_cons (qe_var (pv 3)) (qa_cons qe_int qa_nil)) (len_cons (len_cons len_nil))) qa_nil) (len_cons len_nil)))
  (qss_cons (qs_set (i := 5) sc_law.nd rfl (Or.inl rfl) (qe_bin (S := S) op_addA oq_add (qe_var (pv 1)) (qe_lst (qa_cons (qe_var (pv 4)) (qa_cons qe_non (qa_cons qe_int (qa_cons (qe_lst (qa_cons (qe_var (pv 4)) qa_nil)) (qa_cons qe_dct0 (qa_cons (qe_call LamX.takes0 rfl c__law_odd hr rfl (qa_cons (qe_var (pv 3)) qa_nil) (len_cons len_nil)) qa_nil)))))))))
  (qss_one (qs_for (t := (.name 6)) PassesOwn.never rfl (qi_seq rfl (qe_bin (S := S) op_addA oq_add (qe_var (pv 5)) (qe_lc (own := [("_law_turn", 9)]) (t := (.name 9)) rfl sc_law.nd (qi_range1 rfl B.range_ (qa_cons qe_int qa_nil)) (blkOk_by (N := ["_law_script", "_law_fixed", "_law_k", "_law_pen_here", "_law_sheet", "_law_things", "_law_thing", "_law_due", "_law_lap", "_law_turn"]) (sc := (defScope s_law)) (by decide +kernel)) (fun _ _ _ _ _ => (pg_name (i := 9) sc_law.nd rfl (Or.inl rfl))) (fun _ _ _ _ _ => qts_nil) (fun _ _ _ _ _ => (qe_call LamX.takes0 rfl c__law_spoilt hr rfl (qa_cons (qe_var (pv 3)) (qa_cons (qe_var (pv 4)) qa_nil)) (len_cons (len_cons len_nil))))))) (pg_name (i := 6) sc_law.nd rfl (Or.inr rfl))
  (qss_cons (qs_set (i := 7) sc_law.nd rfl (Or.inl rfl) (qe_call LamX.takes0 rfl c__law_read hr rfl (qa_cons (qe_var (pv 6)) qa_nil) (len_cons len_nil)))
  (qss_one (qs_for (t := (.name 8)) PassesOwn.never rfl (qi_range1 rfl B.range_ (qa_cons qe_int qa_nil)) (pg_name (i := 8) sc_law.nd rfl (Or.inl rfl))
  (qss_one (qs_if (qt_cmp (S := S) (op_neD (hu64 hr)) oq_ne (qe_callB (S := S) (call_reprD (entx_of en) (hu150 hr)) cq_reprD rfl B.repr_ (by decide +kernel) (qa_cons (qe_lamT xs xy (by rw [hT]; exact pe__law_said (k := k) D__law_said cw G B hM TB rfl (by rw [qual_cx]; exact List.mem_singleton.mpr rfl) (fun p hp _ => by rw [qual_cx, List.mem_singleton.mp hp]) hr2 rfl (LamX.lamS_by (sc := defScope s_law) (by decide +kernel)) rfl (fun _ _ _ _ _ => rfl) (fun A outer s H E f c hr => (qe_call (takes_of rfl rfl rfl rfl) rfl c_read_board hr rfl (qa_cons (qe_var (pv 6)) qa_nil) (len_cons len_nil))))) qa_nil)) (qe_callB (S := S) (call_reprD (entx_of en) (hu150 hr)) cq_reprD rfl B.repr_ (by decide +kernel) (qa_cons (qe_var (pv 7)) qa_nil)) (nomark _))
  (qss_one (qs_ret qe_bl))
  qss_nil)))))))))))
  (qss_one (qs_ret qe_bl))))))))
theorem law_all {t_MOST_WHEELS : Tok} {t_MOST_CUPS : Tok} {t_MOST_STEPS : Tok} {t_MOST_ENDS : Tok} {t_MOST_FIGURES : Tok} {t_FIGURES : Tok} {c Pt CM : Addr} {f : Addr} {fd : FuncData} (F : Fun S.K "law" "law" s_law f fd) (hc : fd.code = .ref c) (G : Cls21 mg S.C) (xs : XCs S CM []) (hM : mg "MarbleError" = some (.ref CM)) (TB : LamX.TabB base mg c Pt) (hT : S.T = [(Pt, lamQ "law")]) (xy : XText S.K S.C CM) (d__law_word : HX.Def S.K mg "_law_word" s__law_word ["_law_e"]) (d__law_said : HX.Def S.K mg "_law_said" s__law_said ["_law_call"]) (B : Bi mg) (B2 : Bi2 mg) (B4 : Bi4 mg) (B6 : Bi6 mg) (TM : TxtC P S.K mg (S.C 19)) (g_MOST_WHEELS : mg "MOST_WHEELS" = some (.int 6 t_MOST_WHEELS)) (g_MOST_CUPS : mg "MOST_CUPS" = some (.int 4 t_MOST_CUPS)) (g_MOST_STEPS : mg "MOST_STEPS" = some (.int 4 t_MOST_STEPS)) (g_MOST_ENDS : mg "MOST_ENDS" = some (.int 3 t_MOST_ENDS)) (g_MOST_FIGURES : mg "MOST_FIGURES" = some (.int 13 t_MOST_FIGURES)) (g_FIGURES : mg "FIGURES" = some (.str "0123456789" t_FIGURES))
    (d__law_pen : HX.Def S.K mg "_law_pen" s__law_pen ["_law_cell"]) (d__law_text : HX.Def S.K mg "_law_text" s__law_text ["_law_board_here"]) (d__law_cell_at : HX.Def S.K mg "_law_cell_at" s__law_cell_at ["_law_script", "_law_k"]) (d__law_draw : HX.Def S.K mg "_law_draw" s__law_draw ["_law_pen_here", "_law_many"]) (d__law_board : HX.Def S.K mg "_law_board" s__law_board ["_law_pen_here", "_law_most"]) (d__law_figures : HX.Def S.K mg "_law_figures" s__law_figures ["_law_word_here"]) (d__law_line_in : HX.Def S.K mg "_law_line_in" s__law_line_in ["_law_line", "_law_number"]) (d__law_whole : HX.Def S.K mg "_law_whole" s__law_whole ["_law_thing"]) (d__law_within : HX.Def S.K mg "_law_within" s__law_within ["_law_thing", "_law_low", "_law_high"]) (d__law_is_wheel : HX.Def S.K mg "_law_is_wheel" s__law_is_wheel ["_law_thing", "_law_ends"]) (d__law_is_board : HX.Def S.K mg "_law_is_board" s__law_is_board ["_law_thing"]) (d__law_read : HX.Def S.K mg "_law_read" s__law_read ["_law_text_here"]) (d__law_odd : HX.Def S.K mg "_law_odd" s__law_odd ["_law_pen_here"]) (d__law_spoilt : HX.Def S.K mg "_law_spoilt" s__law_spoilt ["_law_pen_here", "_law_text_here"]) (d_is_number_text : HX.Def S.K mg "is_number_text" s_is_number_text ["text"]) (d_read_cups : HX.Def S.K mg "read_cups" s_read_cups ["line"]) (d_read_step : HX.Def S.K mg "read_step" s_read_step ["text"]) (d_read_wheel : HX.Def S.K mg "read_wheel" s_read_wheel ["line"]) (d_has_parts : HX.Def S.K mg "has_parts" s_has_parts ["thing", "least", "most"]) (d_is_whole : HX.Def S.K mg "is_whole" s_is_whole ["thing"]) (d_is_within : HX.Def S.K mg "is_within" s_is_within ["thing", "least", "most"]) (d_is_step : HX.Def S.K mg "is_step" s_is_step ["thing", "ends"]) (d_is_wheel : HX.Def S.K mg "is_wheel" s_is_wheel ["thing", "ends"]) (d_is_board : HX.Def S.K mg "is_board" s_is_board ["thing"]) (d_read_board : HX.Def S.K mg "read_board" s_read_board ["text"]) : FnG P w S.K mg base 9 f fd ["_law_script"] (spG S 1 m_law_f49a3b) := by
  have cw__law_word := ok__law_word (S := S) (P := P) (w := w) (base := base) (k := 0) d__law_word B B4 G
  have c__law_pen := ok__law_pen (S := S) (P := P) (w := w) (base := base) (k := 0) d__law_pen B
  have c__law_text := ok__law_text (S := S) (P := P) (w := w) (base := base) (k := 0) d__law_text B6
  have c__law_cell_at := ok__law_cell_at (S := S) (P := P) (w := w) (base := base) (k := 0) d__law_cell_at B
  have c__law_draw := ok__law_draw (S := S) (P := P) (w := w) (base := base) (k := 0) d__law_draw 
  have c__law_board := ok__law_board (S := S) (P := P) (w := w) (base := base) (k := 1) d__law_board B c__law_draw
  have c__law_figures := ok__law_figures (S := S) (P := P) (w := w) (base := base) (k := 0) d__law_figures B
  have c__law_line_in := ok__law_line_in (S := S) (P := P) (w := w) (base := base) (k := 1) d__law_line_in B c__law_figures
  have c__law_whole := ok__law_whole (S := S) (P := P) (w := w) (base := base) (k := 0) d__law_whole B
  have c__law_within := ok__law_within (S := S) (P := P) (w := w) (base := base) (k := 1) d__law_within c__law_whole
  have c__law_is_wheel := ok__law_is_wheel (S := S) (P := P) (w := w) (base := base) (k := 2) d__law_is_wheel B c__law_within
  have c__law_is_board := ok__law_is_board (S := S) (P := P) (w := w) (base := base) (k := 3) d__law_is_board B c__law_is_wheel (c__law_within.mono (by decide))
  have c__law_read := ok__law_read (S := S) (P := P) (w := w) (base := base) (k := 4) d__law_read B B2 B6 c__law_is_board (c__law_line_in.mono (by decide))
  have c__law_odd := ok__law_odd (S := S) (P := P) (w := w) (base := base) (k := 1) d__law_odd c__law_draw
  have c__law_spoilt := ok__law_spoilt (S := S) (P := P) (w := w) (base := base) (k := 1) d__law_spoilt B c__law_draw
  have c_is_number_text := ok_is_number_text (S := S) (P := P) (w := w) (base := base) (k := 0) d_is_number_text B g_MOST_FIGURES g_FIGURES
  have c_read_cups := ok_read_cups (S := S) (P := P) (w := w) (base := base) (k := 1) d_read_cups B c_is_number_text
  have c_read_step := ok_read_step (S := S) (P := P) (w := w) (base := base) (k := 1) d_read_step B c_is_number_text
  have c_read_wheel := ok_read_wheel (S := S) (P := P) (w := w) (base := base) (k := 2) d_read_wheel B c_read_step
  have c_has_parts := ok_has_parts (S := S) (P := P) (w := w) (base := base) (k := 0) d_has_parts B
  have c_is_whole := ok_is_whole (S := S) (P := P) (w := w) (base := base) (k := 0) d_is_whole B
  have c_is_within := ok_is_within (S := S) (P := P) (w := w) (base := base) (k := 1) d_is_within c_is_whole
  have c_is_step := ok_is_step (S := S) (P := P) (w := w) (base := base) (k := 2) d_is_step B g_MOST_ENDS c_is_within (c_has_parts.mono (by decide))
  have c_is_wheel := ok_is_wheel (S := S) (P := P) (w := w) (base := base) (k := 3) d_is_wheel B g_MOST_STEPS c_is_step (c_has_parts.mono (by decide))
  have c_is_board := ok_is_board (S := S) (P := P) (w := w) (base := base) (k := 4) d_is_board B g_MOST_CUPS g_MOST_WHEELS c_is_wheel (c_is_within.mono (by decide)) (c_has_parts.mono (by decide))
  have c_read_board := ok_read_board (S := S) (P := P) (w := w) (base := base) (k := 5) d_read_board B B6 TM c_is_board (c_read_wheel.mono (by decide)) (c_read_cups.mono (by decide))
  exact ok_law (S := S) (P := P) (w := w) (base := base) (k := 6) F hc B G xs hM TB hT xy d__law_said (cw__law_word.mono (by decide)) (c__law_spoilt.mono (by decide)) (c_read_board.mono (by decide)) (c__law_read.mono (by decide)) (c__law_odd.mono (by decide)) (c__law_text.mono (by decide)) (c__law_board.mono (by decide)) (c__law_pen.mono (by decide)) (c__law_cell_at.mono (by decide))
end
end Q83
set_option maxRecDepth 100000
set_option maxHeartbeats 1000000
namespace QX
open PySem PySem.Spec PyProof.Rows L2 HX
section
variable {α β : Type} {σ : Sa} {M : Mem} {fa fb fc : F D} {ga gb : F Bool} {fs : F (List D)} {g g' : D → D → Mem → Res D} {s1 s2 : FS}
@[simp] theorem bind_ok {x : α} {k : α → Mem → Res β} : (Res.ok x M).bind k = k x M := rfl
@[simp] theorem bind_exc {c : Nat} {f : List (Str × D)} {k : α → Mem → Res β} : (Res.exc c f M : Res α).bind k = .exc c f M := rfl
@[simp] theorem bind_bad {k : α → Mem → Res β} : (Res.bad : Res α).bind k = .bad := rfl
@[simp] theorem bindS_ok {x : α} {k : α → Mem → RS} : (Res.ok x M).bindS σ k = k x M := rfl
@[simp] theorem bindS_exc {c : Nat} {f : List (Str × D)} {k : α → Mem → RS} : (Res.exc c f M : Res α).bindS σ k = .exc c f σ M := rfl
@[simp] theorem bindS_bad {k : α → Mem → RS} : (Res.bad : Res α).bindS σ k = .bad := rfl
@[simp] theorem ev_var {i : Nat} : fVar i σ M = match σ[i]? with | some (some d) => .ok d M | _ => .bad := rfl
@[simp] theorem ev_c {d : D} : fC d σ M = .ok d M := rfl
@[simp] theorem ev_bin : fBin g fa fb σ M = (fa σ M).bind fun x M1 => (fb σ M1).bind fun y M2 => g x y M2 := rfl
@[simp] theorem ev_test : fTest fa σ M = (fa σ M).bind fun d M1 => match d with | .bl b => .ok b M1 | _ => .bad := rfl
@[simp] theorem ev_chain : fChain g g' fa fb fc σ M = (fa σ M).bind fun x M1 => (fb σ M1).bind fun y M2 => (g x y M2).bind fun z M3 => match z with | .bl true => (fc σ M3).bind fun w M4 => g' y w M4 | .bl false => .ok (.bl false) M3 | _ => .bad := rfl
@[simp] theorem ev_andT : fAndT ga gb σ M = (ga σ M).bind fun c M1 => if c = true then gb σ M1 else .ok false M1 := rfl
@[simp] theorem ev_orT : fOrT ga gb σ M = (ga σ M).bind fun c M1 => if c = true then .ok true M1 else gb σ M1 := rfl
@[simp] theorem ev_notT : fNotT ga σ M = (ga σ M).bind fun c M1 => .ok (!c) M1 := rfl
@[simp] theorem ev_and : fAnd fa fb σ M = (fa σ M).bind fun x M1 => match x with | .bl true => fb σ M1 | .bl false => .ok (.bl false) M1 | _ => .bad := rfl
@[simp] theorem ev_or : fOr fa fb σ M = (fa σ M).bind fun x M1 => match x with | .bl true => .ok (.bl true) M1 | .bl false => fb σ M1 | _ => .bad := rfl
@[simp] theorem ev_not : fNot fa σ M = (fa σ M).bind fun x M1 => match x with | .bl b => .ok (.bl (!b)) M1 | _ => .bad := rfl
@[simp] theorem ev_if : fIf ga fa fb σ M = (ga σ M).bind fun c M1 => if c = true then fa σ M1 else fb σ M1 := rfl
@[simp] theorem ev_nil : fNil σ M = .ok [] M := rfl
@[simp] theorem ev_cons : fCons fa fs σ M = (fa σ M).bind fun x M1 => (fs σ M1).bind fun xs M2 => .ok (x :: xs) M2 := rfl
@[simp] theorem ev_tup : fTup fs σ M = (fs σ M).bind fun ds M1 => if few ds.length = true then .ok (.tup ds) M1 else .bad := rfl
@[simp] theorem ev_lst : fLst fs σ M = (fs σ M).bind fun ds M1 => if few ds.length = true then .ok (.lst ds) M1 else .bad := rfl
@[simp] theorem ev_new : fNew fs σ M = (fs σ M).bind fun ds M1 => if few ds.length = true then .ok (.ref M1.length) (M1 ++ [.lst ds]) else .bad := rfl
@[simp] theorem ev_nopart : fNoPart σ M = .ok none M := rfl
@[simp] theorem ev_part : fPart fa σ M = (fa σ M).bind fun d M1 => match d with | .int i => .ok (some i) M1 | _ => .bad := rfl
@[simp] theorem ev_sl {fl fh : F (Option Int)} : fSl fa fl fh σ M = (fa σ M).bind fun d M1 => (fl σ M1).bind fun l M2 => (fh σ M2).bind fun h M3 => gSl d l h M3 := rfl
@[simp] theorem ev_iter : fIter fa σ M = (fa σ M).bind gIter := rfl
@[simp] theorem ev_it {q : List D → Mem → Res Ita} : fIt q fs σ M = (fs σ M).bind q := rfl
@[simp] theorem ev_call {m : List D → Mem → Res D} : fCall m fs σ M = (fs σ M).bind m := rfl
@[simp] theorem ev_un {q : D → Mem → Res D} : fUn q fa σ M = (fa σ M).bind q := rfl
@[simp] theorem ev_meth {q : D → List D → Mem → Res D} : fMeth q fa fs σ M = (fa σ M).bind fun d M1 => if isL M1 d = true then (fs σ M1).bind fun ds M2 => q d ds M2 else .bad := rfl
@[simp] theorem ev_next : sNext σ M = .ok (.nx σ) M := rfl
@[simp] theorem ev_ret : sRet fa σ M = (fa σ M).bindS σ fun d M1 => .ok (.rt d) M1 := rfl
@[simp] theorem ev_expr : sExpr fa σ M = (fa σ M).bindS σ fun _ M1 => .ok (.nx σ) M1 := rfl
@[simp] theorem ev_set {i : Nat} : sSet i fa σ M = (fa σ M).bindS σ fun d M1 => .ok (.nx (σ.set i (some d))) M1 := rfl
@[simp] theorem ev_asg {t : Tg} : sAsg fa t σ M = (fa σ M).bindS σ fun d M1 => match t.put (.d d) σ with | some σ1 => .ok (.nx σ1) M1 | none => .bad := rfl
@[simp] theorem ev_par {i j : Nat} : sPar i j fs σ M = (fs σ M).bindS σ fun ds M1 => match ds with | [a, b] => .ok (.nx ((σ.set i (some a)).set j (some b))) M1 | _ => .bad := rfl
@[simp] theorem ev_sif : sIf ga s1 s2 σ M = (ga σ M).bindS σ fun c M1 => if c = true then s1 σ M1 else s2 σ M1 := rfl
@[simp] theorem ev_seq : sSeq s1 s2 σ M = match s1 σ M with | .ok (.nx σ1) M1 => s2 σ1 M1 | r => r := rfl
@[simp] theorem ev_for {fi : F Ita} {t : Tg} : sFor fi t s1 σ M = (fi σ M).bindS σ fun it M1 => forL t s1 it.chk M1.length it.items σ M1 := rfl
@[simp] theorem ev_setIx : sSetIx fa fb fc σ M = (fc σ M).bindS σ fun v M1 => (fa σ M1).bindS σ fun o M2 => (fb σ M2).bindS σ fun i M3 => match gSetIx o i v M3 with | some M4 => .ok (.nx σ) M4 | none => .bad := rfl
end
section
variable {M : Mem} {ds es : List D} {i j : Int} {n : Nat} {a b : Str} {p q : Bool}
@[simp] theorem seqOf_tup : seqOf M (.tup ds) = some ds := rfl
@[simp] theorem seqOf_lst : seqOf M (.lst ds) = some ds := rfl
@[simp] theorem seqOf_scr {ns : List Int} : seqOf M (.scr ns) = some (ns.map .int) := rfl
@[simp] theorem seqOf_ref : seqOf M (.ref n) = match M[n]? with | some (.lst ds) => some ds | _ => none := rfl
@[simp] theorem listOf_lst : listOf M (.lst ds) = some ds := rfl
@[simp] theorem listOf_ref : listOf M (.ref n) = match M[n]? with | some (.lst ds) => some ds | _ => none := rfl
@[simp] theorem listOf_tup : listOf M (.tup ds) = none := rfl
@[simp] theorem isL_lst : isL M (.lst ds) = true := rfl
@[simp] theorem isL_ref : isL M (.ref n) = (match M[n]? with | some (.lst ds) => some ds | _ => none : Option (List D)).isSome := rfl
@[simp] theorem gIx_tup : gIx (.tup ds) (.int i) M = match atI ds i with | some d => .ok d M | none => .bad := rfl
@[simp] theorem gIx_lst : gIx (.lst ds) (.int i) M = match atI ds i with | some d => .ok d M | none => .bad := rfl
@[simp] theorem gIx_scr {ns : List Int} : gIx (.scr ns) (.int i) M = match atI (ns.map D.int) i with | some d => .ok d M | none => .bad := rfl
theorem gIx_ref (h : M[n]? = some (.lst ds)) : gIx (.ref n) (.int i) M = match atI ds i with | some d => .ok d M | none => .bad := by
  have e : seqOf M (.ref n) = some ds := by rw [seqOf_ref, h]
  show (match seqOf M (.ref n) with | some ds => (match atI ds i with | some d => Res.ok d M | none => Res.bad) | none => Res.bad) = _
  rw [e]
@[simp] theorem gAdd_int : gAdd (.int i) (.int j) M = .ok (.int (i + j)) M := rfl
@[simp] theorem gAdd_tup : gAdd (.tup ds) (.tup es) M = if few (ds.length + es.length) = true then .ok (.tup (ds ++ es)) M else .bad := rfl
@[simp] theorem gAdd_lst : gAdd (.lst ds) (.lst es) M = if few (ds.length + es.length) = true then .ok (.lst (ds ++ es)) M else .bad := rfl
@[simp] theorem gAdd_str : gAdd (.str a) (.str b) M = if few (a.length + b.length) = true then .ok (.str (a ++ b)) M else .bad := rfl
@[simp] theorem gSub_int : gSub (.int i) (.int j) M = .ok (.int (i - j)) M := rfl
@[simp] theorem gMul_int : gMul (.int i) (.int j) M = if mulOk i j = true then .ok (.int (i * j)) M else .bad := rfl
@[simp] theorem gMul_tup : gMul (.tup ds) (.int i) M = if (thou i && Nat.ble ds.length 1000) = true then .ok (.tup (List.replicate i.toNat ds).flatten) M else .bad := rfl
@[simp] theorem gMul_lst : gMul (.lst ds) (.int i) M = if (thou i && Nat.ble ds.length 1000) = true then .ok (.lst (List.replicate i.toNat ds).flatten) M else .bad := rfl
@[simp] theorem gMod_int : gMod (.int i) (.int j) M = if decide (0 < j) = true then .ok (.int (i % j)) M else .bad := rfl
@[simp] theorem gFdiv_int : gFdiv (.int i) (.int j) M = if (decide (0 < j) && Nat.blt j.natAbs.log2 9000) = true then .ok (.int (i / j)) M else .bad := rfl
@[simp] theorem gCmp_int {f : Int → Int → Bool} : gCmp f (.int i) (.int j) M = .ok (.bl (f i j)) M := rfl
@[simp] theorem gNeg_int : gNeg (.int i) M = .ok (.int (-i)) M := rfl
@[simp] theorem gLen_tup : gLen [.tup ds] M = .ok (.int ds.length) M := rfl
@[simp] theorem gLen_lst : gLen [.lst ds] M = .ok (.int ds.length) M := rfl
@[simp] theorem gLen_scr {ns : List Int} : gLen [.scr ns] M = .ok (.int ns.length) M := by
  show Res.ok (D.int ((ns.map D.int).length : Nat)) M = _
  rw [List.length_map]
@[simp] theorem gTuple_tup : gTuple [.tup ds] M = .ok (.tup ds) M := rfl
@[simp] theorem gTuple_lst : gTuple [.lst ds] M = .ok (.tup ds) M := rfl
theorem gTuple_ref (h : M[n]? = some (.lst ds)) : gTuple [.ref n] M = .ok (.tup ds) M := by
  show (match (match M[n]? with | some (.lst ds) => some ds | _ => none : Option (List D)) with | some ds => Res.ok (D.tup ds) M | none => .bad) = _
  rw [h]
@[simp] theorem gMax2_int : gMax2 [.int i, .int j] M = .ok (.int (if j > i then j else i)) M := rfl
@[simp] theorem gMin2_int : gMin2 [.int i, .int j] M = .ok (.int (if j < i then j else i)) M := rfl
@[simp] theorem gIter_tup : gIter (.tup ds) M = .ok ⟨ds.map .d, fun _ => true⟩ M := rfl
@[simp] theorem gIter_lst : gIter (.lst ds) M = .ok ⟨ds.map .d, fun _ => true⟩ M := rfl
@[simp] theorem gRange1_int : gRange1 [.int j] M = if mid j = true then .ok ⟨nums 0 j.toNat, fun _ => true⟩ M else .bad := rfl
@[simp] theorem gIsN_non {b : Bool} : gIsN b .non .non M = .ok (.bl (!b)) M := rfl
@[simp] theorem gIsN_int {b : Bool} : gIsN b (.int i) .non M = .ok (.bl b) M := rfl
@[simp] theorem gIsN_tup {b : Bool} : gIsN b (.tup ds) .non M = .ok (.bl b) M := rfl
@[simp] theorem gInt_int : gInt [.int i] M = .ok (.int i) M := rfl
@[simp] theorem gInt_bl : gInt [.bl p] M = .ok (.int (if p then 1 else 0)) M := rfl
theorem gAppend_ref {d : D} (h : M[n]? = some (.lst ds)) (hl : ds.length < 16777216) : gAppend (.ref n) [d] M = .ok .non (M.set n (.lst (ds ++ [d]))) := by
  show (match M[n]? with | some (.lst ds) => if Nat.blt ds.length 16777216 = true then Res.ok D.non (M.set n (.lst (ds ++ [d]))) else Res.bad | _ => Res.bad) = _
  rw [h]
  dsimp only
  rw [if_pos (by rw [Nat.blt_eq]; exact hl)]
@[simp] theorem put_name {i : Nat} {d : D} {σ : Sa} : (Tg.name i).put (.d d) σ = some (σ.set i (some d)) := rfl
@[simp] theorem put_tup {is : List Nat} {σ : Sa} : (Tg.tup is).put (.d (.tup ds)) σ = if ds.length == is.length then some (setAll σ is ds) else none := rfl
@[simp] theorem put_pr {is : List Nat} {σ : Sa} : (Tg.tup is).put (.pr ds) σ = if ds.length == is.length then some (setAll σ is ds) else none := rfl
theorem atI_nn {α : Type} {xs : List α} {k : Int} (h : 0 ≤ k) : atI xs k = xs[k.toNat]? := by
  unfold atI ixN
  rw [if_pos h]
  by_cases hl : k < (xs.length : Int)
  · rw [if_pos hl]; rfl
  · rw [if_neg hl]
    exact (List.getElem?_eq_none (by omega)).symm
@[simp] theorem atI_0 {α : Type} {x : α} {xs : List α} : atI (x :: xs) 0 = some x := by rw [atI_nn (by decide)]; rfl
@[simp] theorem atI_1 {α : Type} {x y : α} {xs : List α} : atI (x :: y :: xs) 1 = some y := by rw [atI_nn (by decide)]; rfl
@[simp] theorem atI_2 {α : Type} {x y z : α} {xs : List α} : atI (x :: y :: z :: xs) 2 = some z := by rw [atI_nn (by decide)]; rfl
@[simp] theorem gEq_int {b : Bool} : gEq b (.int i) (.int j) M = .ok (.bl (if b = true then !decide (i = j) else decide (i = j))) M := by
  have e : PyData.eqv (.int i) (.int j) = decide (i = j) := by
    simp [PyData.eqv]
    try rfl
  show (if (SeqAt.shaped (.int i) && SeqAt.shaped (.int j)) = true then Res.ok (D.bl (if b = true then !PyData.eqv (.int i) (.int j) else PyData.eqv (.int i) (.int j))) M else Res.bad) = _
  rw [e]
  rfl
end
section
variable {σ σ1 : Sa} {M M1 M2 : Mem} {fa fb : F D} {ga gb : F Bool} {s1 s2 : FS} {p q : Bool} {d : D}
theorem and_ev (ha : fa σ M = .ok (.bl p) M) (hb : p = true → fb σ M = .ok (.bl q) M) : fAnd fa fb σ M = .ok (.bl (p && q)) M := by
  rw [ev_and, ha]
  cases p with
  | false => rfl
  | true => exact hb rfl
theorem or_ev (ha : ga σ M = .ok p M) (hb : p = false → gb σ M = .ok q M) : fOrT ga gb σ M = .ok (p || q) M := by
  rw [ev_orT, ha]
  cases p with
  | true => rfl
  | false => exact hb rfl
theorem andT_ev (ha : ga σ M = .ok p M) (hb : p = true → gb σ M = .ok q M) : fAndT ga gb σ M = .ok (p && q) M := by
  rw [ev_andT, ha]
  cases p with
  | false => rfl
  | true => exact hb rfl
theorem not_ev (ha : ga σ M = .ok p M) : fNotT ga σ M = .ok (!p) M := by rw [ev_notT, ha]; rfl
theorem test_ev (ha : fa σ M = .ok (.bl p) M1) : fTest fa σ M = .ok p M1 := by rw [ev_test, ha]; rfl
theorem sif_ev (ha : ga σ M = .ok p M1) : sIf ga s1 s2 σ M = if p = true then s1 σ M1 else s2 σ M1 := by rw [ev_sif, ha]; rfl
theorem seq_nx (h : s1 σ M = .ok (.nx σ1) M1) : sSeq s1 s2 σ M = s2 σ1 M1 := by rw [ev_seq, h]
theorem seq_rt (h : s1 σ M = .ok (.rt d) M1) : sSeq s1 s2 σ M = .ok (.rt d) M1 := by rw [ev_seq, h]
theorem seq_exc {c : Nat} {fs : List (Str × D)} (h : s1 σ M = .exc c fs σ1 M1) : sSeq s1 s2 σ M = .exc c fs σ1 M1 := by rw [ev_seq, h]
theorem set_ev {i : Nat} (h : fa σ M = .ok d M1) : sSet i fa σ M = .ok (.nx (σ.set i (some d))) M1 := by rw [ev_set, h]; rfl
theorem ret_ev (h : fa σ M = .ok d M1) : sRet fa σ M = .ok (.rt d) M1 := by rw [ev_ret, h]; rfl
theorem expr_ev (h : fa σ M = .ok d M1) : sExpr fa σ M = .ok (.nx σ) M1 := by rw [ev_expr, h]; rfl
theorem asg_ev {t : Tg} (h : fa σ M = .ok d M1) (ht : t.put (.d d) σ = some σ1) : sAsg fa t σ M = .ok (.nx σ1) M1 := by rw [ev_asg, h]; simp only [bindS_ok, ht]
theorem call_ev {m : List D → Mem → Res D} {fs : F (List D)} {ds : List D} (h : fs σ M = .ok ds M1) : fCall m fs σ M = m ds M1 := by rw [ev_call, h]; rfl
end
theorem run_rt {n k : Nat} {b : FS} {ds : List D} {M M1 : Mem} {d : D} (hl : ds.length = k) (h : b (startA n ds) M = .ok (.rt d) M1) : runT n k b ds M = trimR M.length (.ok d M1) := by
  unfold runT runD
  rw [h]
  simp [hl]
theorem run_exc {n k c : Nat} {b : FS} {ds : List D} {M M1 : Mem} {σ : Sa} {fs : List (Str × D)} (hl : ds.length = k) (h : b (startA n ds) M = .exc c fs σ M1) : runT n k b ds M = trimR M.length (.exc c fs M1) := by
  unfold runT runD
  rw [h]
  simp [hl]
end QX
set_option maxRecDepth 100000
set_option maxHeartbeats 1000000
namespace QX
open PySem PySem.Spec PyProof.Rows L2 HX
def isW : D → Bool
  | .int _ => true
  | _ => false
def D.ok : D → Bool
  | .scr _ => false
  | .adr _ => false
  | .ref _ => false
  | _ => true
theorem m_is_whole_eq {d : D} {M : Mem} (h : d.ok = true) : m_is_whole [d] M = .ok (.bl (isW d)) M := by
  refine (run_rt (d := .bl (isW d)) (M1 := M) rfl ?_).trans (trim_id rfl)
  cases d <;> first | (cases h; done) | (simp [b_is_whole, startA, gIsi, D.ty, Ty.name, Ty.is, isW])
def inB (a b : Int) : D → Bool
  | .int i => decide (a ≤ i) && decide (i ≤ b)
  | _ => false
theorem m_is_within_eq {d : D} {a b : Int} {M : Mem} (h : d.ok = true) : m_is_within [d, .int a, .int b] M = .ok (.bl (inB a b d)) M := by
  refine (run_rt (d := .bl (inB a b d)) (M1 := M) rfl ?_).trans (trim_id rfl)
  cases d with
  | int i =>
    by_cases h1 : a ≤ i <;> simp [b_is_within, startA, m_is_whole_eq h, isW, inB, cLe, h1]
  | scr _ => cases h
  | adr _ => cases h
  | ref _ => cases h
  | _ => simp [b_is_within, startA, m_is_whole_eq h, isW, inB]
def partsB (a b : Int) : D → Bool
  | .tup ds => decide (a ≤ (ds.length : Int)) && decide ((ds.length : Int) ≤ b)
  | _ => false
theorem m_has_parts_eq {d : D} {a b : Int} {M : Mem} (h : d.ok = true) : m_has_parts [d, .int a, .int b] M = .ok (.bl (partsB a b d)) M := by
  refine (run_rt (d := .bl (partsB a b d)) (M1 := M) rfl ?_).trans (trim_id rfl)
  cases d with
  | tup ds =>
    by_cases h1 : a ≤ (ds.length : Int) <;> simp [b_has_parts, startA, gIsi, D.ty, Ty.name, Ty.is, partsB, cLe, h1]
  | scr _ => cases h
  | adr _ => cases h
  | ref _ => cases h
  | _ => simp [b_has_parts, startA, gIsi, D.ty, Ty.name, Ty.is, partsB]
theorem blsOf_map {α : Type} (f : α → Bool) : ∀ xs : List α, blsOf (xs.map fun x => D.bl (f x)) = some (xs.map f)
  | [] => rfl
  | x :: xs => by
    show (match blsOf (xs.map fun x => D.bl (f x)) with | some bs => some (f x :: bs) | none => none) = _
    rw [blsOf_map f xs]
    rfl
theorem gAll_map {α : Type} {M : Mem} (f : α → Bool) (xs : List α) : gAll [.lst (xs.map fun x => D.bl (f x))] M = .ok (.bl (xs.all f)) M := by
  show (match blsOf (xs.map fun x => D.bl (f x)) with | some bs => Res.ok (D.bl (bs.all id)) M | none => .bad) = _
  rw [blsOf_map]
  dsimp only
  rw [List.all_map]
  rfl
theorem run_pure {n k : Nat} {f : F D} {ds : List D} {M : Mem} {d : D} (hl : ds.length = k) (h : f (startA n ds) M = .ok d M) : runT n k (sRet f) ds M = .ok d M :=
  (run_rt hl (by rw [ev_ret, h]; rfl)).trans (trim_id rfl)
theorem all_comp {fa : F D} {vs : List Nat} {i : Nat} {e : F D} {σ : Sa} {M : Mem} {ds : List D} (f : D → Bool) (ha : fa σ M = .ok (.tup ds) M) (hw : Wf M) (hl : ds.length ≤ 1000000)
    (he : ∀ d ∈ ds, ∀ M', Wf M' → M.length < M'.length → e ((wipeA σ vs).set i (some d)) M' = .ok (.bl (f d)) M') : fCall gAll (fCons (fTrim (fCompC (fIter fa) vs (.name i) fYes e)) fNil) σ M = .ok (.bl (ds.all f)) M := by
  have h := comp_pure (fi := fIter fa) (vs := vs) (t := .name i) (e := e) (σ := σ) (M := M) (it := ⟨ds.map .d, fun _ => true⟩) (fun im => match im with | .d d => .bl (f d) | .pr _ => .non) (by rw [ev_iter, ha]; rfl) (fun _ => rfl) hw (by simpa using hl) (fun im him => by
    obtain ⟨d, hd, rfl⟩ := List.mem_map.mp him
    exact ⟨rfl, _, rfl, fun M' w1 w2 => he d hd M' w1 w2⟩)
  rw [ev_call, ev_cons, h]
  dsimp only [bind_ok, ev_nil]
  rw [List.map_map]
  exact gAll_map f ds
mutual
def D.dok : D → Bool
  | .scr _ => false
  | .adr _ => false
  | .ref _ => false
  | .tup ds => D.dokA ds
  | .lst ds => D.dokA ds
  | .dct _ ds => D.dokA ds
  | _ => true
def D.dokA : List D → Bool
  | [] => true
  | d :: ds => D.dok d && D.dokA ds
end
theorem dok_ok {d : D} (h : d.dok = true) : d.ok = true := by cases d <;> first | rfl | (simp [D.dok] at h)
theorem dokA_mem : ∀ {ds : List D}, D.dokA ds = true → ∀ d ∈ ds, d.dok = true
  | [], _, d, hd => by simp at hd
  | x :: xs, h, d, hd => by
    simp only [D.dokA, Bool.and_eq_true] at h
    rcases List.mem_cons.mp hd with rfl | z
    · exact h.1
    · exact dokA_mem h.2 d z
def stepB (n : Int) : D → Bool
  | .tup ds => partsB 0 3 (.tup ds) && ds.all (inB 0 (n - 1))
  | _ => false
theorem partsB_len {a b : Int} {ds : List D} (h : partsB a b (.tup ds) = true) : (ds.length : Int) ≤ b := by
  simp only [partsB, Bool.and_eq_true, decide_eq_true_eq] at h
  exact h.2
theorem partsB_not {a b : Int} {d : D} (h : ∀ ds, d ≠ .tup ds) : partsB a b d = false := by
  cases d <;> first | rfl | exact absurd rfl (h _)
theorem m_is_step_eq {d : D} {n : Int} {M : Mem} (h : d.dok = true) (hw : Wf M) : m_is_step [d, .int n] M = .ok (.bl (stepB n d)) M := by
  refine run_pure rfl ?_
  have h1 : fCall m_has_parts (fCons (fVar 0) (fCons (fC (.int 0)) (fCons (fC (.int 3)) fNil))) (startA 3 [d, .int n]) M = .ok (.bl (partsB 0 3 d)) M := by simp [startA, m_has_parts_eq (dok_ok h)]
  cases d with
  | tup ds =>
    refine and_ev h1 fun hp => ?_
    have hl := partsB_len hp
    exact all_comp (inB 0 (n - 1)) rfl hw (by omega) (fun d hd M' _ _ => by
      simp [wipeA, startA, m_is_within_eq (dok_ok (dokA_mem (by simpa only [D.dok] using h) d hd))])
  | _ =>
    rw [partsB_not (fun _ z => by cases z)] at h1
    exact and_ev (q := false) h1 fun hp => by cases hp
def wheelB (n : Int) : D → Bool
  | .tup ds => partsB 1 4 (.tup ds) && ds.all (stepB n)
  | _ => false
theorem m_is_wheel_eq {d : D} {n : Int} {M : Mem} (h : d.dok = true) (hw : Wf M) : m_is_wheel [d, .int n] M = .ok (.bl (wheelB n d)) M := by
  refine run_pure rfl ?_
  have h1 : fCall m_has_parts (fCons (fVar 0) (fCons (fC (.int 1)) (fCons (fC (.int 4)) fNil))) (startA 3 [d, .int n]) M = .ok (.bl (partsB 1 4 d)) M := by simp [startA, m_has_parts_eq (dok_ok h)]
  cases d with
  | tup ds =>
    refine and_ev h1 fun hp => ?_
    have hl := partsB_len hp
    exact all_comp (stepB n) rfl hw (by omega) (fun d hd M' w' _ => by
      simp [wipeA, startA, m_is_step_eq (dokA_mem (by simpa only [D.dok] using h) d hd) w'])
  | _ =>
    rw [partsB_not (fun _ z => by cases z)] at h1
    exact and_ev (q := false) h1 fun hp => by cases hp
def wheelsB (w c : D) : Bool := match w, c with
  | .tup ws, .int k => ws.all (wheelB ((ws.length : Int) + k))
  | _, _ => false
def boardB : D → Bool
  | .tup [w, c] => partsB 1 6 w && (inB 0 4 c && wheelsB w c)
  | _ => false
theorem m_is_board_eq {d : D} {M : Mem} (h : d.dok = true) (hw : Wf M) : m_is_board [d] M = .ok (.bl (boardB d)) M := by
  have hd := dok_ok h
  refine (run_rt (d := .bl (boardB d)) (M1 := M) rfl ?_).trans (trim_id rfl)
  unfold b_is_board
  have h1 : fNotT (fTest (fCall m_has_parts (fCons (fVar 0) (fCons (fC (.int 2)) (fCons (fC (.int 2)) fNil))))) (startA 5 [d]) M = .ok (!partsB 2 2 d) M := not_ev (test_ev (by simp [startA, m_has_parts_eq hd]))
  have s1 := sif_ev (s1 := sRet (fC (.bl false))) (s2 := sNext) h1
  cases hp : partsB 2 2 d with
  | false =>
    rw [hp] at s1
    have : boardB d = false := by
      cases d with
      | tup ds =>
        match ds with
        | [] => rfl
        | [_] => rfl
        | [a, b] => simp [partsB] at hp
        | _ :: _ :: _ :: _ => rfl
      | _ => rfl
    rw [this]
    exact seq_rt s1
  | true =>
    rw [hp] at s1
    refine (seq_nx s1).trans ?_
    cases d with
    | tup ds =>
      match ds, hp with
      | [], hp => simp [partsB] at hp
      | [_], hp => simp [partsB] at hp
      | _ :: _ :: _ :: _, hp => simp [partsB] at hp; omega
      | [w, c], _ =>
        simp only [D.dok, D.dokA, Bool.and_eq_true] at h
        obtain ⟨hw1, hc1, _⟩ := h
        refine (seq_nx (σ1 := [some (.tup [w, c]), some w, some c, none, none]) (asg_ev rfl rfl)).trans ?_
        have h2 : fOrT (fNotT (fTest (fCall m_has_parts (fCons (fVar 1) (fCons (fC (.int 1)) (fCons (fC (.int 6)) fNil)))))) (fNotT (fTest (fCall m_is_within (fCons (fVar 2) (fCons (fC (.int 0)) (fCons (fC (.int 4)) fNil)))))) [some (.tup [w, c]), some w, some c, none, none] M = .ok (!partsB 1 6 w || !inB 0 4 c) M :=
          or_ev (not_ev (test_ev (by simp [m_has_parts_eq (dok_ok hw1)]))) fun _ => not_ev (test_ev (by simp [m_is_within_eq (dok_ok hc1)]))
        have s2 := sif_ev (s1 := sRet (fC (.bl false))) (s2 := sNext) h2
        cases hp2 : (!partsB 1 6 w || !inB 0 4 c) with
        | true =>
          rw [hp2] at s2
          have : boardB (.tup [w, c]) = false := by
            rw [Bool.or_eq_true, Bool.not_eq_true', Bool.not_eq_true'] at hp2
            rcases hp2 with z | z <;> simp [boardB, z]
          rw [this]
          exact seq_rt s2
        | false =>
          rw [hp2] at s2
          rw [Bool.or_eq_false_iff, Bool.not_eq_false', Bool.not_eq_false'] at hp2
          refine (seq_nx s2).trans ?_
          cases w with
          | tup ws =>
            cases c with
            | int k =>
              refine (seq_nx (set_ev (M1 := M) (d := .int ((ws.length : Int) + k)) (by simp))).trans (ret_ev ?_)
              have hl := partsB_len hp2.1
              rw [all_comp (wheelB ((ws.length : Int) + k)) (ds := ws) rfl hw (by omega) (fun d hd M' w' _ => by
                simp [wipeA, m_is_wheel_eq (dokA_mem (by simpa only [D.dok] using hw1) d hd) w'])]
              simp [boardB, wheelsB, hp2]
            | _ => simp [inB] at hp2
          | _ => simp [partsB] at hp2
    | _ => simp [partsB] at hp
def stepT (es : List Int) : D := .tup (es.map .int)
def wheelT (w : List (List Int)) : D := .tup (w.map stepT)
def wheelsT (ws : List (List (List Int))) : D := .tup (ws.map wheelT)
def boardT (ws : List (List (List Int))) (c : Int) : D := .tup [wheelsT ws, .int c]
theorem und_step {n : Nat} (es : List Int) : (stepT es).und n = true := by
  simp only [stepT, D.und]
  rw [undA_iff]
  intro d hd
  obtain ⟨e, _, rfl⟩ := List.mem_map.mp hd
  rfl
theorem und_wheel {n : Nat} (w : List (List Int)) : (wheelT w).und n = true := by
  simp only [wheelT, D.und]
  rw [undA_iff]
  intro d hd
  obtain ⟨e, _, rfl⟩ := List.mem_map.mp hd
  exact und_step e
theorem und_wheels {n : Nat} (ws : List (List (List Int))) : (wheelsT ws).und n = true := by
  simp only [wheelsT, D.und]
  rw [undA_iff]
  intro d hd
  obtain ⟨e, _, rfl⟩ := List.mem_map.mp hd
  exact und_wheel e
theorem und_board {n : Nat} (ws : List (List (List Int))) (c : Int) : (boardT ws c).und n = true := by
  simp [boardT, D.und, D.undA, und_wheels]
theorem dokA_iff : ∀ {ds : List D}, D.dokA ds = true ↔ ∀ d ∈ ds, d.dok = true
  | [] => by simp [D.dokA]
  | d :: ds => by simp only [D.dokA, Bool.and_eq_true, dokA_iff (ds := ds), List.mem_cons, forall_eq_or_imp]
theorem dok_step (es : List Int) : (stepT es).dok = true := by
  simp only [stepT, D.dok]
  rw [dokA_iff]
  intro d hd
  obtain ⟨e, _, rfl⟩ := List.mem_map.mp hd
  rfl
theorem dok_wheel (w : List (List Int)) : (wheelT w).dok = true := by
  simp only [wheelT, D.dok]
  rw [dokA_iff]
  intro d hd
  obtain ⟨e, _, rfl⟩ := List.mem_map.mp hd
  exact dok_step e
theorem dok_wheels (ws : List (List (List Int))) : (wheelsT ws).dok = true := by
  simp only [wheelsT, D.dok]
  rw [dokA_iff]
  intro d hd
  obtain ⟨e, _, rfl⟩ := List.mem_map.mp hd
  exact dok_wheel e
theorem dok_board (ws : List (List (List Int))) (c : Int) : (boardT ws c).dok = true := by
  simp [boardT, D.dok, D.dokA, dok_wheels]
end QX
set_option maxRecDepth 100000
set_option maxHeartbeats 1000000
namespace QX
open PySem PySem.Spec PyProof.Rows L2 HX
theorem m_cell_at_eq {ns : List Int} {k : Nat} {M : Mem} : m_law_cell_at_e50a56 [.scr ns, .int k] M = .ok (.int (ns.getD k 0)) M := by
  have h1 : fTest (fBin (gCmp cLt) (fVar 1) (fCall gLen (fCons (fVar 0) fNil))) (startA 2 [.scr ns, .int k]) M = .ok (decide ((k : Int) < ns.length)) M := by simp [startA]
  by_cases hk : k < ns.length
  · refine (run_rt (M1 := M) (d := .int (ns.getD k 0)) rfl (seq_rt ((sif_ev h1).trans ?_))).trans (trim_id rfl)
    rw [if_pos (by simpa using hk)]
    refine ret_ev ?_
    have e : atI (ns.map D.int) (k : Int) = some (.int (ns.getD k 0)) := by
      rw [atI_nn (by omega), List.getElem?_map, Int.toNat_natCast, List.getD_eq_getElem?_getD, List.getElem?_eq_getElem hk]
      rfl
    simp [startA, e]
  · refine (run_rt (M1 := M) (d := .int (ns.getD k 0)) rfl ((seq_nx ((sif_ev h1).trans (if_neg (by simpa using hk)))).trans ?_)).trans (trim_id rfl)
    rw [List.getD_eq_getElem?_getD, List.getElem?_eq_none (by omega)]
    rfl
def PenOk (k : Nat) : Cell → Prop
  | .dic _ => False
  | .fro _ => False
  | .lst ds => ∃ a b c : Int, ds = [.int a, .int b, .int c] ∧ 0 ≤ b ∧ b < 1000000007 ∧ 0 ≤ c ∧ c + k ≤ 1000000000
theorem PenOk.und {k n : Nat} {x : Cell} (h : PenOk k x) : Cell.und n x = true := by
  cases x with
  | dic _ => exact h.elim
  | fro _ => exact h.elim
  | lst ds =>
    obtain ⟨a, b, c, rfl, _⟩ := h
    rfl
theorem PenOk.less {j k : Nat} {x : Cell} (h : PenOk k x) (hj : j ≤ k) : PenOk j x := by
  cases x with
  | dic _ => exact h.elim
  | fro _ => exact h.elim
  | lst ds =>
    obtain ⟨a, b, c, e, h1, h2, h3, h4⟩ := h
    exact ⟨a, b, c, e, h1, h2, h3, by omega⟩
theorem m_pen_eq {c : Int} {M : Mem} : ∃ x, m_law_pen_579b16 [.int c] M = .ok (.ref M.length) (M ++ [x]) ∧ PenOk 1000000000 x := by
  have h10 : gPow (.int 10) (.int 18) M = .ok (.int 1000000000000000000) M := by
    have : (10 : Int) ^ (18 : Int).toNat = 1000000000000000000 := by decide +kernel
    have e : (decide ((0 : Int) ≤ 18) && decide ((18 : Int) ≤ 1000000) && Nat.blt (10 : Int).natAbs 18446744073709551616) = true := by decide +kernel
    show (if (decide ((0 : Int) ≤ 18) && decide ((18 : Int) ≤ 1000000) && Nat.blt (10 : Int).natAbs 18446744073709551616) = true then Res.ok (D.int ((10 : Int) ^ (18 : Int).toNat)) M else Res.bad) = _
    rw [if_pos e, this]
  refine ⟨.lst [.int (if c - 1000000000000000000 > 0 then c - 1000000000000000000 else 0), .int (c % 1000000007), .int 0], ?_, _, _, _, rfl, by omega, by omega, by omega, by omega⟩
  unfold m_law_pen_579b16 runD b_law_pen_579b16
  simp [startA, h10]
theorem mulOk_small {i j : Int} (hi : i.natAbs < 2 ^ 64) (hj : j.natAbs < 2 ^ 64) : mulOk i j = true := by
  unfold mulOk
  rw [Nat.blt_eq]
  have a := PySem.Flt.log2_lt_of (by decide : 0 < 64) hi
  have b := PySem.Flt.log2_lt_of (by decide : 0 < 64) hj
  omega
theorem m_draw_eq {p k : Nat} {n : Int} {M : Mem} {x : Cell} (hx : M[p]? = some x) (ho : PenOk (k + 1) x) (h1 : 1 ≤ n) (h2 : n ≤ 1000000000) : ∃ z x', m_law_draw_321cf4 [.ref p, .int n] M = .ok (.int z) (M.set p x') ∧ 0 ≤ z ∧ z < n ∧ PenOk k x' := by
  cases x with
  | dic _ => exact ho.elim
  | fro _ => exact ho.elim
  | lst ds =>
    obtain ⟨a, b, c, rfl, b0, b1, c0, c1⟩ := ho
    have hp : p < M.length := (List.getElem?_eq_some_iff.mp hx).1
    have g0 : gIx (.ref p) (.int 0) M = .ok (.int a) M := by rw [gIx_ref hx]; simp
    by_cases ha : 0 < a
    · refine ⟨a % n, .lst [.int (a / n), .int b, .int c], ?_, Int.emod_nonneg _ (by omega), Int.emod_lt_of_pos _ (by omega), _, _, _, rfl, b0, b1, c0, by omega⟩
      refine (run_rt (M1 := M.set p (.lst [.int (a / n), .int b, .int c])) (d := .int (a % n)) rfl (seq_rt ((sif_ev (p := true) (M1 := M) (test_ev ?_)).trans ((if_pos rfl).trans ?_)))).trans (trim_id (by simp))
      · simp [startA, g0, cGt, ha]
      · have hlog : n.natAbs.log2 < 9000 := Nat.lt_of_lt_of_le (PySem.Flt.log2_lt_of (by decide : 0 < 64) (by omega)) (by decide)
        have hb : Nat.blt n.natAbs.log2 9000 = true := by rw [Nat.blt_eq]; exact hlog
        refine (seq_nx (set_ev (M1 := M) (d := .int (a % n)) ?_)).trans ((seq_nx (σ1 := [some (.ref p), some (.int n), some (.int (a % n)), none]) (M1 := M.set p (.lst [.int (a / n), .int b, .int c])) ?_).trans (ret_ev ?_))
        · simp [startA, g0, show 0 < n by omega]
        · simp [startA, g0, show 0 < n by omega, hb, gSetIx, hx, ixN]
        · simp [startA]
    · have hM : ∀ d : D, (M.set p (.lst [.int a, .int b, d]))[p]? = some (.lst [.int a, .int b, d]) := fun d => List.getElem?_set_self hp
      have g1 : gIx (.ref p) (.int 2) M = .ok (.int c) M := by rw [gIx_ref hx]; simp
      let M1 := M.set p (.lst [.int a, .int b, .int (c + 1)])
      have e1 : gIx (.ref p) (.int 1) M1 = .ok (.int b) M1 := by rw [gIx_ref (hM _)]; simp; rfl
      have e2 : gIx (.ref p) (.int 2) M1 = .ok (.int (c + 1)) M1 := by rw [gIx_ref (hM _)]; simp; rfl
      let s1 := (b + 17 * (c + 1)) * (69621 + 2 * (c + 1)) % 2147483647
      let s2 := (s1 * s1 + 40503 * (c + 1) + 5) % 2147483629
      have a1 : 0 ≤ s1 ∧ s1 < 2147483647 := ⟨Int.emod_nonneg _ (by decide), Int.emod_lt_of_pos _ (by decide)⟩
      have a2 : 0 ≤ s2 ∧ s2 < 2147483629 := ⟨Int.emod_nonneg _ (by decide), Int.emod_lt_of_pos _ (by decide)⟩
      refine ⟨s2 * 48271 % 2147483647 / 32 % n, .lst [.int a, .int b, .int (c + 1)], ?_, Int.emod_nonneg _ (by omega), Int.emod_lt_of_pos _ (by omega), _, _, _, rfl, b0, b1, by omega, by omega⟩
      refine (run_rt (M1 := M1) (d := .int (s2 * 48271 % 2147483647 / 32 % n)) rfl ((seq_nx ((sif_ev (p := false) (M1 := M) (test_ev ?_)).trans (if_neg (by decide)))).trans ?_)).trans (trim_id (by simp [M1]))
      · simp [startA, g0, cGt, ha]
      · refine (seq_nx (M1 := M1) (σ1 := startA 4 [.ref p, .int n]) ?_).trans ((seq_nx (set_ev (M1 := M1) (d := .int s1) ?_)).trans ((seq_nx (set_ev (M1 := M1) (d := .int s2) ?_)).trans (ret_ev ?_)))
        · simp [startA, g1, gSetIx, hx, ixN, M1]
        · have m1 : mulOk 17 (c + 1) = true := mulOk_small (by omega) (by omega)
          have m2 : mulOk 2 (c + 1) = true := mulOk_small (by omega) (by omega)
          have m3 : mulOk (b + 17 * (c + 1)) (69621 + 2 * (c + 1)) = true := mulOk_small (by omega) (by omega)
          simp [startA, e1, e2, m1, m2, m3, s1]
        · have m1 : mulOk s1 s1 = true := mulOk_small (by omega) (by omega)
          have m2 : mulOk 40503 (c + 1) = true := mulOk_small (by omega) (by omega)
          simp [startA, e1, e2, m1, m2, s2]
        · have m1 : mulOk s2 48271 = true := mulOk_small (by omega) (by omega)
          have hb : Nat.log2 32 < 9000 := by decide +kernel
          simp [startA, m1, hb, show 0 < n by omega]
end QX
set_option maxRecDepth 100000
set_option maxHeartbeats 1000000
namespace QX
open PySem PySem.Spec PyProof.Rows L2 HX
section
variable {M0 g : Mem} {p k : Nat} {x : Cell}
theorem pen_at (hp : p < M0.length) : (M0.set p x ++ g)[p]? = some x := by
  rw [List.getElem?_append_left (by rw [List.length_set]; exact hp), List.getElem?_set_self hp]
theorem pen_set {y : Cell} (hp : p < M0.length) : (M0.set p x ++ g).set p y = M0.set p y ++ g := by
  rw [List.set_append_left _ _ (by rw [List.length_set]; exact hp), List.set_set]
theorem draw_in {n : Int} (hp : p < M0.length) (ho : PenOk (k + 1) x) (h1 : 1 ≤ n) (h2 : n ≤ 1000000000) :
    ∃ z x', m_law_draw_321cf4 [.ref p, .int n] (M0.set p x ++ g) = .ok (.int z) (M0.set p x' ++ g) ∧ 0 ≤ z ∧ z < n ∧ PenOk k x' := by
  obtain ⟨z, x', e, h3, h4, h5⟩ := m_draw_eq (pen_at (g := g) hp) ho h1 h2
  rw [pen_set hp] at e
  exact ⟨z, x', e, h3, h4, h5⟩
theorem wf_set {y : Cell} (h : Wf M0) (hy : PenOk k y) : Wf (M0.set p y) := h.set hy.und
theorem wf_app {c : Cell} (h : Wf (M0 ++ g)) (hc : Cell.und (M0 ++ g).length c = true) : Wf (M0 ++ (g ++ [c])) := by
  rw [← List.append_assoc]
  exact h.push (cund_mono (Nat.le_succ _) hc)
theorem wf_pen {y z : Cell} {j : Nat} (h : Wf (M0.set p y ++ g)) (hz : PenOk j z) : Wf (M0.set p z ++ g) := by
  intro c hc
  have hl : (M0.set p z ++ g).length = (M0.set p y ++ g).length := by simp
  rw [hl]
  rcases List.mem_append.mp hc with q | q
  · by_cases hp : p < M0.length
    · rcases List.mem_or_eq_of_mem_set q with w | w
      · -- c of M0, perhaps the one that stood at p
        obtain ⟨i, hi, e⟩ := List.getElem_of_mem q
        rw [List.length_set] at hi
        by_cases hip : p = i
        · subst hip
          rw [List.getElem_set_self] at e
          rw [← e]
          exact hz.und
        · rw [List.getElem_set_ne hip] at e
          refine h c (List.mem_append_left _ ?_)
          rw [← e]
          have : (M0.set p y)[i]'(by rw [List.length_set]; exact hi) = M0[i] := List.getElem_set_ne hip _
          rw [← this]
          exact List.getElem_mem _
      · rw [w]; exact hz.und
    · rw [List.set_eq_of_length_le (by omega)] at q
      refine h c (List.mem_append_left _ ?_)
      rw [List.set_eq_of_length_le (by omega)]
      exact q
  · exact h c (List.mem_append_right _ q)
theorem comp_pen {fi : F Ita} {vs : List Nat} {t : Tg} {e : F D} {σ : Sa} {it : Ita} {x1 : Cell} {b : Nat} (R : Im → D → Prop) (hp : p < M0.length) (hi : fi σ (M0.set p x ++ g) = .ok it (M0.set p x1 ++ g)) (hc : ∀ M', it.chk M' = true) (hw : Wf (M0.set p x ++ g)) (hl : it.items.length ≤ 1000000)
    (ho : PenOk (k + b * it.items.length) x1) (hR : ∀ im d n, R im d → d.und n = true)
    (he : ∀ im ∈ it.items, ∀ (j : Nat) (y : Cell) (g' : Mem), PenOk (j + b) y → Wf (M0.set p y ++ g') → ∃ σ1, t.put im (wipeA σ vs) = some σ1 ∧ ∃ d y', e σ1 (M0.set p y ++ g') = .ok d (M0.set p y' ++ g') ∧ R im d ∧ PenOk j y') :
    ∃ ds x2, fTrim (fCompC fi vs t fYes e) σ (M0.set p x ++ g) = .ok (.lst ds) (M0.set p x2 ++ g) ∧ ds.length = it.items.length ∧ (∀ (i : Nat) (im : Im) (d : D), it.items[i]? = some im → ds[i]? = some d → R im d) ∧ PenOk k x2 := by
  let Iv : Nat → List D → Mem → Prop := fun j acc M2 => ∃ y, M2 = M0.set p y ++ (g ++ [.lst acc]) ∧ acc.length = j ∧ (∀ (i : Nat) (im : Im) (d : D), it.items[i]? = some im → acc[i]? = some d → R im d) ∧ j ≤ it.items.length ∧ PenOk (k + b * (it.items.length - j)) y
  have step : ∀ j acc M2 im, it.items[j - 0]? = some im → 0 ≤ j → Iv j acc M2 → it.chk M2 = true ∧ ∃ σ1, t.put im (wipeA σ vs) = some σ1 ∧ ((∃ M1, fYes σ1 M2 = .ok false M1 ∧ Iv (j + 1) acc M1) ∨ ∃ M1 d M3, fYes σ1 M2 = .ok true M1 ∧ e σ1 M1 = .ok d M3 ∧ M3[(M0.set p x1 ++ g).length]? = some (.lst acc) ∧ Iv (j + 1) (acc ++ [d]) (M3.set (M0.set p x1 ++ g).length (.lst (acc ++ [d])))) := by
    rintro j acc M2 im hj _ ⟨y, rfl, ha, hr, hjl, hy⟩
    rw [Nat.sub_zero] at hj
    have him := List.mem_of_getElem? hj
    have hlt : j < it.items.length := (List.getElem?_eq_some_iff.mp hj).1
    have hacc : D.undA (M0.set p y ++ g).length acc = true := by
      rw [undA_iff]
      intro d hd
      obtain ⟨i, hi, rfl⟩ := List.getElem_of_mem hd
      exact hR _ _ _ (hr i _ _ (List.getElem?_eq_getElem (by omega)) (List.getElem?_eq_getElem hi))
    have hy' : PenOk ((k + b * (it.items.length - (j + 1))) + b) y := by
      have e1 : it.items.length - j = (it.items.length - (j + 1)) + 1 := by omega
      rw [e1, Nat.mul_add, Nat.mul_one, ← Nat.add_assoc] at hy
      exact hy
    have hwf : Wf (M0.set p y ++ (g ++ [.lst acc])) := wf_app (wf_pen hw hy) hacc
    obtain ⟨σ1, h1, d, y', h2, h3, h4⟩ := he im him _ y (g ++ [.lst acc]) hy' hwf
    have hn : (M0.set p x1 ++ g).length = (M0.set p y' ++ g).length := by simp
    refine ⟨hc _, σ1, h1, .inr ⟨_, d, _, rfl, h2, ?_, y', ?_, by rw [List.length_append, ha]; rfl, fun i im' d' hi hd => ?_, hlt, h4⟩⟩
    · rw [hn, ← List.append_assoc, List.getElem?_append_right (Nat.le_refl _), Nat.sub_self]; rfl
    · rw [hn, ← List.append_assoc, List.set_append_right _ _ (Nat.le_refl _), Nat.sub_self, List.append_assoc]; rfl
    · by_cases hij : i < acc.length
      · rw [List.getElem?_append_left hij] at hd
        exact hr i im' d' hi hd
      · rw [List.getElem?_append_right (by omega)] at hd
        have : i - acc.length = 0 := by
          have := (List.getElem?_eq_some_iff.mp hd).1
          simp at this
          omega
        rw [this] at hd
        simp at hd
        have e2 : i = j := by omega
        subst e2
        rw [hj] at hi
        cases hi
        rw [← hd]
        exact h3
  obtain ⟨acc', M', h1, ⟨y, h2, h3, h4, _, h6⟩, _⟩ := comp_loop (t := t) (c := fYes) (e := e) (chk := it.chk) (σ := wipeA σ vs) (n := (M0.set p x1 ++ g).length) Iv it.items 0 [] ((M0.set p x1 ++ g) ++ [.lst []]) (by simpa using hl) step (fun acc M2 _ => hc M2) ⟨x1, by rw [List.append_assoc], rfl, fun i im d _ hd => by simp at hd, Nat.zero_le _, by rw [Nat.sub_zero]; exact ho⟩
  rw [Nat.zero_add] at h3 h6
  rw [Nat.sub_self, Nat.mul_zero, Nat.add_zero] at h6
  refine ⟨acc', y, ?_, h3, h4, h6⟩
  unfold fTrim fCompC
  rw [hi]
  simp only [bind_ok]
  rw [h1]
  simp only [bind_ok]
  rw [h2, ← List.append_assoc]
  have hn : (M0.set p y ++ g).length = (M0.set p x ++ g).length := by simp
  have hn1 : (M0.set p x1 ++ g).length = (M0.set p x ++ g).length := by simp
  rw [hn1]
  refine trim_ref (g := []) hn (wf_pen hw h6) ?_
  rw [undA_iff]
  intro d hd
  obtain ⟨i, hi, rfl⟩ := List.getElem_of_mem hd
  exact hR _ _ _ (h4 i _ _ (List.getElem?_eq_getElem (by omega)) (List.getElem?_eq_getElem hi))
end
theorem for_nums {b : FS} {n m i : Nat} {σ : Sa} {M : Mem} (Iv : Nat → Sa → Mem → Prop) (h0 : Iv 0 σ M) (step : ∀ j σ M, j < m → Iv j σ M → ∃ σ2 M2, (b (σ.set i (some (.int (j : Int)))) M = .ok (.nx σ2) M2 ∨ b (σ.set i (some (.int (j : Int)))) M = .ok (.ct σ2) M2) ∧ Iv (j + 1) (gc n σ2 M2).1 (gc n σ2 M2).2) :
    ∃ σ' M', forL (.name i) b (fun _ => true) n (nums 0 m) σ M = .ok (.nx σ') M' ∧ Iv m σ' M' := by
  obtain ⟨σ', M', h1, h2⟩ := for_loop (t := .name i) (b := b) (chk := fun _ => true) (n := n) Iv (nums 0 m) 0 σ M (fun j σ M im hj _ hv => by
    rw [Nat.sub_zero] at hj
    have hlt : j < m := by
      have := (List.getElem?_eq_some_iff.mp hj).1
      rw [nums_len] at this
      exact this
    rw [nums_at m 0 j hlt] at hj
    cases hj
    obtain ⟨σ2, M2, h1, h2⟩ := step j σ M hlt hv
    refine ⟨rfl, _, rfl, σ2, M2, ?_, h2⟩
    rw [Int.zero_add]
    exact h1) (fun _ _ _ => rfl) h0
  rw [Nat.zero_add, nums_len] at h2
  exact ⟨σ', M', h1, h2⟩
theorem for_items {b : FS} {n i : Nat} {σ : Sa} {M : Mem} {ds : List D} (Iv : Nat → Sa → Mem → Prop) (h0 : Iv 0 σ M) (step : ∀ j σ M d, ds[j]? = some d → Iv j σ M → ∃ σ2 M2, (b (σ.set i (some d)) M = .ok (.nx σ2) M2 ∨ b (σ.set i (some d)) M = .ok (.ct σ2) M2) ∧ Iv (j + 1) (gc n σ2 M2).1 (gc n σ2 M2).2) :
    ∃ σ' M', forL (.name i) b (fun _ => true) n (ds.map .d) σ M = .ok (.nx σ') M' ∧ Iv ds.length σ' M' := by
  obtain ⟨σ', M', h1, h2⟩ := for_loop (t := .name i) (b := b) (chk := fun _ => true) (n := n) Iv (ds.map .d) 0 σ M (fun j σ M im hj _ hv => by
    rw [Nat.sub_zero, List.getElem?_map] at hj
    cases q : ds[j]? with
    | none => rw [q] at hj; cases hj
    | some d =>
      rw [q] at hj
      cases hj
      obtain ⟨σ2, M2, h1, h2⟩ := step j σ M d q hv
      exact ⟨rfl, _, rfl, σ2, M2, h1, h2⟩) (fun _ _ _ => rfl) h0
  rw [Nat.zero_add, List.length_map] at h2
  exact ⟨σ', M', h1, h2⟩
def Has (σ : Sa) (n : Nat) (l : List (Nat × D)) : Prop := σ.length = n ∧ ∀ q ∈ l, σ[q.1]? = some (some q.2)
theorem Has.at {σ : Sa} {n : Nat} {l : List (Nat × D)} (h : Has σ n l) {i : Nat} {d : D} (hm : (i, d) ∈ l) : σ[i]? = some (some d) := h.2 _ hm
theorem Has.set {σ : Sa} {n : Nat} {l : List (Nat × D)} (h : Has σ n l) {i : Nat} {o : Option D} (hi : ∀ q ∈ l, q.1 ≠ i) : Has (σ.set i o) n l :=
  ⟨by rw [List.length_set]; exact h.1, fun q hq => by rw [List.getElem?_set_ne (Ne.symm (hi q hq))]; exact h.2 q hq⟩
theorem Has.put {σ : Sa} {n : Nat} {l : List (Nat × D)} (h : Has σ n l) {i : Nat} {d : D} (hn : i < n) (hi : ∀ q ∈ l, q.1 ≠ i) : Has (σ.set i (some d)) n ((i, d) :: l) := by
  refine ⟨by rw [List.length_set]; exact h.1, fun q hq => ?_⟩
  rcases List.mem_cons.mp hq with rfl | hq
  · exact List.getElem?_set_self (by rw [h.1]; exact hn)
  · rw [List.getElem?_set_ne (Ne.symm (hi q hq))]
    exact h.2 q hq
theorem Has.keep {σ : Sa} {n m : Nat} {l : List (Nat × D)} (h : Has σ n l) (hu : ∀ q ∈ l, q.2.und m = true) : Has (σ.map (keepS m)) n l := by
  refine ⟨by rw [List.length_map]; exact h.1, fun q hq => ?_⟩
  rw [List.getElem?_map, h.2 q hq]
  show some (keepS m (some q.2)) = _
  unfold keepS
  dsimp only
  rw [if_pos (hu q hq)]
theorem Has.sub {σ : Sa} {n : Nat} {l l' : List (Nat × D)} (h : Has σ n l) (hs : ∀ q ∈ l', q ∈ l) : Has σ n l' := ⟨h.1, fun q hq => h.2 q (hs q hq)⟩
end QX
set_option maxRecDepth 100000
set_option maxHeartbeats 1000000
namespace QX
open PySem PySem.Spec PyProof.Rows L2 HX
theorem last_at {A : Mem} {c : Cell} {n : Nat} (h : A.length = n) : (A ++ [c])[n]? = some c := by
  rw [List.getElem?_append_right (by omega), h, Nat.sub_self]; rfl
theorem append_last {A : Mem} {ds : List D} {d : D} {n : Nat} (h : A.length = n) (hl : ds.length < 16777216) : gAppend (.ref n) [d] (A ++ [.lst ds]) = .ok .non (A ++ [.lst (ds ++ [d])]) := by
  rw [gAppend_ref (last_at h) hl, List.set_append_right _ _ (by omega), h, Nat.sub_self]; rfl
theorem isL_last {A : Mem} {ds : List D} {n : Nat} (h : A.length = n) : isL (A ++ [.lst ds]) (.ref n) = true := by
  rw [isL_ref, last_at h]; rfl
section
variable {M0 g : Mem} {p k : Nat} {x : Cell} {σ : Sa} {many cups : Int}
end
end QX
set_option maxRecDepth 100000
set_option maxHeartbeats 1000000
namespace QX
open PySem PySem.Spec PyProof.Rows L2 HX
section
variable {M0 : Mem} {p k : Nat} {x : Cell} {many cups : Int}
end
end QX
set_option maxRecDepth 100000
set_option maxHeartbeats 1000000
namespace QX
open PySem PySem.Spec PyProof.Rows L2 HX
section
variable {M : Mem}
theorem board_0 {ws : List (List (List Int))} {c : Int} : gIx (boardT ws c) (.int 0) M = .ok (wheelsT ws) M := by simp [boardT]
theorem mid_small {n : Int} (h0 : -1000 ≤ n) (h1 : n ≤ 1000) : mid n = true := by
  simp only [mid, Bool.and_eq_true, decide_eq_true_eq]
  omega
end
end QX
set_option maxRecDepth 100000
set_option maxHeartbeats 1000000
namespace QX
open PySem PySem.Spec PyProof.Rows L2 HX
section
variable {M : Mem}
theorem bin_ev {g : D → D → Mem → Res D} {fa fb : F D} {σ : Sa} {M1 M2 : Mem} {a b : D} (ha : fa σ M = .ok a M1) (hb : fb σ M1 = .ok b M2) : fBin g fa fb σ M = g a b M2 := by
  rw [ev_bin, ha, bind_ok, hb, bind_ok]
end
end QX
set_option maxRecDepth 100000
set_option maxHeartbeats 1000000
namespace QX
open PySem PySem.Spec PyProof.Rows L2 HX
theorem app_tuple {a b N : Nat} {σ : Sa} {A : Mem} {acc es : List D} (ha : σ[a]? = some (some (.ref A.length))) (hb : σ[b]? = some (some (.ref (A.length + 1)))) (hl : acc.length ≤ 1000) :
    sExpr (fMeth gAppend (fVar a) (fCons (fCall gTuple (fCons (fVar b) fNil)) fNil)) σ (A ++ [.lst acc] ++ [.lst es]) = .ok (.nx σ) (A ++ [.lst (acc ++ [.tup es])] ++ [.lst es]) := by
  refine expr_ev (d := .non) ?_
  have a4 : (A ++ [.lst acc] ++ [.lst es])[A.length]? = some (.lst acc) := by
    rw [List.append_assoc, List.getElem?_append_right (Nat.le_refl _)]
    simp
  have a6 : (A ++ [.lst acc] ++ [.lst es])[A.length + 1]? = some (.lst es) := last_at (by simp)
  have il : isL (A ++ [.lst acc] ++ [.lst es]) (.ref A.length) = true := by rw [isL_ref, a4]; rfl
  rw [ev_meth, ev_var, ha]
  simp only [bind_ok, il, if_true, ev_cons, ev_call, ev_nil, ev_var, hb]
  rw [gTuple_ref a6]
  simp only [bind_ok]
  rw [gAppend_ref a4 (by omega)]
  congr 1
  rw [List.append_assoc, List.set_append_right _ _ (Nat.le_refl _)]
  simp
end QX
set_option maxRecDepth 100000
set_option maxHeartbeats 1000000
namespace QX
open PySem PySem.Spec PyProof.Rows L2 HX
section
variable {M : Mem} {ws1 ws2 : List (List (List Int))} {ls : List (Option Int)} {c2 : Nat}
theorem tup2_ev {fa fb : F D} {σ : Sa} {M1 M2 : Mem} {a b : D} (ha : fa σ M = .ok a M1) (hb : fb σ M1 = .ok b M2) : fTup (fCons fa (fCons fb fNil)) σ M = .ok (.tup [a, b]) M2 := by
  have hf2 : few 2 = true := by decide
  simp [ha, hb, hf2]
end
end QX
set_option maxRecDepth 100000
set_option maxHeartbeats 1000000
namespace QX
open PySem PySem.Spec PyProof PyProof.Rows L2 HX
def RP (d : D) (w h : Nat) : Prop := ∃ p, D.py d = some p ∧ withinB p = true ∧ wt p ≤ w ∧ p.depth ≤ h ∧ p.hasDict = false ∧ ∀ k, 1114112 ≤ k → k ∉ p.shown.cps.toList
theorem RP.intW {i : Int} (h0 : -100000000000000000000000000000000000000000000000000000000000000000000000000000000000000000000000000000000000000000000000 ≤ i) (h1 : i ≤ 100000000000000000000000000000000000000000000000000000000000000000000000000000000000000000000000000000000000000000000000) : RP (.int i) 130 1 :=
  ⟨.int i, rfl, by simp only [withinB, Bool.and_eq_true, decide_eq_true_eq]; exact ⟨h0, h1⟩, by simp [wt], by simp [PyData.depth], by simp [PyData.hasDict], fun k hk => shown_int_free' ⟨by omega, by omega⟩ i⟩
theorem RP.int {i : Int} (h0 : -2000000000000 ≤ i) (h1 : i ≤ 2000000000000) : RP (.int i) 130 1 := RP.intW (by omega) (by omega)
theorem RP.mono {d : D} {w h w' h' : Nat} (r : RP d w h) (hw : w ≤ w') (hh : h ≤ h') : RP d w' h' := by
  obtain ⟨p, a, b, c, e, f, g⟩ := r
  exact ⟨p, a, b, by omega, by omega, f, g⟩
theorem rp_all {w h : Nat} : ∀ ds : List D, (∀ d ∈ ds, RP d w h) → ∃ ps, D.pyA ds = some ps ∧ withinBA ps = true ∧ wtAll ps ≤ ds.length * (w + 2) ∧ PyData.depthAll ps ≤ h ∧ PyData.hasDictAll ps = false ∧ ∀ k, 1114112 ≤ k → ∀ p ∈ ps, k ∉ p.shown.cps.toList
  | [], _ => ⟨[], by simp [D.pyA], by simp [withinBA], by simp [wtAll], by simp [PyData.depthAll], by simp [PyData.hasDictAll], fun k _ p hp => by simp at hp⟩
  | d :: ds, hd => by
    obtain ⟨p, a, b, c, e, f, g⟩ := hd d (by simp)
    obtain ⟨ps, a', b', c', e', f', g'⟩ := rp_all ds fun x hx => hd x (by simp [hx])
    refine ⟨p :: ps, by simp only [D.pyA, a, a'], by simp [withinBA, b, b'], ?_, ?_, by simp [PyData.hasDictAll, f, f'], fun k hk q hq => ?_⟩
    · simp only [wtAll, List.length_cons, Nat.add_mul, Nat.one_mul]; omega
    · simp only [PyData.depthAll]; omega
    · rcases List.mem_cons.mp hq with rfl | hq
      · exact g k hk
      · exact g' k hk q hq
theorem RP.tup {ds : List D} {w h n : Nat} (hd : ∀ d ∈ ds, RP d w h) (hn : ds.length ≤ n) : RP (.tup ds) (3 + n * (w + 2)) (h + 1) := by
  obtain ⟨ps, a', b', c', e', f', g'⟩ := rp_all ds hd
  refine ⟨.tuple ps, by simp only [D.py, a'], by simp [withinB, b'], ?_, ?_, by simp [PyData.hasDict, f'], fun k hk => ?_⟩
  · have : ds.length * (w + 2) ≤ n * (w + 2) := Nat.mul_le_mul_right _ hn
    simp only [wt]; omega
  · simp only [PyData.depth]; omega
  · simp only [PyData.shown, tupleText]
    rw [mem_cps_append, mem_cps_append, signs_lparen, mem_join, signs_tuple_end, signs_sep]
    rintro ((hm | (⟨t, ht, hc⟩ | ⟨_, hm⟩)) | hm)
    · simp at hm; omega
    · exact shownAll_free (g' k hk) t ht hc
    · simp at hm; omega
    · split at hm
      · simp at hm; omega
      · simp at hm; omega
theorem strOk_free {x : Str} (h : ∀ k, 1114112 ≤ k → k ∉ x.cps.toList) : SeqAt.shaped (.str x) = true := by
  have : PyData.strOk x = true := by
    unfold PyData.strOk
    rw [Array.all_eq_true_iff_forall_mem]
    intro k hk
    by_cases hlt : k < 1114112
    · simpa using hlt
    · exact absurd (by simpa using hk) (h k (by omega))
  simp [SeqAt.shaped, PyData.canLay0, PyData.depth, this]
theorem gNe_str {x : Str} {M : Mem} (h : SeqAt.shaped (.str x) = true) : gEq true (.str x) (.str x) M = .ok (.bl false) M := by
  have e : PyData.eqv (.str x) (.str x) = true := by simp [PyData.eqv]
  have e2 : (SeqAt.shaped (.str x) && SeqAt.shaped (.str x)) = true := by rw [h]; rfl
  show (if (SeqAt.shaped (.str x) && SeqAt.shaped (.str x)) = true then Res.ok (D.bl (if true = true then !PyData.eqv (.str x) (.str x) else PyData.eqv (.str x) (.str x))) M else Res.bad) = _
  rw [if_pos e2, e]
  rfl
theorem RP.step {n : Int} {s : List Int} (h : EndsOk n s) (hn : n ≤ 1000) : RP (stepT s) 400 2 := by
  refine (RP.tup (w := 130) (h := 1) (n := 3) (fun d hd => ?_) (by rw [List.length_map]; exact h.1)).mono (by omega) (by omega)
  obtain ⟨e, he, rfl⟩ := List.mem_map.mp hd
  have := h.2 e he
  exact RP.int (by omega) (by omega)
theorem RP.wheel {n : Int} {w : List (List Int)} (h : WheelOk n w) (hn : n ≤ 1000) : RP (wheelT w) 2000 3 := by
  refine (RP.tup (w := 400) (h := 2) (n := 4) (fun d hd => ?_) (by rw [List.length_map]; exact h.2.1)).mono (by omega) (by omega)
  obtain ⟨e, he, rfl⟩ := List.mem_map.mp hd
  exact RP.step (h.2.2 e he) hn
theorem RP.board {n : Int} {ws : List (List (List Int))} {c : Int} (h : ∀ w ∈ ws, WheelOk n w) (hn : n ≤ 1000) (hl : ws.length ≤ 20) (h0 : 0 ≤ c) (h1 : c ≤ 1000) : RP (boardT ws c) 100000 5 := by
  refine (RP.tup (w := 41000) (h := 4) (n := 2) (fun d hd => ?_) (by simp)).mono (by omega) (by omega)
  simp only [List.mem_cons, List.mem_nil_iff, or_false] at hd
  rcases hd with rfl | rfl
  · refine (RP.tup (w := 2000) (h := 3) (n := 20) (fun d hd => ?_) (by rw [List.length_map]; exact hl)).mono (by omega) (by omega)
    obtain ⟨e, he, rfl⟩ := List.mem_map.mp hd
    exact RP.wheel (h e he) hn
  · exact (RP.int (by omega) (by omega)).mono (by omega) (by omega)
end QX
set_option maxRecDepth 100000
set_option maxHeartbeats 1000000
namespace QX
open PySem PySem.Spec PyProof.Rows L2 HX
section
variable {M : Mem} {p k : Nat} {x : Cell} {σ : Sa}
theorem par_ev {fa fb : F D} {i j : Nat} {M1 M2 : Mem} {a b : D} (ha : fa σ M = .ok a M1) (hb : fb σ M1 = .ok b M2) : sPar i j (fCons fa (fCons fb fNil)) σ M = .ok (.nx ((σ.set i (some a)).set j (some b))) M2 := by
  simp [ha, hb]
theorem call1_ev {m : List D → Mem → Res D} {fa : F D} {M1 : Mem} {a : D} (ha : fa σ M = .ok a M1) : fCall m (fCons fa fNil) σ M = m [a] M1 := call_ev (by simp [ha])
theorem call3_ev {m : List D → Mem → Res D} {fa fb fc : F D} {M1 M2 M3 : Mem} {a b c : D} (ha : fa σ M = .ok a M1) (hb : fb σ M1 = .ok b M2) (hc : fc σ M2 = .ok c M3) : fCall m (fCons fa (fCons fb (fCons fc fNil))) σ M = m [a, b, c] M3 := call_ev (by simp [ha, hb, hc])
theorem var_ev {i : Nat} {d : D} (h : σ[i]? = some (some d)) : fVar i σ M = .ok d M := by rw [ev_var, h]
theorem for_of {fi : F Ita} {i : Nat} {b : FS} {items : List Im} {M1 : Mem} {r : RS} (h : fi σ M = .ok ⟨items, fun _ => true⟩ M1) (hf : forL (.name i) b (fun _ => true) M1.length items σ M1 = r) : sFor fi (.name i) b σ M = r := by
  rw [ev_for, h]
  exact hf
theorem lst3_ev {fa fb fc : F D} {M1 M2 M3 : Mem} {a b c : D} (ha : fa σ M = .ok a M1) (hb : fb σ M1 = .ok b M2) (hc : fc σ M2 = .ok c M3) : fLst (fCons fa (fCons fb (fCons fc fNil))) σ M = .ok (.lst [a, b, c]) M3 := by
  have hf2 : few 3 = true := by decide
  simp [ha, hb, hc, hf2]
theorem choose_map {α : Type} {f : α → D} {P : α → Prop} : ∀ ds : List D, (∀ d ∈ ds, ∃ a, d = f a ∧ P a) → ∃ as : List α, ds = as.map f ∧ ∀ a ∈ as, P a
  | [], _ => ⟨[], rfl, fun a h => by simp at h⟩
  | d :: ds, h => by
    obtain ⟨a, rfl, pa⟩ := h d (by simp)
    obtain ⟨as, rfl, ps⟩ := choose_map ds fun x hx => h x (by simp [hx])
    exact ⟨a :: as, rfl, fun b hb => by
      rcases List.mem_cons.mp hb with rfl | hb
      · exact pa
      · exact ps b hb⟩
theorem set_self {M : Mem} {x : Cell} (hx : M[p]? = some x) : M.set p x = M := by
  have hp : p < M.length := (List.getElem?_eq_some_iff.mp hx).1
  refine List.ext_getElem? fun i => ?_
  by_cases hi : p = i
  · subst hi; rw [List.getElem?_set_self hp, hx]
  · rw [List.getElem?_set_ne hi]
theorem range1_ev {fa : F D} {j : Int} {M1 : Mem} {n : Nat} (h : fa σ M = .ok (.int j) M1) (h0 : -1000 ≤ j) (h1 : j ≤ 1000) (hn : j.toNat = n) : fIt gRange1 (fCons fa fNil) σ M = .ok ⟨nums 0 n, fun _ => true⟩ M1 := by
  subst hn
  have hm := mid_small h0 h1
  rw [ev_it, ev_cons, h, bind_ok, ev_nil, bind_ok, bind_ok, gRange1_int]
  exact if_pos hm
theorem call2_ev {m : List D → Mem → Res D} {fa fb : F D} {M1 M2 : Mem} {a b : D} (ha : fa σ M = .ok a M1) (hb : fb σ M1 = .ok b M2) : fCall m (fCons fa (fCons fb fNil)) σ M = m [a, b] M2 := call_ev (by simp [ha, hb])
end
variable {M : Mem} {ws : List (List (List Int))} {c : Int} {m : Mo} {σ : Sa}
end QX
set_option maxRecDepth 100000
set_option maxHeartbeats 1000000
namespace QX
open PySem PySem.Spec PyProof.Rows L2 HX
variable {A g M : Mem} {st wt hd : List Int} {σ : Sa} {ws : List (List (List Int))} {c : Int} {m : Mo}
end QX
set_option maxRecDepth 100000
set_option maxHeartbeats 1000000
namespace QX
open PySem PySem.Spec PyProof.Rows L2 HX
variable {M : Mem} {σ : Sa} {ws : List (List (List Int))} {c : Int} {m : Mo}
end QX
set_option maxRecDepth 100000
set_option maxHeartbeats 1000000
namespace QX
open PySem PySem.Spec PyProof.Rows L2 HX
def UndG (G : Mem) : Prop := ∀ c ∈ G, ∀ n, Cell.und n c = true
theorem wfG {M0 G : Mem} {p : Nat} {x : Cell} {k : Nat} (h0 : Wf M0) (hx : PenOk k x) (hG : UndG G) : Wf (M0.set p x ++ G) := by
  intro c hc
  rcases List.mem_append.mp hc with h | h
  · have := wf_set (p := p) h0 hx c h
    exact cund_mono (by simp) this
  · exact hG c h _
theorem UndG.push {G : Mem} {ds : List D} (hG : UndG G) (hd : ∀ d ∈ ds, ∀ n, d.und n = true) : UndG (G ++ [.lst ds]) := by
  intro c hc n
  rcases List.mem_append.mp hc with h | h
  · exact hG c h n
  · rw [List.mem_singleton.mp h]
    show D.undA n ds = true
    rw [undA_iff]
    exact fun d hd' => hd d hd' n
theorem UndG.nil : UndG [] := fun c h => by simp at h
variable {M0 G : Mem} {p k : Nat} {x : Cell} {σ : Sa}
theorem for_pen {b : FS} {i N m bud : Nat} {acc0 : List D} (l : List (Nat × D)) (R : D → Prop) (hp : p < M0.length) (h0 : Wf M0) (hG : UndG G) (hN : i < N) (hi : ∀ q ∈ l, q.1 ≠ i) (hs : Has σ N l) (hl : ∀ q ∈ l, q.2.und (M0.length + G.length + 1) = true) (hR : ∀ d, R d → ∀ n, d.und n = true) (ha : ∀ d ∈ acc0, R d) (hm : acc0.length + m ≤ 1000) (ho : PenOk (k + bud * m) x)
    (step : ∀ (σ : Sa) (acc : List D) (j : Nat) (y : Cell) (k' : Nat), j < m → acc.length ≤ 1000 → (∀ d ∈ acc, R d) → PenOk (k' + bud) y → Has σ N ((i, .int (j : Int)) :: l) → ∃ d y' σ' g, b σ (M0.set p y ++ G ++ [.lst acc]) = .ok (.nx σ') (M0.set p y' ++ G ++ [.lst (acc ++ [d])] ++ g) ∧ R d ∧ PenOk k' y' ∧ Has σ' N l) :
    ∃ ds x' σ', forL (.name i) b (fun _ => true) (M0.length + G.length + 1) (nums 0 m) σ (M0.set p x ++ G ++ [.lst acc0]) = .ok (.nx σ') (M0.set p x' ++ G ++ [.lst (acc0 ++ ds)]) ∧ ds.length = m ∧ (∀ d ∈ ds, R d) ∧ PenOk k x' ∧ Has σ' N l := by
  obtain ⟨σ', M', f1, ⟨ds, y, rfl, q1, q2, q3⟩, q4⟩ := for_nums (b := b) (n := M0.length + G.length + 1) (m := m) (i := i) (σ := σ) (M := M0.set p x ++ G ++ [.lst acc0]) (fun j σ M => (∃ ds y, M = M0.set p y ++ G ++ [.lst (acc0 ++ ds)] ∧ ds.length = j ∧ (∀ d ∈ ds, R d) ∧ PenOk (k + bud * (m - j)) y) ∧ Has σ N l) ⟨⟨[], x, by simp, rfl, fun d h => by simp at h, ho⟩, hs⟩ (fun j σ M hj hv => by
    obtain ⟨⟨ds, y, rfl, q1, q2, q3⟩, q4⟩ := hv
    have e : k + bud * (m - j) = (k + bud * (m - (j + 1))) + bud := by
      rw [show m - j = (m - (j + 1)) + 1 by omega, Nat.mul_add, Nat.mul_one, Nat.add_assoc]
    rw [e] at q3
    have hall : ∀ d ∈ acc0 ++ ds, R d := fun d hd => by
      rcases List.mem_append.mp hd with h | h
      · exact ha d h
      · exact q2 d h
    obtain ⟨d, y', σ', g, g1, g2, g3, g4⟩ := step (σ.set i (some (.int (j : Int)))) (acc0 ++ ds) j y _ hj (by rw [List.length_append]; omega) hall q3 (q4.put hN hi)
    refine ⟨σ', _, .inl g1, ?_⟩
    rw [List.append_assoc acc0]
    have hln : (M0.set p y' ++ G ++ [Cell.lst (acc0 ++ (ds ++ [d]))]).length = M0.length + G.length + 1 := by simp; omega
    have hall' : ∀ z ∈ acc0 ++ (ds ++ [d]), R z := fun z hz => by
      rw [← List.append_assoc] at hz
      rcases List.mem_append.mp hz with h | h
      · exact hall z h
      · rw [List.mem_singleton.mp h]; exact g2
    have q2' : ∀ z ∈ ds ++ [d], R z := fun z hz => hall' z (List.mem_append_right _ hz)
    by_cases hg : g = []
    · subst hg
      rw [List.append_nil, gc_same hln]
      exact ⟨⟨ds ++ [d], y', rfl, by rw [List.length_append, q1]; rfl, q2', g3⟩, g4⟩
    · have hW : Wf (M0.set p y' ++ G ++ [Cell.lst (acc0 ++ (ds ++ [d]))]) := by
        rw [List.append_assoc]
        exact wfG h0 g3 (hG.push fun z hz n => hR z (hall' z hz) n)
      rw [gc_app hln hW hg]
      exact ⟨⟨ds ++ [d], y', rfl, by rw [List.length_append, q1]; rfl, q2', g3⟩, g4.keep hl⟩)
  rw [Nat.sub_self, Nat.mul_zero, Nat.add_zero] at q3
  exact ⟨ds, y, σ', f1, q1, q2, q3, q4⟩
theorem nest_pen {fi : F Ita} {b : FS} {a c i N m bud : Nat} {acc : List D} {x1 : Cell} (l : List (Nat × D)) (R : D → Prop) (hp : p < M0.length) (h0 : Wf M0) (hG : UndG G) (hN : i < N) (hcN : c < N) (hi : ∀ q ∈ l, q.1 ≠ i) (hci : c ≠ i) (hc : ∀ q ∈ l, q.1 ≠ c) (hs : Has σ N l) (ha : (a, D.ref (M0.length + G.length)) ∈ l) (hl : ∀ q ∈ l, q.2.und (M0.length + G.length + 1) = true) (hacc : ∀ d ∈ acc, ∀ n, d.und n = true) (hal : acc.length ≤ 1000) (hR : ∀ d, R d → ∀ n, d.und n = true) (hm : m ≤ 1000)
    (hfi : ∀ σ, Has σ N ((c, .ref (M0.length + G.length + 1)) :: l) → fi σ (M0.set p x ++ (G ++ [.lst acc]) ++ [.lst []]) = .ok ⟨nums 0 m, fun _ => true⟩ (M0.set p x1 ++ (G ++ [.lst acc]) ++ [.lst []])) (ho : PenOk (k + bud * m) x1)
    (step : ∀ (σ : Sa) (es : List D) (j : Nat) (y : Cell) (k' : Nat), j < m → es.length ≤ 1000 → (∀ d ∈ es, R d) → PenOk (k' + bud) y → Has σ N ((i, .int (j : Int)) :: (c, .ref (M0.length + G.length + 1)) :: l) → ∃ d y' σ' g, b σ (M0.set p y ++ (G ++ [.lst acc]) ++ [.lst es]) = .ok (.nx σ') (M0.set p y' ++ (G ++ [.lst acc]) ++ [.lst (es ++ [d])] ++ g) ∧ R d ∧ PenOk k' y' ∧ Has σ' N ((c, .ref (M0.length + G.length + 1)) :: l)) :
    ∃ ds x' σ', (sSeq (sSet c (fNew fNil)) (sSeq (sFor fi (.name i) b) (sExpr (fMeth gAppend (fVar a) (fCons (fCall gTuple (fCons (fVar c) fNil)) fNil))))) σ (M0.set p x ++ G ++ [.lst acc]) = .ok (.nx σ') (M0.set p x' ++ G ++ [.lst (acc ++ [.tup ds])] ++ [.lst ds]) ∧ ds.length = m ∧ (∀ d ∈ ds, R d) ∧ PenOk k x' ∧ Has σ' N l := by
  have hf0 : few 0 = true := by decide
  have hln : (M0.set p x ++ G ++ [Cell.lst acc]).length = M0.length + G.length + 1 := by simp; omega
  have hlg : (G ++ [Cell.lst acc]).length = G.length + 1 := by simp
  have s1 : sSet c (fNew fNil) σ (M0.set p x ++ G ++ [.lst acc]) = .ok (.nx (σ.set c (some (.ref (M0.length + G.length + 1))))) (M0.set p x ++ (G ++ [.lst acc]) ++ [.lst []]) := by
    as_aux_lemma =>
      refine set_ev ?_
      rw [ev_new, ev_nil, bind_ok, if_pos (by simpa using hf0), hln, List.append_assoc (M0.set p x)]
  have hs1 : Has (σ.set c (some (.ref (M0.length + G.length + 1)))) N ((c, .ref (M0.length + G.length + 1)) :: l) := hs.put hcN hc
  generalize σ.set c (some (D.ref (M0.length + G.length + 1))) = σ1 at s1 hs1
  obtain ⟨ds, x2, σ2, f2, q1, q2, q3, q4⟩ := for_pen (M0 := M0) (G := G ++ [.lst acc]) (p := p) (x := x1) (k := k) (b := b) (i := i) (N := N) (m := m) (bud := bud) (σ := σ1) (acc0 := []) ((c, .ref (M0.length + G.length + 1)) :: l) R hp h0 (hG.push hacc) hN (fun q hq => by
      rcases List.mem_cons.mp hq with rfl | hq
      · exact hci
      · exact hi q hq) hs1 (fun q hq => by
      rw [hlg]
      rcases List.mem_cons.mp hq with rfl | hq
      · simp [D.und, Nat.blt_eq]
      · exact und_mono (by omega) _ (hl q hq)) hR (fun d hd => by simp at hd) (by simpa using hm) ho step
  rw [List.nil_append] at f2
  refine ⟨ds, x2, σ2, ?_, q1, q2, q3, q4.sub fun q hq => List.mem_cons_of_mem _ hq⟩
  have hA : (M0.set p x2 ++ G).length = M0.length + G.length := by simp
  have s3 := app_tuple (a := a) (b := c) (N := N) (σ := σ2) (A := M0.set p x2 ++ G) (acc := acc) (es := ds) (by rw [hA]; exact q4.at (List.mem_cons_of_mem _ ha)) (by rw [hA]; exact q4.at (List.mem_cons_self ..)) hal
  have s2 : sFor fi (.name i) b σ1 (M0.set p x ++ (G ++ [.lst acc]) ++ [.lst []]) = .ok (.nx σ2) (M0.set p x2 ++ G ++ [.lst acc] ++ [.lst ds]) := by
    refine for_of (hfi σ1 hs1) ?_
    have h3 : (M0.set p x1 ++ (G ++ [Cell.lst acc]) ++ [Cell.lst []]).length = M0.length + (G ++ [Cell.lst acc]).length + 1 := by simp; omega
    rw [h3, f2, List.append_assoc (M0.set p x2) G]
  exact (seq_nx s1).trans ((seq_nx s2).trans s3)
theorem meth_last {A : Mem} {es : List D} {a : Nat} {fe : F D} {d : D} (h : σ[a]? = some (some (.ref A.length))) (he : fe σ (A ++ [.lst es]) = .ok d (A ++ [.lst es])) (hl : es.length ≤ 1000) : sExpr (fMeth gAppend (fVar a) (fCons fe fNil)) σ (A ++ [.lst es]) = .ok (.nx σ) (A ++ [.lst (es ++ [d])]) := by
  refine expr_ev (d := .non) ?_
  have il : isL (A ++ [.lst es]) (.ref A.length) = true := isL_last rfl
  rw [ev_meth, ev_var, h]
  simp only [bind_ok, il, if_true, ev_cons, he, ev_nil]
  rw [append_last rfl (by omega)]
theorem Has.comp {σ : Sa} {n i : Nat} {l : List (Nat × D)} {d : D} (h : Has σ n l) (hn : i < n) (hi : ∀ q ∈ l, q.1 ≠ i) : Has ((wipeA σ [i]).set i (some d)) n ((i, d) :: l) := by
  have : Has (wipeA σ [i]) n l := h.set hi
  exact this.put hn hi
end QX
set_option maxRecDepth 100000
set_option maxHeartbeats 1000000
namespace QX
open PySem PySem.Spec PyProof.Rows L2 HX
variable {M0 G : Mem} {p k : Nat} {x : Cell} {σ : Sa}
def lbE : FS := (sSeq (sSet 10 (fIf (fTest (fBin (gCmp cGt) (fCall m_law_draw_321cf4 (fCons (fVar 0) (fCons (fC (.int 4)) fNil))) (fC (.int 0)))) (fBin gAdd (fBin gAdd (fVar 5) (fC (.int 1))) (fCall m_law_draw_321cf4 (fCons (fVar 0) (fCons (fC (.int 3)) fNil)))) (fCall m_law_draw_321cf4 (fCons (fVar 0) (fCons (fBin gAdd (fVar 2) (fVar 3)) fNil)))))
  (sExpr (fMeth gAppend (fVar 8) (fCons (fCall gMin2 (fCons (fVar 10) (fCons (fCall gMax2 (fCons (fC (.int 0)) (fCons (fBin gSub (fBin gAdd (fVar 2) (fVar 3)) (fC (.int 1))) fNil))) fNil))) fNil))))
def lbF : F Ita := (fIt gRange1 (fCons (fBin gIx (fLst (fCons (fC (.int 0)) (fCons (fC (.int 1)) (fCons (fC (.int 1)) (fCons (fC (.int 2)) (fCons (fC (.int 3)) fNil)))))) (fCall m_law_draw_321cf4 (fCons (fVar 0) (fCons (fC (.int 5)) fNil)))) fNil))
def lbS : FS := (sSeq (sSet 8 (fNew fNil))
  (sSeq (sFor lbF (.name 9) lbE)
  (sExpr (fMeth gAppend (fVar 6) (fCons (fCall gTuple (fCons (fVar 8) fNil)) fNil)))))
def lbW : FS := (sSeq (sSet 6 (fNew fNil))
  (sSeq (sFor (fIt gRange1 (fCons (fBin gAdd (fC (.int 1)) (fCall m_law_draw_321cf4 (fCons (fVar 0) (fCons (fC (.int 4)) fNil)))) fNil)) (.name 7) lbS)
  (sExpr (fMeth gAppend (fVar 4) (fCons (fCall gTuple (fCons (fVar 6) fNil)) fNil)))))
theorem law_board_body : b_law_board_049704 = (sSeq (sPar 2 3 (fCons (fBin gAdd (fC (.int 1)) (fCall m_law_draw_321cf4 (fCons (fVar 0) (fCons (fVar 1) fNil)))) (fCons (fCall m_law_draw_321cf4 (fCons (fVar 0) (fCons (fC (.int 4)) fNil))) fNil)))
  (sSeq (sSet 4 (fNew fNil))
  (sSeq (sFor (fIt gRange1 (fCons (fVar 2) fNil)) (.name 5) lbW)
  (sRet (fTup (fCons (fCall gTuple (fCons (fVar 4) fNil)) (fCons (fVar 3) fNil))))))) := rfl
def RI (n : Int) (d : D) : Prop := ∃ e, d = .int e ∧ 0 ≤ e ∧ e < n
def RS' (n : Int) (d : D) : Prop := ∃ s, d = stepT s ∧ EndsOk n s
def RW (n : Int) (d : D) : Prop := ∃ w, d = wheelT w ∧ WheelOk n w
theorem RI.und {n : Int} {d : D} (h : RI n d) (k : Nat) : d.und k = true := by obtain ⟨e, rfl, _⟩ := h; rfl
theorem RS'.und {n : Int} {d : D} (h : RS' n d) (k : Nat) : d.und k = true := by obtain ⟨e, rfl, _⟩ := h; exact und_step e
theorem RW.und {n : Int} {d : D} (h : RW n d) (k : Nat) : d.und k = true := by obtain ⟨e, rfl, _⟩ := h; exact und_wheel e
theorem lbE_eq {es : List D} {l : List (Nat × D)} {many cups w : Int} {n8 : Nat} {y : Cell} (hp : p < M0.length) (hs : Has σ 11 l) (m0 : (0, D.ref p) ∈ l) (m2 : (2, D.int many) ∈ l) (m3 : (3, D.int cups) ∈ l) (m5 : (5, D.int w) ∈ l) (m8 : (8, D.ref n8) ∈ l) (m10 : ∀ q ∈ l, q.1 ≠ 10) (h8 : n8 = M0.length + G.length) (hl : es.length ≤ 1000) (hw : 0 ≤ w) (hm : 1 ≤ many) (hm6 : many ≤ 6) (hc : 0 ≤ cups) (hc4 : cups ≤ 4) (ho : PenOk (k + 2) y) :
    ∃ d y' σ' g, lbE σ (M0.set p y ++ G ++ [.lst es]) = .ok (.nx σ') (M0.set p y' ++ G ++ [.lst (es ++ [d])] ++ g) ∧ RI (many + cups) d ∧ PenOk k y' ∧ Has σ' 11 l := by
  have k0 := hs.at m0
  have k2 := hs.at m2
  have k3 := hs.at m3
  have k5 := hs.at m5
  obtain ⟨z1, y1, d1, a1, a2, o1⟩ := draw_in (M0 := M0) (g := G ++ [.lst es]) (k := k + 1) (n := 4) hp ho (by decide) (by decide)
  obtain ⟨v, y2, ev, v0, o2⟩ : ∃ v y2, fIf (fTest (fBin (gCmp cGt) (fCall m_law_draw_321cf4 (fCons (fVar 0) (fCons (fC (.int 4)) fNil))) (fC (.int 0)))) (fBin gAdd (fBin gAdd (fVar 5) (fC (.int 1))) (fCall m_law_draw_321cf4 (fCons (fVar 0) (fCons (fC (.int 3)) fNil)))) (fCall m_law_draw_321cf4 (fCons (fVar 0) (fCons (fBin gAdd (fVar 2) (fVar 3)) fNil))) σ (M0.set p y ++ (G ++ [.lst es])) = .ok (.int v) (M0.set p y2 ++ (G ++ [.lst es])) ∧ 0 ≤ v ∧ PenOk k y2 := by
    by_cases hz : 0 < z1
    · obtain ⟨z2, y2, d2, b1, b2, o2⟩ := draw_in (M0 := M0) (g := G ++ [.lst es]) (k := k) (n := 3) hp o1 (by decide) (by decide)
      exact ⟨w + 1 + z2, y2, by simp [k0, k5, d1, d2, cGt, hz], by omega, o2⟩
    · obtain ⟨z2, y2, d2, b1, b2, o2⟩ := draw_in (M0 := M0) (g := G ++ [.lst es]) (k := k) (n := many + cups) hp o1 (by omega) (by omega)
      exact ⟨z2, y2, by simp [k0, k2, k3, d1, d2, cGt, hz], b1, o2⟩
  have hs1 : Has (σ.set 10 (some (.int v))) 11 ((10, .int v) :: l) := hs.put (by decide) m10
  have s1 := set_ev (i := 10) ev
  generalize σ.set 10 (some (D.int v)) = σ1 at s1 hs1
  have j10 := hs1.at (i := 10) (d := .int v) (by simp)
  have j8 := hs1.at (List.mem_cons_of_mem _ m8)
  have j2 := hs1.at (List.mem_cons_of_mem _ m2)
  have j3 := hs1.at (List.mem_cons_of_mem _ m3)
  have hA : (M0.set p y2 ++ G).length = n8 := by rw [h8]; simp
  rw [← hA] at j8
  obtain ⟨E, hE, E0, E1⟩ : ∃ E : Int, (if (if many + cups - 1 > 0 then many + cups - 1 else 0) < v then (if many + cups - 1 > 0 then many + cups - 1 else 0) else v) = E ∧ 0 ≤ E ∧ E < many + cups := by
    refine ⟨_, rfl, ?_, ?_⟩
    · split <;> (try split) <;> omega
    · split <;> (try split) <;> omega
  have s2 := meth_last (A := M0.set p y2 ++ G) (es := es) (fe := fCall gMin2 (fCons (fVar 10) (fCons (fCall gMax2 (fCons (fC (.int 0)) (fCons (fBin gSub (fBin gAdd (fVar 2) (fVar 3)) (fC (.int 1))) fNil))) fNil))) (d := .int E) j8 (by rw [← hE]; simp [j10, j2, j3]) hl
  refine ⟨.int E, y2, σ1, [], ?_, ⟨E, rfl, E0, E1⟩, o2, hs1.sub fun q hq => List.mem_cons_of_mem _ hq⟩
  rw [List.append_nil, List.append_assoc (M0.set p y)]
  refine (seq_nx s1).trans ?_
  rw [← List.append_assoc (M0.set p y2)]
  exact s2
abbrev lbL (p : Nat) (many cups : Int) (n : Nat) : List (Nat × D) := [(0, .ref p), (2, .int many), (3, .int cups), (4, .ref n)]
theorem lbS_eq {ss : List D} {many cups : Int} {w t : Nat} {y : Cell} (hp : p < M0.length) (h0 : Wf M0) (hG : UndG G) (hs : Has σ 11 ((7, .int (t : Int)) :: (6, .ref (M0.length + G.length)) :: (5, .int (w : Int)) :: lbL p many cups M0.length)) (hss : ∀ d ∈ ss, RS' (many + cups) d) (hl : ss.length ≤ 1000) (hm : 1 ≤ many) (hm6 : many ≤ 6) (hc : 0 ≤ cups) (hc4 : cups ≤ 4) (ho : PenOk (k + 7) y) :
    ∃ d y' σ' g, lbS σ (M0.set p y ++ G ++ [.lst ss]) = .ok (.nx σ') (M0.set p y' ++ G ++ [.lst (ss ++ [d])] ++ g) ∧ RS' (many + cups) d ∧ PenOk k y' ∧ Has σ' 11 ((6, .ref (M0.length + G.length)) :: (5, .int (w : Int)) :: lbL p many cups M0.length) := by
  obtain ⟨z, y1, d1, a1, a2, o1⟩ := draw_in (M0 := M0) (g := (G ++ [.lst ss]) ++ [.lst []]) (k := k + 6) (n := 5) hp ho (by decide) (by decide)
  obtain ⟨m, hm3, hfi⟩ : ∃ m : Nat, m ≤ 3 ∧ ∀ σ : Sa, σ[0]? = some (some (.ref p)) → lbF σ (M0.set p y ++ (G ++ [.lst ss]) ++ [.lst []]) = .ok ⟨nums 0 m, fun _ => true⟩ (M0.set p y1 ++ (G ++ [.lst ss]) ++ [.lst []]) := by
    have at_ : ∀ m : Nat, m ≤ 3 → atI [D.int 0, .int 1, .int 1, .int 2, .int 3] z = some (.int (m : Int)) → ∀ σ : Sa, σ[0]? = some (some (.ref p)) → lbF σ (M0.set p y ++ (G ++ [.lst ss]) ++ [.lst []]) = .ok ⟨nums 0 m, fun _ => true⟩ (M0.set p y1 ++ (G ++ [.lst ss]) ++ [.lst []]) := by
      intro m hm hz σ k0
      have hf5 : few 5 = true := by decide
      refine range1_ev (j := (m : Int)) ?_ (by omega) (by omega) (by omega)
      rw [List.append_assoc (M0.set p y), List.append_assoc (M0.set p y1)]
      refine (bin_ev (a := .lst [.int 0, .int 1, .int 1, .int 2, .int 3]) (b := .int z) (M1 := M0.set p y ++ ((G ++ [.lst ss]) ++ [.lst []])) (by simp [hf5]) ((call2_ev (var_ev k0) rfl).trans d1)).trans ?_
      simp [hz]
    have hz : z = 0 ∨ z = 1 ∨ z = 2 ∨ z = 3 ∨ z = 4 := by omega
    rcases hz with rfl | rfl | rfl | rfl | rfl
    · exact ⟨0, by decide, at_ 0 (by decide) rfl⟩
    · exact ⟨1, by decide, at_ 1 (by decide) rfl⟩
    · exact ⟨1, by decide, at_ 1 (by decide) rfl⟩
    · exact ⟨2, by decide, at_ 2 (by decide) rfl⟩
    · exact ⟨3, by decide, at_ 3 (by decide) rfl⟩
  obtain ⟨ds, x', σ', f, q1, q2, q3, q4⟩ := nest_pen (M0 := M0) (G := G) (p := p) (x := y) (k := k) (fi := lbF) (b := lbE) (a := 6) (c := 8) (i := 9) (N := 11) (m := m) (bud := 2) (acc := ss) (x1 := y1) ((7, .int (t : Int)) :: (6, .ref (M0.length + G.length)) :: (5, .int (w : Int)) :: lbL p many cups M0.length) (RI (many + cups)) hp h0 hG (by decide) (by decide) (by simp) (by decide) (by simp) hs (by simp) (by simp [D.und, Nat.blt_eq]; omega) (fun d hd n => (hss d hd).und n) hl (fun d hd n => hd.und n) (by omega) (fun σ hs => hfi σ (hs.at (i := 0) (d := .ref p) (by simp))) (o1.less (by omega)) (fun σ es j y' k' hj hle hes oy hs => by
    have hlg : (G ++ [Cell.lst ss]).length = G.length + 1 := by simp
    obtain ⟨d, y2, σ2, g, g1, g2, g3, g4⟩ := lbE_eq (M0 := M0) (G := G ++ [.lst ss]) (p := p) (k := k') (es := es) (many := many) (cups := cups) (w := (w : Int)) (n8 := M0.length + G.length + 1) hp hs (by simp) (by simp) (by simp) (by simp) (by simp) (by simp) (by rw [hlg]; omega) hle (by omega) hm hm6 hc hc4 oy
    exact ⟨d, y2, σ2, g, g1, g2, g3, g4.sub fun q hq => List.mem_cons_of_mem _ hq⟩)
  obtain ⟨s, rfl, hs'⟩ := choose_map (f := D.int) (P := fun e => 0 ≤ e ∧ e < many + cups) ds (fun d hd => by
    obtain ⟨e, r1, r2, r3⟩ := q2 d hd
    exact ⟨e, r1, r2, r3⟩)
  rw [List.length_map] at q1
  exact ⟨stepT s, x', σ', _, f, ⟨s, rfl, by omega, hs'⟩, q3, q4.sub fun q hq => List.mem_cons_of_mem _ hq⟩
theorem lbW_eq {vs : List D} {many cups : Int} {w : Nat} {y : Cell} (hp : p < M0.length) (h0 : Wf M0) (hs : Has σ 11 ((5, .int (w : Int)) :: lbL p many cups M0.length)) (hvs : ∀ d ∈ vs, RW (many + cups) d) (hl : vs.length ≤ 1000) (hm : 1 ≤ many) (hm6 : many ≤ 6) (hc : 0 ≤ cups) (hc4 : cups ≤ 4) (ho : PenOk (k + 29) y) :
    ∃ d y' σ' g, lbW σ (M0.set p y ++ [] ++ [.lst vs]) = .ok (.nx σ') (M0.set p y' ++ [] ++ [.lst (vs ++ [d])] ++ g) ∧ RW (many + cups) d ∧ PenOk k y' ∧ Has σ' 11 (lbL p many cups M0.length) := by
  obtain ⟨z, y1, d1, a1, a2, o1⟩ := draw_in (M0 := M0) (g := ([] ++ [.lst vs]) ++ [.lst []]) (k := k + 28) (n := 4) hp ho (by decide) (by decide)
  obtain ⟨ds, x', σ', f, q1, q2, q3, q4⟩ := nest_pen (M0 := M0) (G := []) (p := p) (x := y) (k := k) (fi := fIt gRange1 (fCons (fBin gAdd (fC (.int 1)) (fCall m_law_draw_321cf4 (fCons (fVar 0) (fCons (fC (.int 4)) fNil)))) fNil)) (b := lbS) (a := 4) (c := 6) (i := 7) (N := 11) (m := (1 + z).toNat) (bud := 7) (acc := vs) (x1 := y1) ((5, .int (w : Int)) :: lbL p many cups M0.length) (RS' (many + cups)) hp h0 UndG.nil (by decide) (by decide) (by simp) (by decide) (by simp) hs (by simp) (by simp [D.und, Nat.blt_eq]; omega) (fun d hd n => (hvs d hd).und n) hl (fun d hd n => hd.und n) (by omega) (fun σ hs => by
      have k0 := hs.at (i := 0) (d := .ref p) (by simp)
      refine range1_ev (j := 1 + z) ?_ (by omega) (by omega) rfl
      rw [List.append_assoc (M0.set p y), List.append_assoc (M0.set p y1)]
      exact (bin_ev (fa := fC (.int 1)) (a := .int 1) (b := .int z) rfl ((call2_ev (var_ev k0) rfl).trans d1)).trans gAdd_int) (o1.less (by omega)) (fun σ es j y' k' hj hle hes oy hs => by
    have hlg : ([] ++ [Cell.lst vs]).length = 1 := rfl
    obtain ⟨d, y2, σ2, g, g1, g2, g3, g4⟩ := lbS_eq (M0 := M0) (G := [] ++ [.lst vs]) (p := p) (k := k') (ss := es) (many := many) (cups := cups) (w := w) (t := j) hp h0 (UndG.nil.push fun d hd n => (hvs d hd).und n) hs hes hle hm hm6 hc hc4 oy
    exact ⟨d, y2, σ2, g, g1, g2, g3, g4⟩)
  obtain ⟨s, rfl, hs'⟩ := choose_map (f := stepT) (P := fun e => EndsOk (many + cups) e) ds (fun d hd => q2 d hd)
  rw [List.length_map] at q1
  exact ⟨wheelT s, x', σ', _, f, ⟨s, rfl, by omega, by omega, hs'⟩, q3, q4.sub fun q hq => List.mem_cons_of_mem _ hq⟩
theorem m_law_board_eq {M : Mem} {most : Int} (hx : M[p]? = some x) (hw : Wf M) (ho : PenOk (k + 200) x) (h1 : 1 ≤ most) (h6 : most ≤ 6) :
    ∃ ws c x', m_law_board_049704 [.ref p, .int most] M = .ok (boardT ws c) (M.set p x') ∧ BoardOk ws c ∧ (ws.length : Int) ≤ most ∧ c ≤ 3 ∧ PenOk k x' := by
  have hp : p < M.length := (List.getElem?_eq_some_iff.mp hx).1
  have hM := set_self hx
  obtain ⟨z1, x1, d1, a1, a2, o1⟩ := draw_in (M0 := M) (g := []) (k := k + 199) (n := most) hp ho h1 (by omega)
  obtain ⟨z2, x2, d2, b1, b2, o2⟩ := draw_in (M0 := M) (g := []) (k := k + 198) (n := 4) hp o1 (by decide) (by decide)
  rw [List.append_nil, List.append_nil] at d1 d2
  rw [hM] at d1
  have hf0 : few 0 = true := by decide
  have s1 : sPar 2 3 (fCons (fBin gAdd (fC (.int 1)) (fCall m_law_draw_321cf4 (fCons (fVar 0) (fCons (fVar 1) fNil)))) (fCons (fCall m_law_draw_321cf4 (fCons (fVar 0) (fCons (fC (.int 4)) fNil))) fNil)) (startA 11 [.ref p, .int most]) M = .ok (.nx [some (.ref p), some (.int most), some (.int (1 + z1)), some (.int z2), none, none, none, none, none, none, none]) (M.set p x2) := by
    as_aux_lemma =>
      exact par_ev ((bin_ev (fa := fC (.int 1)) (a := .int 1) (b := .int z1) rfl ((call2_ev (var_ev rfl) (var_ev rfl)).trans d1)).trans gAdd_int) ((call2_ev (var_ev rfl) rfl).trans d2)
  have s2 : sSet 4 (fNew fNil) [some (.ref p), some (.int most), some (.int (1 + z1)), some (.int z2), none, none, none, none, none, none, none] (M.set p x2) = .ok (.nx [some (.ref p), some (.int most), some (.int (1 + z1)), some (.int z2), some (.ref M.length), none, none, none, none, none, none]) (M.set p x2 ++ [] ++ [.lst []]) := by
    as_aux_lemma =>
      refine set_ev (d := .ref M.length) ?_
      simp [hf0]
  have hs : Has [some (D.ref p), some (.int most), some (.int (1 + z1)), some (.int z2), some (.ref M.length), none, none, none, none, none, none] 11 (lbL p (1 + z1) z2 M.length) := by
    refine ⟨rfl, fun q hq => ?_⟩
    simp only [lbL, List.mem_cons, List.mem_nil_iff, or_false] at hq
    rcases hq with rfl | rfl | rfl | rfl <;> rfl
  generalize [some (D.ref p), some (.int most), some (.int (1 + z1)), some (.int z2), some (.ref M.length), none, none, none, none, none, none] = σ2 at s2 hs
  obtain ⟨ds, x3, σ3, f3, q1, q2, q3, q4⟩ := for_pen (M0 := M) (G := []) (p := p) (x := x2) (k := k) (b := lbW) (i := 5) (N := 11) (m := (1 + z1).toNat) (bud := 29) (σ := σ2) (acc0 := []) (lbL p (1 + z1) z2 M.length) (RW (1 + z1 + z2)) hp hw UndG.nil (by decide) (by simp) hs (by simp [D.und, Nat.blt_eq]; omega) (fun d hd n => hd.und n) (fun d hd => by simp at hd) (by simp only [List.length_nil]; omega) (o2.less (by omega)) (fun σ acc j y k' hj hl ha oy hs => lbW_eq (M0 := M) (vs := acc) (w := j) hp hw hs ha hl (by omega) (by omega) b1 (by omega) oy)
  obtain ⟨ws, rfl, hws⟩ := choose_map (f := wheelT) (P := fun w => WheelOk (1 + z1 + z2) w) ds (fun d hd => q2 d hd)
  rw [List.length_map] at q1
  rw [List.nil_append, List.append_nil] at f3
  rw [List.append_nil] at s2
  have s3 : sFor (fIt gRange1 (fCons (fVar 2) fNil)) (.name 5) lbW σ2 (M.set p x2 ++ [.lst []]) = .ok (.nx σ3) (M.set p x3 ++ [.lst (ws.map wheelT)]) := by
    as_aux_lemma =>
      refine for_of (range1_ev (j := 1 + z1) (var_ev (hs.at (i := 2) (d := .int (1 + z1)) (by simp))) (by omega) (by omega) rfl) ?_
      have h3 : (M.set p x2 ++ [Cell.lst []]).length = M.length + ([] : Mem).length + 1 := by simp
      rw [h3]
      simpa using f3
  have hA : (M.set p x3).length = M.length := by simp
  have s4 : sRet (fTup (fCons (fCall gTuple (fCons (fVar 4) fNil)) (fCons (fVar 3) fNil))) σ3 (M.set p x3 ++ [.lst (ws.map wheelT)]) = .ok (.rt (boardT ws z2)) (M.set p x3 ++ [.lst (ws.map wheelT)]) := by
    as_aux_lemma =>
      have k4 := q4.at (i := 4) (d := .ref M.length) (by simp)
      have k3 := q4.at (i := 3) (d := .int z2) (by simp)
      exact ret_ev (tup2_ev ((call1_ev (var_ev k4)).trans (gTuple_ref (last_at hA))) (var_ev k3))
  have sb : b_law_board_049704 (startA 11 [.ref p, .int most]) M = .ok (.rt (boardT ws z2)) (M.set p x3 ++ [.lst (ws.map wheelT)]) := by
    as_aux_lemma =>
      rw [law_board_body]
      exact (seq_nx s1).trans ((seq_nx s2).trans ((seq_nx s3).trans s4))
  refine ⟨ws, z2, x3, (run_rt (n := 11) (k := 2) rfl sb).trans (trim_app (by simp) (wf_set hw q3) (und_board ws z2)), ⟨by omega, by omega, by omega, by omega, fun w hw' => ?_⟩, by omega, by omega, q3⟩
  have e : ((ws.length : Nat) : Int) + z2 = 1 + z1 + z2 := by omega
  rw [e]
  exact hws w hw'
end QX
set_option maxRecDepth 100000
set_option maxHeartbeats 1000000
namespace QX
open PySem PySem.Spec PyProof.Rows L2 HX
variable {M : Mem} {p k : Nat} {x : Cell} {σ : Sa} {ws : List (List (List Int))} {c : Int} {m : Mo}
end QX
set_option maxRecDepth 100000
set_option maxHeartbeats 1000000
namespace QX
open PySem PySem.Spec PyProof.Rows L2 HX
variable {M : Mem} {p k : Nat} {x : Cell} {σ : Sa} {ws : List (List (List Int))} {c : Int} {m : Mo}
variable {A g : Mem} {st wt hd : List Int}
end QX
set_option maxRecDepth 100000
set_option maxHeartbeats 1000000
namespace QX
open PySem PySem.Spec PyProof.Rows L2 HX
variable {M C : Mem} {p k : Nat} {x : Cell} {σ : Sa} {ws : List (List (List Int))} {c : Int} {m : Mo}
end QX
set_option maxRecDepth 100000
set_option maxHeartbeats 1000000
namespace QX
open PySem PySem.Spec PyProof.Rows L2 HX
variable {M : Mem} {p k : Nat} {x : Cell} {σ : Sa} {ws : List (List (List Int))} {c : Int} {m : Mo}
theorem atI_last {α : Type} {xs : List α} {d : α} : atI (xs ++ [d]) (-1) = some d := by
  unfold atI ixN
  rw [if_neg (by decide)]
  simp only [List.length_append, List.length_singleton]
  rw [if_pos (by omega), show (-1 + ((xs.length + 1 : Nat) : Int)).toNat = xs.length by omega]
  simp
end QX
set_option maxRecDepth 100000
set_option maxHeartbeats 1000000
namespace QX
open PySem
/- _law_mixed -/
/- _law_ends -/
/- _law_table -/
/- _law_falls -/
/- _law_without -/
/- _law_drained -/
/- _law_board -/
/- _law_stand -/
/- _law_moment -/
/- _law_handled -/
/- handle_beat -/
/- need_hands -/
/- rows_of -/
/- _law_rows -/
end QX
set_option maxRecDepth 100000
set_option maxHeartbeats 1000000
namespace QX
open PySem PySem.Spec PyProof.Rows L2 HX
section
variable {M g : Mem} {d : D} {ds : List D} {p : Nat}
end
end QX
namespace QX
open PySem PySem.Spec PyProof.Rows L2 HX
end QX
set_option maxRecDepth 100000
set_option maxHeartbeats 1000000
namespace QX
open PySem PySem.Spec PyProof.Rows L2 HX
end QX
namespace QX
open PySem PySem.Spec PyProof.Rows L2 HX
end QX
set_option maxRecDepth 100000
set_option maxHeartbeats 1000000
namespace QX
open PySem PySem.Spec PyProof.Rows L2 HX
theorem cut_take (ds : List D) (k : Nat) : cutD ds none (some (k : Int)) = ds.take k := by
  unfold cutD
  rw [HT.sIx_none, HT.sIx_nat, List.drop_zero, Nat.sub_zero, List.take_eq_take_iff]
  omega
theorem cut_drop (ds : List D) (k : Nat) : cutD ds (some (k : Int)) none = ds.drop k := by
  unfold cutD
  rw [HT.sIx_none, HT.sIx_nat]
  rw [List.take_of_length_le (by rw [List.length_drop]; omega)]
  by_cases h : k ≤ ds.length
  · rw [Nat.min_eq_left h]
  · rw [Nat.min_eq_right (by omega), List.drop_eq_nil_of_le (Nat.le_refl _), List.drop_eq_nil_of_le (by omega)]
end QX
namespace QX
open PySem PySem.Spec PyProof.Rows L2 HX
end QX
set_option maxRecDepth 100000
set_option maxHeartbeats 1000000
namespace QX
open PySem PySem.Spec PyProof.Rows L2 HX
section
variable {M : Mem} {p k : Nat} {x : Cell} {σ : Sa} {ws : List (List (List Int))} {c : Int} {m : Mo}
end
section
variable {A M : Mem} {σ : Sa} {ws : List (List (List Int))} {c : Int} {m : Mo}
theorem sl_dropL {fa fb : F D} {ds : List D} {d : D} {k : Nat} (ha : fa σ M = .ok d M) (hl : listOf M d = some ds) (hb : fb σ M = .ok (.int (k : Int)) M) : fSl fa (fPart fb) fNoPart σ M = .ok (.lst (ds.drop k)) M := by
  rw [ev_sl, ha, bind_ok, ev_part, hb, bind_ok, bind_ok, ev_nopart, bind_ok]
  have : gSl d (some (k : Int)) none M = match listOf M d with | some ds => .ok (.lst (cutD ds (some (k : Int)) none)) M | none => .bad := by
    cases d <;> first | rfl | (cases hl)
  rw [this, hl]
  dsimp only
  rw [cut_drop]
end
end QX
set_option maxRecDepth 100000
set_option maxHeartbeats 1000000
namespace QX
open PySem PySem.Spec PyProof.Rows L2 HX
theorem comp_filtC {fi : F Ita} {vs : List Nat} {t : Tg} {c : F Bool} {e : F D} {σ : Sa} {M : Mem} {it : Ita} (p : Im → Bool) (f : Im → D) (hi : fi σ M = .ok it M) (hc : ∀ acc, it.chk (M ++ [.lst acc]) = true) (hw : Wf M) (hl : it.items.length ≤ 1000000)
    (he : ∀ im ∈ it.items, (f im).und M.length = true ∧ ∃ σ1, t.put im (wipeA σ vs) = some σ1 ∧ ∀ M', c σ1 M' = .ok (p im) M' ∧ (p im = true → e σ1 M' = .ok (f im) M')) : fTrim (fCompC fi vs t c e) σ M = .ok (.lst ((it.items.filter p).map f)) M := by
  unfold fTrim fCompC
  rw [hi]
  dsimp only [Res.bind]
  have hund : ∀ j, D.undA M.length (((it.items.take j).filter p).map f) = true := by
    intro j
    rw [undA_iff]
    intro d hd
    obtain ⟨im', him', rfl⟩ := List.mem_map.mp hd
    exact (he im' (List.mem_of_mem_take (List.mem_filter.mp him').1)).1
  obtain ⟨acc', M', h1, ⟨h2, h3⟩, _⟩ := comp_loop (t := t) (c := c) (e := e) (chk := it.chk) (σ := wipeA σ vs) (n := M.length) (fun j acc M2 => acc = ((it.items.take j).filter p).map f ∧ M2 = M ++ [.lst acc]) it.items 0 [] (M ++ [.lst []]) (by simpa using hl) (fun j acc M2 im hj _ hv => by
    obtain ⟨ha, hM⟩ := hv
    subst hM
    rw [Nat.sub_zero] at hj
    obtain ⟨hu, σ1, hp, hev⟩ := he im (List.mem_of_getElem? hj)
    obtain ⟨hq, hr⟩ := hev (M ++ [.lst acc])
    have ht : (it.items.take (j + 1)) = it.items.take j ++ [im] := by rw [List.take_add_one, hj]; rfl
    refine ⟨hc _, σ1, hp, ?_⟩
    cases q : p im with
    | false =>
      refine .inl ⟨_, by rw [hq, q], ?_, rfl⟩
      rw [ht, List.filter_append, List.map_append, ← ha]
      simp [q]
    | true =>
      refine .inr ⟨_, f im, _, by rw [hq, q], hr q, ?_, ?_, ?_⟩
      · rw [List.getElem?_append_right (Nat.le_refl _), Nat.sub_self]; rfl
      · rw [ht, List.filter_append, List.map_append, ← ha]
        simp [q]
      · rw [List.set_append_right _ _ (Nat.le_refl _), Nat.sub_self]; rfl) (fun acc M2 hv => by rw [hv.2]; exact hc _) ⟨by simp, rfl⟩
  subst h3
  rw [h1]
  dsimp only
  rw [Nat.zero_add, List.take_length] at h2
  rw [h2]
  refine trim_ref (g := []) rfl hw ?_
  have := hund it.items.length
  rw [List.take_length] at this
  exact this
section
variable {M : Mem} {σ : Sa} {ws : List (List (List Int))} {c : Int} {m : Mo} {folk most : Nat}
end
end QX
namespace QX
open PySem PySem.Spec PyProof.Rows L2 HX
section
variable {A M g : Mem} {σ : Sa} {ws : List (List (List Int))} {c : Int} {m : Mo} {folk most : Nat}
end
end QX
set_option maxRecDepth 100000
set_option maxHeartbeats 1000000
namespace QX
open PySem PySem.Spec PyProof.Rows L2 HX
variable {M : Mem} {p k : Nat} {x : Cell} {σ : Sa} {ws : List (List (List Int))} {c : Int} {m : Mo}
def LK (d : D) (h : Nat) : Prop := ∃ q, D.py d = some q ∧ PyData.canLay0 q = true ∧ q.depth ≤ h ∧ PyData.eqv q q = true
theorem LK.int {i : Int} : LK (.int i) 0 := ⟨.int i, rfl, by simp [PyData.canLay0], by simp [PyData.depth], by simp [PyData.eqv]⟩
theorem LK.non : LK .non 0 := ⟨.none, rfl, by simp [PyData.canLay0], by simp [PyData.depth], by simp [PyData.eqv]⟩
theorem LK.str {z : Str} (h : PyData.strOk z = true) : LK (.str z) 0 := ⟨.str z, rfl, by simpa [PyData.canLay0] using h, by simp [PyData.depth], by simp [PyData.eqv]⟩
theorem lk_all {h : Nat} : ∀ ds : List D, (∀ d ∈ ds, LK d h) → ∃ qs, D.pyA ds = some qs ∧ PyData.canLayAll0 qs = true ∧ PyData.depthAll qs ≤ h ∧ PyData.eqvAll qs qs = true
  | [], _ => ⟨[], by simp [D.pyA], by simp [PyData.canLayAll0], by simp [PyData.depthAll], by simp [PyData.eqvAll]⟩
  | d :: ds, hd => by
    obtain ⟨q, a, b, e, f⟩ := hd d (by simp)
    obtain ⟨qs, a', b', e', f'⟩ := lk_all ds fun z hz => hd z (by simp [hz])
    refine ⟨q :: qs, by simp only [D.pyA, a, a'], by simp [PyData.canLayAll0, b, b'], ?_, by simp [PyData.eqvAll, f, f']⟩
    simp only [PyData.depthAll]; omega
theorem LK.tup {ds : List D} {h : Nat} (hd : ∀ d ∈ ds, LK d h) : LK (.tup ds) (h + 1) := by
  obtain ⟨qs, a, b, e, f⟩ := lk_all ds hd
  exact ⟨.tuple qs, by simp only [D.py, a], by simp [PyData.canLay0, b], by simp only [PyData.depth]; omega, by simp [PyData.eqv, f]⟩
theorem LK.step (s : List Int) : LK (stepT s) 1 := LK.tup fun d hd => by
  obtain ⟨e, _, rfl⟩ := List.mem_map.mp hd
  exact LK.int
theorem LK.wheel (w : List (List Int)) : LK (wheelT w) 2 := LK.tup fun d hd => by
  obtain ⟨e, _, rfl⟩ := List.mem_map.mp hd
  exact LK.step e
theorem LK.less {d : D} {h h' : Nat} (e : LK d h) (hh : h ≤ h') : LK d h' := by
  obtain ⟨q, a, b, f, g⟩ := e
  exact ⟨q, a, b, Nat.le_trans f hh, g⟩
theorem LK.py {d : D} {h : Nat} (e : LK d h) (hh : h ≤ 60) : ∃ q, toPy M d = some q ∧ D.py d = some q ∧ SeqAt.shaped q = true ∧ PyData.eqv q q = true := by
  obtain ⟨q, a, b, f, g⟩ := e
  refine ⟨q, ?_, a, ?_, g⟩
  · cases d with
    | ref n => simp [D.py] at a
    | _ => exact a
  · show (PyData.canLay0 q && decide (q.depth ≤ 64)) = true
    rw [b, Bool.true_and, decide_eq_true_eq]
    omega
theorem gEq_str {neg : Bool} {a b : Str} (ha : PyData.strOk a = true) (hb : PyData.strOk b = true) : gEq neg (.str a) (.str b) M = .ok (.bl (if neg = true then !(a == b) else a == b)) M := by
  unfold gEq
  show (if (SeqAt.shaped (.str a) && SeqAt.shaped (.str b)) = true then _ else _) = _
  rw [if_pos (by simp [SeqAt.shaped, PyData.canLay0, PyData.depth, ha, hb])]
  simp [PyData.eqv]
theorem tup_nil {neg : Bool} {s : List Int} : gEq neg (stepT s) (.tup []) M = .ok (.bl (if neg = true then !s.isEmpty else s.isEmpty)) M := by
  obtain ⟨qs, a, b, e, f⟩ := lk_all (h := 0) (s.map D.int) fun d hd => by
    obtain ⟨e, _, rfl⟩ := List.mem_map.mp hd
    exact LK.int
  have ht : toPy M (stepT s) = some (.tuple qs) := by
    show D.py (.tup (s.map D.int)) = _
    simp only [D.py, a]
  have h0 : toPy M (.tup []) = some (.tuple []) := rfl
  unfold gEq
  rw [ht, h0]
  dsimp only
  rw [if_pos (by simp [SeqAt.shaped, PyData.canLay0, PyData.depth, b, PyData.canLayAll0, PyData.depthAll]; omega)]
  cases s with
  | nil =>
    simp only [List.map_nil, D.pyA] at a
    cases a
    simp [PyData.eqv, PyData.eqvAll]
  | cons z s =>
    cases qs with
    | nil =>
      simp only [List.map_cons, D.pyA] at a
      split at a <;> cases a
    | cons q qs => simp [PyData.eqv, PyData.eqvAll]
theorem comp_map {α : Type} {fi : F Ita} {i : Nat} {e : F D} (xs : List α) (g h : α → D) (hi : fi σ M = .ok ⟨(xs.map g).map Im.d, fun _ => true⟩ M) (hw : Wf M) (hl : xs.length ≤ 1000000)
    (he : ∀ x ∈ xs, (h x).und M.length = true ∧ ∀ M', Wf M' → e ((wipeA σ [i]).set i (some (g x))) M' = .ok (h x) M') : fTrim (fCompC fi [i] (.name i) fYes e) σ M = .ok (.lst (xs.map h)) M := by
  classical
  have key : ∀ x ∈ xs, ∀ y ∈ xs, g x = g y → h x = h y := fun x hx y hy hg => by
    have a := (he x hx).2 M hw
    have b := (he y hy).2 M hw
    rw [hg] at a
    have := a.symm.trans b
    injection this
  let f : Im → D := fun im => if hx : ∃ x ∈ xs, im = .d (g x) then h (Classical.choose hx) else .non
  have hf : ∀ x ∈ xs, f (.d (g x)) = h x := fun x hx => by
    have hx' : ∃ y ∈ xs, Im.d (g x) = .d (g y) := ⟨x, hx, rfl⟩
    show (if hx : ∃ y ∈ xs, Im.d (g x) = .d (g y) then h (Classical.choose hx) else .non) = _
    rw [dif_pos hx']
    have hs := Classical.choose_spec hx'
    exact (key x hx _ hs.1 (by injection hs.2)).symm
  have r := comp_pure (fi := fi) (vs := [i]) (t := .name i) (e := e) (σ := σ) (M := M) (it := ⟨(xs.map g).map Im.d, fun _ => true⟩) f hi (fun _ => rfl) hw (by simpa using hl) (fun im him => by
    obtain ⟨d, hd, rfl⟩ := List.mem_map.mp him
    obtain ⟨x, hx, rfl⟩ := List.mem_map.mp hd
    rw [hf x hx]
    exact ⟨(he x hx).1, _, rfl, fun M' w1 _ => (he x hx).2 M' w1⟩)
  rw [r]
  congr 2
  show ((xs.map g).map Im.d).map f = _
  rw [List.map_map, List.map_map]
  exact List.map_congr_left fun x hx => hf x hx
end QX
set_option maxRecDepth 100000
set_option maxHeartbeats 1000000
namespace QX
open PySem PySem.Spec PyProof.Rows L2 HX
variable {M : Mem} {p k : Nat} {x : Cell} {σ : Sa} {ws : List (List (List Int))} {c : Int} {m : Mo}
def Low (x : Str) : Prop := ∀ k ∈ TL.tl x, 11 ≤ k ∧ k < 128
theorem strOk_of {x : Str} (h : ∀ k ∈ TL.tl x, k < 128) : PyData.strOk x = true := by
  unfold PyData.strOk
  rw [Array.all_eq_true']
  intro k hk
  have := h k (by simpa [TL.tl] using hk)
  simp
  omega
theorem Low.ok {x : Str} (h : Low x) : PyData.strOk x = true := strOk_of fun k hk => (h k hk).2
theorem Low.app {x y : Str} (h : Low x) (g : Low y) : Low (x ++ y) := fun k hk => by
  rw [TL.tl_append, List.mem_append] at hk
  exact hk.elim (h k) (g k)
theorem joinL_mem {S : List Nat} {k : Nat} : ∀ ps : List (List Nat), k ∈ TL.joinL S ps → k ∈ S ∨ ∃ p ∈ ps, k ∈ p
  | [], h => by simp [TL.joinL] at h
  | [p], h => .inr ⟨p, by simp, h⟩
  | p :: q :: r, h => by
    simp only [TL.joinL, List.mem_append] at h
    rcases h with h | h | h
    · exact .inr ⟨p, by simp, h⟩
    · exact .inl h
    · rcases joinL_mem (q :: r) h with h | ⟨z, hz, h⟩
      · exact .inl h
      · exact .inr ⟨z, List.mem_cons_of_mem _ hz, h⟩
theorem Low.join {y : Str} {ps : List Str} (h : Low y) (g : ∀ p ∈ ps, Low p) : Low (Str.join y ps) := fun k hk => by
  rw [TL.tl_join] at hk
  rcases joinL_mem _ hk with h' | ⟨z, hz, h'⟩
  · exact h k h'
  · obtain ⟨p, hp, rfl⟩ := List.mem_map.mp hz
    exact g p hp k h'
theorem Low.lit {s : String} (h : (s.toList.map Char.toNat).all (fun k => decide (11 ≤ k) && decide (k < 128)) = true) : Low (Str.ofString s) := fun k hk => by
  rw [TL.tl_ofString] at hk
  simpa using List.all_eq_true.mp h k hk
theorem joinL_len {S : List Nat} {B : Nat} : ∀ ps : List (List Nat), (∀ p ∈ ps, p.length ≤ B) → (TL.joinL S ps).length ≤ ps.length * (B + S.length)
  | [], _ => by simp [TL.joinL]
  | [p], h => by
    have := h p (by simp)
    simp only [TL.joinL, List.length_cons, List.length_nil]
    omega
  | p :: q :: r, h => by
    have h1 := h p (by simp)
    have h2 := joinL_len (S := S) (q :: r) fun z hz => h z (List.mem_cons_of_mem _ hz)
    simp only [TL.joinL, List.length_append, List.length_cons] at h2 ⊢
    rw [Nat.add_mul (r.length + 1), Nat.one_mul]
    omega
theorem join_len {y : Str} {B : Nat} (ps : List Str) (h : ∀ p ∈ ps, p.length ≤ B) : (Str.join y ps).length ≤ ps.length * (B + y.length) := by
  rw [TL.len_tl, TL.tl_join, TL.len_tl y]
  have := joinL_len (S := TL.tl y) (B := B) (ps.map TL.tl) fun p hp => by
    obtain ⟨z, hz, rfl⟩ := List.mem_map.mp hp
    rw [← TL.len_tl]
    exact h z hz
  rwa [List.length_map] at this
theorem len_app (x y : Str) : (x ++ y).length = x.length + y.length := by rw [TL.len_tl, TL.tl_append, List.length_append, ← TL.len_tl, ← TL.len_tl]
theorem sum_le {B : Nat} : ∀ ps : List Str, (∀ p ∈ ps, p.length ≤ B) → (ps.map (·.length)).sum ≤ ps.length * B
  | [], _ => by simp
  | p :: ps, h => by
    have h1 := h p (by simp)
    have h2 := sum_le ps fun z hz => h z (List.mem_cons_of_mem _ hz)
    simp only [List.map_cons, List.sum_cons, List.length_cons]
    rw [Nat.add_mul, Nat.one_mul]
    omega
theorem join_ev {y : Str} {ps : List Str} {fe : F D} {B n : Nat} {M1 : Mem} (he : fe σ M = .ok (.lst (ps.map D.str)) M1) (h : ∀ p ∈ ps, p.length ≤ B) (hn : ps.length ≤ n) (hb : n * (B + y.length) ≤ 16777216) : fM1 gJoin (fC (.str y)) fe σ M = .ok (.str (Str.join y ps)) M1 := by
  rw [ev_m1 (x := .str y) rfl rfl he]
  unfold gJoin
  simp only [seqOf_lst, strsOf_map]
  rw [if_pos, TL.join_eq]
  have h1 := sum_le ps h
  have h2 : ps.length * (B + y.length) ≤ n * (B + y.length) := Nat.mul_le_mul_right _ hn
  have h3 : ps.length * (B + y.length) = ps.length * B + ps.length * y.length := Nat.mul_add ..
  exact Nat.ble_eq_true_of_le (by omega)
def numT (i : Int) : Str := (toString i : Str)
theorem numT_dig {i : Int} (h0 : 0 ≤ i) (h1 : i < 10) : numT i = ⟨#[48 + i.toNat]⟩ := by
  obtain ⟨n, rfl⟩ := Int.eq_ofNat_of_zero_le h0
  refine TL.ext_tl ?_
  show TL.tl (Str.ofString (toString ((n : Nat) : Int))) = _
  rw [TL.tl_num, TL.numL_lt (by omega)]
  rfl
theorem numT_low {i : Int} (h0 : 0 ≤ i) (h1 : i < 10) : Low (numT i) := fun k hk => by
  rw [numT_dig h0 h1] at hk
  simp [TL.tl] at hk
  omega
theorem numT_len {i : Int} (h0 : 0 ≤ i) (h1 : i < 10) : (numT i).length = 1 := by rw [numT_dig h0 h1]; rfl
theorem gStr_ev {i : Int} (h0 : 0 ≤ i) (h1 : i < 10) : gStr [.int i] M = .ok (.str (numT i)) M := by
  show (if Nat.blt i.natAbs.log2 1920 = true then _ else _) = _
  rw [if_pos]
  · rfl
  · rw [Nat.blt_eq]
    have : i.natAbs < 2 ^ 4 := by omega
    by_cases h : i.natAbs = 0
    · rw [h]; decide
    · have := (Nat.log2_lt h).mpr this
      omega
def stepS (s : List Int) : Str := if s = [] then "-" else Str.join "," (s.map numT)
def wheelS (w : List (List Int)) : Str := Str.join " " (("wheel" : Str) :: w.map stepS)
def headS (c : Int) : Str := Str.empty ++ "cups " ++ numT c
def linesS (ws : List (List (List Int))) (c : Int) : List Str := headS c :: ws.map wheelS
def boardS (ws : List (List (List Int))) (c : Int) : Str := Str.join "" ((linesS ws c).map fun l => l ++ "\n")
end QX
set_option maxRecDepth 100000
set_option maxHeartbeats 1000000
namespace QX
open PySem PySem.Spec PyProof.Rows L2 HX
variable {M : Mem} {p k : Nat} {x : Cell} {σ : Sa} {ws : List (List (List Int))} {c : Int} {m : Mo} {n : Int}
theorem stepS_len {s : List Int} (h : EndsOk n s) (hn : n ≤ 10) : (stepS s).length ≤ 6 := by
  unfold stepS
  split
  · decide
  · have := join_len (y := ",") (B := 1) (s.map numT) fun q hq => by
      obtain ⟨i, hi, rfl⟩ := List.mem_map.mp hq
      exact Nat.le_of_eq (numT_len (h.2 i hi).1 (by have := (h.2 i hi).2; omega))
    rw [List.length_map] at this
    have h1 := h.1
    have h2 : s.length * (1 + (",": Str).length) ≤ 3 * 2 := Nat.mul_le_mul h1 (by decide)
    omega
theorem stepS_low {s : List Int} (h : EndsOk n s) (hn : n ≤ 10) : Low (stepS s) := by
  unfold stepS
  split
  · exact Low.lit (by decide)
  · exact Low.join (Low.lit (by decide)) fun q hq => by
      obtain ⟨i, hi, rfl⟩ := List.mem_map.mp hq
      exact numT_low (h.2 i hi).1 (by have := (h.2 i hi).2; omega)
theorem wheelP {w : List (List Int)} (h : WheelOk n w) (hn : n ≤ 10) : ∀ q ∈ ("wheel" : Str) :: w.map stepS, q.length ≤ 6 ∧ Low q := fun q hq => by
  rcases List.mem_cons.mp hq with rfl | hq
  · exact ⟨by decide, Low.lit (by decide)⟩
  · obtain ⟨s, hs, rfl⟩ := List.mem_map.mp hq
    exact ⟨stepS_len (h.2.2 s hs) hn, stepS_low (h.2.2 s hs) hn⟩
theorem wheelS_len {w : List (List Int)} (h : WheelOk n w) (hn : n ≤ 10) : (wheelS w).length ≤ 35 := by
  have := join_len (y := " ") (B := 6) (("wheel" : Str) :: w.map stepS) fun q hq => (wheelP h hn q hq).1
  rw [List.length_cons, List.length_map] at this
  have h2 : (w.length + 1) * (6 + (" ": Str).length) ≤ 5 * 7 := Nat.mul_le_mul (by have := h.2.1; omega) (by decide)
  exact Nat.le_trans this h2
theorem wheelS_low {w : List (List Int)} (h : WheelOk n w) (hn : n ≤ 10) : Low (wheelS w) := Low.join (Low.lit (by decide)) fun q hq => (wheelP h hn q hq).2
theorem headS_low (h0 : 0 ≤ c) (h1 : c < 10) : Low (headS c) := by
  refine Low.app (Low.app ?_ (Low.lit (by decide))) (numT_low h0 h1)
  exact fun k hk => by cases hk
theorem headS_len (h0 : 0 ≤ c) (h1 : c < 10) : (headS c).length = 6 := by
  unfold headS
  rw [len_app, numT_len h0 h1]
  rfl
theorem lineP (hb : BoardOk ws c) : ∀ q ∈ linesS ws c, q.length ≤ 35 ∧ Low q := fun q hq => by
  have h1 := hb.w6
  have h2 := hb.c4
  rcases List.mem_cons.mp hq with rfl | hq
  · exact ⟨by rw [headS_len hb.c0 (by omega)]; decide, headS_low hb.c0 (by omega)⟩
  · obtain ⟨w, hw, rfl⟩ := List.mem_map.mp hq
    exact ⟨wheelS_len (hb.wheels w hw) (by omega), wheelS_low (hb.wheels w hw) (by omega)⟩
end QX
set_option maxRecDepth 100000
set_option maxHeartbeats 1000000
namespace QX
open PySem PySem.Spec PyProof.Rows L2 HX
variable {M : Mem} {p k : Nat} {x : Cell} {σ : Sa} {ws : List (List (List Int))} {c : Int} {m : Mo} {n : Int}
end QX
set_option maxRecDepth 100000
set_option maxHeartbeats 1000000
namespace QX
open PySem PySem.Spec PyProof.Rows L2 HX
variable {M : Mem} {p k : Nat} {x : Cell} {σ : Sa} {ws : List (List (List Int))} {c : Int} {m : Mo} {n : Int}
end QX
set_option maxRecDepth 100000
set_option maxHeartbeats 1000000
namespace QX
open PySem PySem.Spec PyProof.Rows L2 HX
variable {M : Mem} {p k : Nat} {x : Cell} {σ : Sa} {ws : List (List (List Int))} {c : Int} {m : Mo} {n : Int}
def nl : Str := "\n"
theorem tl_nl : TL.tl nl = [10] := by decide
theorem joinL_nl : ∀ ls : List (List Nat), ls ≠ [] → TL.joinL [] (ls.map fun l => l ++ [10]) = TL.joinL [10] ls ++ [10]
  | [], h => absurd rfl h
  | [l], _ => rfl
  | l :: l' :: r, _ => by
    have ih := joinL_nl (l' :: r) (by simp)
    simp only [List.map_cons, TL.joinL] at ih ⊢
    rw [ih]
    simp
theorem board_join : boardS ws c = Str.join nl (linesS ws c) ++ nl := by
  refine TL.ext_tl ?_
  unfold boardS
  rw [TL.tl_append, TL.tl_join, TL.tl_join, tl_nl, List.map_map]
  have h0 : TL.tl ("" : Str) = [] := by decide
  have := joinL_nl ((linesS ws c).map TL.tl) (by simp [linesS])
  rw [← this, h0, List.map_map]
  congr 1
  refine List.map_congr_left fun l _ => ?_
  show TL.tl (l ++ nl) = TL.tl l ++ [10]
  rw [TL.tl_append, tl_nl]
theorem board_len (hb : BoardOk ws c) : (Str.join nl (linesS ws c)).length ≤ 252 := by
  have := join_len (y := nl) (B := 35) (linesS ws c) fun q hq => (lineP hb q hq).1
  have h2 : (linesS ws c).length * (35 + nl.length) ≤ 7 * 36 := Nat.mul_le_mul (by rw [linesS, List.length_cons, List.length_map]; have := hb.w6; omega) (by decide)
  exact Nat.le_trans this h2
end QX
set_option maxRecDepth 100000
set_option maxHeartbeats 1000000
namespace QX
open PySem PySem.Spec PyProof.Rows L2 HX
variable {M : Mem} {σ : Sa} {x y : Str} {n : Int}
def digs (l : List Nat) : Bool := l.all fun c => decide (48 ≤ c) && decide (c ≤ 57)
def canL (l : List Nat) : Bool := digs l && !l.isEmpty && (l == [48] || l.head? != some 48)
theorem numL_zero : TL.numL 0 = [48] := TL.numL_lt (by decide)
theorem canL_num : ∀ (k : Nat) (l : List Nat), l.length = k → canL l = true → ∃ n : Nat, l = TL.numL n := by
  intro k
  induction k with
  | zero =>
    intro l hl h
    have : l = [] := List.length_eq_zero_iff.mp hl
    subst this
    simp [canL] at h
  | succ k ih =>
    intro l hl h
    obtain ⟨l', d, rfl⟩ : ∃ l' d, l = l' ++ [d] := by
      cases e : l.reverse with
      | nil => rw [List.reverse_eq_nil_iff] at e; subst e; simp at hl
      | cons d r => exact ⟨r.reverse, d, by rw [← List.reverse_reverse l, e, List.reverse_cons]⟩
    simp only [canL, digs, Bool.and_eq_true, List.all_append, List.all_cons, List.all_nil, Bool.and_true, decide_eq_true_eq, Bool.or_eq_true, beq_iff_eq, bne_iff_ne, ne_eq, Bool.not_eq_true'] at h
    obtain ⟨⟨⟨hd, d0, d1⟩, hne⟩, hc⟩ := h
    by_cases hz : l' = []
    · subst hz
      exact ⟨d - 48, by rw [TL.numL_lt (by omega)]; simp; omega⟩
    · have hh : l'.head? ≠ some 48 := by
        rcases hc with hc | hc
        · exfalso
          have := congrArg List.length hc
          have hp := List.length_pos_iff.mpr hz
          rw [List.length_append] at this
          simp only [List.length_cons, List.length_nil] at this
          omega
        · intro z
          exact hc (by rw [List.head?_append, z]; rfl)
      have hc' : canL l' = true := by
        simp only [canL, digs, Bool.and_eq_true, Bool.or_eq_true, beq_iff_eq, bne_iff_ne, ne_eq, Bool.not_eq_true']
        refine ⟨⟨hd, ?_⟩, .inr hh⟩
        cases l' with
        | nil => exact absurd rfl hz
        | cons _ _ => rfl
      obtain ⟨m, hm⟩ := ih l' (by simp at hl; omega) hc'
      have hm0 : m ≠ 0 := fun z => by
        subst z
        rw [numL_zero] at hm
        rw [hm] at hh
        exact hh rfl
      refine ⟨10 * m + (d - 48), ?_⟩
      rw [TL.numL_step (by omega), show (10 * m + (d - 48)) / 10 = m by omega, show (10 * m + (d - 48)) % 10 = d - 48 by omega, ← hm]
      congr 2
      omega
def isNum (x : Str) : Bool := decide (1 ≤ x.length) && decide (x.length ≤ 13) && (digs (TL.tl x) && (x == "0" || (TL.tl x).head? != some 48))
theorem isNum_can (h : isNum x = true) : ∃ n : Nat, x = Str.ofString (toString (n : Int)) ∧ (TL.numL n).length ≤ 13 ∧ TL.tl x = TL.numL n := by
  simp only [isNum, Bool.and_eq_true, decide_eq_true_eq] at h
  obtain ⟨⟨h1, h13⟩, hd, hz⟩ := h
  rw [TL.len_tl] at h1 h13
  have hc : canL (TL.tl x) = true := by
    simp only [canL, Bool.and_eq_true, Bool.not_eq_true']
    refine ⟨⟨hd, ?_⟩, ?_⟩
    · cases e : TL.tl x with
      | nil => rw [e] at h1; simp at h1
      | cons _ _ => rfl
    · rw [Bool.or_eq_true] at hz ⊢
      rcases hz with hz | hz
      · left
        rw [beq_iff_eq] at hz ⊢
        rw [hz]
        decide
      · exact .inr hz
  obtain ⟨n, hn⟩ := canL_num _ _ rfl hc
  exact ⟨n, TL.ext_tl (by rw [TL.tl_num, hn]), by rw [← hn]; exact h13, hn⟩
def numV (x : Str) : Int := (intText? x).getD 0
theorem isNum_int (h : isNum x = true) : ∃ n : Nat, intText? x = some (n : Int) ∧ numV x = n ∧ x = numT (n : Int) := by
  obtain ⟨n, rfl, hl, _⟩ := isNum_can h
  have e := TL.int_num (n := n) (by omega)
  exact ⟨n, e, by unfold numV; rw [e]; rfl, rfl⟩
def Asc (B : Nat) (x : Str) : Prop := (∀ k ∈ TL.tl x, k < 128) ∧ x.length ≤ B
theorem Asc.ok {B : Nat} (h : Asc B x) : PyData.strOk x = true := strOk_of h.1
theorem sok0 : PyData.strOk ("0" : Str) = true := (Low.lit (by decide)).ok
theorem in_digs (c : Nat) : decide (c ∈ ("0123456789" : Str).cps.toList) = (decide (48 ≤ c) && decide (c ≤ 57)) := by
  have e : ("0123456789" : Str).cps.toList = [48, 49, 50, 51, 52, 53, 54, 55, 56, 57] := by decide
  rw [e]
  by_cases h : 48 ≤ c ∧ c ≤ 57
  · rw [decide_eq_true (by simp only [List.mem_cons, List.mem_nil_iff, or_false]; omega), decide_eq_true h.1, decide_eq_true h.2]
    rfl
  · rw [decide_eq_false (by simp only [List.mem_cons, List.mem_nil_iff, or_false]; omega)]
    rcases Classical.not_and_iff_not_or_not.mp h with g | g
    · rw [decide_eq_false g]; rfl
    · rw [decide_eq_false g, Bool.and_false]
theorem ix0_str {c : Nat} {r : List Nat} {B : Nat} (h : TL.tl x = c :: r) (hx : Asc B x) (hB : B ≤ 200000) : gIx (.str x) (.int 0) M = .ok (.str ⟨#[c]⟩) M := by
  have e : gIx (.str x) (.int 0) M = if few x.length = true then (match atI x.cps.toList 0 with | some c => .ok (.str ⟨#[c]⟩) M | none => .bad) else .bad := rfl
  rw [e, if_pos (ok_few (by rw [sizeLine_eq]; have := hx.2; omega)), show x.cps.toList = c :: r from h, atI_nn (by decide)]
  rfl
theorem one_eq0 (c : Nat) : ((⟨#[c]⟩ : Str) == "0") = decide (c = 48) := by
  by_cases h : c = 48
  · subst h
    decide
  · rw [decide_eq_false h, beq_eq_false_iff_ne]
    intro z
    have := congrArg TL.tl z
    rw [show TL.tl ("0" : Str) = [48] by decide] at this
    exact h (by simpa [TL.tl] using this)
theorem asc_one {c : Nat} (h : c < 128) : PyData.strOk (⟨#[c]⟩ : Str) = true := strOk_of fun k hk => by
  have : k = c := by simpa [TL.tl] using hk
  omega
theorem len_ev {fe : F D} (h : fe σ M = .ok (.str x) M) (hx : x.length ≤ 200000) : fCall gLen (fCons fe fNil) σ M = .ok (.int (x.length : Int)) M := by
  refine (call1_ev h).trans ?_
  simp [gLen]
  omega
theorem chain13 {fe : F D} (h : fe σ M = .ok (.str x) M) (hx : x.length ≤ 200000) : fTest (fChain (gCmp cLe) (gCmp cLe) (fC (.int 1)) (fCall gLen (fCons fe fNil)) (fC (.int 13))) σ M = .ok (decide (1 ≤ x.length) && decide (x.length ≤ 13)) M := by
  refine test_ev ?_
  rw [ev_chain, ev_c, bind_ok, len_ev h hx, bind_ok, gCmp_int, bind_ok]
  by_cases h1 : 1 ≤ x.length
  · rw [show cLe 1 (x.length : Int) = true from decide_eq_true (by omega), decide_eq_true h1]
    dsimp only
    rw [ev_c, bind_ok, gCmp_int, show cLe (x.length : Int) 13 = decide (x.length ≤ 13) from by unfold cLe; by_cases g : x.length ≤ 13 <;> simp [g] <;> omega, Bool.true_and]
  · rw [show cLe 1 (x.length : Int) = false from decide_eq_false (by omega), decide_eq_false h1]
    rfl
theorem m_is_num {B : Nat} (hw : Wf M) (hx : Asc B x) (hB : B ≤ 200000) : m_is_number_text [.str x] M = .ok (.bl (isNum x)) M := by
  have hl : x.length ≤ 200000 := Nat.le_trans hx.2 hB
  have t1 := chain13 (σ := startA 2 [.str x]) (M := M) (fe := fVar 0) (var_ev rfl) hl
  have hc := comp_map (σ := startA 2 [.str x]) (M := M) (fi := fIterS (fVar 0)) (i := 1) (e := fBin gInS (fVar 1) (fC (.str "0123456789"))) (TL.tl x) (fun c => .str ⟨#[c]⟩) (fun c => .bl (decide (48 ≤ c) && decide (c ≤ 57))) (show Res.bind (fVar 0 (startA 2 [.str x]) M) (fun d M1 => match d with | .str z => Res.ok (⟨z.cps.toList.map fun c => .d (.str ⟨#[c]⟩), fun _ => true⟩ : Ita) M1 | _ => .bad) = _ by rw [var_ev (d := .str x) rfl, bind_ok, List.map_map]; rfl) hw (by rw [← TL.len_tl]; omega) (fun z hz => ⟨rfl, fun M' _ => by
    refine (bin_ev (a := .str ⟨#[z]⟩) (b := .str "0123456789") (var_ev rfl) rfl).trans ?_
    show Res.ok (D.bl (decide (z ∈ ("0123456789" : Str).cps.toList))) M' = _
    rw [in_digs]⟩)
  have t2 : fTest (fCall gAll (fCons (fTrim (fCompC (fIterS (fVar 0)) [1] (.name 1) fYes (fBin gInS (fVar 1) (fC (.str "0123456789"))))) fNil)) (startA 2 [.str x]) M = .ok (digs (TL.tl x)) M := test_ev ((call1_ev hc).trans (gAll_map _ _))
  have fin : ∀ {b : Bool}, b_is_number_text (startA 2 [.str x]) M = .ok (.rt (.bl b)) M → m_is_number_text [.str x] M = .ok (.bl b) M := fun {b} r => by
    have r := run_rt (n := 2) (k := 1) (b := b_is_number_text) (ds := [.str x]) rfl r
    have t := trim_app (M := M) (g := []) (d := .bl b) rfl hw rfl
    rw [List.append_nil] at t
    exact r.trans t
  refine fin ?_
  have tc := or_ev (not_ev t1) fun _ => not_ev t2
  by_cases h13 : (decide (1 ≤ x.length) && decide (x.length ≤ 13)) = true ∧ digs (TL.tl x) = true
  · rw [h13.1, h13.2] at tc
    obtain ⟨c, r, e⟩ : ∃ c r, TL.tl x = c :: r := by
      cases e : TL.tl x with
      | nil =>
        have := h13.1
        rw [TL.len_tl, e] at this
        simp at this
      | cons c r => exact ⟨c, r, rfl⟩
    have hc128 : c < 128 := hx.1 c (by rw [e]; simp)
    refine (seq_nx ((sif_ev tc).trans rfl)).trans (ret_ev ?_)
    have a1 : fBin (gEq false) (fVar 0) (fC (.str "0")) (startA 2 [.str x]) M = .ok (.bl (x == "0")) M := (bin_ev (b := .str "0") (var_ev rfl) rfl).trans (gEq_str hx.ok sok0)
    have a2 : fBin (gEq true) (fBin gIx (fVar 0) (fC (.int 0))) (fC (.str "0")) (startA 2 [.str x]) M = .ok (.bl (!((⟨#[c]⟩ : Str) == "0"))) M := (bin_ev (a := .str ⟨#[c]⟩) (b := .str "0") ((bin_ev (a := .str x) (b := .int 0) (var_ev rfl) rfl).trans (ix0_str e hx hB)) rfl).trans (gEq_str (asc_one hc128) sok0)
    have en : isNum x = (x == "0" || !decide (c = 48)) := by
      unfold isNum
      rw [h13.1, h13.2, e]
      simp only [List.head?_cons, Bool.true_and]
      congr 1
    rw [ev_or, a1, bind_ok, en]
    cases hb : (x == "0")
    · rw [one_eq0] at a2
      exact a2
    · rfl
  · have en : isNum x = false := by
      unfold isNum
      cases h1 : (decide (1 ≤ x.length) && decide (x.length ≤ 13)) with
      | false => rfl
      | true =>
        cases h2 : digs (TL.tl x) with
        | false => rfl
        | true => exact absurd ⟨h1, h2⟩ h13
    have hb : (!(decide (1 ≤ x.length) && decide (x.length ≤ 13)) || !digs (TL.tl x)) = true := by
      cases h1 : (decide (1 ≤ x.length) && decide (x.length ≤ 13)) with
      | false => rfl
      | true =>
        cases h2 : digs (TL.tl x) with
        | false => rfl
        | true => exact absurd ⟨h1, h2⟩ h13
    rw [hb] at tc
    rw [en]
    exact seq_rt ((sif_ev tc).trans rfl)
theorem gIntT_num (h : isNum x = true) : gIntT [.str x] M = .ok (.int (numV x)) M := by
  obtain ⟨n, e, ev, _⟩ := isNum_int h
  have hl : x.length ≤ 640 := by
    simp only [isNum, Bool.and_eq_true, decide_eq_true_eq] at h
    omega
  show (match intText? x with | some n' => if Nat.ble x.length 640 = true then Res.ok (D.int n') M else .bad | none => .bad) = _
  rw [e, ev]
  exact if_pos (Nat.ble_eq_true_of_le hl)
end QX
set_option maxRecDepth 100000
set_option maxHeartbeats 1000000
namespace QX
open PySem
/- with_nought -/
/- solved -/
/- turn_ends -/
/- turn_table -/
/- solved_board -/
/- need_drain -/
/- share_tops -/
/- greatest_common -/
/- lowered -/
/- shares -/
/- need_stand -/
/- owed_top -/
/- owed -/
/- _law_least -/
/- _law_plus -/
/- _law_times -/
end QX
set_option maxRecDepth 100000
set_option maxHeartbeats 1000000
namespace QX
open PySem
/- _law_led_on -/
/- _law_sends -/
/- _law_table -/
/- _law_number -/
/- _law_drains -/
/- _law_is_quick -/
/- _law_step -/
/- _law_board -/
/- _law_rest -/
/- _law_one -/
end QX
set_option maxRecDepth 100000
set_option maxHeartbeats 1000000
namespace QX
open PySem
/- first_reached -/
/- turn_on -/
/- gone_down -/
/- are_drops -/
/- dropped -/
end QX
set_option maxRecDepth 100000
set_option maxHeartbeats 1000000
namespace QX
open PySem
/- _law_both -/
/- _law_parts -/
/- law -/
end QX
set_option maxRecDepth 100000
set_option maxHeartbeats 1000000
namespace QX
open PySem
/- begun -/
/- one_more -/
/- fall -/
/- path_of -/
/- cups_along -/
/- far_fall -/
end QX
set_option maxRecDepth 100000
set_option maxHeartbeats 1000000
namespace QX
open PySem
/- _law_board -/
/- _law_teller -/
/- _law_word -/
/- _law_handled -/
/- _law_rested -/
/- _law_drop -/
/- _law_told -/
/- are_mouths -/
/- need_teller -/
/- is_word -/
/- need_word -/
/- gains_of -/
/- told -/
/- law -/
end QX
set_option maxRecDepth 100000
set_option maxHeartbeats 1000000
namespace QX.Det
end QX.Det
set_option maxRecDepth 100000
set_option maxHeartbeats 1000000
namespace QX.Det
end QX.Det
set_option maxRecDepth 100000
set_option maxHeartbeats 1000000
namespace QX
open PySem PySem.Spec PyProof.Rows L2 HX QX.Det
variable {M : Mem} {p k : Nat} {x : Cell} {σ : Sa} {ws : List (List (List Int))} {c : Int} {m : Mo} {n : Int}
end QX
set_option maxRecDepth 100000
set_option maxHeartbeats 1000000
namespace QX
open PySem PySem.Spec PyProof.Rows L2 HX QX.Det
variable {M : Mem} {p k : Nat} {x : Cell} {σ : Sa} {ws : List (List (List Int))} {c : Int} {m : Mo} {n : Int}
theorem comp_mapI {α : Type} {fi : F Ita} {vs : List Nat} {t : Tg} {e : F D} (xs : List α) (g : α → Im) (h : α → D) (hi : fi σ M = .ok ⟨xs.map g, fun _ => true⟩ M) (hw : Wf M) (hl : xs.length ≤ 1000000)
    (he : ∀ x ∈ xs, (h x).und M.length = true ∧ ∃ σ1, t.put (g x) (wipeA σ vs) = some σ1 ∧ ∀ M', Wf M' → e σ1 M' = .ok (h x) M') : fTrim (fCompC fi vs t fYes e) σ M = .ok (.lst (xs.map h)) M := by
  classical
  have key : ∀ x ∈ xs, ∀ y ∈ xs, g x = g y → h x = h y := fun x hx y hy hg => by
    obtain ⟨_, σ1, a1, a2⟩ := he x hx
    obtain ⟨_, σ2, b1, b2⟩ := he y hy
    rw [hg, b1] at a1
    cases a1
    have := (a2 M hw).symm.trans (b2 M hw)
    injection this
  let f : Im → D := fun im => if hx : ∃ x ∈ xs, im = g x then h (Classical.choose hx) else .non
  have hf : ∀ x ∈ xs, f (g x) = h x := fun x hx => by
    have hx' : ∃ y ∈ xs, g x = g y := ⟨x, hx, rfl⟩
    show (if hx : ∃ y ∈ xs, g x = g y then h (Classical.choose hx) else .non) = _
    rw [dif_pos hx']
    have hs := Classical.choose_spec hx'
    exact (key x hx _ hs.1 hs.2).symm
  have r := comp_pure (fi := fi) (vs := vs) (t := t) (e := e) (σ := σ) (M := M) (it := ⟨xs.map g, fun _ => true⟩) f hi (fun _ => rfl) hw (by simpa using hl) (fun im him => by
    obtain ⟨x, hx, rfl⟩ := List.mem_map.mp him
    rw [hf x hx]
    obtain ⟨u, σ1, a1, a2⟩ := he x hx
    exact ⟨u, σ1, a1, fun M' w1 _ => a2 M' w1⟩)
  rw [r]
  congr 2
  show (xs.map g).map f = _
  rw [List.map_map]
  exact List.map_congr_left fun x hx => hf x hx
theorem pass9 {ga : F Bool} {s1 : FS} (h : ga σ M = .ok false M) : sIf ga s1 sNext σ M = .ok (.nx σ) M := (sif_ev h).trans rfl
end QX
set_option maxRecDepth 100000
set_option maxHeartbeats 1000000
namespace QX
open PySem PySem.Spec PyProof.Rows L2 HX QX.Det
variable {M : Mem} {p k : Nat} {x : Cell} {σ : Sa} {ws : List (List (List Int))} {c : Int} {m : Mo}
end QX
set_option maxRecDepth 100000
set_option maxHeartbeats 1000000
namespace QX
open PySem PySem.Spec PyProof.Rows L2 HX QX.Det
variable {M : Mem} {p k : Nat} {x : Cell} {σ : Sa} {ws : List (List (List Int))} {c : Int} {m : Mo}
end QX
set_option maxRecDepth 100000
set_option maxHeartbeats 1000000
namespace QX
open PySem PySem.Spec PyProof.Rows L2 HX QX.Det
variable {M : Mem} {p k : Nat} {x : Cell} {σ : Sa} {ws : List (List (List Int))} {c : Int} {m : Mo}
end QX
set_option maxRecDepth 100000
set_option maxHeartbeats 1000000
namespace QX
open PySem PySem.Spec PyProof.Rows L2 HX QX.Det
variable {M : Mem} {p k : Nat} {x : Cell} {σ : Sa} {ws : List (List (List Int))} {c : Int} {m : Mo}
end QX
set_option maxRecDepth 100000
set_option maxHeartbeats 1000000
set_option exponentiation.threshold 5000
namespace QX
open PySem PySem.Spec PyProof.Rows L2 HX QX.Det
variable {M : Mem} {p k : Nat} {x : Cell} {σ : Sa} {ws : List (List (List Int))} {c : Int} {m : Mo}
end QX
set_option maxRecDepth 100000
set_option maxHeartbeats 1000000
set_option exponentiation.threshold 5000
namespace QX
open PySem PySem.Spec PyProof.Rows L2 HX QX.Det
variable {M : Mem} {p k : Nat} {x : Cell} {σ : Sa} {ws : List (List (List Int))} {c : Int} {m : Mo}
end QX
set_option maxRecDepth 100000
set_option maxHeartbeats 1000000
set_option exponentiation.threshold 5000
namespace QX
open PySem PySem.Spec PyProof.Rows L2 HX QX.Det
variable {M : Mem} {p k : Nat} {x : Cell} {σ : Sa} {ws : List (List (List Int))} {c : Int} {m : Mo}
end QX
set_option maxRecDepth 100000
set_option maxHeartbeats 1000000
set_option exponentiation.threshold 5000
namespace QX
open PySem PySem.Spec PyProof.Rows L2 HX QX.Det
end QX
set_option maxRecDepth 100000
set_option maxHeartbeats 1000000
set_option exponentiation.threshold 5000
namespace QX
open PySem PySem.Spec PyProof.Rows L2 HX QX.Det
variable {ws : List (List (List Int))} {c : Int}
end QX
set_option maxRecDepth 100000
set_option maxHeartbeats 1000000
set_option exponentiation.threshold 5000
namespace QX
open PySem PySem.Spec PyProof.Rows L2 HX QX.Det
end QX
namespace QX
open PySem PySem.Spec PyProof.Rows L2 HX QX.Det
variable {ws : List (List (List Int))} {c : Int}
end QX
set_option maxRecDepth 100000
set_option maxHeartbeats 1000000
set_option exponentiation.threshold 5000
namespace QX
open PySem PySem.Spec PyProof.Rows L2 HX QX.Det
variable {ws : List (List (List Int))} {c : Int}
end QX
set_option maxRecDepth 100000
set_option maxHeartbeats 1000000
set_option exponentiation.threshold 5000
namespace QX
open PySem PySem.Spec PyProof.Rows L2 HX QX.Det
variable {ws : List (List (List Int))} {c : Int} {m : Mo}
end QX
set_option maxRecDepth 100000
set_option maxHeartbeats 1000000
namespace QX.Det
end QX.Det
set_option maxRecDepth 100000
set_option maxHeartbeats 1000000
namespace QX.Det
end QX.Det
set_option maxRecDepth 100000
set_option maxHeartbeats 1000000
set_option exponentiation.threshold 5000
namespace QX
open PySem PySem.Spec PyProof.Rows L2 HX QX.Det
variable {ws : List (List (List Int))} {c : Int}
end QX
set_option maxRecDepth 100000
set_option maxHeartbeats 1000000
namespace QX
open PySem PySem.Spec PyProof.Rows L2 HX
variable {ws : List (List (List Int))} {c : Int} {m : Mo}
end QX
set_option maxRecDepth 100000
set_option maxHeartbeats 1000000
namespace QX
open PySem
/- _law_sums -/
/- _law_end_share -/
/- _law_turns_right -/
/- law -/
end QX
set_option maxRecDepth 100000
set_option maxHeartbeats 1000000
set_option exponentiation.threshold 5000
namespace QX
open PySem PySem.Spec PyProof.Rows L2 HX QX.Det
variable {M : Mem} {p k : Nat} {x : Cell} {σ : Sa} {ws : List (List (List Int))} {c : Int} {m : Mo}
end QX
set_option maxRecDepth 100000
set_option maxHeartbeats 1000000
set_option exponentiation.threshold 5000
namespace QX
open PySem PySem.Spec PyProof.Rows L2 HX QX.Det
variable {ws : List (List (List Int))} {c : Int} {m : Mo} {q : Int} {ls : List (List Int)}
end QX
set_option maxRecDepth 100000
set_option maxHeartbeats 1000000
set_option exponentiation.threshold 5000
namespace QX
open PySem PySem.Spec PyProof.Rows L2 HX QX.Det
variable {ws : List (List (List Int))} {c : Int} {m : Mo} {q : Int} {ls : List (List Int)}
end QX
set_option maxRecDepth 100000
set_option maxHeartbeats 1000000
set_option exponentiation.threshold 5000
namespace QX
open PySem PySem.Spec PyProof.Rows L2 HX QX.Det
variable {ws ws1 ws2 : List (List (List Int))} {c : Int} {q q1 q2 : Int} {ls ls1 ls2 : List (List Int)} {lk : List (Option Int)} {c2 : Nat}
end QX
set_option maxRecDepth 100000
set_option maxHeartbeats 1000000
namespace QX
open PySem PySem.Spec PyProof.Rows L2 HX QX.Det
variable {ws wJ ws1 ws2 : List (List (List Int))} {c cJ : Int} {m mJ : Mo} {lk : List (Option Int)} {c2 off : Nat} {g : Nat → Nat} {B S : Nat → Int}
end QX
set_option maxRecDepth 100000
set_option maxHeartbeats 1000000
namespace QX
open PySem PySem.Spec PyProof.Rows L2 HX QX.Det
variable {ws : List (List (List Int))} {c : Int} {m : Mo}
end QX
set_option maxRecDepth 100000
set_option maxHeartbeats 1000000
set_option exponentiation.threshold 5000
namespace QX
open PySem PySem.Spec PyProof PyProof.Rows L2 HX QX.Det
variable {A g M : Mem} {σ : Sa} {ws : List (List (List Int))} {c : Int} {m : Mo}
end QX
set_option maxRecDepth 100000
set_option maxHeartbeats 1000000
set_option exponentiation.threshold 5000
namespace QX
open PySem PySem.Spec PyProof PyProof.Rows L2 HX QX.Det
variable {A g M : Mem} {σ : Sa} {ws : List (List (List Int))} {c : Int} {m : Mo} {q : Int} {ls : List (List Int)}
end QX
set_option maxRecDepth 100000
set_option maxHeartbeats 1000000
set_option exponentiation.threshold 5000
namespace QX
open PySem PySem.Spec PyProof PyProof.Rows L2 HX QX.Det
variable {A g M : Mem} {σ : Sa} {ws : List (List (List Int))} {c : Int} {m : Mo} {q : Int} {ls : List (List Int)}
end QX
set_option maxRecDepth 100000
set_option maxHeartbeats 1000000
set_option exponentiation.threshold 5000
namespace QX
open PySem PySem.Spec PyProof PyProof.Rows L2 HX QX.Det
variable {M : Mem} {σ : Sa} {ws ws1 ws2 : List (List (List Int))} {c : Int} {m : Mo} {q : Int} {ls : List (List Int)} {lk : List (Option Int)}
end QX
set_option maxRecDepth 100000
set_option maxHeartbeats 1000000
set_option exponentiation.threshold 5000
namespace QX
open PySem PySem.Spec PyProof PyProof.Rows L2 HX QX.Det
variable {ws : List (List (List Int))} {c : Int} {q : Int} {ls : List (List Int)} {st s0 now cups ends es : List Int} {w w0 : Nat} {e : Int} {pre : List Nat}
end QX
set_option maxRecDepth 100000
set_option maxHeartbeats 1000000
namespace QX
open PySem PySem.Spec PyProof PyProof.Rows L2 HX QX.Det
variable {M : Mem} {p k : Nat} {x : Cell} {σ : Sa} {ws : List (List (List Int))} {c : Int}
theorem par3_ev {fa fb fc : F D} {i j l : Nat} {M1 M2 M3 : Mem} {a b c : D} (ha : fa σ M = .ok a M1) (hb : fb σ M1 = .ok b M2) (hc : fc σ M2 = .ok c M3) : sPar3 i j l (fCons fa (fCons fb (fCons fc fNil))) σ M = .ok (.nx (((σ.set i (some a)).set j (some b)).set l (some c))) M3 := by
  unfold sPar3
  rw [ev_cons, ha, bind_ok, ev_cons, hb, bind_ok, ev_cons, hc, bind_ok, ev_nil, bind_ok, bind_ok, bind_ok, bindS_ok]
end QX
set_option maxRecDepth 100000
set_option maxHeartbeats 1000000
set_option exponentiation.threshold 5000
namespace QX
open PySem PySem.Spec PyProof.Rows L2 HX QX.Det
variable {M : Mem} {p k : Nat} {x : Cell} {σ : Sa} {ws : List (List (List Int))} {c : Int} {m : Mo}
end QX
set_option maxRecDepth 100000
set_option maxHeartbeats 1000000
set_option exponentiation.threshold 5000
namespace QX
open PySem PySem.Spec PyProof.Rows L2 HX QX.Det
variable {M : Mem} {p k : Nat} {x : Cell} {σ : Sa} {ws : List (List (List Int))} {c : Int} {m : Mo}
end QX
set_option maxRecDepth 100000
set_option maxHeartbeats 1000000
namespace QX
open PySem PySem.Spec PyProof PyProof.Rows L2 HX QX.Det
variable {M : Mem} {p k : Nat} {x : Cell} {σ : Sa} {ws : List (List (List Int))} {c : Int} {d e : D} {q : Int} {ls : List (List Int)}
end QX
set_option maxRecDepth 100000
set_option maxHeartbeats 1000000
namespace QX
namespace Det
end Det
end QX
set_option maxRecDepth 100000
set_option maxHeartbeats 1000000
set_option exponentiation.threshold 5000
namespace QX
open PySem PySem.Spec PyProof PyProof.Rows L2 HX QX.Det
variable {M : Mem} {p k : Nat} {x : Cell} {σ : Sa} {ws : List (List (List Int))} {c : Int} {q : Int} {ls : List (List Int)}
end QX
set_option maxRecDepth 100000
set_option maxHeartbeats 1000000
set_option exponentiation.threshold 5000
namespace QX
open PySem PySem.Spec PyProof PyProof.Rows L2 HX QX.Det
variable {M : Mem} {p k : Nat} {x : Cell} {σ : Sa} {ws : List (List (List Int))} {c : Int} {q : Int} {ls : List (List Int)}
end QX
set_option maxRecDepth 100000
set_option maxHeartbeats 1000000
set_option exponentiation.threshold 5000
namespace QX
open PySem PySem.Spec PyProof PyProof.Rows L2 HX QX.Det
variable {M : Mem} {p k : Nat} {x : Cell} {σ : Sa} {ws : List (List (List Int))} {c : Int} {q : Int} {a l : List Int}
end QX
set_option maxRecDepth 100000
set_option maxHeartbeats 1000000
set_option exponentiation.threshold 5000
namespace QX
open PySem PySem.Spec PyProof PyProof.Rows L2 HX QX.Det
variable {M : Mem} {p k : Nat} {x : Cell} {σ : Sa} {ws : List (List (List Int))} {c : Int} {q : Int} {a l : List Int}
end QX
set_option maxRecDepth 100000
set_option maxHeartbeats 1000000
set_option exponentiation.threshold 5000
namespace QX
open PySem PySem.Spec PyProof PyProof.Rows L2 HX QX.Det
variable {M M0 g G : Mem} {p k : Nat} {x y : Cell} {σ : Sa} {ws : List (List (List Int))} {c : Int} {N : Int} {es : List Int}
end QX
set_option maxRecDepth 100000
set_option maxHeartbeats 1000000
namespace QX
open PySem PySem.Spec PyProof PyProof.Rows L2 HX QX.Det
variable {M : Mem} {p k : Nat} {x : Cell} {σ : Sa} {ws : List (List (List Int))} {c : Int} {q : Int} {ls : List (List Int)} {st st0 S cn cu : List Int} {T : Int}
end QX
set_option maxRecDepth 100000
set_option maxHeartbeats 1000000
namespace QX
open PySem PySem.Spec PyProof PyProof.Rows L2 HX QX.Det
variable {M : Mem} {p k : Nat} {x : Cell} {σ : Sa} {ws : List (List (List Int))} {c : Int} {q : Int} {ls : List (List Int)} {st st0 S cn cu : List Int} {T : Int}
end QX
set_option maxRecDepth 100000
set_option maxHeartbeats 1000000
set_option exponentiation.threshold 5000
namespace QX
open PySem PySem.Spec PyProof PyProof.Rows L2 HX QX.Det
variable {M : Mem} {σ : Sa} {ws : List (List (List Int))} {c : Int} {q : Int} {ls : List (List Int)} {st : List Int} {w : Nat}
end QX
set_option maxRecDepth 100000
set_option maxHeartbeats 1000000
set_option exponentiation.threshold 5000
namespace QX
open PySem PySem.Spec PyProof PyProof.Rows L2 HX QX.Det
variable {A M : Mem} {σ : Sa} {ws : List (List (List Int))} {c : Int} {q : Int} {ls : List (List Int)} {st st0 s0 now cups ends es : List Int} {w w0 w00 p : Nat} {e : Int} {kvs : List (NestedKey × D)} {bs : List D} {pre : List Nat}
section
variable {o5 o6 o7 o8 o9 o10 : Option D}
end
end QX
set_option maxRecDepth 100000
set_option maxHeartbeats 1000000
set_option exponentiation.threshold 5000
namespace QX
open PySem PySem.Spec PyProof PyProof.Rows L2 HX QX.Det
variable {A M : Mem} {σ : Sa} {ws : List (List (List Int))} {c : Int} {q : Int} {ls : List (List Int)} {st : List Int} {w p T j : Nat} {kvs : List (NestedKey × D)}
section
variable {n : Nat}
end
end QX
set_option maxRecDepth 100000
set_option maxHeartbeats 1000000
namespace QX
open PySem PySem.Spec PyProof PyProof.Rows L2 HX QX.Det
variable {A M : Mem} {p k : Nat} {x : Cell} {σ : Sa} {ws : List (List (List Int))} {c : Int} {m : Mo} {q : Int} {ls : List (List Int)} {T : Int}
end QX
set_option maxRecDepth 100000
set_option maxHeartbeats 1000000
set_option exponentiation.threshold 5000
namespace QX
open PySem PySem.Spec PyProof PyProof.Rows L2 HX QX.Det
variable {A M : Mem} {σ : Sa} {ws : List (List (List Int))} {c : Int} {q : Int} {ls : List (List Int)} {st : List Int} {w p T j : Nat}
end QX
set_option maxRecDepth 100000
set_option maxHeartbeats 1000000
set_option exponentiation.threshold 5000
namespace QX
open PySem PySem.Spec PyProof PyProof.Rows L2 HX QX.Det
variable {A M : Mem} {σ : Sa} {ws : List (List (List Int))} {c : Int} {q : Int} {ls : List (List Int)} {st : List Int} {w p T j n : Nat} {kvs : List (NestedKey × D)}
end QX
set_option maxRecDepth 100000
set_option maxHeartbeats 1000000
set_option exponentiation.threshold 5000
namespace QX
open PySem PySem.Spec PyProof PyProof.Rows L2 HX QX.Det
variable {A M : Mem} {σ : Sa} {ws : List (List (List Int))} {c : Int} {q : Int} {ls : List (List Int)} {st : List Int} {w p T j n N : Nat} {kvs : List (NestedKey × D)}
end QX
set_option maxRecDepth 100000
set_option maxHeartbeats 1000000
set_option exponentiation.threshold 5000
namespace QX
open PySem PySem.Spec PyProof PyProof.Rows L2 HX QX.Det
variable {M M0 g : Mem} {σ : Sa} {p k : Nat} {x y : Cell} {ws : List (List (List Int))} {c : Int}
section
variable {most steps : Int} {C W r : Nat} {wts : List Int} {o7 o8 o9 o11 o13 o14 o15 : Option D}
end
end QX
set_option maxRecDepth 100000
set_option maxHeartbeats 1000000
set_option exponentiation.threshold 5000
namespace QX
open PySem PySem.Spec PyProof PyProof.Rows L2 HX QX.Det
variable {ws : List (List (List Int))} {c : Int} {q : Int} {ls : List (List Int)} {st : List Int} {w p T j n N : Nat}
end QX
set_option maxRecDepth 100000
set_option maxHeartbeats 1000000
set_option exponentiation.threshold 5000
namespace QX
open PySem PySem.Spec PyProof PyProof.Rows L2 HX QX.Det
variable {M A : Mem} {σ : Sa} {p k : Nat} {x y : Cell} {ws : List (List (List Int))} {c q : Int} {ls : List (List Int)} {st ms wd : List Int}
end QX
set_option maxRecDepth 100000
set_option maxHeartbeats 1000000
set_option exponentiation.threshold 5000
namespace QX
open PySem PySem.Spec PyProof PyProof.Rows L2 HX QX.Det
variable {ws : List (List (List Int))} {c : Int} {q : Int} {ls : List (List Int)} {st b : List Int} {w p T j n N : Nat}
end QX
set_option maxRecDepth 100000
set_option maxHeartbeats 1000000
set_option exponentiation.threshold 5000
namespace QX
open PySem PySem.Spec PyProof PyProof.Rows L2 HX QX.Det
variable {M A : Mem} {σ : Sa} {p k : Nat} {x y : Cell} {ws : List (List (List Int))} {c q : Int} {ls : List (List Int)} {st ms wd : List Int}
end QX
set_option maxRecDepth 100000
set_option maxHeartbeats 1000000
set_option exponentiation.threshold 5000
namespace QX
open PySem PySem.Spec PyProof.Rows L2 HX QX.Det
variable {d : Duo} {p p' : Pr} {z n : Nat} {kw line : Kw}
end QX
set_option maxRecDepth 100000
set_option maxHeartbeats 1000000
namespace QX
open PySem
/- stands_in_all -/
/- need_few_stands -/
/- need_two_tellers -/
/- pair_fall -/
/- parted -/
/- _law_parted -/
/- _law_otherwise -/
end QX
set_option maxRecDepth 100000
set_option maxHeartbeats 1000000
set_option exponentiation.threshold 5000
namespace QX
open PySem PySem.Spec PyProof.Rows L2 HX QX.Det
variable {M A : Mem} {σ : Sa} {d : Duo} {p p' : Pr} {z n : Nat} {kw line later : Kw}
theorem for_retG {t : Tg} {b : FS} {n : Nat} {chk : Mem → Bool} {items : List Im} (Iv : Nat → Sa → Mem → Prop) (R : D → Mem → Prop) (hc : ∀ j σ M, Iv j σ M → chk M = true)
    (step : ∀ j σ M im, items[j]? = some im → Iv j σ M → ∃ σ1, t.put im σ = some σ1 ∧ ((∃ σ2 M2, b σ1 M = .ok (.nx σ2) M2 ∧ Iv (j + 1) (gc n σ2 M2).1 (gc n σ2 M2).2) ∨ ∃ d M2, b σ1 M = .ok (.rt d) M2 ∧ R d M2)) :
    ∀ (k j : Nat) (σ : Sa) (M : Mem), j + k = items.length → Iv j σ M → (∃ σ' M', forL t b chk n (items.drop j) σ M = .ok (.nx σ') M' ∧ Iv items.length σ' M') ∨ ∃ d M', forL t b chk n (items.drop j) σ M = .ok (.rt d) M' ∧ R d M'
  | 0, j, σ, M, hj, h => by
    have e : j = items.length := by omega
    subst e
    refine .inl ⟨σ, M, ?_, h⟩
    rw [List.drop_length]
    unfold forL
    rw [if_pos (hc _ _ _ h)]
  | k + 1, j, σ, M, hj, h => by
    have hlt : j < items.length := by omega
    rw [List.drop_eq_getElem_cons hlt]
    obtain ⟨σ1, h1, h2⟩ := step j σ M _ (List.getElem?_eq_getElem hlt) h
    have e0 : ∀ r, (match b σ1 M with
        | .ok (.nx σ2) M2 => forL t b chk n (items.drop (j + 1)) (gc n σ2 M2).1 (gc n σ2 M2).2
        | .ok (.ct σ2) M2 => forL t b chk n (items.drop (j + 1)) (gc n σ2 M2).1 (gc n σ2 M2).2
        | .ok (.bk σ2) M2 => .ok (.nx σ2) M2
        | .ok (.rt d) M2 => .ok (.rt d) M2
        | .exc c fs σ2 M2 => .exc c fs σ2 M2
        | .bad => .bad) = r → forL t b chk n (items[j] :: items.drop (j + 1)) σ M = r := fun r hr => by
      unfold forL
      rw [if_pos (hc _ _ _ h), h1]
      exact hr
    rcases h2 with ⟨σ2, M2, a, b'⟩ | ⟨dv, M2, a, b'⟩
    · rcases for_retG Iv R hc step k (j + 1) _ _ (by omega) b' with ⟨σ', M', x, y⟩ | ⟨dv, M', x, y⟩
      · exact .inl ⟨σ', M', e0 _ (by rw [a]; exact x), y⟩
      · exact .inr ⟨dv, M', e0 _ (by rw [a]; exact x), y⟩
    · exact .inr ⟨dv, M2, e0 _ (by rw [a]), b'⟩
end QX
set_option maxRecDepth 100000
set_option maxHeartbeats 1000000
namespace QX
open PySem
/- lame_ones -/
/- blocked_ones -/
/- off_ones -/
/- faults_of -/
/- all_faults -/
/- is_fault -/
/- need_fault -/
/- put_at -/
/- without_end -/
/- faulty -/
/- with_fault -/
/- is_seen -/
/- tells_just -/
/- fitting -/
/- parting -/
end QX
set_option maxRecDepth 100000
set_option maxHeartbeats 1000000
namespace QX
open PySem
/- _law_faults -/
/- _law_with -/
/- law -/
end QX
set_option maxRecDepth 100000
set_option maxHeartbeats 1000000
namespace QX
open PySem
/- _law_odd -/
/- _law_bent -/
/- law -/
end QX
set_option maxRecDepth 100000
set_option maxHeartbeats 1000000
namespace QX
open PySem
/- is_teller -/
/- _law_fault_right -/
/- _law_two_right -/
/- law -/
end QX
set_option maxRecDepth 100000
set_option maxHeartbeats 1000000
namespace QX
open PySem
/- _law_no_tellers -/
/- _law_drains -/
/- _law_is_board -/
/- _law_amiss -/
/- law -/
end QX
set_option maxRecDepth 100000
set_option maxHeartbeats 1000000
set_option exponentiation.threshold 5000
namespace QX
open PySem PySem.Spec PyProof PyProof.Rows L2 HX QX.Det
variable {M A : Mem} {p k : Nat} {x : Cell} {σ : Sa} {ws : List (List (List Int))} {c : Int}
end QX
set_option maxRecDepth 100000
set_option maxHeartbeats 1000000
set_option exponentiation.threshold 5000
namespace QX
open PySem PySem.Spec PyProof.Rows L2 HX QX.Det
variable {M A : Mem} {σ : Sa} {d : Duo} {p p' s0 : Pr} {z n fu : Nat} {kw line later : Kw} {k1 k2 : List (NestedKey × D)} {g : Mem} {ws : List (List (List Int))} {c : Int}
end QX
set_option maxRecDepth 100000
set_option maxHeartbeats 1000000
set_option exponentiation.threshold 5000
namespace QX
open PySem PySem.Spec PyProof.Rows L2 HX QX.Det
variable {ws : List (List (List Int))} {c : Int} {m : Mo} {q : Int} {ls : List (List Int)} {folk : Nat}
end QX
set_option maxRecDepth 100000
set_option maxHeartbeats 1000000
namespace QX
open PySem PySem.Spec PyProof.Rows L2 HX
variable {M Z : Mem} {n0 n1 n2 folk : Nat} {st wt hd : List Int} {σ : Sa} {ws : List (List (List Int))} {c : Int} {m : Mo}
end QX
set_option maxRecDepth 100000
set_option maxHeartbeats 1000000
namespace QX
open PySem
/- _law_links -/
/- _law_joined -/
/- law -/
end QX
set_option maxRecDepth 100000
set_option maxHeartbeats 1000000
namespace QX
open PySem
/- never_counts -/
/- end_of -/
/- _law_parts_right -/
/- law -/
end QX
set_option maxRecDepth 100000
set_option maxHeartbeats 1000000
namespace QX
open PySem
/- settled -/
/- rounds_more -/
/- beats_to_rest -/
/- beats -/
end QX
set_option maxRecDepth 100000
set_option maxHeartbeats 1000000
set_option exponentiation.threshold 5000
namespace QX
open PySem PySem.Spec PyProof.Rows L2 HX QX.Det
variable {M A Z : Mem} {σ : Sa} {ws : List (List (List Int))} {c : Int} {m : Mo}
section
variable {fa fb : F D} {i j : Nat} {e : F D} {as bs : List Int} {da db : D}
end
theorem eqI_ev {i j : Int} {neg : Bool} : gEq neg (.int i) (.int j) M = .ok (.bl (if neg = true then !decide (i = j) else decide (i = j))) M := by
  have e : ∀ i : Int, toPy M (.int i) = some (.int i) := fun _ => rfl
  have s : ∀ i : Int, SeqAt.shaped (.int i) = true := fun i => by
    obtain ⟨x, _, b, f, _⟩ := (LK.int (i := i)).py (M := []) (by decide)
    cases b
    exact f
  unfold gEq
  rw [e, e]
  simp only [s, Bool.and_self, if_true]
  rw [PyData.eqv]
  by_cases h : i = j <;> cases neg <;> simp [h]
end QX
set_option maxRecDepth 100000
set_option maxHeartbeats 1000000
set_option exponentiation.threshold 5000
namespace QX
open PySem PySem.Spec PyProof.Rows L2 HX QX.Det
variable {M A Z : Mem} {σ : Sa} {ws : List (List (List Int))} {c : Int} {m : Mo} {q : Int} {ls : List (List Int)} {folk : Nat}
end QX
set_option maxRecDepth 100000
set_option maxHeartbeats 1000000
set_option exponentiation.threshold 5000
namespace QX
open PySem PySem.Spec PyProof.Rows L2 HX QX.Det
variable {M A Z : Mem} {σ : Sa} {ws : List (List (List Int))} {c : Int} {m : Mo} {q : Int} {ls : List (List Int)} {folk : Nat}
end QX
set_option maxRecDepth 100000
set_option maxHeartbeats 1000000
set_option exponentiation.threshold 5000
namespace QX
open PySem PySem.Spec PyProof.Rows L2 HX QX.Det
variable {M A Z : Mem} {σ : Sa} {ws : List (List (List Int))} {c : Int} {m : Mo} {q : Int} {ls : List (List Int)} {folk : Nat}
end QX
set_option maxRecDepth 100000
set_option maxHeartbeats 1000000
set_option exponentiation.threshold 5000
namespace QX
open PySem PySem.Spec PyProof.Rows L2 HX QX.Det
variable {M A : Mem} {σ : Sa} {d : Duo} {p p' s0 : Pr} {z n fu : Nat} {kw kw0 line later : Kw} {k1 k2 : List (NestedKey × D)} {g : Mem} {ws : List (List (List Int))} {c : Int}
end QX
set_option maxRecDepth 100000
set_option maxHeartbeats 1000000
set_option exponentiation.threshold 5000
namespace QX
open PySem PySem.Spec PyProof.Rows L2 HX QX.Det
variable {M A : Mem} {σ : Sa} {d : Duo} {p p' s0 : Pr} {z n fu : Nat} {kw kw0 line later : Kw} {k1 k2 : List (NestedKey × D)} {g : Mem} {ws : List (List (List Int))} {c : Int}
end QX
set_option maxRecDepth 100000
set_option maxHeartbeats 1000000
set_option exponentiation.threshold 5000
namespace QX
open PySem PySem.Spec PyProof PyProof.Rows L2 HX QX.Det
variable {M A : Mem} {σ : Sa} {p k : Nat} {x y : Cell} {ws : List (List (List Int))} {c q : Int} {ls : List (List Int)} {st ms wd : List Int} {m : Mo} {T : Int}
end QX
set_option maxRecDepth 100000
set_option maxHeartbeats 1000000
set_option exponentiation.threshold 5000
namespace QX
open PySem PySem.Spec PyProof PyProof.Rows L2 HX QX.Det
variable {M A : Mem} {σ : Sa} {p k : Nat} {x y : Cell} {ws : List (List (List Int))} {c q : Int} {ls : List (List Int)} {st ms wd : List Int} {m : Mo} {T : Int}
end QX
set_option maxRecDepth 100000
set_option maxHeartbeats 1000000
set_option exponentiation.threshold 5000
namespace QX
open PySem PySem.Spec PyProof.Rows L2 HX QX.Det
variable {M A : Mem} {σ : Sa} {d : Duo} {p p' s0 : Pr} {z n fu : Nat} {kw kw0 line later : Kw} {g : Mem} {ws : List (List (List Int))} {c : Int}
end QX
set_option maxRecDepth 100000
set_option maxHeartbeats 1000000
set_option exponentiation.threshold 5000
namespace QX
open PySem PySem.Spec PyProof.Rows L2 HX QX.Det
variable {M A : Mem} {σ : Sa} {n k : Nat} {x : Cell} {ws : List (List (List Int))} {c : Int} {st ms wts : List Int}
end QX
set_option maxRecDepth 100000
set_option maxHeartbeats 1000000
set_option exponentiation.threshold 5000
namespace QX
open PySem PySem.Spec PyProof.Rows L2 HX QX.Det
variable {M A : Mem} {σ : Sa} {n k : Nat} {x : Cell} {ws : List (List (List Int))} {c : Int} {st ms wts : List Int}
section
variable {way : Int} {i j : Nat}
end
end QX
set_option maxRecDepth 100000
set_option maxHeartbeats 1000000
set_option exponentiation.threshold 5000
namespace QX
open PySem PySem.Spec PyProof.Rows L2 HX QX.Det
variable {M A : Mem} {σ : Sa} {n k : Nat} {x : Cell} {ws : List (List (List Int))} {c : Int} {st ms wts : List Int}
end QX
set_option maxRecDepth 100000
set_option maxHeartbeats 1000000
set_option exponentiation.threshold 5000
namespace QX
open PySem PySem.Spec PyProof.Rows L2 HX QX.Det
variable {M A : Mem} {σ : Sa} {n k : Nat} {x : Cell} {ws : List (List (List Int))} {c : Int} {st ms wts : List Int}
end QX
set_option maxRecDepth 100000
set_option maxHeartbeats 1000000
set_option exponentiation.threshold 5000
namespace QX
open PySem PySem.Spec PyProof.Rows L2 HX QX.Det
variable {M A : Mem} {σ : Sa} {n k : Nat} {x : Cell} {ws : List (List (List Int))} {c : Int} {st ms wts : List Int} {f : Flt}
end QX
set_option maxRecDepth 100000
set_option maxHeartbeats 1000000
set_option exponentiation.threshold 5000
namespace QX
open PySem PySem.Spec PyProof.Rows L2 HX QX.Det
variable {M A : Mem} {σ : Sa} {n k : Nat} {x : Cell} {ws : List (List (List Int))} {c : Int} {st ms wts : List Int} {f g : Flt} {fs : List Flt}
end QX
set_option maxRecDepth 100000
set_option maxHeartbeats 1000000
set_option exponentiation.threshold 5000
namespace QX
open PySem PySem.Spec PyProof.Rows L2 HX QX.Det
variable {M A : Mem} {σ : Sa} {n k fu : Nat} {x : Cell} {ws : List (List (List Int))} {c : Int} {st ms wts wd : List Int} {f g : Flt} {fs : List Flt} {G : List (List Int)} {q : Int} {ls : List (List Int)}
end QX
set_option maxRecDepth 100000
set_option maxHeartbeats 1000000
set_option exponentiation.threshold 5000
namespace QX
open PySem PySem.Spec PyProof.Rows L2 HX QX.Det
variable {d : Duo} {p p' s0 : Pr} {z n k : Nat} {kw line later : Kw} {way : List Int} {ws : List (List (List Int))} {c : Int} {st ms wd : List Int}
end QX
set_option maxRecDepth 100000
set_option maxHeartbeats 1000000
namespace QX
open PySem
/- _law_line -/
/- round_of -/
/- law -/
end QX
set_option maxRecDepth 100000
set_option maxHeartbeats 1000000
namespace QX
open PySem
/- _law_far -/
/- led_far -/
/- _law_by_drops -/
/- law -/
end QX
set_option maxRecDepth 100000
set_option maxHeartbeats 1000000
set_option exponentiation.threshold 5000
namespace QX
open PySem PySem.Spec PyProof PyProof.Rows L2 HX QX.Det
variable {A M : Mem} {σ : Sa} {ws : List (List (List Int))} {c : Int} {q : Int} {ls : List (List Int)} {st : List Int} {w p T j n : Nat}
section
variable {o4 o5 o6 o7 o8 o9 : Option D}
end
end QX
set_option maxRecDepth 100000
set_option maxHeartbeats 1000000
set_option exponentiation.threshold 5000
namespace QX
open PySem PySem.Spec PyProof.Rows L2 HX QX.Det
variable {ws : List (List (List Int))} {c : Int} {m : Mo} {q : Int} {ls : List (List Int)} {B : Int}
end QX
set_option maxRecDepth 100000
set_option maxHeartbeats 1000000
set_option exponentiation.threshold 5000
namespace QX
open PySem PySem.Spec PyProof PyProof.Rows L2 HX QX.Det
variable {A M : Mem} {σ : Sa} {ws : List (List (List Int))} {c : Int} {q : Int} {ls : List (List Int)} {st : List Int} {w p T j n N : Nat}
end QX
set_option maxRecDepth 100000
set_option maxHeartbeats 1000000
set_option exponentiation.threshold 5000
namespace QX
open PySem PySem.Spec PyProof PyProof.Rows L2 HX QX.Det
variable {ws : List (List (List Int))} {c : Int} {m : Mo} {q : Int} {ls : List (List Int)} {st ds : List Int}
end QX
set_option maxRecDepth 100000
set_option maxHeartbeats 1000000
set_option exponentiation.threshold 5000
namespace QX
open PySem PySem.Spec PyProof PyProof.Rows L2 HX QX.Det
variable {M : Mem} {x : Cell} {ws : List (List (List Int))} {c : Int} {q : Int} {ls : List (List Int)} {st : List Int} {w k : Nat}
end QX
namespace Q33
end Q33
set_option maxRecDepth 100000
set_option maxHeartbeats 1000000
set_option exponentiation.threshold 5000
namespace QX
open PySem PySem.Spec PyProof PyProof.Rows L2 HX QX.Det
variable {M A : Mem} {σ : Sa} {p k : Nat} {x y : Cell} {ws : List (List (List Int))} {c q : Int} {ls : List (List Int)} {st ms wd : List Int}
section
variable {ns : List Int} {o1 o3 o4 o5 o6 o7 : Option D}
end
end QX
namespace Q65
end Q65
set_option maxRecDepth 100000
set_option maxHeartbeats 1000000
set_option exponentiation.threshold 5000
namespace QX
open PySem PySem.Spec PyProof PyProof.Rows L2 HX QX.Det
variable {M A : Mem} {σ : Sa} {n k fu : Nat} {x : Cell} {ws : List (List (List Int))} {c : Int} {st ms wts wd : List Int} {f g : Flt} {fs : List Flt} {G : List (List Int)} {q : Int} {ls : List (List Int)} {v : Kw ⊕ List Int}
end QX
set_option maxRecDepth 100000
set_option maxHeartbeats 1000000
namespace QX
open PySem PySem.Spec PyProof PyProof.Rows L2 HX
def RPD (d : D) (w h : Nat) : Prop := ∃ p, D.pyD d = some p ∧ withinD p = true ∧ wt p ≤ w ∧ p.depth ≤ h ∧ ∀ k, 1114112 ≤ k → k ∉ p.shown.cps.toList
mutual
theorem py_pyD : ∀ (d : D) (p : PyData), D.py d = some p → D.pyD d = some p
  | .non, _, h => by cases h; rfl
  | .bl b, _, h => by cases h; rfl
  | .int i, _, h => by cases h; rfl
  | .str x, _, h => by cases h; rfl
  | .tup ds, _, h => by
    unfold D.py at h
    split at h
    · rename_i ps e
      cases h
      unfold D.pyD
      rw [pyA_pyDA ds ps e]
    · cases h
  | .lst ds, _, h => by
    unfold D.py at h
    split at h
    · rename_i ps e
      cases h
      unfold D.pyD
      rw [pyA_pyDA ds ps e]
    · cases h
  | .dct _ _, _, h => by cases h
  | .scr _, _, h => by cases h
  | .ref _, _, h => by cases h
  | .adr _, _, h => by cases h
theorem pyA_pyDA : ∀ (ds : List D) (ps : List PyData), D.pyA ds = some ps → D.pyDA ds = some ps
  | [], _, h => by cases h; rfl
  | d :: ds, _, h => by
    unfold D.pyA at h
    split at h
    · rename_i p ps e1 e2
      cases h
      unfold D.pyDA
      rw [py_pyD d p e1, pyA_pyDA ds ps e2]
    · cases h
end
mutual
theorem withinB_D : ∀ p : PyData, withinB p = true → withinD p = true
  | .none, _ => rfl
  | .bool _, _ => rfl
  | .int i, h => h
  | .str _, _ => rfl
  | .list ds, h => by simp only [withinD]; exact withinBA_D ds (by simpa only [withinB] using h)
  | .tuple ds, h => by simp only [withinD]; exact withinBA_D ds (by simpa only [withinB] using h)
  | .dict _, h => by simp [withinB] at h
theorem withinBA_D : ∀ ds : List PyData, withinBA ds = true → withinDA ds = true
  | [], _ => rfl
  | d :: ds, h => by
    simp only [withinBA, Bool.and_eq_true] at h
    simp only [withinDA, Bool.and_eq_true]
    exact ⟨withinB_D d h.1, withinBA_D ds h.2⟩
end
theorem RP.d {d : D} {w h : Nat} (r : RP d w h) : RPD d w h := by
  obtain ⟨p, a, b, c, e, _, g⟩ := r
  exact ⟨p, py_pyD d p a, withinB_D p b, c, e, g⟩
theorem RPD.mono {d : D} {w h w' h' : Nat} (r : RPD d w h) (hw : w ≤ w') (hh : h ≤ h') : RPD d w' h' := by
  obtain ⟨p, a, b, c, e, g⟩ := r
  exact ⟨p, a, b, by omega, by omega, g⟩
theorem rpd_all {w h : Nat} : ∀ ds : List D, (∀ d ∈ ds, RPD d w h) → ∃ ps, D.pyDA ds = some ps ∧ withinDA ps = true ∧ wtAll ps ≤ ds.length * (w + 2) ∧ PyData.depthAll ps ≤ h ∧ ∀ k, 1114112 ≤ k → ∀ p ∈ ps, k ∉ p.shown.cps.toList
  | [], _ => ⟨[], rfl, rfl, by simp [wtAll], by simp [PyData.depthAll], fun k _ p hp => by simp at hp⟩
  | d :: ds, hd => by
    obtain ⟨p, a, b, c, e, g⟩ := hd d (by simp)
    obtain ⟨ps, a', b', c', e', g'⟩ := rpd_all ds fun x hx => hd x (by simp [hx])
    refine ⟨p :: ps, by simp only [D.pyDA, a, a'], by simp [withinDA, b, b'], ?_, ?_, fun k hk q hq => ?_⟩
    · simp only [wtAll, List.length_cons, Nat.add_mul, Nat.one_mul]; omega
    · simp only [PyData.depthAll]; omega
    · rcases List.mem_cons.mp hq with rfl | hq
      · exact g k hk
      · exact g' k hk q hq
theorem RPD.tup {ds : List D} {w h n : Nat} (hd : ∀ d ∈ ds, RPD d w h) (hn : ds.length ≤ n) : RPD (.tup ds) (3 + n * (w + 2)) (h + 1) := by
  obtain ⟨ps, a', b', c', e', g'⟩ := rpd_all ds hd
  refine ⟨.tuple ps, by simp only [D.pyD, a'], by simp [withinD, b'], ?_, ?_, fun k hk => ?_⟩
  · have : ds.length * (w + 2) ≤ n * (w + 2) := Nat.mul_le_mul_right _ hn
    simp only [wt]; omega
  · simp only [PyData.depth]; omega
  · simp only [PyData.shown, tupleText]
    rw [mem_cps_append, mem_cps_append, signs_lparen, mem_join, signs_tuple_end, signs_sep]
    rintro ((hm | (⟨t, ht, hc⟩ | ⟨_, hm⟩)) | hm)
    · simp at hm; omega
    · exact shownAll_free (g' k hk) t ht hc
    · simp at hm; omega
    · split at hm
      · simp at hm; omega
      · simp at hm; omega
theorem RPD.known {d : D} {p : PyData} {w h : Nat} (e : D.pyD d = some p) (b : (withinD p && Nat.ble (wt p) w && Nat.ble p.depth h && p.shown.cps.toList.all fun k => Nat.blt k 1114112) = true) : RPD d w h := by
  simp only [Bool.and_eq_true, List.all_eq_true] at b
  refine ⟨p, e, b.1.1.1, Nat.le_of_ble_eq_true b.1.1.2, Nat.le_of_ble_eq_true b.1.2, fun k hk hm => ?_⟩
  have := b.2 k hm
  rw [Nat.blt_eq] at this
  omega
theorem RPD.repr {d : D} {w h : Nat} (r : RPD d w h) (hw : w ≤ 16000000) (hh : h ≤ 100) : ∃ x, SeqAt.shaped (.str x) = true ∧ ∀ M, gReprD [d] M = .ok (.str x) M := by
  obtain ⟨p, a, b, c, e, g⟩ := r
  refine ⟨p.shown, strOk_free g, fun M => ?_⟩
  have ht : toPyD M d = some p := by
    cases d with
    | ref n => cases a
    | _ => exact a
  have ho : okReprD p = true := by
    unfold okReprD
    simp only [Bool.and_eq_true, Nat.ble_eq, b, true_and]
    exact ⟨by omega, by omega⟩
  show (match toPyD M d with | some p => if okReprD p = true then Res.ok (D.str p.shown) M else Res.bad | none => Res.bad) = _
  rw [ht]
  exact if_pos ho
end QX
set_option maxRecDepth 100000
set_option maxHeartbeats 1000000
set_option exponentiation.threshold 5000
namespace QX
open PySem PySem.Spec PyProof PyProof.Rows L2 HX QX.Det
variable {M A : Mem} {p k : Nat} {x : Cell} {σ : Sa} {ws : List (List (List Int))} {c : Int} {d e s m : D}
theorem inB_int {a b : Int} {d : D} (h : inB a b d = true) : ∃ i, d = .int i ∧ a ≤ i ∧ i ≤ b := by
  cases d with
  | int i =>
    simp only [inB, Bool.and_eq_true, decide_eq_true_eq] at h
    exact ⟨i, rfl, h⟩
  | _ => cases h
theorem stepB_of {n : Int} {d : D} (h : stepB n d = true) : ∃ s, d = stepT s ∧ EndsOk n s := by
  cases d with
  | tup ds =>
    have h' : (partsB 0 3 (.tup ds) && ds.all (inB 0 (n - 1))) = true := h
    rw [Bool.and_eq_true, List.all_eq_true] at h'
    obtain ⟨h1, h2⟩ := h'
    obtain ⟨as, rfl, h3⟩ := choose_map (f := D.int) (P := fun i => 0 ≤ i ∧ i < n) ds (fun d hd => by
      obtain ⟨i, rfl, a, b⟩ := inB_int (h2 d hd)
      exact ⟨i, rfl, a, by omega⟩)
    have := partsB_len h1
    rw [List.length_map] at this
    exact ⟨as, rfl, by omega, h3⟩
  | _ => cases h
theorem wheelB_of {n : Int} {d : D} (h : wheelB n d = true) : ∃ w, d = wheelT w ∧ WheelOk n w := by
  cases d with
  | tup ds =>
    have h' : (partsB 1 4 (.tup ds) && ds.all (stepB n)) = true := h
    rw [Bool.and_eq_true, List.all_eq_true] at h'
    obtain ⟨h1, h2⟩ := h'
    obtain ⟨as, rfl, h3⟩ := choose_map (f := stepT) (P := EndsOk n) ds (fun d hd => stepB_of (h2 d hd))
    simp only [partsB, Bool.and_eq_true, decide_eq_true_eq, List.length_map] at h1
    exact ⟨as, rfl, by omega, by omega, h3⟩
  | _ => cases h
theorem boardB_of {d : D} (h : boardB d = true) : ∃ ws c, d = boardT ws c ∧ BoardOk ws c := by
  unfold boardB at h
  split at h
  · rename_i w z
    rw [Bool.and_eq_true, Bool.and_eq_true] at h
    obtain ⟨h1, h2, h3⟩ := h
    obtain ⟨c, rfl, c0, c4⟩ := inB_int h2
    cases w with
    | tup ds =>
      have h3' : ds.all (wheelB ((ds.length : Int) + c)) = true := h3
      rw [List.all_eq_true] at h3'
      obtain ⟨as, rfl, h4⟩ := choose_map (f := wheelT) (P := WheelOk ((ds.length : Int) + c)) ds (fun d hd => wheelB_of (h3' d hd))
      simp only [partsB, Bool.and_eq_true, decide_eq_true_eq, List.length_map] at h1
      rw [List.length_map] at h4
      exact ⟨as, c, rfl, by omega, by omega, c0, c4, h4⟩
    | _ => cases h1
  · cases h
def isT : D → Bool
  | .tup _ => true
  | _ => false
theorem isi_ev {d : D} (h : d.ok = true) : gIsi .tuple [d, .adr (.ty "tuple")] M = .ok (.bl (isT d)) M := by
  cases d <;> first | rfl | (cases h; done)
theorem len_tup {ds : List D} : gLen [.tup ds] M = .ok (.int (ds.length : Int)) M := rfl
theorem chain_le {fb : F D} {a b n : Int} (h : fb σ M = .ok (.int n) M) : fTest (fChain (gCmp cLe) (gCmp cLe) (fC (.int a)) fb (fC (.int b))) σ M = .ok (decide (a ≤ n) && decide (n ≤ b)) M := by
  rw [ev_test, ev_chain, ev_c, bind_ok, h, bind_ok]
  by_cases h1 : a ≤ n
  · simp [cLe, h1]
  · simp [cLe, h1]
theorem ne_len {ds : List D} {n : Int} {fa fb : F D} (ha : fa σ M = .ok (.int (ds.length : Int)) M) (hb : fb σ M = .ok (.int n) M) : fTest (fBin (gEq true) fa fb) σ M = .ok (!decide ((ds.length : Int) = n)) M :=
  test_ev ((bin_ev ha hb).trans gEq_int)
theorem for_all {b : FS} {i : Nat} {ds : List D} (q : D → Bool) (Iv : Sa → Prop) (h0 : Iv σ)
    (step : ∀ σ d, d ∈ ds → Iv σ → (q d = true ∧ ∃ σ', b (σ.set i (some d)) M = .ok (.nx σ') M ∧ Iv σ') ∨ (q d = false ∧ b (σ.set i (some d)) M = .ok (.rt (.bl false)) M)) :
    (ds.all q = true ∧ ∃ σ', forL (.name i) b (fun _ => true) M.length (ds.map .d) σ M = .ok (.nx σ') M ∧ Iv σ') ∨ (ds.all q = false ∧ forL (.name i) b (fun _ => true) M.length (ds.map .d) σ M = .ok (.rt (.bl false)) M) := by
  have := for_retG (t := .name i) (b := b) (n := M.length) (chk := fun _ => true) (items := ds.map .d) (fun j σ N => N = M ∧ Iv σ ∧ (ds.take j).all q = true) (fun d N => d = .bl false ∧ N = M ∧ ds.all q = false) (fun _ _ _ _ => rfl) (fun j σ N im him hv => by
    obtain ⟨rfl, hI, ha⟩ := hv
    rw [List.getElem?_map] at him
    cases g : ds[j]? with
    | none => rw [g] at him; cases him
    | some d =>
      rw [g] at him
      cases him
      refine ⟨_, rfl, ?_⟩
      rcases step σ d (List.mem_of_getElem? g) hI with ⟨h1, σ', h2, h3⟩ | ⟨h1, h2⟩
      · refine .inl ⟨σ', _, h2, ?_⟩
        rw [gc_same rfl]
        refine ⟨rfl, h3, ?_⟩
        rw [List.take_succ, g, List.all_append, ha]
        simp [h1]
      · refine .inr ⟨_, _, h2, rfl, rfl, ?_⟩
        rw [List.all_eq_false]
        exact ⟨d, List.mem_of_getElem? g, by rw [h1]; decide⟩) (ds.map Im.d).length 0 σ M (by omega) ⟨rfl, h0, rfl⟩
  rw [List.drop_zero] at this
  rcases this with ⟨σ', N, h1, rfl, h3, h4⟩ | ⟨d, N, h1, rfl, rfl, h4⟩
  · rw [List.length_map, List.take_length] at h4
    exact .inl ⟨h4, σ', h1, h3⟩
  · exact .inr ⟨h4, h1⟩
end QX
set_option maxRecDepth 100000
set_option maxHeartbeats 1000000
set_option exponentiation.threshold 5000
namespace QX
open PySem PySem.Spec PyProof PyProof.Rows L2 HX QX.Det
variable {M A : Mem} {p k : Nat} {x : Cell} {σ : Sa} {ws : List (List (List Int))} {c : Int} {d e s m : D}
end QX
set_option maxRecDepth 100000
set_option maxHeartbeats 1000000
namespace QX
open PySem
/- _law_kept -/
/- law -/
end QX
set_option maxRecDepth 100000
set_option maxHeartbeats 1000000
namespace QX
open PySem
/- _law_no_boards -/
/- _law_odd -/
/- _law_words -/
/- law -/
end QX
set_option maxRecDepth 100000
set_option maxHeartbeats 1000000
namespace QX
open PySem PySem.Spec PyProof PyProof.Rows L2 HX QX.Det
variable {M : Mem} {p k : Nat} {x : Cell} {σ : Sa} {ws : List (List (List Int))} {c : Int} {d e : D} {q : Int} {ls : List (List Int)}
theorem cons_ev' {fa : F D} {fs : F (List D)} {a : D} {as : List D} (ha : fa σ M = .ok a M) (hs : fs σ M = .ok as M) : fCons fa fs σ M = .ok (a :: as) M := by rw [ev_cons, ha, bind_ok, hs, bind_ok]
theorem lst_ev' {fs : F (List D)} {ds : List D} (h : fs σ M = .ok ds M) (hf : few ds.length = true) : fLst fs σ M = .ok (.lst ds) M := by rw [ev_lst, h, bind_ok, if_pos hf]
end QX
set_option maxRecDepth 100000
set_option maxHeartbeats 1000000
set_option exponentiation.threshold 5000
namespace QX
open PySem PySem.Spec PyProof PyProof.Rows L2 HX QX.Det
variable {M A : Mem} {p k : Nat} {x : Cell} {σ : Sa} {ws : List (List (List Int))} {c : Int} {d e s m : D}
structure PG (d : D) (w h : Nat) : Prop where
  dok : d.dok = true
  und : ∀ n, d.und n = true
  rp : RPD d w h
theorem undA_of {ds : List D} {n : Nat} (h : ∀ d ∈ ds, d.und n = true) : D.undA n ds = true := by
  rw [undA_iff]
  exact h
end QX
set_option maxRecDepth 100000
set_option maxHeartbeats 1000000
set_option exponentiation.threshold 5000
namespace QX
open PySem PySem.Spec PyProof PyProof.Rows L2 HX QX.Det
variable {M A : Mem} {p k : Nat} {x : Cell} {σ : Sa} {ws : List (List (List Int))} {c : Int} {d e s m : D}
def iw820 : FS := (sIf (fOrT (fNotT (fTest (fCall (gIsi .tuple) (fCons (fVar 0) (fCons (fC (.adr (.ty "tuple"))) fNil))))) (fNotT (fTest (fChain (gCmp cLe) (gCmp cLe) (fC (.int 1)) (fCall gLen (fCons (fVar 0) fNil)) (fC (.int 4)))))) (sRet (fC (.bl false))) sNext)
def iw821_it : F Ita := (fIter (fVar 0))
def iw821_0 : FS := (sIf (fOrT (fNotT (fTest (fCall (gIsi .tuple) (fCons (fVar 2) (fCons (fC (.adr (.ty "tuple"))) fNil))))) (fOrT (fTest (fBin (gCmp cGt) (fCall gLen (fCons (fVar 2) fNil)) (fC (.int 3)))) (fNotT (fTest (fCall gAll (fCons (fTrim (fCompC (fIter (fVar 2)) [3] (.name 3) fYes (fCall m_is_within (fCons (fVar 3) (fCons (fC (.int 0)) (fCons (fBin gSub (fVar 1) (fC (.int 1))) fNil)))))) fNil)))))) (sRet (fC (.bl false))) sNext)
def iw821_b : FS := iw821_0
def iw821 : FS := sFor (iw821_it) (.name 2) (iw821_b)
def iw822 : FS := (sRet (fC (.bl true)))
theorem iw82_body : b_law_is_wheel_65c825 = (sSeq iw820 (sSeq iw821 iw822)) := rfl
def ib820 : FS := (sIf (fOrT (fNotT (fTest (fCall (gIsi .tuple) (fCons (fVar 0) (fCons (fC (.adr (.ty "tuple"))) fNil))))) (fOrT (fTest (fBin (gEq true) (fCall gLen (fCons (fVar 0) fNil)) (fC (.int 2)))) (fNotT (fTest (fCall (gIsi .tuple) (fCons (fBin gIx (fVar 0) (fC (.int 0))) (fCons (fC (.adr (.ty "tuple"))) fNil))))))) (sRet (fC (.bl false))) sNext)
def ib821 : FS := (sIf (fOrT (fNotT (fTest (fChain (gCmp cLe) (gCmp cLe) (fC (.int 1)) (fCall gLen (fCons (fBin gIx (fVar 0) (fC (.int 0))) fNil)) (fC (.int 6))))) (fNotT (fTest (fCall m_is_within (fCons (fBin gIx (fVar 0) (fC (.int 1))) (fCons (fC (.int 0)) (fCons (fC (.int 4)) fNil))))))) (sRet (fC (.bl false))) sNext)
def ib822 : FS := (sRet (fCall gAll (fCons (fTrim (fCompC (fIter (fBin gIx (fVar 0) (fC (.int 0)))) [1] (.name 1) fYes (fCall m_law_is_wheel_65c825 (fCons (fVar 1) (fCons (fBin gAdd (fCall gLen (fCons (fBin gIx (fVar 0) (fC (.int 0))) fNil)) (fBin gIx (fVar 0) (fC (.int 1)))) fNil))))) fNil)))
theorem ib82_body : b_law_is_board_8cfce4 = (sSeq ib820 (sSeq ib821 ib822)) := rfl
theorem step82_eq {n : Int} {d0 : D} (hw : Wf M) (hd : d.dok = true) (hs : Has σ 4 [(2, d), (1, .int n), (0, d0)]) : (stepB n d = true ∧ iw821_b σ M = .ok (.nx σ) M) ∨ (stepB n d = false ∧ iw821_b σ M = .ok (.rt (.bl false)) M) := by
  have ho := dok_ok hd
  have v2 : fVar 2 σ M = .ok d M := var_ev (hs.at (by simp))
  have e1 : fNotT (fTest (fCall (gIsi .tuple) (fCons (fVar 2) (fCons (fC (.adr (.ty "tuple"))) fNil)))) σ M = .ok (!isT d) M := not_ev (test_ev ((call2_ev v2 rfl).trans (isi_ev ho)))
  have key : ∀ b : Bool, (fOrT (fNotT (fTest (fCall (gIsi .tuple) (fCons (fVar 2) (fCons (fC (.adr (.ty "tuple"))) fNil))))) (fOrT (fTest (fBin (gCmp cGt) (fCall gLen (fCons (fVar 2) fNil)) (fC (.int 3)))) (fNotT (fTest (fCall gAll (fCons (fTrim (fCompC (fIter (fVar 2)) [3] (.name 3) fYes (fCall m_is_within (fCons (fVar 3) (fCons (fC (.int 0)) (fCons (fBin gSub (fVar 1) (fC (.int 1))) fNil)))))) fNil)))))) σ M = .ok (!b) M → (b = true ∧ iw821_b σ M = .ok (.nx σ) M) ∨ (b = false ∧ iw821_b σ M = .ok (.rt (.bl false)) M) := fun b hb => by
    cases b with
    | true => exact .inl ⟨rfl, pass9 hb⟩
    | false => exact .inr ⟨rfl, (sif_ev hb).trans rfl⟩
  refine key (stepB n d) ?_
  cases d with
  | tup ds =>
    have e2 : fTest (fBin (gCmp cGt) (fCall gLen (fCons (fVar 2) fNil)) (fC (.int 3))) σ M = .ok (decide ((3 : Int) < ds.length)) M := by
      refine test_ev ((bin_ev (a := .int (ds.length : Int)) (b := .int 3) ((call1_ev v2).trans len_tup) rfl).trans ?_)
      simp [cGt]
    by_cases h3 : (3 : Int) < ds.length
    · have : stepB n (.tup ds) = false := by
        show (partsB 0 3 (.tup ds) && ds.all (inB 0 (n - 1))) = false
        have : partsB 0 3 (.tup ds) = false := by
          simp only [partsB, Bool.and_eq_false_iff, decide_eq_false_iff_not]
          omega
        rw [this, Bool.false_and]
      rw [this]
      exact or_ev (p := false) (q := true) e1 fun _ => or_ev (p := true) (q := false) (e2.trans (by rw [decide_eq_true h3])) fun z => by cases z
    · have hall := all_comp (fa := fVar 2) (vs := [3]) (i := 3) (ds := ds) (σ := σ) (M := M) (inB 0 (n - 1)) (e := fCall m_is_within (fCons (fVar 3) (fCons (fC (.int 0)) (fCons (fBin gSub (fVar 1) (fC (.int 1))) fNil)))) v2 hw (by omega) (fun z hz M' w' _ => by
        have hc : Has ((wipeA σ [3]).set 3 (some z)) 4 [(3, z), (1, .int n)] := (hs.sub (l' := [(1, .int n)]) (by simp)).comp (by decide) (by simp)
        exact (call3_ev (a := z) (b := .int 0) (c := .int (n - 1)) (var_ev (hc.at (by simp))) rfl ((bin_ev (a := .int n) (b := .int 1) (var_ev (hc.at (by simp))) rfl).trans gSub_int)).trans (m_is_within_eq (dok_ok (dokA_mem hd z hz))))
      have : stepB n (.tup ds) = ds.all (inB 0 (n - 1)) := by
        show (partsB 0 3 (.tup ds) && ds.all (inB 0 (n - 1))) = _
        have : partsB 0 3 (.tup ds) = true := by
          simp only [partsB, Bool.and_eq_true, decide_eq_true_eq]
          omega
        rw [this, Bool.true_and]
      rw [this]
      exact or_ev (p := false) (q := !ds.all (inB 0 (n - 1))) e1 fun _ => or_ev (p := false) (q := !ds.all (inB 0 (n - 1))) (e2.trans (by rw [decide_eq_false h3])) fun _ => not_ev (test_ev hall)
  | _ => exact or_ev (p := true) (q := false) e1 fun z => by cases z
theorem m_is_wheel82 {n : Int} (hw : Wf M) (hd : d.dok = true) : m_law_is_wheel_65c825 [d, .int n] M = .ok (.bl (wheelB n d)) M := by
  have ho := dok_ok hd
  have hs0 : Has (startA 4 [d, .int n]) 4 [(1, .int n), (0, d)] := ⟨rfl, fun q hq => by
    simp only [List.mem_cons, List.not_mem_nil, or_false] at hq
    rcases hq with rfl | rfl <;> rfl⟩
  have v0 : fVar 0 (startA 4 [d, .int n]) M = .ok d M := var_ev (hs0.at (by simp))
  have e1 : fNotT (fTest (fCall (gIsi .tuple) (fCons (fVar 0) (fCons (fC (.adr (.ty "tuple"))) fNil)))) (startA 4 [d, .int n]) M = .ok (!isT d) M := not_ev (test_ev ((call2_ev v0 rfl).trans (isi_ev ho)))
  have out : ∀ {b : Bool}, b_law_is_wheel_65c825 (startA 4 [d, .int n]) M = .ok (.rt (.bl b)) M → m_law_is_wheel_65c825 [d, .int n] M = .ok (.bl b) M := fun h => (run_rt (n := 4) (k := 2) rfl h).trans (trim_id rfl)
  rw [iw82_body] at out
  cases d with
  | tup ds =>
    have e2 : fNotT (fTest (fChain (gCmp cLe) (gCmp cLe) (fC (.int 1)) (fCall gLen (fCons (fVar 0) fNil)) (fC (.int 4)))) (startA 4 [.tup ds, .int n]) M = .ok (!partsB 1 4 (.tup ds)) M := not_ev (chain_le ((call1_ev v0).trans len_tup))
    have t0 := or_ev (p := false) (q := !partsB 1 4 (.tup ds)) e1 fun _ => e2
    cases hp : partsB 1 4 (.tup ds) with
    | false =>
      have : wheelB n (.tup ds) = false := by show (partsB 1 4 (.tup ds) && ds.all (stepB n)) = false; rw [hp, Bool.false_and]
      rw [this]
      refine out (seq_rt ((sif_ev t0).trans ?_))
      rw [hp]
      rfl
    | true =>
      have s0 : iw820 (startA 4 [.tup ds, .int n]) M = .ok (.nx (startA 4 [.tup ds, .int n])) M := pass9 (t0.trans (by rw [hp]; rfl))
      have hit : iw821_it (startA 4 [.tup ds, .int n]) M = .ok ⟨ds.map Im.d, fun _ => true⟩ M := by
        unfold iw821_it
        rw [ev_iter, v0]
        rfl
      have eb : wheelB n (.tup ds) = ds.all (stepB n) := by
        show (partsB 1 4 (.tup ds) && ds.all (stepB n)) = _
        rw [hp, Bool.true_and]
      rw [eb]
      rcases for_all (M := M) (b := iw821_b) (i := 2) (ds := ds) (σ := startA 4 [.tup ds, .int n]) (stepB n) (fun σ => Has σ 4 [(1, .int n), (0, .tup ds)]) hs0 (fun σ z hz hI => by
        rcases step82_eq (σ := σ.set 2 (some z)) hw (dokA_mem hd z hz) (hI.put (i := 2) (d := z) (by decide) (by simp)) with ⟨h1, h2⟩ | ⟨h1, h2⟩
        · exact .inl ⟨h1, _, h2, hI.set (by simp)⟩
        · exact .inr ⟨h1, h2⟩) with ⟨h1, σ', h2, h3⟩ | ⟨h1, h2⟩
      · rw [h1]
        exact out ((seq_nx s0).trans ((seq_nx (for_of hit h2)).trans (ret_ev rfl)))
      · rw [h1]
        exact out ((seq_nx s0).trans (seq_rt (for_of hit h2)))
  | _ => exact out (b := false) (seq_rt ((sif_ev (or_ev (p := true) (q := false) e1 fun z => by cases z)).trans rfl))
theorem m_is_board82 (hw : Wf M) (hd : d.dok = true) : m_law_is_board_8cfce4 [d] M = .ok (.bl (boardB d)) M := by
  have ho := dok_ok hd
  have hs0 : Has (startA 2 [d]) 2 [(0, d)] := ⟨rfl, fun q hq => by rw [List.mem_singleton.mp hq]; rfl⟩
  have v0 : fVar 0 (startA 2 [d]) M = .ok d M := var_ev (hs0.at (by simp))
  have e1 : fNotT (fTest (fCall (gIsi .tuple) (fCons (fVar 0) (fCons (fC (.adr (.ty "tuple"))) fNil)))) (startA 2 [d]) M = .ok (!isT d) M := not_ev (test_ev ((call2_ev v0 rfl).trans (isi_ev ho)))
  have out : ∀ {b : Bool}, b_law_is_board_8cfce4 (startA 2 [d]) M = .ok (.rt (.bl b)) M → m_law_is_board_8cfce4 [d] M = .ok (.bl b) M := fun h => (run_rt (n := 2) (k := 1) rfl h).trans (trim_id rfl)
  rw [ib82_body] at out
  cases d with
  | tup es =>
    have e2 : fTest (fBin (gEq true) (fCall gLen (fCons (fVar 0) fNil)) (fC (.int 2))) (startA 2 [.tup es]) M = .ok (!decide ((es.length : Int) = 2)) M := ne_len ((call1_ev v0).trans len_tup) rfl
    by_cases h2 : (es.length : Int) = 2
    · obtain ⟨w, z, rfl⟩ : ∃ w z, es = [w, z] := by
        match es, h2 with
        | [w, z], _ => exact ⟨w, z, rfl⟩
        | [], h => simp at h
        | [_], h => simp at h
        | _ :: _ :: _ :: _, h => simp only [List.length_cons] at h; omega
      have hwk := dokA_mem hd w (by simp)
      have hzk := dokA_mem hd z (by simp)
      have i0 : ∀ {σ : Sa} {N : Mem}, σ[0]? = some (some (.tup [w, z])) → fBin gIx (fVar 0) (fC (.int 0)) σ N = .ok w N := fun h => (bin_ev (a := .tup [w, z]) (b := .int 0) (var_ev h) rfl).trans rfl
      have i1 : ∀ {σ : Sa} {N : Mem}, σ[0]? = some (some (.tup [w, z])) → fBin gIx (fVar 0) (fC (.int 1)) σ N = .ok z N := fun h => (bin_ev (a := .tup [w, z]) (b := .int 1) (var_ev h) rfl).trans rfl
      have e3 : fNotT (fTest (fCall (gIsi .tuple) (fCons (fBin gIx (fVar 0) (fC (.int 0))) (fCons (fC (.adr (.ty "tuple"))) fNil)))) (startA 2 [.tup [w, z]]) M = .ok (!isT w) M := not_ev (test_ev ((call2_ev (i0 rfl) rfl).trans (isi_ev (dok_ok hwk))))
      have t0 := or_ev (p := false) (q := !isT w) e1 fun _ => or_ev (p := false) (q := !isT w) (e2.trans (by rw [decide_eq_true h2]; rfl)) fun _ => e3
      cases w with
      | tup ds =>
        have s0 : ib820 (startA 2 [.tup [.tup ds, z]]) M = .ok (.nx (startA 2 [.tup [.tup ds, z]])) M := pass9 t0
        have t1 : fOrT (fNotT (fTest (fChain (gCmp cLe) (gCmp cLe) (fC (.int 1)) (fCall gLen (fCons (fBin gIx (fVar 0) (fC (.int 0))) fNil)) (fC (.int 6))))) (fNotT (fTest (fCall m_is_within (fCons (fBin gIx (fVar 0) (fC (.int 1))) (fCons (fC (.int 0)) (fCons (fC (.int 4)) fNil)))))) (startA 2 [.tup [.tup ds, z]]) M = .ok (!partsB 1 6 (.tup ds) || !inB 0 4 z) M :=
          or_ev (not_ev (chain_le ((call1_ev (i0 rfl)).trans len_tup))) fun _ => not_ev (test_ev ((call3_ev (a := z) (b := .int 0) (c := .int 4) (i1 rfl) rfl rfl).trans (m_is_within_eq (dok_ok hzk))))
        cases hp : partsB 1 6 (.tup ds) && inB 0 4 z with
        | false =>
          have : boardB (.tup [.tup ds, z]) = false := by
            show (partsB 1 6 (.tup ds) && (inB 0 4 z && wheelsB (.tup ds) z)) = false
            rw [← Bool.and_assoc, hp, Bool.false_and]
          rw [this]
          refine out ((seq_nx s0).trans (seq_rt ((sif_ev t1).trans ?_)))
          rw [← Bool.not_and, hp]
          rfl
        | true =>
          have s1 : ib821 (startA 2 [.tup [.tup ds, z]]) M = .ok (.nx (startA 2 [.tup [.tup ds, z]])) M := pass9 (t1.trans (by rw [← Bool.not_and, hp]; rfl))
          rw [Bool.and_eq_true] at hp
          obtain ⟨c, rfl, c0, c4⟩ := inB_int hp.2
          have hp1 := hp.1
          simp only [partsB, Bool.and_eq_true, decide_eq_true_eq] at hp1
          have eb : boardB (.tup [.tup ds, .int c]) = ds.all (wheelB ((ds.length : Int) + c)) := by
            show (partsB 1 6 (.tup ds) && (inB 0 4 (.int c) && ds.all (wheelB ((ds.length : Int) + c)))) = _
            rw [hp.1, hp.2, Bool.true_and, Bool.true_and]
          rw [eb]
          have hall := all_comp (fa := fBin gIx (fVar 0) (fC (.int 0))) (vs := [1]) (i := 1) (ds := ds) (σ := startA 2 [.tup [.tup ds, .int c]]) (M := M) (wheelB ((ds.length : Int) + c)) (e := fCall m_law_is_wheel_65c825 (fCons (fVar 1) (fCons (fBin gAdd (fCall gLen (fCons (fBin gIx (fVar 0) (fC (.int 0))) fNil)) (fBin gIx (fVar 0) (fC (.int 1)))) fNil))) (i0 rfl) hw (by omega) (fun z hz M' w' _ => by
            exact (call2_ev (a := z) (b := .int ((ds.length : Int) + c)) (var_ev rfl) ((bin_ev (a := .int (ds.length : Int)) (b := .int c) ((call1_ev (i0 rfl)).trans len_tup) (i1 rfl)).trans gAdd_int)).trans (m_is_wheel82 w' (dokA_mem hwk z hz)))
          exact out ((seq_nx s0).trans ((seq_nx s1).trans (ret_ev hall)))
      | _ => exact out (b := false) (seq_rt ((sif_ev t0).trans rfl))
    · have : boardB (.tup es) = false := by
        match es, h2 with
        | [], _ => rfl
        | [_], _ => rfl
        | [_, _], h => simp at h
        | _ :: _ :: _ :: _, _ => rfl
      rw [this]
      exact out (seq_rt ((sif_ev (or_ev (p := false) (q := true) e1 fun _ => or_ev (p := true) (q := false) (e2.trans (by rw [decide_eq_false h2]; rfl)) fun z => by cases z)).trans rfl))
  | _ => exact out (b := false) (seq_rt ((sif_ev (or_ev (p := true) (q := false) e1 fun z => by cases z)).trans rfl))
end QX
set_option maxRecDepth 100000
set_option maxHeartbeats 1000000
set_option exponentiation.threshold 5000
namespace QX
open PySem PySem.Spec PyProof PyProof.Rows L2 HX QX.Det
variable {M A : Mem} {p k : Nat} {x : Cell} {σ : Sa} {ws : List (List (List Int))} {c : Int} {d e s m : D}
def od820 : FS := (sSet 1 (fLst (fCons (fC .non) (fCons (fC (.bl true)) (fCons (fC (.bl false)) (fCons (fUn gNeg (fC (.int 1))) (fCons (fBin gPow (fC (.int 10)) (fC (.int 12))) (fCons (fC (.str "")) (fCons (fC (.str "wheel")) (fCons (fC (.str "-")) (fCons (fTup fNil) (fCons (fLst fNil) (fCons (fC (.dct [] [])) (fCons (fTup (fCons (fC (.int 0)) fNil)) (fCons (fLst (fCons (fC (.int 0)) fNil)) (fCons (fTup (fCons (fTup fNil) fNil)) (fCons (fC (.dct [.inr "a"] [.int 0])) (fCons (fC (.int 7)) fNil))))))))))))))))))
def od821 : FS := (sRet (fBin gIx (fVar 1) (fCall m_law_draw_321cf4 (fCons (fVar 0) (fCons (fC (.int 16)) fNil)))))
theorem od82_body : b_law_odd_ee5538 = (sSeq od820 od821) := rfl
def odds82 : List D := [.non, .bl true, .bl false, .int (-1), .int (10 ^ 12), .str "", .str "wheel", .str "-", .tup [], .lst [], .dct [] [], .tup [.int 0], .lst [.int 0], .tup [.tup []], .dct [.inr "a"] [.int 0], .int 7]
theorem odds82_good : ∀ d ∈ odds82, PG d 400 3 := by
  intro d hd
  simp only [odds82, List.mem_cons, List.not_mem_nil, or_false] at hd
  rcases hd with rfl | rfl | rfl | rfl | rfl | rfl | rfl | rfl | rfl | rfl | rfl | rfl | rfl | rfl | rfl | rfl <;> exact ⟨rfl, fun _ => rfl, RPD.known rfl (by decide +kernel)⟩
theorem m_odd82_eq (hx : M[p]? = some x) (ho : PenOk (k + 1) x) : ∃ d x', m_law_odd_ee5538 [.ref p] M = .ok d (M.set p x') ∧ d ∈ odds82 ∧ PenOk k x' := by
  obtain ⟨z, x1, e1, z0, z1, o1⟩ := m_draw_eq (k := k) (n := 16) hx ho (by decide) (by decide)
  have hz : z.toNat < odds82.length := by simp only [odds82, List.length_cons, List.length_nil]; omega
  have hp : gPow (.int 10) (.int 12) M = .ok (.int (10 ^ 12)) M := rfl
  have e2 : fBin gIx (fVar 1) (fCall m_law_draw_321cf4 (fCons (fVar 0) (fCons (fC (.int 16)) fNil))) [some (.ref p), some (.lst odds82)] M = .ok odds82[z.toNat] (M.set p x1) := by
    refine (bin_ev (a := .lst odds82) (b := .int z) (var_ev rfl) ((call2_ev (var_ev rfl) rfl).trans e1)).trans ?_
    have : atI odds82 z = some odds82[z.toNat] := by rw [atI_nn z0, List.getElem?_eq_getElem hz]
    rw [gIx_lst, this]
  refine ⟨odds82[z.toNat], x1, ?_, List.getElem_mem hz, o1⟩
  have s1 : od820 (startA 2 [.ref p]) M = .ok (.nx [some (.ref p), some (.lst odds82)]) M := by
    refine set_ev (lst_ev' ?_ rfl)
    exact cons_ev' rfl (cons_ev' rfl (cons_ev' rfl (cons_ev' rfl (cons_ev' hp rfl))))
  exact (run_rt (n := 2) (k := 1) (b := b_law_odd_ee5538) rfl (by rw [od82_body]; exact (seq_nx s1).trans (ret_ev e2))).trans (trim_id (by simp))
end QX
set_option maxRecDepth 100000
set_option maxHeartbeats 1000000
set_option exponentiation.threshold 5000
namespace QX
open PySem PySem.Spec PyProof PyProof.Rows L2 HX QX.Det
variable {M A N : Mem} {p k : Nat} {x : Cell} {σ : Sa} {ws : List (List (List Int))} {c n : Int} {d e s m : D} {w : List (List Int)}
def tx820 : FS := (sSet 1 (fNew (fCons (fBin gAdd (fC (.str "cups ")) (fCall gStr (fCons (fBin gIx (fVar 0) (fC (.int 1))) fNil))) fNil)))
def tx821_it : F Ita := (fIter (fBin gIx (fVar 0) (fC (.int 0))))
def tx821_0 : FS := (sSet 3 (fNew (fCons (fC (.str "wheel")) fNil)))
def tx821_1_it : F Ita := (fIter (fVar 2))
def tx821_1_0 : FS := (sExpr (fMeth gAppend (fVar 3) (fCons (fIf (fTest (fBin (gEq true) (fVar 4) (fTup fNil))) (fM1 gJoin (fC (.str ",")) (fTrim (fCompC (fIter (fVar 4)) [5] (.name 5) fYes (fCall gStr (fCons (fVar 5) fNil))))) (fC (.str "-"))) fNil)))
def tx821_1_b : FS := tx821_1_0
def tx821_1 : FS := sFor (tx821_1_it) (.name 4) (tx821_1_b)
def tx821_2 : FS := (sExpr (fMeth gAppend (fVar 1) (fCons (fM1 gJoin (fC (.str " ")) (fVar 3)) fNil)))
def tx821_b : FS := (sSeq tx821_0 (sSeq tx821_1 tx821_2))
def tx821 : FS := sFor (tx821_it) (.name 2) (tx821_b)
def tx822 : FS := (sRet (fBin gAdd (fM1 gJoin (fC (.str "\n")) (fVar 1)) (fC (.str "\n"))))
theorem tx82_body : b_law_text_24ce07 = (sSeq tx820 (sSeq tx821 tx822)) := rfl
theorem join_ref {y : Str} {ps : List Str} {fe : F D} {B n q : Nat} {M1 : Mem} (he : fe σ M = .ok (.ref q) M1) (hq : M1[q]? = some (.lst (ps.map D.str))) (h : ∀ p ∈ ps, p.length ≤ B) (hn : ps.length ≤ n) (hb : n * (B + y.length) ≤ 16777216) : fM1 gJoin (fC (.str y)) fe σ M = .ok (.str (Str.join y ps)) M1 := by
  rw [ev_m1 (x := .str y) rfl rfl he]
  have e := join_ev (σ := []) (M := M1) (fe := fC (.lst (ps.map D.str))) (y := y) rfl h hn hb
  rw [ev_m1 (x := .str y) rfl rfl (rfl : fC (.lst (ps.map D.str)) ([] : Sa) M1 = _)] at e
  have es : seqOf M1 (.ref q) = seqOf M1 (.lst (ps.map D.str)) := by
    show (match M1[q]? with | some (.lst ds) => some ds | _ => none) = _
    rw [hq]
    rfl
  unfold gJoin at e ⊢
  simp only [es]
  exact e
theorem push_ev {fv fe : F D} {d : D} {ds : List D} {q : Nat} (hv : fv σ M = .ok (.ref q) M) (hq : M[q]? = some (.lst ds)) (he : fe σ M = .ok d M) (hl : ds.length < 16777216) : sExpr (fMeth gAppend fv (fCons fe fNil)) σ M = .ok (.nx σ) (M.set q (.lst (ds ++ [d]))) := by
  refine expr_ev (d := .non) ?_
  have il : isL M (.ref q) = true := by rw [isL_ref, hq]; rfl
  rw [ev_meth, hv, bind_ok, il, if_pos rfl, ev_cons, he, bind_ok, ev_nil, bind_ok, bind_ok, gAppend_ref hq hl]
theorem set_top {x y : Cell} : (N ++ [x]).set N.length y = N ++ [y] := by
  rw [List.set_append_right _ _ (Nat.le_refl _), Nat.sub_self]
  rfl
theorem top_at {x : Cell} : (N ++ [x])[N.length]? = some x := by simp
theorem step_ev82 {s : List Int} (hw : Wf M) (h : EndsOk n s) (hn : n ≤ 10) {l : List (Nat × D)} (hs : Has σ 6 ((4, stepT s) :: l)) : fIf (fTest (fBin (gEq true) (fVar 4) (fTup fNil))) (fM1 gJoin (fC (.str ",")) (fTrim (fCompC (fIter (fVar 4)) [5] (.name 5) fYes (fCall gStr (fCons (fVar 5) fNil))))) (fC (.str "-")) σ M = .ok (.str (stepS s)) M := by
  have v4 : fVar 4 σ M = .ok (stepT s) M := var_ev (hs.at (by simp))
  have t : fTest (fBin (gEq true) (fVar 4) (fTup fNil)) σ M = .ok (!s.isEmpty) M := test_ev ((bin_ev (b := .tup []) v4 rfl).trans (tup_nil.trans (by simp)))
  rw [ev_if, t, bind_ok]
  cases s with
  | nil => rfl
  | cons e s =>
    rw [if_pos (show (!(e :: s).isEmpty) = true from rfl)]
    have hi : fIter (fVar 4) σ M = .ok ⟨((e :: s).map D.int).map Im.d, fun _ => true⟩ M := by
      rw [ev_iter, v4]
      rfl
    have hs0 : Has σ 6 [] := hs.sub (by simp)
    have hc := comp_map (σ := σ) (M := M) (fi := fIter (fVar 4)) (i := 5) (e := fCall gStr (fCons (fVar 5) fNil)) (e :: s) D.int (fun i => .str (numT i)) hi hw (by have := h.1; omega) (fun i hi => ⟨rfl, fun M' _ => (call1_ev (a := .int i) (var_ev ((hs0.comp (i := 5) (d := .int i) (by decide) (by simp)).at (by simp)))).trans (gStr_ev (h.2 i hi).1 (by have := (h.2 i hi).2; omega))⟩)
    have hc' : fTrim (fCompC (fIter (fVar 4)) [5] (.name 5) fYes (fCall gStr (fCons (fVar 5) fNil))) σ M = .ok (.lst (((e :: s).map numT).map D.str)) M := by rw [hc, List.map_map]; rfl
    refine (join_ev (B := 1) (n := 3) hc' (fun q hq => ?_) (by rw [List.length_map]; exact h.1) (by decide)).trans (by rw [stepS, if_neg (by simp)])
    obtain ⟨i, hi, rfl⟩ := List.mem_map.mp hq
    exact Nat.le_of_eq (numT_len (h.2 i hi).1 (by have := (h.2 i hi).2; omega))
theorem wheel_ev82 {L : List D} (hw : Wf (M ++ [.lst L])) (h : WheelOk n w) (hn : n ≤ 10) (hL : L.length ≤ 1000) (hs : Has σ 6 [(2, wheelT w), (1, .ref M.length), (0, d)]) : ∃ σ' g, tx821_b σ (M ++ [.lst L]) = .ok (.nx σ') (M ++ [.lst (L ++ [.str (wheelS w)])] ++ [g]) ∧ Has σ' 6 [(1, .ref M.length), (0, d)] := by
  have hlen : (M ++ [Cell.lst L]).length = M.length + 1 := by simp
  have s0 : tx821_0 σ (M ++ [.lst L]) = .ok (.nx (σ.set 3 (some (.ref (M.length + 1))))) ((M ++ [.lst L]) ++ [.lst [.str "wheel"]]) := by
    refine set_ev ?_
    rw [ev_new, ev_cons, ev_c, bind_ok, ev_nil, bind_ok, bind_ok, hlen]
    rfl
  have hs0 : Has (σ.set 3 (some (.ref (M.length + 1)))) 6 [(3, .ref (M.length + 1)), (2, wheelT w), (1, .ref M.length), (0, d)] := hs.put (by decide) (by simp)
  generalize σ.set 3 (some (D.ref (M.length + 1))) = σ0 at s0 hs0
  have hit : tx821_1_it σ0 ((M ++ [.lst L]) ++ [.lst [.str "wheel"]]) = .ok ⟨(w.map stepT).map Im.d, fun _ => true⟩ ((M ++ [.lst L]) ++ [.lst [.str "wheel"]]) := by
    unfold tx821_1_it
    rw [ev_iter, var_ev (d := wheelT w) (hs0.at (by simp))]
    rfl
  have hund : ∀ (ps : List Str) (n : Nat), D.undA n (ps.map D.str) = true := fun ps n => undA_of fun d hd => by
    obtain ⟨q, _, rfl⟩ := List.mem_map.mp hd
    rfl
  obtain ⟨σ1, M1, f1, rfl, hs1⟩ := for_items (b := tx821_1_b) (n := ((M ++ [Cell.lst L]) ++ [Cell.lst [.str "wheel"]]).length) (i := 4) (σ := σ0) (M := (M ++ [.lst L]) ++ [.lst [.str "wheel"]]) (ds := w.map stepT) (fun j σ N => N = (M ++ [.lst L]) ++ [.lst ((("wheel" : Str) :: (w.take j).map stepS).map D.str)] ∧ Has σ 6 [(3, .ref (M.length + 1)), (2, wheelT w), (1, .ref M.length), (0, d)]) ⟨by simp, hs0⟩ (fun j σ N d' hd hv => by
    obtain ⟨rfl, hI⟩ := hv
    rw [List.getElem?_map] at hd
    cases g : w[j]? with
    | none => rw [g] at hd; cases hd
    | some s =>
      rw [g] at hd
      cases hd
      have hI4 : Has (σ.set 4 (some (stepT s))) 6 ((4, stepT s) :: [(3, .ref (M.length + 1)), (2, wheelT w), (1, .ref M.length), (0, d)]) := hI.put (by decide) (by simp)
      have hwf : Wf ((M ++ [.lst L]) ++ [.lst ((("wheel" : Str) :: (w.take j).map stepS).map D.str)]) := hw.push (hund _ _)
      have e := step_ev82 hwf (h.2.2 s (List.mem_of_getElem? g)) hn hI4
      have hat : ((M ++ [Cell.lst L]) ++ [.lst ((("wheel" : Str) :: (w.take j).map stepS).map D.str)])[M.length + 1]? = some (.lst ((("wheel" : Str) :: (w.take j).map stepS).map D.str)) := by
        rw [← hlen]
        exact top_at
      have jl : j < w.length := (List.getElem?_eq_some_iff.mp g).1
      have a := push_ev (σ := σ.set 4 (some (stepT s))) (fv := fVar 3) (var_ev (hI4.at (by simp))) hat e (by have := h.2.1; rw [List.length_map, List.length_cons, List.length_map, List.length_take]; omega)
      rw [← hlen, set_top] at a
      refine ⟨_, _, .inl a, ?_⟩
      rw [gc_same (by simp)]
      refine ⟨?_, hI4.sub (by simp)⟩
      rw [List.take_succ, g]
      simp)
  have es : (w.map stepT).length = w.length := List.length_map _
  rw [es, List.take_length] at f1
  have hP := wheelP h hn
  have ej : fM1 gJoin (fC (.str " ")) (fVar 3) σ1 ((M ++ [.lst L]) ++ [.lst ((("wheel" : Str) :: w.map stepS).map D.str)]) = .ok (.str (wheelS w)) ((M ++ [.lst L]) ++ [.lst ((("wheel" : Str) :: w.map stepS).map D.str)]) :=
    join_ref (q := M.length + 1) (B := 6) (n := 5) (var_ev (hs1.at (by simp))) (by rw [← hlen]; exact top_at) (fun q hq => (hP q hq).1) (by rw [List.length_cons, List.length_map]; have := h.2.1; omega) (by decide)
  have hat : ((M ++ [Cell.lst L]) ++ [.lst ((("wheel" : Str) :: w.map stepS).map D.str)])[M.length]? = some (.lst L) := by
    rw [List.getElem?_append_left (by simp)]
    exact top_at
  have a := push_ev (σ := σ1) (fv := fVar 1) (var_ev (hs1.at (by simp))) hat ej (by omega)
  rw [List.set_append_left _ _ (by simp), set_top] at a
  exact ⟨σ1, _, (seq_nx s0).trans ((seq_nx (for_of hit f1)).trans a), hs1.sub (by simp)⟩
theorem m_text82 (hw : Wf M) (hb : BoardOk ws c) : m_law_text_24ce07 [boardT ws c] M = .ok (.str (boardS ws c)) M := by
  have h1 := hb.w6
  have h2 := hb.c4
  have hs : Has (startA 6 [boardT ws c]) 6 [(0, boardT ws c)] := ⟨rfl, fun q hq => by rw [List.mem_singleton.mp hq]; rfl⟩
  have hh : headS c = ("cups " : Str) ++ numT c := by
    refine TL.ext_tl ?_
    unfold headS
    rw [TL.tl_append, TL.tl_append, TL.tl_append]
    rfl
  have hund : ∀ (ps : List Str) (n : Nat), D.undA n (ps.map D.str) = true := fun ps n => undA_of fun d hd => by
    obtain ⟨q, _, rfl⟩ := List.mem_map.mp hd
    rfl
  have s0 : tx820 (startA 6 [boardT ws c]) M = .ok (.nx ((startA 6 [boardT ws c]).set 1 (some (.ref M.length)))) (M ++ [.lst [.str (headS c)]]) := by
    refine set_ev ?_
    have e : fBin gAdd (fC (.str "cups ")) (fCall gStr (fCons (fBin gIx (fVar 0) (fC (.int 1))) fNil)) (startA 6 [boardT ws c]) M = .ok (.str (headS c)) M := by
      refine (bin_ev (a := .str "cups ") (b := .str (numT c)) rfl ((call1_ev (a := .int c) ((bin_ev (a := boardT ws c) (b := .int 1) (var_ev rfl) rfl).trans rfl)).trans (gStr_ev hb.c0 (by omega)))).trans ?_
      rw [gAdd_str, if_pos, hh]
      rw [numT_len hb.c0 (by omega)]
      rfl
    rw [ev_new, ev_cons, e, bind_ok, ev_nil, bind_ok, bind_ok]
    rfl
  have hs0 : Has ((startA 6 [boardT ws c]).set 1 (some (.ref M.length))) 6 [(1, .ref M.length), (0, boardT ws c)] := hs.put (by decide) (by simp)
  generalize (startA 6 [boardT ws c]).set 1 (some (D.ref M.length)) = σ0 at s0 hs0
  have hit : tx821_it σ0 (M ++ [.lst [.str (headS c)]]) = .ok ⟨(ws.map wheelT).map Im.d, fun _ => true⟩ (M ++ [.lst [.str (headS c)]]) := by
    unfold tx821_it
    rw [ev_iter, (bin_ev (a := boardT ws c) (b := .int 0) (var_ev (hs0.at (by simp))) rfl).trans board_0]
    rfl
  obtain ⟨σ1, M1, f1, rfl, hs1⟩ := for_items (b := tx821_b) (n := (M ++ [Cell.lst [.str (headS c)]]).length) (i := 2) (σ := σ0) (M := M ++ [.lst [.str (headS c)]]) (ds := ws.map wheelT) (fun j σ N => N = M ++ [.lst ((headS c :: (ws.take j).map wheelS).map D.str)] ∧ Has σ 6 [(1, .ref M.length), (0, boardT ws c)]) ⟨by simp, hs0⟩ (fun j σ N d' hd hv => by
    obtain ⟨rfl, hI⟩ := hv
    rw [List.getElem?_map] at hd
    cases g : ws[j]? with
    | none => rw [g] at hd; cases hd
    | some w =>
      rw [g] at hd
      cases hd
      have jl : j < ws.length := (List.getElem?_eq_some_iff.mp g).1
      obtain ⟨σ', gg, e, hs'⟩ := wheel_ev82 (M := M) (L := (headS c :: (ws.take j).map wheelS).map D.str) (σ := σ.set 2 (some (wheelT w))) (hw.push (hund _ _)) (hb.wheels w (List.mem_of_getElem? g)) (by omega) (by rw [List.length_map, List.length_cons, List.length_map, List.length_take]; omega) (hI.put (i := 2) (d := wheelT w) (by decide) (by simp))
      refine ⟨σ', _, .inl e, ?_⟩
      have ed : (headS c :: (ws.take j).map wheelS).map D.str ++ [.str (wheelS w)] = (headS c :: (ws.take (j + 1)).map wheelS).map D.str := by
        rw [List.take_succ, g]
        simp
      rw [ed]
      rw [gc_app (n := (M ++ [Cell.lst [.str (headS c)]]).length) (M := M ++ [Cell.lst ((headS c :: (ws.take (j + 1)).map wheelS).map D.str)]) (g := [gg]) (by simp) (hw.push (c := Cell.lst ((headS c :: (ws.take (j + 1)).map wheelS).map D.str)) (hund _ _)) (by simp)]
      refine ⟨rfl, hs'.keep fun q hq => ?_⟩
      simp only [List.mem_cons, List.not_mem_nil, or_false] at hq
      rcases hq with rfl | rfl
      · simp [D.und]
      · exact und_board _ _)
  have es : (ws.map wheelT).length = ws.length := List.length_map _
  rw [es, List.take_length] at f1
  have hP := lineP hb
  have ej : fM1 gJoin (fC (.str "\n")) (fVar 1) σ1 (M ++ [.lst ((linesS ws c).map D.str)]) = .ok (.str (Str.join nl (linesS ws c))) (M ++ [.lst ((linesS ws c).map D.str)]) :=
    join_ref (q := M.length) (B := 35) (n := 7) (var_ev (hs1.at (by simp))) top_at (fun q hq => (hP q hq).1) (by rw [linesS, List.length_cons, List.length_map]; omega) (by decide)
  have s2 : tx822 σ1 (M ++ [.lst ((linesS ws c).map D.str)]) = .ok (.rt (.str (boardS ws c))) (M ++ [.lst ((linesS ws c).map D.str)]) := by
    refine ret_ev ((bin_ev (b := .str "\n") ej rfl).trans ?_)
    rw [gAdd_str, if_pos]
    · rw [board_join]
      rfl
    · have := board_len hb
      exact Nat.ble_eq_true_of_le (show (Str.join nl (linesS ws c)).length + 1 ≤ _ by omega)
  have sb : b_law_text_24ce07 (startA 6 [boardT ws c]) M = .ok (.rt (.str (boardS ws c))) (M ++ [.lst ((linesS ws c).map D.str)]) := by
    rw [tx82_body]
    exact (seq_nx s0).trans ((seq_nx (for_of hit f1)).trans s2)
  exact (run_rt (n := 6) (k := 1) rfl sb).trans (trim_app rfl hw rfl)
end QX
set_option maxRecDepth 100000
set_option maxHeartbeats 1000000
namespace QX
open PySem PySem.Spec PyProof.Rows L2 HX
variable {M : Mem} {σ : Sa} {x y : Str} {n : Int}
theorem spl1_nil {s : Nat} {acc : List Nat} : TL.spl [s] 0 acc [] = [acc] := TL.spl_nil _ _ _
theorem spl1_hit {s : Nat} {acc r : List Nat} : TL.spl [s] 0 acc (s :: r) = acc :: TL.spl [s] 0 [] r := by
  rw [TL.spl_hit (by simp [TL.pre])]
  rfl
theorem spl1_miss {s c : Nat} {acc r : List Nat} (h : c ≠ s) : TL.spl [s] 0 acc (c :: r) = TL.spl [s] 0 (acc ++ [c]) r := TL.spl_miss (TL.pre_of_head _ _ h)
theorem spl1_ne {s : Nat} : ∀ (l acc : List Nat), TL.spl [s] 0 acc l ≠ []
  | [], acc => by rw [spl1_nil]; simp
  | c :: r, acc => by
    by_cases h : c = s
    · subst h
      rw [spl1_hit]
      simp
    · rw [spl1_miss h]
      exact spl1_ne r _
theorem spl1_mem {s : Nat} : ∀ (l acc p : List Nat), p ∈ TL.spl [s] 0 acc l → ∀ k ∈ p, k ∈ acc ∨ (k ∈ l ∧ k ≠ s)
  | [], acc, p, hp, k, hk => by
    rw [spl1_nil, List.mem_singleton] at hp
    subst hp
    exact .inl hk
  | c :: r, acc, p, hp, k, hk => by
    by_cases h : c = s
    · subst h
      rw [spl1_hit] at hp
      rcases List.mem_cons.mp hp with rfl | hp
      · exact .inl hk
      · rcases spl1_mem r [] p hp k hk with z | ⟨z1, z2⟩
        · cases z
        · exact .inr ⟨List.mem_cons_of_mem _ z1, z2⟩
    · rw [spl1_miss h] at hp
      rcases spl1_mem r _ p hp k hk with z | ⟨z1, z2⟩
      · rcases List.mem_append.mp z with z | z
        · exact .inl z
        · rw [List.mem_singleton.mp z]
          exact .inr ⟨List.mem_cons_self, h⟩
      · exact .inr ⟨List.mem_cons_of_mem _ z1, z2⟩
theorem spl1_sum {s : Nat} : ∀ (l acc : List Nat), ((TL.spl [s] 0 acc l).map fun p => p.length + 1).sum = acc.length + l.length + 1
  | [], acc => by rw [spl1_nil]; simp
  | c :: r, acc => by
    by_cases h : c = s
    · subst h
      rw [spl1_hit, List.map_cons, List.sum_cons, spl1_sum r []]
      simp
      omega
    · rw [spl1_miss h, spl1_sum r _]
      simp
      omega
theorem spl1_part {s : Nat} : ∀ (l acc : List Nat), (s ∉ l ∧ TL.spl [s] 0 acc l = [acc ++ l] ∧ TL.par [s] acc l = none) ∨ ∃ a b, l = a ++ s :: b ∧ s ∉ a ∧ TL.spl [s] 0 acc l = (acc ++ a) :: TL.spl [s] 0 [] b ∧ TL.par [s] acc l = some (acc ++ a, b)
  | [], acc => .inl ⟨by simp, by rw [spl1_nil]; simp, rfl⟩
  | c :: r, acc => by
    by_cases h : c = s
    · subst h
      refine .inr ⟨[], r, rfl, by simp, by rw [spl1_hit, List.append_nil], ?_⟩
      rw [TL.par_hit (by simp [TL.pre]), List.append_nil]
      rfl
    · have hp : TL.par [s] acc (c :: r) = TL.par [s] (acc ++ [c]) r := TL.par_miss (TL.pre_of_head _ _ h)
      rcases spl1_part (s := s) r (acc ++ [c]) with ⟨h1, h2, h3⟩ | ⟨a, b, rfl, h1, h2, h3⟩
      · refine .inl ⟨by simp only [List.mem_cons, not_or]; exact ⟨fun z => h z.symm, h1⟩, ?_, ?_⟩
        · rw [spl1_miss h, h2, List.append_assoc]
          rfl
        · rw [hp, h3]
      · refine .inr ⟨c :: a, b, rfl, by simp only [List.mem_cons, not_or]; exact ⟨fun z => h z.symm, h1⟩, ?_, ?_⟩
        · rw [spl1_miss h, h2, List.append_assoc]
          rfl
        · rw [hp, h3, List.append_assoc]
          rfl
def One (y : Str) (s : Nat) : Prop := TL.tl y = [s] ∧ s < 256
theorem One.kind {s : Nat} (h : One y s) : ¬ Builtin.Str.strKind x < Builtin.Str.strKind y := TL.kind_ok (by
  have : y.cps = #[s] := by
    have h1 := h.1
    have : y.cps.toList = [s] := h1
    exact Array.toList_inj.mp this
  rw [this]
  simp [h.2])
theorem split_tl {s : Nat} (h : One y s) : (Txt.split x y).map TL.tl = TL.spl [s] 0 [] (TL.tl x) := by
  rw [TL.split_spl x y (by rw [h.1]; simp) h.kind, h.1]
theorem split_asc {s B : Nat} (h : One y s) (hx : Asc B x) : ∀ p ∈ Txt.split x y, Asc B p ∧ s ∉ TL.tl p := fun p hp => by
  have hm : TL.tl p ∈ TL.spl [s] 0 [] (TL.tl x) := by
    rw [← split_tl h]
    exact List.mem_map.mpr ⟨p, hp, rfl⟩
  have hk := spl1_mem _ _ _ hm
  have hs := spl1_sum (s := s) (TL.tl x) []
  have hle : ∀ (ls : List (List Nat)) (q : List Nat), q ∈ ls → q.length + 1 ≤ (ls.map fun p => p.length + 1).sum := fun ls => by
    induction ls with
    | nil => intro q hq; cases hq
    | cons a ls ih =>
      intro q hq
      rw [List.map_cons, List.sum_cons]
      rcases List.mem_cons.mp hq with rfl | hq
      · omega
      · have := ih q hq
        omega
  have := hle _ _ hm
  rw [hs] at this
  refine ⟨⟨fun k hk' => ?_, ?_⟩, fun z => ?_⟩
  · rcases hk k hk' with z | ⟨z, _⟩
    · cases z
    · exact hx.1 k z
  · have h2 := hx.2
    rw [TL.len_tl] at h2 ⊢
    simp only [List.length_nil] at this
    omega
  · rcases hk s z with z | ⟨_, z⟩
    · cases z
    · exact z rfl
theorem split_len {s B : Nat} (h : One y s) (hx : Asc B x) : (Txt.split x y).length ≤ B + 1 ∧ Txt.split x y ≠ [] := by
  have e := congrArg List.length (split_tl (x := x) h)
  rw [List.length_map] at e
  have hs := spl1_sum (s := s) (TL.tl x) []
  have hle : ∀ (ls : List (List Nat)), ls.length ≤ (ls.map fun p => p.length + 1).sum := fun ls => by
    induction ls with
    | nil => simp
    | cons a ls ih => rw [List.map_cons, List.sum_cons, List.length_cons]; omega
  have := hle (TL.spl [s] 0 [] (TL.tl x))
  have h2 := hx.2
  rw [TL.len_tl] at h2
  refine ⟨?_, fun z => ?_⟩
  · simp only [List.length_nil] at hs
    omega
  · rw [z] at e
    exact spl1_ne (s := s) (TL.tl x) [] (List.length_eq_zero_iff.mp e.symm)
theorem split_any {s B : Nat} {fo : F D} (h : One y s) (hf : fo σ M = .ok (.str x) M) (hx : Asc B x) (hB : B ≤ 200000) : fM1 gSplit fo (fC (.str y)) σ M = .ok (.lst ((Txt.split x y).map D.str)) M := by
  rw [ev_m1 (x := .str x) hf rfl (y := .str y) (M2 := M) rfl]
  have e : gSplit (.str x) (.str y) M = if ((!(y.length == 0)) && few (x.length + 2)) = true then .ok (.lst ((Txt.split x y).map .str)) M else .bad := rfl
  rw [e, if_pos]
  have : y.length ≠ 0 := by rw [TL.len_tl, h.1]; simp
  rw [Bool.and_eq_true]
  have := hx.2
  refine ⟨by simpa using ‹y.length ≠ 0›, Nat.ble_eq_true_of_le (by omega)⟩
theorem one_comma : One "," 44 := ⟨by decide, by decide⟩
theorem one_space : One " " 32 := ⟨by decide, by decide⟩
theorem one_line : One "\n" 10 := ⟨by decide, by decide⟩
def isNon : D → Bool
  | .non => true
  | _ => false
def NT (d : D) : Prop := d = .non ∨ (∃ es, d = .tup es) ∨ ∃ i, d = .int i
theorem eqv_non {d : D} {q : PyData} (ht : NT d) (h1 : D.py d = some q) : PyData.eqv q .none = isNon d := by
  rcases ht with rfl | ⟨es, rfl⟩ | ⟨i, rfl⟩
  · cases h1
    simp [PyData.eqv, isNon]
  · simp only [D.py] at h1
    split at h1
    · cases h1
      simp [PyData.eqv, isNon]
    · cases h1
  · cases h1
    simp [PyData.eqv, isNon]
theorem py_list {ds : List D} {h : Nat} (hd : ∀ d ∈ ds, LK d h) (hh : h ≤ 60) : ∃ qs, D.pyA ds = some qs ∧ toPy M (.lst ds) = some (.list qs) ∧ SeqAt.shaped (.list qs) = true := by
  obtain ⟨qs, a, b, e, f⟩ := lk_all ds hd
  refine ⟨qs, a, ?_, by simp [SeqAt.shaped, PyData.canLay0, PyData.depth, b]; omega⟩
  show D.py (.lst ds) = _
  simp only [D.py, a]
theorem in_noneD {ds : List D} {h : Nat} (hd : ∀ d ∈ ds, LK d h) (ht : ∀ d ∈ ds, NT d) (hh : h ≤ 60) : gInD .non (.lst ds) M = .ok (.bl (ds.any isNon)) M := by
  obtain ⟨qs, a, h1, hs⟩ := py_list (M := M) hd hh
  have h0 : toPy M .non = some .none := rfl
  unfold gInD
  rw [h1, h0]
  dsimp only
  rw [if_pos (by rw [hs]; rfl)]
  have hn : ∀ (ds : List D) (qs : List PyData), D.pyA ds = some qs → (∀ d ∈ ds, NT d) → (qs.any fun z => PyData.eqv z .none) = ds.any isNon := by
    intro ds
    induction ds with
    | nil =>
      intro qs a _
      simp only [D.pyA] at a
      cases a
      rfl
    | cons d ds ih =>
      intro qs a ht
      simp only [D.pyA] at a
      split at a
      · rename_i q qs' h1 h2
        cases a
        rw [List.any_cons, List.any_cons, eqv_non (ht d (by simp)) h1, ih _ h2 fun z hz => ht z (by simp [hz])]
      · cases a
  rw [hn ds qs a ht]
def firstNon : List D → Nat → Option Nat
  | [], _ => none
  | d :: ds, n => if isNon d = true then some n else firstNon ds (n + 1)
theorem index_none {ds : List D} {h j : Nat} (hd : ∀ d ∈ ds, LK d h) (ht : ∀ d ∈ ds, NT d) (hh : h ≤ 60) (hj : firstNon ds 0 = some j) : gIndexD (.lst ds) [.non] M = .ok (.int (j : Int)) M := by
  obtain ⟨qs, a, h1, hs⟩ := py_list (M := M) hd hh
  have h0 : toPy M .non = some .none := rfl
  show (match toPy M (D.lst ds), toPy M .non with | some (.list ds), some d => if (SeqAt.shaped (.list ds) && SeqAt.shaped d) = true then (match findP d ds 0 with | some j => Res.ok (D.int (j : Int)) M | none => Res.bad) else Res.bad | _, _ => Res.bad) = _
  rw [h1, h0]
  dsimp only
  rw [if_pos (by rw [hs]; rfl)]
  have hn : ∀ (ds : List D) (qs : List PyData) (n : Nat), D.pyA ds = some qs → (∀ d ∈ ds, NT d) → findP .none qs n = firstNon ds n := by
    intro ds
    induction ds with
    | nil =>
      intro qs n a _
      simp only [D.pyA] at a
      cases a
      rfl
    | cons d ds ih =>
      intro qs n a ht
      simp only [D.pyA] at a
      split at a
      · rename_i q qs' h1 h2
        cases a
        show (if PyData.eqv q .none = true then some n else findP .none qs' (n + 1)) = (if isNon d = true then some n else firstNon ds (n + 1))
        rw [eqv_non (ht d (by simp)) h1, ih _ _ h2 fun z hz => ht z (by simp [hz])]
      · cases a
  rw [hn ds qs 0 a ht, hj]
def stepV (x : Str) : Option (List Int) := if (x == "-") = true then some [] else if ((Txt.split x ",").all isNum) = true then some ((Txt.split x ",").map numV) else none
def oStep : Option (List Int) → D
  | none => .non
  | some s => stepT s
theorem oStep_und {o : Option (List Int)} {n : Nat} : (oStep o).und n = true := by
  cases o with
  | none => rfl
  | some s => exact und_step s
theorem dash_ok : PyData.strOk ("-" : Str) = true := (Low.lit (by decide)).ok
theorem m_read_step_any {B : Nat} (hw : Wf M) (hx : Asc B x) (hB : B ≤ 200000) : m_read_step [.str x] M = .ok (oStep (stepV x)) M := by
  have t1 : fTest (fBin (gEq false) (fVar 0) (fC (.str "-"))) (startA 3 [.str x]) M = .ok (x == "-") M := test_ev ((bin_ev (b := .str "-") (var_ev rfl) rfl).trans (gEq_str hx.ok dash_ok))
  have fin : ∀ {d : D}, d.und M.length = true → b_read_step (startA 3 [.str x]) M = .ok (.rt d) M → m_read_step [.str x] M = .ok d M := fun {d} hd r => by
    have r := run_rt (n := 3) (k := 1) (b := b_read_step) (ds := [.str x]) rfl r
    have t := trim_app (M := M) (g := []) (d := d) rfl hw hd
    rw [List.append_nil] at t
    exact r.trans t
  refine fin oStep_und ?_
  unfold stepV
  cases hb : (x == "-") with
  | true =>
    rw [hb] at t1
    rw [if_pos rfl]
    exact seq_rt ((sif_ev t1).trans rfl)
  | false =>
    rw [hb] at t1
    rw [if_neg (by decide)]
    have hsp : fM1 gSplit (fVar 0) (fC (.str ",")) (startA 3 [.str x]) M = .ok (.lst ((Txt.split x ",").map D.str)) M := split_any one_comma (var_ev rfl) hx hB
    have s2 : sSet 1 (fM1 gSplit (fVar 0) (fC (.str ","))) (startA 3 [.str x]) M = .ok (.nx [some (.str x), some (.lst ((Txt.split x ",").map D.str)), none]) M := (set_ev hsp).trans rfl
    have hA := split_asc one_comma hx
    have hL := (split_len one_comma hx).1
    generalize Txt.split x "," = ps at hA hL hsp s2
    have hi : fIter (fVar 1) [some (.str x), some (.lst (ps.map D.str)), none] M = .ok ⟨(ps.map fun i => D.str i).map Im.d, fun _ => true⟩ M := by
      rw [ev_iter, var_ev (d := .lst (ps.map D.str)) rfl, bind_ok, gIter_lst]
    have c1 := comp_map (σ := [some (.str x), some (.lst (ps.map D.str)), none]) (M := M) (fi := fIter (fVar 1)) (i := 2) (e := fCall m_is_number_text (fCons (fVar 2) fNil)) ps (fun i => .str i) (fun p => .bl (isNum p)) hi hw (by omega) (fun i hi => ⟨rfl, fun M' w' => (call1_ev (var_ev rfl)).trans (m_is_num w' (hA i hi).1 hB)⟩)
    have g1 : gAll [.lst (ps.map fun p => D.bl (isNum p))] M = .ok (.bl (ps.all isNum)) M := gAll_map isNum ps
    refine (seq_nx ((sif_ev t1).trans rfl)).trans ((seq_nx s2).trans (ret_ev ?_))
    rw [ev_if, test_ev ((call1_ev c1).trans g1), bind_ok]
    cases hal : ps.all isNum with
    | false => rfl
    | true =>
      rw [if_pos rfl]
      rw [List.all_eq_true] at hal
      have c2 := comp_map (σ := [some (.str x), some (.lst (ps.map D.str)), none]) (M := M) (fi := fIter (fVar 1)) (i := 2) (e := fCall gIntT (fCons (fVar 2) fNil)) ps (fun i => .str i) (fun p => .int (numV p)) hi hw (by omega) (fun i hi => ⟨rfl, fun M' w' => (call1_ev (var_ev rfl)).trans (gIntT_num (hal i hi))⟩)
      refine (call1_ev c2).trans ?_
      rw [gTuple_lst]
      show _ = Res.ok (D.tup ((ps.map numV).map D.int)) M
      rw [List.map_map]
      rfl
end QX
set_option maxRecDepth 100000
set_option maxHeartbeats 1000000
namespace QX
open PySem PySem.Spec PyProof.Rows L2 HX
variable {M : Mem} {σ : Sa} {x y : Str} {n : Int}
theorem trim_self {d : D} (hw : Wf M) (hd : d.und M.length = true) : trimR M.length (.ok d M) = .ok d M := by
  have t := trim_app (M := M) (g := []) (d := d) rfl hw hd
  rw [List.append_nil] at t
  exact t
theorem lst_nil2 {ds : List D} {h : Nat} {neg : Bool} (hd : ∀ d ∈ ds, LK d h) (hh : h ≤ 60) : gEq neg (.lst ds) (.lst []) M = .ok (.bl (if neg = true then !ds.isEmpty else ds.isEmpty)) M := by
  obtain ⟨qs, a, b, e, f⟩ := lk_all ds hd
  have ht : toPy M (.lst ds) = some (.list qs) := by
    show D.py (.lst ds) = _
    simp only [D.py, a]
  have h0 : toPy M (.lst []) = some (.list []) := rfl
  unfold gEq
  rw [ht, h0]
  dsimp only
  rw [if_pos (by simp [SeqAt.shaped, PyData.canLay0, PyData.depth, b, PyData.canLayAll0, PyData.depthAll]; omega)]
  cases ds with
  | nil =>
    simp only [D.pyA] at a
    cases a
    simp [PyData.eqv, PyData.eqvAll]
  | cons z s =>
    cases qs with
    | nil =>
      simp only [D.pyA] at a
      split at a <;> cases a
    | cons q qs => simp [PyData.eqv, PyData.eqvAll]
def wheelV (x : Str) : Option (List (List Int)) := match Txt.split x " " with
  | [] => none
  | w :: ts => if (w == "wheel" && (!ts.isEmpty && ts.all fun t => (stepV t).isSome)) = true then some (ts.map fun t => (stepV t).getD []) else none
def oWheel : Option (List (List Int)) → D
  | none => .non
  | some s => wheelT s
theorem oWheel_und {o : Option (List (List Int))} {n : Nat} : (oWheel o).und n = true := by
  cases o with
  | none => rfl
  | some s => exact und_wheel s
theorem wheel_ok : PyData.strOk ("wheel" : Str) = true := (Low.lit (by decide)).ok
theorem cups_ok : PyData.strOk ("cups" : Str) = true := (Low.lit (by decide)).ok
theorem oStep_lk (o : Option (List Int)) : LK (oStep o) 1 := by
  cases o with
  | none => exact LK.non.less (by decide)
  | some s => exact LK.step s
theorem oStep_nt (o : Option (List Int)) : NT (oStep o) := by
  cases o with
  | none => exact .inl rfl
  | some s => exact .inr (.inl ⟨_, rfl⟩)
theorem oStep_non (o : Option (List Int)) : isNon (oStep o) = !o.isSome := by cases o <;> rfl
theorem steps_any (ts : List Str) : (ts.map fun t => oStep (stepV t)).any isNon = !(ts.all fun t => (stepV t).isSome) := by
  induction ts with
  | nil => rfl
  | cons t ts ih => rw [List.map_cons, List.any_cons, ih, oStep_non, List.all_cons, Bool.not_and]
theorem steps_all {ts : List Str} (h : (ts.all fun t => (stepV t).isSome) = true) : (ts.map fun t => oStep (stepV t)) = (ts.map fun t => (stepV t).getD []).map stepT := by
  rw [List.map_map]
  refine List.map_congr_left fun t ht => ?_
  have := List.all_eq_true.mp h t ht
  cases e : stepV t with
  | none => rw [e] at this; cases this
  | some s => simp [e, oStep]
theorem m_read_wheel_any {B : Nat} (hw : Wf M) (hx : Asc B x) (hB : B ≤ 200000) : m_read_wheel [.str x] M = .ok (oWheel (wheelV x)) M := by
  have hsp : fM1 gSplit (fVar 0) (fC (.str " ")) (startA 5 [.str x]) M = .ok (.lst ((Txt.split x " ").map D.str)) M := split_any one_space (var_ev rfl) hx hB
  have hA := split_asc one_space hx
  obtain ⟨hL, hne⟩ := split_len one_space hx
  unfold wheelV
  generalize Txt.split x " " = ps at hA hL hne hsp
  cases ps with
  | nil => exact absurd rfl hne
  | cons wd ts =>
    have s1 : sStar2 (fM1 gSplit (fVar 0) (fC (.str " "))) 1 2 (startA 5 [.str x]) M = .ok (.nx [some (.str x), some (.str wd), some (.lst (ts.map D.str)), none, none]) M := by
      unfold sStar2
      rw [hsp]
      rfl
    have hlen : ts.length ≤ 1000000 := by
      rw [List.length_cons] at hL
      omega
    have hi : fIter (fVar 2) [some (.str x), some (.str wd), some (.lst (ts.map D.str)), none, none] M = .ok ⟨(ts.map fun i => D.str i).map Im.d, fun _ => true⟩ M := by
      rw [ev_iter, var_ev (d := .lst (ts.map D.str)) rfl, bind_ok, gIter_lst]
    have c1 := comp_map (σ := [some (.str x), some (.str wd), some (.lst (ts.map D.str)), none, none]) (M := M) (fi := fIter (fVar 2)) (i := 4) (e := fCall m_read_step (fCons (fVar 4) fNil)) ts (fun s => .str s) (fun s => oStep (stepV s)) hi hw hlen (fun s hs => ⟨oStep_und, fun M' w' => (call1_ev (var_ev rfl)).trans (m_read_step_any w' (hA s (List.mem_cons_of_mem _ hs)).1 hB)⟩)
    have s2 : sSet 3 (fTrim (fCompC (fIter (fVar 2)) [4] (.name 4) fYes (fCall m_read_step (fCons (fVar 4) fNil)))) [some (.str x), some (.str wd), some (.lst (ts.map D.str)), none, none] M = .ok (.nx [some (.str x), some (.str wd), some (.lst (ts.map D.str)), some (.lst (ts.map fun s => oStep (stepV s))), none]) M := (set_ev c1).trans rfl
    have lk : ∀ d ∈ ts.map fun s => oStep (stepV s), LK d 1 := fun d hd => by
      obtain ⟨s, _, rfl⟩ := List.mem_map.mp hd
      exact oStep_lk _
    have nt : ∀ d ∈ ts.map fun s => oStep (stepV s), NT d := fun d hd => by
      obtain ⟨s, _, rfl⟩ := List.mem_map.mp hd
      exact oStep_nt _
    have tc : fOrT (fTest (fBin (gEq true) (fVar 1) (fC (.str "wheel")))) (fOrT (fTest (fBin (gEq false) (fVar 3) (fLst fNil))) (fTest (fBin gInD (fC .non) (fVar 3)))) [some (.str x), some (.str wd), some (.lst (ts.map D.str)), some (.lst (ts.map fun s => oStep (stepV s))), none] M = .ok (!(wd == "wheel" && (!ts.isEmpty && ts.all fun t => (stepV t).isSome))) M := by
      have q1 := or_ev (σ := [some (.str x), some (.str wd), some (.lst (ts.map D.str)), some (.lst (ts.map fun s => oStep (stepV s))), none]) (M := M) (test_ev ((bin_ev (fa := fVar 1) (fb := fC (.str "wheel")) (g := gEq true) (b := .str "wheel") (var_ev rfl) rfl).trans (gEq_str (hA wd (by simp)).1.ok wheel_ok))) fun _ => or_ev (test_ev ((bin_ev (fa := fVar 3) (fb := fLst fNil) (g := gEq false) (b := .lst []) (var_ev rfl) rfl).trans (lst_nil2 lk (by decide)))) fun _ => test_ev ((bin_ev (fa := fC .non) (fb := fVar 3) (g := gInD) (a := .non) rfl (var_ev rfl)).trans (in_noneD lk nt (by decide)))
      rw [steps_any] at q1
      refine q1.trans ?_
      congr 1
      cases (wd == "wheel") <;> cases ts <;> simp
    have fin : ∀ {d : D}, d.und M.length = true → b_read_wheel (startA 5 [.str x]) M = .ok (.rt d) M → m_read_wheel [.str x] M = .ok d M := fun {d} hd r => (run_rt (n := 5) (k := 1) (b := b_read_wheel) (ds := [.str x]) rfl r).trans (trim_self hw hd)
    refine fin oWheel_und ?_
    dsimp only
    cases hb : (wd == "wheel" && (!ts.isEmpty && ts.all fun t => (stepV t).isSome)) with
    | false =>
      rw [hb] at tc
      exact (seq_nx s1).trans ((seq_nx s2).trans (seq_rt ((sif_ev tc).trans rfl)))
    | true =>
      rw [hb] at tc
      rw [if_pos rfl]
      have hal : (ts.all fun t => (stepV t).isSome) = true := by
        rw [Bool.and_eq_true, Bool.and_eq_true] at hb
        exact hb.2.2
      refine (seq_nx s1).trans ((seq_nx s2).trans ((seq_nx ((sif_ev tc).trans rfl)).trans (ret_ev ((call1_ev (var_ev rfl)).trans ?_))))
      rw [gTuple_lst, steps_all hal]
      rfl
def cupsV (x : Str) : Option Int := match Txt.split x " " with
  | [a, b] => if (a == "cups" && isNum b) = true then some (numV b) else none
  | _ => none
def oInt : Option Int → D
  | none => .non
  | some i => .int i
theorem oInt_und {o : Option Int} {n : Nat} : (oInt o).und n = true := by cases o <;> rfl
theorem isNum_nosp {b : Str} (h : isNum b = true) : 32 ∉ TL.tl b := fun z => by
  simp only [isNum, digs, Bool.and_eq_true] at h
  have := List.all_eq_true.mp h.2.1 32 z
  simp at this
theorem isNum_empty : isNum Str.empty = false := by decide
theorem part_space {B : Nat} (hx : Asc B x) : ∃ a b : Str, (Txt.partition x " ").1 = a ∧ (Txt.partition x " ").2.2 = b ∧ Asc B a ∧ Asc B b ∧ (if (a == "cups" && isNum b) = true then some (numV b) else none) = cupsV x := by
  have hp := TL.partition_par x " " (by decide)
  have hsp := split_tl (x := x) one_space
  rw [show TL.tl (" " : Str) = [32] from by decide] at hp
  unfold cupsV
  rcases spl1_part (s := 32) (TL.tl x) [] with ⟨h1, h2, h3⟩ | ⟨a, b, e, h1, h2, h3⟩
  · rw [h3] at hp
    rw [h2] at hsp
    refine ⟨x, Str.empty, by rw [hp], by rw [hp], hx, ⟨fun k hk => (by cases hk), Nat.zero_le _⟩, ?_⟩
    rw [isNum_empty, Bool.and_false, if_neg (by decide)]
    match hs : Txt.split x " " with
    | [] => rfl
    | [_] => rfl
    | a :: b :: r =>
      rw [hs] at hsp
      have := congrArg List.length hsp
      simp at this
  · rw [h3] at hp
    rw [h2] at hsp
    have ha : Asc B (⟨a.toArray⟩ : Str) := ⟨fun k hk => hx.1 k (by rw [e]; exact List.mem_append_left _ hk), by
      have := hx.2
      rw [TL.len_tl] at this ⊢
      rw [e] at this
      rw [TL.tl_mk]
      simp at this
      omega⟩
    have hb : Asc B (⟨b.toArray⟩ : Str) := ⟨fun k hk => hx.1 k (by rw [e]; exact List.mem_append_right _ (List.mem_cons_of_mem _ hk)), by
      have := hx.2
      rw [TL.len_tl] at this ⊢
      rw [e] at this
      rw [TL.tl_mk]
      simp at this
      omega⟩
    refine ⟨⟨a.toArray⟩, ⟨b.toArray⟩, by rw [hp]; rfl, by rw [hp], ha, hb, ?_⟩
    rcases spl1_part (s := 32) b [] with ⟨g1, g2, g3⟩ | ⟨a', b', e', g1, g2, g3⟩
    · rw [g2] at hsp
      have hs : Txt.split x " " = [⟨a.toArray⟩, ⟨b.toArray⟩] := TL.map_tl_inj (by rw [hsp]; rfl)
      rw [hs]
    · have hn : isNum (⟨b.toArray⟩ : Str) = false := by
        cases q : isNum (⟨b.toArray⟩ : Str) with
        | false => rfl
        | true =>
          refine absurd ?_ (isNum_nosp q)
          rw [TL.tl_mk, e']
          simp
      rw [hn, Bool.and_false, if_neg (by decide)]
      rw [g2] at hsp
      have l2 : 1 ≤ (TL.spl [32] 0 [] b').length := List.length_pos_iff.mpr (spl1_ne _ _)
      match hs : Txt.split x " " with
      | [] => rfl
      | [_] => rfl
      | [a1, b1] =>
        rw [hs] at hsp
        have := congrArg List.length hsp
        simp only [List.length_map, List.length_cons, List.length_nil] at this
        omega
      | a1 :: b1 :: c1 :: r => rfl
theorem m_read_cups_any {B : Nat} (hw : Wf M) (hx : Asc B x) (hB : B ≤ 200000) : m_read_cups [.str x] M = .ok (oInt (cupsV x)) M := by
  obtain ⟨a, b, ea, eb, ha, hb, ec⟩ := part_space hx
  have s1 : sPart (fVar 0) (fC (.str " ")) [1, 2, 3] (startA 4 [.str x]) M = .ok (.nx [some (.str x), some (.str a), some (.str (Txt.partition x " ").2.1), some (.str b)]) M := by
    show (if ((!((" " : Str).length == 0)) && few x.length && [1, 2, 3].length == 3) = true then RS.ok (.nx (setAll (startA 4 [.str x]) [1, 2, 3] [.str (Txt.partition x " ").1, .str (Txt.partition x " ").2.1, .str (Txt.partition x " ").2.2])) M else .bad) = _
    rw [if_pos (by rw [ok_few (n := x.length) (by rw [sizeLine_eq]; have := hx.2; omega)]; rfl), ea, eb]
    rfl
  have a1 := andT_ev (σ := [some (.str x), some (.str a), some (.str (Txt.partition x " ").2.1), some (.str b)]) (M := M) (test_ev ((bin_ev (fa := fVar 1) (fb := fC (.str "cups")) (g := gEq false) (b := .str "cups") (var_ev rfl) rfl).trans (gEq_str ha.ok cups_ok))) (fun _ => test_ev ((call1_ev (fa := fVar 3) (var_ev rfl)).trans (m_is_num hw hb hB)))
  refine (run_rt (n := 4) (k := 1) (b := b_read_cups) (ds := [.str x]) rfl ((seq_nx s1).trans (ret_ev (d := oInt (cupsV x)) (M1 := M) ?_))).trans (trim_self hw oInt_und)
  rw [ev_if, a1, bind_ok, ← ec]
  show (if (a == "cups" && isNum b) = true then _ else _) = _
  cases hq : (a == "cups" && isNum b) with
  | false => rfl
  | true =>
    rw [if_pos rfl, if_pos rfl]
    rw [Bool.and_eq_true] at hq
    exact (call1_ev (var_ev rfl)).trans (gIntT_num hq.2)
end QX
set_option maxRecDepth 100000
set_option maxHeartbeats 1000000
namespace QX
open PySem PySem.Spec PyProof.Rows L2 HX
variable {M : Mem} {σ : Sa} {x y : Str} {n : Int}
def figV (x : Str) : Option Int := if isNum x = true then some (numV x) else none
def pS83 : Im → Bool
  | .d (.str z) => !digs (TL.tl z)
  | _ => false
def fS83 : Im → D
  | .d d => d
  | _ => .non
theorem filt_dig (l : List Nat) : ((l.map fun c => Im.d (.str ⟨#[c]⟩)).filter pS83).isEmpty = digs l := by
  induction l with
  | nil => rfl
  | cons c l ih =>
    have e : pS83 (Im.d (.str ⟨#[c]⟩)) = !(decide (48 ≤ c) && decide (c ≤ 57)) := by
      show (!digs [c]) = _
      simp [digs]
    rw [List.map_cons, List.filter_cons, e]
    show _ = ((decide (48 ≤ c) && decide (c ≤ 57)) && digs l)
    cases hb : (decide (48 ≤ c) && decide (c ≤ 57)) with
    | true => rw [if_neg (by decide), ih, Bool.true_and]
    | false => rfl
theorem m_figures {B : Nat} (hw : Wf M) (hx : Asc B x) (hB : B ≤ 200000) : m_law_figures_264fdc [.str x] M = .ok (oInt (figV x)) M := by
  have hl : x.length ≤ 200000 := Nat.le_trans hx.2 hB
  have t1 := chain13 (σ := startA 2 [.str x]) (M := M) (fe := fVar 0) (var_ev rfl) hl
  have hi : fIterS (fVar 0) (startA 2 [.str x]) M = .ok ⟨(TL.tl x).map fun c => Im.d (.str ⟨#[c]⟩), fun _ => true⟩ M := show Res.bind (fVar 0 (startA 2 [.str x]) M) (fun d M1 => match d with | .str z => Res.ok (⟨z.cps.toList.map fun c => .d (.str ⟨#[c]⟩), fun _ => true⟩ : Ita) M1 | _ => .bad) = _ by rw [var_ev (d := .str x) rfl, bind_ok]
  have hc := comp_filtC (σ := startA 2 [.str x]) (M := M) (fi := fIterS (fVar 0)) (vs := [1]) (t := .name 1) (c := fTest (fBin gNinS (fVar 1) (fC (.str "0123456789")))) (e := fVar 1) pS83 fS83 hi (fun _ => rfl) hw (by show (List.map _ _).length ≤ _; rw [List.length_map, ← TL.len_tl]; omega) (fun im him => by
    obtain ⟨c, hc, rfl⟩ := List.mem_map.mp him
    refine ⟨rfl, _, rfl, fun M' => ⟨?_, fun _ => rfl⟩⟩
    refine test_ev ((bin_ev (a := .str ⟨#[c]⟩) (b := .str "0123456789") (var_ev rfl) rfl).trans ?_)
    show Res.ok (D.bl (!decide (c ∈ ("0123456789" : Str).cps.toList))) M' = _
    rw [in_digs]
    show _ = Res.ok (D.bl (!digs [c])) M'
    simp [digs])
  have lk : ∀ d ∈ (((TL.tl x).map fun c => Im.d (.str ⟨#[c]⟩)).filter pS83).map fS83, LK d 0 := fun d hd => by
    obtain ⟨im, him, rfl⟩ := List.mem_map.mp hd
    obtain ⟨c, hc, rfl⟩ := List.mem_map.mp (List.mem_filter.mp him).1
    exact LK.str (asc_one (hx.1 c hc))
  have t2 : fTest (fBin (gEq true) (fTrim (fCompC (fIterS (fVar 0)) [1] (.name 1) (fTest (fBin gNinS (fVar 1) (fC (.str "0123456789")))) (fVar 1))) (fLst fNil)) (startA 2 [.str x]) M = .ok (!digs (TL.tl x)) M := by
    refine test_ev ((bin_ev (b := .lst []) hc rfl).trans ((lst_nil2 lk (by decide)).trans ?_))
    rw [if_pos rfl, ← filt_dig]
    congr 3
    cases ((TL.tl x).map fun c => Im.d (.str ⟨#[c]⟩)).filter pS83 <;> rfl
  have tc := or_ev (not_ev t1) fun _ => t2
  refine (run_rt (n := 2) (k := 1) (b := b_law_figures_264fdc) (ds := [.str x]) (d := oInt (figV x)) rfl ?_).trans (trim_self hw oInt_und)
  by_cases h13 : (decide (1 ≤ x.length) && decide (x.length ≤ 13)) = true ∧ digs (TL.tl x) = true
  · rw [h13.1, h13.2] at tc
    obtain ⟨c, r, e⟩ : ∃ c r, TL.tl x = c :: r := by
      cases e : TL.tl x with
      | nil =>
        have := h13.1
        rw [TL.len_tl, e] at this
        simp at this
      | cons c r => exact ⟨c, r, rfl⟩
    have hc128 : c < 128 := hx.1 c (by rw [e]; simp)
    refine (seq_nx ((sif_ev tc).trans rfl)).trans (ret_ev ?_)
    have a1 : fTest (fBin (gEq false) (fVar 0) (fC (.str "0"))) (startA 2 [.str x]) M = .ok (x == "0") M := test_ev ((bin_ev (b := .str "0") (var_ev rfl) rfl).trans (gEq_str hx.ok sok0))
    have a2 : fTest (fBin (gEq true) (fBin gIx (fVar 0) (fC (.int 0))) (fC (.str "0"))) (startA 2 [.str x]) M = .ok (!((⟨#[c]⟩ : Str) == "0")) M := test_ev ((bin_ev (a := .str ⟨#[c]⟩) (b := .str "0") ((bin_ev (a := .str x) (b := .int 0) (var_ev rfl) rfl).trans (ix0_str e hx hB)) rfl).trans (gEq_str (asc_one hc128) sok0))
    have en : isNum x = (x == "0" || !decide (c = 48)) := by
      unfold isNum
      rw [h13.1, h13.2, e]
      simp only [List.head?_cons, Bool.true_and]
      congr 1
    rw [one_eq0] at a2
    rw [ev_if, or_ev a1 fun _ => a2, bind_ok, ← en]
    unfold figV
    cases hn : isNum x with
    | false => rfl
    | true =>
      rw [if_pos rfl, if_pos rfl]
      exact (call1_ev (var_ev rfl)).trans (gIntT_num hn)
  · have hb : (!(decide (1 ≤ x.length) && decide (x.length ≤ 13)) || !digs (TL.tl x)) = true := by
      cases h1 : (decide (1 ≤ x.length) && decide (x.length ≤ 13)) with
      | false => rfl
      | true =>
        cases h2 : digs (TL.tl x) with
        | false => rfl
        | true => exact absurd ⟨h1, h2⟩ h13
    have en : isNum x = false := by
      unfold isNum
      cases h1 : (decide (1 ≤ x.length) && decide (x.length ≤ 13)) with
      | false => rfl
      | true =>
        cases h2 : digs (TL.tl x) with
        | false => rfl
        | true => exact absurd ⟨h1, h2⟩ h13
    rw [hb] at tc
    unfold figV
    rw [en, if_neg (by decide)]
    exact seq_rt ((sif_ev tc).trans rfl)
theorem oInt_lk (o : Option Int) : LK (oInt o) 0 := by
  cases o with
  | none => exact LK.non
  | some s => exact LK.int
theorem oInt_nt (o : Option Int) : NT (oInt o) := by
  cases o with
  | none => exact .inl rfl
  | some s => exact .inr (.inr ⟨_, rfl⟩)
theorem oInt_non (o : Option Int) : isNon (oInt o) = !o.isSome := by cases o <;> rfl
def endsD (t : Str) : List D := if (t == "-") = true then [] else (Txt.split t ",").map fun p => oInt (figV p)
theorem figs_any (ts : List Str) : (ts.map fun t => oInt (figV t)).any isNon = !(ts.all isNum) := by
  induction ts with
  | nil => rfl
  | cons t ts ih =>
    rw [List.map_cons, List.any_cons, ih, oInt_non, List.all_cons, Bool.not_and]
    congr 2
    unfold figV
    cases isNum t <;> rfl
theorem ends_any (t : Str) : (endsD t).any isNon = !(stepV t).isSome := by
  unfold endsD stepV
  cases (t == "-") with
  | true => rfl
  | false =>
    rw [if_neg (by decide), if_neg (by decide), figs_any]
    cases (Txt.split t ",").all isNum <;> rfl
theorem ends_all {t : Str} (h : (stepV t).isSome = true) : D.tup (endsD t) = stepT ((stepV t).getD []) := by
  unfold endsD stepV at *
  cases hb : (t == "-") with
  | true => rfl
  | false =>
    rw [hb] at h
    rw [if_neg (by decide)] at h ⊢
    rw [if_neg (by decide)]
    cases ha : (Txt.split t ",").all isNum with
    | false => rw [ha] at h; cases h
    | true =>
      rw [if_pos rfl]
      show D.tup _ = D.tup (((Txt.split t ",").map numV).map D.int)
      rw [List.map_map]
      congr 1
      refine List.map_congr_left fun p hp => ?_
      unfold figV
      rw [List.all_eq_true.mp ha p hp]
      rfl
theorem endsD_lk {t : Str} : ∀ d ∈ endsD t, LK d 0 := fun d hd => by
  unfold endsD at hd
  split at hd
  · cases hd
  · obtain ⟨p, _, rfl⟩ := List.mem_map.mp hd
    exact oInt_lk _
theorem endsD_nt {t : Str} : ∀ d ∈ endsD t, NT d := fun d hd => by
  unfold endsD at hd
  split at hd
  · cases hd
  · obtain ⟨p, _, rfl⟩ := List.mem_map.mp hd
    exact oInt_nt _
def li_e : F D := fIf (fTest (fBin (gEq false) (fVar 4) (fC (.str "-")))) (fLst fNil) (fTrim (fCompC (fIter (fM1 gSplit (fVar 4) (fC (.str ",")))) [6] (.name 6) fYes (fCall m_law_figures_264fdc (fCons (fVar 6) fNil))))
def li_b : FS := (sSeq (sSet 5 li_e)
  (sSeq (sIf (fTest (fBin gInD (fC .non) (fVar 5)))
  (sRet (fC .non))
  sNext)
  (sExpr (fMeth gAppend (fVar 3) (fCons (fCall gTuple (fCons (fVar 5) fNil)) fNil)))))
def li_1 : FS := (sIf (fTest (fBin (gEq false) (fVar 1) (fC (.int 1))))
  (sRet (fIf (fAndT (fTest (fBin (gEq false) (fCall gLen (fCons (fVar 2) fNil)) (fC (.int 2)))) (fTest (fBin (gEq false) (fBin gIx (fVar 2) (fC (.int 0))) (fC (.str "cups"))))) (fCall m_law_figures_264fdc (fCons (fBin gIx (fVar 2) (fC (.int 1))) fNil)) (fC .non)))
  sNext)
def li_2 : FS := (sIf (fOrT (fTest (fBin (gEq true) (fBin gIx (fVar 2) (fC (.int 0))) (fC (.str "wheel")))) (fTest (fBin (gCmp cLt) (fCall gLen (fCons (fVar 2) fNil)) (fC (.int 2)))))
  (sRet (fC .non))
  sNext)
theorem li_body : b_law_line_in_a53ef1 = (sSeq (sSet 2 (fM1 gSplit (fVar 0) (fC (.str " ")))) (sSeq li_1 (sSeq li_2 (sSeq (sSet 3 (fNew fNil)) (sSeq (sFor (fIter (fSl (fVar 2) (fPart (fC (.int 1))) fNoPart)) (.name 4) li_b) (sRet (fCall gTuple (fCons (fVar 3) fNil)))))))) := rfl
theorem li_e_ev {t : Str} {B : Nat} {l : List (Nat × D)} (hw : Wf M) (ht : Asc B t) (hB : B ≤ 200000) (hs : Has σ 7 ((4, .str t) :: l)) : li_e σ M = .ok (.lst (endsD t)) M := by
  have t1 : fTest (fBin (gEq false) (fVar 4) (fC (.str "-"))) σ M = .ok (t == "-") M := test_ev ((bin_ev (b := .str "-") (var_ev (hs.at (by simp))) rfl).trans (gEq_str ht.ok dash_ok))
  unfold li_e endsD
  rw [ev_if, t1, bind_ok]
  cases hb : (t == "-") with
  | true => rfl
  | false =>
    rw [if_neg (by decide), if_neg (by decide)]
    have hsp : fM1 gSplit (fVar 4) (fC (.str ",")) σ M = .ok (.lst ((Txt.split t ",").map D.str)) M := split_any one_comma (var_ev (hs.at (by simp))) ht hB
    have hA := split_asc one_comma ht
    have hL := (split_len one_comma ht).1
    generalize Txt.split t "," = ps at hA hL hsp
    have hi : fIter (fM1 gSplit (fVar 4) (fC (.str ","))) σ M = .ok ⟨(ps.map fun i => D.str i).map Im.d, fun _ => true⟩ M := by
      rw [ev_iter, hsp, bind_ok, gIter_lst]
    have hl6 : 6 < σ.length := by rw [hs.1]; decide
    exact comp_map (σ := σ) (M := M) (fi := fIter (fM1 gSplit (fVar 4) (fC (.str ",")))) (i := 6) (e := fCall m_law_figures_264fdc (fCons (fVar 6) fNil)) ps (fun i => .str i) (fun p => oInt (figV p)) hi hw (by omega) (fun p hp => ⟨oInt_und, fun M' w' => (call1_ev (var_ev (by simp [wipeA, hl6]))).trans (m_figures w' (hA p hp).1 hB)⟩)
end QX
set_option maxRecDepth 100000
set_option maxHeartbeats 1000000
namespace QX
open PySem PySem.Spec PyProof.Rows L2 HX
variable {M : Mem} {σ : Sa} {x y : Str} {n : Int}
theorem ix_hd {d : D} {ds : List D} : gIx (.lst (d :: ds)) (.int 0) M = .ok d M := by
  rw [gIx_lst, atI_nn (by decide)]
  rfl
theorem li_b_ev {t : Str} {B : Nat} {acc : List D} {l : List (Nat × D)} (hw : Wf (M ++ [.lst acc])) (ht : Asc B t) (hB : B ≤ 200000) (hacc : acc.length < 16777216) (hs : Has σ 7 ((4, .str t) :: (3, .ref M.length) :: l)) (hn : ∀ q ∈ l, q.1 ≠ 5) :
    ∃ σ', Has σ' 7 ((3, .ref M.length) :: l) ∧ (((stepV t).isSome = true ∧ li_b σ (M ++ [.lst acc]) = .ok (.nx σ') (M ++ [.lst (acc ++ [stepT ((stepV t).getD [])])])) ∨ ((stepV t).isSome = false ∧ li_b σ (M ++ [.lst acc]) = .ok (.rt .non) (M ++ [.lst acc]))) := by
  have s1 : sSet 5 li_e σ (M ++ [.lst acc]) = .ok (.nx (σ.set 5 (some (.lst (endsD t))))) (M ++ [.lst acc]) := set_ev (li_e_ev hw ht hB hs)
  have h2 : Has (σ.set 5 (some (.lst (endsD t)))) 7 ((5, .lst (endsD t)) :: (4, .str t) :: (3, .ref M.length) :: l) := hs.put (by decide) (fun q hq => by
    rcases List.mem_cons.mp hq with rfl | hq
    · simp
    · rcases List.mem_cons.mp hq with rfl | hq
      · simp
      · exact hn q hq)
  generalize σ.set 5 (some (D.lst (endsD t))) = σ1 at s1 h2
  have t1 : fTest (fBin gInD (fC .non) (fVar 5)) σ1 (M ++ [.lst acc]) = .ok (!(stepV t).isSome) (M ++ [.lst acc]) := test_ev ((bin_ev (a := .non) rfl (var_ev (h2.at (i := 5) (d := .lst (endsD t)) (by simp)))).trans ((in_noneD endsD_lk endsD_nt (by decide)).trans (by rw [ends_any])))
  refine ⟨σ1, h2.sub (fun q hq => List.mem_cons_of_mem _ (List.mem_cons_of_mem _ hq)), ?_⟩
  cases hb : (stepV t).isSome with
  | true =>
    refine .inl ⟨rfl, ?_⟩
    rw [hb] at t1
    have e : fCall gTuple (fCons (fVar 5) fNil) σ1 (M ++ [.lst acc]) = .ok (stepT ((stepV t).getD [])) (M ++ [.lst acc]) := by
      refine (call1_ev (var_ev (h2.at (i := 5) (d := .lst (endsD t)) (by simp)))).trans ?_
      rw [gTuple_lst, ends_all hb]
    have a := push_ev (fv := fVar 3) (var_ev (h2.at (i := 3) (d := .ref M.length) (by simp))) top_at e hacc
    rw [set_top] at a
    exact (seq_nx s1).trans ((seq_nx (pass9 t1)).trans a)
  | false =>
    refine .inr ⟨rfl, ?_⟩
    rw [hb] at t1
    exact (seq_nx s1).trans (seq_rt ((sif_ev t1).trans rfl))
theorem m_line_one {B : Nat} (hw : Wf M) (hx : Asc B x) (hB : B ≤ 200000) : m_law_line_in_a53ef1 [.str x, .int 1] M = .ok (oInt (cupsV x)) M := by
  have hsp : fM1 gSplit (fVar 0) (fC (.str " ")) (startA 7 [.str x, .int 1]) M = .ok (.lst ((Txt.split x " ").map D.str)) M := split_any one_space (var_ev rfl) hx hB
  have hA := split_asc one_space hx
  obtain ⟨hL, hne⟩ := split_len one_space hx
  unfold cupsV
  generalize Txt.split x " " = ps at hA hL hne hsp
  have s1 : sSet 2 (fM1 gSplit (fVar 0) (fC (.str " "))) (startA 7 [.str x, .int 1]) M = .ok (.nx [some (.str x), some (.int 1), some (.lst (ps.map D.str)), none, none, none, none]) M := (set_ev hsp).trans rfl
  have t1 : fTest (fBin (gEq false) (fVar 1) (fC (.int 1))) [some (.str x), some (.int 1), some (.lst (ps.map D.str)), none, none, none, none] M = .ok true M := test_ev ((bin_ev (a := .int 1) (b := .int 1) (var_ev rfl) rfl).trans (by rw [eqI_ev]; rfl))
  have el : fTest (fBin (gEq false) (fCall gLen (fCons (fVar 2) fNil)) (fC (.int 2))) [some (.str x), some (.int 1), some (.lst (ps.map D.str)), none, none, none, none] M = .ok (decide (ps.length = 2)) M := by
    refine test_ev ((bin_ev (a := .int (ps.length : Int)) (b := .int 2) ((call1_ev (var_ev rfl)).trans (by rw [gLen_lst, List.length_map])) rfl).trans ?_)
    rw [eqI_ev]
    show Res.ok (D.bl (decide ((ps.length : Int) = 2))) M = _
    congr 2
    by_cases h : ps.length = 2
    · rw [decide_eq_true h, decide_eq_true (by omega)]
    · rw [decide_eq_false h, decide_eq_false (by omega)]
  cases ps with
  | nil => exact absurd rfl hne
  | cons a r =>
    have ea : fTest (fBin (gEq false) (fBin gIx (fVar 2) (fC (.int 0))) (fC (.str "cups"))) [some (.str x), some (.int 1), some (.lst ((a :: r).map D.str)), none, none, none, none] M = .ok (a == "cups") M := test_ev ((bin_ev (a := .str a) (b := .str "cups") ((bin_ev (a := .lst ((a :: r).map D.str)) (b := .int 0) (var_ev rfl) rfl).trans ix_hd) rfl).trans (gEq_str (hA a (by simp)).1.ok cups_ok))
    have fin : ∀ {o : Option Int}, fIf (fAndT (fTest (fBin (gEq false) (fCall gLen (fCons (fVar 2) fNil)) (fC (.int 2)))) (fTest (fBin (gEq false) (fBin gIx (fVar 2) (fC (.int 0))) (fC (.str "cups"))))) (fCall m_law_figures_264fdc (fCons (fBin gIx (fVar 2) (fC (.int 1))) fNil)) (fC .non) [some (.str x), some (.int 1), some (.lst ((a :: r).map D.str)), none, none, none, none] M = .ok (oInt o) M → m_law_line_in_a53ef1 [.str x, .int 1] M = .ok (oInt o) M := fun {o} h => by
      refine (run_rt (n := 7) (k := 2) (b := b_law_line_in_a53ef1) (ds := [.str x, .int 1]) (d := oInt o) rfl ?_).trans (trim_self hw oInt_und)
      rw [li_body]
      exact (seq_nx s1).trans (seq_rt ((sif_ev t1).trans (by rw [if_pos rfl]; exact ret_ev h)))
    have hc := andT_ev el fun _ => ea
    match r, hc, hA with
    | [], hc, hA =>
      refine fin (o := none) ?_
      rw [ev_if, hc, bind_ok]
      rfl
    | [b], hc, hA =>
      show _ = Res.ok (oInt (if (a == "cups" && isNum b) = true then some (numV b) else none)) M
      refine fin ?_
      rw [ev_if, hc, bind_ok]
      cases hq : (a == "cups") with
      | false => rfl
      | true =>
        have h2 : (decide ([a, b].length = 2) && true) = true := rfl
        rw [h2, if_pos rfl, Bool.true_and]
        exact (call1_ev (a := .str b) ((bin_ev (a := .lst ([a, b].map D.str)) (b := .int 1) (var_ev rfl) rfl).trans rfl)).trans (m_figures hw (hA b (by simp)).1 hB)
    | b :: c :: r, hc, hA =>
      refine fin (o := none) ?_
      rw [ev_if, hc, bind_ok]
      have h2 : decide ((a :: b :: c :: r).length = 2) = false := decide_eq_false (by simp)
      rw [h2]
      rfl
theorem m_line_more {B : Nat} (hw : Wf M) (hx : Asc B x) (hB : B ≤ 200000) (hn : n ≠ 1) : m_law_line_in_a53ef1 [.str x, .int n] M = .ok (oWheel (wheelV x)) M := by
  have hsp : fM1 gSplit (fVar 0) (fC (.str " ")) (startA 7 [.str x, .int n]) M = .ok (.lst ((Txt.split x " ").map D.str)) M := split_any one_space (var_ev rfl) hx hB
  have hA := split_asc one_space hx
  obtain ⟨hL, hne⟩ := split_len one_space hx
  unfold wheelV
  generalize Txt.split x " " = ps at hA hL hne hsp
  cases ps with
  | nil => exact absurd rfl hne
  | cons wd ts =>
    rw [List.length_cons] at hL
    have s1 : sSet 2 (fM1 gSplit (fVar 0) (fC (.str " "))) (startA 7 [.str x, .int n]) M = .ok (.nx [some (.str x), some (.int n), some (.lst ((wd :: ts).map D.str)), none, none, none, none]) M := (set_ev hsp).trans rfl
    have t1 : fTest (fBin (gEq false) (fVar 1) (fC (.int 1))) [some (.str x), some (.int n), some (.lst ((wd :: ts).map D.str)), none, none, none, none] M = .ok false M := test_ev ((bin_ev (a := .int n) (b := .int 1) (var_ev rfl) rfl).trans (by rw [eqI_ev]; show Res.ok (D.bl (decide (n = 1))) M = _; rw [decide_eq_false hn]))
    have t2 : fOrT (fTest (fBin (gEq true) (fBin gIx (fVar 2) (fC (.int 0))) (fC (.str "wheel")))) (fTest (fBin (gCmp cLt) (fCall gLen (fCons (fVar 2) fNil)) (fC (.int 2)))) [some (.str x), some (.int n), some (.lst ((wd :: ts).map D.str)), none, none, none, none] M = .ok (!(wd == "wheel") || ts.isEmpty) M := or_ev (test_ev ((bin_ev (a := .str wd) (b := .str "wheel") ((bin_ev (a := .lst ((wd :: ts).map D.str)) (b := .int 0) (var_ev rfl) rfl).trans ix_hd) rfl).trans (gEq_str (hA wd (by simp)).1.ok wheel_ok))) fun _ => test_ev ((bin_ev (a := .int ((wd :: ts).length : Int)) (b := .int 2) ((call1_ev (var_ev rfl)).trans (by rw [gLen_lst, List.length_map])) rfl).trans (by
      rw [gCmp_int]
      congr 2
      cases ts with
      | nil => rfl
      | cons t ts => exact decide_eq_false (by simp only [List.length_cons]; omega)))
    have fin : ∀ {o : Option (List (List Int))} {g : Mem}, (sSeq (sSet 2 (fM1 gSplit (fVar 0) (fC (.str " ")))) (sSeq li_1 (sSeq li_2 (sSeq (sSet 3 (fNew fNil)) (sSeq (sFor (fIter (fSl (fVar 2) (fPart (fC (.int 1))) fNoPart)) (.name 4) li_b) (sRet (fCall gTuple (fCons (fVar 3) fNil)))))))) (startA 7 [.str x, .int n]) M = .ok (.rt (oWheel o)) (M ++ g) → m_law_line_in_a53ef1 [.str x, .int n] M = .ok (oWheel o) M := fun {o} {g} h => by
      rw [← li_body] at h
      exact (run_rt (n := 7) (k := 2) (b := b_law_line_in_a53ef1) (ds := [.str x, .int n]) (d := oWheel o) rfl h).trans (trim_app rfl hw oWheel_und)
    cases hb : (!(wd == "wheel") || ts.isEmpty) with
    | true =>
      rw [hb] at t2
      have e0 : (wd == "wheel" && (!ts.isEmpty && ts.all fun t => (stepV t).isSome)) = false := by
        cases h1 : (wd == "wheel") with
        | false => rfl
        | true =>
          rw [h1] at hb
          have : ts.isEmpty = true := hb
          rw [this]
          rfl
      dsimp only
      rw [e0, if_neg (by decide)]
      refine fin (o := none) (g := []) ?_
      rw [List.append_nil]
      exact (seq_nx s1).trans ((seq_nx (pass9 t1)).trans (seq_rt ((sif_ev t2).trans rfl)))
    | false =>
      rw [hb] at t2
      have e0 : (wd == "wheel" && (!ts.isEmpty && ts.all fun t => (stepV t).isSome)) = ts.all fun t => (stepV t).isSome := by
        cases h1 : (wd == "wheel") with
        | false => rw [h1] at hb; cases hb
        | true =>
          rw [h1] at hb
          have : ts.isEmpty = false := hb
          rw [this]
          rfl
      dsimp only
      rw [e0]
      have s3 : sSet 3 (fNew fNil) [some (.str x), some (.int n), some (.lst ((wd :: ts).map D.str)), none, none, none, none] M = .ok (.nx [some (.str x), some (.int n), some (.lst ((wd :: ts).map D.str)), some (.ref M.length), none, none, none]) (M ++ [.lst []]) := rfl
      have hs : Has [some (.str x), some (.int n), some (.lst ((wd :: ts).map D.str)), some (.ref M.length), none, none, none] 7 [(3, .ref M.length), (2, .lst ((wd :: ts).map D.str))] := ⟨rfl, fun q hq => by
        simp only [List.mem_cons, List.mem_nil_iff, or_false] at hq
        rcases hq with rfl | rfl <;> rfl⟩
      have hit : fIter (fSl (fVar 2) (fPart (fC (.int 1))) fNoPart) [some (.str x), some (.int n), some (.lst ((wd :: ts).map D.str)), some (.ref M.length), none, none, none] (M ++ [.lst []]) = .ok ⟨(ts.map D.str).map Im.d, fun _ => true⟩ (M ++ [.lst []]) := by
        rw [ev_iter, sl_dropL (k := 1) (d := .lst ((wd :: ts).map D.str)) (ds := (wd :: ts).map D.str) (var_ev rfl) rfl rfl, bind_ok]
        rfl
      generalize [some (D.str x), some (D.int n), some (.lst ((wd :: ts).map D.str)), some (D.ref M.length), none, none, none] = σ1 at s3 hs hit
      have hund : ∀ (ps : List (List Int)) (n : Nat), D.undA n (ps.map stepT) = true := fun ps n => undA_of fun d hd => by
        obtain ⟨q, _, rfl⟩ := List.mem_map.mp hd
        exact und_step _
      have hf := for_retG (t := .name 4) (b := li_b) (n := (M ++ [Cell.lst []]).length) (chk := fun _ => true) (items := (ts.map D.str).map Im.d) (fun j σ N => N = M ++ [.lst (((ts.take j).map fun t => (stepV t).getD []).map stepT)] ∧ ((ts.take j).all fun t => (stepV t).isSome) = true ∧ Has σ 7 [(3, .ref M.length), (2, .lst ((wd :: ts).map D.str))]) (fun d N => d = .non ∧ (ts.all fun t => (stepV t).isSome) = false ∧ ∃ acc, N = M ++ [.lst acc]) (fun _ _ _ _ => rfl) (fun j σ N im him hv => by
        obtain ⟨rfl, hall, hσ⟩ := hv
        rw [List.getElem?_map, List.getElem?_map] at him
        cases hq : ts[j]? with
        | none => rw [hq] at him; cases him
        | some t =>
          rw [hq] at him
          have him : Im.d (.str t) = im := Option.some.inj him
          subst him
          have hm := List.mem_of_getElem? hq
          have hp := hσ.put (i := 4) (d := .str t) (by decide) (by simp)
          refine ⟨_, rfl, ?_⟩
          have hla : (((ts.take j).map fun t => (stepV t).getD []).map stepT).length < 16777216 := by
            rw [List.length_map, List.length_map, List.length_take]
            omega
          obtain ⟨σ', h', ⟨hs1, e⟩ | ⟨hs1, e⟩⟩ := li_b_ev (hw.push (hund _ _)) (hA t (List.mem_cons_of_mem _ hm)).1 hB hla hp (by simp)
          · refine .inl ⟨σ', _, e, ?_⟩
            rw [gc_same (by simp)]
            refine ⟨?_, ?_, h'⟩
            · rw [List.take_succ, hq]
              simp
            · rw [List.take_succ, hq, List.all_append, hall]
              simp [hs1]
          · refine .inr ⟨.non, _, e, rfl, ?_, _, rfl⟩
            cases hz : ts.all fun t => (stepV t).isSome with
            | false => rfl
            | true =>
              have := List.all_eq_true.mp hz t hm
              rw [hs1] at this
              cases this) ((ts.map D.str).map Im.d).length 0 σ1 (M ++ [.lst []]) (by simp) ⟨by simp, rfl, hs⟩
      rw [List.drop_zero] at hf
      rcases hf with ⟨σ2, M2, f2, rfl, hall, h2⟩ | ⟨d, M2, f2, rfl, hall, acc, rfl⟩
      · have hl : ((ts.map D.str).map Im.d).length = ts.length := by rw [List.length_map, List.length_map]
        rw [hl, List.take_length] at f2 hall
        rw [hall, if_pos rfl]
        refine fin (o := some (ts.map fun t => (stepV t).getD [])) (g := [.lst ((ts.map fun t => (stepV t).getD []).map stepT)]) ?_
        exact (seq_nx s1).trans ((seq_nx (pass9 t1)).trans ((seq_nx (pass9 t2)).trans ((seq_nx s3).trans ((seq_nx (for_of hit f2)).trans (ret_ev ((call1_ev (var_ev (h2.at (i := 3) (d := .ref M.length) (by simp)))).trans (gTuple_ref top_at)))))))
      · rw [hall, if_neg (by decide)]
        refine fin (o := none) (g := [.lst acc]) ?_
        exact (seq_nx s1).trans ((seq_nx (pass9 t1)).trans ((seq_nx (pass9 t2)).trans ((seq_nx s3).trans (seq_rt (for_of hit f2)))))
end QX
set_option maxRecDepth 100000
set_option maxHeartbeats 1000000
namespace QX
open PySem PySem.Spec PyProof.Rows L2 HX
variable {M : Mem} {σ : Sa} {x y : Str} {n : Int}
theorem ends_one (c : Nat) : Txt.endswith (⟨#[c]⟩ : Str) "\n" = decide (c = 10) := by
  by_cases h : c = 10
  · subst h
    decide +kernel
  · rw [decide_eq_false h]
    show (decide (0 + ("\n" : Str).length ≤ (⟨#[c]⟩ : Str).length) && Builtin.Str.subAt ⟨#[c]⟩ "\n" ((⟨#[c]⟩ : Str).length - ("\n" : Str).length)) = false
    have e : Builtin.Str.subAt (⟨#[c]⟩ : Str) "\n" 0 = false := by
      show ((#[c] : Array Nat).extract 0 (0 + 1) == ("\n" : Str).cps) = false
      have h2 : ("\n" : Str).cps = #[10] := by decide
      rw [h2, beq_eq_false_iff_ne]
      intro z
      have := congrArg Array.toList z
      simp at this
      exact h this
    have h3 : (⟨#[c]⟩ : Str).length - ("\n" : Str).length = 0 := by
      have : (⟨#[c]⟩ : Str).length = 1 := rfl
      rw [this]
      decide
    rw [h3, e, Bool.and_false]
theorem last_of (x : Str) : x = Str.empty ∨ ∃ (z : Str) (c : Nat), x = z ++ ⟨#[c]⟩ := by
  cases e : (TL.tl x).reverse with
  | nil =>
    left
    refine TL.ext_tl ?_
    rw [List.reverse_eq_nil_iff.mp e]
    rfl
  | cons c r =>
    right
    refine ⟨⟨r.reverse.toArray⟩, c, TL.ext_tl ?_⟩
    rw [TL.tl_append, ← List.reverse_reverse (TL.tl x), e, List.reverse_cons]
def readR (x : Str) : Nat ⊕ D :=
  if Txt.endswith x "\n" = true then
    match Txt.split (cutS x none (some (-1))) "\n" with
    | [] => .inl 0
    | l0 :: ls => match cupsV l0 with
      | none => .inl 1
      | some c => match firstNon (ls.map fun l => oWheel (wheelV l)) 0 with
        | some j => .inl (j + 2)
        | none => if boardB (.tup [.tup (ls.map fun l => oWheel (wheelV l)), .int c]) = true then .inr (.tup [.tup (ls.map fun l => oWheel (wheelV l)), .int c]) else .inl (ls.length + 2)
  else .inl 0
def outR (r : Nat ⊕ D) (M : Mem) : Res D := match r with
  | .inl n => .exc 19 (fsText (n : Int)) M
  | .inr d => .ok d M
def dueR : Nat ⊕ D → D
  | .inl n => .tup [.str "text", .int (n : Int)]
  | .inr d => .tup [.str "told", d]
theorem firstNon_any {ds : List D} : ∀ {n : Nat}, (firstNon ds n).isSome = ds.any isNon := by
  induction ds with
  | nil => intro n; rfl
  | cons d ds ih =>
    intro n
    rw [List.any_cons]
    unfold firstNon
    cases isNon d with
    | true => rfl
    | false => exact ih
theorem firstNon_lt {ds : List D} : ∀ {n j : Nat}, firstNon ds n = some j → j < n + ds.length := by
  induction ds with
  | nil => intro n j h; cases h
  | cons d ds ih =>
    intro n j h
    unfold firstNon at h
    split at h
    · cases h
      rw [List.length_cons]
      omega
    · have := ih h
      rw [List.length_cons]
      omega
theorem firstNon_shift {ds : List D} : ∀ {n : Nat}, firstNon ds (n + 1) = (firstNon ds n).map (· + 1) := by
  induction ds with
  | nil => intro n; rfl
  | cons d ds ih =>
    intro n
    unfold firstNon
    split
    · rfl
    · exact ih
theorem oWheel_lk (o : Option (List (List Int))) : LK (oWheel o) 2 := by
  cases o with
  | none => exact LK.non.less (by decide)
  | some s => exact LK.wheel s
theorem oWheel_nt (o : Option (List (List Int))) : NT (oWheel o) := by
  cases o with
  | none => exact .inl rfl
  | some s => exact .inr (.inl ⟨_, rfl⟩)
theorem oWheel_dok (o : Option (List (List Int))) : (oWheel o).dok = true := by
  cases o with
  | none => rfl
  | some s =>
    have h : ∀ (l : List Int), D.dokA (l.map D.int) = true := fun l => by induction l with
      | nil => rfl
      | cons a l ih => simpa [D.dokA, D.dok] using ih
    have h2 : ∀ (l : List (List Int)), D.dokA (l.map stepT) = true := fun l => by induction l with
      | nil => rfl
      | cons a l ih =>
        show (D.dokA (a.map D.int) && D.dokA (l.map stepT)) = true
        rw [h, ih]
        rfl
    exact h2 s
theorem board_dok (ls : List Str) (c : Int) : (D.tup [.tup (ls.map fun l => oWheel (wheelV l)), .int c]).dok = true := by
  have h : ∀ ls : List Str, D.dokA (ls.map fun l => oWheel (wheelV l)) = true := fun ls => by induction ls with
    | nil => rfl
    | cons a l ih =>
      show ((oWheel (wheelV a)).dok && D.dokA (l.map fun l => oWheel (wheelV l))) = true
      rw [oWheel_dok, ih]
      rfl
  show (D.dokA (ls.map fun l => oWheel (wheelV l)) && (true && true)) = true
  rw [h]
  rfl
theorem cut_asc {B : Nat} {lo hi : Option Int} (h : Asc B x) : Asc B (cutS x lo hi) := ⟨fun k hk => h.1 k (by
  unfold cutS at hk
  exact List.mem_of_mem_drop (List.mem_of_mem_take hk)), Nat.le_trans (cutS_length _ _ _) h.2⟩
theorem isStr_ev {s : Str} (hv : fVar 0 σ M = .ok (.str s) M) : fTest (fCall (gIsi .str) (fCons (fVar 0) (fCons (fC (.adr (.ty "str"))) fNil))) σ M = .ok true M := test_ev ((call2_ev hv rfl).trans rfl)
theorem slS_ev {B : Nat} {fe : F D} (hv : fe σ M = .ok (.str x) M) (hx : Asc B x) (hB : B ≤ 200000) : fSlS fe fNoPart (fPart (fUn gNeg (fC (.int 1)))) σ M = .ok (.str (cutS x none (some (-1)))) M := by
  show Res.bind (fe σ M) _ = _
  rw [hv, bind_ok]
  show (if few x.length = true then Res.ok (D.str (cutS x none (some (-1)))) M else .bad) = _
  rw [if_pos (ok_few (by rw [sizeLine_eq]; have := hx.2; omega))]
theorem raise_ev {f : F (List D)} {i : Int} (h : f σ M = .ok [.int i] M) (hi : i.natAbs < 2 ^ 100) : sRaiseT f σ M = .exc 19 (fsText i) σ M := by
  unfold sRaiseT
  rw [h]
  exact if_pos (decide_eq_true hi)
theorem few100 {i : Nat} (h : i ≤ 1000000) : ((i : Int)).natAbs < 2 ^ 100 := by
  rw [Int.natAbs_natCast]
  exact Nat.lt_of_le_of_lt h (by decide)
theorem sif_exc {g : F Bool} {a b : FS} {c : Nat} {fs : List (Str × D)} (h : g σ M = .ok true M) (ha : a σ M = .exc c fs σ M) : sIf g a b σ M = .exc c fs σ M := by
  rw [sif_ev h, if_pos rfl, ha]
theorem ends_ev {fe : F D} (hv : fe σ M = .ok (.str x) M) : fTest (fM1 gEndsw fe (fC (.str "\n"))) σ M = .ok (Txt.endswith x "\n") M := by
  refine test_ev ?_
  rw [ev_m1 (x := .str x) hv rfl (y := .str "\n") (M2 := M) rfl]
  rfl
def rb3 : FS := (sSeq (sIf (fTest (fBin (gIsN false) (fVar 2) (fC .non)))
  (sRaiseT (fCons (fC (.int 1)) fNil))
  sNext)
  (sSeq (sSet 3 (fTrim (fCompC (fIter (fSl (fVar 1) (fPart (fC (.int 1))) fNoPart)) [5] (.name 5) fYes (fCall m_read_wheel (fCons (fVar 5) fNil)))))
  (sSeq (sIf (fTest (fBin gInD (fC .non) (fVar 3)))
  (sRaiseT (fCons (fBin gAdd (fMeth gIndexD (fVar 3) (fCons (fC .non) fNil)) (fC (.int 2))) fNil))
  sNext)
  (sSeq (sSet 4 (fTup (fCons (fCall gTuple (fCons (fVar 3) fNil)) (fCons (fVar 2) fNil))))
  (sSeq (sIf (fNotT (fTest (fCall m_is_board (fCons (fVar 4) fNil))))
  (sRaiseT (fCons (fBin gAdd (fCall gLen (fCons (fVar 1) fNil)) (fC (.int 1))) fNil))
  sNext)
  (sRet (fVar 4)))))))
def rb2 : FS := (sSeq (sSet 2 (fCall m_read_cups (fCons (fBin gIx (fVar 1) (fC (.int 0))) fNil))) rb3)
theorem rb_body : b_read_board_ba71bd = (sSeq (sIf (fOrT (fNotT (fTest (fCall (gIsi .str) (fCons (fVar 0) (fCons (fC (.adr (.ty "str"))) fNil))))) (fNotT (fTest (fM1 gEndsw (fVar 0) (fC (.str "\n"))))))
  (sRaiseT (fCons (fC (.int 0)) fNil))
  sNext) (sSeq (sSet 1 (fM1 gSplit (fSlS (fVar 0) fNoPart (fPart (fUn gNeg (fC (.int 1))))) (fC (.str "\n")))) rb2)) := rfl
theorem m_read_text {B : Nat} (hw : Wf M) (hx : Asc B x) (hB : B ≤ 200000) : m_read_board_ba71bd [.str x] M = outR (readR x) M := by
  have t0 := isStr_ev (σ := startA 6 [.str x]) (M := M) (s := x) (var_ev rfl)
  have t1 := ends_ev (σ := startA 6 [.str x]) (M := M) (fe := fVar 0) (x := x) (var_ev rfl)
  have tc := or_ev (not_ev t0) fun _ => not_ev t1
  have exc : ∀ {n : Nat} {σ1 : Sa}, b_read_board_ba71bd (startA 6 [.str x]) M = .exc 19 (fsText (n : Int)) σ1 M → m_read_board_ba71bd [.str x] M = outR (.inl n) M := fun h => (run_exc (n := 6) (k := 1) (b := b_read_board_ba71bd) (ds := [.str x]) rfl h).trans (trim_exc rfl)
  unfold readR
  cases he : Txt.endswith x "\n" with
  | false =>
    rw [he] at tc
    rw [if_neg (by decide)]
    exact exc (n := 0) (seq_exc (sif_exc tc (raise_ev rfl (by decide))))
  | true =>
    rw [he] at tc
    rw [if_pos rfl]
    have hc := cut_asc (lo := none) (hi := some (-1)) hx
    have hsl : fSlS (fVar 0) fNoPart (fPart (fUn gNeg (fC (.int 1)))) (startA 6 [.str x]) M = .ok (.str (cutS x none (some (-1)))) M := slS_ev (var_ev rfl) hx hB
    have hsp : fM1 gSplit (fSlS (fVar 0) fNoPart (fPart (fUn gNeg (fC (.int 1))))) (fC (.str "\n")) (startA 6 [.str x]) M = .ok (.lst ((Txt.split (cutS x none (some (-1))) "\n").map D.str)) M := split_any one_line hsl hc hB
    have hA := split_asc one_line hc
    obtain ⟨hL, hne⟩ := split_len one_line hc
    generalize Txt.split (cutS x none (some (-1))) "\n" = ps at hA hL hne hsp ⊢
    cases ps with
    | nil => exact absurd rfl hne
    | cons l0 ls =>
      rw [List.length_cons] at hL
      have g0 := seq_nx (s2 := (sSeq (sSet 1 (fM1 gSplit (fSlS (fVar 0) fNoPart (fPart (fUn gNeg (fC (.int 1))))) (fC (.str "\n")))) rb2)) (pass9 (s1 := sRaiseT (fCons (fC (.int 0)) fNil)) tc)
      have s1 : sSet 1 (fM1 gSplit (fSlS (fVar 0) fNoPart (fPart (fUn gNeg (fC (.int 1))))) (fC (.str "\n"))) (startA 6 [.str x]) M = .ok (.nx [some (.str x), some (.lst ((l0 :: ls).map D.str)), none, none, none, none]) M := (set_ev hsp).trans rfl
      have s2 : sSet 2 (fCall m_read_cups (fCons (fBin gIx (fVar 1) (fC (.int 0))) fNil)) [some (.str x), some (.lst ((l0 :: ls).map D.str)), none, none, none, none] M = .ok (.nx [some (.str x), some (.lst ((l0 :: ls).map D.str)), some (oInt (cupsV l0)), none, none, none]) M := (set_ev ((call1_ev (a := .str l0) ((bin_ev (a := .lst ((l0 :: ls).map D.str)) (b := .int 0) (var_ev rfl) rfl).trans ix_hd)).trans (m_read_cups_any hw (hA l0 (by simp)).1 hB))).trans rfl
      have body : ∀ {r : RS}, rb3 [some (.str x), some (.lst ((l0 :: ls).map D.str)), some (oInt (cupsV l0)), none, none, none] M = r → b_read_board_ba71bd (startA 6 [.str x]) M = r := fun h => by
        rw [rb_body]
        exact g0.trans ((seq_nx s1).trans ((seq_nx s2).trans h))
      dsimp only
      cases hcu : cupsV l0 with
      | none =>
        rw [hcu] at body
        exact exc (n := 1) (body (seq_exc (sif_exc rfl (raise_ev rfl (by decide)))))
      | some c =>
        rw [hcu] at body
        dsimp only
        have hi : fIter (fSl (fVar 1) (fPart (fC (.int 1))) fNoPart) [some (.str x), some (.lst ((l0 :: ls).map D.str)), some (oInt (some c)), none, none, none] M = .ok ⟨(ls.map fun l => D.str l).map Im.d, fun _ => true⟩ M := by
          rw [ev_iter, sl_dropL (k := 1) (d := .lst ((l0 :: ls).map D.str)) (ds := (l0 :: ls).map D.str) (var_ev rfl) rfl rfl, bind_ok]
          rfl
        have c1 := comp_map (σ := [some (.str x), some (.lst ((l0 :: ls).map D.str)), some (oInt (some c)), none, none, none]) (M := M) (fi := fIter (fSl (fVar 1) (fPart (fC (.int 1))) fNoPart)) (i := 5) (e := fCall m_read_wheel (fCons (fVar 5) fNil)) ls (fun l => .str l) (fun l => oWheel (wheelV l)) hi hw (by omega) (fun l hl => ⟨oWheel_und, fun M' w' => (call1_ev (var_ev rfl)).trans (m_read_wheel_any w' (hA l (List.mem_cons_of_mem _ hl)).1 hB)⟩)
        have s5 : sSet 3 (fTrim (fCompC (fIter (fSl (fVar 1) (fPart (fC (.int 1))) fNoPart)) [5] (.name 5) fYes (fCall m_read_wheel (fCons (fVar 5) fNil)))) [some (.str x), some (.lst ((l0 :: ls).map D.str)), some (oInt (some c)), none, none, none] M = .ok (.nx [some (.str x), some (.lst ((l0 :: ls).map D.str)), some (oInt (some c)), some (.lst (ls.map fun l => oWheel (wheelV l))), none, none]) M := (set_ev c1).trans rfl
        have lk : ∀ d ∈ ls.map fun l => oWheel (wheelV l), LK d 2 := fun d hd => by
          obtain ⟨l, _, rfl⟩ := List.mem_map.mp hd
          exact oWheel_lk _
        have nt : ∀ d ∈ ls.map fun l => oWheel (wheelV l), NT d := fun d hd => by
          obtain ⟨l, _, rfl⟩ := List.mem_map.mp hd
          exact oWheel_nt _
        have t6 : fTest (fBin gInD (fC .non) (fVar 3)) [some (.str x), some (.lst ((l0 :: ls).map D.str)), some (oInt (some c)), some (.lst (ls.map fun l => oWheel (wheelV l))), none, none] M = .ok (firstNon (ls.map fun l => oWheel (wheelV l)) 0).isSome M := test_ev ((bin_ev (a := .non) rfl (var_ev rfl)).trans ((in_noneD lk nt (by decide)).trans (by rw [firstNon_any])))
        have hd := board_dok ls c
        have hlen : (ls.map fun l => oWheel (wheelV l)).length = ls.length := List.length_map _
        generalize hW : (ls.map fun l => oWheel (wheelV l)) = W at *
        have p4 := pass9 (s1 := sRaiseT (fCons (fC (.int 1)) fNil)) (σ := [some (.str x), some (.lst ((l0 :: ls).map D.str)), some (oInt (some c)), none, none, none]) (M := M) (ga := fTest (fBin (gIsN false) (fVar 2) (fC .non))) rfl
        cases hf : firstNon W 0 with
        | some j =>
          rw [hf] at t6
          have hj := firstNon_lt hf
          have ei : fMeth gIndexD (fVar 3) (fCons (fC .non) fNil) [some (.str x), some (.lst ((l0 :: ls).map D.str)), some (oInt (some c)), some (.lst W), none, none] M = .ok (.int (j : Int)) M := by
            rw [ev_meth, var_ev (d := .lst W) rfl, bind_ok, if_pos (show isL M (D.lst W) = true from rfl)]
            show gIndexD (.lst W) [.non] M = _
            exact index_none lk nt (by decide) hf
          refine exc (n := j + 2) (body ((seq_nx p4).trans ((seq_nx s5).trans (seq_exc (sif_exc t6 (raise_ev ?_ (few100 (i := j + 2) (by omega))))))))
          rw [ev_cons, (bin_ev (b := .int 2) ei rfl).trans gAdd_int, bind_ok, ev_nil, bind_ok]
          rfl
        | none =>
          rw [hf] at t6
          dsimp only
          have s7 : sSet 4 (fTup (fCons (fCall gTuple (fCons (fVar 3) fNil)) (fCons (fVar 2) fNil))) [some (.str x), some (.lst ((l0 :: ls).map D.str)), some (oInt (some c)), some (.lst W), none, none] M = .ok (.nx [some (.str x), some (.lst ((l0 :: ls).map D.str)), some (oInt (some c)), some (.lst W), some (.tup [.tup W, .int c]), none]) M := (set_ev (d := .tup [.tup W, .int c]) (M1 := M) (tup2_ev (a := .tup W) (b := .int c) ((call1_ev (a := .lst W) (var_ev rfl)).trans gTuple_lst) (var_ev rfl))).trans rfl
          have t8 : fTest (fCall m_is_board (fCons (fVar 4) fNil)) [some (.str x), some (.lst ((l0 :: ls).map D.str)), some (oInt (some c)), some (.lst W), some (.tup [.tup W, .int c]), none] M = .ok (boardB (.tup [.tup W, .int c])) M := test_ev ((call1_ev (var_ev rfl)).trans (m_is_board_eq hd hw))
          cases hb : boardB (.tup [.tup W, .int c]) with
          | true =>
            rw [hb] at t8
            rw [if_pos rfl]
            refine (run_rt (n := 6) (k := 1) (b := b_read_board_ba71bd) (ds := [.str x]) (d := .tup [.tup W, .int c]) rfl (body ((seq_nx p4).trans ((seq_nx s5).trans ((seq_nx (pass9 t6)).trans ((seq_nx s7).trans ((seq_nx (pass9 (not_ev t8))).trans (ret_ev (var_ev rfl))))))))).trans (trim_self hw ?_)
            rw [← hW]
            show (D.undA _ (ls.map fun l => oWheel (wheelV l)) && _) = true
            rw [undA_of fun d hd => by
              obtain ⟨l, _, rfl⟩ := List.mem_map.mp hd
              exact oWheel_und]
            rfl
          | false =>
            rw [hb] at t8
            rw [if_neg (by decide)]
            refine exc (n := ls.length + 2) (body ((seq_nx p4).trans ((seq_nx s5).trans ((seq_nx (pass9 t6)).trans ((seq_nx s7).trans (seq_exc (sif_exc (not_ev t8) (raise_ev ?_ (few100 (i := ls.length + 2) (by omega))))))))))
            rw [ev_cons, (bin_ev (a := .int ((l0 :: ls).length : Int)) (b := .int 1) ((call1_ev (a := .lst ((l0 :: ls).map D.str)) (var_ev rfl)).trans (by rw [gLen_lst, List.length_map])) rfl).trans gAdd_int, bind_ok, ev_nil, bind_ok, List.length_cons]
            show Res.ok [D.int ((ls.length + 1 : Nat) + 1)] M = Res.ok [D.int ((ls.length + 2 : Nat))] M
            congr 2
def prs : Int → List Str → List (Int × Str)
  | _, [] => []
  | k, l :: ls => (k, l) :: prs (k + 1) ls
theorem enum_prs : ∀ (ls : List Str) (k : Int), enumI k (ls.map D.str) = (prs k ls).map fun p => Im.pr [.int p.1, .str p.2]
  | [], _ => rfl
  | l :: ls, k => by
    rw [List.map_cons, enumI, enum_prs ls (k + 1)]
    rfl
theorem prs_mem : ∀ (ls : List Str) (k : Int) (p : Int × Str), p ∈ prs k ls → p.2 ∈ ls
  | [], _, p, h => by cases h
  | l :: ls, k, p, h => by
    rcases List.mem_cons.mp h with rfl | h
    · exact List.mem_cons_self
    · exact List.mem_cons_of_mem _ (prs_mem ls _ p h)
theorem prs_len : ∀ (ls : List Str) (k : Int), (prs k ls).length = ls.length
  | [], _ => rfl
  | l :: ls, k => congrArg (· + 1) (prs_len ls (k + 1))
def lineD (p : Int × Str) : D := if p.1 = 0 then oInt (cupsV p.2) else oWheel (wheelV p.2)
theorem prs_lines : ∀ (ls : List Str) (k : Int), 1 ≤ k → (prs k ls).map lineD = ls.map fun l => oWheel (wheelV l)
  | [], _, _ => rfl
  | l :: ls, k, hk => by
    show lineD (k, l) :: (prs (k + 1) ls).map lineD = _
    rw [prs_lines ls (k + 1) (by omega)]
    show (if k = 0 then _ else _) :: _ = _
    rw [if_neg (by omega)]
    rfl
theorem m_law_read_text {B : Nat} (hw : Wf M) (hx : Asc B x) (hB : B ≤ 200000) : m_law_read_1c5c72 [.str x] M = .ok (dueR (readR x)) M := by
  have t0 := isStr_ev (σ := startA 6 [.str x]) (M := M) (s := x) (var_ev rfl)
  have onl : PyData.strOk ("\n" : Str) = true := strOk_of (by decide)
  have oem : PyData.strOk ("" : Str) = true := strOk_of (by decide)
  have fin : ∀ {d : D}, d.und M.length = true → b_law_read_1c5c72 (startA 6 [.str x]) M = .ok (.rt d) M → m_law_read_1c5c72 [.str x] M = .ok d M := fun hd h => (run_rt (n := 6) (k := 1) (b := b_law_read_1c5c72) (ds := [.str x]) rfl h).trans (trim_self hw hd)
  have te : fTest (fBin (gEq false) (fVar 0) (fC (.str ""))) (startA 6 [.str x]) M = .ok (x == "") M := test_ev ((bin_ev (b := .str "") (var_ev rfl) rfl).trans (gEq_str hx.ok oem))
  have tc : fOrT (fNotT (fTest (fCall (gIsi .str) (fCons (fVar 0) (fCons (fC (.adr (.ty "str"))) fNil))))) (fOrT (fTest (fBin (gEq false) (fVar 0) (fC (.str "")))) (fTest (fBin (gEq true) (fBin gIx (fVar 0) (fUn gNeg (fC (.int 1)))) (fC (.str "\n"))))) (startA 6 [.str x]) M = .ok (!Txt.endswith x "\n") M := by
    rcases last_of x with rfl | ⟨z, c, rfl⟩
    · refine (or_ev (not_ev t0) fun _ => or_ev (q := false) te fun h => by
        have : ((Str.empty : Str) == "") = true := by decide
        rw [this] at h
        cases h).trans ?_
      have h1 : ((Str.empty : Str) == "") = true := by decide
      have h2 : Txt.endswith Str.empty "\n" = false := by decide +kernel
      rw [h1, h2]
      rfl
    · have hne : ((z ++ (⟨#[c]⟩ : Str)) == "") = false := by
        rw [beq_eq_false_iff_ne]
        intro h
        have := congrArg TL.tl h
        rw [TL.tl_append] at this
        have h3 : TL.tl ("" : Str) = [] := by decide
        rw [h3] at this
        simp [TL.tl] at this
      have hc : c < 128 := hx.1 c (by rw [TL.tl_append]; simp [TL.tl])
      have hix : gIx (.str (z ++ (⟨#[c]⟩ : Str))) (.int (-1)) M = .ok (.str ⟨#[c]⟩) M := by
        have e : gIx (.str (z ++ (⟨#[c]⟩ : Str))) (.int (-1)) M = if few (z ++ (⟨#[c]⟩ : Str)).length = true then (match atI (z ++ (⟨#[c]⟩ : Str)).cps.toList (-1) with | some c => .ok (.str ⟨#[c]⟩) M | none => .bad) else .bad := rfl
        have ea : atI (z ++ (⟨#[c]⟩ : Str)).cps.toList (-1) = some c := by
          rw [show (z ++ (⟨#[c]⟩ : Str)).cps.toList = TL.tl z ++ [c] from TL.tl_append _ _]
          exact atI_last
        rw [e, if_pos (ok_few (by rw [sizeLine_eq]; have := hx.2; omega)), ea]
      have tl : fTest (fBin (gEq true) (fBin gIx (fVar 0) (fUn gNeg (fC (.int 1)))) (fC (.str "\n"))) (startA 6 [.str (z ++ (⟨#[c]⟩ : Str))]) M = .ok (!((⟨#[c]⟩ : Str) == "\n")) M := test_ev ((bin_ev (a := .str ⟨#[c]⟩) (b := .str "\n") ((bin_ev (a := .str (z ++ (⟨#[c]⟩ : Str))) (b := .int (-1)) (var_ev rfl) rfl).trans hix) rfl).trans (gEq_str (asc_one hc) onl))
      refine (or_ev (not_ev t0) fun _ => or_ev te fun _ => tl).trans ?_
      rw [hne, PySem.W.KAf.ends_right (a := z) (y := (⟨#[c]⟩ : Str)) (d := "\n") (by have h1 : (⟨#[c]⟩ : Str).length = 1 := rfl; rw [h1]; decide), ends_one]
      have h10 : ((⟨#[c]⟩ : Str) == "\n") = decide (c = 10) := by
        by_cases h : c = 10
        · subst h
          decide
        · rw [decide_eq_false h, beq_eq_false_iff_ne]
          intro q
          have := congrArg TL.tl q
          rw [show TL.tl ("\n" : Str) = [10] by decide] at this
          exact h (by simpa [TL.tl] using this)
      rw [h10]
      rfl
  unfold readR
  cases he : Txt.endswith x "\n" with
  | false =>
    rw [he] at tc
    rw [if_neg (by decide)]
    exact fin rfl (seq_rt ((sif_ev tc).trans rfl))
  | true =>
    rw [he] at tc
    rw [if_pos rfl]
    have hc := cut_asc (lo := none) (hi := some (-1)) hx
    have hsl : fSlS (fVar 0) fNoPart (fPart (fUn gNeg (fC (.int 1)))) (startA 6 [.str x]) M = .ok (.str (cutS x none (some (-1)))) M := slS_ev (var_ev rfl) hx hB
    have hsp : fM1 gSplit (fSlS (fVar 0) fNoPart (fPart (fUn gNeg (fC (.int 1))))) (fC (.str "\n")) (startA 6 [.str x]) M = .ok (.lst ((Txt.split (cutS x none (some (-1))) "\n").map D.str)) M := split_any one_line hsl hc hB
    have hA := split_asc one_line hc
    obtain ⟨hL, hne⟩ := split_len one_line hc
    generalize Txt.split (cutS x none (some (-1))) "\n" = ps at hA hL hne hsp ⊢
    cases ps with
    | nil => exact absurd rfl hne
    | cons l0 ls =>
      rw [List.length_cons] at hL
      have s1 : sSet 1 (fM1 gSplit (fSlS (fVar 0) fNoPart (fPart (fUn gNeg (fC (.int 1))))) (fC (.str "\n"))) (startA 6 [.str x]) M = .ok (.nx [some (.str x), some (.lst ((l0 :: ls).map D.str)), none, none, none, none]) M := (set_ev hsp).trans rfl
      have hi : fIt gEnum (fCons (fVar 1) fNil) [some (.str x), some (.lst ((l0 :: ls).map D.str)), none, none, none, none] M = .ok ⟨(prs 0 (l0 :: ls)).map fun p => Im.pr [.int p.1, .str p.2], fun _ => true⟩ M := by
        rw [← enum_prs]
        rfl
      have c1 := comp_mapI (σ := [some (.str x), some (.lst ((l0 :: ls).map D.str)), none, none, none, none]) (M := M) (vs := [4, 5]) (t := .tup [4, 5]) (e := fCall m_law_line_in_a53ef1 (fCons (fVar 5) (fCons (fBin gAdd (fVar 4) (fC (.int 1))) fNil))) (prs 0 (l0 :: ls)) (fun p => Im.pr [.int p.1, .str p.2]) lineD hi hw (by rw [prs_len, List.length_cons]; omega) (fun p hp => ⟨by
        unfold lineD
        split
        · exact oInt_und
        · exact oWheel_und, _, rfl, fun M' w' => by
        refine (call2_ev (a := .str p.2) (b := .int (p.1 + 1)) (var_ev rfl) ((bin_ev (a := .int p.1) (b := .int 1) (var_ev rfl) rfl).trans gAdd_int)).trans ?_
        have ha := (hA p.2 (prs_mem _ _ p hp)).1
        unfold lineD
        split
        · rename_i h0
          rw [h0]
          exact m_line_one w' ha hB
        · rename_i h0
          exact m_line_more w' ha hB (by omega)⟩)
      have el : (prs 0 (l0 :: ls)).map lineD = oInt (cupsV l0) :: ls.map fun l => oWheel (wheelV l) := by
        show lineD (0, l0) :: (prs (0 + 1) ls).map lineD = _
        rw [prs_lines ls _ (by decide)]
        rfl
      rw [el] at c1
      have s2 : sSet 2 (fTrim (fCompC (fIt gEnum (fCons (fVar 1) fNil)) [4, 5] (.tup [4, 5]) fYes (fCall m_law_line_in_a53ef1 (fCons (fVar 5) (fCons (fBin gAdd (fVar 4) (fC (.int 1))) fNil))))) [some (.str x), some (.lst ((l0 :: ls).map D.str)), none, none, none, none] M = .ok (.nx [some (.str x), some (.lst ((l0 :: ls).map D.str)), some (.lst (oInt (cupsV l0) :: ls.map fun l => oWheel (wheelV l))), none, none, none]) M := (set_ev c1).trans rfl
      have lk : ∀ d ∈ oInt (cupsV l0) :: ls.map fun l => oWheel (wheelV l), LK d 2 := fun d hd => by
        rcases List.mem_cons.mp hd with rfl | hd
        · exact (oInt_lk _).less (by decide)
        · obtain ⟨l, _, rfl⟩ := List.mem_map.mp hd
          exact oWheel_lk _
      have nt : ∀ d ∈ oInt (cupsV l0) :: ls.map fun l => oWheel (wheelV l), NT d := fun d hd => by
        rcases List.mem_cons.mp hd with rfl | hd
        · exact oInt_nt _
        · obtain ⟨l, _, rfl⟩ := List.mem_map.mp hd
          exact oWheel_nt _
      have hdk : ∀ c, (D.tup [.tup (ls.map fun l => oWheel (wheelV l)), .int c]).dok = true := board_dok ls
      have hlen : (ls.map fun l => oWheel (wheelV l)).length = ls.length := List.length_map _
      have hund : ∀ n, D.undA n (ls.map fun l => oWheel (wheelV l)) = true := fun n => undA_of fun d hd => by
        obtain ⟨l, _, rfl⟩ := List.mem_map.mp hd
        exact oWheel_und
      clear el
      dsimp only
      generalize (ls.map fun l => oWheel (wheelV l)) = W at lk nt hdk hlen hund c1 s2 ⊢
      have t3 : fTest (fBin gInD (fC .non) (fVar 2)) [some (.str x), some (.lst ((l0 :: ls).map D.str)), some (.lst (oInt (cupsV l0) :: W)), none, none, none] M = .ok (firstNon (oInt (cupsV l0) :: W) 0).isSome M := test_ev ((bin_ev (a := .non) rfl (var_ev rfl)).trans ((in_noneD lk nt (by decide)).trans (by rw [firstNon_any])))
      have bad : ∀ {j : Nat}, firstNon (oInt (cupsV l0) :: W) 0 = some j → m_law_read_1c5c72 [.str x] M = .ok (dueR (.inl (j + 1))) M := fun {j} hf => by
        rw [hf] at t3
        have ei : fMeth gIndexD (fVar 2) (fCons (fC .non) fNil) [some (.str x), some (.lst ((l0 :: ls).map D.str)), some (.lst (oInt (cupsV l0) :: W)), none, none, none] M = .ok (.int (j : Int)) M := by
          rw [ev_meth, var_ev (d := .lst (oInt (cupsV l0) :: W)) rfl, bind_ok, if_pos (show isL M (D.lst (oInt (cupsV l0) :: W)) = true from rfl)]
          show gIndexD (.lst (oInt (cupsV l0) :: W)) [.non] M = _
          exact index_none lk nt (by decide) hf
        refine fin rfl ((seq_nx (pass9 tc)).trans ((seq_nx s1).trans ((seq_nx s2).trans (seq_rt ((sif_ev t3).trans (ret_ev ?_))))))
        exact tup2_ev (a := .str "text") (b := .int ((j + 1 : Nat) : Int)) rfl ((bin_ev (b := .int 1) ei rfl).trans gAdd_int)
      cases hcu : cupsV l0 with
      | none =>
        rw [hcu] at bad
        exact bad (j := 0) rfl
      | some c =>
        rw [hcu] at bad t3 s2
        dsimp only
        have hsh : firstNon (oInt (some c) :: W) 0 = (firstNon W 0).map (· + 1) := firstNon_shift (n := 0)
        rw [hsh] at t3 bad
        cases hf : firstNon W 0 with
        | some j =>
          rw [hf] at bad
          exact bad (j := j + 1) rfl
        | none =>
          rw [hf] at t3
          dsimp only
          have s4 : sSet 3 (fTup (fCons (fCall gTuple (fCons (fSl (fVar 2) (fPart (fC (.int 1))) fNoPart) fNil)) (fCons (fBin gIx (fVar 2) (fC (.int 0))) fNil))) [some (.str x), some (.lst ((l0 :: ls).map D.str)), some (.lst (oInt (some c) :: W)), none, none, none] M = .ok (.nx [some (.str x), some (.lst ((l0 :: ls).map D.str)), some (.lst (oInt (some c) :: W)), some (.tup [.tup W, .int c]), none, none]) M := (set_ev (d := .tup [.tup W, .int c]) (M1 := M) (tup2_ev (a := .tup W) (b := .int c) ((call1_ev (a := .lst W) (sl_dropL (k := 1) (d := .lst (oInt (some c) :: W)) (ds := oInt (some c) :: W) (var_ev rfl) rfl rfl)).trans gTuple_lst) ((bin_ev (a := .lst (oInt (some c) :: W)) (b := .int 0) (var_ev rfl) rfl).trans ix_hd))).trans rfl
          have t5 : fTest (fCall m_law_is_board_8cfce4 (fCons (fVar 3) fNil)) [some (.str x), some (.lst ((l0 :: ls).map D.str)), some (.lst (oInt (some c) :: W)), some (.tup [.tup W, .int c]), none, none] M = .ok (boardB (.tup [.tup W, .int c])) M := test_ev ((call1_ev (var_ev rfl)).trans (m_is_board82 hw (hdk c)))
          have pre : ∀ {d : D}, d.und M.length = true → fIf (fTest (fCall m_law_is_board_8cfce4 (fCons (fVar 3) fNil))) (fTup (fCons (fC (.str "told")) (fCons (fVar 3) fNil))) (fTup (fCons (fC (.str "text")) (fCons (fBin gAdd (fCall gLen (fCons (fVar 1) fNil)) (fC (.int 1))) fNil))) [some (.str x), some (.lst ((l0 :: ls).map D.str)), some (.lst (oInt (some c) :: W)), some (.tup [.tup W, .int c]), none, none] M = .ok d M → m_law_read_1c5c72 [.str x] M = .ok d M := fun hd h => fin hd ((seq_nx (pass9 tc)).trans ((seq_nx s1).trans ((seq_nx s2).trans ((seq_nx (pass9 t3)).trans ((seq_nx s4).trans (ret_ev h))))))
          cases hb : boardB (.tup [.tup W, .int c]) with
          | true =>
            rw [hb] at t5
            rw [if_pos rfl]
            refine pre (d := .tup [.str "told", .tup [.tup W, .int c]]) ?_ ?_
            · show (true && ((D.undA _ W && _) && true)) = true
              rw [hund]
              rfl
            · rw [ev_if, t5, bind_ok, if_pos rfl]
              exact tup2_ev (a := .str "told") (b := .tup [.tup W, .int c]) rfl (var_ev rfl)
          | false =>
            rw [hb] at t5
            rw [if_neg (by decide)]
            refine pre (d := .tup [.str "text", .int ((ls.length + 2 : Nat) : Int)]) rfl ?_
            rw [ev_if, t5, bind_ok, if_neg (by decide)]
            refine tup2_ev (a := .str "text") (b := .int ((ls.length + 2 : Nat) : Int)) rfl ((bin_ev (a := .int ((l0 :: ls).length : Int)) (b := .int 1) ((call1_ev (a := .lst ((l0 :: ls).map D.str)) (var_ev rfl)).trans (by rw [gLen_lst, List.length_map])) rfl).trans (gAdd_int.trans ?_))
            rw [List.length_cons]
            rfl
end QX
set_option maxRecDepth 100000
set_option maxHeartbeats 1000000
namespace QX
open PySem PySem.Spec PyProof.Rows L2 HX
variable {M : Mem} {σ : Sa} {x y : Str} {n : Int} {p k : Nat} {c : Cell}
theorem Asc.mono {A B : Nat} (h : Asc A x) (hb : A ≤ B) : Asc B x := ⟨h.1, Nat.le_trans h.2 hb⟩
theorem Asc.app {A B : Nat} (h : Asc A x) (g : Asc B y) : Asc (A + B) (x ++ y) := ⟨fun k hk => by
  rw [TL.tl_append] at hk
  rcases List.mem_append.mp hk with h' | h'
  · exact h.1 k h'
  · exact g.1 k h', by rw [len_app]; have := h.2; have := g.2; omega⟩
theorem Asc.join {B s : Nat} {ps : List Str} (hy : One y s) (hs : s < 128) (h : ∀ p ∈ ps, Asc B p) {N : Nat} (hN : (Str.join y ps).length ≤ N) : Asc N (Str.join y ps) := ⟨fun k hk => by
  rw [TL.tl_join, hy.1] at hk
  rcases joinL_mem _ hk with h' | ⟨z, hz, h'⟩
  · rw [List.mem_singleton] at h'
    omega
  · obtain ⟨q, hq, rfl⟩ := List.mem_map.mp hz
    exact (h q hq).1 k h', hN⟩
theorem joinL_sum {s : Nat} : ∀ ps : List (List Nat), (TL.joinL [s] ps).length ≤ (ps.map fun p => p.length + 1).sum
  | [] => by simp [TL.joinL]
  | [a] => by simp [TL.joinL]
  | a :: b :: r => by
    have ih := joinL_sum (s := s) (b :: r)
    rw [List.map_cons, List.sum_cons]
    show (a ++ ([s] ++ TL.joinL [s] (b :: r))).length ≤ _
    simp only [List.length_append, List.length_cons, List.length_nil]
    omega
theorem sum_td {α : Type} (f : α → Nat) : ∀ (l : List α) (k : Nat), ((l.take k).map f).sum + ((l.drop (k + 1)).map f).sum ≤ (l.map f).sum
  | [], k => by simp
  | a :: l, 0 => by
    simp only [List.take_zero, List.map_nil, List.sum_nil, List.drop_succ_cons, List.drop_zero, List.map_cons, List.sum_cons]
    omega
  | a :: l, k + 1 => by
    have := sum_td f l k
    simp only [List.take_succ_cons, List.map_cons, List.sum_cons, List.drop_succ_cons] at this ⊢
    omega
theorem join_sum {s : Nat} {ps : List Str} (hy : One y s) : (Str.join y ps).length ≤ (ps.map fun p => p.length + 1).sum := by
  rw [TL.len_tl, TL.tl_join, hy.1]
  refine Nat.le_trans (joinL_sum _) ?_
  rw [List.map_map]
  refine Nat.le_of_eq ?_
  congr 1
theorem split_sum {s B : Nat} (h : One y s) (hx : Asc B x) : ((Txt.split x y).map fun p => p.length + 1).sum ≤ B + 1 := by
  have hs := spl1_sum (s := s) (TL.tl x) []
  rw [← split_tl (x := x) h, List.map_map] at hs
  have e : ((fun p : List Nat => p.length + 1) ∘ TL.tl) = fun p : Str => p.length + 1 := by
    funext p
    show (TL.tl p).length + 1 = _
    rw [TL.len_tl]
  rw [e] at hs
  have h2 := hx.2
  rw [TL.len_tl] at h2
  simp only [List.length_nil] at hs
  omega
theorem drop_le83 {α : Type} (n : Nat) (l : List α) : (l.drop n).length ≤ l.length := by rw [List.length_drop]; omega
theorem take_le83 {α : Type} (n : Nat) (l : List α) : (l.take n).length ≤ l.length := by rw [List.length_take]; omega
theorem slL_take {fa fb : F D} {ds : List D} {k : Nat} (ha : fa σ M = .ok (.lst ds) M) (hb : fb σ M = .ok (.int (k : Int)) M) : fSl fa fNoPart (fPart fb) σ M = .ok (.lst (ds.take k)) M := by
  rw [ev_sl, ha, bind_ok, ev_nopart, bind_ok, ev_part, hb, bind_ok, bind_ok, ← cut_take]
  rfl
theorem slL_drop {fa fb : F D} {ds : List D} {k : Nat} (ha : fa σ M = .ok (.lst ds) M) (hb : fb σ M = .ok (.int (k : Int)) M) : fSl fa (fPart fb) fNoPart σ M = .ok (.lst (ds.drop k)) M := sl_dropL (d := .lst ds) ha rfl hb
theorem slT_take {fa fb : F D} {ls : List Str} {k : Nat} (ha : fa σ M = .ok (.lst (ls.map D.str)) M) (hb : fb σ M = .ok (.int (k : Int)) M) : fSl fa fNoPart (fPart fb) σ M = .ok (.lst ((ls.take k).map D.str)) M := by
  rw [slL_take ha hb, List.map_take]
theorem slT_drop {fa fb : F D} {ls : List Str} {k : Nat} (ha : fa σ M = .ok (.lst (ls.map D.str)) M) (hb : fb σ M = .ok (.int (k : Int)) M) : fSl fa (fPart fb) fNoPart σ M = .ok (.lst ((ls.drop k).map D.str)) M := by
  rw [slL_drop ha hb, List.map_drop]
theorem succ_ev {fb : F D} {k : Nat} (hb : fb σ M = .ok (.int (k : Int)) M) : fBin gAdd fb (fC (.int 1)) σ M = .ok (.int ((k + 1 : Nat) : Int)) M := (bin_ev (b := .int 1) hb rfl).trans (gAdd_int.trans (by norm_cast))
theorem addL83 {fa fb : F D} {ps qs : List Str} {M1 M2 : Mem} (ha : fa σ M = .ok (.lst (ps.map D.str)) M1) (hb : fb σ M1 = .ok (.lst (qs.map D.str)) M2) (hl : ps.length + qs.length ≤ 1000000) : fBin gAdd fa fb σ M = .ok (.lst ((ps ++ qs).map D.str)) M2 := by
  refine (bin_ev ha hb).trans (gAdd_lst.trans ?_)
  rw [List.length_map, List.length_map, if_pos (ok_few (by rw [sizeLine_eq]; omega)), List.map_append]
theorem addS83 {fa fb : F D} {a b : Str} {A B : Nat} (ha : fa σ M = .ok (.str a) M) (hb : fb σ M = .ok (.str b) M) (hA : Asc A a) (hB : Asc B b) (hl : A + B ≤ 1000000) : fBin gAdd fa fb σ M = .ok (.str (a ++ b)) M := by
  refine (bin_ev ha hb).trans (gAdd_str.trans ?_)
  rw [if_pos (ok_few (by rw [sizeLine_eq]; have := hA.2; have := hB.2; omega))]
theorem slS_lo {fe fb : F D} {z : Int} {B : Nat} (hv : fe σ M = .ok (.str x) M) (hx : Asc B x) (hB : B ≤ 200000) (hb : fb σ M = .ok (.int z) M) : fSlS fe fNoPart (fPart fb) σ M = .ok (.str (cutS x none (some z))) M := by
  show Res.bind (fe σ M) _ = _
  rw [hv, bind_ok, ev_nopart, bind_ok, ev_part, hb, bind_ok, bind_ok]
  show (if few x.length = true then Res.ok (D.str (cutS x none (some z))) M else .bad) = _
  rw [if_pos (ok_few (by rw [sizeLine_eq]; have := hx.2; omega))]
theorem slS_hi {fe fb : F D} {z : Int} {B : Nat} (hv : fe σ M = .ok (.str x) M) (hx : Asc B x) (hB : B ≤ 200000) (hb : fb σ M = .ok (.int z) M) : fSlS fe (fPart fb) fNoPart σ M = .ok (.str (cutS x (some z) none)) M := by
  show Res.bind (fe σ M) _ = _
  rw [hv, bind_ok, ev_part, hb, bind_ok, bind_ok, ev_nopart, bind_ok]
  show (if few x.length = true then Res.ok (D.str (cutS x (some z) none)) M else .bad) = _
  rw [if_pos (ok_few (by rw [sizeLine_eq]; have := hx.2; omega))]
theorem ix_at {fa fb : F D} {ps : List Str} {q : Str} {j : Nat} (ha : fa σ M = .ok (.lst (ps.map D.str)) M) (hb : fb σ M = .ok (.int (j : Int)) M) (hq : ps[j]? = some q) : fBin gIx fa fb σ M = .ok (.str q) M := by
  refine (bin_ev ha hb).trans ?_
  rw [gIx_lst, atI_nn (by omega), Int.toNat_natCast, List.getElem?_map, hq]
  rfl
theorem in12 {z : Int} : ∃ b : Bool, gInT (.int z) (.tup [.int 1, .int 2]) M = .ok (.bl b) M := ⟨_, by
  show (if (SeqAt.shaped (.int z) && SeqAt.shaped (.tuple [.int 1, .int 2])) = true then Res.ok (D.bl _) M else .bad) = _
  rw [if_pos (by simp [SeqAt.shaped, PyData.canLay0, PyData.canLayAll0, PyData.depth, PyData.depthAll])]⟩
theorem joinT {fe : F D} {ps : List Str} {B s N : Nat} {M1 : Mem} (hy : One y s) (hs : s < 128) (he : fe σ M = .ok (.lst (ps.map D.str)) M1) (h : ∀ p ∈ ps, Asc B p) (hn : ps.length * (B + 1) ≤ N) (hN : N ≤ 16777216) : fM1 gJoin (fC (.str y)) fe σ M = .ok (.str (Str.join y ps)) M1 ∧ Asc N (Str.join y ps) := by
  have h1 : y.length = 1 := by rw [TL.len_tl, hy.1]; rfl
  refine ⟨join_ev (B := B) (n := ps.length) he (fun p hp => (h p hp).2) (Nat.le_refl _) (by rw [h1]; omega), Asc.join hy hs h ?_⟩
  have := join_len (y := y) (B := B) ps fun p hp => (h p hp).2
  rw [h1] at this
  omega
def sp_1 : FS := (sPar3 2 3 4 (fCons (fM1 gSplit (fVar 1) (fC (.str "\n"))) (fCons (fCall m_law_draw_321cf4 (fCons (fVar 0) (fCons (fBin gAdd (fCall gLen (fCons (fVar 1) fNil)) (fC (.int 1))) fNil))) (fCons (fCall m_law_draw_321cf4 (fCons (fVar 0) (fCons (fC (.int 8)) fNil))) fNil))))
def sp_2 : FS := (sPar 5 6 (fCons (fBin gIx (fC (.str "0129 ,-\nwc")) (fCall m_law_draw_321cf4 (fCons (fVar 0) (fCons (fC (.int 10)) fNil)))) (fCons (fCall m_law_draw_321cf4 (fCons (fVar 0) (fCons (fCall gLen (fCons (fVar 2) fNil)) fNil))) fNil)))
def sp_3r : F D := (fBin gAdd (fBin gAdd (fSlS (fVar 1) fNoPart (fPart (fVar 3))) (fBin gIx (fLst (fCons (fVar 5) (fCons (fC (.str "")) (fCons (fVar 5) (fCons (fC (.str " ")) fNil))))) (fVar 4))) (fSlS (fVar 1) (fPart (fBin gAdd (fVar 3) (fCall gInt (fCons (fBin gInT (fVar 4) (fTup (fCons (fC (.int 1)) (fCons (fC (.int 2)) fNil)))) fNil)))) fNoPart))
def sp_4l : F D := (fLst (fCons (fBin gAdd (fSl (fVar 2) fNoPart (fPart (fVar 6))) (fSl (fVar 2) (fPart (fBin gAdd (fVar 6) (fC (.int 1)))) fNoPart)) (fCons (fBin gAdd (fSl (fVar 2) fNoPart (fPart (fBin gAdd (fVar 6) (fC (.int 1))))) (fSl (fVar 2) (fPart (fVar 6)) fNoPart)) (fCons (fRevL (fVar 2)) fNil))))
def sp_4r : F D := (fM1 gJoin (fC (.str "\n")) (fBin gIx (fVar 7) (fBin gSub (fVar 4) (fC (.int 4)))))
def sp_5 : FS := (sSeq (sPar 8 9 (fCons (fM1 gSplit (fBin gIx (fVar 2) (fVar 6)) (fC (.str " "))) (fCons (fLst (fCons (fC (.str "")) (fCons (fC (.str "-")) (fCons (fC (.str "0")) (fCons (fC (.str "01")) (fCons (fC (.str "9,9")) (fCons (fC (.str "1234567890123")) (fCons (fC (.str "12345678901234")) (fCons (fC (.str "wheel")) fNil))))))))) fNil)))
  (sSeq (sSet 10 (fCall m_law_draw_321cf4 (fCons (fVar 0) (fCons (fCall gLen (fCons (fVar 8) fNil)) fNil))))
  (sSeq (sSet 11 (fM1 gJoin (fC (.str " ")) (fBin gAdd (fBin gAdd (fSl (fVar 8) fNoPart (fPart (fVar 10))) (fLst (fCons (fBin gIx (fVar 9) (fCall m_law_draw_321cf4 (fCons (fVar 0) (fCons (fC (.int 8)) fNil)))) fNil))) (fSl (fVar 8) (fPart (fBin gAdd (fVar 10) (fC (.int 1)))) fNoPart))))
  (sRet (fM1 gJoin (fC (.str "\n")) (fBin gAdd (fBin gAdd (fSl (fVar 2) fNoPart (fPart (fVar 6))) (fLst (fCons (fVar 11) fNil))) (fSl (fVar 2) (fPart (fBin gAdd (fVar 6) (fC (.int 1)))) fNoPart)))))))
theorem sp_body : b_law_spoilt_0c0464 = (sSeq sp_1 (sSeq sp_2 (sSeq (sIf (fTest (fBin (gCmp cLt) (fVar 4) (fC (.int 4)))) (sRet sp_3r) sNext) (sSeq (sIf (fTest (fBin (gCmp cLt) (fVar 4) (fC (.int 7)))) (sSeq (sSet 7 sp_4l) (sRet sp_4r)) sNext) sp_5)))) := rfl
def odd83 : List Str := ["", "-", "0", "01", "9,9", "1234567890123", "12345678901234", "wheel"]
theorem odd83_asc : ∀ q ∈ odd83, Asc 14 q := by
  intro q hq
  simp only [odd83, List.mem_cons, List.mem_nil_iff, or_false] at hq
  rcases hq with rfl | rfl | rfl | rfl | rfl | rfl | rfl | rfl <;> exact ⟨by decide, by decide⟩
theorem sign83 {z : Int} (h0 : 0 ≤ z) (h1 : z < 10) : ∃ q : Str, gIx (.str "0129 ,-\nwc") (.int z) M = .ok (.str q) M ∧ Asc 1 q := by
  have e : gIx (.str "0129 ,-\nwc") (.int z) M = if few ("0129 ,-\nwc" : Str).length = true then (match atI ("0129 ,-\nwc" : Str).cps.toList z with | some c => .ok (.str ⟨#[c]⟩) M | none => .bad) else .bad := rfl
  have hl : ("0129 ,-\nwc" : Str).cps.toList.length = 10 := by decide
  have ha : ∀ c ∈ ("0129 ,-\nwc" : Str).cps.toList, c < 128 := by decide
  have hz : z.toNat < ("0129 ,-\nwc" : Str).cps.toList.length := by rw [hl]; omega
  refine ⟨⟨#[("0129 ,-\nwc" : Str).cps.toList[z.toNat]]⟩, ?_, fun k hk => ?_, Nat.le_refl 1⟩
  · rw [e, if_pos (by decide), atI_nn h0, List.getElem?_eq_getElem hz]
  · have : k = ("0129 ,-\nwc" : Str).cps.toList[z.toNat] := by simpa [TL.tl] using hk
    rw [this]
    exact ha _ (List.getElem_mem hz)
theorem m_spoilt {t : Str} (hw : Wf M) (hx : M[p]? = some c) (ho : PenOk (k + 6) c) (ht : Asc 253 t) : ∃ t' c', m_law_spoilt_0c0464 [.ref p, .str t] M = .ok (.str t') (M.set p c') ∧ Asc 200000 t' ∧ PenOk k c' := by
  have hp : p < M.length := (List.getElem?_eq_some_iff.mp hx).1
  have hlt : t.length ≤ 200000 := by have := ht.2; omega
  obtain ⟨za, c1, e1, a0, a1, o1⟩ := m_draw_eq (k := k + 5) (n := (t.length : Int) + 1) hx ho (by omega) (by have := ht.2; omega)
  obtain ⟨zw, c2, e2, w0, w1, o2⟩ := m_draw_eq (k := k + 4) (n := 8) (M := M.set p c1) (p := p) (x := c1) (List.getElem?_set_self hp) o1 (by decide) (by decide)
  rw [List.set_set] at e2
  have hsp : fM1 gSplit (fVar 1) (fC (.str "\n")) (startA 12 [.ref p, .str t]) M = .ok (.lst ((Txt.split t "\n").map D.str)) M := split_any one_line (var_ev rfl) ht (by decide)
  have hA := split_asc one_line ht
  obtain ⟨hL, hne⟩ := split_len one_line ht
  generalize Txt.split t "\n" = ls at hA hL hne hsp
  have s1 : sp_1 (startA 12 [.ref p, .str t]) M = .ok (.nx [some (.ref p), some (.str t), some (.lst (ls.map D.str)), some (.int za), some (.int zw), none, none, none, none, none, none, none]) (M.set p c2) := by
    refine (par3_ev (M1 := M) (M2 := M.set p c1) (M3 := M.set p c2) (a := .lst (ls.map D.str)) (b := .int za) (c := .int zw) hsp ((call2_ev (a := .ref p) (b := .int ((t.length : Int) + 1)) (var_ev rfl) ((bin_ev (b := .int 1) (len_ev (var_ev rfl) hlt) rfl).trans gAdd_int)).trans e1) ((call2_ev (a := .ref p) (b := .int 8) (var_ev rfl) rfl).trans e2)).trans ?_
    rfl
  obtain ⟨zs, c3, e3, s0, s1', o3⟩ := m_draw_eq (k := k + 3) (n := 10) (M := M.set p c2) (p := p) (x := c2) (List.getElem?_set_self hp) o2 (by decide) (by decide)
  rw [List.set_set] at e3
  have hl1 : 1 ≤ ls.length := List.length_pos_iff.mpr hne
  obtain ⟨zp, c4, e4, p0, p1, o4⟩ := m_draw_eq (k := k + 2) (n := (ls.length : Int)) (M := M.set p c3) (p := p) (x := c3) (List.getElem?_set_self hp) o3 (by omega) (by omega)
  rw [List.set_set] at e4
  obtain ⟨sg, eg, hsg⟩ := sign83 (M := M.set p c3) s0 s1'
  obtain ⟨spot, rfl⟩ := Int.eq_ofNat_of_zero_le p0
  have hspot : spot < ls.length := by omega
  have s2 : sp_2 [some (.ref p), some (.str t), some (.lst (ls.map D.str)), some (.int za), some (.int zw), none, none, none, none, none, none, none] (M.set p c2) = .ok (.nx [some (.ref p), some (.str t), some (.lst (ls.map D.str)), some (.int za), some (.int zw), some (.str sg), some (.int (spot : Int)), none, none, none, none, none]) (M.set p c4) := by
    refine (par_ev (M1 := M.set p c3) (M2 := M.set p c4) (a := .str sg) (b := .int (spot : Int)) ((bin_ev (a := .str "0129 ,-\nwc") (b := .int zs) rfl ((call2_ev (a := .ref p) (b := .int 10) (var_ev rfl) rfl).trans e3)).trans eg) ((call2_ev (a := .ref p) (b := .int (ls.length : Int)) (var_ev rfl) ((call1_ev (a := .lst (ls.map D.str)) (var_ev rfl)).trans (by rw [gLen_lst, List.length_map]))).trans e4)).trans ?_
    rfl
  have hs : Has [some (.ref p), some (.str t), some (.lst (ls.map D.str)), some (.int za), some (.int zw), some (.str sg), some (.int (spot : Int)), none, none, none, none, none] 12 [(0, .ref p), (1, .str t), (2, .lst (ls.map D.str)), (3, .int za), (4, .int zw), (5, .str sg), (6, .int (spot : Int))] := ⟨rfl, fun q hq => by
    simp only [List.mem_cons, List.mem_nil_iff, or_false] at hq
    rcases hq with rfl | rfl | rfl | rfl | rfl | rfl | rfl <;> rfl⟩
  generalize [some (D.ref p), some (.str t), some (.lst (ls.map D.str)), some (.int za), some (.int zw), some (.str sg), some (.int (spot : Int)), none, none, none, none, none] = σ2 at s2 hs
  have hw4 : Wf (M.set p c4) := wf_set hw o4
  have fin : ∀ {t' : Str} {c' : Cell}, (sSeq (sIf (fTest (fBin (gCmp cLt) (fVar 4) (fC (.int 4)))) (sRet sp_3r) sNext) (sSeq (sIf (fTest (fBin (gCmp cLt) (fVar 4) (fC (.int 7)))) (sSeq (sSet 7 sp_4l) (sRet sp_4r)) sNext) sp_5)) σ2 (M.set p c4) = .ok (.rt (.str t')) (M.set p c') → m_law_spoilt_0c0464 [.ref p, .str t] M = .ok (.str t') (M.set p c') := fun h => by
    refine (run_rt (n := 12) (k := 2) (b := b_law_spoilt_0c0464) (ds := [.ref p, .str t]) rfl (by rw [sp_body]; exact (seq_nx s1).trans ((seq_nx s2).trans h))).trans ?_
    exact trim_id (by simp)
  have v1 := hs.at (i := 1) (d := .str t) (by simp)
  have v2 := hs.at (i := 2) (d := .lst (ls.map D.str)) (by simp)
  have v3 := hs.at (i := 3) (d := .int za) (by simp)
  have v4 := hs.at (i := 4) (d := .int zw) (by simp)
  have v6 := hs.at (i := 6) (d := .int (spot : Int)) (by simp)
  have t4 : fTest (fBin (gCmp cLt) (fVar 4) (fC (.int 4))) σ2 (M.set p c4) = .ok (decide (zw < 4)) (M.set p c4) := test_ev ((bin_ev (b := .int 4) (var_ev v4) rfl).trans gCmp_int)
  have t7 : fTest (fBin (gCmp cLt) (fVar 4) (fC (.int 7))) σ2 (M.set p c4) = .ok (decide (zw < 7)) (M.set p c4) := test_ev ((bin_ev (b := .int 7) (var_ev v4) rfl).trans gCmp_int)
  obtain ⟨way, rfl⟩ := Int.eq_ofNat_of_zero_le w0
  by_cases h4 : (way : Int) < 4
  · rw [decide_eq_true h4] at t4
    obtain ⟨b, eb⟩ := in12 (M := M.set p c4) (z := (way : Int))
    have el : fLst (fCons (fVar 5) (fCons (fC (.str "")) (fCons (fVar 5) (fCons (fC (.str " ")) fNil)))) σ2 (M.set p c4) = .ok (.lst (([sg, "", sg, " "] : List Str).map D.str)) (M.set p c4) := by
      rw [ev_lst, ev_cons, var_ev (hs.at (i := 5) (d := .str sg) (by simp)), bind_ok, ev_cons, ev_c, bind_ok, ev_cons, var_ev (hs.at (i := 5) (d := .str sg) (by simp)), bind_ok, ev_cons, ev_c, bind_ok, ev_nil, bind_ok, bind_ok, bind_ok, bind_ok, bind_ok]
      rfl
    have hj : way < ([sg, "", sg, " "] : List Str).length := by show way < 4; omega
    have hq : Asc 1 (([sg, "", sg, " "] : List Str)[way]) := by
      have hm := List.getElem_mem hj
      generalize ([sg, "", sg, " "] : List Str)[way] = q at hm
      simp only [List.mem_cons, List.mem_nil_iff, or_false] at hm
      rcases hm with rfl | rfl | rfl | rfl
      · exact hsg
      · exact ⟨by decide, by decide⟩
      · exact hsg
      · exact ⟨by decide, by decide⟩
    have r1 := slS_lo (σ := σ2) (M := M.set p c4) (fe := fVar 1) (fb := fVar 3) (var_ev v1) ht (by decide) (var_ev v3)
    have r2 := ix_at el (var_ev v4) (List.getElem?_eq_getElem hj)
    have r3 := slS_hi (σ := σ2) (M := M.set p c4) (fe := fVar 1) (fb := fBin gAdd (fVar 3) (fCall gInt (fCons (fBin gInT (fVar 4) (fTup (fCons (fC (.int 1)) (fCons (fC (.int 2)) fNil)))) fNil))) (var_ev v1) ht (by decide) ((bin_ev (var_ev v3) ((call1_ev ((bin_ev (a := .int (way : Int)) (b := .tup [.int 1, .int 2]) (var_ev v4) rfl).trans eb)).trans gInt_bl)).trans gAdd_int)
    have A1 := cut_asc (lo := none) (hi := some za) ht
    have A3 := cut_asc (lo := some (za + if b = true then 1 else 0)) (hi := none) ht
    have r12 := addS83 r1 r2 A1 hq (by decide)
    have r := addS83 r12 r3 (A1.app hq) A3 (by decide)
    exact ⟨_, c4, fin (seq_rt ((sif_ev t4).trans (ret_ev r))), ((A1.app hq).app A3).mono (by decide), o4.less (by omega)⟩
  · rw [decide_eq_false h4] at t4
    by_cases h7 : (way : Int) < 7
    · rw [decide_eq_true h7] at t7
      have c1 := take_le83 spot ls
      have c2 := drop_le83 (spot + 1) ls
      have c3 := take_le83 (spot + 1) ls
      have c4' := drop_le83 spot ls
      have q1 := addL83 (slT_take (σ := σ2) (M := M.set p c4) (fa := fVar 2) (fb := fVar 6) (ls := ls) (k := spot) (var_ev v2) (var_ev v6)) (slT_drop (fa := fVar 2) (fb := fBin gAdd (fVar 6) (fC (.int 1))) (var_ev v2) (succ_ev (var_ev v6))) (by omega)
      have q2 := addL83 (slT_take (σ := σ2) (M := M.set p c4) (fa := fVar 2) (fb := fBin gAdd (fVar 6) (fC (.int 1))) (ls := ls) (var_ev v2) (succ_ev (var_ev v6))) (slT_drop (fa := fVar 2) (fb := fVar 6) (k := spot) (var_ev v2) (var_ev v6)) (by omega)
      have q3 : fRevL (fVar 2) σ2 (M.set p c4) = .ok (.lst (ls.reverse.map D.str)) (M.set p c4) := by
        show Res.bind (fVar 2 σ2 (M.set p c4)) gRevL = _
        rw [var_ev v2, bind_ok, List.map_reverse]
        rfl
      have s7 : sSet 7 sp_4l σ2 (M.set p c4) = .ok (.nx (σ2.set 7 (some (.lst ([ls.take spot ++ ls.drop (spot + 1), ls.take (spot + 1) ++ ls.drop spot, ls.reverse].map fun q => D.lst (q.map D.str)))))) (M.set p c4) := set_ev (lst3_ev q1 q2 q3)
      have h7' := hs.put (i := 7) (d := .lst ([ls.take spot ++ ls.drop (spot + 1), ls.take (spot + 1) ++ ls.drop spot, ls.reverse].map fun q => D.lst (q.map D.str))) (by decide) (by simp)
      generalize σ2.set 7 (some (D.lst ([ls.take spot ++ ls.drop (spot + 1), ls.take (spot + 1) ++ ls.drop spot, ls.reverse].map fun q => D.lst (q.map D.str)))) = σ3 at s7 h7'
      have hall : ∀ qs ∈ [ls.take spot ++ ls.drop (spot + 1), ls.take (spot + 1) ++ ls.drop spot, ls.reverse], qs.length ≤ 508 ∧ ∀ q ∈ qs, Asc 253 q := fun qs hqs => by
        have tk : ∀ n, ∀ q ∈ ls.take n, Asc 253 q := fun n q hq => (hA q (List.mem_of_mem_take hq)).1
        have dp : ∀ n, ∀ q ∈ ls.drop n, Asc 253 q := fun n q hq => (hA q (List.mem_of_mem_drop hq)).1
        simp only [List.mem_cons, List.mem_nil_iff, or_false] at hqs
        rcases hqs with rfl | rfl | rfl
        · exact ⟨by rw [List.length_append]; omega, fun q hq => (List.mem_append.mp hq).elim (tk _ q) (dp _ q)⟩
        · exact ⟨by rw [List.length_append]; omega, fun q hq => (List.mem_append.mp hq).elim (tk _ q) (dp _ q)⟩
        · exact ⟨by rw [List.length_reverse]; omega, fun q hq => (hA q (List.mem_reverse.mp hq)).1⟩
      have hl3 : [ls.take spot ++ ls.drop (spot + 1), ls.take (spot + 1) ++ ls.drop spot, ls.reverse].length = 3 := rfl
      generalize [ls.take spot ++ ls.drop (spot + 1), ls.take (spot + 1) ++ ls.drop spot, ls.reverse] = LL at h7' hall hl3
      have h4'' : 4 ≤ way := by omega
      have hj : way - 4 < LL.length := by omega
      have ei : fBin gIx (fVar 7) (fBin gSub (fVar 4) (fC (.int 4))) σ3 (M.set p c4) = .ok (.lst (LL[way - 4].map D.str)) (M.set p c4) := by
        refine (bin_ev (a := .lst (LL.map fun q => D.lst (q.map D.str))) (b := .int ((way - 4 : Nat) : Int)) (var_ev (h7'.at (by simp))) ((bin_ev (a := .int (way : Int)) (b := .int 4) (var_ev (h7'.at (by simp))) rfl).trans (gSub_int.trans (by rw [Int.natCast_sub h4'']; rfl)))).trans ?_
        rw [gIx_lst, atI_nn (by omega), Int.toNat_natCast, List.getElem?_map, List.getElem?_eq_getElem hj]
        rfl
      obtain ⟨g1, g2⟩ := hall _ (List.getElem_mem hj)
      obtain ⟨j1, j2⟩ := joinT (N := 200000) one_line (by decide) ei g2 (by omega) (by decide)
      exact ⟨_, c4, fin ((seq_nx (pass9 t4)).trans (seq_rt ((sif_ev t7).trans ((seq_nx s7).trans (ret_ev j1))))), j2, o4.less (by omega)⟩
    · rw [decide_eq_false h7] at t7
      have hln := hA _ (List.getElem_mem hspot)
      have esp : fM1 gSplit (fBin gIx (fVar 2) (fVar 6)) (fC (.str " ")) σ2 (M.set p c4) = .ok (.lst ((Txt.split ls[spot] " ").map D.str)) (M.set p c4) := split_any one_space (ix_at (var_ev v2) (var_ev v6) (List.getElem?_eq_getElem hspot)) hln.1 (by decide)
      have hB := split_asc one_space hln.1
      obtain ⟨hL2, hne2⟩ := split_len one_space hln.1
      have hsum := split_sum one_space hln.1
      generalize Txt.split ls[spot] " " = wd at esp hB hL2 hne2 hsum
      have eo : fLst (fCons (fC (.str "")) (fCons (fC (.str "-")) (fCons (fC (.str "0")) (fCons (fC (.str "01")) (fCons (fC (.str "9,9")) (fCons (fC (.str "1234567890123")) (fCons (fC (.str "12345678901234")) (fCons (fC (.str "wheel")) fNil)))))))) σ2 (M.set p c4) = .ok (.lst (odd83.map D.str)) (M.set p c4) := rfl
      have s8 : sPar 8 9 (fCons (fM1 gSplit (fBin gIx (fVar 2) (fVar 6)) (fC (.str " "))) (fCons (fLst (fCons (fC (.str "")) (fCons (fC (.str "-")) (fCons (fC (.str "0")) (fCons (fC (.str "01")) (fCons (fC (.str "9,9")) (fCons (fC (.str "1234567890123")) (fCons (fC (.str "12345678901234")) (fCons (fC (.str "wheel")) fNil))))))))) fNil)) σ2 (M.set p c4) = .ok (.nx ((σ2.set 8 (some (.lst (wd.map D.str)))).set 9 (some (.lst (odd83.map D.str))))) (M.set p c4) := par_ev esp eo
      have h9 := (hs.put (i := 8) (d := .lst (wd.map D.str)) (by decide) (by simp)).put (i := 9) (d := .lst (odd83.map D.str)) (by decide) (by simp)
      generalize (σ2.set 8 (some (D.lst (wd.map D.str)))).set 9 (some (D.lst (odd83.map D.str))) = σ3 at s8 h9
      have hwd1 : 1 ≤ wd.length := List.length_pos_iff.mpr hne2
      obtain ⟨zq, c5, e5, q0, q1, o5⟩ := m_draw_eq (k := k + 1) (n := (wd.length : Int)) (M := M.set p c4) (p := p) (x := c4) (List.getElem?_set_self hp) (o4.less (by omega)) (by omega) (by omega)
      rw [List.set_set] at e5
      obtain ⟨pl, rfl⟩ := Int.eq_ofNat_of_zero_le q0
      have s10 : sSet 10 (fCall m_law_draw_321cf4 (fCons (fVar 0) (fCons (fCall gLen (fCons (fVar 8) fNil)) fNil))) σ3 (M.set p c4) = .ok (.nx (σ3.set 10 (some (.int (pl : Int))))) (M.set p c5) := set_ev ((call2_ev (a := .ref p) (b := .int (wd.length : Int)) (var_ev (h9.at (by simp))) ((call1_ev (a := .lst (wd.map D.str)) (var_ev (h9.at (by simp)))).trans (by rw [gLen_lst, List.length_map]))).trans e5)
      have h10 := h9.put (i := 10) (d := .int (pl : Int)) (by decide) (by simp)
      generalize σ3.set 10 (some (D.int (pl : Int))) = σ4 at s10 h10
      obtain ⟨zo, c6, e6, r0, r1, o6⟩ := m_draw_eq (k := k) (n := 8) (M := M.set p c5) (p := p) (x := c5) (List.getElem?_set_self hp) o5 (by decide) (by decide)
      rw [List.set_set] at e6
      obtain ⟨od, rfl⟩ := Int.eq_ofNat_of_zero_le r0
      have hod : od < odd83.length := by show od < 8; omega
      have w8 := h10.at (i := 8) (d := .lst (wd.map D.str)) (by simp)
      have w10 := h10.at (i := 10) (d := .int (pl : Int)) (by simp)
      have eod : fLst (fCons (fBin gIx (fVar 9) (fCall m_law_draw_321cf4 (fCons (fVar 0) (fCons (fC (.int 8)) fNil)))) fNil) σ4 (M.set p c5) = .ok (.lst ([odd83[od]].map D.str)) (M.set p c6) := by
        have ex : fBin gIx (fVar 9) (fCall m_law_draw_321cf4 (fCons (fVar 0) (fCons (fC (.int 8)) fNil))) σ4 (M.set p c5) = .ok (.str odd83[od]) (M.set p c6) := by
          refine (bin_ev (a := .lst (odd83.map D.str)) (b := .int (od : Int)) (var_ev (h10.at (by simp))) ((call2_ev (a := .ref p) (b := .int 8) (var_ev (h10.at (by simp))) rfl).trans e6)).trans ?_
          rw [gIx_lst, atI_nn (by omega), Int.toNat_natCast, List.getElem?_map, List.getElem?_eq_getElem hod]
          rfl
        rw [ev_lst, ev_cons, ex, bind_ok, ev_nil, bind_ok, bind_ok]
        rfl
      have d1 := take_le83 pl wd
      have d2 := drop_le83 (pl + 1) wd
      have a1 := addL83 (slT_take (σ := σ4) (M := M.set p c5) (fa := fVar 8) (fb := fVar 10) (ls := wd) (k := pl) (var_ev w8) (var_ev w10)) eod (by simp only [List.length_cons, List.length_nil]; omega)
      have a2 := addL83 a1 (slT_drop (σ := σ4) (M := M.set p c6) (fa := fVar 8) (fb := fBin gAdd (fVar 10) (fC (.int 1))) (ls := wd) (var_ev w8) (succ_ev (var_ev w10))) (by simp only [List.length_append, List.length_cons, List.length_nil]; omega)
      have hq14 := odd83_asc _ (List.getElem_mem hod)
      generalize odd83[od] = oq at a1 a2 eod hq14
      have hparts : ∀ q ∈ wd.take pl ++ [oq] ++ wd.drop (pl + 1), Asc 253 q := fun q hq => by
        rcases List.mem_append.mp hq with hq | hq
        · rcases List.mem_append.mp hq with hq | hq
          · exact (hB q (List.mem_of_mem_take hq)).1
          · rw [List.mem_singleton.mp hq]
            exact hq14.mono (by decide)
        · exact (hB q (List.mem_of_mem_drop hq)).1
      have hnl : (Str.join " " (wd.take pl ++ [oq] ++ wd.drop (pl + 1))).length ≤ 269 := by
        refine Nat.le_trans (join_sum one_space) ?_
        have := sum_td (fun p : Str => p.length + 1) wd pl
        have := hq14.2
        simp only [List.map_append, List.sum_append, List.map_cons, List.map_nil, List.sum_cons, List.sum_nil]
        omega
      have j1 := (joinT (N := 200000) one_space (by decide) a2 hparts (by simp only [List.length_append, List.length_cons, List.length_nil]; omega) (by decide)).1
      have hnA : Asc 269 (Str.join " " (wd.take pl ++ [oq] ++ wd.drop (pl + 1))) := Asc.join one_space (by decide) hparts hnl
      generalize Str.join " " (wd.take pl ++ [oq] ++ wd.drop (pl + 1)) = nl' at j1 hnA
      have s11 := set_ev (i := 11) j1
      have h11 := h10.put (i := 11) (d := .str nl') (by decide) (by simp)
      generalize σ4.set 11 (some (D.str nl')) = σ5 at s11 h11
      have x2 := h11.at (i := 2) (d := .lst (ls.map D.str)) (by simp)
      have x6 := h11.at (i := 6) (d := .int (spot : Int)) (by simp)
      have f1 := take_le83 spot ls
      have f2 := drop_le83 (spot + 1) ls
      have en : fLst (fCons (fVar 11) fNil) σ5 (M.set p c6) = .ok (.lst ([nl'].map D.str)) (M.set p c6) := by
        rw [ev_lst, ev_cons, var_ev (h11.at (i := 11) (d := .str nl') (by simp)), bind_ok, ev_nil, bind_ok, bind_ok]
        rfl
      have b1 := addL83 (slT_take (σ := σ5) (M := M.set p c6) (fa := fVar 2) (fb := fVar 6) (ls := ls) (k := spot) (var_ev x2) (var_ev x6)) en (by simp only [List.length_cons, List.length_nil]; omega)
      have b2 := addL83 b1 (slT_drop (σ := σ5) (M := M.set p c6) (fa := fVar 2) (fb := fBin gAdd (fVar 6) (fC (.int 1))) (ls := ls) (var_ev x2) (succ_ev (var_ev x6))) (by simp only [List.length_append, List.length_cons, List.length_nil]; omega)
      have hpl : ∀ q ∈ ls.take spot ++ [nl'] ++ ls.drop (spot + 1), Asc 269 q := fun q hq => by
        rcases List.mem_append.mp hq with hq | hq
        · rcases List.mem_append.mp hq with hq | hq
          · exact (hA q (List.mem_of_mem_take hq)).1.mono (by decide)
          · rw [List.mem_singleton.mp hq]
            exact hnA
        · exact (hA q (List.mem_of_mem_drop hq)).1.mono (by decide)
      obtain ⟨j3, j4⟩ := joinT (N := 200000) one_line (by decide) b2 hpl (by simp only [List.length_append, List.length_cons, List.length_nil]; omega) (by decide)
      exact ⟨_, c6, fin ((seq_nx (pass9 t4)).trans ((seq_nx (pass9 t7)).trans ((seq_nx s8).trans ((seq_nx s10).trans ((seq_nx s11).trans (ret_ev j3)))))), j4, o6⟩
end QX
set_option maxRecDepth 100000
set_option maxHeartbeats 1000000
set_option exponentiation.threshold 5000
namespace QX
open PySem PySem.Spec PyProof PyProof.Rows L2 HX QX.Det PySem.Builtin.Str PySem.Builtin
end QX
set_option maxRecDepth 100000
set_option maxHeartbeats 1000000
set_option exponentiation.threshold 5000
namespace QX
open PySem PySem.Spec PyProof PyProof.Rows L2 HX QX.Det
variable {M A : Mem} {p k : Nat} {x : Cell} {σ : Sa} {ws : List (List (List Int))} {c : Int} {st ms : List Int} {d e s m : D}
theorem PG.board (hb : BoardOk ws c) : PG (boardT ws c) 100000 5 := by
  have := hb.w6
  have := hb.c4
  have := hb.c0
  exact ⟨dok_board ws c, fun n => und_board _ _, (RP.board hb.wheels (by omega) (by omega) hb.c0 (by omega)).d⟩
end QX
set_option maxRecDepth 100000
set_option maxHeartbeats 1000000
set_option exponentiation.threshold 5000
namespace QX
open PySem PySem.Spec PyProof PyProof.Rows L2 HX QX.Det
variable {M A N : Mem} {p k : Nat} {x : Cell} {σ : Sa} {ws : List (List (List Int))} {c n : Int} {d e s m : D} {ns : List Int}
theorem boardS_chars (hb : BoardOk ws c) : ∀ k ∈ (boardS ws c).cps.toList, k < 128 := fun k hk => by
  have hk : k ∈ TL.tl (boardS ws c) := hk
  rw [board_join, TL.tl_append, TL.tl_join, tl_nl] at hk
  rcases List.mem_append.mp hk with hk | hk
  · rcases joinL_mem _ hk with h | ⟨z, hz, h⟩
    · have : k = 10 := by simpa using h
      omega
    · obtain ⟨q, hq, rfl⟩ := List.mem_map.mp hz
      exact ((lineP hb q hq).2 k h).2
  · have : k = 10 := by simpa using hk
    omega
theorem boardS_len (hb : BoardOk ws c) : (boardS ws c).length ≤ 253 := by
  rw [board_join, len_app]
  have := board_len hb
  show _ + 1 ≤ _
  omega
end QX
namespace Q82
end Q82
set_option maxRecDepth 100000
set_option maxHeartbeats 1000000
namespace QX
open PySem
/- groups_of -/
/- turns_handled -/
/- bring_no_fewer -/
/- group_turns -/
/- least_keeps -/
/- drain_of -/
/- weigh_less -/
/- is_drain -/
/- never_moment -/
/- never_counts -/
/- row_to -/
/- last_ones -/
/- end_of -/
/- settled -/
/- shows_rest -/
/- shows_never -/
/- is_end -/
/- is_enough -/
end QX
set_option maxRecDepth 100000
set_option maxHeartbeats 1000000
namespace QX.Det
variable {α β : Type}
variable {A : Nat → Nat → Int} {O P S : List Nat} {q : Int} {lt : List (List Int)} {w : Nat}
end QX.Det
set_option maxRecDepth 100000
set_option maxHeartbeats 1000000
namespace QX.Det
variable {A : Nat → Nat → Int} {O P S : List Nat} {q : Int} {lt : List (List Int)} {w k : Nat}
end QX.Det
set_option maxRecDepth 100000
set_option maxHeartbeats 1000000
namespace QX
open PySem
/- _law_drops -/
/- _law_all -/
/- _law_right -/
/- law -/
end QX
set_option maxRecDepth 100000
set_option maxHeartbeats 1000000
set_option exponentiation.threshold 5000
namespace QX
open PySem PySem.Spec PyProof PyProof.Rows L2 HX QX.Det
variable {M A : Mem} {σ : Sa} {p k : Nat} {x y : Cell} {ws : List (List (List Int))} {c q : Int} {ls : List (List Int)} {st ms wd : List Int}
end QX
set_option maxRecDepth 100000
set_option maxHeartbeats 1000000
set_option exponentiation.threshold 5000
namespace QX
open PySem PySem.Spec PyProof.Rows L2 HX QX.Det
variable {M A : Mem} {vs ws : List (List (List Int))} {c : Int} {m : Mo} {st ms wts wd : List Int} {f : Flt}
end QX
set_option maxRecDepth 100000
set_option maxHeartbeats 1000000
namespace QX
open PySem
/- is_rising -/
/- is_pair -/
/- keep_alike -/
/- shows_parted -/
/- _law_pair_right -/
/- law -/
end QX
set_option maxRecDepth 100000
set_option maxHeartbeats 1000000
namespace QX
open PySem
/- _law_plan -/
/- come_to -/
/- again_stands -/
/- all_again -/
/- need_two_stands -/
/- next_ways -/
/- least_drops -/
/- how_many -/
/- back -/
/- lead_to -/
/- keep_apart -/
/- shows_drops -/
/- is_again -/
/- _law_right -/
/- law -/
end QX
set_option maxRecDepth 100000
set_option maxHeartbeats 1000000
set_option exponentiation.threshold 5000
namespace QX
open PySem PySem.Spec PyProof PyProof.Rows L2 HX QX.Det
variable {M A : Mem} {p k m w : Nat} {x : Cell} {σ : Sa} {ws : List (List (List Int))} {c : Int} {st s t : List Int} {d e : D} {q : Int} {ls : List (List Int)} {kv kvs : List (NestedKey × D)} {fnd frs : List (List Int)} {ns : List Int}
end QX
set_option maxRecDepth 100000
set_option maxHeartbeats 1000000
set_option exponentiation.threshold 5000
namespace QX
open PySem PySem.Spec PyProof.Rows L2 HX QX.Det
variable {M A : Mem} {σ : Sa} {d : Duo} {p q s0 : Pr} {kw kv line later : Kw} {n k : Nat}
end QX
set_option maxRecDepth 100000
set_option maxHeartbeats 1000000
set_option exponentiation.threshold 5000
namespace QX
open PySem PySem.Spec PyProof PyProof.Rows L2 HX QX.Det
variable {M A : Mem} {p k m w : Nat} {x : Cell} {σ : Sa} {ws : List (List (List Int))} {c : Int} {st s t : List Int} {d e : D} {q : Int} {ls : List (List Int)} {kv kvs : List (NestedKey × D)} {fnd frs : List (List Int)} {ns : List Int}
end QX
set_option maxRecDepth 100000
set_option maxHeartbeats 1000000
set_option exponentiation.threshold 5000
namespace QX
open PySem PySem.Spec PyProof PyProof.Rows L2 HX QX.Det
variable {M A : Mem} {p k m w : Nat} {x : Cell} {σ : Sa} {ws : List (List (List Int))} {c : Int} {st s t : List Int} {d e : D} {q : Int} {ls : List (List Int)} {kv kvs : List (NestedKey × D)} {fnd frs : List (List Int)} {ns : List Int}
end QX
set_option maxRecDepth 100000
set_option maxHeartbeats 1000000
set_option exponentiation.threshold 5000
namespace QX
open PySem PySem.Spec PyProof PyProof.Rows L2 HX QX.Det
variable {m m' : Mo} {k w n : Nat} {ws : List (List (List Int))} {c : Int} {st s t u : List Int} {q : Int} {ls : List (List Int)}
end QX
set_option maxRecDepth 100000
set_option maxHeartbeats 1000000
set_option exponentiation.threshold 5000
namespace QX
open PySem PySem.Spec PyProof PyProof.Rows L2 HX QX.Det
variable {k w v n : Nat} {ws : List (List (List Int))} {c : Int} {st s t u x y : List Int} {q : Int} {ls : List (List Int)} {L : List (List Int)}
end QX
set_option maxRecDepth 100000
set_option maxHeartbeats 1000000
set_option exponentiation.threshold 5000
namespace QX
open PySem PySem.Spec PyProof PyProof.Rows L2 HX QX.Det
variable {M A : Mem} {p k w v n : Nat} {σ : Sa} {ws : List (List (List Int))} {c : Int} {st s t u x y : List Int} {d e : D} {q : Int} {ls : List (List Int)} {L : List (List Int)} {kv kvs : List (NestedKey × D)}
end QX
set_option maxRecDepth 100000
set_option maxHeartbeats 1000000
set_option exponentiation.threshold 5000
namespace QX
open PySem PySem.Spec PyProof PyProof.Rows L2 HX QX.Det
variable {M A : Mem} {p k w v n : Nat} {σ : Sa} {ws : List (List (List Int))} {c : Int} {st s t u x y : List Int} {d e : D} {q : Int} {ls : List (List Int)} {L : List (List Int)} {kv kvs : List (NestedKey × D)}
end QX
set_option maxRecDepth 100000
set_option maxHeartbeats 1000000
set_option exponentiation.threshold 5000
namespace QX
open PySem PySem.Spec PyProof PyProof.Rows L2 HX QX.Det
variable {k w n : Nat} {ws : List (List (List Int))} {c : Int} {st s t u : List Int} {q : Int} {ls : List (List Int)}
end QX
set_option maxRecDepth 100000
set_option maxHeartbeats 1000000
namespace QX.Det
end QX.Det
set_option maxRecDepth 100000
set_option maxHeartbeats 1000000
namespace QX.Det
end QX.Det
set_option maxRecDepth 100000
set_option maxHeartbeats 1000000
namespace QX
open PySem
/- law -/
end QX
set_option maxRecDepth 100000
set_option maxHeartbeats 1000000
set_option exponentiation.threshold 5000
namespace QX
open PySem PySem.Spec PyProof PyProof.Rows L2 HX QX.Det
variable {p r k w v n : Nat} {ws : List (List (List Int))} {c : Int} {st s t u x y ds es : List Int} {q : Int} {ls : List (List Int)}
end QX
set_option maxRecDepth 100000
set_option maxHeartbeats 1000000
set_option exponentiation.threshold 5000
namespace QX
open PySem PySem.Spec PyProof PyProof.Rows L2 HX QX.Det
variable {M A N : Mem} {p r k w v n : Nat} {σ : Sa} {ws : List (List (List Int))} {c : Int} {st s t u x y : List Int} {d e : D} {q : Int} {ls : List (List Int)} {L : List (List Int)} {kv kvs : List (NestedKey × D)} {W F : Ways}
end QX
set_option maxRecDepth 100000
set_option maxHeartbeats 1000000
set_option exponentiation.threshold 5000
namespace QX
open PySem PySem.Spec PyProof PyProof.Rows L2 HX QX.Det
variable {M A N : Mem} {p r k w v n : Nat} {σ : Sa} {ws : List (List (List Int))} {c : Int} {st s t u x y : List Int} {d e : D} {q : Int} {ls : List (List Int)} {L fr : List (List Int)} {kv kvs : List (NestedKey × D)} {W F : Ways} {done : List Int → Nat → Prop}
end QX
set_option maxRecDepth 100000
set_option maxHeartbeats 1000000
set_option exponentiation.threshold 5000
namespace QX
open PySem PySem.Spec PyProof PyProof.Rows L2 HX QX.Det
variable {M A N : Mem} {p r k w v n : Nat} {σ : Sa} {ws : List (List (List Int))} {c : Int} {st s t u x y : List Int} {d e : D} {q : Int} {ls : List (List Int)} {L fr : List (List Int)} {kv kvs : List (NestedKey × D)} {W F : Ways}
end QX
set_option maxRecDepth 100000
set_option maxHeartbeats 1000000
set_option exponentiation.threshold 5000
namespace QX
open PySem PySem.Spec PyProof PyProof.Rows L2 HX QX.Det
variable {M A N : Mem} {p r k w v n : Nat} {σ : Sa} {ws : List (List (List Int))} {c : Int} {st s t u x y ot : List Int} {d e : D} {q : Int} {ls : List (List Int)} {L fr : List (List Int)} {kv kvs : List (NestedKey × D)} {W : Ways}
end QX
set_option maxRecDepth 100000
set_option maxHeartbeats 1000000
set_option exponentiation.threshold 5000
namespace QX
open PySem PySem.Spec PyProof.Rows L2 HX QX.Det
variable {M A : Mem} {σ : Sa} {d : Duo} {p q s0 : Pr} {kw kv line later : Kw} {n k fu : Nat} {ps : List Pr}
end QX
set_option maxRecDepth 100000
set_option maxHeartbeats 1000000
set_option exponentiation.threshold 5000
namespace QX
open PySem PySem.Spec PyProof PyProof.Rows L2 HX QX.Det
variable {M A N K : Mem} {n k : Nat} {σ σ1 : Sa}
end QX
set_option maxRecDepth 100000
set_option maxHeartbeats 1000000
set_option exponentiation.threshold 5000
namespace QX
open PySem PySem.Spec PyProof PyProof.Rows L2 HX QX.Det
variable {M A N : Mem} {p k w v n : Nat} {σ : Sa} {ws : List (List (List Int))} {c : Int} {st s t u x y ot : List Int} {d e : D} {q : Int} {ls : List (List Int)} {L ps : List (List Int)} {kv kvs : List (NestedKey × D)}
end QX
set_option maxRecDepth 100000
set_option maxHeartbeats 1000000
set_option exponentiation.threshold 5000
namespace QX
open PySem PySem.Spec PyProof PyProof.Rows L2 HX QX.Det
variable {M A : Mem} {σ : Sa} {ws : List (List (List Int))} {c : Int} {st ot : List Int} {q : Int} {ls : List (List Int)} {L : List (List Int)}
end QX
set_option maxRecDepth 100000
set_option maxHeartbeats 1000000
set_option exponentiation.threshold 5000
namespace QX
open PySem PySem.Spec PyProof PyProof.Rows L2 HX QX.Det
variable {M A : Mem} {σ : Sa} {ws : List (List (List Int))} {c : Int} {st ot s : List Int} {q : Int} {ls : List (List Int)} {L : List (List Int)} {w : Nat}
end QX
set_option maxRecDepth 100000
set_option maxHeartbeats 1000000
namespace QX
open PySem PySem.Spec PyProof PyProof.Rows L2 HX QX.Det
end QX
set_option maxRecDepth 100000
set_option maxHeartbeats 1000000
namespace QX
open PySem
/- _law_right -/
/- law -/
end QX
set_option maxRecDepth 100000
set_option maxHeartbeats 1000000
set_option exponentiation.threshold 5000
namespace QX
open PySem PySem.Spec PyProof PyProof.Rows L2 HX QX.Det
variable {A M : Mem} {σ : Sa} {ws : List (List (List Int))} {c : Int} {q : Int} {ls : List (List Int)} {st : List Int} {w p T j n N : Nat}
end QX
set_option maxRecDepth 100000
set_option maxHeartbeats 1000000
namespace QX
open PySem PySem.Spec PyProof.Rows L2 HX
end QX
set_option maxRecDepth 100000
set_option maxHeartbeats 1000000
set_option exponentiation.threshold 5000
namespace QX
open PySem PySem.Spec PyProof PyProof.Rows L2 HX QX.Det
variable {M : Mem} {p k : Nat} {x : Cell} {σ : Sa} {a b : List (List Int)} {i j i' j' w : Nat} {ns : List Int} {d e : D}
section
variable {m : List D → Mem → Res D} {fa fb fc fd : F D} {da db dc dd : D}
end
end QX
set_option maxRecDepth 100000
set_option maxHeartbeats 1000000
set_option exponentiation.threshold 5000
namespace QX
open PySem PySem.Spec PyProof PyProof.Rows L2 HX QX.Det
variable {M A : Mem} {p k : Nat} {x : Cell} {σ : Sa} {ws : List (List (List Int))} {c : Int} {st s th : List Int} {q : Int} {ls : List (List Int)} {L : List (List Int)} {w : Nat} {ns : List Int}
end QX
set_option maxRecDepth 100000
set_option maxHeartbeats 1000000
set_option exponentiation.threshold 5000
namespace QX
open PySem PySem.Spec PyProof PyProof.Rows L2 HX QX.Det
variable {M A : Mem} {p k : Nat} {x : Cell} {σ : Sa} {ws : List (List (List Int))} {c : Int} {st s th : List Int} {q : Int} {ls : List (List Int)} {L : List (List Int)} {w : Nat} {ns : List Int}
end QX
set_option maxRecDepth 100000
set_option maxHeartbeats 1000000
set_option exponentiation.threshold 5000
namespace QX
open PySem PySem.Spec PyProof PyProof.Rows L2 HX QX.Det
variable {k w n v : Nat} {ws : List (List (List Int))} {c : Int} {s t u a b : List Int} {q : Int} {ls : List (List Int)} {l l' lz ly : List Nat}
end QX
set_option maxRecDepth 100000
set_option maxHeartbeats 1000000
set_option exponentiation.threshold 5000
namespace QX
open PySem PySem.Spec PyProof PyProof.Rows L2 HX QX.Det
namespace Det
end Det
variable {k w n v : Nat} {ws : List (List (List Int))} {c : Int} {s t u a b : List Int} {q : Int} {ls : List (List Int)} {l l' lz ly : List Nat} {L : List (List Int)}
end QX
set_option maxRecDepth 100000
set_option maxHeartbeats 1000000
namespace QX.Det
end QX.Det
set_option maxRecDepth 100000
set_option maxHeartbeats 1000000
set_option exponentiation.threshold 5000
namespace QX
open PySem PySem.Spec PyProof PyProof.Rows L2 HX QX.Det
variable {M A : Mem} {σ : Sa} {ws : List (List (List Int))} {c : Int} {st ot s ds : List Int} {q : Int} {ls : List (List Int)} {L : List (List Int)} {w : Nat} {kv kvs : List (NestedKey × D)}
end QX
set_option maxRecDepth 100000
set_option maxHeartbeats 1000000
namespace QX
open PySem
/- _law_stands -/
/- _law_next -/
/- _law_ways -/
/- _law_least -/
/- _law_reached -/
/- _law_again -/
end QX
set_option maxRecDepth 100000
set_option maxHeartbeats 1000000
set_option exponentiation.threshold 5000
namespace QX
open PySem PySem.Spec PyProof PyProof.Rows L2 HX QX.Det
variable {M A : Mem} {p k n w : Nat} {x : Cell} {σ : Sa} {ws : List (List (List Int))} {c : Int} {st s t : List Int} {q : Int} {ls : List (List Int)} {G : List (List Int)}
end QX
set_option maxRecDepth 100000
set_option maxHeartbeats 1000000
set_option exponentiation.threshold 5000
namespace QX
open PySem PySem.Spec PyProof PyProof.Rows L2 HX QX.Det
variable {M A N : Mem} {p k n w pY pK pL pF : Nat} {x : Cell} {σ : Sa} {ws : List (List (List Int))} {c : Int} {st s t ot ds : List Int} {q : Int} {ls : List (List Int)} {E : List (List Int)} {W F G : Ways} {done : List Int → Nat → Prop}
end QX
set_option maxRecDepth 100000
set_option maxHeartbeats 1000000
set_option exponentiation.threshold 5000
namespace QX
open PySem PySem.Spec PyProof PyProof.Rows L2 HX QX.Det
variable {M A N : Mem} {p k n w pY pK pL pF : Nat} {x : Cell} {σ : Sa} {ws : List (List (List Int))} {c : Int} {st s t ot ds : List Int} {q : Int} {ls : List (List Int)} {E : List (List Int)} {W F G : Ways} {done : List Int → Nat → Prop}
end QX
set_option maxRecDepth 100000
set_option maxHeartbeats 1000000
set_option exponentiation.threshold 5000
namespace QX
open PySem PySem.Spec PyProof PyProof.Rows L2 HX QX.Det
variable {M A N : Mem} {p k n w pY : Nat} {x : Cell} {σ : Sa} {ws : List (List (List Int))} {c : Int} {st s t : List Int} {q : Int} {ls : List (List Int)} {E L fnd frs : List (List Int)} {done : List Int → Nat → Prop}
end QX
set_option maxRecDepth 100000
set_option maxHeartbeats 1000000
set_option exponentiation.threshold 5000
namespace QX
open PySem PySem.Spec PyProof PyProof.Rows L2 HX QX.Det
variable {M M' M2 A N : Mem} {p k n m w pY : Nat} {x : Cell} {σ : Sa} {ws : List (List (List Int))} {c : Int} {st s t : List Int} {q : Int} {ls : List (List Int)} {E L fnd frs : List (List Int)} {kvs : List (NestedKey × D)}
end QX
set_option maxRecDepth 100000
set_option maxHeartbeats 1000000
set_option exponentiation.threshold 5000
namespace QX
open PySem PySem.Spec PyProof PyProof.Rows L2 HX QX.Det
variable {M M' M2 A N : Mem} {p k n m w pY : Nat} {x : Cell} {σ : Sa} {ws : List (List (List Int))} {c : Int} {st s t : List Int} {q : Int} {ls : List (List Int)} {E L fnd frs : List (List Int)} {kvs : List (NestedKey × D)}
end QX
set_option maxRecDepth 100000
set_option maxHeartbeats 1000000
set_option exponentiation.threshold 5000
namespace QX
open PySem PySem.Spec PyProof PyProof.Rows L2 HX QX.Det
variable {M A : Mem} {ws : List (List (List Int))} {c : Int} {st s : List Int} {q : Int} {ls : List (List Int)} {L : List (List Int)}
end QX
set_option maxRecDepth 100000
set_option maxHeartbeats 1000000
set_option exponentiation.threshold 5000
namespace QX
open PySem PySem.Spec PyProof PyProof.Rows L2 HX QX.Det
variable {M A : Mem} {p k m w n N : Nat} {x : Cell} {σ : Sa} {ws : List (List (List Int))} {c : Int} {xs ts : List Int} {S O : List Nat}
end QX
set_option maxRecDepth 100000
set_option maxHeartbeats 1000000
set_option exponentiation.threshold 5000
namespace QX
open PySem PySem.Spec PyProof PyProof.Rows L2 HX QX.Det
variable {M A : Mem} {p k m w n N : Nat} {x : Cell} {σ : Sa} {ws : List (List (List Int))} {c : Int} {xs ts : List Int} {S O : List Nat}
end QX
set_option maxRecDepth 100000
set_option maxHeartbeats 1000000
set_option exponentiation.threshold 5000
namespace QX
open PySem PySem.Spec PyProof PyProof.Rows L2 HX QX.Det
variable {M A : Mem} {p k m w n N : Nat} {x : Cell} {σ : Sa} {ws : List (List (List Int))} {c : Int} {xs ts : List Int} {S O : List Nat}
end QX
set_option maxRecDepth 100000
set_option maxHeartbeats 1000000
set_option exponentiation.threshold 5000
namespace QX
open PySem PySem.Spec PyProof PyProof.Rows L2 HX QX.Det
variable {M A : Mem} {p k m w n N : Nat} {x : Cell} {σ : Sa} {ws : List (List (List Int))} {c q : Int} {xs ts : List Int} {S O : List Nat} {lt : List (List Int)}
end QX
set_option maxRecDepth 100000
set_option maxHeartbeats 1000000
set_option exponentiation.threshold 5000
namespace QX
open PySem PySem.Spec PyProof PyProof.Rows L2 HX QX.Det
variable {M A : Mem} {p k m w n N : Nat} {x : Cell} {σ : Sa} {ws : List (List (List Int))} {c q : Int} {xs ts : List Int} {S O g : List Nat} {lt ls : List (List Int)}
end QX
set_option maxRecDepth 100000
set_option maxHeartbeats 1000000
set_option exponentiation.threshold 5000
namespace QX
open PySem PySem.Spec PyProof PyProof.Rows L2 HX QX.Det
variable {M A : Mem} {p k m w n N : Nat} {x : Cell} {σ : Sa} {ws : List (List (List Int))} {c q : Int} {xs ts : List Int} {S O g : List Nat} {lt : List (List Int)} {K : List (List Nat)} {F : List (List Int)}
end QX
set_option maxRecDepth 100000
set_option maxHeartbeats 1000000
set_option exponentiation.threshold 5000
namespace QX
open PySem PySem.Spec PyProof PyProof.Rows L2 HX QX.Det
variable {ws : List (List (List Int))} {c q : Int} {m m' : Mo} {t : List Int} {a b r row : List Nat}
end QX
set_option maxRecDepth 100000
set_option maxHeartbeats 1000000
set_option exponentiation.threshold 5000
namespace QX
open PySem PySem.Spec PyProof PyProof.Rows L2 HX QX.Det
variable {M A : Mem} {p k m w n N : Nat} {x : Cell} {σ : Sa} {ws : List (List (List Int))} {c q : Int} {xs ts : List Int} {S O g : List Nat} {lt : List (List Int)} {K : List (List Nat)} {Fs : List (List Int)}
end QX
set_option maxRecDepth 100000
set_option maxHeartbeats 1000000
set_option exponentiation.threshold 5000
namespace QX
open PySem PySem.Spec PyProof PyProof.Rows L2 HX QX.Det
variable {M A : Mem} {p k m w n N : Nat} {x : Cell} {σ : Sa} {ws : List (List (List Int))} {c q : Int} {xs ts : List Int} {S O g : List Nat} {lt : List (List Int)} {K : List (List Nat)} {Fs : List (List Int)}
end QX
set_option maxRecDepth 100000
set_option maxHeartbeats 1000000
set_option exponentiation.threshold 5000
namespace QX
open PySem PySem.Spec PyProof PyProof.Rows L2 HX QX.Det
variable {M A : Mem} {p k m w n N : Nat} {x : Cell} {σ : Sa} {ws : List (List (List Int))} {c q : Int} {xs ts ds : List Int} {S O g : List Nat} {lt ls : List (List Int)} {K : List (List Nat)} {Fs : List (List Int)}
end QX
set_option maxRecDepth 100000
set_option maxHeartbeats 1000000
set_option exponentiation.threshold 5000
namespace QX
open PySem PySem.Spec PyProof PyProof.Rows L2 HX QX.Det
variable {M A : Mem} {σ : Sa} {ws : List (List (List Int))} {c : Int} {m : Mo} {cs t : List Int} {Fs : List (List Int)} {d : D}
end QX
set_option maxRecDepth 100000
set_option maxHeartbeats 1000000
set_option exponentiation.threshold 5000
namespace QX
open PySem PySem.Spec PyProof PyProof.Rows L2 HX QX.Det
variable {M A : Mem} {σ : Sa} {ws : List (List (List Int))} {c T : Int} {m : Mo} {t : List Int} {Fs : List (List Int)} {d : D} {row : List Nat}
end QX
set_option maxRecDepth 100000
set_option maxHeartbeats 1000000
set_option exponentiation.threshold 5000
namespace QX
open PySem PySem.Spec PyProof PyProof.Rows L2 HX QX.Det
variable {ws : List (List (List Int))} {c q : Int} {O g : List Nat} {lt : List (List Int)} {t : List Int} {w : Nat}
end QX
set_option maxRecDepth 100000
set_option maxHeartbeats 1000000
set_option exponentiation.threshold 5000
namespace QX
open PySem PySem.Spec PyProof PyProof.Rows L2 HX QX.Det
variable {ws : List (List (List Int))} {c q : Int} {m : Mo} {n : Nat → Nat} {r0 done p x : List Nat} {w N K : Nat}
end QX
set_option maxRecDepth 100000
set_option maxHeartbeats 1000000
set_option exponentiation.threshold 5000
namespace QX
open PySem PySem.Spec PyProof PyProof.Rows L2 HX QX.Det
variable {M A : Mem} {σ : Sa} {ws : List (List (List Int))} {c T : Int} {m : Mo} {t : List Int} {d : D} {row r0 done : List Nat} {w p N : Nat}
end QX
set_option maxRecDepth 100000
set_option maxHeartbeats 1000000
set_option exponentiation.threshold 5000
namespace QX
open PySem PySem.Spec PyProof PyProof.Rows L2 HX QX.Det
variable {M A : Mem} {σ : Sa} {ws : List (List (List Int))} {c T : Int} {m : Mo} {t : List Int} {d : D} {row r0 done : List Nat} {w p N : Nat}
end QX
set_option maxRecDepth 100000
set_option maxHeartbeats 1000000
set_option exponentiation.threshold 5000
namespace QX
open PySem PySem.Spec PyProof PyProof.Rows L2 HX QX.Det
variable {M A : Mem} {σ : Sa} {ws : List (List (List Int))} {c T : Int} {m : Mo} {t : List Int} {d : D} {row r0 done a b : List Nat} {Fs : List (List Int)}
end QX
set_option maxRecDepth 100000
set_option maxHeartbeats 1000000
namespace QX
open PySem
/- _law_board -/
/- _law_numbers -/
/- _law_shows -/
end QX
set_option maxRecDepth 100000
set_option maxHeartbeats 1000000
namespace QX
open PySem PySem.Spec PyProof.Rows L2 HX
variable {M0 G : Mem} {p k : Nat} {x : Cell} {σ : Sa}
end QX
set_option maxRecDepth 100000
set_option maxHeartbeats 1000000
namespace QX
open PySem
/- _law_few_board -/
/- _law_moment -/
/- _law_way -/
/- _law_parts_right -/
/- law -/
end QX
set_option maxRecDepth 100000
set_option maxHeartbeats 1000000
set_option exponentiation.threshold 5000
namespace QX
open PySem PySem.Spec PyProof PyProof.Rows L2 HX QX.Det
section
variable {M : Mem} {p k : Nat} {x : Cell} {σ : Sa} {ws : List (List (List Int))} {c : Int} {m : Mo}
end
end QX
set_option maxRecDepth 100000
set_option maxHeartbeats 1000000
set_option exponentiation.threshold 5000
namespace QX
open PySem PySem.Spec PyProof PyProof.Rows L2 HX QX.Det
variable {M A : Mem} {σ : Sa} {ws : List (List (List Int))} {c T : Int} {m : Mo} {cs ds : List Int} {row r0 done a b r : List Nat}
end QX
set_option maxRecDepth 100000
set_option maxHeartbeats 1000000
set_option exponentiation.threshold 5000
namespace QX
open PySem PySem.Spec PyProof PyProof.Rows L2 HX QX.Det
variable {M A : Mem} {σ : Sa} {ns : List Int} {N L lim bud k : Nat} {x : Cell} {body : FS}
end QX
set_option maxRecDepth 100000
set_option maxHeartbeats 1000000
set_option exponentiation.threshold 5000
namespace QX
open PySem PySem.Spec PyProof PyProof.Rows L2 HX QX.Det
variable {M A : Mem} {σ : Sa} {ws : List (List (List Int))} {c T : Int} {m : Mo} {cs ds : List Int} {row r0 done a b r : List Nat} {i j : Nat}
end QX
set_option maxRecDepth 100000
set_option maxHeartbeats 1000000
set_option exponentiation.threshold 5000
namespace QX
open PySem PySem.Spec PyProof PyProof.Rows L2 HX QX.Det
variable {M A : Mem} {σ : Sa} {ws : List (List (List Int))} {c T : Int} {m m' : Mo} {cs ds : List Int} {row r0 done a b r : List Nat} {i j : Nat}
end QX
set_option maxRecDepth 100000
set_option maxHeartbeats 1000000
set_option exponentiation.threshold 5000
namespace QX
open PySem PySem.Spec PyProof PyProof.Rows L2 HX QX.Det
variable {M : Mem} {σ : Sa} {ws : List (List (List Int))} {c : Int} {m : Mo}
end QX
set_option maxRecDepth 100000
set_option maxHeartbeats 1000000
set_option exponentiation.threshold 5000
namespace QX
open PySem PySem.Spec PyProof PyProof.Rows L2 HX QX.Det
variable {M A : Mem} {σ : Sa} {ws : List (List (List Int))} {c T : Int} {m m' : Mo} {cs ds : List Int} {row r0 done a b r : List Nat} {i j fu : Nat}
end QX
set_option maxRecDepth 100000
set_option maxHeartbeats 1000000
namespace QX
open PySem PySem.Spec PyProof PyProof.Rows L2 HX QX.Det
variable {M A : Mem} {p k m w n N : Nat} {x : Cell} {σ : Sa} {ws : List (List (List Int))} {c q lo : Int} {xs ts ds : List Int}
end QX
set_option maxRecDepth 100000
set_option maxHeartbeats 1000000
namespace QX
open PySem PySem.Spec PyProof PyProof.Rows L2 HX QX.Det
variable {M A : Mem} {p k m w n N : Nat} {x : Cell} {σ : Sa} {ws : List (List (List Int))} {c q lo : Int} {xs ts ds es : List Int}
end QX
set_option maxRecDepth 100000
set_option maxHeartbeats 1000000
namespace QX
open PySem PySem.Spec PyProof PyProof.Rows L2 HX QX.Det
variable {M A : Mem} {p r k m w n N : Nat} {x : Cell} {σ : Sa} {ws : List (List (List Int))} {c q lo : Int} {xs ts ds es : List Int}
end QX
set_option maxRecDepth 100000
set_option maxHeartbeats 1000000
set_option exponentiation.threshold 5000
namespace QX
open PySem PySem.Spec PyProof PyProof.Rows L2 HX QX.Det
variable {M A : Mem} {σ : Sa} {ws : List (List (List Int))} {c T : Int} {m : Mo} {ds ts : List Int} {row a b r : List Nat} {k w fu n : Nat}
end QX
set_option maxRecDepth 100000
set_option maxHeartbeats 1000000
set_option exponentiation.threshold 5000
namespace QX
open PySem PySem.Spec PyProof PyProof.Rows L2 HX QX.Det
variable {M A : Mem} {σ : Sa} {ws : List (List (List Int))} {c T : Int} {m : Mo} {ds ts s : List Int} {row a b r : List Nat} {k w e fu n : Nat}
end QX
set_option maxRecDepth 100000
set_option maxHeartbeats 1000000
set_option exponentiation.threshold 5000
namespace QX
open PySem PySem.Spec PyProof PyProof.Rows L2 HX QX.Det
variable {M A : Mem} {σ : Sa} {ws : List (List (List Int))} {c T : Int} {m : Mo} {ds ns ts s cs st : List Int} {row a b r ls : List Nat} {x : Cell} {k w e fu n l z u : Nat} {f : Nat → Nat}
end QX
set_option maxRecDepth 100000
set_option maxHeartbeats 1000000
set_option exponentiation.threshold 5000
namespace QX
open PySem PySem.Spec PyProof PyProof.Rows L2 HX QX.Det
variable {M A : Mem} {σ : Sa} {ws : List (List (List Int))} {c T : Int} {m : Mo} {ds : List Int} {row a b r : List Nat} {k w fu n : Nat}
end QX
set_option maxRecDepth 100000
set_option maxHeartbeats 1000000
set_option exponentiation.threshold 5000
namespace QX
open PySem PySem.Spec PyProof PyProof.Rows L2 HX QX.Det
section
variable {M A : Mem} {σ : Sa} {ws v w : List (List (List Int))} {c : Int} {m n : Mo} {p k : Nat} {x : Cell}
end
end QX
set_option maxRecDepth 100000
set_option maxHeartbeats 1000000
set_option exponentiation.threshold 5000
namespace QX
open PySem PySem.Spec PyProof PyProof.Rows L2 HX QX.Det
section
variable {M A : Mem} {σ : Sa} {ws : List (List (List Int))} {c : Int} {ns ts : List Int} {N L lim bud k fu : Nat} {x : Cell} {body : FS} {d : D} {p : Bool}
theorem wf1 {y : Cell} (o : PenOk k y) : Wf [y] := Wf.nil.push (cund_mono (Nat.zero_le _) o.und)
end
end QX
set_option maxRecDepth 100000
set_option maxHeartbeats 1000000
namespace QX
open PySem PySem.Spec PyProof PyProof.Rows L2 HX QX.Det
variable {M : Mem} {σ : Sa} {x y : Str} {n : Int} {p k : Nat} {c : Cell} {ns : List Int} {d : D}
def NS : D → Prop
  | .non | .bl _ | .int _ | .tup _ | .lst _ | .dct _ _ => True
  | _ => False
def T83 (d : D) : Prop := (∃ t, d = .str t ∧ Asc 200000 t) ∨ (NS d ∧ ∀ n, d.und n = true)
theorem ns_isi (h : NS d) : gIsi .str [d, .adr (.ty "str")] M = .ok (.bl false) M := by
  cases d <;> first | rfl | exact h.elim
theorem read_ns (h : NS d) : m_read_board_ba71bd [d] M = .exc 19 (fsText 0) M ∧ m_law_read_1c5c72 [d] M = .ok (.tup [.str "text", .int 0]) M := by
  have t0 : fTest (fCall (gIsi .str) (fCons (fVar 0) (fCons (fC (.adr (.ty "str"))) fNil))) (startA 6 [d]) M = .ok false M := test_ev ((call2_ev (a := d) (b := .adr (.ty "str")) (var_ev rfl) rfl).trans (ns_isi h))
  have n0 := not_ev t0
  constructor
  · have tc : fOrT (fNotT (fTest (fCall (gIsi .str) (fCons (fVar 0) (fCons (fC (.adr (.ty "str"))) fNil))))) (fNotT (fTest (fM1 gEndsw (fVar 0) (fC (.str "\n"))))) (startA 6 [d]) M = .ok true M := by
      rw [ev_orT, n0, bind_ok]
      rfl
    exact (run_exc (n := 6) (k := 1) (b := b_read_board_ba71bd) (ds := [d]) rfl (seq_exc (sif_exc tc (raise_ev rfl (by decide))))).trans (trim_exc rfl)
  · have tc : fOrT (fNotT (fTest (fCall (gIsi .str) (fCons (fVar 0) (fCons (fC (.adr (.ty "str"))) fNil))))) (fOrT (fTest (fBin (gEq false) (fVar 0) (fC (.str "")))) (fTest (fBin (gEq true) (fBin gIx (fVar 0) (fUn gNeg (fC (.int 1)))) (fC (.str "\n"))))) (startA 6 [d]) M = .ok true M := by
      rw [ev_orT, n0, bind_ok]
      rfl
    refine (run_rt (n := 6) (k := 1) (b := b_law_read_1c5c72) (ds := [d]) (d := .tup [.str "text", .int 0]) rfl (seq_rt ((sif_ev tc).trans rfl))).trans ?_
    exact trim_id (by simp)
theorem readR_le {B n : Nat} (hx : Asc B x) (h : readR x = .inl n) : n ≤ B + 3 := by
  unfold readR at h
  split at h
  · have hc := cut_asc (lo := none) (hi := some (-1)) hx
    obtain ⟨hL, hne⟩ := split_len one_line hc
    split at h
    · cases h
      omega
    · rename_i l0 ls e
      rw [e, List.length_cons] at hL
      split at h
      · cases h
        omega
      · split at h
        · rename_i j hj
          have := firstNon_lt hj
          rw [List.length_map] at this
          cases h
          omega
        · split at h
          · cases h
          · cases h
            omega
  · cases h
    omega
theorem readR_board (h : readR x = .inr d) : boardB d = true := by
  unfold readR at h
  split at h
  · split at h
    · cases h
    · split at h
      · cases h
      · split at h
        · cases h
        · split at h
          · rename_i hb
            cases h
            exact hb
          · cases h
  · cases h
theorem due83 (hw : Wf M) (hd : T83 d) : ∃ r, RPD r 300000 6 ∧ (∀ n, r.und n = true) ∧ m_law_read_1c5c72 [d] M = .ok r M ∧ ∀ σ : Sa, σ[6]? = some (some d) → fSaidT [] (fCall m_read_board_ba71bd (fCons (fVar 6) fNil)) σ M = .ok r M := by
  have txt : ∀ i : Nat, i ≤ 300000 → RPD (.tup [.str "text", .int (i : Int)]) 300000 6 := fun i hi => by
    refine (RPD.tup (n := 2) (w := 1000) (h := 3) (fun e he => ?_) (by simp)).mono (by omega) (by omega)
    simp only [List.mem_cons, List.not_mem_nil, or_false] at he
    rcases he with rfl | rfl
    · exact RPD.known rfl (by decide +kernel)
    · exact ((RP.int (by omega) (by omega)).d).mono (by omega) (by omega)
  rcases hd with ⟨t, rfl, ha⟩ | ⟨hn, hu⟩
  · have e1 := m_read_text hw ha (by decide)
    have e2 := m_law_read_text hw ha (by decide)
    cases hr : readR t with
    | inl n =>
      rw [hr] at e1 e2
      refine ⟨_, txt n (by have := readR_le ha hr; omega), fun _ => rfl, e2, fun σ hs => ?_⟩
      unfold fSaidT
      rw [call1_ev (var_ev hs), e1]
      rfl
    | inr b =>
      rw [hr] at e1 e2
      obtain ⟨ws, c, rfl, hb⟩ := boardB_of (readR_board hr)
      have g := PG.board hb
      refine ⟨.tup [.str "told", boardT ws c], ?_, fun n => ?_, e2, fun σ hs => ?_⟩
      · refine (RPD.tup (n := 2) (w := 100000) (h := 5) (fun e he => ?_) (by simp)).mono (by omega) (by omega)
        simp only [List.mem_cons, List.not_mem_nil, or_false] at he
        rcases he with rfl | rfl
        · exact RPD.known rfl (by decide +kernel)
        · exact g.rp
      · show (true && ((boardT ws c).und n && true)) = true
        rw [g.und]
        rfl
      · unfold fSaidT
        rw [call1_ev (var_ev hs), e1]
        rfl
  · obtain ⟨e1, e2⟩ := read_ns (M := M) hn
    refine ⟨_, txt 0 (by decide), fun _ => rfl, e2, fun σ hs => ?_⟩
    unfold fSaidT
    rw [call1_ev (var_ev hs), e1]
    rfl
def z83lap : FS := (sIf (fTest (fBin (gEq true) (fCall gReprD (fCons (fSaidT [] (fCall m_read_board_ba71bd (fCons (fVar 6) fNil))) fNil)) (fCall gReprD (fCons (fVar 7) fNil))))
  (sRet (fC (.bl false)))
  sNext)
def z83th : FS := (sSeq (sSet 7 (fCall m_law_read_1c5c72 (fCons (fVar 6) fNil))) (sFor (fIt gRange1 (fCons (fC (.int 2)) fNil)) (.name 8) z83lap))
def z83it : F Ita := (fIter (fBin gAdd (fVar 5) (fTrim (fCompC (fIt gRange1 (fCons (fC (.int 16)) fNil)) [9] (.name 9) fYes (fCall m_law_spoilt_0c0464 (fCons (fVar 3) (fCons (fVar 4) fNil)))))))
def z83b : FS := (sSeq (sSet 3 (fCall m_law_pen_579b16 (fCons (fCall m_law_cell_at_e50a56 (fCons (fVar 0) (fCons (fVar 2) fNil))) fNil)))
  (sSeq (sSet 4 (fCall m_law_text_24ce07 (fCons (fCall m_law_board_049704 (fCons (fVar 3) (fCons (fC (.int 6)) fNil))) fNil)))
  (sSeq (sSet 5 (fBin gAdd (fVar 1) (fLst (fCons (fVar 4) (fCons (fC .non) (fCons (fC (.int 7)) (fCons (fLst (fCons (fVar 4) fNil)) (fCons (fC (.dct [] [])) (fCons (fCall m_law_odd_ee5538 (fCons (fVar 3) fNil)) fNil)))))))))
  (sFor z83it (.name 6) z83th))))
def fix1 : List Str := ["", "\n", "cups 0", "cups 0\n", "cups 5\nwheel -\n", "cups 1\nwheel\n", "cups 1\nwheel 1\nwheel 0\n"]
def fix2 : List Str := ["cups 1\nwheel 2\n", "cups 01\nwheel -\n", "cups 1\ncups 1\n", "wheel -\ncups 1\n", "cups 1 1\n"]
def fix3 : List Str := ["cups 1\nwheel - \n", "cups 1\nwheel 0,\n", "cups 1\nwheel 0,-\n", "cups 1\nwheel 1,1,1,1\n"]
def fix4 : List Str := ["cups 1\nwheel - - - - -\n", "cups 1\n\n", "cups 1\nwheel 1234567890123\n", " cups 1\nwheel -\n"]
def fix83 : List Str := fix1 ++ fix2 ++ fix3 ++ fix4
theorem fix_asc : ∀ q ∈ fix83, Asc 40 q := by
  have h : ∀ q ∈ fix83, (∀ k ∈ TL.tl q, k < 128) ∧ q.length ≤ 40 := by decide +kernel
  exact h
def z83set : FS → FS := fun rest => (sSeq (sSet 1 (fLst (fCons (fC (.str "")) (fCons (fC (.str "\n")) (fCons (fC (.str "cups 0")) (fCons (fC (.str "cups 0\n")) (fCons (fC (.str "cups 5\nwheel -\n")) (fCons (fC (.str "cups 1\nwheel\n")) (fCons (fC (.str "cups 1\nwheel 1\nwheel 0\n")) fNil)))))))))
  (sSeq (sSet 1 (fBin gAdd (fVar 1) (fLst (fCons (fC (.str "cups 1\nwheel 2\n")) (fCons (fC (.str "cups 01\nwheel -\n")) (fCons (fC (.str "cups 1\ncups 1\n")) (fCons (fC (.str "wheel -\ncups 1\n")) (fCons (fC (.str "cups 1 1\n")) fNil))))))))
  (sSeq (sSet 1 (fBin gAdd (fVar 1) (fLst (fCons (fC (.str "cups 1\nwheel - \n")) (fCons (fC (.str "cups 1\nwheel 0,\n")) (fCons (fC (.str "cups 1\nwheel 0,-\n")) (fCons (fC (.str "cups 1\nwheel 1,1,1,1\n")) fNil)))))))
  (sSeq (sSet 1 (fBin gAdd (fVar 1) (fLst (fCons (fC (.str "cups 1\nwheel - - - - -\n")) (fCons (fC (.str "cups 1\n\n")) (fCons (fC (.str "cups 1\nwheel 1234567890123\n")) (fCons (fC (.str " cups 1\nwheel -\n")) fNil)))))))
  rest))))
def z83I : F Ita := (fIt gRange1 (fCons (fCall gMax2 (fCons (fC (.int 1)) (fCons (fCall gMin2 (fCons (fCall gLen (fCons (fVar 0) fNil)) (fCons (fC (.int 4)) fNil))) fNil))) fNil))
theorem z83_body : b_law_f49a3b = z83set (sSeq (sFor z83I (.name 2) z83b) (sRet (fC (.bl true)))) := rfl
theorem set83 {rest : FS} {r : RS} (h : rest [some (.scr ns), some (.lst (fix83.map D.str)), none, none, none, none, none, none, none, none] [] = r) : z83set rest (startA 10 [.scr ns]) [] = r := by
  unfold z83set
  have s1 : sSet 1 (fLst (fCons (fC (.str "")) (fCons (fC (.str "\n")) (fCons (fC (.str "cups 0")) (fCons (fC (.str "cups 0\n")) (fCons (fC (.str "cups 5\nwheel -\n")) (fCons (fC (.str "cups 1\nwheel\n")) (fCons (fC (.str "cups 1\nwheel 1\nwheel 0\n")) fNil)))))))) (startA 10 [.scr ns]) [] = .ok (.nx [some (.scr ns), some (.lst (fix1.map D.str)), none, none, none, none, none, none, none, none]) [] := rfl
  have s2 : sSet 1 (fBin gAdd (fVar 1) (fLst (fCons (fC (.str "cups 1\nwheel 2\n")) (fCons (fC (.str "cups 01\nwheel -\n")) (fCons (fC (.str "cups 1\ncups 1\n")) (fCons (fC (.str "wheel -\ncups 1\n")) (fCons (fC (.str "cups 1 1\n")) fNil))))))) [some (.scr ns), some (.lst (fix1.map D.str)), none, none, none, none, none, none, none, none] [] = .ok (.nx [some (.scr ns), some (.lst ((fix1 ++ fix2).map D.str)), none, none, none, none, none, none, none, none]) [] := (set_ev (addL83 (ps := fix1) (qs := fix2) (var_ev rfl) rfl (by decide))).trans rfl
  have s3 : sSet 1 (fBin gAdd (fVar 1) (fLst (fCons (fC (.str "cups 1\nwheel - \n")) (fCons (fC (.str "cups 1\nwheel 0,\n")) (fCons (fC (.str "cups 1\nwheel 0,-\n")) (fCons (fC (.str "cups 1\nwheel 1,1,1,1\n")) fNil)))))) [some (.scr ns), some (.lst ((fix1 ++ fix2).map D.str)), none, none, none, none, none, none, none, none] [] = .ok (.nx [some (.scr ns), some (.lst ((fix1 ++ fix2 ++ fix3).map D.str)), none, none, none, none, none, none, none, none]) [] := (set_ev (addL83 (ps := fix1 ++ fix2) (qs := fix3) (var_ev rfl) rfl (by decide))).trans rfl
  have s4 : sSet 1 (fBin gAdd (fVar 1) (fLst (fCons (fC (.str "cups 1\nwheel - - - - -\n")) (fCons (fC (.str "cups 1\n\n")) (fCons (fC (.str "cups 1\nwheel 1234567890123\n")) (fCons (fC (.str " cups 1\nwheel -\n")) fNil)))))) [some (.scr ns), some (.lst ((fix1 ++ fix2 ++ fix3).map D.str)), none, none, none, none, none, none, none, none] [] = .ok (.nx [some (.scr ns), some (.lst (fix83.map D.str)), none, none, none, none, none, none, none, none]) [] := (set_ev (addL83 (ps := fix1 ++ fix2 ++ fix3) (qs := fix4) (var_ev rfl) rfl (by decide))).trans rfl
  exact (seq_nx s1).trans ((seq_nx s2).trans ((seq_nx s3).trans ((seq_nx s4).trans h)))
theorem th83 {l : List (Nat × D)} (hw : Wf M) (hd : T83 d) (hs : Has σ 10 ((6, d) :: l)) (hl : ∀ q ∈ l, q.1 ≠ 6 ∧ q.1 ≠ 7 ∧ q.1 ≠ 8) : ∃ σ', z83th σ M = .ok (.nx σ') M ∧ Has σ' 10 l := by
  obtain ⟨r, hr, hu, e1, e2⟩ := due83 (M := M) hw hd
  obtain ⟨s, ss, er⟩ := hr.repr (by decide) (by decide)
  have s7 : sSet 7 (fCall m_law_read_1c5c72 (fCons (fVar 6) fNil)) σ M = .ok (.nx (σ.set 7 (some r))) M := set_ev ((call1_ev (var_ev (hs.at (i := 6) (d := d) (by simp)))).trans e1)
  have h7 : Has (σ.set 7 (some r)) 10 ((7, r) :: (6, d) :: l) := hs.put (by decide) (fun q hq => by
    rcases List.mem_cons.mp hq with rfl | hq
    · simp
    · exact (hl q hq).2.1)
  generalize σ.set 7 (some r) = σ1 at s7 h7
  obtain ⟨σ2, M2, f2, rfl, h2⟩ := for_nums (b := z83lap) (n := M.length) (m := 2) (i := 8) (σ := σ1) (M := M) (fun j σ N => N = M ∧ Has σ 10 ((7, r) :: (6, d) :: l)) ⟨rfl, h7⟩ (fun j σ N hj hv => by
    obtain ⟨rfl, hI⟩ := hv
    have hI8 : Has (σ.set 8 (some (.int (j : Int)))) 10 ((7, r) :: (6, d) :: l) := hI.set (fun q hq => by
      rcases List.mem_cons.mp hq with rfl | hq
      · simp
      · rcases List.mem_cons.mp hq with rfl | hq
        · simp
        · exact (hl q hq).2.2)
    generalize σ.set 8 (some (D.int (j : Int))) = σ8 at hI8
    refine ⟨σ8, N, .inl (pass9 (test_ev ((bin_ev (a := .str s) (b := .str s) ((call1_ev (e2 σ8 (hI8.at (by simp)))).trans (er N)) ((call1_ev (a := r) (var_ev (hI8.at (by simp)))).trans (er N))).trans (gNe_str ss)))), ?_⟩
    rw [gc_same rfl]
    exact ⟨rfl, hI8⟩)
  exact ⟨σ2, (seq_nx s7).trans (for_of (range1_ev (M1 := M2) (n := 2) (j := 2) rfl (by decide) (by decide) rfl) f2), h2.sub (fun q hq => List.mem_cons_of_mem _ (List.mem_cons_of_mem _ hq))⟩
theorem nums_int : ∀ (n : Nat) (lo : Int) (im : Im), im ∈ nums lo n → ∃ i : Int, im = .d (.int i)
  | 0, _, im, h => by cases h
  | n + 1, lo, im, h => by
    rcases List.mem_cons.mp h with rfl | h
    · exact ⟨_, rfl⟩
    · exact nums_int n _ im h
theorem odds_T : ∀ d ∈ odds82, T83 d := by
  intro d hd
  have hu := (odds82_good d hd).und
  simp only [odds82, List.mem_cons, List.not_mem_nil, or_false] at hd
  rcases hd with rfl | rfl | rfl | rfl | rfl | rfl | rfl | rfl | rfl | rfl | rfl | rfl | rfl | rfl | rfl | rfl <;> first | exact .inr ⟨trivial, hu⟩ | exact .inl ⟨_, rfl, by decide, by decide⟩
theorem z83b_eq {j : Nat} (hs : Has σ 10 [(2, .int (j : Int)), (1, .lst (fix83.map D.str)), (0, .scr ns)]) : ∃ σ' y, z83b σ [] = .ok (.nx σ') [y] ∧ Has σ' 10 [(1, .lst (fix83.map D.str)), (0, .scr ns)] := by
  obtain ⟨x, e1, o1⟩ := m_pen_eq (c := ns.getD j 0) (M := [])
  have s0 : sSet 3 (fCall m_law_pen_579b16 (fCons (fCall m_law_cell_at_e50a56 (fCons (fVar 0) (fCons (fVar 2) fNil))) fNil)) σ [] = .ok (.nx (σ.set 3 (some (.ref 0)))) [x] := set_ev ((call1_ev (M1 := []) (a := .int (ns.getD j 0)) ((call2_ev (a := .scr ns) (b := .int (j : Int)) (var_ev (hs.at (by simp))) (var_ev (hs.at (by simp)))).trans m_cell_at_eq)).trans e1)
  have hs0 : Has (σ.set 3 (some (.ref 0))) 10 [(3, .ref 0), (1, .lst (fix83.map D.str)), (0, .scr ns)] := (hs.sub (l' := [(1, .lst (fix83.map D.str)), (0, .scr ns)]) (by simp +contextual)).put (by decide) (by simp)
  generalize σ.set 3 (some (D.ref 0)) = σ0 at s0 hs0
  obtain ⟨ws, c, x1, e2, hb, _, _, o2⟩ := m_law_board_eq (p := 0) (k := 400) (most := 6) (M := [x]) (x := x) rfl (wf1 o1) (o1.less (by omega)) (by decide) (by decide)
  have e2' : m_law_board_049704 [.ref 0, .int 6] [x] = .ok (boardT ws c) [x1] := e2
  have s1 : sSet 4 (fCall m_law_text_24ce07 (fCons (fCall m_law_board_049704 (fCons (fVar 3) (fCons (fC (.int 6)) fNil))) fNil)) σ0 [x] = .ok (.nx (σ0.set 4 (some (.str (boardS ws c))))) [x1] := set_ev ((call1_ev (a := boardT ws c) ((call2_ev (a := .ref 0) (b := .int 6) (var_ev (hs0.at (by simp))) rfl).trans e2')).trans (m_text82 (wf1 o2) hb))
  have hs1 : Has (σ0.set 4 (some (.str (boardS ws c)))) 10 [(4, .str (boardS ws c)), (3, .ref 0), (1, .lst (fix83.map D.str)), (0, .scr ns)] := hs0.put (by decide) (by simp)
  generalize σ0.set 4 (some (D.str (boardS ws c))) = σ1 at s1 hs1
  have ha : Asc 253 (boardS ws c) := ⟨boardS_chars hb, boardS_len hb⟩
  generalize boardS ws c = t at s1 hs1 ha
  obtain ⟨u, x2, e3, hu, o3⟩ := m_odd82_eq (p := 0) (k := 300) (M := [x1]) (x := x1) rfl (o2.less (by omega))
  have e3' : m_law_odd_ee5538 [.ref 0] [x1] = .ok u [x2] := e3
  have el : fLst (fCons (fVar 4) (fCons (fC .non) (fCons (fC (.int 7)) (fCons (fLst (fCons (fVar 4) fNil)) (fCons (fC (.dct [] [])) (fCons (fCall m_law_odd_ee5538 (fCons (fVar 3) fNil)) fNil)))))) σ1 [x1] = .ok (.lst [.str t, .non, .int 7, .lst [.str t], .dct [] [], u]) [x2] := by
    have ei : fLst (fCons (fVar 4) fNil) σ1 [x1] = .ok (.lst [.str t]) [x1] := by
      rw [ev_lst, ev_cons, var_ev (hs1.at (i := 4) (d := .str t) (by simp)), bind_ok, ev_nil, bind_ok, bind_ok]
      rfl
    rw [ev_lst, ev_cons, var_ev (hs1.at (i := 4) (d := .str t) (by simp)), bind_ok, ev_cons, ev_c, bind_ok, ev_cons, ev_c, bind_ok, ev_cons, ei, bind_ok, ev_cons, ev_c, bind_ok, ev_cons, (call1_ev (a := .ref 0) (var_ev (hs1.at (by simp)))).trans e3', bind_ok, ev_nil, bind_ok, bind_ok, bind_ok, bind_ok, bind_ok, bind_ok, bind_ok]
    rfl
  have s2 : sSet 5 (fBin gAdd (fVar 1) (fLst (fCons (fVar 4) (fCons (fC .non) (fCons (fC (.int 7)) (fCons (fLst (fCons (fVar 4) fNil)) (fCons (fC (.dct [] [])) (fCons (fCall m_law_odd_ee5538 (fCons (fVar 3) fNil)) fNil)))))))) σ1 [x1] = .ok (.nx (σ1.set 5 (some (.lst (fix83.map D.str ++ [.str t, .non, .int 7, .lst [.str t], .dct [] [], u]))))) [x2] := set_ev ((bin_ev (a := .lst (fix83.map D.str)) (var_ev (hs1.at (by simp))) el).trans (gAdd_lst.trans (if_pos (by show few ((fix83.map D.str).length + 6) = true; rw [List.length_map]; decide))))
  have hT : ∀ d ∈ fix83.map D.str ++ [.str t, .non, .int 7, .lst [.str t], .dct [] [], u], T83 d := fun d hd => by
    rcases List.mem_append.mp hd with hd | hd
    · obtain ⟨q, hq, rfl⟩ := List.mem_map.mp hd
      exact .inl ⟨q, rfl, (fix_asc q hq).mono (by decide)⟩
    · simp only [List.mem_cons, List.not_mem_nil, or_false] at hd
      rcases hd with rfl | rfl | rfl | rfl | rfl | rfl
      · exact .inl ⟨t, rfl, ha.mono (by decide)⟩
      · exact .inr ⟨trivial, fun _ => rfl⟩
      · exact .inr ⟨trivial, fun _ => rfl⟩
      · exact .inr ⟨trivial, fun _ => rfl⟩
      · exact .inr ⟨trivial, fun _ => rfl⟩
      · exact odds_T _ hu
  have hlen : (fix83.map D.str ++ [.str t, .non, .int 7, .lst [.str t], .dct [] [], u]).length = 26 := by
    rw [List.length_append, List.length_map]
    rfl
  generalize fix83.map D.str ++ [.str t, .non, .int 7, .lst [.str t], .dct [] [], u] = LL at s2 hT hlen
  have hs2 : Has (σ1.set 5 (some (.lst LL))) 10 [(5, .lst LL), (4, .str t), (3, .ref 0), (1, .lst (fix83.map D.str)), (0, .scr ns)] := hs1.put (by decide) (by simp)
  generalize σ1.set 5 (some (D.lst LL)) = σ2 at s2 hs2
  have hl9 : 9 < σ2.length := by rw [hs2.1]; decide
  obtain ⟨ds, x3, ec, hdl, hR, o4⟩ := comp_pen (M0 := [x2]) (p := 0) (x := x2) (x1 := x2) (g := []) (k := 100) (b := 6) (σ := σ2) (fi := fIt gRange1 (fCons (fC (.int 16)) fNil)) (vs := [9]) (t := .name 9) (e := fCall m_law_spoilt_0c0464 (fCons (fVar 3) (fCons (fVar 4) fNil))) (fun _ d => ∃ t', d = .str t' ∧ Asc 200000 t') (by simp) (it := ⟨nums 0 16, fun _ => true⟩) (range1_ev (n := 16) (j := 16) rfl (by decide) (by decide) rfl) (fun _ => rfl) (by show Wf [x2]; exact wf1 o3) (by show (nums 0 16).length ≤ _; decide) (o3.less (by show 100 + 6 * (nums 0 16).length ≤ 300; decide)) (fun im d n h => by obtain ⟨t', rfl, _⟩ := h; rfl) (fun im him jj y g' oy wy => by
    obtain ⟨t', c', e, h1, h2⟩ := m_spoilt (p := 0) (k := jj) (M := y :: g') (c := y) (t := t) wy rfl oy ha
    refine ⟨(wipeA σ2 [9]).set 9 (some (match im with | .d d => d | _ => .non)), ?_, .str t', c', ?_, ⟨t', rfl, h1⟩, h2⟩
    · have : ∃ i : Int, im = .d (.int i) := by
        exact nums_int 16 0 im him
      obtain ⟨i, rfl⟩ := this
      rfl
    · have g3 := hs2.at (i := 3) (d := .ref 0) (by simp)
      have g4 := hs2.at (i := 4) (d := .str t) (by simp)
      refine (call2_ev (a := .ref 0) (b := .str t) (M1 := y :: g') (M2 := y :: g') (var_ev ?_) (var_ev ?_)).trans e
      · simpa [wipeA] using g3
      · simpa [wipeA] using g4)
  have ec' : fTrim (fCompC (fIt gRange1 (fCons (fC (.int 16)) fNil)) [9] (.name 9) fYes (fCall m_law_spoilt_0c0464 (fCons (fVar 3) (fCons (fVar 4) fNil)))) σ2 [x2] = .ok (.lst ds) [x3] := ec
  have hd16 : ds.length = 16 := hdl
  have hD : ∀ d ∈ ds, T83 d := fun d hd => by
    obtain ⟨i, hi⟩ := List.mem_iff_getElem?.mp hd
    have hil : i < 16 := by rw [← hd16]; exact (List.getElem?_eq_some_iff.mp hi).1
    have hn : (nums 0 16).length = 16 := by decide
    obtain ⟨t', rfl, h⟩ := hR i _ d (List.getElem?_eq_getElem (by show i < (nums 0 16).length; omega)) hi
    exact .inl ⟨t', rfl, h⟩
  have hit : z83it σ2 [x2] = .ok ⟨(LL ++ ds).map Im.d, fun _ => true⟩ [x3] := by
    unfold z83it
    rw [ev_iter, (bin_ev (a := .lst LL) (b := .lst ds) (var_ev (hs2.at (by simp))) ec').trans (gAdd_lst.trans (if_pos (by rw [hlen, hd16]; decide))), bind_ok, gIter_lst]
  have hw3 := wf1 o4
  obtain ⟨σ3, M3, f3, rfl, hs3⟩ := for_items (b := z83th) (n := 1) (i := 6) (σ := σ2) (M := [x3]) (ds := LL ++ ds) (fun _ σ N => N = [x3] ∧ Has σ 10 [(5, .lst LL), (4, .str t), (3, .ref 0), (1, .lst (fix83.map D.str)), (0, .scr ns)]) ⟨rfl, hs2⟩ (fun i σ N d hd hv => by
    obtain ⟨rfl, hI⟩ := hv
    have hm := List.mem_of_getElem? hd
    obtain ⟨σ', h1, h2⟩ := th83 (σ := σ.set 6 (some d)) hw3 ((List.mem_append.mp hm).elim (hT d) (hD d)) (hI.put (i := 6) (d := d) (by decide) (by simp)) (by simp)
    refine ⟨σ', _, .inl h1, ?_⟩
    rw [gc_same (by simp)]
    exact ⟨rfl, h2⟩)
  exact ⟨σ3, x3, (seq_nx s0).trans ((seq_nx s1).trans ((seq_nx s2).trans (for_of hit f3))), hs3.sub (by simp +contextual)⟩
theorem law_true83 (ns : List Int) (hn : ns.length ≤ 63) : ∃ M, m_law_f49a3b [.scr ns] [] = .ok (.bl true) M := by
  have hr : ∃ m : Nat, z83I [some (.scr ns), some (.lst (fix83.map D.str)), none, none, none, none, none, none, none, none] [] = .ok ⟨nums 0 m, fun _ => true⟩ [] := by
    refine ⟨_, range1_ev (j := if (if (4 : Int) < ns.length then 4 else (ns.length : Int)) > 1 then (if (4 : Int) < ns.length then 4 else (ns.length : Int)) else 1) ?_ ?_ ?_ rfl⟩
    · simp
    · split <;> (try split) <;> omega
    · split <;> (try split) <;> omega
  obtain ⟨m, hr⟩ := hr
  obtain ⟨σ2, M2, f2, rfl, hs2⟩ := for_nums (b := z83b) (n := 0) (m := m) (i := 2) (σ := [some (.scr ns), some (.lst (fix83.map D.str)), none, none, none, none, none, none, none, none]) (M := []) (fun j σ N => N = [] ∧ Has σ 10 [(1, .lst (fix83.map D.str)), (0, .scr ns)]) ⟨rfl, rfl, fun q hq => by
      simp only [List.mem_cons, List.mem_nil_iff, or_false] at hq
      rcases hq with rfl | rfl <;> rfl⟩ (fun j σ N hj hv => by
    obtain ⟨rfl, hs⟩ := hv
    obtain ⟨σ', y, g1, g2⟩ := z83b_eq (ns := ns) (j := j) (σ := σ.set 2 (some (.int (j : Int)))) (hs.put (by decide) (by simp))
    refine ⟨σ', _, .inl g1, ?_⟩
    have := gc_app (n := 0) (σ := σ') (M := []) (g := [y]) rfl Wf.nil (by simp)
    rw [List.nil_append] at this
    rw [this]
    exact ⟨rfl, g2.keep (by
      intro q hq
      simp only [List.mem_cons, List.mem_nil_iff, or_false] at hq
      rcases hq with rfl | rfl
      · exact undA_of fun d hd => by
          obtain ⟨q, _, rfl⟩ := List.mem_map.mp hd
          rfl
      · rfl)⟩)
  have sb : b_law_f49a3b (startA 10 [.scr ns]) [] = .ok (.rt (.bl true)) [] := by
    rw [z83_body]
    exact set83 ((seq_nx (for_of (M1 := []) hr f2)).trans (ret_ev rfl))
  refine ⟨[], ?_⟩
  show runD 10 1 b_law_f49a3b [.scr ns] [] = _
  unfold runD
  rw [sb]
  simp
end QX
namespace Q83
theorem law_true (ns : List Int) (hn : ns.length ≤ 63) : ∃ M, QX.m_law_f49a3b [.scr ns] [] = .ok (.bl true) M := QX.law_true83 ns hn
end Q83
set_option maxRecDepth 100000
set_option maxHeartbeats 1000000
open PySem PySem.W PyProof.Rows
set_option maxHeartbeats 0 in
theorem PySem.Challenge.cw_marblefall_k83_texts_that_write_none_holds : PySem.Challenge.rw_marblefall_k83_texts_that_write_none.Holds := by
  w_on; o_law; k_head; (case hw => w_witness2)
  k_fill
  refine HX.walk_ofTG (l := PySem.Challenge.rw_marblefall_k83_texts_that_write_none) (n := 63) (k := 9) (x := "_law_script") rfl (by decide) rfl ⟨rfl, by decide, by decide⟩ ?I (fun w h Y => PySem.W.km_in_of Y) ?F
  case I => first | rfl | decide +kernel
  case F =>
    intro w mg fa h KX G hmg tabs
    obtain ⟨t_MOST_WHEELS, g_MOST_WHEELS⟩ : ∃ t, mg "MOST_WHEELS" = some (.int 6 t) := by
      refine' HX.gint_mk KX G ?a
      (case a => k_is)
    obtain ⟨t_MOST_CUPS, g_MOST_CUPS⟩ : ∃ t, mg "MOST_CUPS" = some (.int 4 t) := by
      refine' HX.gint_mk KX G ?a
      (case a => k_is)
    obtain ⟨t_MOST_STEPS, g_MOST_STEPS⟩ : ∃ t, mg "MOST_STEPS" = some (.int 4 t) := by
      refine' HX.gint_mk KX G ?a
      (case a => k_is)
    obtain ⟨t_MOST_ENDS, g_MOST_ENDS⟩ : ∃ t, mg "MOST_ENDS" = some (.int 3 t) := by
      refine' HX.gint_mk KX G ?a
      (case a => k_is)
    obtain ⟨t_MOST_FIGURES, g_MOST_FIGURES⟩ : ∃ t, mg "MOST_FIGURES" = some (.int 13 t) := by
      refine' HX.gint_mk KX G ?a
      (case a => k_is)
    obtain ⟨t_FIGURES, g_FIGURES⟩ : ∃ t, mg "FIGURES" = some (.str "0123456789" t) := by
      refine' QX.gstr_mk KX G ?a
      (case a => k_is)
    refine' HX.def_cut (x := "_law_pen") (st := Q83.s__law_pen) (ps := ["_law_cell"]) KX G ?a ?l ?c ?k ?b (fun d__law_pen => ?z__law_pen)
    (case a => k_is); (case l => k_is); (case c => k_is); (case k => k_is); (case b => exact fun _ _ _ _ _ _ us hl => match us, hl with | [_], _ => rfl)
    refine' HX.def_cut (x := "_law_text") (st := Q83.s__law_text) (ps := ["_law_board_here"]) KX G ?a ?l ?c ?k ?b (fun d__law_text => ?z__law_text)
    (case a => k_is); (case l => k_is); (case c => k_is); (case k => k_is); (case b => exact fun _ _ _ _ _ _ us hl => match us, hl with | [_], _ => rfl)
    refine' HX.def_cut (x := "_law_cell_at") (st := Q83.s__law_cell_at) (ps := ["_law_script", "_law_k"]) KX G ?a ?l ?c ?k ?b (fun d__law_cell_at => ?z__law_cell_at)
    (case a => k_is); (case l => k_is); (case c => k_is); (case k => k_is); (case b => exact fun _ _ _ _ _ _ us hl => match us, hl with | [_, _], _ => rfl)
    refine' HX.def_cut (x := "_law_draw") (st := Q83.s__law_draw) (ps := ["_law_pen_here", "_law_many"]) KX G ?a ?l ?c ?k ?b (fun d__law_draw => ?z__law_draw)
    (case a => k_is); (case l => k_is); (case c => k_is); (case k => k_is); (case b => exact fun _ _ _ _ _ _ us hl => match us, hl with | [_, _], _ => rfl)
    refine' HX.def_cut (x := "_law_board") (st := Q83.s__law_board) (ps := ["_law_pen_here", "_law_most"]) KX G ?a ?l ?c ?k ?b (fun d__law_board => ?z__law_board)
    (case a => k_is); (case l => k_is); (case c => k_is); (case k => k_is); (case b => exact fun _ _ _ _ _ _ us hl => match us, hl with | [_, _], _ => rfl)
    refine' HX.def_cut (x := "_law_figures") (st := Q83.s__law_figures) (ps := ["_law_word_here"]) KX G ?a ?l ?c ?k ?b (fun d__law_figures => ?z__law_figures)
    (case a => k_is); (case l => k_is); (case c => k_is); (case k => k_is); (case b => exact fun _ _ _ _ _ _ us hl => match us, hl with | [_], _ => rfl)
    refine' HX.def_cut (x := "_law_line_in") (st := Q83.s__law_line_in) (ps := ["_law_line", "_law_number"]) KX G ?a ?l ?c ?k ?b (fun d__law_line_in => ?z__law_line_in)
    (case a => k_is); (case l => k_is); (case c => k_is); (case k => k_is); (case b => exact fun _ _ _ _ _ _ us hl => match us, hl with | [_, _], _ => rfl)
    refine' HX.def_cut (x := "_law_whole") (st := Q83.s__law_whole) (ps := ["_law_thing"]) KX G ?a ?l ?c ?k ?b (fun d__law_whole => ?z__law_whole)
    (case a => k_is); (case l => k_is); (case c => k_is); (case k => k_is); (case b => exact fun _ _ _ _ _ _ us hl => match us, hl with | [_], _ => rfl)
    refine' HX.def_cut (x := "_law_within") (st := Q83.s__law_within) (ps := ["_law_thing", "_law_low", "_law_high"]) KX G ?a ?l ?c ?k ?b (fun d__law_within => ?z__law_within)
    (case a => k_is); (case l => k_is); (case c => k_is); (case k => k_is); (case b => exact fun _ _ _ _ _ _ us hl => match us, hl with | [_, _, _], _ => rfl)
    refine' HX.def_cut (x := "_law_is_wheel") (st := Q83.s__law_is_wheel) (ps := ["_law_thing", "_law_ends"]) KX G ?a ?l ?c ?k ?b (fun d__law_is_wheel => ?z__law_is_wheel)
    (case a => k_is); (case l => k_is); (case c => k_is); (case k => k_is); (case b => exact fun _ _ _ _ _ _ us hl => match us, hl with | [_, _], _ => rfl)
    refine' HX.def_cut (x := "_law_is_board") (st := Q83.s__law_is_board) (ps := ["_law_thing"]) KX G ?a ?l ?c ?k ?b (fun d__law_is_board => ?z__law_is_board)
    (case a => k_is); (case l => k_is); (case c => k_is); (case k => k_is); (case b => exact fun _ _ _ _ _ _ us hl => match us, hl with | [_], _ => rfl)
    refine' HX.def_cut (x := "_law_read") (st := Q83.s__law_read) (ps := ["_law_text_here"]) KX G ?a ?l ?c ?k ?b (fun d__law_read => ?z__law_read)
    (case a => k_is); (case l => k_is); (case c => k_is); (case k => k_is); (case b => exact fun _ _ _ _ _ _ us hl => match us, hl with | [_], _ => rfl)
    refine' HX.def_cut (x := "_law_odd") (st := Q83.s__law_odd) (ps := ["_law_pen_here"]) KX G ?a ?l ?c ?k ?b (fun d__law_odd => ?z__law_odd)
    (case a => k_is); (case l => k_is); (case c => k_is); (case k => k_is); (case b => exact fun _ _ _ _ _ _ us hl => match us, hl with | [_], _ => rfl)
    refine' HX.def_cut (x := "_law_spoilt") (st := Q83.s__law_spoilt) (ps := ["_law_pen_here", "_law_text_here"]) KX G ?a ?l ?c ?k ?b (fun d__law_spoilt => ?z__law_spoilt)
    (case a => k_is); (case l => k_is); (case c => k_is); (case k => k_is); (case b => exact fun _ _ _ _ _ _ us hl => match us, hl with | [_, _], _ => rfl)
    refine' HX.def_cut (x := "is_number_text") (st := Q83.s_is_number_text) (ps := ["text"]) KX G ?a ?l ?c ?k ?b (fun d_is_number_text => ?z_is_number_text)
    (case a => k_is); (case l => k_is); (case c => k_is); (case k => k_is); (case b => exact fun _ _ _ _ _ _ us hl => match us, hl with | [_], _ => rfl)
    refine' HX.def_cut (x := "read_cups") (st := Q83.s_read_cups) (ps := ["line"]) KX G ?a ?l ?c ?k ?b (fun d_read_cups => ?z_read_cups)
    (case a => k_is); (case l => k_is); (case c => k_is); (case k => k_is); (case b => exact fun _ _ _ _ _ _ us hl => match us, hl with | [_], _ => rfl)
    refine' HX.def_cut (x := "read_step") (st := Q83.s_read_step) (ps := ["text"]) KX G ?a ?l ?c ?k ?b (fun d_read_step => ?z_read_step)
    (case a => k_is); (case l => k_is); (case c => k_is); (case k => k_is); (case b => exact fun _ _ _ _ _ _ us hl => match us, hl with | [_], _ => rfl)
    refine' HX.def_cut (x := "read_wheel") (st := Q83.s_read_wheel) (ps := ["line"]) KX G ?a ?l ?c ?k ?b (fun d_read_wheel => ?z_read_wheel)
    (case a => k_is); (case l => k_is); (case c => k_is); (case k => k_is); (case b => exact fun _ _ _ _ _ _ us hl => match us, hl with | [_], _ => rfl)
    refine' HX.def_cut (x := "has_parts") (st := Q83.s_has_parts) (ps := ["thing", "least", "most"]) KX G ?a ?l ?c ?k ?b (fun d_has_parts => ?z_has_parts)
    (case a => k_is); (case l => k_is); (case c => k_is); (case k => k_is); (case b => exact fun _ _ _ _ _ _ us hl => match us, hl with | [_, _, _], _ => rfl)
    refine' HX.def_cut (x := "is_whole") (st := Q83.s_is_whole) (ps := ["thing"]) KX G ?a ?l ?c ?k ?b (fun d_is_whole => ?z_is_whole)
    (case a => k_is); (case l => k_is); (case c => k_is); (case k => k_is); (case b => exact fun _ _ _ _ _ _ us hl => match us, hl with | [_], _ => rfl)
    refine' HX.def_cut (x := "is_within") (st := Q83.s_is_within) (ps := ["thing", "least", "most"]) KX G ?a ?l ?c ?k ?b (fun d_is_within => ?z_is_within)
    (case a => k_is); (case l => k_is); (case c => k_is); (case k => k_is); (case b => exact fun _ _ _ _ _ _ us hl => match us, hl with | [_, _, _], _ => rfl)
    refine' HX.def_cut (x := "is_step") (st := Q83.s_is_step) (ps := ["thing", "ends"]) KX G ?a ?l ?c ?k ?b (fun d_is_step => ?z_is_step)
    (case a => k_is); (case l => k_is); (case c => k_is); (case k => k_is); (case b => exact fun _ _ _ _ _ _ us hl => match us, hl with | [_, _], _ => rfl)
    refine' HX.def_cut (x := "is_wheel") (st := Q83.s_is_wheel) (ps := ["thing", "ends"]) KX G ?a ?l ?c ?k ?b (fun d_is_wheel => ?z_is_wheel)
    (case a => k_is); (case l => k_is); (case c => k_is); (case k => k_is); (case b => exact fun _ _ _ _ _ _ us hl => match us, hl with | [_, _], _ => rfl)
    refine' HX.def_cut (x := "is_board") (st := Q83.s_is_board) (ps := ["thing"]) KX G ?a ?l ?c ?k ?b (fun d_is_board => ?z_is_board)
    (case a => k_is); (case l => k_is); (case c => k_is); (case k => k_is); (case b => exact fun _ _ _ _ _ _ us hl => match us, hl with | [_], _ => rfl)
    refine' HX.def_cut (x := "read_board") (st := Q83.s_read_board) (ps := ["text"]) KX G ?a ?l ?c ?k ?b (fun d_read_board => ?z_read_board)
    (case a => k_is); (case l => k_is); (case c => k_is); (case k => k_is); (case b => exact fun _ _ _ _ _ _ us hl => match us, hl with | [_], _ => rfl)
    have z_len : mg "len" = none := by
      refine' PySem.W.mg_none_of KX G ?a
      (case a => k_is)
    have z_isinstance : mg "isinstance" = none := by
      refine' PySem.W.mg_none_of KX G ?a
      (case a => k_is)
    have z_int : mg "int" = none := by
      refine' PySem.W.mg_none_of KX G ?a
      (case a => k_is)
    have z_bool : mg "bool" = none := by
      refine' PySem.W.mg_none_of KX G ?a
      (case a => k_is)
    have z_tuple : mg "tuple" = none := by
      refine' PySem.W.mg_none_of KX G ?a
      (case a => k_is)
    have z_list : mg "list" = none := by
      refine' PySem.W.mg_none_of KX G ?a
      (case a => k_is)
    have z_all : mg "all" = none := by
      refine' PySem.W.mg_none_of KX G ?a
      (case a => k_is)
    have z_range : mg "range" = none := by
      refine' PySem.W.mg_none_of KX G ?a
      (case a => k_is)
    have z_max : mg "max" = none := by
      refine' PySem.W.mg_none_of KX G ?a
      (case a => k_is)
    have z_min : mg "min" = none := by
      refine' PySem.W.mg_none_of KX G ?a
      (case a => k_is)
    have z_repr : mg "repr" = none := by
      refine' PySem.W.mg_none_of KX G ?a
      (case a => k_is)
    have B : HX.Bi mg := ⟨z_len, z_isinstance, z_int, z_bool, z_tuple, z_list, z_all, z_range, z_max, z_min, z_repr⟩
    have z_zip : mg "zip" = none := by
      refine' PySem.W.mg_none_of KX G ?a
      (case a => k_is)
    have z_enumerate : mg "enumerate" = none := by
      refine' PySem.W.mg_none_of KX G ?a
      (case a => k_is)
    have z_sum : mg "sum" = none := by
      refine' PySem.W.mg_none_of KX G ?a
      (case a => k_is)
    have B2 : HX.Bi2 mg := ⟨z_zip, z_enumerate, z_sum⟩
    have z_ValueError : mg "ValueError" = none := by
      refine' PySem.W.mg_none_of KX G ?a
      (case a => k_is)
    have B4 : HX.Bi4 mg := ⟨z_ValueError⟩
    have z_str : mg "str" = none := by
      refine' PySem.W.mg_none_of KX G ?a
      (case a => k_is)
    have z_reversed : mg "reversed" = none := by
      refine' PySem.W.mg_none_of KX G ?a
      (case a => k_is)
    have B6 : QX.Bi6 mg := ⟨z_str, z_reversed⟩
    refine' HX.def_cut (x := "_law_word") (st := Q83.s__law_word) (ps := ["_law_e"]) KX G ?a ?l ?c ?k ?b (fun d__law_word => ?z__law_word)
    (case a => k_is); (case l => k_is); (case c => k_is); (case k => k_is); (case b => exact fun _ _ _ _ _ _ us hl => match us, hl with | [_], _ => rfl)
    refine' HX.def_cut (x := "_law_said") (st := Q83.s__law_said) (ps := ["_law_call"]) KX G ?a ?l ?c ?k ?b (fun d__law_said => ?z__law_said)
    (case a => k_is); (case l => k_is); (case c => k_is); (case k => k_is); (case b => exact fun _ _ _ _ _ _ us hl => match us, hl with | [_], _ => rfl)
    refine' HX.cls_cut KX G ?a0 ?a1 ?a2 ?a3 ?a4 ?a5 ?a6 ?a7 ?a8 ?a9 ?a10 ?a11 ?a12 ?a13 ?a14 ?a15 ?a16 ?a17 ?a18 ?a19 ?a20 ?aM (fun G21 g0 g1 g2 g3 g4 g5 g6 g7 g8 g9 g10 g11 g12 g13 g14 g15 g16 g17 g18 g19 g20 hM => ?zC)
    (case a0 => k_is); (case a1 => k_is); (case a2 => k_is); (case a3 => k_is); (case a4 => k_is); (case a5 => k_is); (case a6 => k_is); (case a7 => k_is); (case a8 => k_is); (case a9 => k_is); (case a10 => k_is); (case a11 => k_is); (case a12 => k_is); (case a13 => k_is); (case a14 => k_is); (case a15 => k_is); (case a16 => k_is); (case a17 => k_is); (case a18 => k_is); (case a19 => k_is); (case a20 => k_is); (case aM => k_is)
    refine' HX.txt_cut (P := PySem.Challenge.rw_marblefall_k83_texts_that_write_none.prog) KX G g0 g1 g2 g3 g4 g5 g6 g7 g8 g9 g10 g11 g12 g13 g14 g15 g16 g17 g18 g19 g20 hM ?ox ?sa ?kC ?sb ?ty ?e1 ?e2 ?e3 ?e4 ?e5 ?e6 ?e7 ?ve ?xm ?k0 ?k1 ?k2 ?k3 ?k4 ?k5 ?k6 ?k7 ?k8 ?k9 ?k10 ?k11 ?k12 ?k13 ?k14 ?k15 ?k16 ?k17 ?k18 ?k19 ?k20 ?fm ?sp ?op ?iv ?mr ?tp ?gs ?fi ?ft ?i1 ?i2 ?i3 ?i4 ?i5 ?i6 ?i7 ?i8 ?i9 ?ib (fun TM xy => ?zTM)
    (case ox => kernel_rfl)
    (case sa => k_is)
    (case kC => k_is)
    (case sb => k_is)
    (case ty => k_is)
    (case e1 => k_is)
    (case e2 => k_is)
    (case e3 => k_is)
    (case e4 => k_is)
    (case e5 => k_is)
    (case e6 => k_is)
    (case e7 => k_is)
    (case ve => kit_is)
    (case xm => kts_exm)
    (case k0 => kit_is)
    (case k1 => kit_is)
    (case k2 => kit_is)
    (case k3 => kit_is)
    (case k4 => kit_is)
    (case k5 => kit_is)
    (case k6 => kit_is)
    (case k7 => kit_is)
    (case k8 => kit_is)
    (case k9 => kit_is)
    (case k10 => kit_is)
    (case k11 => kit_is)
    (case k12 => kit_is)
    (case k13 => kit_is)
    (case k14 => kit_is)
    (case k15 => kit_is)
    (case k16 => kit_is)
    (case k17 => kit_is)
    (case k18 => kit_is)
    (case k19 => kit_is)
    (case k20 => kit_is)
    (case fm => k_is)
    (case sp => kernel_rfl)
    (case op => k_is)
    (case iv => k_is)
    (case mr => k_is)
    (case tp => first | rfl | decide +kernel)
    (case gs => k_is)
    (case fi => k_is)
    (case ft => k_is)
    (case i1 => k_is)
    (case i2 => k_is)
    (case i3 => k_is)
    (case i4 => rfl)
    (case i5 => decide +kernel)
    (case i6 => k_is)
    (case i7 => exact ⟨_, _, _, _, _, _, _, _, _, _, _, _, _, _, rfl, rfl⟩)
    (case i8 => rfl)
    (case i9 => rfl)
    (case ib => exact fun _ _ => rfl)
    refine' HX.law_cut (x := "law") (st := Q83.s_law) (ps := ["_law_script"]) KX G tabs ?a ?l ?cc ?k ?b ?lc ?hv ?nT ?r (fun f fd F hm hb hc nT hC hT => ?zL)
    (case a => k_is); (case l => k_is); (case cc => k_is); (case k => k_is); (case b => exact fun _ _ _ _ _ _ us hl => match us, hl with | [_], _ => rfl); (case lc => k_is); (case hv => rfl); (case nT => rfl); (case r => rfl)
    have e := hmg.symm.trans hm
    cases e
    refine QX.law_tgT (S := ⟨_, [(_, HX.lamQ "law")], _⟩) (fd := fd) (m := QX.m_law_f49a3b) rfl hT nT hC (fun s u hK => hb s [u] hK rfl) (fun base TB => Q83.law_all (S := ⟨_, [(_, HX.lamQ "law")], _⟩) F hc G21 (by intro c hc; cases hc) hM TB rfl xy d__law_word d__law_said B B2 B4 B6 TM g_MOST_WHEELS g_MOST_CUPS g_MOST_STEPS g_MOST_ENDS g_MOST_FIGURES g_FIGURES d__law_pen d__law_text d__law_cell_at d__law_draw d__law_board d__law_figures d__law_line_in d__law_whole d__law_within d__law_is_wheel d__law_is_board d__law_read d__law_odd d__law_spoilt d_is_number_text d_read_cups d_read_step d_read_wheel d_has_parts d_is_whole d_is_within d_is_step d_is_wheel d_is_board d_read_board) Q83.law_true



