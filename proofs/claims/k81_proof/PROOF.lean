import PyProof.Rows.All
import Wide.All
import OpenK.AllK
import Wide.FinOn
import HandS.ForExc
import HandS.ExcInit
import HandS.IsInst
import KE.KExcIs
import HandS.ForMost
import KE.DataMinMax
import HandS.Defaults
import HandS.EndTab
import HandS.TryMany
import KE.KNestM
import HandS.Wide
import HandS.Flow
import HandS.Style
import HandS.Deep
import HandS.DeepEq
import HandS.SortRule
import HandS.SortInts
import HandS.Walk
import HandS.Nested
import PyProof.Conv_int_bool
import HandS.OwnEq
import HandS.Conv
import PyProof.Rows.TupDisplay
import HandS.FStr
import HandS.Star
import HandS.CallLocal
import PyProof.ReprNest
import HandS.Codes
import HandS.Text
import HandS.RaiseMore
import KE.IntTextLaws
import PyProof.Rows.StrItems
import PyProof.Rows.StrSplitJoin
import PyProof.Rows.StrSplitAre
import PyProof.StrBlock2
import HandS.More
import PySem.Challenge.RW_firenegatives_k81_texts_that_are_invalid
set_option Elab.async false
set_option linter.all false
set_option maxRecDepth 100000
set_option maxHeartbeats 4000000
namespace FNX
open PySem PySem.F
/-- no class of the chain refuses a store -/
def Pass (l : List Value) : Prop := ∀ self : Value, refuseLoop self "__setattr__" l = pure ()
theorem passOver : Pass [.type "OverflowError", .type "ArithmeticError", .type "Exception", .type "BaseException", .type "object"] := fun self => by kernel_rfl
theorem passVal : Pass [.type "ValueError", .type "Exception", .type "BaseException", .type "object"] := fun self => by kernel_rfl
theorem Pass.ref {l : List Value} (h : Pass l) (c : Addr) : Pass (.ref c :: l) := fun self => by
  rw [refuseLoop_ref]
  exact h self
end FNX
namespace FNX
open PySem PySem.W PySem.Calls PyProof.Rows PySem.HandSPX
/-- what the chain of the class behind itself has, and has not -/
structure Chain (B : String) (bm : List Value) : Prop where
  base : bm.contains (.type B) = true
  obj : bm.contains (.type "object") = true
  noA : bm.contains (.type "AttributeError") = false
  noN : bm.contains (.type "NameError") = false
  some1 : bm.isEmpty = false
  pass : Pass bm
section
variable {prog : Program} {w : World} {A : Around} {E : Value → Shared → Prop} {R : Result → Shared → Prop}
variable {h : Heap} {g : Array GenState} {d : Drawn} {t : Nat} {os : OsState} {nm q : Str} {C N : Addr} {bs bm bmB : List Value}
variable {hdct : Bool} {sn : List Str} {sub : List Value} {ab : Bool} {col : Option Bool} {dd : Option Addr}
variable {k0 k1 k2 k3 k5 : Option Value} {B newId initId : String} {us : List Value} {kw : List (Str × Value)}
theorem newChecked {M : Model} {Q : Unit → Shared → Prop} (F : ExcBaseFacts B newId initId bmB) (L : Chain B bm)
    (hC : h.get? C = some (excClassObj nm q C N bs bm hdct sn sub ab col dd k0 k1 k2 k3 k5 newId)) (hq : Q () ⟨h, g, d, t, os⟩) :
    wpAny M A (checkBuiltinCall newId ⟨.ref C :: us, kw⟩) Q E ⟨h, g, d, t, os⟩ := by
  have in1 : (Value.ref C :: bm).contains (.type B) = true := by simp only [List.contains_cons, L.base, Bool.or_true]
  have star := F.noStar
  simp only [checkBuiltinCall, F.newKind, F.newSplit, F.newRow]
  repeat (first
    | refine wpAny_loadPart_at hC ?_
    | (refine wpAny_isSubtype_exc hC ?_; rw [in1])
    | refine wpAny_staticBase_exc hC ?_
    | refine wpAny_madeBy_exc hC ?_
    | simp only [bne_self_eq_false, Bool.false_eq_true, if_false]
    | wp_step)
  exact hq
theorem newMade (F : ExcBaseFacts B newId initId bmB) (L : Chain B bm)
    (hC : h.get? C = some (excClassObj nm q C N bs bm hdct sn sub ab col dd k0 k1 k2 k3 k5 newId)) (hl : us.length ≤ sizeLine)
    (hq : R (.ok (.ret (.ref (h.objs.size + 1)))) ⟨(h.push (kdv_tup us)).push (excO C h.objs.size), g, d, t, os⟩) :
    codeAny (model prog w) A (.builtin newId ⟨.ref C :: us, kw⟩) R ⟨h, g, d, t, os⟩ := by
  have ends := F.ends
  have in1 : (Value.ref C :: bm).contains (.type B) = true := by simp only [List.contains_cons, L.base, Bool.or_true]
  have no1 : (Value.ref C :: bm).contains (.type "AttributeError") = false := by simp only [List.contains_cons, L.noA]; rfl
  have no2 : (Value.ref C :: bm).contains (.type "NameError") = false := by simp only [List.contains_cons, L.noN]; rfl
  refine codeAny_builtinAt F.entry ?_
  unfold Builtin.«BaseException.__new__»
  refine PySem.wpAt_bind ?_
  show PySem.wpAt _ _ _ (stack >>= _) _ _ _
  refine PySem.wpAt_bind (PySem.wpAt_stack fun p below => PySem.wpAt_of_wpAny ?_)
  wp_walk
  refine PySem.wpAt_of_wpAny ?_
  rw [F.owner]
  repeat (first
    | with_reducible refine wpAny_madeHere_exc F.canon hC ?_
    | with_reducible refine wpAny_loadPart_at hC ?_
    | (with_reducible refine wpAny_isSubtype_exc hC ?_; first | rw [in1] | rw [no1] | rw [no2])
    | wp_step)
  show R _ _
  rw [Heap.size_push]
  exact hq
theorem typeCalled {fI : Addr} {Q : Fin → Shared → Prop} (F : ExcBaseFacts B newId initId bmB) (L : Chain B bm)
    (hC : h.get? C = some (excClassObj nm q C N bs bm hdct sn sub ab col dd k0 k1 k2 k3 k5 newId)) (hl : us.length ≤ sizeLine)
    (hi : Looks (model prog w) h (typeLookup (.ref C) "__init__") (some (.ref fI)))
    (hb : ∀ self, Looks (model prog w) h (bindSpecial (.ref fI) self) (.ref fI, [self]))
    (hq : codeAny (model prog w) A (.call (.ref fI) ⟨.ref (h.objs.size + 1) :: us, kw⟩)
      (fun r s' => match r with
        | .ok (.ret v) => v = .none ∧ Q (.done (.ret (.ref (h.objs.size + 1)))) s'
        | .ok _ => False
        | .error e => E e s')
      ⟨(h.push (kdv_tup us)).push (excO C h.objs.size), g, d, t, os⟩) :
    wpAny (model prog w) A (Builtin.«type.__call__» ⟨.ref C :: us, kw⟩) Q E ⟨h, g, d, t, os⟩ := by
  repeat (first | with_reducible refine wpAny_loadPart_at hC ?_ | with_reducible refine wpAny_madeBy_exc hC ?_ | wp_step)
  refine codeAny_call_builtin_code (Code.quiet_builtin _ F.quiet) (newChecked F L hC (newMade F L hC hl ?_))
  show wpAny _ _ _ _ _ _
  have old : ∀ b o, h.get? b = some o → ((h.push (kdv_tup us)).push (excO C h.objs.size)).get? b = some o :=
    fun b o e => Heap.get?_push_of_some _ (Heap.get?_push_of_some _ e)
  have hC2 := old _ _ hC
  have at1 : ((h.push (kdv_tup us)).push (excO C h.objs.size)).get? (h.objs.size + 1) = some (excO C h.objs.size) := by heap_get
  have self1 : (Value.ref C :: bm).contains (.ref C) = true := by simp
  have i2 := hi.keeps old
  have b2 := (hb (.ref (h.objs.size + 1))).keeps old
  unfold isInstance
  repeat (first
    | with_reducible refine wpAny_loadPart_at at1 ?_
    | (with_reducible refine wpAny_isSubtype_exc hC2 ?_; rw [self1])
    | wp_step)
  show wpAny _ _ (typeLookup (.ref C) _) _ _ _
  refine i2.at (wpAny_holding (wpAny_bind (b2.at ?_)))
  refine wpAny_bind (wpAny_call (codeAny_mono hq fun r s' z => ?_))
  rcases r with e | (v | _ | _ | _) <;> first | exact z | exact z.elim | skip
  obtain ⟨rfl, z⟩ := z
  first
    | exact wpAny_pure (wpAny_pure z)
    | (wp_walk; exact z)
theorem called {fI : Addr} (F : ExcBaseFacts B newId initId bmB) (L : Chain B bm)
    (hC : h.get? C = some (excClassObj nm q C N bs bm hdct sn sub ab col dd k0 k1 k2 k3 k5 newId)) (hl : us.length ≤ sizeLine)
    (hi : Looks (model prog w) h (typeLookup (.ref C) "__init__") (some (.ref fI)))
    (hb : ∀ self, Looks (model prog w) h (bindSpecial (.ref fI) self) (.ref fI, [self]))
    (hq : codeAny (model prog w) (A.under (.builtin "type.__call__" ⟨.ref C :: us, kw⟩)) (.call (.ref fI) ⟨.ref (h.objs.size + 1) :: us, kw⟩)
      (InitBack (h.objs.size + 1) R) ⟨(h.push (kdv_tup us)).push (excO C h.objs.size), g, d, t, os⟩) :
    codeAny (model prog w) A (.call (.ref C) ⟨us, kw⟩) R ⟨h, g, d, t, os⟩ := by
  have f1 := tc_lookup
  have f2 := tc_bind (.ref C)
  have ty : (⟨h, g, d, t, os⟩ : Shared).TypeIs (.ref C) "type" := ⟨_, hC, rfl⟩
  refine codeAny_of_tree ?_
  show wpAny _ _ (callAny (.ref C) _) _ _ _
  repeat (any_goals (first | assumption | with_reducible refine wpAny_loadPart_at hC ?_ | wp_step))
  refine ⟨rfl, codeAny_call_builtin_at (Code.quiet_builtin _ (by decide +kernel)) entry_typeCall
    (wpAny_check_type_call_sub hC (typeCalled F L hC hl hi hb (codeAny_mono hq fun r s' z => ?_)))⟩
  rcases r with e | (v | _ | _ | _) <;> exact z
end
section
open PySem.Builtin PySem.Builtin.ObjectAttr
variable {prog : Program} {w : World} {A : Around} {R : Result → Shared → Prop} {hp : Heap} {g : Array GenState} {d : Drawn} {t : Nat} {os : OsState}
theorem stored {K : Frag} {name : Str} {tk : Tok} {v : Value} {x C : Addr} {fv : Array Value} {cd : ClassData}
    (X : K.In hp) (hx : hp.get? x = some { cls := .ref C, data := .fields fv }) (hcd : clsIn K C = some cd)
    (hp1 : Pass cd.mro) (hob : cd.mro.contains (.type "object") = true) (hne : cd.mro.isEmpty = false)
    (hh : cd.hasDict = true) (ha : findIn K (.ref C) name = some none)
    (hq : ∀ h' tk' dx, (∀ b o, b ≠ x → hp.get? b = some o → h'.get? b = some o) → hp.objs.size ≤ dx → dx ≠ x →
      h'.get? x = some { cls := .ref C, dict := some dx, data := .fields fv } → h'.Ns1 dx (fun y => if y = name then some v else none) →
      R (.ok (.ret .none)) ⟨h', g, d, tk', os⟩) :
    codeAny (model prog w) A (.call (.builtin "object.__setattr__") ⟨[.ref x, .str name tk, v], []⟩) R ⟨hp, g, d, t, os⟩ := by
  have I : InstAt hp x { cls := .ref C, data := .fields fv } C none := ⟨hx, rfl, rfl, trivial⟩
  have SF := F.store_object
  have nx : x ≠ hp.objs.size := Nat.ne_of_lt (Heap.lt_size hx)
  have mro : mroIn K C (.type "object") = some true := by
    unfold mroIn
    rw [hcd, Option.bind_some, if_neg (by rw [hne]; decide), hob]
  have isO : Looks (model prog w) hp (isInstance (.ref x) (.type "object")) true := I.type.andThen (looks_mroIn X mro)
  refine codeAny_call_builtin SF.slot.plain SF.entry (@check_slot (model prog w) _ _ ⟨hp, g, d, t, os⟩ "object.__setattr__" "object"
    "__setattr__" (.ref x) [.str name tk, v] [] _ SF.kind SF.split isO (SF.args (.ref x) (.str name tk) v) ?_)
  have m1 : Looks (model prog w) hp (mroOf (.ref C)) cd.mro := (looks_clsIn X hcd).andThen .now
  have m2 : Looks (model prog w) hp (storeTaker? none) none := .now
  have m3 : Looks (model prog w) hp (classData C) cd := looks_clsIn X hcd
  rw [osa_eq, refuse_eq]
  refine wpAny_bind (wpAny_bind (I.type.at (wpAny_bind (m1.at ?_))))
  rw [hp1 _]
  refine wpAny_pure (wpAny_bind (I.type.at (wpAny_bind ((looks_findIn X ha).at (wpAny_bind (m2.at ?_))))))
  show wpAny _ _ (storeInOwnDict (.ref x) (.ref C) (.str name tk) name v false) _ _ _
  obtain ⟨nm, bs, mro, ns, qn, hd, sn, sb, ab, col, del⟩ := cd
  dsimp only at hh
  subst hh
  unfold storeInOwnDict ownDictForStores
  repeat (first
    | with_reducible refine store_in_new ?_ ?_
    | with_reducible refine wpAny_loadPart_at hx ?_
    | with_reducible refine m3.at ?_
    | wp_step)
  · exact ⟨_, #[], _, (Heap.get?_update_ne _ _ _ _ nx.symm).trans (Heap.get?_push_at rfl rfl), rfl, fun e he => absurd he (by simp), fun _ => rfl⟩
  · intro h' tk' hn' hs
    have hx1 : (hp.push { cls := .type "dict", data := .dict #[] }).get? x = some { cls := .ref C, data := .fields fv } :=
      Heap.get?_push_of_some _ hx
    refine hq h' tk' hp.objs.size (fun b o hb ho => ?_) (Nat.le_refl _) nx.symm ?_ hn'
    · refine (hs.2 b (Nat.ne_of_lt (Heap.lt_size ho))).trans ?_
      exact (Heap.get?_update_ne _ _ _ _ hb).trans (Heap.get?_push_of_some _ ho)
    · exact (hs.2 x nx).trans (Heap.get?_update_self _ hx1 rfl)
end
end FNX
set_option Elab.async false
set_option linter.all false
set_option maxRecDepth 100000
set_option maxHeartbeats 4000000
namespace FNX
open PySem PySem.Spec PyProof.Rows L2
/-- what the written part says of an exception class -/
structure XC (K : PySem.W.Frag) (C : Addr) : Prop where
  cls : ∃ nm q N bs bm sn sub ab col dd k0 k1 k2 k3 k5 B newId initId bmB,
    K.lookup C = some (excClassObj nm q C N bs bm true sn sub ab col dd k0 k1 k2 k3 k5 newId) ∧ ExcBaseFacts B newId initId bmB ∧ Chain B bm
  sa : PySem.W.findIn K (.ref C) "__setattr__" = some (some (.builtin "object.__setattr__"))
  ga : PySem.W.findIn K (.ref C) "__getattribute__" = some (some (.builtin "BaseException.__getattribute__"))
  gg : PySem.W.findIn K (.ref C) "__getattr__" = some none
  noV : PySem.W.findIn K (.ref C) "value" = some none
  exC : PySem.W.subIn K (.ref C) (.type "BaseException") = some true
  kC : PySem.W.keepIn K (.ref C) = true
  hdC : PySem.W.hasDictIn K C = true
  ic : PySem.W.isClsIn K C = true
  cC : PySem.W.findIn K (.ref C) "__class__" = some (some (.builtin "object.__class__"))
  mC : PySem.W.mroIn K C (.type "object") = some true
/-- an exception of the class at C with value = v -/
def XAt (H : Hp) (a C : Addr) (v : V) : Prop := ∃ d, H a = some (exo a C (some d)) ∧ H d = some (exd d [("value", v)])
theorem XAt.same {H H' : Hp} {a C : Addr} {v : V} (x : XAt H a C v) (s : Same H H') : XAt H' a C v := by
  obtain ⟨d, h1, h2⟩ := x
  exact ⟨d, s _ _ h1, s _ _ h2⟩
section
variable {X : Cx} {pins : List (Addr × Obj)} {σ : L2.St} {H : Hp} {s : Shared} {a C : Addr} {y : V} {u : Value}
/-- self.value = y -/
theorem xst_new {Q : Unit → Shared → Prop} {E : Value → Shared → Prop} {A : Around} (T : XC X.K C) (I : Inv X pins σ H s) (e : H a = some (exo a C none)) (ry : RelV y u)
    (h : ∀ dx s', H dx = none → dx ≠ a → Inv X pins σ (upd (upd H dx (exd dx [("value", y)])) a (exo a C (some dx))) s' → Q () s') :
    wpAny (model X.prog X.w) A (setAttr (.ref a) "value" u) Q E s := by
  obtain ⟨nm, q, N, bs, bm, sn, sub, ab, col, dd, k0, k1, k2, k3, k5, B, newId, initId, bmB, hC, F, L⟩ := T.cls
  have hcl : PySem.W.clsIn X.K C = some ⟨nm, bs, .ref C :: bm, N, q, true, sn, sub, ab, col, false⟩ := by
    unfold PySem.W.clsIn
    rw [hC] <;> rfl
  obtain ⟨t1, ho⟩ := exo_at I.hok e
  obtain ⟨hp, g, d, t, os⟩ := s
  refine PySem.W.set_plain I.kIn (ox := { cls := .ref C, dict := none, data := .fields #[.ref t1, .none, .none, .none, .bool false, .none] })
    (od := none) ⟨ho, rfl, rfl, trivial⟩ T.sa ?_
  refine stored I.kIn ho hcl (L.pass.ref C) (by simp only [List.contains_cons, L.obj, Bool.or_true]) rfl rfl T.noV
    (fun h' tk' dx k dn dne hx hn => ?_)
  have fresh : H dx = none := I.hok.fresh dn
  have nd : ∀ {b : Addr} {o : Obj}, hp.get? b = some o → b ≠ dx := fun q => Nat.ne_of_lt (Nat.lt_of_lt_of_le (Heap.lt_size q) dn)
  have na : ∀ {b : Addr}, H b = none → b ≠ a := fun {b} n z => by
    rw [z, e] at n
    cases n
  have U : Un X.fs [] H (upd (upd H dx (exd dx [("value", y)])) a (exo a C (some dx))) hp h' := {
    keep := fun b o q n _ _ => k b o (na n) q
    slot := fun b o q n _ _ => ⟨o.slots, k b o (na n) q⟩
    free := fun b o q n _ => by
      rw [upd_ne (na n), upd_ne (nd q)]
      exact n
    there := fun b o q _ => by
      by_cases hb : b = a
      · exact ⟨_, by rw [hb]; exact hx⟩
      · exact ⟨o, k b o hb q⟩
    tups := fun b xs q => by
      rw [upd_ne (at_ne e q exo_tup), upd_ne (ne_of_none q fresh)]
      exact q
    frzs := fun b o v q => by
      rw [upd_ne (at_ne e q exo_frz), upd_ne (ne_of_none q fresh)]
      exact q
    tbls := fun b ps q => ⟨#[], by
      rw [upd_ne (at_ne e q exo_tbl), upd_ne (ne_of_none q fresh), q]
      simp⟩ }
  refine h dx _ fresh dne (I.un (t' := tk') U fun b o q => ?_)
  by_cases hb : b = a
  · subst hb
    rw [upd_same] at q
    cases q
    exact exo_ok hx
  rw [upd_ne hb] at q
  by_cases hd : b = dx
  · subst hd
    rw [upd_same] at q
    cases q
    exact exd_ok hn (relO_put (fs := []) ry fun g => True.intro)
  rw [upd_ne hd] at q
  refine (I.hok b o q).stay (fun c v hc z => k c v ?_ z) (fun c hc => ?_) (fun c xs hc => ?_)
  · rcases hc with hc | hc
    · rw [hc]
      exact hb
    · exact at_ne e hc exo_own
  · rw [upd_ne (at_ne e hc exo_own), upd_ne (ne_of_none hc fresh)]
    exact hc
  · rw [upd_ne (at_ne e hc exo_tup), upd_ne (ne_of_none hc fresh)]
    exact hc
end
/-- self.value = e, self a new exception -/
def tXst (K : PySem.W.Frag) (to te : TE) : TS := fun D σ H => te σ H fun y H1 => to σ H1 fun x H2 => ∃ a C : Addr, x = .ref a ∧ XC K C ∧
  H2 a = some (exo a C none) ∧ ∀ dx, H2 dx = none → dx ≠ a → D.nx σ (upd (upd H2 dx (exd dx [("value", y)])) a (exo a C (some dx)))
section
variable {X : Cx} {o e : Expr} {to te : TE} {p' pos : Pos}
theorem ps_xst (ho : PE X o to) (he : PE X e te) (hs : swapsWith e (some (.Attribute o "value" p')) pos.line X.env = pure false := by rfl) :
    PS X (.Assign [.Attribute o "value" p'] e pos) (tXst X.K to te) := by
  refine ⟨fun pins s σ H D I h => ?_⟩
  refine plainObj_wpAny_Assign_Attribute (thn (he.run pins s σ H _ I h) fun v s1 hv => ?_) hs
  obtain ⟨y, H1, I1, r1, q1⟩ := hv
  refine thn (ho.run pins s1 σ H1 _ I1 q1) fun u s2 hu => ?_
  obtain ⟨x, H2, I2, r2, a, C, rfl, T, ea, q⟩ := hu
  obtain rfl : u = Value.ref a := r2
  exact xst_new T I2 ea r1 fun dx s' n ne J => ⟨σ, _, J, q dx n ne⟩
end
/-- what `__init__` promises -/
def spX (C : Addr) : Sp := fun vs H Q _ => ∃ (a : Addr) (v : V), vs = [.ref a, v] ∧ H a = some (exo a C none) ∧
  ∀ dx, H dx = none → dx ≠ a → Q .non (upd (upd H dx (exd dx [("value", v)])) a (exo a C (some dx)))
section
variable {P : Program} {w : World} {K : PySem.W.Frag} {mg : Str → Option Value} {base : Heap}
theorem xinit_ok {st : Stmt} {qual : Str} {f C : Addr} {fd : FuncData} (F : Fun K "__init__" qual st f fd)
    (S : FnScope ["self", "value"] ["self", "value"] (defScope st))
    (hb : ∃ q1 q2 q3 q4, defBody st = [.Assign [.Attribute (.Name "self" q1) "value" q2] (.Name "value" q3) q4]) (T : XC K C) :
    FnOk P w K mg base CX0 1 f fd ["self", "value"] (spX C) := by
  obtain ⟨q1, q2, q3, q4, hb⟩ := hb
  have vis : ∀ x ∈ (["self", "value"] : List Str), Vis (defScope st) x := fun x hx => by
    rcases S.par x hx with z | z
    · exact .inl z
    · exact .inr (.inl z)
  refine F.ok S (fun vs H Q E h => ?_) (fun cdv A outer s H vs Q E hr h => ?_)
  · obtain ⟨a, v, rfl, _⟩ := h
    rfl
  · obtain ⟨a, v, rfl, ha, k⟩ := h
    rw [hb]
    refine ⟨_, pss_one (ps_xst (pv 0 rfl (vis _ (by simp))) (pv 1 rfl (vis _ (by simp)))), ?_⟩
    exact ⟨_, rfl, _, rfl, a, C, rfl, T, ha, fun dx n ne => k dx n ne⟩
end
/-- the class x of the program stands at C; its `__init__` keeps its promise -/
structure Ex (P : Program) (w : World) (K : PySem.W.Frag) (mg : Str → Option Value) (base : Heap) (x : Str) (C : Addr) : Prop where
  xc : XC K C
  mgC : mg x = some (.ref C)
  mkd : ∃ fI fd, PySem.W.findIn K (.ref C) "__init__" = some (some (.ref fI)) ∧ PySem.W.typeIn K (.ref fI) = some (.type "function") ∧
    FnOk P w K mg base CX0 1 fI fd ["self", "value"] (spX C) ∧ Binds K fd ["self", "value"] [] ∧
    ∀ (s : Shared) (u v : Value), BindsTo s fd ⟨[u], [(("value" : Str), v)]⟩ ((["self", "value"] : List Str).zip [u, v])
end FNX
set_option Elab.async false
set_option linter.all false
set_option maxRecDepth 100000
set_option maxHeartbeats 4000000
namespace FNX
open PySem PySem.Spec PyProof.Rows L2
end FNX
set_option Elab.async false
set_option linter.all false
set_option maxRecDepth 100000
set_option maxHeartbeats 4000000
namespace FNX
open PySem PySem.Spec PyProof.Rows L2
/-- what stands at a value, as data: HandS's, and a dict of texts and ints -/
inductive Rd (K : PySem.W.Frag) (H : Hp) : V → PyData → Prop
  | dat {v : V} {d : PyData} (h : Dp K H v d) : Rd K H v d
  | dct {a : Addr} (kvs : List (Str × Int)) (h : H a = some (.dK (kvs.map fun p => (Sum.inr p.1, V.int p.2)))) :
      Rd K H (.ref a) (.dict (kvs.map fun p => (.str p.1, .int p.2)))
mutual
theorem dpNoDict {K : PySem.W.Frag} {H : Hp} : ∀ (d : PyData) (v : V), Dp K H v d → d.hasDict = false
  | .none, _, _ => by simp only [PyData.hasDict]
  | .bool _, _, _ => by simp only [PyData.hasDict]
  | .int _, _, _ => by simp only [PyData.hasDict]
  | .str _, _, _ => by simp only [PyData.hasDict]
  | .list xs, _, h => by
    cases h with
    | lst _ hs =>
      simp only [PyData.hasDict]
      exact dpNoDictAll xs _ hs
  | .tuple xs, _, h => by
    cases h with
    | tup _ hs =>
      simp only [PyData.hasDict]
      exact dpNoDictAll xs _ hs
  | .dict _, _, h => by cases h
theorem dpNoDictAll {K : PySem.W.Frag} {H : Hp} : ∀ (ds : List PyData) (vs : List V), DpAll K H vs ds → PyData.hasDictAll ds = false
  | [], _, _ => by simp only [PyData.hasDictAll]
  | d :: ds, _, h => by
    cases h with
    | cons h1 h2 => simp only [PyData.hasDictAll, dpNoDict d _ h1, dpNoDictAll ds _ h2, Bool.or_self]
end
theorem readsKeys {P : Program} {w : World} {h : Heap} : ∀ (kvs : List (Str × Int)) (vs : List (Key × Value)) (es : List DictEntry),
    KV (kvs.map fun p => ((Sum.inr p.1 : Key), V.int p.2)) vs → Pairs (mixKind P w) es vs →
    ReadsAll h (es.map (·.key)) ((kvs.map fun p => ((PyData.str p.1, PyData.int p.2) : PyData × PyData)).map (·.1)) [] ∧
    ReadsAll h (es.map (·.val)) ((kvs.map fun p => ((PyData.str p.1, PyData.int p.2) : PyData × PyData)).map (·.2)) []
  | [], _, _, r, p => by
    cases r
    cases p
    exact ⟨.nil, .nil⟩
  | (x, i) :: kvs, _, _, r, p => by
    cases r with
    | cons r1 r2 =>
      rename_i q vs
      obtain ⟨k, u⟩ := q
      obtain ⟨rfl, t, rfl⟩ := r1
      cases p with
      | @cons e _ es _ p1 p3 p2 =>
        obtain ⟨h1, h2⟩ := readsKeys (h := h) kvs vs _ r2 p2
        have p1 : keyIs (Sum.inr x) _ = true := p1
        rcases keyIs_shape p1 with ⟨j, t', e1, e2⟩ | ⟨y, t', e1, e2⟩
        · cases e1
        · injection e1 with e1
          subst e1
          constructor
          · show ReadsAll h (e.key :: _) _ []
            rw [e2]
            exact ReadsAll.cons (as := []) (.str x t') h1
          · show ReadsAll h (e.val :: _) _ []
            rw [p3]
            exact ReadsAll.cons (as := []) (.int i t) h2
section
variable {X : Cx} {pins : List (Addr × Obj)} {σ : L2.St} {H : Hp} {s : Shared}
theorem rdReads (I : Inv X pins σ H s) {v : V} {d : PyData} {u : Value} (h : Rd X.K H v d) (r : RelV v u) :
    ∃ as, Reads s.heap u d as ∧ (d.hasDict = true → sysModules ∉ as) := by
  cases h with
  | dat h =>
    obtain ⟨as, q⟩ := Dp.reads I d v u h r
    exact ⟨as, q, PyData.noDict_hsm (dpNoDict d v h)⟩
  | @dct a kvs h =>
    obtain rfl : u = Value.ref a := r
    obtain ⟨_, hs, vs, rv, o, es, ep, ho, hx, hd, _, hp, _⟩ := (show ObjOk X.prog X.w H s.heap a (.dK _) from I.hok a _ h)
    obtain ⟨h1, h2⟩ := readsKeys (h := s.heap) kvs vs es.toList rv hp
    refine ⟨_, Reads.dict ho hx.1 hd h1 h2, fun _ z => ?_⟩
    have z : sysModules ∈ [a] := by simpa using z
    have z := List.mem_singleton.mp z
    rw [← z] at hs
    simp at hs
/-- repr(x) -/
def rRepr (K : PySem.W.Frag) : List V → Hp → VK → Prop := fun xs H Q => ∃ v d, xs = [v] ∧ Rd K H v d ∧ d.showable = true ∧ d.depth ≤ 60 ∧
  d.shown.length ≤ sizeLine ∧ Q (.str d.shown) H
theorem call_repr (hg : X.A.guards = some []) (hu : X.A.units + 64 < cLine) : CallR X (.builtin "repr") (rRepr X.K) := by
  intro pins s σ H xs us Q I r h
  obtain ⟨v, d, rfl, hd, h1, h2, h3, q⟩ := h
  cases r with
  | cons r1 r2 =>
    cases r2
    rename_i u
    obtain ⟨as, hr, hsm⟩ := rdReads I hd r1
    have done : ∀ h' u' tk, (∀ b o, s.heap.get? b = some o → h'.get? b = some o) → EP X pins σ Q (.str d.shown u') { s with heap := h', toks := tk } :=
      fun h' u' tk k => ⟨.str d.shown, H, I.un (t' := tk) (Un.kept k) (I.hok.kept k), ⟨u', rfl⟩, q⟩
    have fin : ∀ {x : Str} {u' : Tok}, x = d.shown → EP X pins σ Q (.str x u') { s with toks := s.toks + 1 } := fun {x u'} e => by
      rw [e]
      exact done s.heap u' (s.toks + 1) fun _ _ z => z
    cases hr with
    | none => exact PySem.P.repr_of_none (fin (by simp only [PyData.shown]))
    | bool b => exact PySem.P.repr_of_bool (fin (by simp only [PyData.shown]))
    | int i t => exact PySem.P.repr_of_int (by simpa [PyData.showable] using h1) (fin (by simp only [PyData.shown]))
    | str x t => exact PySem.P.repr_of_str (fin (by simp only [PyData.shown])) (by simpa only [PyData.shown] using h3)
    | list a1 a2 a3 a4 => exact repr_of_reads' (.list a1 a2 a3 a4) h1 hsm hg (by omega) (fun _ _ e => e) (fun h' u tk k => done h' u tk k) h3
    | tuple a1 a2 a3 a4 => exact repr_of_reads' (.tuple a1 a2 a3 a4) h1 hsm hg (by omega) (fun _ _ e => e) (fun h' u tk k => done h' u tk k) h3
    | dict a1 a2 a3 a4 a5 => exact repr_of_reads' (.dict a1 a2 a3 a4 a5) h1 hsm hg (by omega) (fun _ _ e => e) (fun h' u tk k => done h' u tk k) h3
end
structure GOk (P : Program) (w : World) (K : PySem.W.Frag) (mg : Str → Option Value) (base : Heap) (k : Nat) (f : Addr) (fd : FuncData) (ps : List Str) (sp : Sp) : Prop where
  len : ∀ vs H Q E, sp vs H Q E → vs.length = ps.length
  run : ∀ (A : Around) (outer : List Env) (s : Shared) (H : Hp) (args : Args) (us : List Value) (vs : List V) (Q : VK) (E : XK), A.guards = some [] → Room k A →
    Env0 P w K mg base A outer s H → BindsTo s fd args (ps.zip us) → Vals vs us → sp vs H Q E → codeAny (model P w) A (.call (.ref f) args) (CR CX0 outer P w H s Q E) s
section
variable {P : Program} {w : World} {K : PySem.W.Frag} {mg : Str → Option Value} {base : Heap}
theorem okG {x qual : Str} {st : Stmt} {f : Addr} {fd : FuncData} {N ps : List Str} {k : Nat} {sp : Sp} (F : Fun K x qual st f fd) (S : FnScope N ps (defScope st))
    (len : ∀ vs H Q E, sp vs H Q E → vs.length = ps.length)
    (hbody : ∀ (cdv : Value) (A : Around) (outer : List Env) (s : Shared) (H : Hp) (vs : List V) (Q : VK) (E : XK), A.guards = some [] →
      Room k (A.deeper (envOfC qual (defScope st) s.heap.objs.size f cdv)) → sp vs H Q E →
      ∃ t, PSs (cxOf CX0 P w K mg base N qual (defScope st) f cdv A outer s H E).nox (defBody st) t ∧ t { nx := fun _ H' => Q .non H', rt := Q } (start N vs) H) :
    GOk P w K mg base (k + 1) f fd ps sp := by
  refine ⟨len, fun A outer s H args us vs Q E hg hr e0 hb r hs => ?_⟩
  -- a promise that is kept around this A alone
  obtain ⟨oc, od, kV, doc, pm, an, cdv, ct, osl, rfl, lk, hcd⟩ := F.ex
  have KX : K.In s.heap := e0.mod.kin.keeps fun b o e => (e0.bs b o e).1
  have lim : s.heap.NoLimit := e0.mod.nolimit.keeps fun b o e => (e0.bs b o e).1
  have hl := len _ _ _ _ hs
  have kinds : ∀ y ∈ ps.zip us, (defScope st).names.lookup y.1 = some .local ∨
      ((defScope st).names.lookup y.1 = some .cell ∧ ((cellsFrom (s.heap.objs.size + 1) (defScope st).names []).lookup y.1).isSome = true) := fun y hy => by
    rcases S.par y.1 (List.of_mem_zip (show (y.1, y.2) ∈ ps.zip us from hy)).1 with z | z
    · exact .inl z
    · exact .inr ⟨z, PySem.W.cellsFrom_some _ _ _ (.inl z)⟩
  refine codeAny_call_function hr.depth (KX _ _ lk) rfl S.co S.gen rfl (PySem.W.codeRec_of KX hcd) (hb _ _ _ _ ?_)
  refine wpAny_newFunctionEnv_cells S.kind kinds fun env he s1 x => ?_
  subst he
  refine ⟨lim.keeps x.toInCall.keep, codeAny_func ?_⟩
  obtain ⟨t, ht, hq⟩ := hbody cdv A outer s H vs Q E hg (hr.deeper _) hs
  have I := inv_start (CX := CX0) (E := E) S hr.hd e0 hl r x
  refine wpAny_mono (ht.nox.run [] s1 _ H _ I hq) (fun fl s' z => ?_) fun e s' z => z
  cases fl with
  | ret u =>
    obtain ⟨v, σ', H', J, rv, q⟩ := z
    exact ⟨v, H', J.os, J.bare, J.base, J.hok, rv, q⟩
  | next =>
    obtain ⟨σ', H', J, q⟩ := z
    exact ⟨V.non, H', J.os, J.bare, J.base, J.hok, rfl, q⟩
  | brk =>
    obtain ⟨_, _, _, q⟩ := z
    exact q.elim
  | cont =>
    obtain ⟨_, _, _, q⟩ := z
    exact q.elim
end
end FNX
set_option Elab.async false
set_option linter.all false
set_option maxRecDepth 100000
set_option maxHeartbeats 4000000
namespace FNX
open PySem PySem.Spec PyProof.Rows L2
section
variable {P : Program} {w : World} {K : PySem.W.Frag} {mg mb : Str → Option Value} {k : Nat} {fa a : Addr} {fd : FuncData} {x : Str} {sp : Sp} {s : Shared} {vs : List Value} {ns : List Int}
abbrev LawEnd (s : Shared) (r : Result) (s' : Shared) : Prop := r = .ok (.ret (.bool true)) ∧ OldK s.heap s'.heap ∧ s'.os = s.os ∧ AllBare s'.gens
/-- from an abstract heap that tracks the script at most -/
theorem lawFrom {H : Hp} (KX : K.In s.heap) (hns : s.heap.Ns mainGlobals mg) (hb : s.heap.Ns builtinsNs mb) (hbb : ∀ x : Str, x ≠ "__name__" → mb x = bootBuiltins x)
    (hlim : s.heap.NoLimit) (hg : s.gens = #[]) (hr : Room k callerA)
    (F : ∀ base : Heap, K.In base → base.Ns mainGlobals mg → GOk P w K mg base k fa fd [x] sp) (hbind : ∀ (s : Shared) (u : Value), BindsTo s fd ⟨[u], []⟩ [(x, u)])
    (hsp : sp [.ref a] H (fun v _ => v = .bl true) fun _ _ _ => False) (hok : HOk P w H s.heap)
    (hlist : ∀ b u, H b = some u → (∃ o xs, u = .frz o (.lst xs)) ∧ K.lookup b = none ∧ ∀ o es ep, s.heap.get? b = some o → o.data ≠ .dict es ep) :
    codeAny (model P w) callerA (.call (.ref fa) ⟨[.ref a], []⟩) (LawEnd s) s := by
  have seen : ∀ {b : Addr} {o : Obj}, s.heap.get? b = some o → H b = none → (hidT s.heap H).get? b = some o := fun e n => hidT_get e n
  have noD : ∀ {b : Addr} {o : Obj} {es : Array DictEntry} {ep : Nat}, s.heap.get? b = some o → o.data = .dict es ep → H b = none := fun {b o es ep} e d => by
    cases q : H b with
    | none => rfl
    | some u => exact absurd d ((hlist b u q).2.2 o es ep e)
  have keep : ∀ {b : Addr} {m : Str → Option Value}, s.heap.Ns b m → (hidT s.heap H).Ns b m := fun n => by
    obtain ⟨o, es, ep, e, d, r⟩ := n
    exact ⟨o, es, ep, seen e (noD e d), d, r⟩
  have kin : K.In (hidT s.heap H) := fun b o e => seen (KX b o e) (by
    cases q : H b with
    | none => rfl
    | some u =>
      have z := (hlist b u q).2.1
      rw [z] at e
      cases e)
  have mod : Mod K mg (hidT s.heap H) := ⟨kin, keep hns, ⟨mb, keep hb, hbb⟩, by
    obtain ⟨mc, h1, h2⟩ := hlim
    exact ⟨mc, keep h1, h2⟩⟩
  have e0 : Env0 P w K mg (hidT s.heap H) callerA [] s H :=
    ⟨rfl, mod, fun b o e => of_hidT e, Nat.le_of_eq (hidT_size _ _), trivial, fun b hb => absurd (show b ∈ ([] : List Addr) from hb) (by simp), hok, .of_eq hg⟩
  have rv : Vals [V.ref a] [Value.ref a] := .cons rfl .nil
  refine codeAny_mono ((F _ kin (keep hns)).run callerA [] s H ⟨[.ref a], []⟩ [.ref a] [.ref a] _ _ rfl hr e0 (hbind s (.ref a)) rv hsp) fun r s' z => ?_
  cases r with
  | error e => exact False.elim z
  | ok fl =>
    cases fl with
    | next => exact False.elim z
    | brk => exact False.elim z
    | cont => exact False.elim z
    | ret u =>
      obtain ⟨v, H', os, bare, un, hok', rv', q⟩ := z
      obtain rfl : v = .bl true := q
      obtain rfl : u = Value.bool true := rv'
      refine ⟨rfl, OldK.of_keep fun b o e => ?_, os, bare⟩
      cases q : H b with
      | none => exact un.keep b o e q (fun z => absurd (show b ∈ ([] : List Addr) from z) (by simp)) (by simp)
      | some t =>
        obtain ⟨⟨ob, xs, rfl⟩, _, _⟩ := hlist b t q
        obtain ⟨e1, _⟩ := hok b _ q
        obtain ⟨e2, _⟩ := hok' b _ (un.frzs b ob _ q)
        rw [e] at e1
        cases e1
        exact e2
theorem lawCalled (KX : K.In s.heap) (hns : s.heap.Ns mainGlobals mg) (hb : s.heap.Ns builtinsNs mb) (hbb : ∀ x : Str, x ≠ "__name__" → mb x = bootBuiltins x)
    (hlim : s.heap.NoLimit) (hg : s.gens = #[]) (ha : s.heap.get? a = some { cls := .type "list", data := .seq vs.toArray }) (hi : IntsAre vs ns) (hl : ns.length ≤ sizeLine)
    (hr : Room k callerA) (F : ∀ base : Heap, K.In base → base.Ns mainGlobals mg → GOk P w K mg base k fa fd [x] sp)
    (hbind : ∀ (s : Shared) (u : Value), BindsTo s fd ⟨[u], []⟩ [(x, u)])
    (hsp : ∀ H : Hp, SqL K H a (ns.map V.int) → sp [.ref a] H (fun v _ => v = .bl true) fun _ _ _ => False) :
    codeAny (model P w) callerA (.call (.ref fa) ⟨[.ref a], []⟩) (LawEnd s) s := by
  have rv := vals_ints hi
  have lenV := hi.length
  cases hk : K.lookup a with
  | some o =>
    have e := KX a o hk
    rw [ha] at e
    cases e
    refine lawFrom (H := fun _ => none) KX hns hb hbb hlim hg hr F hbind (hsp _ (.inr ⟨_, vs.toArray, _, hk, rfl, rfl, rfl, ?_, ?_⟩)) (fun b u z => nomatch z) (fun b u z => nomatch z)
    · rw [List.size_toArray, lenV]
      exact hl
    · simpa using rv
  | none =>
    have at1 : ∀ {b : Addr} {u : HO}, (if b = a then some (HO.frz { cls := .type "list", data := .seq vs.toArray } (.lst (ns.map V.int))) else none) = some u →
        b = a ∧ u = .frz { cls := .type "list", data := .seq vs.toArray } (.lst (ns.map V.int)) := fun {b u} z => by
      by_cases h : b = a
      · rw [if_pos h] at z
        exact ⟨h, (Option.some.inj z).symm⟩
      · rw [if_neg h] at z
        cases z
    refine lawFrom (H := fun b => if b = a then some (.frz { cls := .type "list", data := .seq vs.toArray } (.lst (ns.map V.int))) else none) KX hns hb hbb hlim hg hr F hbind
      (hsp _ (.inl (.inr ⟨_, if_pos rfl⟩))) (fun b u z => ?_) (fun b u z => ?_)
    · obtain ⟨rfl, rfl⟩ := at1 z
      exact ⟨ha, by rw [List.length_map]; exact hl, vs, _, rv, ha⟩
    · obtain ⟨rfl, rfl⟩ := at1 z
      refine ⟨⟨_, _, rfl⟩, hk, fun o es ep e d => ?_⟩
      rw [ha] at e
      cases e
      have d' : Data.seq vs.toArray _ = Data.dict es ep := d
      cases d'
end
/-- what the head leaves, from the law's promise -/
theorem walkG {l : PySem.W.OpenLaw} {n k : Nat} {q : Program} {loose : List Str} {XP : (Str → Option Value) → Heap → Prop} {YP : World → Heap → Prop} {d : DefRec} {K : Params → PySem.W.Frag} {sp : World → Sp} {x : Str}
    (hn : l.most = some n) (hn2 : n ≤ sizeLine) (hdf : d.params.defaults = []) (hr : Room k callerA) (hY : ∀ (w : World) (h : Heap), YP w h → (K w.params).In h)
    (F : ∀ (w : World) (mg : Str → Option Value) (fa : Addr) (h : Heap), (K w.params).In h → h.Ns mainGlobals mg → mg d.name = some (.ref fa) →
      ∃ fd : FuncData, (∀ (s : Shared) (u : Value), BindsTo s fd ⟨[u], []⟩ [(x, u)]) ∧
        ∀ base : Heap, (K w.params).In base → base.Ns mainGlobals mg → GOk l.prog w (K w.params) mg base k fa fd [x] (sp w))
    (hsp : ∀ (w : World) (H : Hp) (a : Addr) (ns : List Int), ns.length ≤ n → SqL (K w.params) H a (ns.map V.int) → sp w [.ref a] H (fun v _ => v = .bl true) fun _ _ _ => False) :
    PySem.W.WalkO q loose XP YP l.row.toRowW d [] (fun f vs => PySem.call f vs) := by
  refine Att.attach_call hn hdf fun w s₀ s₁ mg mb fa o pm cd doc a vs ns G Y ho hd hcd hmg hobj hints hlen hg => ?_
  have KX := hY w _ Y
  obtain ⟨fd, hb, hF⟩ := F w mg fa _ KX G.T.g hmg
  exact lawCalled KX G.T.g G.T.b G.T.builtins G.T.nolimit hg hobj hints (Nat.le_trans hlen hn2) hr hF hb fun H hS => hsp w H a ns hlen hS
end FNX
set_option Elab.async false
set_option linter.all false
set_option maxRecDepth 100000
set_option maxHeartbeats 4000000
namespace FNX
open PySem PySem.Spec PyProof.Rows L2
theorem same_upd {H : Hp} {p : Addr} {o : HO} (h : H p = none) : Same H (upd H p o) := fun b u e => by
  rw [upd_ne (ne_of_none e h)]
  exact e
end FNX
set_option Elab.async false
set_option linter.all false
set_option maxRecDepth 100000
set_option maxHeartbeats 4000000
namespace FNX
open PySem PySem.Spec PyProof.Rows L2
section
variable {X : Cx} {x : Str} {C : Addr} {e : Expr} {ta : TA} {p pos : Pos}
/-- C(e), to be raised: its own dict d is new and holds the value -/
def tMkX (C : Addr) (ta : TA) : L2.St → Hp → XK → Prop := fun σ H Q => ta σ H fun vs H1 => ∃ v, vs = [v] ∧
  ∀ d H', H1 d = none → Same H1 H' → H' d = some (.xd [(("value" : Str), v)]) → Q (.ref C) (some d) H'
theorem pmk_x (T : Ex X.prog X.w X.K X.mg X.base x C) (tyC : PySem.W.typeIn X.K (.ref C) = some (.type "type")) (hr : Room 2 X.A) (hg : Gl X x) (ha : PA X (e :: []) ta)
    (hdb : (x == ("__debug__" : Str)) = false := by decide) (he : starEach (e :: []) X.env = (false, eval e X.env) :: starEach [] X.env := by rfl)
    (hpl : (backTo pos (starEach [] X.env)).any (·.1) = false := by rfl) : PMk X (.Call (.Name x p) [e] [] pos) (tMkX C ta) := by
  intro pins s σ H Q I h
  refine wpAny_Call_Name_kw (ld_glob I hg T.mgC ?_ hdb)
  refine PySem.W.callWith_K (h₀ := X.base) I.ok.mod.kin T.xc.kC (thn (ha.run pos pins s σ H _ I h) fun us s1 hu => ?_) he hpl
  obtain ⟨vs, H1, I1, r1, v, rfl, q⟩ := hu
  refine ⟨I1.kIn, ?_⟩
  obtain ⟨fI, fd, iC, tI, F1, hb, hk⟩ := T.mkd
  obtain ⟨nm, qn, N, bs, bm, sn, sub, ab, col, dd, k0, k1, k2, k3, k5, B, newId, initId, bmB, hC, F, L⟩ := T.xc.cls
  cases r1 with
  | cons rv rn =>
    cases rn
    rename_i u
    show wpAny _ _ (call (.ref C) [u]) _ _ _
    obtain ⟨hp, g, dr, tk, os⟩ := s1
    have sz : hp.objs.size ≤ hp.objs.size + 1 := Nat.le_succ _
    have hn : H1 (hp.objs.size + 1) = none := I1.hok.fresh sz
    have old : ∀ b o, hp.get? b = some o → ((hp.push (PySem.W.kdv_tup [u])).push (PySem.HandSPX.excO C hp.objs.size)).get? b = some o :=
      fun b o z => Heap.get?_push_of_some _ (Heap.get?_push_of_some _ z)
    have at1 : ((hp.push (PySem.W.kdv_tup [u])).push (PySem.HandSPX.excO C hp.objs.size)).get? (hp.objs.size + 1) =
        some (PySem.HandSPX.excO C hp.objs.size) := by heap_get
    have I2 : Inv X pins σ (upd H1 (hp.objs.size + 1) (exo (hp.objs.size + 1) C none))
        ⟨(hp.push (PySem.W.kdv_tup [u])).push (PySem.HandSPX.excO C hp.objs.size), g, dr, tk, os⟩ :=
      I1.laid (t' := tk) (o := exo (hp.objs.size + 1) C none) old sz (exo_ok at1)
    have r2 : Vals [V.ref (hp.objs.size + 1), v] [Value.ref (hp.objs.size + 1), u] := .cons rfl (.cons rv .nil)
    have hsp : spX C [V.ref (hp.objs.size + 1), v] (upd H1 (hp.objs.size + 1) (exo (hp.objs.size + 1) C none))
        (fun z H2 => z = .non ∧ ∃ d : Addr, H2 (hp.objs.size + 1) = some (exo (hp.objs.size + 1) C (some d)) ∧ H2 d = some (exd d [("value", v)]) ∧ H1 d = none ∧
          Q (.ref C) (some d) (upd (del H2 (hp.objs.size + 1)) d (.xd [("value", v)]))) (fun _ _ _ => False) := by
      refine ⟨_, _, rfl, upd_same, fun dx n ne => ⟨rfl, dx, upd_same, by rw [upd_ne ne, upd_same], ?_, ?_⟩⟩
      · rw [upd_ne ne] at n
        exact n
      rw [upd_ne ne] at n
      refine q dx _ n (fun b o z => ?_) upd_same
      have h1 : b ≠ dx := ne_of_none z n
      have h2 : b ≠ hp.objs.size + 1 := ne_of_none z hn
      rw [upd_ne h1, del_ne h2, upd_ne h2, upd_ne h1, upd_ne h2]
      exact z
    refine wpAny_call (called F L (I1.kIn _ _ hC) (by rw [sizeLine_eq]; exact (by decide : 1 ≤ 16777216)) (PySem.W.looks_findIn I1.kIn iC) (fun self => PySem.W.bind_fn I1.kIn self tI)
      (codeAny_mono (F1.run _ X.stack _ _ ⟨[Value.ref (hp.objs.size + 1), u], []⟩ [Value.ref (hp.objs.size + 1), u] _ _ (fun _ _ _ => False) (hr.make C [u] [])
        (I2.env0.make C [u] []) (hb _ [Value.ref (hp.objs.size + 1), u] I2.kIn rfl) r2 hsp) fun r s' hq' => ?_))
    cases r with
    | error er => exact False.elim hq'
    | ok fl =>
      cases fl with
      | ret u' =>
        obtain ⟨z, H2, os2, bare2, un2, hok2, rz, ez, d, ea, ed, hd1, q2⟩ := hq'
        subst ez
        obtain ⟨h2, g2, d2, t2, os'⟩ := s'
        exact ⟨rz, mk_end (raises_own T.xc.exC tyC) I1 sz old un2 hok2 os2 bare2 ea ed hd1 q2⟩
      | next => exact False.elim hq'
      | brk => exact False.elim hq'
      | cont => exact False.elim hq'
/-- raise C(e) -/
def tRaiseX (C : Addr) (W : WX) (ta : TA) : TS := fun _ σ H => tMkX C ta σ H fun cls d H' => W cls d σ H'
theorem ps_raiseX {W : WX} {pos2 : Pos} (hc : X.calm = true) (T : Ex X.prog X.w X.K X.mg X.base x C) (tyC : PySem.W.typeIn X.K (.ref C) = some (.type "type")) (hr : Room 2 X.A) (tk : Takes X W)
    (hg : Gl X x) (ha : PA X (e :: []) ta) (hdb : (x == ("__debug__" : Str)) = false := by decide)
    (he : starEach (e :: []) X.env = (false, eval e X.env) :: starEach [] X.env := by rfl) (hpl : (backTo pos (starEach [] X.env)).any (·.1) = false := by rfl) :
    PS X (.Raise (some (.Call (.Name x p) [e] [] pos)) none pos2) (tRaiseX C W ta) := ps_raise hc tk (pmk_x T tyC hr hg ha hdb he hpl)
/-- e.value, e the exception that the suite holds at a -/
def tByX (C : Addr) (a : Addr) (cls : Value) (d : Option Addr) (te : TE) : TE := fun σ H Q => te σ H fun y H1 => y = .ref a ∧ cls = .ref C ∧ ∃ (dd : Addr) (v : V), d = some dd ∧
  H1 dd = some (.xd [(("value" : Str), v)]) ∧ Q v H1
theorem pe_byX {a : Addr} {oe : Obj} {cls : Value} {d : Option Addr} {pn : List (Addr × Obj)} {te : TE} (T : XC X.K C) (hz : Zc cls d oe) (hf : ∃ vs, oe.data = .fields vs) (he : PE (X.suite a ((a, oe) :: pn)) e te)
    (hb : attributeBase e "value" X.env (eval e X.env) = eval e X.env := by rfl) : PE (X.suite a ((a, oe) :: pn)) (.Attribute e "value" pos) (tByX C a cls d te) := by
  refine ⟨fun pins s σ H Q I h => ?_⟩
  refine attr_of hb (thn (he.run pins s σ H _ I h) fun u s1 hh => ?_)
  obtain ⟨y, H1, I1, rx, rfl, rfl, dd, v, rfl, ea, q⟩ := hh
  obtain rfl : u = Value.ref a := rx
  obtain ⟨ha, _⟩ := I1.pin (a, oe) (List.mem_append_left _ List.mem_cons_self)
  obtain ⟨vs, hd⟩ := hf
  obtain ⟨mA, hns, hr⟩ := (show ObjOk X.prog X.w H1 s1.heap dd (.xd [(("value" : Str), v)]) from I1.hok dd _ ea)
  obtain ⟨od, ho, hl⟩ := lookIn_ns hns
  have l : List.lookup ("value" : Str) [(("value" : Str), v)] = some v := by simp [List.lookup]
  obtain ⟨u, hu, ru⟩ := RelO.some_of (v := v) (o := mA "value") (by rw [← l]; exact hr "value")
  have J : PySem.W.InstAt s1.heap a oe C (some od) := ⟨ha, hz.1, by unfold PySem.W.notCls; rw [hd] <;> rfl, by rw [hz.2]; exact ho⟩
  exact HandSPX.exc_get I1.kIn J T.ga T.gg T.exC (PySem.W.findObj_own T.hdC T.noV rfl (by rw [hl, hu])) (handed_of ru) ⟨v, H1, I1.tok _, ru, q⟩
end
end FNX
set_option Elab.async false
set_option linter.all false
set_option maxRecDepth 100000
set_option maxHeartbeats 4000000
namespace FNX
open PySem PySem.Spec PyProof.Rows L2
open PySem.W (AlikeAll min_tuple_data max_tuple_data minD maxD minD_ints maxD_ints)
section
variable {X : Cx}
theorem pairReads {h : Heap} {i j : Int} {us : List Value} (r : Vals [V.int i, V.int j] us) : ReadsAll h us [.int i, .int j] [] := by
  cases r with
  | cons r1 r2 =>
    cases r2 with
    | cons r2 r3 =>
      cases r3
      obtain ⟨t1, rfl⟩ := r1
      obtain ⟨t2, rfl⟩ := r2
      exact ReadsAll.cons (as := []) (.int i t1) (ReadsAll.cons (as := []) (.int j t2) .nil)
theorem pairAlike (i j : Int) : AlikeAll [.int i, .int j] := by
  refine ⟨fun x hx y hy => ?_, fun x hx => ?_⟩
  · simp only [List.mem_cons, List.not_mem_nil, or_false] at hx hy
    rcases hx with rfl | rfl <;> rcases hy with rfl | rfl <;> rfl
  · simp only [List.mem_cons, List.not_mem_nil, or_false] at hx
    rcases hx with rfl | rfl <;> exact PyData.noConfusion
theorem intOfReads {h : Heap} {v : Value} {k : Int} {bs : List Addr} (r : Reads h v (.int k) bs) : RelV (.int k) v := by
  cases r
  exact ⟨_, rfl⟩
/-- min(t), max(t) of a pair of ints -/
def rMinT (f : Int → Int → Int) : List V → Hp → VK → Prop := fun vs H Q => ∃ (a : Addr) (i j : Int), vs = [V.ref a] ∧ H a = some (.tup [.int i, .int j]) ∧ Q (.int (f i j)) H
theorem cr_minT (hc : X.calm = true) (hu : X.A.units + 64 < cLine) : CallR X (.builtin "min") (rMinT min) := by
  intro pins s σ H vs us Q I r h
  obtain ⟨a, i, j, rfl, hs, q⟩ := h
  obtain ⟨its, rv, ht, _⟩ := I.tuple (SqT.of hs)
  rw [Vals.ref1 r]
  obtain ⟨o, h1, h2, n, h3⟩ := ht
  refine min_tuple_data (x := .int i) (xs := [.int j]) (I.ok.hd hc) ⟨o, h1, h2, n, h3⟩ (pairReads rv) (pairAlike i j) (by show X.A.units + 1 + 0 < cLine; omega) (fun k v h' tk bs e r2 kp => ?_)
  have e2 : minD (.int i) [.int j] = .int (min i j) := minD_ints i [j]
  rw [e2] at r2
  exact ⟨.int (min i j), H, I.kept kp, intOfReads r2, q⟩
theorem cr_maxT (hc : X.calm = true) (hu : X.A.units + 64 < cLine) : CallR X (.builtin "max") (rMinT max) := by
  intro pins s σ H vs us Q I r h
  obtain ⟨a, i, j, rfl, hs, q⟩ := h
  obtain ⟨its, rv, ht, _⟩ := I.tuple (SqT.of hs)
  rw [Vals.ref1 r]
  obtain ⟨o, h1, h2, n, h3⟩ := ht
  refine max_tuple_data (x := .int i) (xs := [.int j]) (I.ok.hd hc) ⟨o, h1, h2, n, h3⟩ (pairReads rv) (pairAlike i j) (by show X.A.units + 1 + 0 < cLine; omega) (fun k v h' tk bs e r2 kp => ?_)
  have e2 : maxD (.int i) [.int j] = .int (max i j) := maxD_ints i [j]
  rw [e2] at r2
  exact ⟨.int (max i j), H, I.kept kp, intOfReads r2, q⟩
end
def tyD : PyData → String
  | .none => "NoneType"
  | .bool _ => "bool"
  | .int _ => "int"
  | .str _ => "str"
  | .list _ => "list"
  | .tuple _ => "tuple"
  | .dict _ => "dict"
theorem rdTy {K : PySem.W.Frag} {H : Hp} {v : V} {d : PyData} (h : Rd K H v d) : TyX K H v (.type (tyD d)) := by
  cases h with
  | dat h =>
    cases h with
    | non => exact .base .non
    | bl b => exact .base (.bl b)
    | int i => exact .base (.int i)
    | str x => exact .base (.str x)
    | lst s _ =>
      rcases s with (s | ⟨o, s⟩) | ⟨o, its, n, e, c, _⟩
      · exact .base (.lst s)
      · exact .base (.frz s)
      · exact .kList e c
    | tup s _ =>
      rcases s with (s | ⟨o, s⟩) | s
      · exact .base (.tup s)
      · exact .fTuple s
      · obtain ⟨o, its, n, e, c, _⟩ := s
        exact .kTuple e c
  | dct kvs h => exact .base (.dK h)
def isI : PyData → Bool
  | .int _ => true
  | _ => false
def within (lo hi : Int) : PyData → Bool
  | .int i => decide (lo ≤ i) && decide (i ≤ hi)
  | _ => false
def isB : PyData → Bool
  | .bool _ => true
  | _ => false
def isIB : PyData → Bool
  | .int _ => true
  | .bool _ => true
  | _ => false
theorem kitI (K : PySem.W.Frag) : ∀ d : PyData, PySem.W.kitOne K (.type (tyD d)) (.type "int") = some (isIB d)
  | .none => (kit_ty (by decide +kernel) : PySem.W.kitOne K (.type "NoneType") (.type "int") = some false)
  | .bool _ => (kit_ty (by decide +kernel) : PySem.W.kitOne K (.type "bool") (.type "int") = some true)
  | .int _ => (kit_ty (by decide +kernel) : PySem.W.kitOne K (.type "int") (.type "int") = some true)
  | .str _ => (kit_ty (by decide +kernel) : PySem.W.kitOne K (.type "str") (.type "int") = some false)
  | .list _ => (kit_ty (by decide +kernel) : PySem.W.kitOne K (.type "list") (.type "int") = some false)
  | .tuple _ => (kit_ty (by decide +kernel) : PySem.W.kitOne K (.type "tuple") (.type "int") = some false)
  | .dict _ => (kit_ty (by decide +kernel) : PySem.W.kitOne K (.type "dict") (.type "int") = some false)
theorem kitBo (K : PySem.W.Frag) : ∀ d : PyData, PySem.W.kitOne K (.type (tyD d)) (.type "bool") = some (isB d)
  | .none => (kit_ty (by decide +kernel) : PySem.W.kitOne K (.type "NoneType") (.type "bool") = some false)
  | .bool _ => (kit_ty (by decide +kernel) : PySem.W.kitOne K (.type "bool") (.type "bool") = some true)
  | .int _ => (kit_ty (by decide +kernel) : PySem.W.kitOne K (.type "int") (.type "bool") = some false)
  | .str _ => (kit_ty (by decide +kernel) : PySem.W.kitOne K (.type "str") (.type "bool") = some false)
  | .list _ => (kit_ty (by decide +kernel) : PySem.W.kitOne K (.type "list") (.type "bool") = some false)
  | .tuple _ => (kit_ty (by decide +kernel) : PySem.W.kitOne K (.type "tuple") (.type "bool") = some false)
  | .dict _ => (kit_ty (by decide +kernel) : PySem.W.kitOne K (.type "dict") (.type "bool") = some false)
mutual
theorem dpSame {K : PySem.W.Frag} {H H' : Hp} (s : Same H H') : ∀ (d : PyData) (v : V), Dp K H v d → Dp K H' v d
  | .none, _, h => by cases h; exact .non
  | .bool _, _, h => by cases h; exact .bl _
  | .int _, _, h => by cases h; exact .int _
  | .str _, _, h => by cases h; exact .str _
  | .list ds, _, h => by
    cases h with
    | lst h1 h2 => exact .lst (s.seq h1) (dpSameAll s ds _ h2)
  | .tuple ds, _, h => by
    cases h with
    | tup h1 h2 =>
      refine .tup ?_ (dpSameAll s ds _ h2)
      rcases h1 with (h1 | ⟨o, h1⟩) | h1
      · exact .inl (.inl (s _ _ h1))
      · exact .inl (.inr ⟨o, s _ _ h1⟩)
      · exact .inr h1
  | .dict _, _, h => by cases h
theorem dpSameAll {K : PySem.W.Frag} {H H' : Hp} (s : Same H H') : ∀ (ds : List PyData) (vs : List V), DpAll K H vs ds → DpAll K H' vs ds
  | [], _, h => by cases h; exact .nil
  | d :: ds, _, h => by
    cases h with
    | cons h1 h2 => exact .cons (dpSame s d _ h1) (dpSameAll s ds _ h2)
end
theorem rdSame {K : PySem.W.Frag} {H H' : Hp} (s : Same H H') {v : V} {d : PyData} (h : Rd K H v d) : Rd K H' v d := by
  cases h with
  | dat h => exact .dat (dpSame s d v h)
  | dct kvs h => exact .dct kvs (s _ _ h)
end FNX
set_option Elab.async false
set_option linter.all false
set_option maxRecDepth 100000
set_option maxHeartbeats 4000000
namespace FNX
open PySem PySem.Spec PyProof.Rows L2
section
variable {X : Cx} {k : Nat} {f : Addr} {fd : FuncData} {ps : List Str} {sp : Sp} {E : XK} {x : Str} {p pos : Pos} {e : Expr} {es : List Expr} {t : TA}
/-- where a def stands that is walked so -/
def AtG (P : Program) (w : World) (K : PySem.W.Frag) (mg : Str → Option Value) (base : Heap) (k : Nat) (x : Str) (ps : List Str) (sp : Sp) : Prop :=
  ∃ f fd, GOk P w K mg base k f fd ps sp ∧ mg x = some (.ref f) ∧ PySem.W.keepIn K (.ref f) = true ∧ L2.Binds K fd ps []
end
end FNX
set_option Elab.async false
set_option linter.all false
set_option maxRecDepth 100000
set_option maxHeartbeats 4000000
namespace FNX
open PySem PySem.Spec PyProof.Rows L2
inductive RdAll (K : PySem.W.Frag) (H : Hp) : List V → List PyData → Prop
  | nil : RdAll K H [] []
  | cons {v : V} {vs : List V} {d : PyData} {ds : List PyData} (h : Rd K H v d) (hs : RdAll K H vs ds) : RdAll K H (v :: vs) (d :: ds)
section
variable {X : Cx} {pins : List (Addr × Obj)} {σ : L2.St} {H : Hp} {s : Shared}
theorem reprItems (I : Inv X pins σ H s) : ∀ {vs : List V} {ds : List PyData} {us : List Value}, RdAll X.K H vs ds → Vals vs us → PyData.showableAll ds = true → (∀ t ∈ PyData.shownAll ds, t.length ≤ sizeLine) →
    ∃ as bs, ReadsAll s.heap us ds as ∧ ReadAtMost s.heap (PyData.depthAll ds) bs ∧ ReprAllK X.prog X.w bs s.heap (PyData.depthAll ds) us (PyData.shownAll ds)
  | _, _, _, .nil, r, _, _ => by
    cases r
    refine ⟨[], [], .nil, (fun _ h => nomatch h), ?_⟩
    simp only [PyData.shownAll]
    exact .nil
  | _, _, _, .cons (d := d) (ds := ds) h hs', r, hs, hz => by
    cases r with
    | cons r1 r2 =>
      have sh : d.showable = true ∧ PyData.showableAll ds = true := by simpa [PyData.showableAll] using hs
      obtain ⟨as1, q1, m1⟩ := rdReads I h r1
      obtain ⟨b1, hb1, k1⟩ := ReprK.of_reads (prog := X.prog) (w := X.w) q1 sh.1 m1 (hz _ (by simp only [PyData.shownAll]; exact List.mem_cons_self ..))
      obtain ⟨as2, b2, q2, hb2, k2⟩ := reprItems I hs' r2 sh.2 (fun t ht => hz t (by simp only [PyData.shownAll]; exact List.mem_cons_of_mem _ ht))
      refine ⟨as1 ++ as2, b1 ++ b2, .cons q1 q2, ?_, ?_⟩
      · intro b hm
        simp only [PyData.depthAll]
        rcases List.mem_append.mp hm with hm | hm
        · obtain ⟨d', as', r', hd'⟩ := hb1 b hm
          exact ⟨d', as', r', Nat.le_trans hd' (Nat.le_max_left _ _)⟩
        · obtain ⟨d', as', r', hd'⟩ := hb2 b hm
          exact ⟨d', as', r', Nat.le_trans hd' (Nat.le_max_right _ _)⟩
      · simp only [PyData.depthAll, PyData.shownAll]
        exact .cons ((k1.more fun b hb => List.mem_append_left _ hb).level_le (Nat.le_max_left _ _)) (k2.more_le (fun b hb => List.mem_append_right _ hb) (Nat.le_max_right _ _))
end
end FNX
set_option Elab.async false
set_option linter.all false
set_option maxRecDepth 100000
set_option maxHeartbeats 8000000
namespace FNX
open PySem PySem.Spec PyProof.Rows L2
/-- the text of an `__init__` that stores its value -/
structure InitTxt (st : Stmt) : Prop where
  sc : FnScope ["self", "value"] ["self", "value"] (defScope st)
  body : ∃ q1 q2 q3 q4, defBody st = [.Assign [.Attribute (.Name "self" q1) "value" q2] (.Name "value" q3) q4]
  bind : ∀ (qual : Str) (kV doc pm : Value) (an : Option Addr) (cdv ct : Value) (us : List Value), us.length = (["self", "value"] : List Str).length →
    bindArgs (PySem.W.fnOf "__init__" qual (defArgs st) (defBody st) (defScope st) .none kV doc pm an cdv ct) ⟨us, []⟩ = pure ((["self", "value"] : List Str).zip us)
  bindK : ∀ (qual : Str) (kV doc pm : Value) (an : Option Addr) (cdv ct : Value) (u v : Value),
    bindArgs (PySem.W.fnOf "__init__" qual (defArgs st) (defBody st) (defScope st) .none kV doc pm an cdv ct) ⟨[u], [(("value" : Str), v)]⟩ = pure ((["self", "value"] : List Str).zip [u, v])
/-- a class of the program, as the top has left it -/
structure Cl (K : PySem.W.Frag) (mg : Str → Option Value) (x : Str) (C : Addr) : Prop where
  xc : XC K C
  mgC : mg x = some (.ref C)
  mkd : ∃ st qual f fd, InitTxt st ∧ PySem.W.findIn K (.ref C) "__init__" = some (some (.ref f)) ∧ PySem.W.typeIn K (.ref f) = some (.type "function") ∧ Fun K "__init__" qual st f fd
theorem Cl.ex {P : Program} {w : World} {K : PySem.W.Frag} {mg : Str → Option Value} {base : Heap} {x : Str} {C : Addr} (c : Cl K mg x C) : Ex P w K mg base x C := by
  obtain ⟨st, qual, f, fd, t, h1, h2, F⟩ := c.mkd
  refine ⟨c.xc, c.mgC, f, fd, h1, h2, xinit_ok F t.sc t.body c.xc, F.binds (t.bind qual), fun s u v => ?_⟩
  obtain ⟨oc, od, kV, doc, pm, an, cdv, ct, osl, rfl, _, _⟩ := F.ex
  exact .of_eq (t.bindK qual kV doc pm an cdv ct u v)
theorem chainVal {g : Addr} : Chain "ValueError" [.ref g, .type "ValueError", .type "Exception", .type "BaseException", .type "object"] := ⟨rfl, rfl, rfl, rfl, rfl, passVal.ref g⟩
theorem chainOver : Chain "OverflowError" [.type "OverflowError", .type "ArithmeticError", .type "Exception", .type "BaseException", .type "object"] := ⟨by decide +kernel, by decide +kernel, by decide +kernel, by decide +kernel, rfl, passOver⟩
section
variable {K : PySem.W.Frag} {h : Heap} {mg : Str → Option Value} {x qual : Str} {C f N T e : Addr} {st : Stmt} {B newId initId : String} {bm bmB bs sub : List Value} {nm q : Str} {sn : List Str} {ab : Bool} {col : Option Bool}
  {dd od an odT : Option Addr} {k0 k1 k2 k3 k5 : Option Value} {oc kV doc pm cd ct ocT : Value} {sl slT : Array (Option Value)} {nT : Nat}
theorem mkXC (F : ExcBaseFacts B newId initId bmB) (L : Chain B bm)
    (xC : K.lookup C = some (excClassObj nm q C N bs bm true sn sub ab col dd k0 k1 k2 k3 k5 newId))
    (sa : PySem.W.findIn K (.ref C) "__setattr__" = some (some (.builtin "object.__setattr__")))
    (ga : PySem.W.findIn K (.ref C) "__getattribute__" = some (some (.builtin "BaseException.__getattribute__"))) (gg : PySem.W.findIn K (.ref C) "__getattr__" = some none)
    (nv : PySem.W.findIn K (.ref C) "value" = some none) (eC : PySem.W.subIn K (.ref C) (.type "BaseException") = some true) (kC : PySem.W.keepIn K (.ref C) = true)
    (hd : PySem.W.hasDictIn K C = true) (ic : PySem.W.isClsIn K C = true) (cC : PySem.W.findIn K (.ref C) "__class__" = some (some (.builtin "object.__class__")))
    (mC : PySem.W.mroIn K C (.type "object") = some true) : XC K C :=
  ⟨⟨nm, q, N, bs, bm, sn, sub, ab, col, dd, k0, k1, k2, k3, k5, B, newId, initId, bmB, xC, F, L⟩, sa, ga, gg, nv, eC, kC, hd, ic, cC, mC⟩
theorem mkCl (X : K.In h) (G : h.Ns mainGlobals mg) (aC : PySem.W.nsIn K mainGlobals x = some (some (.ref C))) (xc : XC K C) (t : InitTxt st)
    (a1 : PySem.W.findIn K (.ref C) "__init__" = some (some (.ref f))) (t1 : PySem.W.typeIn K (.ref f) = some (.type "function"))
    (l1 : K.lookup f = some ⟨oc, od, .func (PySem.W.fnOf "__init__" qual (defArgs st) (defBody st) (defScope st) .none kV doc pm an cd ct), sl⟩)
    (c1 : PySem.W.codeIn K cd qual = true) (kf : PySem.W.keepIn K (.ref f) = true) : Cl K mg x C :=
  ⟨xc, PySem.W.mg_of X G aC, st, qual, f, _, t, a1, t1, fun_mk l1 c1 kf⟩
/-- a def -/
def FnF (K : PySem.W.Frag) (mg : Str → Option Value) (x : Str) (st : Stmt) (f : Addr) : Prop := mg x = some (.ref f) ∧ ∃ fd, Fun K x x st f fd
theorem mkF (X : K.In h) (G : h.Ns mainGlobals mg) (a1 : PySem.W.nsIn K mainGlobals x = some (some (.ref f)))
    (l1 : K.lookup f = some ⟨oc, od, .func (PySem.W.fnOf x x (defArgs st) (defBody st) (defScope st) .none kV doc pm an cd ct), sl⟩)
    (c1 : PySem.W.codeIn K cd x = true) (kf : PySem.W.keepIn K (.ref f) = true) : FnF K mg x st f := ⟨PySem.W.mg_of X G a1, _, fun_mk l1 c1 kf⟩
/-- a method of the class at C -/
def MtF (K : PySem.W.Frag) (C : Addr) (x qual : Str) (st : Stmt) (f : Addr) : Prop := Meth K C x f ∧ ∃ fd, Fun K x qual st f fd
theorem mkMt (a1 : PySem.W.findIn K (.ref C) x = some (some (.ref f))) (l1 : K.lookup f = some ⟨oc, od, .func (PySem.W.fnOf x qual (defArgs st) (defBody st) (defScope st) .none kV doc pm an cd ct), sl⟩)
    (c1 : PySem.W.codeIn K cd qual = true) (fn : PySem.W.isFn K (.ref f) = true) (kf : PySem.W.keepIn K (.ref f) = true) : MtF K C x qual st f := ⟨⟨a1, fn, kf⟩, _, fun_mk l1 c1 kf⟩
/-- an `__init__` with one default -/
def InF (K : PySem.W.Frag) (C : Addr) (qual : Str) (st : Stmt) (f e : Addr) : Prop := Mk K C f ∧ ∃ fd, FunD K "__init__" qual (defArgs st) (defBody st) (defScope st) [.ref e] [] f fd
theorem mkIn (mk : PySem.W.makesIn K C = true) (a1 : PySem.W.findIn K (.ref C) "__init__" = some (some (.ref f))) (fn : PySem.W.isFn K (.ref f) = true) (kC : PySem.W.keepIn K (.ref C) = true)
    (l1 : K.lookup f = some ⟨oc, od, .func (PySem.W.fnOf "__init__" qual (defArgs st) (defBody st) (defScope st) (.ref T) kV doc pm an cd ct), sl⟩) (lT : K.lookup T = some ⟨ocT, odT, .seq #[.ref e] nT, slT⟩)
    (c1 : PySem.W.codeIn K cd qual = true) (kf : PySem.W.keepIn K (.ref f) = true) : InF K C qual st f e :=
  ⟨⟨mk, a1, fn, kC⟩, _, ⟨oc, od, .ref T, kV, doc, pm, an, cd, ct, sl, rfl, l1, c1, .inr ⟨by simp, T, _, [.ref e], nT, rfl, lT, rfl, .cons rfl .nil⟩, .inl rfl⟩, kf⟩
end
end FNX
set_option Elab.async false
set_option linter.all false
set_option maxRecDepth 100000
set_option maxHeartbeats 4000000
namespace FNX
open PySem PySem.Spec PyProof.Rows L2
def wMas (K : PySem.W.Frag) (i : Nat) (Wout : WX) (D : Ends) : List (Value × (Addr → Value → Option Addr → TS)) → WX
  | [] => Wout
  | q :: r => wAs K q.1 i q.2 (wMas K i Wout D r) D
abbrev SuiteOk (X : Cx) (l : List Stmt) (ts : Addr → Value → Option Addr → TS) : Prop :=
  ∀ (z : Addr) (oz : Obj) (cls : Value) (d : Option Addr) (pn : List (Addr × Obj)), Zc cls d oz → (∃ us, oz.data = .fields us) → PSs (X.suite z ((z, oz) :: pn)) l (ts z cls d)
inductive Clauses (X : Cx) (n : Str) : List ExceptHandler → List (Value × (Addr → Value → Option Addr → TS)) → Prop
  | nil : Clauses X n [] []
  | cons {x : Str} {c : Value} {ts : Addr → Value → Option Addr → TS} {b : Stmt} {l : List Stmt} {p1 p2 : Pos} {hs : List ExceptHandler} {r : List (Value × (Addr → Value → Option Addr → TS))}
      (hc : Names X x c) (hsu : SuiteOk X (b :: l) ts) (hr : Clauses X n hs r) : Clauses X n (.ExceptHandler (some (.Name x p1)) (some n) (b :: l) p2 :: hs) ((c, ts) :: r)
section
variable {X : Cx} {n : Str} {i : Nat} {body : List Stmt} {h1 : ExceptHandler} {hs : List ExceptHandler} {cl : List (Value × (Addr → Value → Option Addr → TS))} {pos : Pos} {tb : WX → TS} {Wout : WX}
/-- what the clauses are asked, once the exception is caught -/
abbrev caught (X : Cx) (pins : List (Addr × Obj)) (D : Ends) (l : List ExceptHandler) : Value → Shared → Prop := fun e s1 =>
  wpAny (model X.prog X.w) X.A (noteFrame e X.env) (fun _ s2 => wpAny (model X.prog X.w) X.A (setFlight e none)
    (fun _ s3 => wpAny (model X.prog X.w) X.A (handleBy e X.env l) (SP X pins D) X.xe s3) X.xe s2) X.xe s1
theorem ps_try_mas (hst : X.stack = X.env :: X.outer) (hfr : X.env.frame = some X.env.locals) (hN : X.N.Nodup) (hi : X.N[i]? = some n) (hn : X.env.kindOf n = some .local) (tk : Takes X Wout)
    (hb : ∀ (W : WX) (pn : List (Addr × Obj)) (xe : Value → Shared → Prop), Takes (X.tr pn xe) W → PassesOwn (model X.prog X.w) X.A X.env xe → PSs (X.tr pn xe) body (tb W))
    (hc : Clauses X n (h1 :: hs) cl) : PS X (.Try body (h1 :: hs) [] [] pos) (fun D σ H => tb (wMas X.K i Wout D cl) D σ H) := by
  refine ⟨fun pins s σ H D I h => wpAny_Try_except ?_⟩
  have ok := I.ok
  have fs : X.A.frames = some (X.env :: X.outer) := ok.frames.trans (congrArg some hst)
  refine wpAny_mono ((hb (wMas X.K i Wout D cl) (X.pn ++ pins) (caught X pins D (h1 :: hs)) (fun u s' got => ?_) PassesOwn.looking).run [] s σ H D (I.toTry _) h) (fun fl s1 z => ?_) (fun _ _ z => z)
  · obtain ⟨a, B, sI, pins', σ', H', cls, d, rfl, J', nb, up, sky, na, os, ag, wish⟩ := got
    have J : Inv X pins σ' H' sI := J'.ofTry ok
    refine Sky.land Zc.steady fs hfr (show Sky B (X.env :: X.outer) a (Zc cls d) X.env.locals s'.heap from hst ▸ sky) fun hp fly upp => ?_
    have up1 := up.trans upp
    obtain ⟨oz, fz, az, zz, dz⟩ := fly.there
    have off : a ∉ frs (X.env :: X.outer) := fun hm => by
      obtain ⟨_, o2, e2, no2⟩ := fly.2.2.1.mem hm
      obtain rfl : oz = o2 := Option.some.inj (az.symm.trans e2)
      exact no2 fz dz
    have offL : a ≠ X.env.locals := fun e => off (List.mem_filterMap.mpr ⟨X.env, List.mem_cons_self, by rw [hfr, e]⟩)
    have offF : a ∉ X.fs := fun hm => by
      obtain ⟨v, hv, q⟩ := List.mem_filterMap.mp hm
      exact off (List.mem_filterMap.mpr ⟨v, List.mem_cons_of_mem _ hv, q⟩)
    have J1 : Inv X pins σ' H' { s' with heap := hp } := J.landed nb fly.1 up1 os ag
    have walk : ∀ {l : List ExceptHandler} {r : List (Value × (Addr → Value → Option Addr → TS))}, Clauses X n l r → wMas X.K i Wout D r cls d σ' H' →
        wpAny (model X.prog X.w) X.A (handleBy (.ref a) X.env l) (SP X pins D) X.xe { s' with heap := hp } := by
      intro l r hl
      induction hl with
      | nil =>
        intro want
        refine wpAny_handleBy_nil ?_
        have leave : wpAny (model X.prog X.w) X.A (setFlight (.ref a) X.env.frame) (fun _ s4 => wpAny (model X.prog X.w) X.A (throw (.ref a) : Sem Flow) (SP X pins D) X.xe s4) X.xe { s' with heap := hp } := by
          rw [hfr]
          exact HandSPX.setFlight_upZ fly fun h4 held up4 => wpAny_throw (tk _ _ ⟨a, B, sI, pins, σ', H', cls, d, rfl, J, nb, up1.trans up4, .inr (.inr (by rw [hst]; exact held)), na, os, ag, want⟩)
        obtain ⟨_, _, _, ob, vb, T, _, _, hob, _, hdb, hTb, _⟩ := id fly
        unfold PySem.passOn
        refine wpAny_bind (wpAny_field hob hdb hTb ?_)
        have nz : ¬ ((Value.ref T == Value.none) = true) := by simp
        rw [if_neg nz]
        first
          | exact wpAny_bind leave
          | exact wpAny_bind (wpAny_pure (wpAny_bind leave))
      | @cons x c ts b l2 p1 p2 hs2 r2 hnm hsu _ ih =>
        intro want
        obtain ⟨bl, hbl, yes, no⟩ := want
        have S1 := J1.suite az dz na offL offF
        have named : ∀ {Q1 : Value → Shared → Prop} {E1 : Value → Shared → Prop}, Q1 c { s' with heap := hp } →
            wpAny (model X.prog X.w) (X.A.mark (some (.ref a))) (eval (.Name x p1) X.env) Q1 E1 { s' with heap := hp } := fun q1 => by
          obtain ⟨g1, g2, g3⟩ := hnm
          rcases g3 with g3 | ⟨g3, g4, g5⟩
          · exact ld_glob (X := X.suite a ((a, oz) :: (X.pn ++ pins))) S1 g1 g3 q1 g2
          · exact ld_blt (X := X.suite a ((a, oz) :: (X.pn ++ pins))) S1 g1 g3 g4 q1 g5 g2
        have itsType : PySem.W.Looks (model X.prog X.w) hp (typeOf (.ref a)) cls := fun A1 Q1 E1 s1 k1 q1 => wpAny_typeOf_ref (k1 _ _ az) (zz.1.symm ▸ q1)
        have match_ := PySem.W.exm_one (M := model X.prog X.w) J1.kIn itsType hbl
        refine wpAny_handleBy_cons (codeAny_handlers_test (named (match_.here ?_))) (by intro e; cases e)
        cases bl with
        | false =>
          have go := ih (no rfl)
          exact go
        | true =>
          refine codeAny_handlers_suite_as (HandSPX.lands_againZ fly fun h4 fly4 up4 => ?_)
          obtain ⟨o4, f4, a4, z4, d4⟩ := fly4.there
          have J4 : Inv X pins σ' H' { s' with heap := h4 } := J.landed nb fly4.1 (up1.trans up4) os ag
          refine store_ok (X := X.suite a ((a, o4) :: (X.pn ++ pins))) (v := .ref a) (J4.suite a4 d4 na offL offF) hN hi (.inl hn) rfl (fun s5 S5 => ?_) (.inr hn)
          refine wpAny_mono ((hsu a o4 cls d (X.pn ++ pins) z4 ⟨f4, d4⟩).run [] s5 _ H' _ S5 (yes rfl a na)) (fun fl s6 z => ?_) (fun _ _ z => z.elim)
          have done : ∀ {σ6 : L2.St} {H6 : Hp} {Q6 : Shared → Prop}, Inv (X.suite a ((a, o4) :: (X.pn ++ pins))) [] σ6 H6 s6 → (∀ s7, Inv X pins (σ6.set i none) H6 s7 → Q6 s7) →
              wpAny (model X.prog X.w) X.A (do bindName X.env n .none; unbindBehindTheSuite X.env n p2) (fun _ s7 => Q6 s7) X.xe s6 := fun S6 q6 => gone_ok (S6.unsuite ok) hN hi hn q6
          cases fl with
          | ret u =>
            obtain ⟨v6, σ6, H6, S6, r6, q6⟩ := z
            exact done S6 fun s7 J7 => ⟨v6, _, _, J7, r6, q6⟩
          | next =>
            obtain ⟨σ6, H6, S6, q6⟩ := z
            exact done S6 fun s7 J7 => ⟨_, H6, J7, q6⟩
          | brk =>
            obtain ⟨σ6, H6, S6, q6⟩ := z
            exact done S6 fun s7 J7 => ⟨_, H6, J7, q6⟩
          | cont =>
            obtain ⟨σ6, H6, S6, q6⟩ := z
            exact done S6 fun s7 J7 => ⟨_, H6, J7, q6⟩
    exact walk hc wish
  · cases fl with
    | ret u =>
      obtain ⟨v, σ1, H1, J1, rv, q⟩ := z
      exact ⟨v, σ1, H1, J1.ofTry ok, rv, q⟩
    | next =>
      obtain ⟨σ1, H1, J1, q⟩ := z
      exact wpAny_execs_nil ⟨σ1, H1, J1.ofTry ok, q⟩
    | brk =>
      obtain ⟨σ1, H1, J1, q⟩ := z
      exact ⟨σ1, H1, J1.ofTry ok, q⟩
    | cont =>
      obtain ⟨σ1, H1, J1, q⟩ := z
      exact ⟨σ1, H1, J1.ofTry ok, q⟩
end
structure FunC (K : PySem.W.Frag) (x qual : Str) (st : Stmt) (f : Addr) (fd : FuncData) (c : Addr) : Prop where
  ex : ∃ (oc : Value) (od : Option Addr) (kV doc pm : Value) (an : Option Addr) (ct : Value) (osl : Array (Option Value)),
    fd = PySem.W.fnOf x qual (defArgs st) (defBody st) (defScope st) .none kV doc pm an (.ref c) ct ∧ K.lookup f = some ⟨oc, od, .func fd, osl⟩ ∧ PySem.W.codeIn K (.ref c) qual = true
  kp : PySem.W.keepIn K (.ref f) = true
section
variable {P : Program} {w : World} {K : PySem.W.Frag} {mg mb : Str → Option Value} {k : Nat} {fa a : Addr} {fd : FuncData} {x : Str} {sp : Sp} {s : Shared} {vs : List Value} {ns : List Int} {cs : List (Addr × Addr)}
/-- what the head tells of a def with doors: its code object and the table -/
structure Door (K : PySem.W.Frag) (mg : Str → Option Value) (xs : List Str) (x : Str) (c Pt : Addr) : Prop where
  mem : x ∈ xs
  fn : ∃ f o fd e dd us sl, mg x = some (.ref f) ∧ K.lookup f = some o ∧ o.data = .func fd ∧ fd.code = .ref c ∧ K.lookup c = some ⟨e, dd, .fields us, sl⟩ ∧ us[11]? = some (.ref Pt)
  hd : PySem.W.codeHdIn K c Pt = true
  no : K.lookup Pt = none
end
end FNX
set_option Elab.async false
set_option linter.all false
set_option maxRecDepth 100000
set_option maxHeartbeats 8000000
namespace K81
open PySem PySem.Spec PyProof.Rows L2 FNX
def top (i : Nat) : Stmt := PySem.Challenge.pw_firenegatives_k81_texts_that_are_invalid.main.body.getD i (.Pass ⟨0, 0, 0, 0⟩)
abbrev s_InvalidSize_init : Stmt := inClass (top 3) 0
abbrev s_InvalidEdge_init : Stmt := inClass (top 4) 0
abbrev s_InvalidText_init : Stmt := inClass (top 6) 0
abbrev s_TooMany_init : Stmt := inClass (top 7) 0
abbrev s_is_integer : Stmt := top 9
abbrev s_is_integer_within : Stmt := top 10
abbrev s_is_node : Stmt := top 11
abbrev s_Graph_init : Stmt := inClass (top 16) 0
abbrev s_Graph_repr : Stmt := inClass (top 16) 7
abbrev s_is_edge : Stmt := top 17
abbrev s_checked_edges : Stmt := top 18
abbrev s_neighbour_lists : Stmt := top 19
abbrev s_digits_of : Stmt := top 22
abbrev s_is_number : Stmt := top 23
abbrev s_read_numbers : Stmt := top 24
abbrev s_parse_position : Stmt := top 26
abbrev s_size_in : Stmt := top 27
abbrev s_edge_in : Stmt := top 28
abbrev s__law_pool : Stmt := top 30
abbrev s__law_take : Stmt := top 31
abbrev s__law_joins : Stmt := top 32
abbrev s__law_small : Stmt := top 33
abbrev s__law_read : Stmt := top 34
abbrev s__law_words : Stmt := top 35
abbrev s__law_due : Stmt := top 36
abbrev s__law_told : Stmt := top 37
abbrev s__law_bent : Stmt := top 38
abbrev s__law_known_right : Stmt := top 39
abbrev s_law : Stmt := top 40
def PoolAt (H : Hp) (p : Addr) : Prop := ∃ c s : Int, H p = some (.lst [.int c, .int s]) ∧ 0 ≤ s ∧ s < 2147483648
def spPool (K : PySem.W.Frag) : Sp := fun vs H Q _ => ∃ (a : Addr) (ns : List Int) (k : Int), vs = [.ref a, .int k] ∧ SqL K H a (ns.map V.int) ∧ 0 ≤ k ∧ k < 100 ∧
  ∀ p H', H p = none → Same H H' → PoolAt H' p → Q (.ref p) H'
def spTake : Sp := fun vs H Q _ => ∃ (p : Addr) (n : Int), vs = [.ref p, .int n] ∧ PoolAt H p ∧ 0 < n ∧ n < 10000000000000000000 ∧
  ∀ r H', 0 ≤ r → r < n → PoolAt H' p → (∀ b, b ≠ p → H' b = H b) → Q (.int r) H'
section
variable {P : Program} {w : World} {K : PySem.W.Frag} {mg : Str → Option Value} {base : Heap}
theorem scTake : FnScope ["_law_pool_here", "_law_sides", "_law_found"] ["_law_pool_here", "_law_sides"] (defScope s__law_take) :=
  ⟨rfl, rfl, rfl, by decide +kernel, rfl, by decide +kernel, by decide +kernel⟩
theorem ok_take {f : Addr} {fd : FuncData} (F : Fun K "_law_take" "_law_take" s__law_take f fd) : FnOk P w K mg base CX0 1 f fd ["_law_pool_here", "_law_sides"] spTake := by
  refine F.ok scTake (fun vs H Q E h => ?_) (fun cdv A outer s H vs Q E hr h => ?_)
  · obtain ⟨p, n, rfl, _⟩ := h
    rfl
  · obtain ⟨p, n, rfl, ⟨c, s0, hp, hs1, hs2⟩, hn1, hn2, k⟩ := h
    refine ⟨_, pss_cons (ps_if (pt_cmpR op_gt (pe_ix ix_list (pv 0) pe_int (fun _ _ => rfl)) pe_int (nomark _))
        (pss_cons (ps_set (i := 2) scTake.nd rfl (Or.inl rfl) (pe_op op_mod (pe_ix ix_list (pv 0) pe_int (fun _ _ => rfl)) (pv 1)))
          (pss_cons (ps_asg (pe_op op_fdivW (pe_ix ix_list (pv 0) pe_int (fun _ _ => rfl)) (pv 1)) (pg_sub (pv 0) pe_int set_list))
          (pss_one (ps_ret (pv 2))))) pss_nil)
      (pss_cons (ps_asg (pe_op op_mod (pe_op op_add (pe_op op_mul (pe_ix ix_list (pv 0) pe_int (fun _ _ => rfl)) pe_int) pe_int) pe_int) (pg_sub (pv 0) pe_int set_list))
      (pss_one (ps_ret (pe_op op_mod (pe_op op_fdiv (pe_op op_mod (pe_op op_mul (pe_ix ix_list (pv 0) pe_int (fun _ _ => rfl)) (pe_ix ix_list (pv 0) pe_int (fun _ _ => rfl))) pe_int) pe_int) (pv 1))))), ?_⟩
    refine ⟨_, rfl, p, _, _, _, rfl, rfl, SqL.of hp, atI_nat (j := 0) rfl, _, _, rfl, rfl, _, rfl, ?_⟩
    refine ite2 (fun _ => ?_) (fun _ => ?_)
    · refine ⟨_, rfl, p, _, _, _, rfl, rfl, SqL.of hp, atI_nat (j := 0) rfl, _, rfl, _, _, rfl, rfl, hn1, ?_⟩
      refine ⟨_, rfl, p, _, _, _, rfl, rfl, SqL.of hp, atI_nat (j := 0) rfl, _, rfl, _, _, rfl, rfl, wide_div (b := 64) hn1 (by omega) (by decide) (by decide), _, rfl, p, _, _, 0, rfl, rfl, hp, rfl, _, rfl, ?_⟩
      exact k _ _ (Int.emod_nonneg _ (by omega)) (Int.emod_lt_of_pos _ hn1) ⟨_, _, upd_same, hs1, hs2⟩ fun b hb => upd_ne hb
    · refine ⟨_, rfl, p, _, _, _, rfl, rfl, SqL.of hp, atI_nat (j := 1) rfl, _, _, rfl, rfl, .inr ⟨by decide, by decide⟩, _, _, rfl, rfl, _, _, rfl, rfl, (by show (0 : Int) < 2147483647; decide), _, rfl, p, _, _, 1, rfl, rfl, hp, rfl, ?_⟩
      have e1 : (0 : Int) ≤ (s0 * 48271 + 11) % 2147483647 := Int.emod_nonneg _ (by decide)
      have e2 : (s0 * 48271 + 11) % 2147483647 < 2147483647 := Int.emod_lt_of_pos _ (by decide)
      refine ⟨_, rfl, p, _, _, _, rfl, rfl, SqL.of upd_same, atI_nat (j := 1) rfl, _, rfl, p, _, _, _, rfl, rfl, SqL.of upd_same, atI_nat (j := 1) rfl, _, _, rfl, rfl, .inl ⟨?_, ?_⟩,
        _, _, rfl, rfl, (by show (0 : Int) < 2147483629; decide), _, _, rfl, rfl, ⟨by decide, by decide⟩, _, rfl, _, _, rfl, rfl, hn1, ?_⟩
      · exact Int.lt_of_lt_of_le (by decide) e1
      · exact Int.lt_of_lt_of_le e2 (by decide)
      exact k _ _ (Int.emod_nonneg _ (by omega)) (Int.emod_lt_of_pos _ hn1) ⟨_, _, upd_same, e1, by omega⟩ fun b hb => upd_ne hb
theorem scPool : FnScope ["_law_script", "_law_k", "_law_cell", "_law_seed"] ["_law_script", "_law_k"] (defScope s__law_pool) :=
  ⟨rfl, rfl, rfl, by decide +kernel, rfl, by decide +kernel, by decide +kernel⟩
theorem mod_in (a : Int) {b : Int} (h : 0 < b) : 0 ≤ a % b ∧ a % b < b := ⟨Int.emod_nonneg _ (by omega), Int.emod_lt_of_pos _ h⟩
theorem ok_pool {f : Addr} {fd : FuncData} (F : Fun K "_law_pool" "_law_pool" s__law_pool f fd) (hlen : mg "len" = none) :
    FnOk P w K mg base CX0 1 f fd ["_law_script", "_law_k"] (spPool K) := by
  refine F.ok scPool (fun vs H Q E h => ?_) (fun cdv A outer s H vs Q E hr h => ?_)
  · obtain ⟨a, ns, k, rfl, _⟩ := h
    rfl
  · obtain ⟨a, ns, k, rfl, hS, hk1, hk2, kont⟩ := h
    refine ⟨_, pss_cons (ps_set (i := 2) scPool.nd rfl (Or.inl rfl) pe_int)
      (pss_cons (ps_if (pt_cmpR op_lt (pv 1) (pe_callB call_len_seq (by rfl) hlen PySem.boot_len (pa_cons (pv 0) pa_nil)) (nomark _))
        (pss_one (ps_set (i := 2) scPool.nd rfl (Or.inl rfl) (pe_ix ix_list (pv 0) (pv 1) (fun _ _ => rfl)))) pss_nil)
      (pss_cons (ps_set (i := 3) scPool.nd rfl (Or.inl rfl) (pe_op op_mod (pe_op op_mul (pe_op op_add (pe_op op_add (pe_op op_mod (pv 2) pe_int)
        (pe_op op_mul (pe_op op_mul pe_int (pv 1)) (pv 1))) pe_int) pe_int) pe_int))
      (pss_cons (ps_if (pt_cmpR op_lt (pv 2) (pe_op op_pow pe_int pe_int) (nomark _)) (pss_one (ps_set (i := 2) scPool.nd rfl (Or.inl rfl) pe_int)) pss_nil)
      (pss_one (ps_ret (pe_lst (pa_cons (pv 2) (pa_cons (pe_op op_add (pe_op op_mod (pe_op op_mul (pv 3) (pv 3)) pe_int) pe_int) pa_nil)))))))), ?_⟩
    refine ⟨_, rfl, _, rfl, a, _, rfl, .inl hS, _, _, rfl, rfl, _, rfl, ?_⟩
    -- behind the first if: some cell in slot 2
    have rest : ∀ c : Int, (tSeq (tAsg (tOp (rI (fun _ j => 0 < j) fun i j => .int (i % j)) (tOp (rI CMul fun i j => .int (i * j)) (tOp (rI0 fun i j => .int (i + j))
        (tOp (rI0 fun i j => .int (i + j)) (tOp (rI (fun _ j => 0 < j) fun i j => .int (i % j)) (tVar 2) (tC (.int 2147483629)))
          (tOp (rI CMul fun i j => .int (i * j)) (tOp (rI CMul fun i j => .int (i * j)) (tC (.int 7919)) (tVar 1)) (tVar 1))) (tC (.int 13))) (tC (.int 48271))) (tC (.int 2147483647))) (gName 3)) 
        (tSeq (tIfS (tTest (tOp (rI0 fun i j => .bl (decide (i < j))) (tVar 2) (tOp (rI CPow fun i j => .int (i ^ j.toNat)) (tC (.int 10)) (tC (.int 18))))) (tAsg (tC (.int 0)) (gName 2)) tNext)
          (tRet (tLst (tCons (tVar 2) (tCons (tOp (rI0 fun i j => .int (i + j)) (tOp (rI (fun _ j => 0 < j) fun i j => .int (i % j)) (tOp (rI CMul fun i j => .int (i * j)) (tVar 3) (tVar 3)) (tC (.int 2147483587))) (tC (.int 1))) tNil))))))
        { nx := fun _ H' => Q .non H', rt := Q } [some (.ref a), some (.int k), some (.int c), none] H := fun c => by
      refine ⟨_, rfl, _, _, rfl, rfl, (by show (0 : Int) < 2147483629; decide), _, rfl, _, _, rfl, rfl, .inl ⟨by decide, by decide⟩, _, rfl, _, _, rfl, rfl, .inr ⟨by omega, by omega⟩, _, _, rfl, rfl,
        _, _, rfl, rfl, _, _, rfl, rfl, .inr ⟨by decide, by decide⟩, _, _, rfl, rfl, (by show (0 : Int) < 2147483647; decide), ?_⟩
      have e1 := mod_in ((c % 2147483629 + 7919 * k * k + 13) * 48271) (b := 2147483647) (by decide)
      refine ⟨_, rfl, _, _, rfl, rfl, ⟨by decide, by decide, by decide⟩, _, _, rfl, rfl, _, rfl, ?_⟩
      have fin : ∀ c' : Int, (tRet (tLst (tCons (tVar 2) (tCons (tOp (rI0 fun i j => .int (i + j)) (tOp (rI (fun _ j => 0 < j) fun i j => .int (i % j)) (tOp (rI CMul fun i j => .int (i * j)) (tVar 3) (tVar 3)) (tC (.int 2147483587))) (tC (.int 1))) tNil))))
          { nx := fun _ H' => Q .non H', rt := Q } [some (.ref a), some (.int k), some (.int c'), some (.int ((c % 2147483629 + 7919 * k * k + 13) * 48271 % 2147483647))] H := fun c' => by
        refine ⟨_, rfl, _, rfl, _, rfl, _, _, rfl, rfl, .inl ⟨by omega, by omega⟩, _, _, rfl, rfl, (by show (0 : Int) < 2147483587; decide), _, _, rfl, rfl, (by show 2 ≤ sizeLine; decide), fun p hp => ?_⟩
        have e2 := mod_in ((c % 2147483629 + 7919 * k * k + 13) * 48271 % 2147483647 * ((c % 2147483629 + 7919 * k * k + 13) * 48271 % 2147483647)) (b := 2147483587) (by decide)
        exact kont p _ hp (fun b o e => by rw [upd_ne (ne_of_none e hp)]; exact e) ⟨_, _, upd_same, by omega, by omega⟩
      exact ite2 (fun _ => fin 0) (fun _ => fin c)
    refine ite2 (fun hlt => ?_) (fun _ => rest 0)
    have hkn : k.toNat < (ns.map V.int).length := by
      have hlt := of_decide_eq_true hlt
      rw [List.length_map] at hlt ⊢
      omega
    have hki : (ns.map V.int)[k.toNat]? = some (V.int (ns[k.toNat]'(by rw [List.length_map] at hkn; exact hkn))) := by
      rw [List.getElem?_map, List.getElem?_eq_getElem (by rw [List.length_map] at hkn; exact hkn)]
      rfl
    have hat := atI_nat hki
    rw [show ((k.toNat : Nat) : Int) = k by omega] at hat
    exact ⟨_, rfl, _, rfl, a, _, k, _, rfl, rfl, hS, hat, rest _⟩
end
theorem boot_isi : bootBuiltins "isinstance" = some (.builtin "isinstance") := by decide +kernel
theorem boot_all : bootBuiltins "all" = some (.builtin "all") := by decide +kernel
theorem boot_len1 : bootBuiltins "len" = some (.builtin "len") := by decide +kernel
/-- built-in names that the program leaves as they are -/
structure Nms (mg : Str → Option Value) : Prop where
  isi : mg "isinstance" = none
  int : mg "int" = none
  bool : mg "bool" = none
  list : mg "list" = none
  tuple : mg "tuple" = none
  len : mg "len" = none
  all : mg "all" = none
  range : mg "range" = none
  enumerate : mg "enumerate" = none
  min : mg "min" = none
  max : mg "max" = none
  sorted : mg "sorted" = none
  repr : mg "repr" = none
/-- a def x stands at f and keeps sp -/
def At (P : Program) (w : World) (K : PySem.W.Frag) (mg : Str → Option Value) (base : Heap) (CX : CXT) (k : Nat) (x : Str) (ps : List Str) (sp : Sp) : Prop :=
  ∃ f fd, FnOk P w K mg base CX k f fd ps sp ∧ mg x = some (.ref f) ∧ PySem.W.keepIn K (.ref f) = true ∧ Binds K fd ps []
def spIsInteger (K : PySem.W.Frag) : Sp := fun vs H Q _ => ∃ v d, vs = [v] ∧ Rd K H v d ∧ Q (.bl (isI d)) H
def spWithin (K : PySem.W.Frag) : Sp := fun vs H Q _ => ∃ v d lo hi, vs = [v, .int lo, .int hi] ∧ Rd K H v d ∧ Q (.bl (within lo hi d)) H
def isNode (n : Nat) (d : PyData) : Bool := within 0 ((n : Int) - 1) d
def spIsNode (K : PySem.W.Frag) : Sp := fun vs H Q _ => ∃ v d, ∃ n : Nat, vs = [.int n, v] ∧ Rd K H v d ∧ Q (.bl (isNode n d)) H
theorem rdInt {K : PySem.W.Frag} {H : Hp} {v : V} {i : Int} (h : Rd K H v (.int i)) : v = .int i := by
  cases h with
  | dat h => cases h; rfl
theorem dpAllLen {K : PySem.W.Frag} {H : Hp} : ∀ {xs : List V} {ds : List PyData}, DpAll K H xs ds → xs.length = ds.length
  | [], _, h => by cases h; rfl
  | x :: xs, _, h => by
    cases h with
    | cons h1 h2 => rw [List.length_cons, List.length_cons, dpAllLen h2]
section
variable {P : Program} {w : World} {K : PySem.W.Frag} {mg : Str → Option Value} {base : Heap} {CXa : CXT}
theorem sc_is_integer : FnScope ["thing"] ["thing"] (defScope s_is_integer) := ⟨rfl, rfl, rfl, by decide +kernel, rfl, by decide +kernel, by decide +kernel⟩
theorem ok_is_integer {f : Addr} {fd : FuncData} (F : Fun K "is_integer" "is_integer" s_is_integer f fd) (M : Nms mg) : FnOk P w K mg base CX0 1 f fd ["thing"] (spIsInteger K) := by
  refine F.ok sc_is_integer (fun vs H Q E h => ?_) (fun cdv A outer s H vs Q E hr h => ?_)
  · obtain ⟨v, d, rfl, _⟩ := h
    rfl
  · obtain ⟨v, d, rfl, hd, k⟩ := h
    refine ⟨_, pss_one (ps_ret (pe_and (pe_callB call_isi (by rfl) M.isi boot_isi (pa_cons (pv 0) (pa_cons (pe_bltn (v := V.ty "int") rfl M.int (by decide +kernel) rfl) pa_nil)))
      (pe_one (pe_not (pe_callB call_isi (by rfl) M.isi boot_isi (pa_cons (pv 0) (pa_cons (pe_bltn (v := V.ty "bool") rfl M.bool (by decide +kernel) rfl) pa_nil))))))), ?_⟩
    refine ⟨_, rfl, v, _, _, _, _, rfl, .ty _, rdTy hd, kitI K d, _, rfl, ?_⟩
    cases d with
    | int i => exact iteT ⟨_, rfl, v, _, _, _, _, rfl, .ty _, rdTy hd, kitBo K _, _, rfl, k⟩
    | bool b => exact iteT ⟨_, rfl, v, _, _, _, _, rfl, .ty _, rdTy hd, kitBo K _, _, rfl, k⟩
    | none => exact iteF k
    | str _ => exact iteF k
    | list _ => exact iteF k
    | tuple _ => exact iteF k
    | dict _ => exact iteF k
theorem sc_within : FnScope ["thing", "low", "high"] ["thing", "low", "high"] (defScope s_is_integer_within) := ⟨rfl, rfl, rfl, by decide +kernel, rfl, by decide +kernel, by decide +kernel⟩
theorem ok_within {f : Addr} {fd : FuncData} (F : Fun K "is_integer_within" "is_integer_within" s_is_integer_within f fd) (G : At P w K mg base CX0 1 "is_integer" ["thing"] (spIsInteger K)) :
    FnOk P w K mg base CX0 2 f fd ["thing", "low", "high"] (spWithin K) := by
  obtain ⟨g, gd, G, mG, kG, bG⟩ := G
  refine F.ok sc_within (fun vs H Q E h => ?_) (fun cdv A outer s H vs Q E hr h => ?_)
  · obtain ⟨v, d, lo, hi, rfl, _⟩ := h
    rfl
  · obtain ⟨v, d, lo, hi, rfl, hd, k⟩ := h
    refine ⟨_, pss_one (ps_ret (pe_and (pe_call G hr (by rfl) mG kG bG .nil pass0 (pa_cons (pv 0) pa_nil)) (pe_one (pe_chain op_le op_le (pv 1) (pv 0) (pv 2))))), ?_⟩
    refine ⟨_, rfl, v, d, rfl, hd, _, rfl, ?_⟩
    cases d with
    | int i =>
      have e := rdInt hd
      subst e
      refine iteT ⟨_, rfl, _, rfl, _, _, rfl, rfl, _, rfl, ?_⟩
      by_cases hl : lo ≤ i
      · rw [decide_eq_true hl]
        have k : Q (.bl (decide (lo ≤ i) && decide (i ≤ hi))) H := k
        rw [decide_eq_true hl, Bool.true_and] at k
        exact iteT ⟨_, rfl, _, _, rfl, rfl, k⟩
      · rw [decide_eq_false hl]
        have k : Q (.bl (decide (lo ≤ i) && decide (i ≤ hi))) H := k
        rw [decide_eq_false hl, Bool.false_and] at k
        exact iteF k
    | bool b => exact iteF k
    | none => exact iteF k
    | str _ => exact iteF k
    | list _ => exact iteF k
    | tuple _ => exact iteF k
    | dict _ => exact iteF k
theorem sc_is_node : FnScope ["size", "thing"] ["size", "thing"] (defScope s_is_node) := ⟨rfl, rfl, rfl, by decide +kernel, rfl, by decide +kernel, by decide +kernel⟩
theorem ok_is_node {f : Addr} {fd : FuncData} (F : Fun K "is_node" "is_node" s_is_node f fd) (G : At P w K mg base CX0 2 "is_integer_within" ["thing", "low", "high"] (spWithin K)) :
    FnOk P w K mg base CX0 3 f fd ["size", "thing"] (spIsNode K) := by
  obtain ⟨g, gd, G, mG, kG, bG⟩ := G
  refine F.ok sc_is_node (fun vs H Q E h => ?_) (fun cdv A outer s H vs Q E hr h => ?_)
  · obtain ⟨v, d, n, rfl, _⟩ := h
    rfl
  · obtain ⟨v, d, n, rfl, hd, k⟩ := h
    exact ⟨_, pss_one (ps_ret (pe_call G hr (by rfl) mG kG bG .nil pass0 (pa_cons (pv 1) (pa_cons pe_int (pa_cons (pe_op op_sub (pv 0) pe_int) pa_nil))))),
      _, rfl, _, rfl, _, _, rfl, rfl, v, d, _, _, rfl, hd, k⟩
end
/-- the neighbours' lists name nodes -/
def WF (N : List (List Int)) : Prop := ∀ i, i < N.length → ∀ o ∈ N.getD i [], 0 ≤ o ∧ o < N.length
/-- lists of ints at addresses -/
def RowsAt (H : Hp) (rows : List Addr) (N : List (List Int)) : Prop := rows.length = N.length ∧ ∀ (k : Nat) (r : Addr), rows[k]? = some r → H r = some (.lst ((N.getD k []).map V.int))
def NAt (H : Hp) (p : Addr) (N : List (List Int)) : Prop := ∃ rows, H p = some (.lst (rows.map V.ref)) ∧ RowsAt H rows N
theorem RowsAt.same {H H' : Hp} {rows : List Addr} {N : List (List Int)} (h : RowsAt H rows N) (s : Same H H') : RowsAt H' rows N := ⟨h.1, fun k r e => s _ _ (h.2 k r e)⟩
theorem NAt.same {H H' : Hp} {p : Addr} {N : List (List Int)} (h : NAt H p N) (s : Same H H') : NAt H' p N := by
  obtain ⟨rows, h1, h2⟩ := h
  exact ⟨rows, s _ _ h1, h2.same s⟩
theorem NAt.row {H : Hp} {p : Addr} {N : List (List Int)} (h : NAt H p N) {i : Int} (h0 : 0 ≤ i) (hi : i < N.length) :
    ∃ xs r, H p = some (.lst xs) ∧ atI xs i = some (.ref r) ∧ H r = some (.lst ((N.getD i.toNat []).map V.int)) := by
  obtain ⟨rows, h1, h2, h3⟩ := h
  have hl : i.toNat < rows.length := by omega
  refine ⟨_, rows[i.toNat], h1, ?_, h3 i.toNat _ (List.getElem?_eq_getElem hl)⟩
  have z : (rows.map V.ref)[i.toNat]? = some (V.ref rows[i.toNat]) := by
    rw [List.getElem?_map, List.getElem?_eq_getElem hl]
    rfl
  have q := atI_nat z
  rwa [show ((i.toNat : Nat) : Int) = i by omega] at q
end K81
set_option Elab.async false
set_option linter.all false
set_option maxRecDepth 100000
set_option maxHeartbeats 8000000
namespace K81
open PySem PySem.Spec PyProof.Rows L2 FNX
def gflds (n : Int) (j nr : Addr) : List (Str × V) := [("node_count", .int n), ("joined", .ref j), ("near", .ref nr)]
theorem gl_n (n : Int) (j nr : Addr) : (gflds n j nr).lookup ("node_count" : Str) = some (.int n) := by
  unfold gflds
  simp [List.lookup]
theorem gl_j (n : Int) (j nr : Addr) : (gflds n j nr).lookup ("joined" : Str) = some (.ref j) := rfl
def GAt (CG : Addr) (H : Hp) (g : Addr) (N : List (List Int)) : Prop := ∃ dx j nr, H g = some (.ins CG dx (gflds (N.length : Int) j nr)) ∧ NAt H nr N
theorem GAt.same {CG : Addr} {H H' : Hp} {g : Addr} {N : List (List Int)} (h : GAt CG H g N) (s : Same H H') : GAt CG H' g N := by
  obtain ⟨dx, j, nr, h1, h2⟩ := h
  exact ⟨dx, j, nr, s _ _ h1, h2.same s⟩
/-- what the walk asks of the class Graph -/
structure GTxt (K : PySem.W.Frag) (mg : Str → Option Value) (CG : Addr) : Prop where
  cl : Cls K CG
  n1 : NoAttr K CG "node_count"
  n2 : NoAttr K CG "joined"
  n3 : NoAttr K CG "near"
  mgC : mg "Graph" = some (.ref CG)
theorem takeMore {α : Type} : ∀ {l : List α} {i : Nat} {x : α}, l[i]? = some x → l.take (i + 1) = l.take i ++ [x]
  | [], _, _, h => by simp at h
  | a :: l, 0, x, h => by
    have e : a = x := Option.some.inj h
    subst e
    rfl
  | a :: l, i + 1, x, h => by
    rw [List.take_succ_cons, List.take_succ_cons, takeMore (l := l) (i := i) h]
    rfl
theorem intsAt {x : List Int} {i : Nat} {y : V} (h : (x.map V.int)[i]? = some y) : ∃ o, x[i]? = some o ∧ y = .int o := by
  rw [List.getElem?_map] at h
  cases e : x[i]? with
  | none =>
    rw [e] at h
    cases h
  | some o =>
    rw [e] at h
    exact ⟨o, rfl, (Option.some.inj h).symm⟩
def posD (x : List Int) : PyData := .list (x.map .int)
theorem dpInts {K : PySem.W.Frag} {H : Hp} : ∀ x : List Int, DpAll K H (x.map V.int) (x.map PyData.int)
  | [] => .nil
  | _ :: x => .cons (.int _) (dpInts x)
end K81
set_option Elab.async false
set_option linter.all false
set_option maxRecDepth 100000
set_option maxHeartbeats 8000000
namespace K81
open PySem PySem.Spec PyProof.Rows L2 FNX
def pairD (e : Int × Int) : PyData := .tuple [.int e.1, .int e.2]
theorem eqvPair (e f : Int × Int) : PyData.eqv (pairD e) (pairD f) = decide (e = f) := by
  have h : PyData.eqv (pairD e) (pairD f) = ((e.1 == f.1) && ((e.2 == f.2) && true)) := by
    unfold pairD
    first
      | rfl
      | simp [PyData.eqv, PyData.eqvAll]
  rw [h, Bool.and_true]
  by_cases c : e = f
  · subst c
    simp
  · rw [decide_eq_false c]
    by_cases c1 : e.1 = f.1
    · by_cases c2 : e.2 = f.2
      · exact absurd (Prod.ext c1 c2) c
      · have z : (e.2 == f.2) = false := by simpa using c2
        rw [z, Bool.and_false]
    · have z : (e.1 == f.1) = false := by simpa using c1
      rw [z, Bool.false_and]
/-- edges at addresses -/
def TupsAt (H : Hp) (ts : List Addr) (es : List (Int × Int)) : Prop := ts.length = es.length ∧ ∀ (k : Nat) (t : Addr), ts[k]? = some t → ∃ e, es[k]? = some e ∧ H t = some (.tup [.int e.1, .int e.2])
def EdgesAt (H : Hp) (p : Addr) (es : List (Int × Int)) : Prop := ∃ ts, H p = some (.lst (ts.map V.ref)) ∧ TupsAt H ts es
theorem TupsAt.same {H H' : Hp} {ts : List Addr} {es : List (Int × Int)} (h : TupsAt H ts es) (s : Same H H') : TupsAt H' ts es := ⟨h.1, fun k t e => by
  obtain ⟨x, h1, h2⟩ := h.2 k t e
  exact ⟨x, h1, s _ _ h2⟩⟩
theorem EdgesAt.same {H H' : Hp} {p : Addr} {es : List (Int × Int)} (h : EdgesAt H p es) (s : Same H H') : EdgesAt H' p es := by
  obtain ⟨ts, h1, h2⟩ := h
  exact ⟨ts, s _ _ h1, h2.same s⟩
structure GoodE (n : Nat) (es : List (Int × Int)) : Prop where
  node : ∀ e ∈ es, 0 ≤ e.1 ∧ e.1 < e.2 ∧ e.2 < n
  once : es.Nodup
  few : es.length ≤ 40
theorem dpTups {K : PySem.W.Frag} {H : Hp} : ∀ {ts : List Addr} {es : List (Int × Int)}, TupsAt H ts es → DpAll K H (ts.map V.ref) (es.map pairD)
  | [], [], _ => .nil
  | [], _ :: _, h => by
    have z := h.1
    simp at z
  | _ :: _, [], h => by
    have z := h.1
    simp at z
  | t :: ts, e :: es, h => by
    obtain ⟨x, h1, h2⟩ := h.2 0 t rfl
    obtain rfl : e = x := Option.some.inj h1
    refine .cons (.tup (SqT.of h2) (.cons (.int _) (.cons (.int _) .nil))) (dpTups ⟨by simpa using h.1, fun k t' e' => ?_⟩)
    obtain ⟨x, q1, q2⟩ := h.2 (k + 1) t' e'
    exact ⟨x, q1, q2⟩
theorem layPairs : ∀ es : List (Int × Int), PyData.canLayAll0 (es.map pairD) = true
  | [] => rfl
  | _ :: es => by
    show (true && PyData.canLayAll0 (es.map pairD)) = true
    rw [layPairs es]
    rfl
theorem depPairs : ∀ es : List (Int × Int), PyData.depthAll (es.map pairD) ≤ 1
  | [] => by decide
  | _ :: es => by
    show max 1 (PyData.depthAll (es.map pairD)) ≤ 1
    have z := depPairs es
    omega
theorem shapedPairs (es : List (Int × Int)) : SeqAt.shaped (.list (es.map pairD)) = true := by
  unfold SeqAt.shaped
  have e1 : PyData.canLay0 (.list (es.map pairD)) = true := layPairs es
  have e2 : PyData.depth (.list (es.map pairD)) ≤ 64 := by
    show PyData.depthAll (es.map pairD) + 1 ≤ 64
    have z := depPairs es
    omega
  rw [e1, decide_eq_true e2]
  rfl
theorem anyPair {f : Int × Int} : ∀ {es : List (Int × Int)}, f ∉ es → ((es.map pairD).any fun z => PyData.eqv z (pairD f)) = false
  | [], _ => rfl
  | e :: es, h => by
    rw [List.map_cons, List.any_cons, eqvPair, decide_eq_false (fun z => h (by rw [z]; exact List.mem_cons_self)), anyPair (fun z => h (List.mem_cons_of_mem _ z))]
    rfl
theorem anyPairT {f : Int × Int} : ∀ {es : List (Int × Int)}, f ∈ es → ((es.map pairD).any fun z => PyData.eqv z (pairD f)) = true
  | [], h => by simp at h
  | e :: es, h => by
    rw [List.map_cons, List.any_cons, eqvPair]
    by_cases c : e = f
    · rw [decide_eq_true c, Bool.true_or]
    · have h' : f ∈ es := by
        rcases List.mem_cons.mp h with z | z
        · exact absurd z.symm c
        · exact z
      rw [anyPairT h', Bool.or_true]
theorem kitLT (K : PySem.W.Frag) : PySem.W.kitAny K (.type "list") [.type "list", .type "tuple"] = some true :=
  kitAny_cons (b := true) (kit_ty (by decide +kernel)) (fun h => by cases h) (fun _ => rfl)
theorem boot_min1 : bootBuiltins "min" = some (.builtin "min") := by decide +kernel
theorem boot_max1 : bootBuiltins "max" = some (.builtin "max") := by decide +kernel
theorem boot_sorted1 : bootBuiltins "sorted" = some (.builtin "sorted") := by decide +kernel
theorem nodeIn {n : Nat} {i : Int} (h0 : 0 ≤ i) (h1 : i < n) : isNode n (.int i) = true := by
  show (decide ((0 : Int) ≤ i) && decide (i ≤ (n : Int) - 1)) = true
  rw [decide_eq_true h0, decide_eq_true (by omega)]
  rfl
section
variable {P : Program} {w : World} {K : PySem.W.Frag} {mg : Str → Option Value} {base : Heap} {CG : Addr}
theorem sc_is_edge : FnScope ["size", "thing", "one", "two"] ["size", "thing"] (defScope s_is_edge) := ⟨rfl, rfl, rfl, by decide +kernel, rfl, by decide +kernel, by decide +kernel⟩
theorem sc_checked_edges : FnScope ["size", "edges", "found", "entry", "edge"] ["size", "edges"] (defScope s_checked_edges) := ⟨rfl, rfl, rfl, by decide +kernel, rfl, by decide +kernel, by decide +kernel⟩
theorem refAt {α : Type} {f : α → V} {xs : List α} {i : Nat} {y : V} (h : (xs.map f)[i]? = some y) : ∃ t, xs[i]? = some t ∧ y = f t := by
  rw [List.getElem?_map] at h
  cases e : xs[i]? with
  | none =>
    rw [e] at h
    cases h
  | some t =>
    rw [e] at h
    exact ⟨t, rfl, (Option.some.inj h).symm⟩
theorem notTaken {α : Type} {es : List α} (h : es.Nodup) {i : Nat} {e : α} (hi : es[i]? = some e) : e ∉ es.take i := by
  intro hm
  obtain ⟨j, hj, he⟩ := List.mem_iff_getElem.mp hm
  rw [List.length_take] at hj
  rw [List.getElem_take] at he
  obtain ⟨h1, h2⟩ := List.getElem?_eq_some_iff.mp hi
  have z := (List.pairwise_iff_getElem.mp h) j i (by omega) h1 (by omega)
  exact z (by rw [he, h2])
def keyE (H : Hp) : V → Int × Int
  | .ref t => match H t with
    | some (.tup [.int a, .int b]) => (a, b)
    | _ => (0, 0)
  | _ => (0, 0)
def refOf : V → Addr
  | .ref t => t
  | _ => 0
theorem keyE_at {H : Hp} {t : Addr} {e : Int × Int} (h : H t = some (.tup [.int e.1, .int e.2])) : keyE H (.ref t) = e := by
  unfold keyE
  simp only [h]
theorem permTups {H : Hp} {ts : List Addr} {es : List (Int × Int)} (h : TupsAt H ts es) {ys : List V} (hp : ys.Perm (ts.map V.ref)) : ∃ ts' es', ys = ts'.map V.ref ∧ TupsAt H ts' es' ∧ es'.Perm es := by
  have hm : ∀ y ∈ ys, ∃ t, y = V.ref t ∧ ∃ e : Int × Int, H t = some (.tup [.int e.1, .int e.2]) := fun y hy => by
    obtain ⟨t, ht, rfl⟩ := List.mem_map.mp (hp.mem_iff.mp hy)
    obtain ⟨k, hk, he⟩ := List.mem_iff_getElem.mp ht
    obtain ⟨e, h1, h2⟩ := h.2 k t (by rw [List.getElem?_eq_getElem hk, he])
    exact ⟨t, rfl, e, h2⟩
  have e1 : (ts.map V.ref).map (keyE H) = es := by
    apply List.ext_getElem
    · rw [List.length_map, List.length_map, h.1]
    · intro k h1 h2
      rw [List.length_map, List.length_map] at h1
      obtain ⟨e, q1, q2⟩ := h.2 k ts[k] (List.getElem?_eq_getElem h1)
      rw [List.getElem_map, List.getElem_map, keyE_at q2]
      rw [List.getElem?_eq_getElem h2] at q1
      exact (Option.some.inj q1).symm
  refine ⟨ys.map refOf, ys.map (keyE H), ?_, ⟨by rw [List.length_map, List.length_map], fun k t hk => ?_⟩, ?_⟩
  · rw [List.map_map]
    have z : ∀ y ∈ ys, (V.ref ∘ refOf) y = y := fun y hy => by
      obtain ⟨t, rfl, _⟩ := hm y hy
      rfl
    exact (List.map_congr_left z).symm ▸ (List.map_id ys).symm
  · rw [List.getElem?_map] at hk
    cases hy : ys[k]? with
    | none =>
      rw [hy] at hk
      cases hk
    | some y =>
      rw [hy] at hk
      obtain ⟨t', rfl, e, he⟩ := hm y (List.mem_of_getElem? hy)
      obtain rfl : t' = t := Option.some.inj hk
      refine ⟨e, ?_, he⟩
      rw [List.getElem?_map, hy]
      exact congrArg some (keyE_at he)
  · have z := hp.map (keyE H)
    rwa [e1] at z
end
def rowOf (es : List (Int × Int)) (i : Int) : List Int := es.flatMap fun e => (if e.1 = i then [e.2] else []) ++ (if e.2 = i then [e.1] else [])
structure IsNear (n : Nat) (es : List (Int × Int)) (N : List (List Int)) : Prop where
  len : N.length = n
  row : ∀ i, i < n → (N.getD i []).Perm (rowOf es i)
  asc : ∀ i, i < n → (N.getD i []).Pairwise (· ≤ ·)
theorem rowOf_perm {es fs : List (Int × Int)} (h : es.Perm fs) (i : Int) : (rowOf es i).Perm (rowOf fs i) := List.Perm.flatMap_right _ h
theorem IsNear.perm {n : Nat} {es fs : List (Int × Int)} {N : List (List Int)} (h : IsNear n es N) (p : es.Perm fs) : IsNear n fs N := ⟨h.len, fun i hi => (h.row i hi).trans (rowOf_perm p i), h.asc⟩
theorem rowOf_mem {n : Nat} {es : List (Int × Int)} (g : ∀ e ∈ es, 0 ≤ e.1 ∧ e.1 < e.2 ∧ e.2 < n) {i o : Int} (h : o ∈ rowOf es i) : 0 ≤ o ∧ o < n := by
  obtain ⟨e, he, h⟩ := List.mem_flatMap.mp h
  have z := g e he
  rcases List.mem_append.mp h with h | h
  · by_cases c : e.1 = i
    · rw [if_pos c, List.mem_singleton] at h
      omega
    · rw [if_neg c] at h
      simp at h
  · by_cases c : e.2 = i
    · rw [if_pos c, List.mem_singleton] at h
      omega
    · rw [if_neg c] at h
      simp at h
theorem IsNear.wf {n : Nat} {es : List (Int × Int)} {N : List (List Int)} (h : IsNear n es N) (g : ∀ e ∈ es, 0 ≤ e.1 ∧ e.1 < e.2 ∧ e.2 < n) : WF N := by
  intro i hi o ho
  rw [h.len] at hi ⊢
  exact rowOf_mem g ((h.row i hi).mem_iff.mp ho)
theorem rowOf_len : ∀ (es : List (Int × Int)) (i : Int), (rowOf es i).length ≤ 2 * es.length
  | [], _ => by simp [rowOf]
  | e :: es, i => by
    have z := rowOf_len es i
    have q : rowOf (e :: es) i = ((if e.1 = i then [e.2] else []) ++ (if e.2 = i then [e.1] else [])) ++ rowOf es i := rfl
    have q1 : (if e.1 = i then [e.2] else []).length ≤ 1 := by split <;> simp
    have q2 : (if e.2 = i then [e.1] else []).length ≤ 1 := by split <;> simp
    rw [q, List.length_append, List.length_append, List.length_cons]
    omega
theorem rowOf_more {es : List (Int × Int)} {k : Nat} {e : Int × Int} (h : es[k]? = some e) (i : Int) :
    rowOf (es.take (k + 1)) i = rowOf (es.take k) i ++ ((if e.1 = i then [e.2] else []) ++ (if e.2 = i then [e.1] else [])) := by
  rw [takeMore h]
  unfold rowOf
  rw [List.flatMap_append, List.flatMap_cons, List.flatMap_nil, List.append_nil]
/-- rows that grow -/
def Grow (H : Hp) (rs : List Addr) (n : Nat) (es : List (Int × Int)) : Prop := rs.length = n ∧ rs.Nodup ∧ ∀ (k : Nat) (r : Addr), rs[k]? = some r → H r = some (.lst ((rowOf es (k : Int)).map V.int))
theorem nodupAt {rs : List Addr} (h : rs.Nodup) {i j : Nat} {r s : Addr} (hi : rs[i]? = some r) (hj : rs[j]? = some s) (ne : i ≠ j) : r ≠ s := by
  intro e
  subst e
  obtain ⟨a1, a2⟩ := List.getElem?_eq_some_iff.mp hi
  obtain ⟨b1, b2⟩ := List.getElem?_eq_some_iff.mp hj
  exact ne ((List.getElem_inj h).mp (a2.trans b2.symm))
/-- lists that are new behind H: they stay whatever becomes of H's own objects -/
def NewN (H H' : Hp) (q : Addr) (N : List (List Int)) : Prop := ∀ H'', (∀ b o, H b = none → H' b = some o → H'' b = some o) → NAt H'' q N
theorem NewN.at {H H' : Hp} {q : Addr} {N : List (List Int)} (h : NewN H H' q N) : NAt H' q N := h H' fun _ _ _ e => e
def spNear (K : PySem.W.Frag) : Sp := fun vs H Q _ => ∃ (n : Nat) (p : Addr) (es : List (Int × Int)), vs = [.int n, .ref p] ∧ EdgesAt H p es ∧ GoodE n es ∧ n ≤ 1000 ∧
  ∀ q H' N, H q = none → Same H H' → NewN H H' q N → IsNear n es N → Q (.ref q) H'
theorem Grow.at {H : Hp} {rs : List Addr} {n : Nat} {es : List (Int × Int)} (h : Grow H rs n es) {i : Int} (h0 : 0 ≤ i) (hi : i < n) : ∃ r, rs[i.toNat]? = some r ∧ atI (rs.map V.ref) i = some (.ref r) ∧ H r = some (.lst ((rowOf es i).map V.int)) := by
  have hl : i.toNat < rs.length := by
    rw [h.1]
    omega
  refine ⟨rs[i.toNat], List.getElem?_eq_getElem hl, ?_, ?_⟩
  · have z : (rs.map V.ref)[i.toNat]? = some (V.ref rs[i.toNat]) := by
      rw [List.getElem?_map, List.getElem?_eq_getElem hl]
      rfl
    have q := atI_nat z
    rwa [show ((i.toNat : Nat) : Int) = i by omega] at q
  · have z := h.2.2 i.toNat _ (List.getElem?_eq_getElem hl)
    rwa [show ((i.toNat : Nat) : Int) = i by omega] at z
/-- one edge more -/
theorem Grow.more {H : Hp} {rs : List Addr} {n : Nat} {es : List (Int × Int)} {k : Nat} {e : Int × Int} {r1 r2 : Addr} (h : Grow H rs n (es.take k)) (he : es[k]? = some e) (g : 0 ≤ e.1 ∧ e.1 < e.2 ∧ e.2 < n)
    (h1 : rs[e.1.toNat]? = some r1) (h2 : rs[e.2.toNat]? = some r2) :
    Grow (upd (upd H r1 (.lst ((rowOf (es.take k) e.1).map V.int ++ [V.int e.2]))) r2 (.lst ((rowOf (es.take k) e.2).map V.int ++ [V.int e.1]))) rs n (es.take (k + 1)) := by
  refine ⟨h.1, h.2.1, fun j r hj => ?_⟩
  have hne : e.2.toNat ≠ e.1.toNat := by omega
  rw [rowOf_more he]
  by_cases c2 : j = e.2.toNat
  · subst c2
    obtain rfl : r2 = r := Option.some.inj (h2.symm.trans hj)
    have z1 : ((e.2.toNat : Nat) : Int) = e.2 := by omega
    rw [upd_same, z1, if_neg (by omega), if_pos rfl, List.nil_append, List.map_append]
    rfl
  · rw [upd_ne (nodupAt h.2.1 hj h2 c2)]
    by_cases c1 : j = e.1.toNat
    · subst c1
      obtain rfl : r1 = r := Option.some.inj (h1.symm.trans hj)
      have z1 : ((e.1.toNat : Nat) : Int) = e.1 := by omega
      rw [upd_same, z1, if_pos rfl, if_neg (by omega), List.append_nil, List.map_append]
      rfl
    · rw [upd_ne (nodupAt h.2.1 hj h1 c1), h.2.2 j r hj, if_neg (by omega), if_neg (by omega), List.append_nil, List.append_nil]
theorem getDl {α : Type} {L : List α} {x d : α} {k : Nat} (h : k < L.length) : (L ++ [x]).getD k d = L.getD k d := by
  rw [List.getD_eq_getElem?_getD, List.getD_eq_getElem?_getD, List.getElem?_append_left h]
theorem getDe {α : Type} {L : List α} {x d : α} {k : Nat} (h : k = L.length) : (L ++ [x]).getD k d = x := by
  subst h
  rw [List.getD_eq_getElem?_getD, List.getElem?_append_right (Nat.le_refl _), Nat.sub_self]
  rfl
section
variable {P : Program} {w : World} {K : PySem.W.Frag} {mg : Str → Option Value} {base : Heap} {CG : Addr}
theorem sc_near : FnScope ["size", "edges", "near", "one", "two", "node", "nodes"] ["size", "edges"] (defScope s_neighbour_lists) := ⟨rfl, rfl, rfl, by decide +kernel, rfl, by decide +kernel, by decide +kernel⟩
theorem ok_near {f : Addr} {fd : FuncData} (F : Fun K "neighbour_lists" "neighbour_lists" s_neighbour_lists f fd) (M : Nms mg) : FnOk P w K mg base CX0 1 f fd ["size", "edges"] (spNear K) := by
  refine F.ok sc_near (fun vs H Q E h => ?_) (fun cdv A outer s H vs Q E hr h => ?_)
  · obtain ⟨n, p, es, rfl, _⟩ := h
    rfl
  · obtain ⟨n, p, es, rfl, hp, ge, hn, k⟩ := h
    refine ⟨_, pss_cons (ps_setLc (i := 2) (own := [("node", 5)]) (g := gName 5) (tt := tYes) (by rfl) sc_near.nd rfl rfl (sw_true rfl rfl rfl (by decide +kernel))
      (pi_range1 rfl M.range (pa_cons (pv 0) pa_nil))
      (blkOk_by (own := [("node", 5)]) (N := ["size", "edges", "near", "one", "two", "node", "nodes"]) (sc := defScope s_neighbour_lists) (by decide +kernel))
      (fun _ _ _ _ _ => pg_name (i := 5) sc_near.nd rfl (Or.inl rfl)) (fun _ _ _ _ _ => pts_nil)
      (fun _ _ _ _ _ => pe_lst pa_nil))
      (pss_cons (ps_for PassesOwn.never rfl (pi_list (pv 1)) (pg_tup rfl (pgs_cons (pg_name (i := 3) sc_near.nd rfl (Or.inl rfl)) (pgs_cons (pg_name (i := 4) sc_near.nd rfl (Or.inl rfl)) pgs_nil)))
        (pss_cons (ps_expr (pe_bm PySem.F.plainAttrs_list PySem.F.slot_list_append PySem.F.type_list_append mt_append (pe_ix ix_list (pv 2) (pv 3) (fun _ _ => rfl)) (pa_cons (pv 4) pa_nil)))
        (pss_one (ps_expr (pe_bm PySem.F.plainAttrs_list PySem.F.slot_list_append PySem.F.type_list_append mt_append (pe_ix ix_list (pv 2) (pv 4) (fun _ _ => rfl)) (pa_cons (pv 3) pa_nil))))))
      (pss_one (ps_ret (pe_lc (own := [("nodes", 6)]) (g := gName 6) (tt := tYes) rfl sc_near.nd (pi_list (pv 2))
      (blkOk_by (own := [("nodes", 6)]) (N := ["size", "edges", "near", "one", "two", "node", "nodes"]) (sc := defScope s_neighbour_lists) (by decide +kernel))
      (fun _ _ _ _ _ => pg_name (i := 6) sc_near.nd rfl (Or.inl rfl)) (fun _ _ _ _ _ => pts_nil)
      (fun _ _ _ _ _ => pe_callB (show CallR _ (.builtin "sorted") (rSortedI K) from cr_sortedI) (by rfl) M.sorted boot_sorted1 (pa_cons (pv 6) pa_nil)))))), ?_⟩
    obtain ⟨ts, h1, h2⟩ := id hp
    refine ⟨_, rfl, n, rfl, by omega, by omega, fun D hD => ?_⟩
    refine lc_range (lo := 0) (fun i H' => Same H H' ∧ ∃ rs : List Addr, H' D = some (.lst (rs.map V.ref)) ∧ D ∉ rs ∧ (∀ r ∈ rs, H r = none) ∧ Grow H' rs i []) ⟨same_upd hD, [], upd_same, by simp, by simp, rfl, by simp, fun k r e => by simp at e⟩ (fun i H' hi h => ?_) (fun H' h => ?_)
    · obtain ⟨sm, rs, e1, e2, e3, e4⟩ := h
      refine ⟨rfl, ?_⟩
      refine ⟨by show 0 ≤ sizeLine; decide, fun p np => ?_⟩
      have hpD : D ≠ p := ne_of_none e1 np
      refine ⟨_, by rw [upd_ne hpD]; exact e1, by rw [List.length_map, e4.1, sizeLine_eq]; omega, fun b o z => ?_, rs ++ [p], by rw [upd_same, List.map_append]; rfl, ?_, fun r hr' => ?_, ?_⟩
      · rw [upd_ne (ne_of_none z hD), upd_ne (ne_of_none (sm _ _ z) np)]
        exact sm _ _ z
      · intro z
        rcases List.mem_append.mp z with z | z
        · exact e2 z
        · exact hpD (List.mem_singleton.mp z)
      · rcases List.mem_append.mp hr' with z | z
        · exact e3 r z
        · rw [List.mem_singleton.mp z]
          exact sm.free np
      · refine ⟨by rw [List.length_append, e4.1]; rfl, ?_, fun k r hk => ?_⟩
        · refine List.nodup_append.mpr ⟨e4.2.1, by simp, fun a ha b hb => ?_⟩
          rw [List.mem_singleton] at hb
          subst hb
          obtain ⟨k, hk, he⟩ := List.mem_iff_getElem.mp ha
          intro q
          subst q
          have z := e4.2.2 k _ (by rw [List.getElem?_eq_getElem hk, he])
          rw [np] at z
          cases z
        · by_cases hlt : k < rs.length
          · rw [List.getElem?_append_left hlt] at hk
            have z := e4.2.2 k r hk
            have nD : r ≠ D := fun q => e2 (q ▸ List.mem_of_getElem? hk)
            rw [upd_ne nD, upd_ne (ne_of_none z np)]
            exact z
          · rw [List.getElem?_append_right (by omega)] at hk
            have hk' : k = rs.length := by
              have := (List.getElem?_eq_some_iff.mp hk).1
              simp at this
              omega
            subst hk'
            rw [Nat.sub_self] at hk
            obtain rfl : p = r := Option.some.inj hk
            rw [upd_ne hpD.symm, upd_same]
            rfl
    · obtain ⟨sm, rs, e1, e2, e3, e4⟩ := h
      refine ⟨_, rfl, p, rfl, ⟨_, SqL.of (sm _ _ h1)⟩, for_list (K := K) (a := p) (xs := ts.map V.ref) (fun i σ H' => ∃ (o3 o4 : Option V), σ = [some (.int n), some (.ref p), some (.ref D), o3, o4, none, none] ∧
        Same H H' ∧ H' D = some (.lst (rs.map V.ref)) ∧ Grow H' rs n (es.take i)) ⟨none, none, rfl, sm, e1, e4⟩ (fun i σ H' _ h => ?_) (fun i y σ H' hi h => ?_) (fun σ H' h => ?_)⟩
      · obtain ⟨_, _, _, sm, _, _⟩ := h
        exact SqL.of (sm _ _ h1)
      · obtain ⟨o3, o4, rfl, sm, e1, e4⟩ := h
        obtain ⟨t, ht, rfl⟩ := refAt hi
        obtain ⟨e, he, hte⟩ := h2.2 i t ht
        have good := ge.node e (List.mem_of_getElem? he)
        have few := ge.few
        have hte' := sm _ _ hte
        have lt := (List.getElem?_eq_some_iff.mp he).1
        obtain ⟨r1, q1, a1, b1⟩ := e4.at (i := e.1) good.1 (by omega)
        obtain ⟨r2, q2, a2, b2⟩ := e4.at (i := e.2) (by omega) good.2.2
        have n12 : r2 ≠ r1 := nodupAt e4.2.1 q2 q1 (by omega)
        have l1 := rowOf_len (es.take i) e.1
        have l2 := rowOf_len (es.take i) e.2
        rw [List.length_take] at l1 l2
        have fr1 := e3 r1 (List.mem_of_getElem? q1)
        have fr2 := e3 r2 (List.mem_of_getElem? q2)
        have nD1 : D ≠ r1 := fun q => e2 (q ▸ List.mem_of_getElem? q1)
        have nD2 : D ≠ r2 := fun q => e2 (q ▸ List.mem_of_getElem? q2)
        refine ⟨t, _, rfl, SqT.of hte', rfl, _, _, rfl, _, _, rfl, rfl, ?_⟩
        refine ⟨_, rfl, _, rfl, D, _, e.1, _, rfl, rfl, SqL.of e1, a1, .inl ⟨rfl, _, SqL.of b1⟩, _, rfl, r1, _, _, rfl, rfl, b1, by rw [List.length_map, sizeLine_eq]; omega, ?_⟩
        have e1' : (upd H' r1 (.lst ((rowOf (es.take i) e.1).map V.int ++ [V.int e.2]))) D = some (.lst (rs.map V.ref)) := by
          rw [upd_ne nD1]
          exact e1
        have b2' : (upd H' r1 (.lst ((rowOf (es.take i) e.1).map V.int ++ [V.int e.2]))) r2 = some (.lst ((rowOf (es.take i) e.2).map V.int)) := by
          rw [upd_ne n12]
          exact b2
        refine ⟨_, rfl, _, rfl, D, _, e.2, _, rfl, rfl, SqL.of e1', a2, .inl ⟨rfl, _, SqL.of b2'⟩, _, rfl, r2, _, _, rfl, rfl, b2', by rw [List.length_map, sizeLine_eq]; omega, ?_⟩
        refine ⟨_, _, rfl, fun b o z => ?_, ?_, e4.more he good q1 q2⟩
        · rw [upd_ne (ne_of_none z fr2), upd_ne (ne_of_none z fr1)]
          exact sm _ _ z
        · rw [upd_ne nD2]
          exact e1'
      · obtain ⟨o3, o4, rfl, sm, e1, e4⟩ := h
        rw [List.length_map, h2.1, List.take_length] at e4
        refine ⟨_, rfl, D, rfl, ⟨_, SqL.of e1⟩, fun q nq => ?_⟩
        have qD : D ≠ q := ne_of_none e1 nq
        have fqH : H q = none := sm.free nq
        refine lc_list (K := K) (a := D) (xs := rs.map V.ref) (fun i H'' => Same H' H'' ∧ ∃ (ps : List Addr) (L : List (List Int)), H'' q = some (.lst (ps.map V.ref)) ∧ ps.length = i ∧ L.length = i ∧
          (∀ (k : Nat) (r : Addr), ps[k]? = some r → r ≠ q ∧ H r = none ∧ H'' r = some (.lst ((L.getD k []).map V.int))) ∧ (∀ k : Nat, k < i → (L.getD k []).Perm (rowOf es k)) ∧ ∀ k : Nat, k < i → (L.getD k []).Pairwise (· ≤ ·))
          ⟨same_upd nq, [], [], upd_same, rfl, rfl, fun k r e => by simp at e, fun k e => by omega, fun k e => by omega⟩ (fun i H'' _ h => SqL.of (h.1 _ _ e1)) (fun i x H'' hi h => ?_) (fun H'' h => ?_)
        · obtain ⟨sm2, ps, L, f1, f2, f3, f4, f5, f6⟩ := h
          obtain ⟨r, hr', rfl⟩ := refAt hi
          have hb := e4.2.2 i r hr'
          have hlt : i < n := by
            rw [← e4.1]
            exact (List.getElem?_eq_some_iff.mp hr').1
          refine ⟨rfl, ?_⟩
          refine ⟨_, rfl, r, _, rfl, SqL.of (sm2 _ _ hb), fun ns' t hperm hasc nt => ?_⟩
          have tq : q ≠ t := ne_of_none f1 nt
          refine ⟨_, by rw [upd_ne tq]; exact f1, by rw [List.length_map, f2, sizeLine_eq]; omega, fun b o z => ?_, ps ++ [t], L ++ [ns'], by rw [upd_same, List.map_append]; rfl, by rw [List.length_append, f2]; rfl, by rw [List.length_append, f3]; rfl, fun k r' hk => ?_, fun k hk => ?_, fun k hk => ?_⟩
          · rw [upd_ne (ne_of_none z nq), upd_ne (ne_of_none (sm2 _ _ z) nt)]
            exact sm2 _ _ z
          · by_cases hl : k < ps.length
            · rw [List.getElem?_append_left hl] at hk
              obtain ⟨z1, z0, z2⟩ := f4 k r' hk
              rw [upd_ne z1, upd_ne (ne_of_none z2 nt), getDl (by omega)]
              exact ⟨z1, z0, z2⟩
            · rw [List.getElem?_append_right (by omega)] at hk
              have hk' : k = ps.length := by
                have := (List.getElem?_eq_some_iff.mp hk).1
                simp at this
                omega
              subst hk'
              rw [Nat.sub_self] at hk
              obtain rfl : t = r' := Option.some.inj hk
              rw [upd_ne tq.symm, upd_same, getDe (by omega)]
              exact ⟨tq.symm, sm.free (sm2.free nt), rfl⟩
          · by_cases c : k < i
            · rw [getDl (by omega)]
              exact f5 k c
            · rw [getDe (by omega), show k = i by omega]
              exact hperm
          · by_cases c : k < i
            · rw [getDl (by omega)]
              exact f6 k c
            · rw [getDe (by omega)]
              exact hasc
        · obtain ⟨sm2, ps, L, f1, f2, f3, f4, f5, f6⟩ := h
          rw [List.length_map, e4.1] at f2 f3 f5 f6
          exact k q H'' L fqH (sm.trans sm2) (fun H3 h3 => ⟨ps, h3 q _ fqH f1, by omega, fun k r e => h3 r _ (f4 k r e).2.1 (f4 k r e).2.2⟩) ⟨f3, f5, f6⟩
end
theorem GoodE.perm {n : Nat} {es fs : List (Int × Int)} (h : GoodE n es) (p : fs.Perm es) : GoodE n fs := ⟨fun e he => h.node e (p.mem_iff.mp he), (p.nodup_iff).mpr h.once, by rw [p.length_eq]; exact h.few⟩
section
variable {P : Program} {w : World} {K : PySem.W.Frag} {mg : Str → Option Value} {base : Heap} {CG : Addr}
theorem sc_ginit : FnScope ["self", "size", "edges", "joined"] ["self", "size", "edges"] (defScope s_Graph_init) := ⟨rfl, rfl, rfl, by decide +kernel, rfl, by decide +kernel, by decide +kernel⟩
end
end K81
set_option Elab.async false
set_option linter.all false
set_option maxRecDepth 100000
set_option maxHeartbeats 8000000
namespace K81
open PySem PySem.Spec PyProof.Rows L2 FNX
theorem newAt {H : Hp} {a : Addr} (o : HO) (h : H a = none) : ∃ H1, upd H a o = H1 ∧ Same H H1 ∧ H1 a = some o := ⟨_, rfl, same_upd h, upd_same⟩
theorem eqvSame {d : PyData} (h : SeqAt.shaped d = true) : PyData.eqv d d = true := SeqAt.eqv_refl d (SeqAt.canLay_of_shaped h)
theorem boot_repr1 : bootBuiltins "repr" = some (.builtin "repr") := by decide +kernel
/-- all but the object at p stays -/
def SameX (p : Addr) (H H' : Hp) : Prop := ∀ b o, b ≠ p → H b = some o → H' b = some o
theorem SameX.trans {p : Addr} {H H1 H2 : Hp} (a : SameX p H H1) (b : SameX p H1 H2) : SameX p H H2 := fun c o n e => b c o n (a c o n e)
theorem Same.x {p : Addr} {H H1 : Hp} (a : Same H H1) : SameX p H H1 := fun c o _ e => a c o e
theorem sameX_take {p : Addr} {H H' : Hp} (h : ∀ b, b ≠ p → H' b = H b) : SameX p H H' := fun b o n e => (h b n).trans e
theorem SameX.free {p q : Addr} {H H' : Hp} (a : SameX p H H') (h : PoolAt H p) (n : H' q = none) (hp : PoolAt H' p) : H q = none := by
  cases e : H q with
  | none => rfl
  | some o =>
    have z : q ≠ p := fun c => by
      obtain ⟨_, _, z, _⟩ := hp
      rw [← c, n] at z
      cases z
    rw [a q o z e] at n
    cases n
theorem PoolAt.same {p : Addr} {H H' : Hp} (h : PoolAt H p) (s : Same H H') : PoolAt H' p := by
  obtain ⟨c, d, z, r⟩ := h
  exact ⟨c, d, s _ _ z, r⟩
theorem PoolAt.ne {p q : Addr} {H : Hp} (h : PoolAt H p) (n : H q = none) : p ≠ q := by
  obtain ⟨_, _, z, _⟩ := h
  exact ne_of_none z n
theorem TupsAt.sameX {p : Addr} {H H' : Hp} {ts : List Addr} {es : List (Int × Int)} (h : TupsAt H ts es) (hp : PoolAt H p) (s : SameX p H H') : TupsAt H' ts es := ⟨h.1, fun k t e => by
  obtain ⟨x, h1, h2⟩ := h.2 k t e
  obtain ⟨_, _, z, _⟩ := hp
  exact ⟨x, h1, s _ _ (ne_of h2 z (by intro y; cases y)) h2⟩⟩
theorem TupsAt.push {H : Hp} {ts : List Addr} {es : List (Int × Int)} {t : Addr} {e : Int × Int} (h : TupsAt H ts es) (ht : H t = some (.tup [.int e.1, .int e.2])) : TupsAt H (ts ++ [t]) (es ++ [e]) := by
  refine ⟨by rw [List.length_append, List.length_append, h.1]; rfl, fun k t' hk => ?_⟩
  by_cases hl : k < ts.length
  · rw [List.getElem?_append_left hl] at hk
    obtain ⟨x, q1, q2⟩ := h.2 k t' hk
    exact ⟨x, by rw [List.getElem?_append_left (by rw [← h.1]; exact hl)]; exact q1, q2⟩
  · rw [List.getElem?_append_right (by omega)] at hk
    have hk' : k = ts.length := by
      have z := (List.getElem?_eq_some_iff.mp hk).1
      simp at z
      omega
    subst hk'
    rw [Nat.sub_self] at hk
    obtain rfl : t = t' := Option.some.inj hk
    refine ⟨e, ?_, ht⟩
    rw [h.1, List.getElem?_append_right (Nat.le_refl _), Nat.sub_self]
    rfl
section
variable {P : Program} {w : World} {K : PySem.W.Frag} {mg : Str → Option Value} {base : Heap} {CG : Addr}
theorem sc_joins : FnScope ["_law_pool_here", "_law_many", "_law_top", "_law_found", "_law_turn", "_law_one", "_law_two"] ["_law_pool_here", "_law_many", "_law_top"] (defScope s__law_joins) := ⟨rfl, rfl, rfl, by decide +kernel, rfl, by decide +kernel, by decide +kernel⟩
end
/-- lists that stand still whatever becomes of the object at p -/
def NX (p : Addr) (H : Hp) (q : Addr) (N : List (List Int)) : Prop := ∀ H', SameX p H H' → NAt H' q N
theorem SameX.refl {p : Addr} {H : Hp} : SameX p H H := fun _ _ _ e => e
theorem NX.at {p q : Addr} {H : Hp} {N : List (List Int)} (h : NX p H q N) : NAt H q N := h H SameX.refl
theorem NX.same {p q : Addr} {H H' : Hp} {N : List (List Int)} (h : NX p H q N) (s : SameX p H H') : NX p H' q N := fun H2 s2 => h H2 (s.trans s2)
def spSmall : Sp := fun vs H Q _ => ∃ (p : Addr) (n wd : Nat), vs = [.ref p, .int n, .int wd] ∧ PoolAt H p ∧ n ≤ 1000 ∧ wd ≤ 1000 ∧
  ∀ q H' (x : List Int), H q = none → SameX p H H' → PoolAt H' p → H' q = some (.lst (x.map V.int)) → x.length = n → (∀ o ∈ x, -(wd : Int) ≤ o ∧ o ≤ wd) → Q (.ref q) H'
section
variable {P : Program} {w : World} {K : PySem.W.Frag} {mg : Str → Option Value} {base : Heap} {CG : Addr}
theorem sc_small : FnScope ["_law_pool_here", "_law_many", "_law_wide", "_law_node"] ["_law_pool_here", "_law_many", "_law_wide"] (defScope s__law_small) := ⟨rfl, rfl, rfl, by decide +kernel, rfl, by decide +kernel, by decide +kernel⟩
theorem ok_small {f : Addr} {fd : FuncData} (F : Fun K "_law_small" "_law_small" s__law_small f fd) (M : Nms mg) (G : At P w K mg base CX0 1 "_law_take" ["_law_pool_here", "_law_sides"] spTake) :
    FnOk P w K mg base CX0 2 f fd ["_law_pool_here", "_law_many", "_law_wide"] spSmall := by
  obtain ⟨c, cd, G, mG, kG, bG⟩ := G
  refine F.ok sc_small (fun vs H Q E h => ?_) (fun cdv A outer s H vs Q E hr h => ?_)
  · obtain ⟨p, n, wd, rfl, _⟩ := h
    rfl
  · obtain ⟨p, n, wd, rfl, hp, n1, w1, k⟩ := h
    refine ⟨_, pss_one (ps_ret (pe_lc (own := [("_law_node", 3)]) (g := gName 3) (tt := tYes) rfl sc_small.nd
      (pi_range1 rfl M.range (pa_cons (pv 1) pa_nil))
      (blkOk_by (own := [("_law_node", 3)]) (N := ["_law_pool_here", "_law_many", "_law_wide", "_law_node"]) (sc := defScope s__law_small) (by decide +kernel))
      (fun _ _ _ _ _ => pg_name (i := 3) sc_small.nd rfl (Or.inl rfl)) (fun _ _ _ _ _ => pts_nil)
      (fun _ _ _ _ _ => pe_op op_sub (pe_call G hr (by rfl) mG kG bG .nil pass0 (pa_cons (pv 0) (pa_cons (pe_op op_add (pe_op op_mul pe_int (pv 2)) pe_int) pa_nil))) (pv 2)))), ?_⟩
    refine ⟨_, rfl, n, rfl, by omega, by omega, fun D hD => ?_⟩
    have pD := hp.ne hD
    refine lc_range (lo := 0) (fun i H' => SameX p H H' ∧ PoolAt H' p ∧ ∃ x : List Int, H' D = some (.lst (x.map V.int)) ∧ x.length = i ∧ ∀ o ∈ x, -(wd : Int) ≤ o ∧ o ≤ wd)
      ⟨Same.x (same_upd hD), hp.same (same_upd hD), [], upd_same, rfl, by simp⟩ (fun i H' hi h => ?_) (fun H' h => ?_)
    · obtain ⟨sx, hpp, x, e1, e2, e3⟩ := h
      refine ⟨rfl, ?_⟩
      refine ⟨_, rfl, _, rfl, _, _, rfl, rfl, .inl ⟨by omega, by omega⟩, _, _, rfl, rfl, p, _, rfl, hpp, by omega, by omega, fun r H2 r0 r1 hp2 s2 => ?_⟩
      have hD2 : H2 D = some (.lst (x.map V.int)) := (s2 D pD.symm).trans e1
      refine ⟨_, rfl, _, _, rfl, rfl, _, hD2, by rw [List.length_map, e2, sizeLine_eq]; omega, fun b o hb e => ?_, ?_, x ++ [r - wd], by rw [upd_same, List.map_append]; rfl, by rw [List.length_append, e2]; rfl, fun o ho => ?_⟩
      · rw [upd_ne (ne_of_none e hD)]
        exact sameX_take s2 b o hb (sx b o hb e)
      · obtain ⟨c1, c2, z, y⟩ := hp2
        exact ⟨c1, c2, by rw [upd_ne pD]; exact z, y⟩
      · rcases List.mem_append.mp ho with ho | ho
        · exact e3 o ho
        · rw [List.mem_singleton.mp ho]
          omega
    · obtain ⟨sx, hpp, x, e1, e2, e3⟩ := h
      exact k D H' x hD sx hpp e1 e2 e3
end
structure Shw (k L : Nat) (d : PyData) : Prop where
  ok : d.showable = true
  deep : d.depth ≤ k
  len : d.shown.length ≤ L
theorem Shw.mono {k L k' L' : Nat} {d : PyData} (h : Shw k L d) (hk : k ≤ k') (hl : L ≤ L') : Shw k' L' d := ⟨h.ok, Nat.le_trans h.deep hk, Nat.le_trans h.len hl⟩
theorem textFrom_le : ∀ (ts : List Str) (k : Nat) (acc : Str), (textFrom k acc ts).length ≤ acc.length + piled ts
  | [], _, acc => by show acc.length ≤ acc.length + _; omega
  | t :: r, k, acc => by
    have h1 := textFrom_le r (k + 1) (acc ++ (if k > 0 then ", " else "" : String) ++ t)
    have e : (acc ++ (if k > 0 then ", " else "" : String) ++ t).length = acc.length + (if k > 0 then 2 else 0) + t.length := by
      rw [strLen_append, strLen_append]
      split <;> rfl
    have e2 : (if k > 0 then 2 else 0 : Nat) ≤ 2 := by split <;> decide
    rw [e] at h1
    rw [piled_cons]
    show (textFrom (k + 1) (acc ++ (if k > 0 then ", " else "" : String) ++ t) r).length ≤ _
    omega
theorem listText_le (ts : List Str) : (listText ts).length ≤ piled ts + 2 := by
  have h := textFrom_le ts 0 "["
  have e : (listText ts).length = (textFrom 0 "[" ts).length + 1 := by
    unfold listText
    rw [strLen_append]
    rfl
  have e1 : ((("[" : String) : Str)).length = 1 := rfl
  omega
theorem tupleText_le (ts : List Str) : (tupleText ts).length ≤ piled ts + 3 := by
  have e : (tupleText ts).length = 1 + (Str.join ", " ts).length + (((if ts.length == 1 then ",)" else ")" : String) : Str)).length := by
    unfold tupleText
    rw [strLen_append, strLen_append]
    rfl
  have e3 : (((if ts.length == 1 then ",)" else ")" : String) : Str)).length ≤ 2 := by split <;> decide
  cases ts with
  | nil =>
    have z : (Str.join ", " ([] : List Str)).length = 0 := rfl
    omega
  | cons t r =>
    have z := join_length_add (t :: r) (by simp)
    omega
theorem shownAll_map : ∀ es : List PyData, PyData.shownAll es = es.map PyData.shown
  | [] => by simp only [PyData.shownAll, List.map_nil]
  | e :: es => by simp only [PyData.shownAll, List.map_cons, shownAll_map es]
theorem piled_le {L : Nat} : ∀ {es : List PyData}, (∀ e ∈ es, e.shown.length ≤ L) → piled (es.map PyData.shown) ≤ (L + 2) * es.length
  | [], _ => Nat.zero_le _
  | e :: es, h => by
    have h1 := h e List.mem_cons_self
    have h2 := piled_le (es := es) fun x hx => h x (List.mem_cons_of_mem _ hx)
    rw [List.map_cons, piled_cons, List.length_cons, Nat.mul_succ]
    omega
theorem showAll_of : ∀ {es : List PyData}, (∀ e ∈ es, e.showable = true) → PyData.showableAll es = true
  | [], _ => by simp only [PyData.showableAll]
  | e :: es, h => by simp only [PyData.showableAll, h e List.mem_cons_self, showAll_of (es := es) fun x hx => h x (List.mem_cons_of_mem _ hx), Bool.and_self]
theorem deepAll_of {k : Nat} : ∀ {es : List PyData}, (∀ e ∈ es, e.depth ≤ k) → PyData.depthAll es ≤ k
  | [], _ => by simp only [PyData.depthAll]; omega
  | e :: es, h => by
    have h1 := h e List.mem_cons_self
    have h2 := deepAll_of (es := es) fun x hx => h x (List.mem_cons_of_mem _ hx)
    simp only [PyData.depthAll]
    omega
theorem shwList {k L m : Nat} {es : List PyData} (h : ∀ e ∈ es, Shw k L e) (hm : es.length ≤ m) : Shw (k + 1) ((L + 2) * m + 2) (.list es) := by
  refine ⟨?_, ?_, ?_⟩
  · simp only [PyData.showable]
    exact showAll_of fun e he => (h e he).ok
  · have z := deepAll_of (k := k) fun e he => (h e he).deep
    simp only [PyData.depth]
    omega
  · simp only [PyData.shown]
    rw [shownAll_map]
    have z := listText_le (es.map PyData.shown)
    have y := piled_le (L := L) (es := es) fun e he => (h e he).len
    have x := Nat.mul_le_mul_left (L + 2) hm
    omega
theorem shwTup {k L m : Nat} {es : List PyData} (h : ∀ e ∈ es, Shw k L e) (hm : es.length ≤ m) : Shw (k + 1) ((L + 2) * m + 3) (.tuple es) := by
  refine ⟨?_, ?_, ?_⟩
  · simp only [PyData.showable]
    exact showAll_of fun e he => (h e he).ok
  · have z := deepAll_of (k := k) fun e he => (h e he).deep
    simp only [PyData.depth]
    omega
  · simp only [PyData.shown]
    rw [shownAll_map]
    have z := tupleText_le (es.map PyData.shown)
    have y := piled_le (L := L) (es := es) fun e he => (h e he).len
    have x := Nat.mul_le_mul_left (L + 2) hm
    omega
theorem intLen {i : Int} {k : Nat} (hk : 0 < k) (h : i.natAbs < 10 ^ k) : (Str.ofString (toString i)).length ≤ k + 1 := by
  by_cases c : 0 ≤ i
  · have z := toString_length_le (v := i) c hk (by
      have e : i = (i.natAbs : Int) := by omega
      rw [e]
      exact_mod_cast h)
    omega
  · obtain ⟨m, rfl⟩ : ∃ m, i = Int.negSucc m := ⟨(-i - 1).toNat, by omega⟩
    have z := toString_length_le (v := ((m + 1 : Nat) : Int)) (by omega) hk (by exact_mod_cast h)
    have e : toString (Int.negSucc m) = "-" ++ toString (((m + 1 : Nat) : Int)) := rfl
    rw [e]
    have q : ∀ a b : String, (Str.ofString (a ++ b)).length = (Str.ofString a).length + (Str.ofString b).length := fun a b => by
      rw [Str.ofString_eq_toList, Str.ofString_eq_toList, Str.ofString_eq_toList]
      simp [Str.length]
    rw [q]
    have o : (Str.ofString "-").length = 1 := rfl
    omega
theorem shwInt {i : Int} (h : i.natAbs < 10 ^ 12) : Shw 0 13 (.int i) := by
  refine ⟨?_, ?_, ?_⟩
  · simp only [PyData.showable]
    refine decide_eq_true ?_
    have z : i.natAbs.log2 ≤ 40 := by
      by_cases c : i.natAbs = 0
      · rw [c]
        decide
      · exact Nat.le_of_lt_succ ((Nat.log2_lt c).mpr (Nat.lt_of_lt_of_le h (by decide)))
    omega
  · simp only [PyData.depth]
    omega
  · simp only [PyData.shown]
    exact intLen (by decide) h
def Bd (C : Nat) (x : List Int) : Prop := ∀ z ∈ x, z.natAbs ≤ C
theorem Bd.getD {C : Nat} {x : List Int} (h : Bd C x) (i : Nat) : (x.getD i 0).natAbs ≤ C := by
  rw [List.getD_eq_getElem?_getD]
  cases e : x[i]? with
  | none => exact Nat.zero_le _
  | some z => exact h z (List.mem_of_getElem? e)
theorem Bd.mono {C D : Nat} {x : List Int} (h : Bd C x) (d : C ≤ D) : Bd D x := fun z hz => Nat.le_trans (h z hz) d
theorem Bd.set {C : Nat} {x : List Int} (h : Bd C x) {i : Nat} {v : Int} (hv : v.natAbs ≤ C) : Bd C (x.set i v) := fun z hz => by
  rcases List.mem_or_eq_of_mem_set hz with hz | rfl
  · exact h z hz
  · exact hv
def cnt (N : List (List Int)) (i j : Nat) : Int := (((N.getD i []).count (j : Int) : Nat) : Int)
structure Sym (N : List (List Int)) : Prop where
  wf : WF N
  sym : ∀ i j, i < N.length → j < N.length → cnt N i j = cnt N j i
  self : ∀ i, i < N.length → cnt N i i = 0
  one : ∀ i j, i < N.length → cnt N i j = 0 ∨ cnt N i j = 1
theorem oneCount (u v k l : Int) : List.count l (if u = k then [v] else []) = (if u = k ∧ v = l then 1 else 0) := by
  by_cases c : u = k
  · by_cases d : v = l
    · rw [if_pos c, if_pos (And.intro c d), d, List.count_singleton_self]
    · rw [if_pos c, if_neg (fun z => d z.2)]
      exact List.count_eq_zero.mpr (fun z => d (List.mem_singleton.mp z).symm)
  · rw [if_neg c, if_neg (fun z => c z.1)]
    rfl
theorem rowCount : ∀ (es : List (Int × Int)) (i j : Int), ((rowOf es i).count j) = (rowOf es j).count i
  | [], _, _ => rfl
  | e :: es, i, j => by
    have q : ∀ k : Int, rowOf (e :: es) k = ((if e.1 = k then [e.2] else []) ++ (if e.2 = k then [e.1] else [])) ++ rowOf es k := fun _ => rfl
    rw [q i, q j, List.count_append, List.count_append, List.count_append, List.count_append, rowCount es i j]
    rw [oneCount, oneCount, oneCount, oneCount]
    congr 1
    split <;> split <;> split <;> split <;> omega
theorem rowLe : ∀ (es : List (Int × Int)) (i j : Int), es.Nodup → (∀ e ∈ es, e.1 < e.2) → (rowOf es i).count j ≤ 1 ∧ (i = j → (rowOf es i).count j = 0) ∧ ((rowOf es i).count j = 1 ↔ ((min i j, max i j) ∈ es))
  | [], _, _, _, _ => ⟨Nat.zero_le _, fun _ => rfl, ⟨fun z => (by cases z), fun z => (by cases z)⟩⟩
  | e :: es, i, j, hn, ha => by
    have q : rowOf (e :: es) i = ((if e.1 = i then [e.2] else []) ++ (if e.2 = i then [e.1] else [])) ++ rowOf es i := rfl
    obtain ⟨h1, h2⟩ := List.nodup_cons.mp hn
    obtain ⟨r1, r2, r3⟩ := rowLe es i j h2 fun u hu => ha u (List.mem_cons_of_mem _ hu)
    have lt := ha e List.mem_cons_self
    rw [q, List.count_append, List.count_append, oneCount, oneCount]
    by_cases c : e = (min i j, max i j)
    · have hno : (rowOf es i).count j = 0 := by
        rcases Nat.eq_zero_or_pos ((rowOf es i).count j) with z | z
        · exact z
        · exact absurd (r3.mp (by omega)) (c ▸ h1)
      have e1 : e.1 = min i j := by rw [c]
      have e2 : e.2 = max i j := by rw [c]
      have tot : (if e.1 = i ∧ e.2 = j then 1 else 0 : Nat) + (if e.2 = i ∧ e.1 = j then 1 else 0) = 1 := by
        by_cases d : i < j
        · rw [if_pos (by omega), if_neg (by omega)]
        · rw [if_neg (by omega), if_pos (by omega)]
      rw [tot, hno]
      exact ⟨by omega, fun z => by omega, ⟨fun _ => c ▸ List.mem_cons_self, fun _ => rfl⟩⟩
    · have n1 : ¬ (e.1 = i ∧ e.2 = j) := fun z => c (by
        rw [show e = (e.1, e.2) from rfl, z.1, z.2]
        have : min i j = i := by omega
        have : max i j = j := by omega
        rw [‹min i j = i›, ‹max i j = j›])
      have n2 : ¬ (e.2 = i ∧ e.1 = j) := fun z => c (by
        rw [show e = (e.1, e.2) from rfl, z.1, z.2]
        have : min i j = j := by omega
        have : max i j = i := by omega
        rw [‹min i j = j›, ‹max i j = i›])
      rw [if_neg n1, if_neg n2, Nat.zero_add]
      refine ⟨r1, r2, r3.trans ⟨fun z => List.mem_cons_of_mem _ z, fun z => ?_⟩⟩
      rcases List.mem_cons.mp z with z | z
      · exact absurd z.symm c
      · exact z
theorem IsNear.symm {n : Nat} {es : List (Int × Int)} {N : List (List Int)} (h : IsNear n es N) (g : GoodE n es) : Sym N := by
  have c : ∀ i j, i < N.length → cnt N i j = (((rowOf es (i : Int)).count (j : Int) : Nat) : Int) := fun i j hi => by
    unfold cnt
    rw [(h.row i (by rw [← h.len]; exact hi)).count_eq]
  have lt : ∀ e ∈ es, e.1 < e.2 := fun e he => (g.node e he).2.1
  refine ⟨h.wf g.node, fun i j hi hj => ?_, fun i hi => ?_, fun i j hi => ?_⟩
  · rw [c i j hi, c j i hj, rowCount]
  · rw [c i i hi, (rowLe es i i g.once lt).2.1 rfl]
    rfl
  · rw [c i j hi]
    have z := (rowLe es (i : Int) (j : Int) g.once lt).1
    omega
end K81
set_option Elab.async false
set_option linter.all false
set_option maxRecDepth 100000
set_option maxHeartbeats 4000000
namespace FNX
open PySem PySem.Spec PyProof.Rows L2
theorem takes_len {X : Cx} {W : WX} (tk : Takes X W) : Takes X (fun cls d σ H => σ.length = X.N.length → W cls d σ H) := fun e s' x => tk e s' (by
  obtain ⟨a, B, sI, pins, σ, H, cls, d, h1, J, h2, h3, h4, h5, h6, h7, w⟩ := x
  exact ⟨a, B, sI, pins, σ, H, cls, d, h1, J, h2, h3, h4, h5, h6, h7, w J.len⟩)
def SameN (p : Addr) (H H' : Hp) : Prop := ∀ b o, b ≠ p → (∀ ps, o ≠ .tbl ps) → H b = some o → H' b = some o
theorem SameN.refl {p : Addr} {H : Hp} : SameN p H H := fun _ _ _ _ e => e
theorem SameN.trans {p : Addr} {H H1 H2 : Hp} (a : SameN p H H1) (b : SameN p H1 H2) : SameN p H H2 := fun c o n m e => b c o n m (a c o n m e)
end FNX
namespace FNX
open PySem PySem.Spec PyProof.Rows L2
end FNX
namespace FNX
open PySem PySem.Spec PyProof.Rows L2
end FNX
namespace FNX
open PySem PySem.Spec PyProof.Rows L2
theorem FunC.fn {K : PySem.W.Frag} {x qual : Str} {st : Stmt} {f c : Addr} {fd : FuncData} (F : FunC K x qual st f fd c) : Fun K x qual st f fd := by
  obtain ⟨oc, od, kV, doc, pm, an, ct, osl, e, lk, hcd⟩ := F.ex
  exact ⟨⟨oc, od, kV, doc, pm, an, .ref c, ct, osl, e, lk, hcd⟩, F.kp⟩
theorem Door.more {K : PySem.W.Frag} {mg : Str → Option Value} {xs ys : List Str} {x : Str} {c Pt : Addr} (D : Door K mg xs x c Pt) (h : x ∈ ys) : Door K mg ys x c Pt := ⟨h, D.fn, D.hd, D.no⟩
end FNX
set_option Elab.async false
set_option linter.all false
set_option maxRecDepth 100000
set_option maxHeartbeats 4000000
namespace FNX
open PySem PySem.Spec PyProof.Rows L2
abbrev MkC := V → PyData → Hp → (V → Hp → Prop) → Prop
/-- [word, e.value] -/
def mkV (word : Str) : MkC := fun v _ H Q => ∀ p, H p = none → Q (.ref p) (upd H p (.lst [.str word, v]))
def wErrG (K : PySem.W.Frag) (Q : VK) : List (Addr × MkC) → XK
  | [] => fun _ _ _ => False
  | q :: r => fun cls d H => ∃ b, PySem.W.exmOne K cls (.ref q.1) = some b ∧
      (b = true → cls = .ref q.1 ∧ ∃ (dd : Addr) (v : V) (dt : PyData), d = some dd ∧ H dd = some (.xd [(("value" : Str), v)]) ∧ Rd K H v dt ∧ q.2 v dt H Q) ∧
      (b = false → wErrG K Q r cls d H)
end FNX
set_option Elab.async false
set_option linter.all false
set_option maxRecDepth 100000
set_option maxHeartbeats 4000000
namespace FNX
open PySem PySem.Spec PyProof.Rows L2
end FNX
set_option Elab.async false
set_option linter.all false
set_option maxRecDepth 100000
set_option maxHeartbeats 4000000
namespace FNX
open PySem PySem.Spec PyProof.Rows L2
end FNX
set_option Elab.async false
set_option linter.all false
set_option maxRecDepth 100000
set_option maxHeartbeats 4000000
namespace FNX
open PySem PySem.Spec PyProof.Rows L2
end FNX
set_option Elab.async false
set_option linter.all false
set_option maxRecDepth 100000
set_option maxHeartbeats 4000000
namespace FNX
open PySem PySem.Spec PyProof.Rows L2
end FNX
namespace FNX
open PySem PySem.Spec PyProof.Rows L2
/-- data, or a dict of one pair of ints -/
def RdU (K : PySem.W.Frag) (H : Hp) (v : V) (d : PyData) : Prop := Rd K H v d ∨ ∃ (a : Addr) (i j n : Int), v = .ref a ∧ H a = some (.dT [([Sum.inl i, Sum.inl j], .int n)]) ∧ d = .dict [(.tuple [.int i, .int j], .int n)]
theorem RdU.same {K : PySem.W.Frag} {H H' : Hp} (s : Same H H') {v : V} {d : PyData} (h : RdU K H v d) : RdU K H' v d := by
  rcases h with h | ⟨a, i, j, n, rfl, h, rfl⟩
  · exact .inl (rdSame s h)
  · exact .inr ⟨a, i, j, n, rfl, s _ _ h, rfl⟩
end FNX
set_option Elab.async false
set_option linter.all false
set_option maxRecDepth 100000
set_option maxHeartbeats 4000000
namespace FNX
open PySem PySem.Spec PyProof.Rows L2
section
variable {X : Cx} {k : Nat} {f : Addr} {fd : FuncData} {ps : List Str} {sp : Sp} {E : XK} {x : Str} {p pos : Pos}
/-- f(), f a def that is walked where no repr runs further out -/
theorem pe_callG0 (hgd : X.A.guards = some []) (F : GOk X.prog X.w X.K X.mg X.base k f fd ps sp) (hr : Room k X.A) (hg : Gl X x) (hm : X.mg x = some (.ref f)) (hk : PySem.W.keepIn X.K (.ref f) = true) (hb : L2.Binds X.K fd ps []) (hx : Passes CX0 X E)
    (hdb : (x == ("__debug__" : Str)) = false := by decide) : PE X (.Call (.Name x p) [] [] pos) (tCall sp [] E tNil) := by
  refine ⟨fun pins s σ H Q I h => ?_⟩
  refine wpAny_Call_Name_kw (ld_glob I hg hm ?_ hdb)
  have hl : (([] : List Value) ++ []).length = ps.length := F.len _ _ _ _ h
  refine PySem.W.callWith_K0 I.kIn hk (wpAny_call (codeAny_mono (F.run X.A X.stack s H ⟨[], []⟩ ([] ++ []) ([] ++ []) Q E hgd hr I.env0 (hb s [] I.kIn hl) .nil h) fun r s' hq => ?_))
  cases r with
  | error e => exact hx pins σ H s e s' I hq
  | ok fl =>
    cases fl with
    | ret u => exact I.after hq
    | next => exact False.elim hq
    | brk => exact False.elim hq
    | cont => exact False.elim hq
end
end FNX
set_option Elab.async false
set_option linter.all false
set_option maxRecDepth 100000
set_option maxHeartbeats 4000000
namespace FNX
open PySem PySem.Spec PyProof.Rows L2
end FNX
set_option Elab.async false
set_option linter.all false
set_option maxRecDepth 100000
set_option maxHeartbeats 4000000
namespace FNX
open PySem PySem.Spec PyProof.Rows L2
section
variable {M : Model} {prog : Program} {w : World} {A : Around} {E : Value → Shared → Prop} {s : Shared} {K : PySem.W.Frag} {x C f : Addr} {ox : Obj} {od : Option Obj} {base : Nat}
theorem reprUnder_own {Q : Value → Shared → Prop} (hu : A.units < cLine) (X : K.In s.heap) (I : PySem.W.InstAt s.heap x ox C od) (hs : PySem.W.findIn K (.ref C) "__repr__" = some (some (.ref f))) (hf : PySem.W.isFn K (.ref f) = true)
    (h : wpAny M A (call (.ref f) [.ref x]) (fun v s' => ∃ y u, v = .str y u ∧ Q v s') E s) : wpAny M A (pyReprObjUnder base (.ref x)) Q E s := by
  unfold pyReprObjUnder pyReprObjBy
  refine wpAny_bind (wpAny_cRoomFor hu ?_)
  refine wpAny_bind ?_
  unfold specialOf
  refine wpAny_bind (I.type.here ((PySem.W.looks_findIn X hs).here ?_))
  dsimp only [Option.isNone]
  rw [if_neg (by simp)]
  unfold callSpecialIfBoundBy?
  simp only [bindSpecialIfBound?]
  refine wpAny_bind (wpAny_holding (wpAny_bind (wpAny_bind ?_)))
  unfold specialOf
  refine wpAny_bind (I.type.here ((PySem.W.looks_findIn X hs).here ?_))
  dsimp only
  refine wpAny_bind (wpAny_askSetting (wpAny_ite ?_))
  have tyf : PySem.W.typeIn K (.ref f) = some (.type "function") := by simpa [PySem.W.isFn] using hf
  have fin : ∀ {R : Option (Value × List Value) → Shared → Prop} {E' : Value → Shared → Prop}, R (some (.ref f, [.ref x])) s → wpAny M A (bindSpecial (.ref f) (.ref x) >>= fun u => pure (some u)) R E' s := fun {R E'} h =>
    wpAny_bind ((PySem.W.bind_fn X (.ref x) tyf).here (wpAny_pure h))
  have go : wpAny M A (match some (Value.ref f, [Value.ref x]) with
        | some (g, first) => do
          let r ← match reprUnder? g, first with
              | some twin, [self] => call twin [self, rawInt ↑base]
              | _, _ => call g (first ++ [])
          pure (some r)
        | _ => pure none)
        (fun a s' =>
          wpAny M A
            (match a with
            | some r => do
              if (← isInstance r (Value.type "str")) = true then pure r
                else do
                  raiseErrorMade "TypeError"
                      (toString "__repr__ returned non-string (type " ++ toString (← typeNameOf r) ++ toString ")")
            | none => unsupported "repr:special-get-raises")
            Q E s')
        E s := by
    refine wpAny_bind (wpAny_mono h (fun v s' hv => ?_) fun _ _ e => e)
    obtain ⟨y, u, rfl, q⟩ := hv
    refine wpAny_pure ?_
    refine wpAny_bind (wpAny_isInstance (typeIs_str s' y u) isSubtype_str_str ?_)
    rw [if_pos rfl]
    exact wpAny_pure q
  split
  · exact fin go
  · exact wpAny_tryCatch (fin go)
end
/-- values that hold an instance somewhere: no data -/
inductive Bad (H : Hp) : V → Prop
  | ins {a C dx : Addr} {fs : List (Str × V)} (h : H a = some (.ins C dx fs)) : Bad H (.ref a)
  | lst {o : Addr} {ys : List V} {y : V} (h : H o = some (.lst ys)) (m : y ∈ ys) (b : Bad H y) : Bad H (.ref o)
theorem Bad.same {H H' : Hp} (s : Same H H') {v : V} (h : Bad H v) : Bad H' v := by
  induction h with
  | ins h => exact .ins (s _ _ h)
  | lst h m _ ih => exact .lst (s _ _ h) m ih
/-- guards whose lists hold instances -/
def GBad (g : List Code) (H : Hp) : Prop := ∀ c ∈ g, ∀ id v rest kw, c = .builtin id ⟨v :: rest, kw⟩ → ∃ o, v = .ref o ∧ Bad H (.ref o)
theorem GBad.same {H H' : Hp} (s : Same H H') {g : List Code} (h : GBad g H) : GBad g H' := fun c hc id v rest kw e => by
  obtain ⟨o, e', b⟩ := h c hc id v rest kw e
  exact ⟨o, e', b.same s⟩
theorem GBad.nil {H : Hp} : GBad [] H := fun c hc => by cases hc
theorem readsAll_mem {h : Heap} : ∀ {us : List Value} {ds : List PyData} {as : List Addr}, ReadsAll h us ds as → ∀ u ∈ us, ∃ d as', Reads h u d as'
  | _, _, _, .nil, u, hu => by cases hu
  | _, _, _, .cons h1 h2, u, hu => by
    rcases List.mem_cons.mp hu with rfl | hu
    · exact ⟨_, _, h1⟩
    · exact readsAll_mem h2 u hu
section
variable {X : Cx} {pins : List (Addr × Obj)} {σ : L2.St} {H : Hp} {s : Shared}
theorem Bad.noReads (I : Inv X pins σ H s) {v : V} (h : Bad H v) : ∀ {u : Value} {d : PyData} {as : List Addr}, L2.RelV v u → Reads s.heap u d as → False := by
  induction h with
  | @ins a C dx fs h =>
    intro u d as r q
    cases r
    obtain ⟨mA, J, _⟩ := ins_get I.hok h
    obtain ⟨od, J, _⟩ := J.look
    have e1 := J.at_
    have e2 := J.cls
    cases q with
    | list h1 h2 h3 h4 =>
      rw [e1] at h1
      injection h1 with h1
      rw [← h1, e2] at h2
      cases h2
    | tuple h1 h2 h3 h4 =>
      rw [e1] at h1
      injection h1 with h1
      rw [← h1, e2] at h2
      cases h2
    | dict h1 h2 h3 h4 h5 =>
      rw [e1] at h1
      injection h1 with h1
      rw [← h1, e2] at h2
      cases h2
  | @lst o ys y h m b ih =>
    intro u d as r q
    cases r
    obtain ⟨_, its, n, rv, _, e⟩ := I.lstM h
    cases q with
    | list h1 h2 h3 h4 =>
      rw [e] at h1
      injection h1 with h1
      rw [← h1] at h3
      injection h3 with h3
      obtain ⟨j, hj⟩ := List.getElem?_of_mem m
      obtain ⟨u, eu, ru⟩ := rv.get hj
      obtain ⟨d', as', q'⟩ := readsAll_mem h4 u (by
        rw [← h3]
        exact List.mem_of_getElem? eu)
      exact ih ru q'
    | tuple h1 h2 h3 h4 =>
      rw [e] at h1
      injection h1 with h1
      rw [← h1] at h2
      injection h2 with h2
      exact absurd h2 (by decide)
    | dict h1 h2 h3 h4 h5 =>
      rw [e] at h1
      injection h1 with h1
      rw [← h1] at h2
      injection h2 with h2
      exact absurd h2 (by decide)
theorem GBad.clear (I : Inv X pins σ H s) {g : List Code} (hg : GBad g H) {b : Addr} {d : PyData} {as : List Addr} (r : Reads s.heap (.ref b) d as) : Clear g b := fun id v rest kw hc => by
  obtain ⟨o, e, bad⟩ := hg _ hc id v rest kw rfl
  intro z
  rw [e] at z
  injection z with z
  rw [z] at bad
  exact bad.noReads I rfl r
end
/-- what stands around a part of a call's way -/
structure Arn (X : Cx) (A : Around) (k : Nat) (g : List Code) : Prop where
  fr : A.frames = X.A.frames
  hd : A.handled = X.A.handled
  dp : A.depth ≤ X.A.depth + k
  un : A.units ≤ X.A.units + k
  gd : A.guards = some g
theorem Arn.mono {X : Cx} {A : Around} {k l : Nat} {g : List Code} (h : Arn X A k g) (hk : k ≤ l) : Arn X A l g :=
  ⟨h.fr, h.hd, by have := h.dp; omega, by have := h.un; omega, h.gd⟩
theorem Arn.in1 {X : Cx} {A : Around} {k : Nat} {g : List Code} (h : Arn X A k g) : Arn X A.in1 (k + 1) g :=
  ⟨h.fr, h.hd, by have := h.dp; show A.depth ≤ _; omega, by have := h.un; show A.units + 1 ≤ _; omega, h.gd⟩
theorem Arn.loop {X : Cx} {A : Around} {k : Nat} {g : List Code} (h : Arn X A k g) (args : Args) : Arn X (A.under (.builtin "list.__repr__.loop" args)) (k + 1) (.builtin "list.__repr__.loop" args :: g) := by
  refine ⟨h.fr, h.hd, ?_, ?_, guards_under_guard (isGuard_list_loop args) h.gd⟩
  · have := h.dp
    show A.depth + 1 ≤ _
    omega
  · have := h.un
    show A.units + 1 ≤ _
    omega
/-- a def that is walked where reprs run further out -/
structure GgOk (P : Program) (w : World) (K : PySem.W.Frag) (mg : Str → Option Value) (base : Heap) (k : Nat) (f : Addr) (fd : FuncData) (ps : List Str) (sp : List Code → Sp) : Prop where
  len : ∀ g vs H Q E, sp g vs H Q E → vs.length = ps.length
  run : ∀ (A : Around) (outer : List Env) (s : Shared) (H : Hp) (args : Args) (us : List Value) (vs : List V) (Q : VK) (E : XK) (g : List Code), A.guards = some g → Room k A →
    Env0 P w K mg base A outer s H → BindsTo s fd args (ps.zip us) → Vals vs us → sp g vs H Q E → codeAny (model P w) A (.call (.ref f) args) (CR CX0 outer P w H s Q E) s
section
variable {P : Program} {w : World} {K : PySem.W.Frag} {mg : Str → Option Value} {base : Heap}
theorem okGg {x qual : Str} {st : Stmt} {f : Addr} {fd : FuncData} {N ps : List Str} {k : Nat} {sp : List Code → Sp} (F : Fun K x qual st f fd) (S : FnScope N ps (defScope st))
    (len : ∀ g vs H Q E, sp g vs H Q E → vs.length = ps.length)
    (hbody : ∀ (cdv : Value) (A : Around) (outer : List Env) (s : Shared) (H : Hp) (vs : List V) (Q : VK) (E : XK) (g : List Code), A.guards = some g →
      Room k (A.deeper (envOfC qual (defScope st) s.heap.objs.size f cdv)) → sp g vs H Q E →
      ∃ t, PSs (cxOf CX0 P w K mg base N qual (defScope st) f cdv A outer s H E).nox (defBody st) t ∧ t { nx := fun _ H' => Q .non H', rt := Q } (start N vs) H) :
    GgOk P w K mg base (k + 1) f fd ps sp := by
  refine ⟨len, fun A outer s H args us vs Q E g hg hr e0 hb r hs => ?_⟩
  obtain ⟨oc, od, kV, doc, pm, an, cdv, ct, osl, rfl, lk, hcd⟩ := F.ex
  refine LamX.run_ofS (CX := CX0) lk hcd S hr e0 hb r (len _ _ _ _ _ hs) fun hr' => ?_
  obtain ⟨t, ht, q⟩ := hbody cdv A outer s H vs Q E g hg hr' hs
  exact ⟨t, ht.nox, q⟩
end
/-- {x} in an f-string, x data, where reprs may run further out -/
def tFmtC (K : PySem.W.Frag) (g : List Code) (te : TE) : TE := fun σ H Q => te σ H fun x H1 => ∃ a xs ds, x = .ref a ∧ SqL K H1 a xs ∧ DpAll K H1 xs ds ∧ GBad g H1 ∧ (PyData.list ds).showable = true ∧ (PyData.list ds).depth ≤ 60 ∧ (PyData.list ds).shown.length ≤ sizeLine ∧ Q (.str (PyData.list ds).shown) H1
theorem rdAllOf {K : PySem.W.Frag} {H : Hp} : ∀ {xs : List V} {ds : List PyData}, DpAll K H xs ds → RdAll K H xs ds
  | _, _, .nil => .nil
  | _, _, .cons h hs => .cons (.dat h) (rdAllOf hs)
section
variable {X : Cx} {n : Nat} {pins : List (Addr × Obj)} {σ : L2.St}
theorem listReprD {H : Hp} {s : Shared} (I : Inv X pins σ H s) {A : Around} {g : List Code} {a : Addr} {xs : List V} {ds : List PyData} {Q : Value → Shared → Prop} {E : Value → Shared → Prop} (hg : A.guards = some g) (hb : GBad g H) (hu : A.units + 64 < cLine) (hs : SqL X.K H a xs) (hd : RdAll X.K H xs ds)
    (h1 : (PyData.list ds).showable = true) (h2 : (PyData.list ds).depth ≤ 60) (h3 : (PyData.list ds).shown.length ≤ sizeLine)
    (q : ∀ (h' : Heap) (u : Tok) (tk : Nat), (∀ b o, s.heap.get? b = some o → h'.get? b = some o) → Q (.str (PyData.list ds).shown u) { s with heap := h', toks := tk }) :
    wpAny (model X.prog X.w) A (call (.builtin "list.__repr__") [.ref a]) Q E s := by
  obtain ⟨its, rv, ⟨o, m, ho, hc, _, hdt⟩, _⟩ := I.list hs
  have sh : PyData.showableAll ds = true := by simpa [PyData.showable] using h1
  have es : (PyData.list ds).shown = listText (PyData.shownAll ds) := by simp only [PyData.shown]
  have hz' : (listText (PyData.shownAll ds)).length ≤ sizeLine := by rw [← es]; exact h3
  obtain ⟨as, bs, hr, hbs, hk⟩ := reprItems I hd rv sh fun t ht => Nat.le_trans (listText_mem_le ht) hz'
  have hdep : (PyData.list ds).depth = PyData.depthAll ds + 1 := by simp only [PyData.depth]
  have hna : a ∉ bs := not_mem_of_deeper (.list ho hc hdt hr) (by rw [hdep]; omega) hbs
  rw [es] at q
  cases its with
  | nil =>
    cases rv
    cases hd
    refine call_list_repr_empty ⟨o, ho, hc⟩ ho hdt ?_
    exact q s.heap s.toks (s.toks + 1) fun _ _ e => e
  | cons u l =>
    refine call_list_reprK ho hc hdt hna (by simpa using hk.length_eq) (fun i y e => hk.item i y (by simpa using e)) hg (fun b hm => ?_) (by omega) (fun _ _ e => e) (fun h' u' tk k => q h' u' tk k) hz'
    rcases List.mem_cons.mp hm with rfl | hm
    · exact hb.clear I (.list ho hc hdt hr)
    · obtain ⟨d', as', r', _⟩ := hbs b hm
      exact hb.clear I r'
theorem pe_fmtC {e : Expr} {te : TE} {pos : Pos} {g : List Code} (hg : X.A.guards = some g) (hu : X.A.units + 80 < cLine) (he : PE X e te) : PE X (.FormattedValue e (-1) none pos) (tFmtC X.K g te) := by
  refine ⟨fun pins s σ H Q I h => ?_⟩
  refine wpAny_FormattedValue_plain (thn (he.run pins s σ H _ I h) fun v s1 hv => ?_)
  obtain ⟨x, H1, I1, r1, a, xs, ds, rfl, hs, hd, hb, h1, h2, h3, q⟩ := hv
  cases r1
  obtain ⟨its, rv, ⟨o, m, ho, hc, ht, hdt⟩, _⟩ := I1.list hs
  refine wpAny_formatField_slot (T := "list") (fun y t z => by cases z) (by omega) ⟨o, ho, hc⟩ F.slot_list_format F.slot_list_str F.slot_list_repr.toG ?_
  have I2 : Inv X pins σ H1 { s1 with toks := s1.toks + 1 } := I1.un (t' := s1.toks + 1) (Un.kept fun _ _ e => e) (I1.hok.kept fun _ _ e => e)
  exact listReprD I2 (A := X.A.in1.in1) hg hb (by show X.A.units + 1 + 1 + 64 < cLine; omega) hs (rdAllOf hd) h1 h2 h3 fun h' u tk k => ⟨_, _, rfl, .str _, H1, I2.un (t' := tk) (Un.kept k) (I2.hok.kept k), ⟨_, rfl⟩, q⟩
def ItemOk (X : Cx) (H : Hp) (v : V) (t : Str) : Prop := ∀ (pins : List (Addr × Obj)) (σ : L2.St) (base : Nat) (A : Around) (g : List Code) (u : Value) (s : Shared) (H' : Hp) (E : Value → Shared → Prop) (Q : Str → Shared → Prop),
  base + t.length ≤ sizeLine → Arn X A 10 g → GBad g H' → L2.RelV v u → Same H H' → Inv X pins σ H' s → (∀ s', Inv X pins σ H' s' → Q t s') → wpAny (model X.prog X.w) A (pyReprUnder base u) Q E s
theorem itemData {H : Hp} {v : V} {d : PyData} (hu : X.A.units + 80 < cLine) (h : Rd X.K H v d) (h1 : d.showable = true) (h2 : d.depth ≤ 60) (h3 : d.shown.length ≤ sizeLine) : ItemOk X H v d.shown := by
  intro pins σ base A g u s H' E Q hbase ar hb r sm I q
  obtain ⟨as, hr, hsm⟩ := rdReads I (rdSame sm h) r
  obtain ⟨bs, hbs, k⟩ := ReprK.of_reads (prog := X.prog) (w := X.w) hr h1 hsm h3
  refine k base hbase A g E s Q ar.gd (fun b hm => ?_) (by have := ar.un; omega) (fun _ _ e => e) fun h' tk kp => q _ (I.un (t' := tk) (Un.kept kp) (I.hok.kept kp))
  obtain ⟨d', as', r', _⟩ := hbs b hm
  exact hb.clear I r'
theorem itemOwn {H : Hp} {a C dx f : Addr} {fs : List (Str × V)} {fd : FuncData} {ps : List Str} {sp : List Code → Sp} {t : Str} (F : GgOk X.prog X.w X.K X.mg X.base n f fd ps sp)
    (hs : PySem.W.findIn X.K (.ref C) "__repr__" = some (some (.ref f))) (hf : PySem.W.isFn X.K (.ref f) = true) (hbd : L2.Binds X.K fd ps []) (hr : Room (n + 4) X.A) (ha : H a = some (.ins C dx fs))
    (hsp : ∀ (g : List Code) (H' : Hp), Same H H' → GBad g H' → sp g [.ref a] H' (fun v H2 => v = .str t ∧ H2 = H') E0) : ItemOk X H (.ref a) t := by
  intro pins σ base A g u s H' E Q hbase ar hb r sm I q
  cases r
  obtain ⟨mA, J, _⟩ := ins_get I.hok (sm _ _ ha)
  obtain ⟨od, J, _⟩ := J.look
  have rA : Room n A := ⟨by rw [ar.hd]; exact hr.hd, by have := hr.dp; have := ar.dp; omega, by have := hr.un; have := ar.un; omega⟩
  refine wpAny_pyReprUnder_ref (by omega) (reprUnder_own (by have := rA.un; omega) I.kIn J hs hf ?_)
  have e := I.env0
  have e0 : Env0 X.prog X.w X.K X.mg X.base A X.stack s H' := ⟨by rw [ar.fr]; exact e.frames, e.mod, e.bs, e.bsz, e.funs, e.frf, e.hok, e.bare⟩
  have hsp := hsp g H' sm hb
  have hl := F.len _ _ _ _ _ hsp
  have r3 : Vals [V.ref a] [Value.ref a] := .cons rfl .nil
  refine wpAny_call (codeAny_mono (F.run A X.stack s H' ⟨[.ref a], []⟩ [.ref a] [.ref a] _ E0 g ar.gd rA e0 (by
    have := hbd s [.ref a] I.kIn (by simpa using hl)
    simpa using this) r3 hsp) fun r s' hq => ?_)
  cases r with
  | error e => exact False.elim hq
  | ok fl =>
    cases fl with
    | ret w =>
      obtain ⟨z, H2, I2, rz, rfl, rfl⟩ := I.after hq
      obtain ⟨tk, rfl⟩ := rz
      exact ⟨t, tk, rfl, t, tk, rfl, q _ I2⟩
    | next => exact False.elim hq
    | brk => exact False.elim hq
    | cont => exact False.elim hq
theorem strVals : ∀ {ts : List Str} {us : List Value}, Vals (ts.map V.str) us → ∃ done : List (Str × Tok), us = strValues done ∧ done.map (·.1) = ts
  | [], _, r => by
    cases r
    exact ⟨[], rfl, rfl⟩
  | t :: ts, _, r => by
    cases r with
    | cons r1 r2 =>
      obtain ⟨tk, rfl⟩ := r1
      obtain ⟨d, rfl, rfl⟩ := strVals r2
      exact ⟨(t, tk) :: d, rfl, rfl⟩
theorem lenPiled : ∀ ts : List Str, ts.length ≤ piled ts
  | [] => Nat.zero_le _
  | t :: ts => by
    rw [piled_cons, List.length_cons]
    have := lenPiled ts
    omega
theorem loopOwn {H0 : Hp} {a P : Addr} {xs : List V} {ts : List Str} {A : Around} {g : List Code} {R : Result → Shared → Prop}
    (hit : ∀ (i : Nat) (x : V), xs[i]? = some x → ∃ t, ts[i]? = some t ∧ ItemOk X H0 x t) (hlen : ts.length = xs.length) (ha : H0 a = some (.lst xs)) (bad : Bad H0 (.ref a)) (nP : H0 P = none) (ar : Arn X A 8 g) (hb : GBad g H0) (hz : (listText ts).length ≤ sizeLine)
    (done : ∀ u s' H', Inv X pins σ H' s' → Same H0 H' → R (.ok (.ret (.str (listText ts) u))) s') :
    ∀ (k i : Nat) (s : Shared) (H' : Hp), xs.length - i = k → i ≤ xs.length → Same H0 H' → H' P = some (.lst ((ts.take i).map V.str)) → Inv X pins σ H' s →
      codeAny (model X.prog X.w) A (.builtin "list.__repr__.loop" ⟨[.ref a, rawInt (i : Int), .ref P, rawInt ((piled (ts.take i) : Nat) : Int)], []⟩) R s := by
  intro k
  induction k with
  | zero =>
    intro i s H' hk hi sm hP I
    have ei : i = xs.length := by omega
    refine codeAny_builtin F.entry_list_repr_loop ?_
    obtain ⟨_, its, n, rv, hl, e⟩ := I.lstM (sm _ _ ha)
    obtain ⟨_, itP, m, rP, hP', eP⟩ := I.lstM hP
    unfold rawInt
    rw [repr_loop_tree]
    refine wpAny_bind (wpAny_listItems e rfl ?_)
    rw [show its.toArray[((i : Int)).toNat]? = none from by
      rw [Int.toNat_natCast, List.getElem?_toArray, List.getElem?_eq_none_iff]
      omega]
    dsimp only
    unfold reprEnd
    refine wpAny_bind (wpAny_listItems eP rfl ?_)
    obtain ⟨dn, rfl, hd⟩ := strVals rP
    rw [show (strValues dn).toArray.toList = strValues dn from rfl, repr_fold, hd, ei, ← hlen, List.take_length]
    refine wpAny_bind (wpAny_pure ?_)
    unfold retStr
    refine wpAny_bind (wpAny_mkStr ?_ hz)
    refine wpAny_pure ?_
    exact done _ _ H' (I.un (t' := s.toks + 1) (Un.kept fun _ _ e => e) (I.hok.kept fun _ _ e => e)) sm
  | succ k ih =>
    intro i s H' hk hi sm hP I
    have hi' : i < xs.length := by omega
    refine codeAny_builtin F.entry_list_repr_loop ?_
    obtain ⟨_, its, n, rv, hl, e⟩ := I.lstM (sm _ _ ha)
    have hx : xs[i]? = some xs[i] := List.getElem?_eq_getElem hi'
    obtain ⟨u, hu, ru⟩ := rv.get hx
    obtain ⟨t, ht, item⟩ := hit i _ hx
    unfold rawInt
    rw [repr_loop_tree]
    refine wpAny_bind (wpAny_listItems e rfl ?_)
    rw [show its.toArray[((i : Int)).toNat]? = some u from by
      rw [Int.toNat_natCast, List.getElem?_toArray]
      exact hu]
    dsimp only
    have p1 := piled_take_succ ht
    have p2 := piled_take_le ts (i + 1)
    have p3 := piled_le_listText ts
    have gb' : GBad (.builtin "list.__repr__.loop" ⟨[.ref a, rawInt (i : Int), .ref P, rawInt ((piled (ts.take i) : Nat) : Int)], []⟩ :: g) H' := fun c hc id v rest kw ec => by
      rcases List.mem_cons.mp hc with rfl | hc
      · injection ec with _ ec
        injection ec with ec _
        injection ec with ec _
        exact ⟨a, ec.symm, bad.same sm⟩
      · exact (hb.same sm) c hc id v rest kw ec
    refine wpAny_bind (wpAny_holding (item pins σ _ _ _ u s H' _ _ (by rw [Int.toNat_natCast]; omega) (Arn.mono (ar.loop _) (by omega)) gb' ru sm I fun s1 I1 => ?_))
    rw [Int.toNat_natCast]
    refine wpAny_bind (wpAny_mkStr ?_ (by omega))
    have I2 : Inv X pins σ H' { s1 with toks := s1.toks + 1 } := I1.un (t' := s1.toks + 1) (Un.kept fun _ _ e => e) (I1.hok.kept fun _ _ e => e)
    obtain ⟨lenP, itP, m, rP, hP', eP⟩ := I2.lstM hP
    refine wpAny_bind ?_
    show wpAny _ _ (updateSeq P _) _ _ _
    have hsz : itP.toArray.size + 1 ≤ sizeLine := by
      have := List.length_take_le i ts
      rw [List.size_toArray, ← hP', List.length_map]
      have : (ts.take i).length ≤ piled ts := by
        exact Nat.le_trans (lenPiled _) (piled_take_le ts i)
      omega
    refine wpAny_updateSeq eP rfl ?_ (by omega) (by rw [Array.size_push]; omega)
    refine wpAny_pure ⟨F.quiet_list_repr_loop _, ?_⟩
    have aP : a ≠ P := fun z => by
      rw [z, nP] at ha
      cases ha
    have rP' : Vals ((ts.take (i + 1)).map V.str) (itP ++ [.str t s1.toks]) := by
      rw [List.take_add_one, ht, List.map_append]
      exact rP.append (.cons ⟨_, rfl⟩ .nil)
    have I3 := I2.lset (f := fun x => x.push (Value.str t s1.toks)) (its' := itP ++ [.str t s1.toks]) (t' := s1.toks + 1) hP eP (by simp) rP' (by rw [List.length_map]; have := List.length_take_le (i + 1) ts; have := lenPiled ts; omega)
    have sm' : Same H0 (upd H' P (.lst ((ts.take (i + 1)).map V.str))) := fun b o e => by
      rw [upd_ne (fun z => by rw [z, nP] at e; cases e)]
      exact sm _ _ e
    have z := ih (i + 1) _ _ (by omega) (by omega) sm' upd_same I3
    rw [p1] at z
    exact z
def ItT (K : PySem.W.Frag) (C : Addr) (sp : List Code → Sp) (H : Hp) (v : V) (t : Str) : Prop := (∃ d, Rd K H v d ∧ d.showable = true ∧ d.depth ≤ 60 ∧ d.shown.length ≤ sizeLine ∧ t = d.shown) ∨
  ∃ b dx fs, v = .ref b ∧ H b = some (.ins C dx fs) ∧ ∀ g H', Same H H' → GBad g H' → sp g [.ref b] H' (fun v H2 => v = .str t ∧ H2 = H') E0
def rReprO (K : PySem.W.Frag) (C : Addr) (sp : List Code → Sp) : List V → Hp → VK → Prop := fun vs H Q => ∃ a ys ts, vs = [.ref a] ∧ H a = some (.lst ys) ∧ Bad H (.ref a) ∧ ts.length = ys.length ∧ (∀ (i : Nat) (y : V), ys[i]? = some y → ∃ t, ts[i]? = some t ∧ ItT K C sp H y t) ∧
  (listText ts).length ≤ sizeLine ∧ ∀ H', Same H H' → Q (.str (listText ts)) H'
theorem call_reprO {C f : Addr} {fd : FuncData} {ps : List Str} {sp : List Code → Sp} (FF : GgOk X.prog X.w X.K X.mg X.base n f fd ps sp) (hg : X.A.guards = some [])
    (hs : PySem.W.findIn X.K (.ref C) "__repr__" = some (some (.ref f))) (hf : PySem.W.isFn X.K (.ref f) = true) (hb : L2.Binds X.K fd ps []) (hr : Room (n + 4) X.A) : CallR X (.builtin "repr") (rReprO X.K C sp) := by
  intro pins s σ H xs us Q I r h
  obtain ⟨a, ys, ts, rfl, ha, bad, hlen, hit, hz, q⟩ := h
  have hu : X.A.units + 80 < cLine := by have := hr.un; omega
  cases r with
  | cons r1 r2 =>
    cases r2
    cases r1
    obtain ⟨_, its, m, rv, hl, e⟩ := I.lstM ha
    have ne : ys ≠ [] := fun z => by
      cases bad with
      | ins h => rw [ha] at h; cases h
      | lst h mm _ =>
        rw [ha] at h
        injection h with h
        injection h with h
        rw [← h, z] at mm
        cases mm
    refine call_repr_slot (T := "list") (idr := "list.__repr__") (by omega) ⟨_, e, rfl⟩ F.slot_list_repr.toG ?_
    cases its with
    | nil =>
      cases rv
      exact absurd rfl ne
    | cons u l =>
      refine wpAny_call (codeAny_call_builtin F.slot_list_repr.plain F.entry_list_repr ?_)
      refine F.slot_list_repr.check _ _ _ _ _ _ _ _ ⟨_, e, rfl⟩ (F.args_list_repr_1 _) ?_
      show wpAny _ _ (Builtin.listReprAt 0 ⟨[.ref a], []⟩) _ _ _
      refine wpAny_list_repr_head (g := []) hg (fun v rest kw z => by cases z) e rfl ?_
      refine wpAny_bind (wpAny_newList ?_ (by show 0 ≤ sizeLine; decide))
      refine wpAny_pure ⟨F.quiet_list_repr_loop _, ?_⟩
      have nP := I.hok.fresh (Nat.le_refl s.heap.objs.size)
      have I1 : Inv X pins σ (upd H s.heap.objs.size (.lst [])) { s with heap := s.heap.push { cls := .type "list", data := .seq ([] : List Value).toArray }, toks := s.toks } := I.laid (fun _ _ q => Heap.get?_push_of_some _ q) (Nat.le_refl _) 
        (show ObjOk X.prog X.w (upd H s.heap.objs.size (HO.lst [])) _ s.heap.objs.size (HO.lst []) from ⟨by show 0 ≤ sizeLine; decide, [], _, .nil, Heap.get?_push_size _ rfl⟩)
      have ar : Arn X X.A.in1 8 [] := ⟨rfl, rfl, by show X.A.depth ≤ _; omega, by show X.A.units + 1 ≤ _; omega, hg⟩
      refine loopOwn (pins := pins) (σ := σ) (fun i x hx => ?_) hlen ha bad nP ar GBad.nil hz (fun u s' H' I' sm => ⟨_, _, rfl, .str _, H', I', ⟨_, rfl⟩, q H' sm⟩) _ 0 _ _ rfl (Nat.zero_le _) (same_upd nP) (by rw [upd_same]; rfl) I1
      obtain ⟨t, ht, hd | ho⟩ := hit i x hx
      · obtain ⟨d, z1, z2, z3, z4, rfl⟩ := hd
        exact ⟨_, ht, itemData hu z1 z2 z3 z4⟩
      · obtain ⟨b, dx, fs, rfl, z1, z2⟩ := ho
        exact ⟨_, ht, itemOwn FF hs hf hb hr z1 z2⟩
end
end FNX
set_option Elab.async false
set_option linter.all false
set_option maxRecDepth 100000
set_option maxHeartbeats 8000000
namespace K81
open PySem PySem.Spec PyProof.Rows L2 FNX
def GX (CG p : Addr) (H : Hp) (g : Addr) (N : List (List Int)) : Prop := ∀ H', SameX p H H' → GAt CG H' g N
theorem GX.at {CG p g : Addr} {H : Hp} {N : List (List Int)} (h : GX CG p H g N) : GAt CG H g N := h H SameX.refl
theorem GX.same {CG p g : Addr} {H H' : Hp} {N : List (List Int)} (h : GX CG p H g N) (s : SameX p H H') : GX CG p H' g N := fun H2 s2 => h H2 (s.trans s2)
theorem SameX.same {p : Addr} {H H' : Hp} (s : SameX p H H') (n : H p = none) : Same H H' := fun b o e => s b o (ne_of_none e n) e
theorem sqLSame {K : PySem.W.Frag} {H H' : Hp} {a : Addr} {xs : List V} (h : SqL K H a xs) (s : Same H H') : SqL K H' a xs := by
  rcases h with (h | ⟨o, h⟩) | h
  · exact .inl (.inl (s _ _ h))
  · exact .inl (.inr ⟨o, s _ _ h⟩)
  · exact .inr h
theorem shwLine {k L : Nat} {d : PyData} (h : Shw k L d) (hk : k ≤ 60) (hL : L ≤ 1000000) : d.showable = true ∧ d.depth ≤ 60 ∧ d.shown.length ≤ sizeLine := ⟨h.ok, Nat.le_trans h.deep hk, Nat.le_trans h.len (Nat.le_trans hL (by rw [sizeLine_eq]; decide))⟩
theorem Same.ext {H H' : Hp} (s : Same H H') : LamX.ExtN H H' := fun b o e _ => s b o e
/-- what an exception of the class C with the value v leaves -/
def told (C : Addr) (v : V) (H : Hp) (E : XK) : Prop := ∀ H' dd, Same H H' → H dd = none → H' dd = some (.xd [(("value" : Str), v)]) → E (.ref C) (some dd) H'
end K81
set_option Elab.async false
set_option linter.all false
set_option maxRecDepth 100000
set_option maxHeartbeats 8000000
namespace K81
open PySem PySem.Spec PyProof.Rows L2 FNX
def isTup : PyData → Bool
  | .tuple _ => true
  | _ => false
theorem kitTu (K : PySem.W.Frag) : ∀ d : PyData, PySem.W.kitOne K (.type (tyD d)) (.type "tuple") = some (isTup d)
  | .none => (kit_ty (by decide +kernel) : PySem.W.kitOne K (.type "NoneType") (.type "tuple") = some false)
  | .bool _ => (kit_ty (by decide +kernel) : PySem.W.kitOne K (.type "bool") (.type "tuple") = some false)
  | .int _ => (kit_ty (by decide +kernel) : PySem.W.kitOne K (.type "int") (.type "tuple") = some false)
  | .str _ => (kit_ty (by decide +kernel) : PySem.W.kitOne K (.type "str") (.type "tuple") = some false)
  | .list _ => (kit_ty (by decide +kernel) : PySem.W.kitOne K (.type "list") (.type "tuple") = some false)
  | .tuple _ => (kit_ty (by decide +kernel) : PySem.W.kitOne K (.type "tuple") (.type "tuple") = some true)
  | .dict _ => (kit_ty (by decide +kernel) : PySem.W.kitOne K (.type "dict") (.type "tuple") = some false)
theorem rdTup {K : PySem.W.Frag} {H : Hp} {v : V} {ds : List PyData} (h : Rd K H v (.tuple ds)) : ∃ a xs, v = .ref a ∧ SqT K H a xs ∧ DpAll K H xs ds := by
  cases h with
  | dat h =>
    cases h with
    | tup h1 h2 => exact ⟨_, _, rfl, h1, h2⟩
theorem decVI (i j : Int) : decide (V.int i = V.int j) = decide (i = j) := by
  by_cases h : i = j
  · rw [h, decide_eq_true rfl, decide_eq_true rfl]
  · rw [decide_eq_false h, decide_eq_false (fun z => h (by injection z))]
theorem nodeD {n : Nat} {d : PyData} (h : isNode n d = true) : ∃ v : Nat, d = .int (v : Int) ∧ v < n := by
  cases d with
  | int i =>
    have h : (decide ((0 : Int) ≤ i) && decide (i ≤ (n : Int) - 1)) = true := h
    rw [Bool.and_eq_true, decide_eq_true_eq, decide_eq_true_eq] at h
    exact ⟨i.toNat, by rw [show ((i.toNat : Nat) : Int) = i by omega], by omega⟩
  | _ => cases h
def isEdgeD (n : Nat) : PyData → Bool
  | .tuple [a, b] => isNode n a && isNode n b && !PyData.eqv a b
  | _ => false
theorem isEdgeLen {n : Nat} {ds : List PyData} (h : ds.length ≠ 2) : isEdgeD n (.tuple ds) = false := by
  match ds, h with
  | [], _ => rfl
  | [_], _ => rfl
  | _ :: _ :: _ :: _, _ => rfl
  | [_, _], h => exact absurd rfl h
theorem isEdgePair {n : Nat} {e : Int × Int} (h : 0 ≤ e.1 ∧ e.1 < n ∧ 0 ≤ e.2 ∧ e.2 < n ∧ e.1 ≠ e.2) : isEdgeD n (pairD e) = true := by
  show (isNode n (.int e.1) && isNode n (.int e.2) && !PyData.eqv (.int e.1) (.int e.2)) = true
  rw [nodeIn h.1 h.2.1, nodeIn h.2.2.1 h.2.2.2.1]
  have q : PyData.eqv (.int e.1) (.int e.2) = false := by
    have z : PyData.eqv (.int e.1) (.int e.2) = (e.1 == e.2) := by
      first
        | rfl
        | simp [PyData.eqv]
    rw [z]
    exact beq_eq_false_iff_ne.mpr h.2.2.2.2
  rw [q]
  rfl
def spIsEdgeD (K : PySem.W.Frag) : Sp := fun vs H Q _ => ∃ (n : Nat) (v : V) (d : PyData), vs = [.int (n : Int), v] ∧ Rd K H v d ∧ ∀ H', Same H H' → Q (.bl (isEdgeD n d)) H'
section
variable {P : Program} {w : World} {K : PySem.W.Frag} {mg : Str → Option Value} {base : Heap} {CG CS CM CE : Addr}
theorem ok_is_edgeD {f : Addr} {fd : FuncData} (F : Fun K "is_edge" "is_edge" s_is_edge f fd) (M : Nms mg) (G : At P w K mg base CX0 3 "is_node" ["size", "thing"] (spIsNode K)) :
    FnOk P w K mg base CX0 4 f fd ["size", "thing"] (spIsEdgeD K) := by
  obtain ⟨c, cd, G, mG, kG, bG⟩ := G
  refine F.ok sc_is_edge (fun vs H Q E h => ?_) (fun cdv A outer s H vs Q E hr h => ?_)
  · obtain ⟨n, v, d, rfl, _⟩ := h
    rfl
  · obtain ⟨n, v, d, rfl, hd, k⟩ := h
    have nd := sc_is_edge.nd
    refine ⟨_, (pss_cons (ps_if (PW.pt (pw_or (pt_not (pt_val (pe_callB call_isi (by rfl) M.isi boot_isi (pa_cons (pv 1) (pa_cons (pe_bltn (v := V.ty "tuple") rfl M.tuple (by decide +kernel) rfl) pa_nil))))) (pw_or1 (pt_cmpR op_ne (pe_callB call_len_seq (by rfl) M.len boot_len1 (pa_cons (pv 1) pa_nil)) pe_int (nomark _))))) (pss_one (ps_ret pe_bl)) pss_nil)
      (pss_cons (ps_asg (pv 1) (pg_tup rfl (pgs_cons (pg_name (i := 2) nd rfl (Or.inl rfl)) (pgs_cons (pg_name (i := 3) nd rfl (Or.inl rfl)) pgs_nil))))
      (pss_one (ps_ret (pe_and (pe_call G hr (by rfl) mG kG bG .nil pass0 (pa_cons (pv 0) (pa_cons (pv 2) pa_nil))) (pe_and (pe_call G hr (by rfl) mG kG bG .nil pass0 (pa_cons (pv 0) (pa_cons (pv 3) pa_nil))) (pe_one (pe_cmpR op_ne (pv 2) (pv 3) (nomark _))))))))), ?_⟩
    refine ⟨_, rfl, v, _, _, _, _, rfl, .ty _, rdTy hd, kitTu K d, _, rfl, ?_⟩
    cases d with
    | none => exact iteT (k H (Same.refl H))
    | bool _ => exact iteT (k H (Same.refl H))
    | int _ => exact iteT (k H (Same.refl H))
    | str _ => exact iteT (k H (Same.refl H))
    | list _ => exact iteT (k H (Same.refl H))
    | dict _ => exact iteT (k H (Same.refl H))
    | tuple ds =>
      obtain ⟨t, ys, rfl, ht, hds⟩ := rdTup hd
      have hl := dpAllLen hds
      refine iteF ⟨_, rfl, t, _, rfl, .inr ht, rfl, _, rfl, ?_⟩
      rw [hl]
      by_cases c2 : ds.length = 2
      case neg =>
        rw [decVI, decide_eq_false (by omega)]
        have z := k H (Same.refl H)
        rw [isEdgeLen c2] at z
        exact iteT z
      rw [decVI, decide_eq_true (by omega)]
      refine iteF ?_
      obtain ⟨d1, d2, rfl⟩ : ∃ d1 d2, ds = [d1, d2] := by
        match ds, c2 with
        | [d1, d2], _ => exact ⟨d1, d2, rfl⟩
      obtain ⟨y1, y2, rfl, h1, h2⟩ : ∃ y1 y2, ys = [y1, y2] ∧ Dp K H y1 d1 ∧ Dp K H y2 d2 := by
        cases hds with
        | cons h1 hr1 =>
          cases hr1 with
          | cons h2 hr2 =>
            cases hr2
            exact ⟨_, _, rfl, h1, h2⟩
      refine ⟨_, rfl, t, _, rfl, ht, rfl, _, _, rfl, _, _, rfl, rfl, ?_⟩
      refine ⟨_, rfl, _, rfl, y1, d1, n, rfl, .dat h1, _, rfl, ?_⟩
      have z : Q (.bl (isNode n d1 && isNode n d2 && !PyData.eqv d1 d2)) H := k H (Same.refl H)
      cases c1 : isNode n d1 with
      | false =>
        rw [c1] at z
        exact iteF z
      | true =>
        refine iteT ⟨_, rfl, _, rfl, y2, d2, n, rfl, .dat h2, _, rfl, ?_⟩
        cases c3 : isNode n d2 with
        | false =>
          rw [c1, c3] at z
          exact iteF z
        | true =>
          rw [c1, c3] at z
          obtain ⟨i, rfl, _⟩ := nodeD c1
          obtain ⟨j, rfl, _⟩ := nodeD c3
          cases h1
          cases h2
          refine iteT ⟨_, rfl, _, rfl, rfl, ?_⟩
          have q : PyData.eqv (.int (i : Int)) (.int (j : Int)) = decide (V.int (i : Int) = V.int (j : Int)) := by
            have z : PyData.eqv (.int (i : Int)) (.int (j : Int)) = ((i : Int) == (j : Int)) := by
              first
                | rfl
                | simp [PyData.eqv]
            rw [z, decVI]
            by_cases c : (i : Int) = (j : Int)
            · rw [decide_eq_true c]
              exact beq_iff_eq.mpr c
            · rw [decide_eq_false c]
              exact beq_eq_false_iff_ne.mpr c
          rw [q] at z
          exact z
end
end K81
set_option Elab.async false
set_option linter.all false
set_option maxRecDepth 100000
set_option maxHeartbeats 8000000
namespace K81
open PySem PySem.Spec PyProof.Rows L2 FNX
def ordP (e : Int × Int) : Int × Int := (min e.1 e.2, max e.1 e.2)
structure GoodU (n : Nat) (es : List (Int × Int)) : Prop where
  node : ∀ e ∈ es, 0 ≤ e.1 ∧ e.1 < n ∧ 0 ≤ e.2 ∧ e.2 < n ∧ e.1 ≠ e.2
  once : (es.map ordP).Nodup
  few : es.length ≤ 1000
def SrtE (es : List (Int × Int)) : Prop := es.Pairwise fun a b => a.1 < b.1 ∨ (a.1 = b.1 ∧ a.2 ≤ b.2)
theorem SrtE.uniq {a b : List (Int × Int)} (p : a.Perm b) (ha : SrtE a) (hb : SrtE b) : a = b := List.Perm.eq_of_pairwise (fun a b _ _ h1 h2 => Prod.ext (by omega) (by omega)) ha hb p
theorem GoodU.ord {n : Nat} {es : List (Int × Int)} (h : GoodU n es) (f : es.length ≤ 40) : GoodE n (es.map ordP) := ⟨fun e he => by
  obtain ⟨d, hd, rfl⟩ := List.mem_map.mp he
  have := h.node d hd
  unfold ordP
  dsimp only
  omega, h.once, by rw [List.length_map]; exact f⟩
theorem ordId {e : Int × Int} (h : e.1 < e.2) : ordP e = e := by
  unfold ordP
  exact Prod.ext (show min e.1 e.2 = e.1 by omega) (show max e.1 e.2 = e.2 by omega)
theorem ordMap {n : Nat} {es : List (Int × Int)} (h : GoodE n es) : es.map ordP = es := by
  have z : ∀ e ∈ es, ordP e = e := fun e he => ordId (h.node e he).2.1
  exact (List.map_congr_left z).trans (List.map_id es)
theorem GoodE.toU {n : Nat} {es : List (Int × Int)} (h : GoodE n es) : GoodU n es := ⟨fun e he => by have := h.node e he; omega, by rw [ordMap h]; exact h.once, Nat.le_trans h.few (by decide)⟩
structure GE (CG : Addr) (H : Hp) (g : Addr) (n : Nat) (es : List (Int × Int)) : Prop where
  obj : ∃ dx j nr N, H g = some (.ins CG dx (gflds (n : Int) j nr)) ∧ EdgesAt H j es ∧ NAt H nr N ∧ IsNear n es N
  good : GoodE n es
  asc : SrtE es
  n1 : 1 ≤ n
  n16 : n ≤ 16
theorem GE.same {CG : Addr} {H H' : Hp} {g : Addr} {n : Nat} {es : List (Int × Int)} (h : GE CG H g n es) (s : Same H H') : GE CG H' g n es := by
  obtain ⟨⟨dx, j, nr, N, h1, h2, h3, h4⟩, a, b, c, d⟩ := h
  exact ⟨⟨dx, j, nr, N, s _ _ h1, h2.same s, h3.same s, h4⟩, a, b, c, d⟩
theorem kitTT (K : PySem.W.Frag) : PySem.W.kitAny K (.type "tuple") [.type "list", .type "tuple"] = some true :=
  kitAny_cons (b := false) (kit_ty (by decide +kernel)) (fun _ => kitAny_cons (b := true) (kit_ty (by decide +kernel)) (fun h => by cases h) (fun _ => rfl)) (fun h => by cases h)
theorem tyXSame {K : PySem.W.Frag} {H H' : Hp} {t : Value} {x : V} (h : TyX K H x t) (s : Same H H') : TyX K H' x t := by
  cases h with
  | base h =>
    cases h with
    | non => exact .base .non
    | bl b => exact .base (.bl b)
    | int i => exact .base (.int i)
    | str z => exact .base (.str z)
    | flt z => exact .base (.flt z)
    | lst e => exact .base (.lst (s _ _ e))
    | frz e => exact .base (.frz (s _ _ e))
    | tup e => exact .base (.tup (s _ _ e))
    | dK e => exact .base (.dK (s _ _ e))
    | dT e => exact .base (.dT (s _ _ e))
    | ins e a b c d f => exact .base (.ins (s _ _ e) a b c d f)
  | byt b => exact .byt b
  | set e => exact .set (s _ _ e)
  | kList e c => exact .kList e c
  | kTuple e c => exact .kTuple e c
  | kDict e c => exact .kDict e c
  | fTuple e => exact .fTuple (s _ _ e)
  | fDict e => exact .fDict (s _ _ e)
/-- good entries, then a bad one -/
def BadAt (K : PySem.W.Frag) (H : Hp) (n : Nat) (v y : V) : Prop := ∃ (p : Addr) (ts : List Addr) (es : List (Int × Int)) (rest : List V), v = .ref p ∧ H p = some (.lst (ts.map V.ref ++ y :: rest)) ∧ TupsAt H ts es ∧ GoodU n es ∧
  ((∃ d, Rd K H y d ∧ isEdgeD n d = false) ∨ ∃ (t : Addr) (e : Int × Int), y = .ref t ∧ H t = some (.tup [.int e.1, .int e.2]) ∧ (0 ≤ e.1 ∧ e.1 < n ∧ 0 ≤ e.2 ∧ e.2 < n ∧ e.1 ≠ e.2) ∧ ordP e ∈ es.map ordP)
def GoodAt (K : PySem.W.Frag) (H : Hp) (n : Nat) (v : V) (es : List (Int × Int)) : Prop := ∃ (p : Addr) (ts : List Addr), v = .ref p ∧ (H p = some (.lst (ts.map V.ref)) ∨ H p = some (.tup (ts.map V.ref))) ∧ TupsAt H ts es ∧ GoodU n es
def NoSeq (K : PySem.W.Frag) (H : Hp) (v : V) : Prop := ∃ T, TyX K H v (.type T) ∧ PySem.W.kitAny K (.type T) [.type "list", .type "tuple"] = some false
def spEdges01 (K : PySem.W.Frag) (CE : Addr) : Sp := fun vs H Q E => ∃ (n : Nat) (v : V), vs = [.int (n : Int), v] ∧
  ((∃ es, GoodAt K H n v es ∧ ∀ q H' es', H q = none → Same H H' → EdgesAt H' q es' → es'.Perm (es.map ordP) → SrtE es' → Q (.ref q) H') ∨ (NoSeq K H v ∧ told CE v H E) ∨ (∃ y, BadAt K H n v y ∧ told CE y H E))
section
variable {P : Program} {w : World} {K : PySem.W.Frag} {mg : Str → Option Value} {base : Heap} {CG CS CM CE : Addr}
theorem ok_checked01 {f : Addr} {fd : FuncData} (F : Fun K "checked_edges" "checked_edges" s_checked_edges f fd) (M : Nms mg) (EE : Ex P w K mg base "InvalidEdge" CE) (tyE : PySem.W.typeIn K (.ref CE) = some (.type "type"))
    (G : At P w K mg base CX0 4 "is_edge" ["size", "thing"] (spIsEdgeD K)) : FnOk P w K mg base (L2.CX P w) 5 f fd ["size", "edges"] (spEdges01 K CE) := by
  obtain ⟨c, cd, G, mG, kG, bG⟩ := G
  refine F.okX sc_checked_edges (fun vs H Q E h => ?_) (fun cdv A outer s H vs Q E hr h => ?_)
  · obtain ⟨n, v, rfl, _⟩ := h
    rfl
  · obtain ⟨n, v, rfl, h⟩ := h
    have hr2 : Room 2 _ := hr.mono (by decide)
    have hu65 : A.units + 3 + 65 < cLine := by
      have := hr.un
      show A.units + 3 + 65 < _
      have z : A.units + 3 + 16 * 4 + 200 < cLine := this
      omega
    have lms : ∀ es : List (Int × Int), (es.map ordP).length = es.length := fun es => List.length_map ..
    rcases h with ⟨es, ⟨p, ts, rfl, (hp | hp), h2, ge⟩, k⟩ | ⟨⟨T, hT, kT⟩, t⟩ | ⟨y, ⟨p, ts, es, rest, rfl, hp, h2, ge, bad⟩, t⟩
    · refine ⟨_, pss_cons (ps_if (pt_not (pt_val (pe_callB call_isiT (by rfl) M.isi boot_isi (pa_cons (pv 1) (pa_cons (pe_tup (pa_cons (pe_bltn (v := V.ty "list") rfl M.list (by decide +kernel) rfl)
          (pa_cons (pe_bltn (v := V.ty "tuple") rfl M.tuple (by decide +kernel) rfl) pa_nil))) pa_nil))))) (pss_one (ps_raiseX rfl EE tyE hr2 (takes_of rfl rfl rfl rfl) rfl (pa_cons (pv 1) pa_nil))) pss_nil)
      (pss_cons (ps_set (i := 2) sc_checked_edges.nd rfl (Or.inl rfl) (pe_lst pa_nil))
      (pss_cons (ps_for PassesOwn.leaving rfl (pi_list (pv 1)) (pg_name (i := 3) sc_checked_edges.nd rfl (Or.inl rfl))
        (pss_cons (ps_if (pt_not (pt_val (pe_call G hr (by rfl) mG kG bG .nil pass0 (pa_cons (pv 0) (pa_cons (pv 3) pa_nil))))) (pss_one (ps_raiseX rfl EE tyE hr2 (takes_of rfl rfl rfl rfl) rfl (pa_cons (pv 3) pa_nil))) pss_nil)
        (pss_cons (ps_set (i := 4) sc_checked_edges.nd rfl (Or.inl rfl) (pe_tup (pa_cons (pe_callB (cr_minT rfl hr.units) (by rfl) M.min boot_min1 (pa_cons (pv 3) pa_nil))
          (pa_cons (pe_callB (cr_maxT rfl hr.units) (by rfl) M.max boot_max1 (pa_cons (pv 3) pa_nil)) pa_nil))))
        (pss_cons (ps_if (pt_cmpR (op_inD hu65) (pv 4) (pv 2) (by rfl)) (pss_one (ps_raiseX rfl EE tyE hr2 (takes_of rfl rfl rfl rfl) rfl (pa_cons (pv 3) pa_nil))) pss_nil)
        (pss_one (ps_expr (pe_bm PySem.F.plainAttrs_list PySem.F.slot_list_append PySem.F.type_list_append mt_append (pv 2) (pa_cons (pv 4) pa_nil))))))))
      (pss_one (ps_ret (pe_callB (show CallR _ (.builtin "sorted") (rSortedPO K) from cr_sortedPO) (by rfl) M.sorted boot_sorted1 (pa_cons (pv 2) pa_nil)))))), ?_⟩
      have ms : ∀ {i : Nat} {e : Int × Int}, es[i]? = some e → (es.map ordP)[i]? = some (ordP e) := fun {i e} he => by rw [List.getElem?_map, he]; rfl
      refine ⟨_, rfl, by show 2 ≤ sizeLine; decide, fun tp ntp => ⟨.ref p, tp, _, _, _, _, rfl, upd_same, .cons (.ty _) (.cons (.ty _) .nil), .base (.lst (same_upd ntp _ _ hp)), kitLT K, _, rfl, iteF ?_⟩⟩
      refine ⟨by show 0 ≤ sizeLine; decide, fun fo nfo => ?_⟩
      have s0 := (same_upd ntp (o := .tup [V.ty "list", V.ty "tuple"])).trans (same_upd nfo (o := .lst []))
      have f0 : H fo = none := Same.free (same_upd ntp) nfo
      refine ⟨_, rfl, p, rfl, ⟨_, SqL.of (s0 _ _ hp)⟩, for_list (K := K) (a := p) (xs := ts.map V.ref) (fun i σ H' => ∃ (o3 o4 : Option V) (fs : List Addr), σ = [some (.int n), some (.ref p), some (.ref fo), o3, o4] ∧
        Same H H' ∧ H' fo = some (.lst (fs.map V.ref)) ∧ TupsAt H' fs ((es.map ordP).take i)) ⟨none, none, [], rfl, s0, upd_same, ⟨rfl, fun k t e => by simp at e⟩⟩ (fun i σ H' _ h => ?_) (fun i y σ H' hi h => ?_) (fun σ H' h => ?_)⟩
      · obtain ⟨_, _, _, _, sm, _, _⟩ := h
        exact SqL.of (sm _ _ hp)
      · obtain ⟨o3, o4, fs, rfl, sm, e1, e2⟩ := h
        obtain ⟨t, ht, rfl⟩ := refAt hi
        obtain ⟨e, he, hte⟩ := h2.2 i t ht
        have good := ge.node e (List.mem_of_getElem? he)
        have hm := ms he
        have hte0 := sm _ _ hte
        refine ⟨_, rfl, _, rfl, n, .ref t, pairD e, rfl, .dat (.tup (SqT.of hte0) (.cons (.int _) (.cons (.int _) .nil))), fun H0' s0' => ⟨_, rfl, ?_⟩⟩
        rw [isEdgePair ⟨good.1, good.2.1, good.2.2.1, good.2.2.2.1, good.2.2.2.2⟩]
        refine iteF ?_
        have sm := sm.trans s0'
        have e1 := s0' _ _ e1
        have e2 := e2.same s0'
        have hte' := sm _ _ hte
        refine ⟨_, rfl, t, e.1, e.2, rfl, hte', _, rfl, t, e.1, e.2, rfl, hte', by show 2 ≤ sizeLine; decide, fun ed ned => ?_⟩
        have e1' : (upd H0' ed (.tup [V.int (min e.1 e.2), V.int (max e.1 e.2)])) fo = some (.lst (fs.map V.ref)) := same_upd ned _ _ e1
        have e2' := e2.same (same_upd ned (o := .tup [V.int (min e.1 e.2), V.int (max e.1 e.2)]))
        refine ⟨_, rfl, _, rfl, pairD (ordP e), ((es.map ordP).take i).map pairD, .tup (SqT.of upd_same) (.cons (.int _) (.cons (.int _) .nil)), .lst (SqL.of e1') (dpTups e2'), rfl, shapedPairs _, _, rfl, ?_⟩
        rw [anyPair (notTaken ge.once hm)]
        refine iteF ⟨_, rfl, .inl ⟨rfl, _, SqL.of e1'⟩, _, rfl, fo, _, _, rfl, rfl, e1', ?_, ?_⟩
        · rw [List.length_map, e2.1, List.length_take, sizeLine_eq]
          have := ge.few
          have := lms es
          omega
        refine ⟨_, _, fs ++ [ed], rfl, fun b o z => ?_, by rw [upd_same, List.map_append]; rfl, ?_, fun k t' hk => ?_⟩
        · rw [upd_ne (ne_of_none z f0)]
          exact same_upd ned _ _ (sm _ _ z)
        · rw [takeMore hm, List.length_append, List.length_append, e2.1]
          rfl
        · have efo : ed ≠ fo := (ne_of_none e1 ned).symm
          by_cases hlt : k < fs.length
          · rw [List.getElem?_append_left hlt] at hk
            obtain ⟨x, q1, q2⟩ := e2.2 k t' hk
            refine ⟨x, ?_, ?_⟩
            · rw [takeMore hm, List.getElem?_append_left (by rw [← e2.1]; exact hlt)]
              exact q1
            · rw [upd_ne (ne_of q2 e1 (by intro z; cases z)), upd_ne (ne_of_none q2 ned)]
              exact q2
          · rw [List.getElem?_append_right (by omega)] at hk
            have hk' : k = fs.length := by
              have z := (List.getElem?_eq_some_iff.mp hk).1
              simp at z
              omega
            subst hk'
            rw [Nat.sub_self] at hk
            obtain rfl : ed = t' := Option.some.inj hk
            refine ⟨ordP e, ?_, ?_⟩
            · rw [takeMore hm, e2.1, List.getElem?_append_right (Nat.le_refl _), Nat.sub_self]
              rfl
            · rw [upd_ne efo, upd_same]
              rfl
      · obtain ⟨o3, o4, fs, rfl, sm, e1, e2⟩ := h
        rw [List.length_map, h2.1, ← lms, List.take_length] at e2
        refine ⟨_, rfl, fo, _, keyE H', rfl, SqL.of e1, fun y hy => ?_, fun ys q hsrt hstb nq => ?_⟩
        · obtain ⟨t, ht, rfl⟩ := List.mem_map.mp hy
          obtain ⟨k', hk', he'⟩ := List.mem_iff_getElem.mp ht
          obtain ⟨x, q1, q2⟩ := e2.2 k' t (by rw [List.getElem?_eq_getElem hk', he'])
          exact ⟨t, rfl, by rw [keyE_at q2]; exact q2⟩
        · obtain ⟨ts', es', rfl, r1, r2⟩ := permTups e2 hstb.perm
          refine k q _ es' (sm.free nq) (sm.trans (same_upd nq)) ⟨ts', upd_same, r1.same (same_upd nq)⟩ r2 ?_
          have ek : (ts'.map V.ref).map (keyE H') = es' := by
            apply List.ext_getElem
            · rw [List.length_map, List.length_map, r1.1]
            · intro k h1 h2
              rw [List.length_map, List.length_map] at h1
              obtain ⟨e, q1, q2⟩ := r1.2 k ts'[k] (List.getElem?_eq_getElem h1)
              rw [List.getElem_map, List.getElem_map, keyE_at q2]
              rw [List.getElem?_eq_getElem h2] at q1
              exact (Option.some.inj q1).symm
          unfold SrtE
          rw [← ek]
          refine List.pairwise_map.mpr (hsrt.imp fun {a b} h => ?_)
          have := SrtO.lexB_no.mp h
          omega
    · refine ⟨_, pss_cons (ps_if (pt_not (pt_val (pe_callB call_isiT (by rfl) M.isi boot_isi (pa_cons (pv 1) (pa_cons (pe_tup (pa_cons (pe_bltn (v := V.ty "list") rfl M.list (by decide +kernel) rfl)
          (pa_cons (pe_bltn (v := V.ty "tuple") rfl M.tuple (by decide +kernel) rfl) pa_nil))) pa_nil))))) (pss_one (ps_raiseX rfl EE tyE hr2 (takes_of rfl rfl rfl rfl) rfl (pa_cons (pv 1) pa_nil))) pss_nil)
      (pss_cons (ps_set (i := 2) sc_checked_edges.nd rfl (Or.inl rfl) (pe_lst pa_nil))
      (pss_cons (ps_for PassesOwn.leaving rfl (pi_tup (pv 1)) (pg_name (i := 3) sc_checked_edges.nd rfl (Or.inl rfl))
        (pss_cons (ps_if (pt_not (pt_val (pe_call G hr (by rfl) mG kG bG .nil pass0 (pa_cons (pv 0) (pa_cons (pv 3) pa_nil))))) (pss_one (ps_raiseX rfl EE tyE hr2 (takes_of rfl rfl rfl rfl) rfl (pa_cons (pv 3) pa_nil))) pss_nil)
        (pss_cons (ps_set (i := 4) sc_checked_edges.nd rfl (Or.inl rfl) (pe_tup (pa_cons (pe_callB (cr_minT rfl hr.units) (by rfl) M.min boot_min1 (pa_cons (pv 3) pa_nil))
          (pa_cons (pe_callB (cr_maxT rfl hr.units) (by rfl) M.max boot_max1 (pa_cons (pv 3) pa_nil)) pa_nil))))
        (pss_cons (ps_if (pt_cmpR (op_inD hu65) (pv 4) (pv 2) (by rfl)) (pss_one (ps_raiseX rfl EE tyE hr2 (takes_of rfl rfl rfl rfl) rfl (pa_cons (pv 3) pa_nil))) pss_nil)
        (pss_one (ps_expr (pe_bm PySem.F.plainAttrs_list PySem.F.slot_list_append PySem.F.type_list_append mt_append (pv 2) (pa_cons (pv 4) pa_nil))))))))
      (pss_one (ps_ret (pe_callB (show CallR _ (.builtin "sorted") (rSortedPO K) from cr_sortedPO) (by rfl) M.sorted boot_sorted1 (pa_cons (pv 2) pa_nil)))))), ?_⟩
      have ms : ∀ {i : Nat} {e : Int × Int}, es[i]? = some e → (es.map ordP)[i]? = some (ordP e) := fun {i e} he => by rw [List.getElem?_map, he]; rfl
      refine ⟨_, rfl, by show 2 ≤ sizeLine; decide, fun tp ntp => ⟨.ref p, tp, _, _, _, _, rfl, upd_same, .cons (.ty _) (.cons (.ty _) .nil), .base (.tup (same_upd ntp _ _ hp)), kitTT K, _, rfl, iteF ?_⟩⟩
      refine ⟨by show 0 ≤ sizeLine; decide, fun fo nfo => ?_⟩
      have s0 := (same_upd ntp (o := .tup [V.ty "list", V.ty "tuple"])).trans (same_upd nfo (o := .lst []))
      have f0 : H fo = none := Same.free (same_upd ntp) nfo
      refine ⟨_, rfl, p, rfl, ⟨_, SqT.of (s0 _ _ hp)⟩, for_tup (K := K) (a := p) (xs := ts.map V.ref) (fun i σ H' => ∃ (o3 o4 : Option V) (fs : List Addr), σ = [some (.int n), some (.ref p), some (.ref fo), o3, o4] ∧
        Same H H' ∧ H' fo = some (.lst (fs.map V.ref)) ∧ TupsAt H' fs ((es.map ordP).take i)) ⟨none, none, [], rfl, s0, upd_same, ⟨rfl, fun k t e => by simp at e⟩⟩ (fun i σ H' _ h => ?_) (fun i y σ H' hi h => ?_) (fun σ H' h => ?_)⟩
      · obtain ⟨_, _, _, _, sm, _, _⟩ := h
        exact SqT.of (sm _ _ hp)
      · obtain ⟨o3, o4, fs, rfl, sm, e1, e2⟩ := h
        obtain ⟨t, ht, rfl⟩ := refAt hi
        obtain ⟨e, he, hte⟩ := h2.2 i t ht
        have good := ge.node e (List.mem_of_getElem? he)
        have hm := ms he
        have hte0 := sm _ _ hte
        refine ⟨_, rfl, _, rfl, n, .ref t, pairD e, rfl, .dat (.tup (SqT.of hte0) (.cons (.int _) (.cons (.int _) .nil))), fun H0' s0' => ⟨_, rfl, ?_⟩⟩
        rw [isEdgePair ⟨good.1, good.2.1, good.2.2.1, good.2.2.2.1, good.2.2.2.2⟩]
        refine iteF ?_
        have sm := sm.trans s0'
        have e1 := s0' _ _ e1
        have e2 := e2.same s0'
        have hte' := sm _ _ hte
        refine ⟨_, rfl, t, e.1, e.2, rfl, hte', _, rfl, t, e.1, e.2, rfl, hte', by show 2 ≤ sizeLine; decide, fun ed ned => ?_⟩
        have e1' : (upd H0' ed (.tup [V.int (min e.1 e.2), V.int (max e.1 e.2)])) fo = some (.lst (fs.map V.ref)) := same_upd ned _ _ e1
        have e2' := e2.same (same_upd ned (o := .tup [V.int (min e.1 e.2), V.int (max e.1 e.2)]))
        refine ⟨_, rfl, _, rfl, pairD (ordP e), ((es.map ordP).take i).map pairD, .tup (SqT.of upd_same) (.cons (.int _) (.cons (.int _) .nil)), .lst (SqL.of e1') (dpTups e2'), rfl, shapedPairs _, _, rfl, ?_⟩
        rw [anyPair (notTaken ge.once hm)]
        refine iteF ⟨_, rfl, .inl ⟨rfl, _, SqL.of e1'⟩, _, rfl, fo, _, _, rfl, rfl, e1', ?_, ?_⟩
        · rw [List.length_map, e2.1, List.length_take, sizeLine_eq]
          have := ge.few
          have := lms es
          omega
        refine ⟨_, _, fs ++ [ed], rfl, fun b o z => ?_, by rw [upd_same, List.map_append]; rfl, ?_, fun k t' hk => ?_⟩
        · rw [upd_ne (ne_of_none z f0)]
          exact same_upd ned _ _ (sm _ _ z)
        · rw [takeMore hm, List.length_append, List.length_append, e2.1]
          rfl
        · have efo : ed ≠ fo := (ne_of_none e1 ned).symm
          by_cases hlt : k < fs.length
          · rw [List.getElem?_append_left hlt] at hk
            obtain ⟨x, q1, q2⟩ := e2.2 k t' hk
            refine ⟨x, ?_, ?_⟩
            · rw [takeMore hm, List.getElem?_append_left (by rw [← e2.1]; exact hlt)]
              exact q1
            · rw [upd_ne (ne_of q2 e1 (by intro z; cases z)), upd_ne (ne_of_none q2 ned)]
              exact q2
          · rw [List.getElem?_append_right (by omega)] at hk
            have hk' : k = fs.length := by
              have z := (List.getElem?_eq_some_iff.mp hk).1
              simp at z
              omega
            subst hk'
            rw [Nat.sub_self] at hk
            obtain rfl : ed = t' := Option.some.inj hk
            refine ⟨ordP e, ?_, ?_⟩
            · rw [takeMore hm, e2.1, List.getElem?_append_right (Nat.le_refl _), Nat.sub_self]
              rfl
            · rw [upd_ne efo, upd_same]
              rfl
      · obtain ⟨o3, o4, fs, rfl, sm, e1, e2⟩ := h
        rw [List.length_map, h2.1, ← lms, List.take_length] at e2
        refine ⟨_, rfl, fo, _, keyE H', rfl, SqL.of e1, fun y hy => ?_, fun ys q hsrt hstb nq => ?_⟩
        · obtain ⟨t, ht, rfl⟩ := List.mem_map.mp hy
          obtain ⟨k', hk', he'⟩ := List.mem_iff_getElem.mp ht
          obtain ⟨x, q1, q2⟩ := e2.2 k' t (by rw [List.getElem?_eq_getElem hk', he'])
          exact ⟨t, rfl, by rw [keyE_at q2]; exact q2⟩
        · obtain ⟨ts', es', rfl, r1, r2⟩ := permTups e2 hstb.perm
          refine k q _ es' (sm.free nq) (sm.trans (same_upd nq)) ⟨ts', upd_same, r1.same (same_upd nq)⟩ r2 ?_
          have ek : (ts'.map V.ref).map (keyE H') = es' := by
            apply List.ext_getElem
            · rw [List.length_map, List.length_map, r1.1]
            · intro k h1 h2
              rw [List.length_map, List.length_map] at h1
              obtain ⟨e, q1, q2⟩ := r1.2 k ts'[k] (List.getElem?_eq_getElem h1)
              rw [List.getElem_map, List.getElem_map, keyE_at q2]
              rw [List.getElem?_eq_getElem h2] at q1
              exact (Option.some.inj q1).symm
          unfold SrtE
          rw [← ek]
          refine List.pairwise_map.mpr (hsrt.imp fun {a b} h => ?_)
          have := SrtO.lexB_no.mp h
          omega
    · refine ⟨_, pss_cons (ps_if (pt_not (pt_val (pe_callB call_isiT (by rfl) M.isi boot_isi (pa_cons (pv 1) (pa_cons (pe_tup (pa_cons (pe_bltn (v := V.ty "list") rfl M.list (by decide +kernel) rfl)
          (pa_cons (pe_bltn (v := V.ty "tuple") rfl M.tuple (by decide +kernel) rfl) pa_nil))) pa_nil))))) (pss_one (ps_raiseX rfl EE tyE hr2 (takes_of rfl rfl rfl rfl) rfl (pa_cons (pv 1) pa_nil))) pss_nil)
      (pss_cons (ps_set (i := 2) sc_checked_edges.nd rfl (Or.inl rfl) (pe_lst pa_nil))
      (pss_cons (ps_for PassesOwn.leaving rfl (pi_list (pv 1)) (pg_name (i := 3) sc_checked_edges.nd rfl (Or.inl rfl))
        (pss_cons (ps_if (pt_not (pt_val (pe_call G hr (by rfl) mG kG bG .nil pass0 (pa_cons (pv 0) (pa_cons (pv 3) pa_nil))))) (pss_one (ps_raiseX rfl EE tyE hr2 (takes_of rfl rfl rfl rfl) rfl (pa_cons (pv 3) pa_nil))) pss_nil)
        (pss_cons (ps_set (i := 4) sc_checked_edges.nd rfl (Or.inl rfl) (pe_tup (pa_cons (pe_callB (cr_minT rfl hr.units) (by rfl) M.min boot_min1 (pa_cons (pv 3) pa_nil))
          (pa_cons (pe_callB (cr_maxT rfl hr.units) (by rfl) M.max boot_max1 (pa_cons (pv 3) pa_nil)) pa_nil))))
        (pss_cons (ps_if (pt_cmpR (op_inD hu65) (pv 4) (pv 2) (by rfl)) (pss_one (ps_raiseX rfl EE tyE hr2 (takes_of rfl rfl rfl rfl) rfl (pa_cons (pv 3) pa_nil))) pss_nil)
        (pss_one (ps_expr (pe_bm PySem.F.plainAttrs_list PySem.F.slot_list_append PySem.F.type_list_append mt_append (pv 2) (pa_cons (pv 4) pa_nil))))))))
      (pss_one (ps_ret (pe_callB (show CallR _ (.builtin "sorted") (rSortedPO K) from cr_sortedPO) (by rfl) M.sorted boot_sorted1 (pa_cons (pv 2) pa_nil)))))), ?_⟩
      refine ⟨_, rfl, by show 2 ≤ sizeLine; decide, fun tp ntp => ⟨v, tp, _, _, _, _, rfl, upd_same, .cons (.ty _) (.cons (.ty _) .nil), tyXSame hT (same_upd ntp), kT, _, rfl, iteT ?_⟩⟩
      exact ⟨_, rfl, v, rfl, fun dd H' nd s2 hx => t H' dd ((same_upd ntp).trans s2) ((same_upd ntp).free nd) hx⟩
    · refine ⟨_, pss_cons (ps_if (pt_not (pt_val (pe_callB call_isiT (by rfl) M.isi boot_isi (pa_cons (pv 1) (pa_cons (pe_tup (pa_cons (pe_bltn (v := V.ty "list") rfl M.list (by decide +kernel) rfl)
          (pa_cons (pe_bltn (v := V.ty "tuple") rfl M.tuple (by decide +kernel) rfl) pa_nil))) pa_nil))))) (pss_one (ps_raiseX rfl EE tyE hr2 (takes_of rfl rfl rfl rfl) rfl (pa_cons (pv 1) pa_nil))) pss_nil)
      (pss_cons (ps_set (i := 2) sc_checked_edges.nd rfl (Or.inl rfl) (pe_lst pa_nil))
      (pss_cons (ps_for PassesOwn.leaving rfl (pi_list (pv 1)) (pg_name (i := 3) sc_checked_edges.nd rfl (Or.inl rfl))
        (pss_cons (ps_if (pt_not (pt_val (pe_call G hr (by rfl) mG kG bG .nil pass0 (pa_cons (pv 0) (pa_cons (pv 3) pa_nil))))) (pss_one (ps_raiseX rfl EE tyE hr2 (takes_of rfl rfl rfl rfl) rfl (pa_cons (pv 3) pa_nil))) pss_nil)
        (pss_cons (ps_set (i := 4) sc_checked_edges.nd rfl (Or.inl rfl) (pe_tup (pa_cons (pe_callB (cr_minT rfl hr.units) (by rfl) M.min boot_min1 (pa_cons (pv 3) pa_nil))
          (pa_cons (pe_callB (cr_maxT rfl hr.units) (by rfl) M.max boot_max1 (pa_cons (pv 3) pa_nil)) pa_nil))))
        (pss_cons (ps_if (pt_cmpR (op_inD hu65) (pv 4) (pv 2) (by rfl)) (pss_one (ps_raiseX rfl EE tyE hr2 (takes_of rfl rfl rfl rfl) rfl (pa_cons (pv 3) pa_nil))) pss_nil)
        (pss_one (ps_expr (pe_bm PySem.F.plainAttrs_list PySem.F.slot_list_append PySem.F.type_list_append mt_append (pv 2) (pa_cons (pv 4) pa_nil))))))))
      (pss_one (ps_ret (pe_callB (show CallR _ (.builtin "sorted") (rSortedPO K) from cr_sortedPO) (by rfl) M.sorted boot_sorted1 (pa_cons (pv 2) pa_nil)))))), ?_⟩
      have ms : ∀ {i : Nat} {e : Int × Int}, es[i]? = some e → (es.map ordP)[i]? = some (ordP e) := fun {i e} he => by rw [List.getElem?_map, he]; rfl
      refine ⟨_, rfl, by show 2 ≤ sizeLine; decide, fun tp ntp => ⟨.ref p, tp, _, _, _, _, rfl, upd_same, .cons (.ty _) (.cons (.ty _) .nil), .base (.lst (same_upd ntp _ _ hp)), kitLT K, _, rfl, iteF ?_⟩⟩
      refine ⟨by show 0 ≤ sizeLine; decide, fun fo nfo => ?_⟩
      have s0 := (same_upd ntp (o := .tup [V.ty "list", V.ty "tuple"])).trans (same_upd nfo (o := .lst []))
      have f0 : H fo = none := Same.free (same_upd ntp) nfo
      refine ⟨_, rfl, p, rfl, ⟨_, SqL.of (s0 _ _ hp)⟩, for_list (K := K) (a := p) (xs := ts.map V.ref ++ y :: rest) (fun i σ H' => i ≤ ts.length ∧ ∃ (o3 o4 : Option V) (fs : List Addr), σ = [some (.int n), some (.ref p), some (.ref fo), o3, o4] ∧
        Same H H' ∧ H' fo = some (.lst (fs.map V.ref)) ∧ TupsAt H' fs ((es.map ordP).take i)) ⟨Nat.zero_le _, none, none, [], rfl, s0, upd_same, ⟨rfl, fun k t e => by simp at e⟩⟩ (fun i σ H' _ h => ?_) (fun i y' σ H' hi h => ?_) (fun σ H' h => ?_)⟩
      · obtain ⟨_, _, _, _, _, sm, _, _⟩ := h
        exact SqL.of (sm _ _ hp)
      · obtain ⟨hle, o3, o4, fs, rfl, sm, e1, e2⟩ := h
        by_cases c : i < ts.length
        case pos =>
          rw [List.getElem?_append_left (by rw [List.length_map]; exact c)] at hi
          obtain ⟨t', ht, rfl⟩ := refAt hi
          obtain ⟨e, he, hte⟩ := h2.2 i t' ht
          have good := ge.node e (List.mem_of_getElem? he)
          have hm := ms he
          have hte0 := sm _ _ hte
          refine ⟨_, rfl, _, rfl, n, .ref t', pairD e, rfl, .dat (.tup (SqT.of hte0) (.cons (.int _) (.cons (.int _) .nil))), fun H0' s0' => ⟨_, rfl, ?_⟩⟩
          rw [isEdgePair ⟨good.1, good.2.1, good.2.2.1, good.2.2.2.1, good.2.2.2.2⟩]
          refine iteF ?_
          have sm := sm.trans s0'
          have e1 := s0' _ _ e1
          have e2 := e2.same s0'
          have hte' := sm _ _ hte
          refine ⟨_, rfl, t', e.1, e.2, rfl, hte', _, rfl, t', e.1, e.2, rfl, hte', by show 2 ≤ sizeLine; decide, fun ed ned => ?_⟩
          have e1' : (upd H0' ed (.tup [V.int (min e.1 e.2), V.int (max e.1 e.2)])) fo = some (.lst (fs.map V.ref)) := same_upd ned _ _ e1
          have e2' := e2.same (same_upd ned (o := .tup [V.int (min e.1 e.2), V.int (max e.1 e.2)]))
          refine ⟨_, rfl, _, rfl, pairD (ordP e), ((es.map ordP).take i).map pairD, .tup (SqT.of upd_same) (.cons (.int _) (.cons (.int _) .nil)), .lst (SqL.of e1') (dpTups e2'), rfl, shapedPairs _, _, rfl, ?_⟩
          rw [anyPair (notTaken ge.once hm)]
          refine iteF ⟨_, rfl, .inl ⟨rfl, _, SqL.of e1'⟩, _, rfl, fo, _, _, rfl, rfl, e1', ?_, ?_⟩
          · rw [List.length_map, e2.1, List.length_take, sizeLine_eq]
            have := ge.few
            have := lms es
            omega
          refine ⟨by omega, _, _, fs ++ [ed], rfl, fun b o z => ?_, by rw [upd_same, List.map_append]; rfl, ?_, fun k t2 hk => ?_⟩
          · rw [upd_ne (ne_of_none z f0)]
            exact same_upd ned _ _ (sm _ _ z)
          · rw [takeMore hm, List.length_append, List.length_append, e2.1]
            rfl
          · have efo : ed ≠ fo := (ne_of_none e1 ned).symm
            by_cases hlt : k < fs.length
            · rw [List.getElem?_append_left hlt] at hk
              obtain ⟨x, q1, q2⟩ := e2.2 k t2 hk
              refine ⟨x, ?_, ?_⟩
              · rw [takeMore hm, List.getElem?_append_left (by rw [← e2.1]; exact hlt)]
                exact q1
              · rw [upd_ne (ne_of q2 e1 (by intro z; cases z)), upd_ne (ne_of_none q2 ned)]
                exact q2
            · rw [List.getElem?_append_right (by omega)] at hk
              have hk' : k = fs.length := by
                have z := (List.getElem?_eq_some_iff.mp hk).1
                simp at z
                omega
              subst hk'
              rw [Nat.sub_self] at hk
              obtain rfl : ed = t2 := Option.some.inj hk
              refine ⟨ordP e, ?_, ?_⟩
              · rw [takeMore hm, e2.1, List.getElem?_append_right (Nat.le_refl _), Nat.sub_self]
                rfl
              · rw [upd_ne efo, upd_same]
                rfl
        have ei : i = ts.length := by omega
        rw [List.getElem?_append_right (by rw [List.length_map]; omega), List.length_map, ei, Nat.sub_self] at hi
        obtain rfl : y = y' := Option.some.inj hi
        rcases bad with ⟨d, hd, hb⟩ | ⟨t0, e, rfl, hte, hge, hmem⟩
        · refine ⟨_, rfl, _, rfl, n, y, d, rfl, rdSame sm hd, fun H0' s0' => ⟨_, rfl, ?_⟩⟩
          rw [hb]
          exact iteT ⟨_, rfl, y, rfl, fun dd H2 nd s2 hx => t H2 dd (sm.trans (s0'.trans s2)) ((sm.trans s0').free nd) hx⟩
        · refine ⟨_, rfl, _, rfl, n, .ref t0, pairD e, rfl, .dat (.tup (SqT.of (sm _ _ hte)) (.cons (.int _) (.cons (.int _) .nil))), fun H0' s0' => ⟨_, rfl, ?_⟩⟩
          rw [isEdgePair hge]
          refine iteF ?_
          have sm := sm.trans s0'
          have e1 := s0' _ _ e1
          have e2 := e2.same s0'
          have hte' := sm _ _ hte
          refine ⟨_, rfl, t0, e.1, e.2, rfl, hte', _, rfl, t0, e.1, e.2, rfl, hte', by show 2 ≤ sizeLine; decide, fun ed ned => ?_⟩
          have s3 := same_upd ned (o := .tup [V.int (min e.1 e.2), V.int (max e.1 e.2)])
          have e1' : (upd H0' ed (.tup [V.int (min e.1 e.2), V.int (max e.1 e.2)])) fo = some (.lst (fs.map V.ref)) := s3 _ _ e1
          have e2' := e2.same s3
          refine ⟨_, rfl, _, rfl, pairD (ordP e), ((es.map ordP).take i).map pairD, .tup (SqT.of upd_same) (.cons (.int _) (.cons (.int _) .nil)), .lst (SqL.of e1') (dpTups e2'), rfl, shapedPairs _, _, rfl, ?_⟩
          rw [ei, h2.1, ← lms, List.take_length, anyPairT hmem]
          exact iteT ⟨_, rfl, .ref t0, rfl, fun dd H2 nd s2 hx => t H2 dd (sm.trans (s3.trans s2)) ((sm.trans s3).free nd) hx⟩
      · obtain ⟨hle, _⟩ := h
        rw [List.length_append, List.length_map, List.length_cons] at hle
        omega
end
def spGI01 (K : PySem.W.Frag) (CG CS CM CE : Addr) : Sp := fun vs H Q E => ∃ (x dx : Addr) (sv ev : V), vs = [.ref x, sv, ev] ∧ H x = some (.ins CG dx []) ∧
  ((∃ sd, Rd K H sv sd ∧ within 1 16 sd = false ∧ told CS sv H E) ∨
   (∃ n : Nat, sv = .int (n : Int) ∧ 1 ≤ n ∧ n ≤ 16 ∧
     ((NoSeq K H ev ∧ told CE ev H E) ∨ (∃ y, BadAt K H n ev y ∧ told CE y H E) ∨
      (∃ es, GoodAt K H n ev es ∧ (40 < es.length → told CM (.int (es.length : Int)) H E) ∧
        (es.length ≤ 40 → ∀ H' j nr N es', (∀ b o, b ≠ x → H b = some o → H' b = some o) → H' x = some (.ins CG dx (gflds (n : Int) j nr)) → EdgesAt H' j es' → NAt H' nr N → IsNear n es' N → es'.Perm (es.map ordP) → SrtE es' → H j = none → (∀ H2, (∀ b o, H b = none → H' b = some o → H2 b = some o) → NAt H2 nr N) → Q .non H')))))
section
variable {P : Program} {w : World} {K : PySem.W.Frag} {mg : Str → Option Value} {base : Heap} {CG CS CM CE CN : Addr}
theorem ok_gi01 {f : Addr} {fd : FuncData} {dvs : List V} {kws : List (Str × V)} (F : FunD K "__init__" "Graph.__init__" (defArgs s_Graph_init) (defBody s_Graph_init) (defScope s_Graph_init) dvs kws f fd) (T : GTxt K mg CG) (M : Nms mg)
    {t16 t40 : Tok} (m16 : mg "MOST_NODES" = some (.int 16 t16)) (m40 : mg "MOST_EDGES" = some (.int 40 t40)) (ES : Ex P w K mg base "InvalidSize" CS) (tyS : PySem.W.typeIn K (.ref CS) = some (.type "type"))
    (EM : Ex P w K mg base "TooMany" CM) (tyM : PySem.W.typeIn K (.ref CM) = some (.type "type"))
    (GW : At P w K mg base CX0 2 "is_integer_within" ["thing", "low", "high"] (spWithin K)) (GE' : At P w K mg base (L2.CX P w) 5 "checked_edges" ["size", "edges"] (spEdges01 K CE)) (GN : At P w K mg base CX0 1 "neighbour_lists" ["size", "edges"] (spNear K)) :
    FnOk P w K mg base (L2.CX P w) 6 f fd ["self", "size", "edges"] (spGI01 K CG CS CM CE) := by
  obtain ⟨gw, gwd, GW, mW, kW, bW⟩ := GW
  obtain ⟨ge, ged, GE', mE, kE, bE⟩ := GE'
  obtain ⟨gn, gnd, GN, mN, kN, bN⟩ := GN
  refine F.ok sc_ginit (fun vs H Q E h => ?_) (fun cdv A outer s H vs Q E hr h => ?_)
  · obtain ⟨x, dx, sv, ev, rfl, _⟩ := h
    rfl
  · obtain ⟨x, dx, sv, ev, rfl, hx, h⟩ := h
    have hr2 : Room 2 _ := hr.mono (by decide)
    have hr1 : Room 1 _ := hr.mono (by decide)
    refine ⟨_, pss_cons (ps_if (pt_not (pt_val (pe_call GW hr2 (by rfl) mW kW bW .nil pass0 (pa_cons (pv 1) (pa_cons pe_int (pa_cons (pe_glob (v := .int 16) (by rfl) m16 ⟨_, rfl⟩) pa_nil)))))) (pss_one (ps_raiseX rfl ES tyS hr2 (takes_of rfl rfl rfl rfl) rfl (pa_cons (pv 1) pa_nil))) pss_nil)
      (pss_cons (ps_set (i := 3) sc_ginit.nd rfl (Or.inl rfl) (pe_call GE' hr (by rfl) mE kE bE .nil (passes_call (E := E) (takes_of rfl rfl rfl rfl) (fun _ _ _ _ h => h)) (pa_cons (pv 1) (pa_cons (pv 2) pa_nil))))
      (pss_cons (ps_if (pt_cmpR op_gt (pe_callB call_len_seq (by rfl) M.len boot_len1 (pa_cons (pv 3) pa_nil)) (pe_glob (v := .int 40) (by rfl) m40 ⟨_, rfl⟩) (nomark _)) (pss_one (ps_raiseX rfl EM tyM hr2 (takes_of rfl rfl rfl rfl) rfl (pa_cons (pe_callB call_len_seq (by rfl) M.len boot_len1 (pa_cons (pv 3) pa_nil)) pa_nil))) pss_nil)
      (pss_cons (ps_fld (pv 0) (pv 1) rfl)
      (pss_cons (ps_fld (pv 0) (pv 3) rfl)
      (pss_one (ps_fld (pv 0) (pe_call GN hr1 (by rfl) mN kN bN .nil pass0 (pa_cons (pv 1) (pa_cons (pv 3) pa_nil))) rfl)))))), ?_⟩
    rcases h with ⟨sd, hsd, hw, t⟩ | ⟨n, rfl, n1, n16, h⟩
    · refine ⟨_, rfl, sv, sd, 1, 16, rfl, hsd, _, rfl, ?_⟩
      rw [hw]
      exact iteT ⟨_, rfl, sv, rfl, fun dd H' nd s2 hx => t H' dd s2 nd hx⟩
    refine ⟨_, rfl, .int n, .int n, 1, 16, rfl, .dat (.int n), _, rfl, ?_⟩
    have hw : within 1 16 (.int (n : Int)) = true := by
      show (decide ((1 : Int) ≤ n) && decide ((n : Int) ≤ 16)) = true
      rw [decide_eq_true (by omega), decide_eq_true (by omega)]
      rfl
    rw [hw]
    refine iteF ?_
    refine ⟨_, rfl, _, rfl, n, ev, rfl, ?_⟩
    rcases h with h | h | ⟨es, hG, kM, k⟩
    · exact .inr (.inl h)
    · exact .inr (.inr h)
    have good : GoodU n es := by
      obtain ⟨_, _, _, _, _, g⟩ := hG
      exact g
    refine .inl ⟨es, hG, fun q H1 es1 nq s1 hq pe sE => ?_⟩
    obtain ⟨ts, h1, h2⟩ := id hq
    have les : ts.length = es.length := by rw [h2.1, pe.length_eq, List.length_map]
    refine ⟨_, rfl, q, _, rfl, .inl (SqL.of h1), _, _, rfl, rfl, _, rfl, ?_⟩
    by_cases c40 : es.length ≤ 40
    case neg =>
      rw [decide_eq_true (by rw [List.length_map, les]; omega)]
      refine iteT ⟨_, rfl, q, _, rfl, .inl (SqL.of h1), _, rfl, fun dd H' nd s2 hx => ?_⟩
      rw [List.length_map, les] at hx
      exact kM (by omega) H' dd (s1.trans s2) (s1.free nd) hx
    rw [decide_eq_false (by rw [List.length_map, les]; omega)]
    have good1 : GoodE n es1 := (good.ord c40).perm pe
    refine iteF ?_
    have nxq : q ≠ x := (ne_of_none hx nq).symm
    refine ⟨_, rfl, _, rfl, x, CG, dx, _, rfl, s1 _ _ hx, T.cl, T.n1, by decide, ?_⟩
    refine ⟨_, rfl, _, rfl, x, CG, dx, _, rfl, upd_same, T.cl, T.n2, (by show 1 < 1000; decide), ?_⟩
    have hx1 := s1 _ _ hx
    have tx : ∀ (k : Nat) (t : Addr), ts[k]? = some t → t ≠ x := fun k t e => by
      obtain ⟨z, _, q2⟩ := h2.2 k t e
      exact ne_of q2 hx1 (by intro y; cases y)
    refine ⟨_, rfl, _, rfl, n, q, es1, rfl, ?_, good1, by omega, fun r H2 N nr s2 hN near => ?_⟩
    · exact ⟨ts, by rw [upd_ne nxq, upd_ne nxq]; exact h1, h2.1, fun k t e => by
        obtain ⟨z, q1, q2⟩ := h2.2 k t e
        exact ⟨z, q1, by rw [upd_ne (tx k t e), upd_ne (tx k t e)]; exact q2⟩⟩
    have hx2 := s2 _ _ (upd_same (H := upd H1 x (.ins CG dx (putF "node_count" (.int n) []))) (a := x) (o := .ins CG dx (putF "joined" (.ref q) (putF "node_count" (.int n) []))))
    refine ⟨_, rfl, x, CG, dx, _, rfl, hx2, T.cl, T.n3, (by show 2 < 1000; decide), ?_⟩
    have up : ∀ b o, b ≠ x → H1 b = some o → H2 b = some o := fun b o hb e => s2 _ _ (by rw [upd_ne hb, upd_ne hb]; exact e)
    refine k c40 _ q r N es1 (fun b o hb e => ?_) ?_ ⟨ts, ?_, h2.1, fun k t e => ?_⟩ ?_ near pe sE nq (fun H3 h3 => ?_)
    · rw [upd_ne hb]
      exact up b o hb (s1 _ _ e)
    · rw [upd_same]
      rfl
    · rw [upd_ne nxq]
      exact up q _ nxq h1
    · obtain ⟨z, q1, q2⟩ := h2.2 k t e
      exact ⟨z, q1, by rw [upd_ne (tx k t e)]; exact up t _ (tx k t e) q2⟩
    · refine hN _ fun b o hb e => ?_
      have bx : b ≠ x := fun z => by
        rw [z, upd_same] at hb
        cases hb
      rw [upd_ne bx]
      exact e
    · refine hN _ fun b o hb e => ?_
      have bx : b ≠ x := fun z => by
        rw [z, upd_same] at hb
        cases hb
      rw [upd_ne bx, upd_ne bx] at hb
      exact h3 b o (s1.free hb) (by rw [upd_ne bx]; exact e)
theorem preS {CG : Addr} {H : Hp} {x dx : Addr} (nx : H x = none) (ndx : H dx = none) (ne : dx ≠ x) : Same H (upd (upd H dx (.own x)) x (.ins CG dx [])) := by
  have sA : Same H (upd H dx (.own x)) := same_upd ndx
  have nx1 : (upd H dx (.own x)) x = none := by rw [upd_ne ne.symm]; exact nx
  exact sA.trans (same_upd nx1)
theorem made {CG : Addr} {H H' : Hp} {x dx j nr : Addr} {n : Nat} {N : List (List Int)} {es es' : List (Int × Int)} (nx : H x = none) (ndx : H dx = none) (ne : dx ≠ x) (hU : GoodU n es) (n1 : 1 ≤ n) (c16 : n ≤ 16) (c40 : es.length ≤ 40)
    (up : ∀ b o, b ≠ x → (upd (upd H dx (.own x)) x (.ins CG dx [])) b = some o → H' b = some o) (hx' : H' x = some (.ins CG dx (gflds (n : Int) j nr))) (hj : EdgesAt H' j es') (hN : NAt H' nr N) (near : IsNear n es' N) (pe : es'.Perm (es.map ordP)) (sE : SrtE es') :
    Same H H' ∧ GE CG H' x n es' := by
  have s := preS (CG := CG) nx ndx ne
  exact ⟨fun b o e => up b o (ne_of_none e nx) (s _ _ e), ⟨dx, j, nr, N, hx', hj, hN, near⟩, (hU.ord c40).perm pe, sE, n1, c16⟩
end
end K81
set_option Elab.async false
set_option linter.all false
set_option maxRecDepth 100000
set_option maxHeartbeats 8000000
namespace K81
open PySem PySem.Spec PyProof.Rows L2 FNX
def pairsD (es : List (Int × Int)) : PyData := .list (es.map pairD)
def textG (n : Nat) (es : List (Int × Int)) : Str := (("Graph(" : Str) ++ toString (n : Int)) ++ (", " : Str) ++ (pairsD es).shown ++ (")" : Str)
theorem shwPairs {es : List (Int × Int)} (h : ∀ e ∈ es, e.1.natAbs ≤ 16 ∧ e.2.natAbs ≤ 16) (hl : es.length ≤ 41) : Shw 2 2000 (pairsD es) :=
  (shwList (k := 1) (L := 33) (m := 41) (fun d hd => by
    obtain ⟨e, he, rfl⟩ := List.mem_map.mp hd
    exact (shwTup (k := 0) (L := 13) (m := 2) (fun z hz => by
      rcases List.mem_cons.mp hz with rfl | hz
      · exact shwInt (Nat.lt_of_le_of_lt (h e he).1 (by decide +kernel))
      · rw [List.mem_singleton.mp hz]
        exact shwInt (Nat.lt_of_le_of_lt (h e he).2 (by decide +kernel))) (by show 2 ≤ 2; decide)).mono (by decide) (by decide)) (by rw [List.length_map]; exact hl)).mono (by decide) (by decide)
theorem GoodE.small {n : Nat} {es : List (Int × Int)} (g : GoodE n es) (h : n ≤ 16) : ∀ e ∈ es, e.1.natAbs ≤ 16 ∧ e.2.natAbs ≤ 16 := fun e he => by
  have := g.node e he
  omega
theorem emptyApp (x : Str) : Str.empty ++ x = x := by
  cases x
  show Str.mk (#[] ++ _) = _
  rw [Array.empty_append]
theorem appLen (x y : Str) : (x ++ y).length = x.length + y.length := by
  cases x; cases y
  exact Array.size_append
theorem natText {n : Nat} (h : n ≤ 17) : (toString (n : Int) : Str).length ≤ 3 := by
  obtain ⟨k, rfl⟩ : ∃ k : Fin 18, n = k.val := ⟨⟨n, by omega⟩, rfl⟩
  revert k
  decide +kernel
def spReprGg (CG : Addr) (gd : List Code) : Sp := fun vs H Q _ => ∃ g n es, vs = [.ref g] ∧ GE CG H g n es ∧ GBad gd H ∧ Q (.str (textG n es)) H
section
variable {P : Program} {w : World} {K : PySem.W.Frag} {mg : Str → Option Value} {base : Heap} {CG CS CE CN CM : Addr}
theorem sc_grepr : FnScope ["self"] ["self"] (defScope s_Graph_repr) := ⟨rfl, rfl, rfl, by decide +kernel, rfl, by decide +kernel, by decide +kernel⟩
theorem ok_greprG {f : Addr} {fd : FuncData} (F : Fun K "__repr__" "Graph.__repr__" s_Graph_repr f fd) (T : GTxt K mg CG) : GgOk P w K mg base 4 f fd ["self"] (spReprGg CG) := by
  refine okGg F sc_grepr (fun gd vs H Q E h => ?_) (fun cdv A outer s H vs Q E gd hgd hr h => ?_)
  · obtain ⟨g, n, es, rfl, _⟩ := h
    rfl
  · obtain ⟨g, n, es, rfl, ⟨⟨dx, j, nr, N, h1, ⟨ts, h2, h3⟩, _, _⟩, good, _, n1, n16⟩, gb, k⟩ := h
    have hu80 : A.units + 3 + 80 < cLine := by have : A.units + 3 + 16 * 3 + 200 < cLine := hr.un; omega
    refine ⟨_, pss_one (ps_ret (pe_joined (.cons pe_str (.cons (pe_fmt (pe_fld (pv 0) rfl)) (.cons pe_str (.cons (pe_fmtC hgd hu80 (pe_fld (pv 0) rfl)) (.cons pe_str .nil))))))), ?_⟩
    obtain ⟨sh1, sh2, sh3⟩ := shwPairs (good.small n16) (by have := good.few; omega)
    obtain ⟨l1, l2, l3⟩ := shwLine (shwPairs (good.small n16) (by have := good.few; omega)) (by decide) (by decide)
    have nt := natText (n := n) (by omega)
    have e1 : ("Graph(" : Str).length = 6 := by decide +kernel
    have e2 : (", " : Str).length = 2 := by decide +kernel
    have e3 : (")" : Str).length = 1 := by decide +kernel
    have big : (100000 : Nat) ≤ sizeLine := by rw [sizeLine_eq]; decide
    refine ⟨_, rfl, by rw [emptyApp]; omega, _, rfl, g, CG, dx, _, _, rfl, h1, T.cl, T.n1, gl_n _ _ _, .inr ⟨_, rfl, ?_, _, rfl, by rw [emptyApp, appLen]; omega, ?_⟩⟩
    · by_cases c : ((n : Int)).natAbs = 0
      · rw [c]
        decide
      · have z : ((n : Int)).natAbs < 2 ^ 5 := by omega
        exact Nat.lt_trans ((Nat.log2_lt c).mpr z) (by decide)
    refine ⟨_, rfl, by rw [emptyApp, appLen, appLen]; omega, ?_⟩
    refine ⟨_, rfl, g, CG, dx, _, _, rfl, h1, T.cl, T.n2, gl_j _ _ _, j, _, es.map pairD, rfl, SqL.of h2, dpTups h3, gb, l1, l2, l3, _, rfl, by rw [emptyApp, appLen, appLen, appLen]; show _ + (pairsD es).shown.length ≤ _; omega, ?_⟩
    refine ⟨_, rfl, by rw [emptyApp, appLen, appLen, appLen, appLen]; show _ + (pairsD es).shown.length + _ ≤ _; omega, ?_⟩
    rw [emptyApp]
    exact k
end
theorem textGLen {n : Nat} {es : List (Int × Int)} (good : GoodE n es) (n16 : n ≤ 16) : (textG n es).length ≤ 2100 := by
  obtain ⟨sh1, sh2, sh3⟩ := shwPairs (good.small n16) (by have := good.few; omega)
  have nt := natText (n := n) (by omega)
  have e1 : ("Graph(" : Str).length = 6 := by decide +kernel
  have e2 : (", " : Str).length = 2 := by decide +kernel
  have e3 : (")" : Str).length = 1 := by decide +kernel
  unfold textG
  rw [appLen, appLen, appLen, appLen]
  omega
end K81
set_option Elab.async false
set_option linter.all false
set_option maxRecDepth 100000
set_option maxHeartbeats 4000000
namespace FNX
open PySem PySem.Spec PyProof.Rows L2
theorem op_mulS {X : Cx} : OpR X (binaryOp .Mult) (fun x y H Q => ∃ (a : Str) (n : Int), x = .str a ∧ y = .int n ∧ MulOk a n ∧ Q (.str (Txt.mul a n)) H) := by
  intro pins s σ H x y v u Q I rx ry h
  obtain ⟨a, n, rfl, rfl, hz, q⟩ := h
  obtain ⟨t, rfl⟩ := rx
  obtain ⟨t', rfl⟩ := ry
  exact SB.mul hz fun t' k => ⟨.str _, H, I.tok _, ⟨_, rfl⟩, q⟩
theorem call_or {X : Cx} {f : Value} {r1 r2 : List V → Hp → VK → Prop} (h1 : CallR X f r1) (h2 : CallR X f r2) : CallR X f (fun vs H Q => r1 vs H Q ∨ r2 vs H Q) := by
  intro pins s σ H xs us Q I r h
  rcases h with h | h
  · exact h1 _ _ _ _ _ _ _ I r h
  · exact h2 _ _ _ _ _ _ _ I r h
/-- a list and an empty one -/
def rNeNil (K : PySem.W.Frag) : R2 := fun x y H Q => ∃ (a b : Addr) (xs : List V), x = .ref a ∧ y = .ref b ∧ SqL K H a xs ∧ SqL K H b [] ∧ Q (.bl (!xs.isEmpty)) H
theorem op_neNil {X : Cx} (hu : X.A.units + 64 < cLine) : OpR X (compareOp .NotEq) (rNeNil X.K) := by
  intro pins s σ H x y v u Q I rx ry h
  obtain ⟨a, b, xs, rfl, rfl, ha, hb, q⟩ := h
  cases (show v = Value.ref a from rx)
  cases (show u = Value.ref b from ry)
  obtain ⟨us, r1, p1, _⟩ := I.list ha
  obtain ⟨ws, r2, p2, _⟩ := I.list hb
  have l1 := r1.length
  have l2 := r2.length
  have w0 : ws = [] := List.length_eq_zero_iff.mp l2.symm
  subst w0
  cases xs with
  | nil =>
    have u0 : us = [] := List.length_eq_zero_iff.mp l1.symm
    subst u0
    refine (SeqAt.RcNeAt.lists (e := fun _ => true) p1.isList p2.isList rfl (by omega) (fun j h1 h2 => absurd h1 (by simp))) _ _ _ _ ?_
    exact ⟨.bl false, H, I, rfl, q⟩
  | cons z zs =>
    refine (SeqAt.RcNeAt.lists_lengths p1.isList p2.isList ?_ (by omega)) _ _ _ _ ?_
    · rw [List.size_toArray, List.size_toArray, ← l1]
      rfl
    · exact ⟨.bl true, H, I, rfl, q⟩
/-- a word without its sign -/
def dgs (w : Str) : Str := if Txt.startswith w "-" = true then cutS w (some 1) none else w
def isDg (c : Nat) : Bool := decide (c ∈ ("0123456789" : Str).cps.toList)
def okW (w : Str) : Bool := !decide (dgs w = ("" : Str)) && ((dgs w).cps.toList.all isDg && (decide (w = ("0" : Str)) || !decide ((dgs w).cps.toList.head? = some 48)))
def numW (w : Str) : Int := (intText? w).getD 0
theorem isDg_iff {c : Nat} : isDg c = true ↔ 48 ≤ c ∧ c ≤ 57 := by
  unfold isDg
  rw [decide_eq_true_eq, show ("0123456789" : Str).cps.toList = [48, 49, 50, 51, 52, 53, 54, 55, 56, 57] from by decide +kernel]
  simp only [List.mem_cons, List.not_mem_nil, or_false]
  omega
theorem strExt {a b : Str} (h : a.cps.toList = b.cps.toList) : a = b := by
  cases a with
  | mk a => cases b with
    | mk b => exact congrArg Str.mk (Array.toList_inj.mp h)
theorem minusS : ("-" : Str).cps.toList = [45] := by decide +kernel
theorem lenL (w : Str) : w.cps.toList.length = w.length := Array.length_toList
theorem starts_iff {w : Str} : Txt.startswith w "-" = true ↔ ∃ cs, w.cps.toList = 45 :: cs := by
  unfold Txt.startswith
  rw [StrLaws.subAt_eq, minusS, List.drop_zero, show ("-" : Str).length = 1 from by decide +kernel, Bool.and_eq_true, decide_eq_true_eq, beq_iff_eq, ← lenL]
  cases h : w.cps.toList with
  | nil => simp
  | cons c cs => simp
theorem cutS_one {w : Str} : (cutS w none (some 1)).cps.toList = w.cps.toList.take 1 := by
  unfold cutS
  rw [HT.sIx_none, List.drop_zero, Nat.sub_zero, show HT.sIx w.length w.length (some 1) = min 1 w.length from HT.sIx_nat _ _ 1]
  show List.take _ _ = _
  rw [← lenL]
  cases w.cps.toList with
  | nil => rfl
  | cons c cs => simp
theorem cutS_tail {w : Str} : (cutS w (some 1) none).cps.toList = w.cps.toList.tail := by
  unfold cutS
  rw [show HT.sIx w.length 0 (some 1) = min 1 w.length from HT.sIx_nat _ _ 1, HT.sIx_none, ← lenL]
  show List.take _ (List.drop _ _) = _
  cases w.cps.toList with
  | nil => rfl
  | cons c cs =>
    simp
theorem cut_minus {w : Str} : decide (V.str (cutS w none (some 1)) = V.str "-") = Txt.startswith w "-" := by
  have e : (V.str (cutS w none (some 1)) = V.str "-") ↔ Txt.startswith w "-" = true := by
    rw [starts_iff]
    constructor
    · intro h
      injection h with h
      have := congrArg (fun z : Str => z.cps.toList) h
      have this : (cutS w none (some 1)).cps.toList = ("-" : Str).cps.toList := this
      rw [cutS_one, minusS] at this
      cases hw : w.cps.toList with
      | nil => rw [hw] at this; cases this
      | cons c cs =>
        rw [hw] at this
        injection this with this
        exact ⟨cs, by rw [this]⟩
    · rintro ⟨cs, h⟩
      refine congrArg V.str (strExt ?_)
      rw [cutS_one, minusS, h]
      rfl
  by_cases c : Txt.startswith w "-" = true
  · rw [c]
    exact decide_eq_true (e.mpr c)
  · rw [Bool.eq_false_iff.mpr c]
    exact decide_eq_false fun h => c (e.mp h)
theorem digitsLt : ∀ (cs : List Nat) (a : Nat), (∀ c ∈ cs, c ≤ 57) → cs.foldl (fun acc c => acc * 10 + (c - 48)) a < (a + 1) * 10 ^ cs.length
  | [], a, _ => by simp
  | c :: cs, a, h => by
    have h1 := h c List.mem_cons_self
    have := digitsLt cs (a * 10 + (c - 48)) fun d hd => h d (List.mem_cons_of_mem _ hd)
    show cs.foldl _ (a * 10 + (c - 48)) < _
    refine Nat.lt_of_lt_of_le this ?_
    rw [List.length_cons, Nat.pow_succ, Nat.mul_comm (10 ^ cs.length) 10, ← Nat.mul_assoc]
    exact Nat.mul_le_mul_right _ (by omega)
theorem okW_int {w : Str} (h : okW w = true) (hl : w.length ≤ 640) : intText? w = some (numW w) ∧ (numW w).natAbs < 10 ^ 640 := by
  unfold okW at h
  rw [Bool.and_eq_true, Bool.and_eq_true, Bool.not_eq_true', decide_eq_false_iff_not] at h
  obtain ⟨hne, hall, _⟩ := h
  have hne' : (dgs w).cps.toList ≠ [] := fun e => hne (strExt (by rw [e]; rfl))
  have had : NumText.AllDigits (dgs w).cps.toList := fun c hc => isDg_iff.mp (List.all_eq_true.mp hall c hc)
  have big : ∀ cs : List Nat, NumText.AllDigits cs → cs.length ≤ 640 → NumText.digitsVal cs < 10 ^ 640 := fun cs hc hl => by
    have := digitsLt cs 0 fun c hm => (hc c hm).2
    rw [Nat.zero_add, Nat.one_mul] at this
    exact Nat.lt_of_lt_of_le this (Nat.pow_le_pow_right (by decide) hl)
  by_cases c : Txt.startswith w "-" = true
  · obtain ⟨cs, hcs⟩ := starts_iff.mp c
    have e : (dgs w).cps.toList = cs := by
      unfold dgs
      rw [if_pos c, cutS_tail, hcs]
      rfl
    rw [e] at hne' had
    have i := PySem.intText_neg hcs had hne' (by omega)
    unfold numW
    rw [i]
    refine ⟨rfl, ?_⟩
    have hlen : cs.length ≤ 640 := by
      have := lenL w
      rw [hcs, List.length_cons] at this
      omega
    show (-((NumText.digitsVal cs : Nat) : Int)).natAbs < _
    rw [Int.natAbs_neg, Int.natAbs_natCast]
    exact big cs had hlen
  · have e : dgs w = w := by
      unfold dgs
      rw [if_neg c]
    rw [e] at hne' had
    have i := PySem.intText_digits had hne' (by omega)
    unfold numW
    rw [i]
    refine ⟨rfl, ?_⟩
    show (((NumText.digitsVal w.cps.toList : Nat) : Int)).natAbs < _
    rw [Int.natAbs_natCast]
    exact big _ had (by rw [lenL]; exact hl)
end FNX
set_option Elab.async false
set_option linter.all false
set_option maxRecDepth 100000
set_option maxHeartbeats 8000000
namespace K81
open PySem PySem.Spec PyProof.Rows L2 FNX
def readN (ws : List Str) : Option (List Int) := if ws.all okW = true then some (ws.map numW) else none
def spDigits : Sp := fun vs H Q _ => ∃ w : Str, vs = [.str w] ∧ w.length ≤ 640 ∧ Q (.str (dgs w)) H
def spIsNum : Sp := fun vs H Q _ => ∃ w : Str, vs = [.str w] ∧ w.length ≤ 640 ∧ ∀ H', Same H H' → Q (.bl (okW w)) H'
def spReadN (K : PySem.W.Frag) : Sp := fun vs H Q _ => ∃ (a : Addr) (ws : List Str), vs = [.ref a] ∧ SqL K H a (ws.map V.str) ∧ (∀ w ∈ ws, w.length ≤ 640) ∧ ws.length ≤ 700 ∧ (readN ws = none → ∀ H', Same H H' → Q .non H') ∧
  ∀ xs, readN ws = some xs → ∀ q H', H q = none → Same H H' → H' q = some (.lst (xs.map V.int)) → Q (.ref q) H'
theorem strNe' {a b : Str} (h : a ≠ b) : decide (V.str a = V.str b) = false := decide_eq_false fun z => h (by injection z)
theorem dgs_len (w : Str) : (dgs w).length ≤ w.length := by
  unfold dgs
  split
  · exact cutS_length _ _ _
  · exact Nat.le_refl _
section
variable {P : Program} {w : World} {K : PySem.W.Frag} {mg : Str → Option Value} {base : Heap}
theorem sc_digits : FnScope ["word"] ["word"] (defScope s_digits_of) := ⟨rfl, rfl, rfl, by decide +kernel, rfl, by decide +kernel, by decide +kernel⟩
theorem ok_digits {f : Addr} {fd : FuncData} (F : Fun K "digits_of" "digits_of" s_digits_of f fd) : FnOk P w K mg base CX0 1 f fd ["word"] spDigits := by
  refine F.ok sc_digits (fun vs H Q E h => ?_) (fun cdv A' outer s H vs Q E hr h => ?_)
  · obtain ⟨w, rfl, _⟩ := h
    rfl
  · obtain ⟨x, rfl, hl, k⟩ := h
    have big : (640 : Nat) ≤ sizeLine := by rw [sizeLine_eq]; decide
    refine ⟨_, (pss_one (ps_ret (pe_ifExp (pt_val (pe_m1 PySem.F.slot_str_startswith PySem.F.type_str_startswith mt_startswith (pv 0) pe_str)) (pe_slice sl_str (pv 0) (po_some pe_int) po_none) (pv 0)))), ?_⟩
    refine ⟨_, rfl, ⟨_, rfl⟩, x, _, rfl, rfl, _, rfl, ?_⟩
    unfold dgs at k
    by_cases c : Txt.startswith x "-" = true
    · rw [if_pos c] at k
      rw [c]
      exact iteT ⟨_, rfl, _, rfl, x, rfl, by omega, k⟩
    · rw [if_neg c] at k
      rw [Bool.eq_false_iff.mpr c]
      exact iteF ⟨_, rfl, k⟩
theorem sc_isnum : FnScope ["word", "digits", "digit"] ["word"] (defScope s_is_number) := ⟨rfl, rfl, rfl, by decide +kernel, rfl, by decide +kernel, by decide +kernel⟩
theorem ok_isnum {f : Addr} {fd : FuncData} (F : Fun K "is_number" "is_number" s_is_number f fd) (M : Nms mg) {td : Tok} (mDg : mg "DIGITS" = some (.str "0123456789" td)) (GDi : At P w K mg base CX0 1 "digits_of" ["word"] spDigits) : FnOk P w K mg base CX0 2 f fd ["word"] spIsNum := by
  obtain ⟨fDi, fdDi, GDi, mDi, kDi, bDi⟩ := GDi
  refine F.ok sc_isnum (fun vs H Q E h => ?_) (fun cdv A' outer s H vs Q E hr h => ?_)
  · obtain ⟨w, rfl, _⟩ := h
    rfl
  · obtain ⟨x, rfl, hl, k⟩ := h
    have nd := sc_isnum.nd
    have big : (640 : Nat) ≤ sizeLine := by rw [sizeLine_eq]; decide
    refine ⟨_, (pss_cons (ps_set (i := 1) nd rfl (Or.inl rfl) (pe_call GDi (hr.mono (by decide)) (by rfl) mDi kDi bDi .nil pass0 (pa_cons (pv 0) pa_nil)))
      (pss_cons (ps_if (PW.pt (pw_or (pt_cmpR op_eq (pv 1) pe_str (nomark _)) (pw_or1 (pt_not (pt_val (pe_callB (cr_all rfl) (by rfl) M.all boot_all (pa_cons (pe_lc (own := [("digit", 2)]) (g := gName 2) (tt := tYes) rfl nd (pi_str (pv 1)) (blkOk_by (own := [("digit", 2)]) (N := ["word", "digits", "digit"]) (sc := defScope s_is_number) (by decide +kernel)) (fun _ _ _ _ _ => pg_name (i := 2) nd rfl (Or.inl rfl)) (fun _ _ _ _ _ => pts_nil) (fun _ _ _ _ _ => (pe_cmpR op_in_sign (pv 2) (pe_glob (v := .str "0123456789") (by rfl) mDg ⟨_, rfl⟩) (by with_unfolding_all rfl)))) pa_nil))))))) (pss_one (ps_ret pe_bl)) pss_nil)
      (pss_one (ps_ret (pe_or (pe_cmpR op_eq (pv 0) pe_str (nomark _)) (pe_one (pe_cmpR op_ne (pe_ix ix_str (pv 1) pe_int (fun _ _ => rfl)) pe_str (nomark _)))))))), ?_⟩
    refine ⟨_, rfl, x, rfl, hl, ?_⟩
    refine ⟨_, rfl, rfl, _, rfl, ?_⟩
    have dl := dgs_len x
    by_cases c : dgs x = ("" : Str)
    · rw [decide_eq_true (congrArg V.str c)]
      have e : okW x = false := by unfold okW; rw [decide_eq_true c]; rfl
      have := k H (Same.refl H)
      rw [e] at this
      exact iteT (iteT this)
    · rw [strNe' c]
      refine iteF ⟨_, rfl, _, rfl, fun D nD => ?_⟩
      refine lc_it walk_str (fun i G => Same H G ∧ G D = some (.lst (((dgs x).cps.toList.take i).map fun c => V.bl (isDg c)))) ⟨same_upd nD, upd_same⟩ (fun _ _ _ _ => True.intro) (fun i y G G' hi hP hy => ?_) (fun G hP => ?_)
      · obtain ⟨sG, hD⟩ := hP
        obtain ⟨rfl, cc, hc, rfl⟩ := hy
        have hc' : (dgs x).cps.toList[i]? = some cc := by rw [Array.getElem?_toList]; exact hc
        refine ⟨rfl, _, rfl, cc, _, rfl, rfl, _, hD, ?_, fun z o e => ?_, ?_⟩
        · rw [List.length_map, List.length_take, lenL]
          have : (dgs x).cps.size = (dgs x).length := rfl
          omega
        · rw [upd_ne (ne_of_none e nD)]
          exact sG _ _ e
        · rw [upd_same, List.take_add_one, hc', List.map_append]
          rfl
      · obtain ⟨sG, hD⟩ := hP
        have tl : (dgs x).cps.toList.take (dgs x).cps.size = (dgs x).cps.toList := List.take_of_length_le (by rw [Array.length_toList]; exact Nat.le_refl _)
        rw [tl] at hD
        refine ⟨D, (dgs x).cps.toList.map isDg, rfl, SqL.of (by rw [hD, List.map_map]; rfl), ?_⟩
        have ea : ((dgs x).cps.toList.map isDg).all id = (dgs x).cps.toList.all isDg := by rw [List.all_map]; rfl
        have hk := k G sG
        refine ⟨_, rfl, ?_⟩
        by_cases a : (dgs x).cps.toList.all isDg = true
        · rw [ea, a]
          refine iteF ?_
          unfold okW at hk
          rw [a, Bool.true_and, decide_eq_false c, Bool.not_false, Bool.true_and] at hk
          refine ⟨_, rfl, rfl, _, rfl, ?_⟩
          by_cases z : x = ("0" : Str)
          · rw [decide_eq_true z, Bool.true_or] at hk
            rw [decide_eq_true (congrArg V.str z)]
            exact iteT hk
          · rw [decide_eq_false z, Bool.false_or] at hk
            rw [strNe' z]
            have hne : (dgs x).cps.toList ≠ [] := fun e => c (strExt (by rw [e]; rfl))
            cases hh : (dgs x).cps.toList with
            | nil => exact absurd hh hne
            | cons d0 ds =>
              rw [hh] at hk
              refine iteF ⟨_, rfl, dgs x, 0, d0, rfl, rfl, by omega, ?_, rfl, ?_⟩
              · rw [hh]
                exact atI_nat (j := 0) rfl
              · have e : decide (V.str (⟨#[d0]⟩ : Str) = V.str "0") = decide (some d0 = some 48) := by
                  by_cases q : d0 = 48
                  · rw [q]; rfl
                  · have n1 : ¬ (V.str (⟨#[d0]⟩ : Str) = V.str "0") := fun h => q (by
                      injection h with h
                      have e1 : (⟨#[d0]⟩ : Str).cps.toList = ("0" : Str).cps.toList := by rw [h]
                      have e2 : ("0" : Str).cps.toList = [48] := by decide +kernel
                      rw [e2] at e1
                      injection e1)
                    have n2 : ¬ (some d0 = some 48) := fun h => q (Option.some.inj h)
                    rw [decide_eq_false n1, decide_eq_false n2]
                rw [e]
                exact hk
        · rw [ea, Bool.eq_false_iff.mpr a]
          have e : okW x = false := by unfold okW; rw [Bool.eq_false_iff.mpr a, Bool.false_and, Bool.and_false]
          rw [e] at hk
          exact iteT hk
theorem sc_readn : FnScope ["words", "word"] ["words"] (defScope s_read_numbers) := ⟨rfl, rfl, rfl, by decide +kernel, rfl, by decide +kernel, by decide +kernel⟩
theorem ok_readn {f : Addr} {fd : FuncData} (F : Fun K "read_numbers" "read_numbers" s_read_numbers f fd) (M : Nms mg) (GNm : At P w K mg base CX0 2 "is_number" ["word"] spIsNum) : FnOk P w K mg base CX0 3 f fd ["words"] (spReadN K) := by
  obtain ⟨fNm, fdNm, GNm, mNm, kNm, bNm⟩ := GNm
  refine F.ok sc_readn (fun vs H Q E h => ?_) (fun cdv A' outer s H vs Q E hr h => ?_)
  · obtain ⟨a, ws, rfl, _⟩ := h
    rfl
  · obtain ⟨a, ws, rfl, hs, hl, lw, k0, k1⟩ := h
    have nd := sc_readn.nd
    have big : (700 : Nat) < sizeLine := by rw [sizeLine_eq]; decide
    refine ⟨_, (pss_cons (ps_if (pt_not (pt_val (pe_callB (cr_all rfl) (by rfl) M.all boot_all (pa_cons (pe_lc (own := [("word", 1)]) (g := gName 1) (tt := tYes) rfl nd (pi_list (pv 0)) (blkOk_by (own := [("word", 1)]) (N := ["words", "word"]) (sc := defScope s_read_numbers) (by decide +kernel)) (fun _ _ _ _ _ => pg_name (i := 1) nd rfl (Or.inl rfl)) (fun _ _ _ _ _ => pts_nil) (fun _ _ _ _ _ => (pe_call GNm (hr.mono (by decide)) (by rfl) mNm kNm bNm .nil pass0 (pa_cons (pv 1) pa_nil)))) pa_nil)))) (pss_one (ps_ret pe_non)) pss_nil)
      (pss_one (ps_ret (pe_lc (own := [("word", 1)]) (g := gName 1) (tt := tYes) rfl nd (pi_list (pv 0)) (blkOk_by (own := [("word", 1)]) (N := ["words", "word"]) (sc := defScope s_read_numbers) (by decide +kernel)) (fun _ _ _ _ _ => pg_name (i := 1) nd rfl (Or.inl rfl)) (fun _ _ _ _ _ => pts_nil) (fun _ _ _ _ _ => (pe_callTy call_int_str (by rfl) M.int (by decide +kernel) (pa_cons (pv 1) pa_nil))))))), ?_⟩
    refine ⟨_, rfl, a, rfl, ⟨_, hs⟩, fun D nD => ?_⟩
    refine lc_list (K := K) (a := a) (xs := ws.map V.str) (fun i G => Same H G ∧ G D = some (.lst ((ws.take i).map fun z => V.bl (okW z)))) ⟨same_upd nD, upd_same⟩ (fun i G _ h => h.1.seq hs) (fun i y G hy hP => ?_) (fun G hP => ?_)
    · obtain ⟨sG, hD⟩ := hP
      obtain ⟨z, hz, rfl⟩ := refAt hy
      have hi := (List.getElem?_eq_some_iff.mp hz).1
      refine ⟨rfl, _, rfl, z, rfl, hl z (List.mem_of_getElem? hz), fun G2 s2 => ?_⟩
      refine ⟨_, s2 _ _ hD, by rw [List.length_map, List.length_take]; omega, fun u o e => ?_, ?_⟩
      · rw [upd_ne (ne_of_none e nD)]
        exact s2 _ _ (sG _ _ e)
      · rw [upd_same, List.take_add_one, hz, List.map_append]
        rfl
    · obtain ⟨sG, hD⟩ := hP
      rw [List.length_map, List.take_length] at hD
      refine ⟨D, ws.map okW, rfl, SqL.of (by rw [hD, List.map_map]; rfl), ?_⟩
      have ea : (ws.map okW).all id = ws.all okW := by rw [List.all_map]; rfl
      refine ⟨_, rfl, ?_⟩
      by_cases c : ws.all okW = true
      · rw [ea, c]
        have e : readN ws = some (ws.map numW) := by unfold readN; rw [if_pos c]
        refine iteF ⟨_, rfl, a, rfl, ⟨_, sG.seq hs⟩, fun D2 nD2 => ?_⟩
        refine lc_list (K := K) (a := a) (xs := ws.map V.str) (fun i G' => Same G G' ∧ G' D2 = some (.lst ((ws.take i).map fun z => V.int (numW z)))) ⟨same_upd nD2, upd_same⟩ (fun i G' _ h => h.1.seq (sG.seq hs)) (fun i y G' hy hP => ?_) (fun G' hP => ?_)
        · obtain ⟨sG', hD'⟩ := hP
          obtain ⟨z, hz, rfl⟩ := refAt hy
          have hi := (List.getElem?_eq_some_iff.mp hz).1
          have hm := List.mem_of_getElem? hz
          obtain ⟨i1, i2⟩ := okW_int (List.all_eq_true.mp c z hm) (hl z hm)
          refine ⟨rfl, _, rfl, z, _, rfl, i1, hl z hm, _, hD', by rw [List.length_map, List.length_take]; omega, fun u o e => ?_, ?_⟩
          · rw [upd_ne (ne_of_none e nD2)]
            exact sG' _ _ e
          · rw [upd_same, List.take_add_one, hz, List.map_append]
            rfl
        · obtain ⟨sG', hD'⟩ := hP
          rw [List.length_map, List.take_length] at hD'
          exact k1 _ e D2 G' (sG.free nD2) (sG.trans sG') (by rw [hD', List.map_map]; rfl)
      · rw [ea, Bool.eq_false_iff.mpr c]
        have e : readN ws = none := by unfold readN; rw [if_neg c]
        exact iteT (k0 e G sG)
end
end K81
set_option Elab.async false
set_option linter.all false
set_option maxRecDepth 100000
set_option maxHeartbeats 8000000
namespace K81
open PySem PySem.Spec PyProof.Rows L2 FNX
def headS (ws : List Str) : Str := ws.headD ""
def sizeIn (ws : List Str) : Option Nat := match readN ws.tail with
  | some [z] => if headS ws = ("graph" : Str) ∧ 1 ≤ z ∧ z ≤ 16 then some z.toNat else none
  | _ => none
def edgeIn (ws : List Str) (n : Nat) : Option (Int × Int) := match readN ws.tail with
  | some [a, b] => if headS ws = ("edge" : Str) ∧ isEdgeD n (pairD (a, b)) = true then some (ordP (a, b)) else none
  | _ => none
/-- a row's words -/
structure WdsAt (H : Hp) (a : Addr) (ws : List Str) : Prop where
  at_ : H a = some (.lst (ws.map V.str))
  ne : ws ≠ []
  short : ∀ w ∈ ws, w.length ≤ 640
  few : ws.length ≤ 700
theorem WdsAt.same {H H' : Hp} {a : Addr} {ws : List Str} (h : WdsAt H a ws) (s : Same H H') : WdsAt H' a ws := ⟨s _ _ h.at_, h.ne, h.short, h.few⟩
theorem cutTl (ws : List Str) : cutV (ws.map V.str) (some 1) none = ws.tail.map V.str := by
  unfold cutV
  rw [show HT.sIx (ws.map V.str).length 0 (some 1) = min 1 (ws.map V.str).length from HT.sIx_nat _ _ 1, HT.sIx_none]
  cases ws with
  | nil => rfl
  | cons w ws =>
    rw [List.take_of_length_le (by rw [List.length_drop]; exact Nat.le_refl _)]
    show List.drop (min 1 _) _ = _
    rw [List.length_map, List.length_cons, show min 1 (ws.length + 1) = 1 from by omega]
    rfl
theorem headAt {ws : List Str} (h : ws ≠ []) : (ws.map V.str)[0]? = some (V.str (headS ws)) := by
  cases ws with
  | nil => exact absurd rfl h
  | cons w ws => rfl
theorem neS' {x y : Str} (h : x = y) : (!decide (V.str x = V.str y)) = false := by
  rw [h, decide_eq_true rfl]
  rfl
theorem minmax2 {x y mn mx : Int} (m1 : mn ∈ [x, y]) (m2 : ∀ z, z ∈ [x, y] → mn ≤ z) (m3 : mx ∈ [x, y]) (m4 : ∀ z, z ∈ [x, y] → z ≤ mx) : mn = (ordP (x, y)).1 ∧ mx = (ordP (x, y)).2 := by
  have a1 := m2 x (by simp)
  have a2 := m2 y (by simp)
  have a3 := m4 x (by simp)
  have a4 := m4 y (by simp)
  simp only [List.mem_cons, List.not_mem_nil, or_false] at m1 m3
  show mn = min x y ∧ mx = max x y
  omega
def spSizeIn : Sp := fun vs H Q _ => ∃ (a : Addr) (ws : List Str), vs = [.ref a] ∧ WdsAt H a ws ∧ (sizeIn ws = none → ∀ H', Same H H' → Q .non H') ∧ ∀ n, sizeIn ws = some n → ∀ H', Same H H' → Q (.int (n : Int)) H'
def spEdgeIn : Sp := fun vs H Q _ => ∃ (a : Addr) (ws : List Str) (n : Nat), vs = [.ref a, .int (n : Int)] ∧ WdsAt H a ws ∧ (edgeIn ws n = none → ∀ H', Same H H' → Q .non H') ∧
  ∀ e, edgeIn ws n = some e → ∀ t H', H t = none → Same H H' → H' t = some (.tup [.int e.1, .int e.2]) → Q (.ref t) H'
section
variable {P : Program} {w : World} {K : PySem.W.Frag} {mg : Str → Option Value} {base : Heap}
theorem sc_sizein : FnScope ["words", "numbers"] ["words"] (defScope s_size_in) := ⟨rfl, rfl, rfl, by decide +kernel, rfl, by decide +kernel, by decide +kernel⟩
theorem ok_sizein {f : Addr} {fd : FuncData} (F : Fun K "size_in" "size_in" s_size_in f fd) (M : Nms mg) {t16 : Tok} (m16 : mg "MOST_NODES" = some (.int 16 t16)) (GRd : At P w K mg base CX0 3 "read_numbers" ["words"] (spReadN K)) (GW : At P w K mg base CX0 2 "is_integer_within" ["thing", "low", "high"] (spWithin K)) :
    FnOk P w K mg base CX0 4 f fd ["words"] spSizeIn := by
  obtain ⟨fRd, fdRd, GRd, mRd, kRd, bRd⟩ := GRd
  obtain ⟨fW, fdW, GW, mW, kW, bW⟩ := GW
  refine F.ok sc_sizein (fun vs H Q E h => ?_) (fun cdv A' outer s H vs Q E hr h => ?_)
  · obtain ⟨a, ws, rfl, _⟩ := h
    rfl
  · obtain ⟨a, ws, rfl, hw, k0, k1⟩ := h
    have nd := sc_sizein.nd
    refine ⟨_, (pss_cons (ps_set (i := 1) nd rfl (Or.inl rfl) (pe_call GRd (hr.mono (by decide)) (by rfl) mRd kRd bRd .nil pass0 (pa_cons (pe_slice sl_list (pv 0) (po_some pe_int) po_none) pa_nil)))
      (pss_cons (ps_if (PW.pt (pw_or (pt_cmpR op_ne (pe_ix (r := rIxL K) ix_list (pv 0) pe_int (fun _ _ => rfl)) pe_str (nomark _)) (pw_or (pt_cmpR op_isN (pv 1) pe_non (nomark _)) (pw_or1 (pt_cmpR op_ne (pe_callB call_len_seq (by rfl) M.len boot_len1 (pa_cons (pv 1) pa_nil)) pe_int (nomark _)))))) (pss_one (ps_ret pe_non)) pss_nil)
      (pss_one (ps_ret (pe_ifExp (pt_val (pe_call GW (hr.mono (by decide)) (by rfl) mW kW bW .nil pass0 (pa_cons (pe_ix (r := rIxL K) ix_list (pv 1) pe_int (fun _ _ => rfl)) (pa_cons pe_int (pa_cons (pe_glob (v := .int 16) (by rfl) m16 ⟨_, rfl⟩) pa_nil))))) (pe_ix (r := rIxL K) ix_list (pv 1) pe_int (fun _ _ => rfl)) pe_non))))), ?_⟩
    refine ⟨_, rfl, _, rfl, a, _, rfl, SqL.of hw.at_, fun t nt => ?_⟩
    rw [cutTl]
    obtain ⟨H1, q1, s1, ht⟩ := newAt (.lst (ws.tail.map V.str)) nt
    rw [q1]
    have h01 := headAt hw.ne
    have hw1 := hw.same s1
    refine ⟨t, ws.tail, rfl, SqL.of ht, fun z hz => hw.short z (List.mem_of_mem_tail hz), by rw [List.length_tail]; have := hw.few; omega, fun e H2 s2 => ?_, fun xs e q H2 nq s2 hq => ?_⟩
    · have no : sizeIn ws = none := by unfold sizeIn; rw [e]
      refine ⟨_, rfl, a, _, (0 : Int), _, rfl, rfl, SqL.of (hw1.same s2).at_, atI_nat (j := 0) h01, rfl, _, rfl, ?_⟩
      by_cases c : headS ws = ("graph" : Str)
      · rw [show (!decide (V.str (headS ws) = V.str "graph")) = false from neS' c]
        refine iteF ⟨_, rfl, rfl, _, rfl, ?_⟩
        rw [decide_eq_true rfl]
        exact iteT (iteT (k0 no H2 (s1.trans s2)))
      · rw [show (!decide (V.str (headS ws) = V.str "graph")) = true from by rw [strNe' c]; rfl]
        exact iteT (iteT (k0 no H2 (s1.trans s2)))
    · have s02 := s1.trans s2
      refine ⟨_, rfl, a, _, (0 : Int), _, rfl, rfl, SqL.of (hw1.same s2).at_, atI_nat (j := 0) h01, rfl, _, rfl, ?_⟩
      by_cases c : headS ws = ("graph" : Str)
      · rw [show (!decide (V.str (headS ws) = V.str "graph")) = false from neS' c]
        refine iteF ⟨_, rfl, rfl, _, rfl, ?_⟩
        rw [decide_eq_false (show ¬ V.ref q = V.non from fun z => by cases z)]
        refine iteF ⟨_, rfl, q, _, rfl, .inl (SqL.of hq), rfl, _, rfl, ?_⟩
        by_cases l1 : xs.length = 1
        · obtain ⟨z, rfl⟩ : ∃ z, xs = [z] := by
            match xs, l1 with
            | [z], _ => exact ⟨z, rfl⟩
          refine iteF ⟨_, rfl, q, _, (0 : Int), _, rfl, rfl, SqL.of hq, atI_nat (j := 0) rfl, _, .int z, 1, 16, rfl, .dat (.int _), ?_⟩
          have hwi : within 1 16 (.int z) = decide (1 ≤ z ∧ z ≤ 16) := by
            show (decide ((1 : Int) ≤ z) && decide (z ≤ (16 : Int))) = _
            by_cases b1 : 1 ≤ z <;> by_cases b2 : z ≤ 16 <;> simp [b1, b2]
          rw [hwi]
          refine ⟨_, rfl, ?_⟩
          by_cases b : 1 ≤ z ∧ z ≤ 16
          · have yes : sizeIn ws = some z.toNat := by unfold sizeIn; rw [e]; exact if_pos ⟨c, b⟩
            rw [decide_eq_true b]
            refine iteT ⟨_, rfl, q, _, (0 : Int), _, rfl, rfl, SqL.of hq, atI_nat (j := 0) rfl, ?_⟩
            have := k1 _ yes H2 s02
            rw [show ((z.toNat : Nat) : Int) = z from by omega] at this
            exact this
          · have no : sizeIn ws = none := by unfold sizeIn; rw [e]; exact if_neg fun h => b h.2
            rw [decide_eq_false b]
            exact iteF (k0 no H2 s02)
        · have no : sizeIn ws = none := by
            unfold sizeIn
            rw [e]
            match xs, l1 with
            | [], _ => rfl
            | _ :: _ :: _, _ => rfl
          rw [show (!decide (V.int ((xs.map V.int).length : Int) = V.int 1)) = true from by
            rw [List.length_map, decide_eq_false (fun z => l1 (by injection z with z; omega))]
            rfl]
          exact iteT (k0 no H2 s02)
      · have no : sizeIn ws = none := by
          unfold sizeIn
          rw [e]
          split
          · exact if_neg fun h => c h.1
          · rfl
        rw [show (!decide (V.str (headS ws) = V.str "graph")) = true from by rw [strNe' c]; rfl]
        exact iteT (iteT (k0 no H2 s02))
theorem sc_edgein : FnScope ["words", "size", "numbers"] ["words", "size"] (defScope s_edge_in) := ⟨rfl, rfl, rfl, by decide +kernel, rfl, by decide +kernel, by decide +kernel⟩
theorem ok_edgein {f : Addr} {fd : FuncData} (F : Fun K "edge_in" "edge_in" s_edge_in f fd) (M : Nms mg) (GRd : At P w K mg base CX0 3 "read_numbers" ["words"] (spReadN K)) (GIe : At P w K mg base CX0 4 "is_edge" ["size", "thing"] (spIsEdgeD K)) :
    FnOk P w K mg base CX0 5 f fd ["words", "size"] spEdgeIn := by
  obtain ⟨fRd, fdRd, GRd, mRd, kRd, bRd⟩ := GRd
  obtain ⟨fIe, fdIe, GIe, mIe, kIe, bIe⟩ := GIe
  refine F.ok sc_edgein (fun vs H Q E h => ?_) (fun cdv A' outer s H vs Q E hr h => ?_)
  · obtain ⟨a, ws, n, rfl, _⟩ := h
    rfl
  · obtain ⟨a, ws, n, rfl, hw, k0, k1⟩ := h
    have nd := sc_edgein.nd
    refine ⟨_, (pss_cons (ps_set (i := 2) nd rfl (Or.inl rfl) (pe_call GRd (hr.mono (by decide)) (by rfl) mRd kRd bRd .nil pass0 (pa_cons (pe_slice sl_list (pv 0) (po_some pe_int) po_none) pa_nil)))
      (pss_cons (ps_if (PW.pt (pw_or (pt_cmpR op_ne (pe_ix (r := rIxL K) ix_list (pv 0) pe_int (fun _ _ => rfl)) pe_str (nomark _)) (pw_or (pt_cmpR op_isN (pv 2) pe_non (nomark _)) (pw_or1 (pt_not (pt_val (pe_call GIe (hr.mono (by decide)) (by rfl) mIe kIe bIe .nil pass0 (pa_cons (pv 1) (pa_cons (pe_callTy call_tuple_of (by rfl) M.tuple (by decide +kernel) (pa_cons (pv 2) pa_nil)) pa_nil))))))))) (pss_one (ps_ret pe_non)) pss_nil)
      (pss_one (ps_ret (pe_tup (pa_cons (pe_callB (show CallR _ (.builtin "min") (rMin K) from cr_min rfl) (by rfl) M.min boot_min1 (pa_cons (pv 2) pa_nil)) (pa_cons (pe_callB (show CallR _ (.builtin "max") (rMax K) from cr_max rfl) (by rfl) M.max boot_max1 (pa_cons (pv 2) pa_nil)) pa_nil))))))), ?_⟩
    refine ⟨_, rfl, _, rfl, a, _, rfl, SqL.of hw.at_, fun t nt => ?_⟩
    rw [cutTl]
    obtain ⟨H1, q1, s1, ht⟩ := newAt (.lst (ws.tail.map V.str)) nt
    rw [q1]
    have h01 := headAt hw.ne
    have hw1 := hw.same s1
    refine ⟨t, ws.tail, rfl, SqL.of ht, fun z hz => hw.short z (List.mem_of_mem_tail hz), by rw [List.length_tail]; have := hw.few; omega, fun e H2 s2 => ?_, fun xs e q H2 nq s2 hq => ?_⟩
    · have no : edgeIn ws n = none := by unfold edgeIn; rw [e]
      refine ⟨_, rfl, a, _, (0 : Int), _, rfl, rfl, SqL.of (hw1.same s2).at_, atI_nat (j := 0) h01, rfl, _, rfl, ?_⟩
      by_cases c : headS ws = ("edge" : Str)
      · rw [show (!decide (V.str (headS ws) = V.str "edge")) = false from neS' c]
        refine iteF ⟨_, rfl, rfl, _, rfl, ?_⟩
        rw [decide_eq_true rfl]
        exact iteT (iteT (k0 no H2 (s1.trans s2)))
      · rw [show (!decide (V.str (headS ws) = V.str "edge")) = true from by rw [strNe' c]; rfl]
        exact iteT (iteT (k0 no H2 (s1.trans s2)))
    · have s02 := s1.trans s2
      refine ⟨_, rfl, a, _, (0 : Int), _, rfl, rfl, SqL.of (hw1.same s2).at_, atI_nat (j := 0) h01, rfl, _, rfl, ?_⟩
      by_cases c : headS ws = ("edge" : Str)
      · rw [show (!decide (V.str (headS ws) = V.str "edge")) = false from neS' c]
        refine iteF ⟨_, rfl, rfl, _, rfl, ?_⟩
        rw [decide_eq_false (show ¬ V.ref q = V.non from fun z => by cases z)]
        refine iteF ⟨_, rfl, _, rfl, q, _, rfl, .inl ⟨SqL.of hq, fun T nT => ?_⟩⟩
        obtain ⟨H3, q3, s3, hT⟩ := newAt (.tup (xs.map V.int)) nT
        rw [q3]
        refine ⟨n, .ref T, .tuple (xs.map PyData.int), rfl, .dat (.tup (SqT.of hT) (dpInts _)), fun H4 s4 => ⟨_, rfl, ?_⟩⟩
        have s04 := s02.trans (s3.trans s4)
        by_cases l2 : xs.length = 2
        · obtain ⟨x, y, rfl⟩ : ∃ x y, xs = [x, y] := by
            match xs, l2 with
            | [x, y], _ => exact ⟨x, y, rfl⟩
          by_cases b : isEdgeD n (pairD (x, y)) = true
          · have yes : edgeIn ws n = some (ordP (x, y)) := by unfold edgeIn; rw [e]; exact if_pos ⟨c, b⟩
            rw [show isEdgeD n (.tuple ([x, y].map PyData.int)) = true from b]
            have hq4 := (s3.trans s4) _ _ hq
            refine iteF ⟨_, rfl, q, [x, y], rfl, SqL.of hq4, Nat.succ_pos _, fun mn m1 m2 => ⟨_, rfl, q, [x, y], rfl, SqL.of hq4, Nat.succ_pos _, fun mx m3 m4 => ?_⟩⟩
            obtain ⟨e1, e2⟩ := minmax2 m1 m2 m3 m4
            rw [e1, e2]
            refine ⟨by show 2 ≤ sizeLine; decide, fun t2 nt2 => ?_⟩
            exact k1 _ yes t2 _ (s04.free nt2) (s04.trans (same_upd nt2)) upd_same
          · have no : edgeIn ws n = none := by unfold edgeIn; rw [e]; exact if_neg fun h => b h.2
            rw [show isEdgeD n (.tuple ([x, y].map PyData.int)) = false from Bool.eq_false_iff.mpr b]
            exact iteT (k0 no H4 s04)
        · have no : edgeIn ws n = none := by
            unfold edgeIn
            rw [e]
            match xs, l2 with
            | [], _ => rfl
            | [_], _ => rfl
            | _ :: _ :: _ :: _, _ => rfl
          rw [isEdgeLen (by rw [List.length_map]; exact l2)]
          exact iteT (k0 no H4 s04)
      · have no : edgeIn ws n = none := by
          unfold edgeIn
          rw [e]
          split
          · exact if_neg fun h => c h.1
          · rfl
        rw [show (!decide (V.str (headS ws) = V.str "edge")) = true from by rw [strNe' c]; rfl]
        exact iteT (iteT (k0 no H2 s02))
end
end K81
set_option Elab.async false
set_option linter.all false
set_option maxRecDepth 100000
set_option maxHeartbeats 8000000
namespace K81
open PySem PySem.Spec PyProof.Rows L2 FNX
theorem kitSt (K : PySem.W.Frag) : ∀ d : PyData, PySem.W.kitOne K (.type (tyD d)) (.type "str") = some (match d with | .str _ => true | _ => false)
  | .none => (kit_ty (by decide +kernel) : PySem.W.kitOne K (.type "NoneType") (.type "str") = some false)
  | .bool _ => (kit_ty (by decide +kernel) : PySem.W.kitOne K (.type "bool") (.type "str") = some false)
  | .int _ => (kit_ty (by decide +kernel) : PySem.W.kitOne K (.type "int") (.type "str") = some false)
  | .str _ => (kit_ty (by decide +kernel) : PySem.W.kitOne K (.type "str") (.type "str") = some true)
  | .list _ => (kit_ty (by decide +kernel) : PySem.W.kitOne K (.type "list") (.type "str") = some false)
  | .tuple _ => (kit_ty (by decide +kernel) : PySem.W.kitOne K (.type "tuple") (.type "str") = some false)
  | .dict _ => (kit_ty (by decide +kernel) : PySem.W.kitOne K (.type "dict") (.type "str") = some false)
theorem rdStr {K : PySem.W.Frag} {H : Hp} {v : V} {t : Str} (h : Rd K H v (.str t)) : v = .str t := by
  cases h with
  | dat h =>
    cases h with
    | str _ => rfl
def goR (n : Nat) : List (List Str) → List (Int × Int) → Nat → Except Nat (List (Int × Int) × List Int)
  | [], _, k => .error k
  | r :: rs, es, k => if headS r = ("numbers" : Str) then (match readN r.tail with
      | some xs => if xs.length = n then (if rs = [] then .ok (es, xs) else .error (k + 1)) else .error k
      | none => .error k)
    else match edgeIn r n with
      | some e => if e ∈ es ∨ es.length = 40 then .error k else goR n rs (es ++ [e]) (k + 1)
      | none => .error k
def rowsT (t : Str) : List (List Str) := (Txt.split t "\n").map fun r => Txt.split r " "
def parseM (t : Str) : Except Nat (Nat × List (Int × Int) × List Int) := match sizeIn ((rowsT t).headD []) with
  | none => .error 0
  | some n => match goR n (rowsT t).tail [] 1 with
    | .error k => .error k
    | .ok r => .ok (n, r)
def LinesAt (H : Hp) (ro : Addr) (rows : List (List Str)) : Prop := ∃ rs : List Addr, H ro = some (.lst (rs.map V.ref)) ∧ rs.length = rows.length ∧ ∀ (k : Nat) (a : Addr), rs[k]? = some a → ∃ ws, rows[k]? = some ws ∧ WdsAt H a ws
theorem LinesAt.same {H H' : Hp} {ro : Addr} {rows : List (List Str)} (h : LinesAt H ro rows) (s : Same H H') : LinesAt H' ro rows := by
  obtain ⟨rs, h1, h2, h3⟩ := h
  refine ⟨rs, s _ _ h1, h2, fun k a e => ?_⟩
  obtain ⟨ws, e1, e2⟩ := h3 k a e
  exact ⟨ws, e1, e2.same s⟩
theorem LinesAt.get {H : Hp} {ro : Addr} {rows : List (List Str)} (h : LinesAt H ro rows) {k : Nat} {ws : List Str} (e : rows[k]? = some ws) : ∃ (rs : List Addr) (a : Addr), H ro = some (.lst (rs.map V.ref)) ∧ rs.length = rows.length ∧ (rs.map V.ref)[k]? = some (.ref a) ∧ WdsAt H a ws := by
  obtain ⟨rs, h1, h2, h3⟩ := h
  have hk : k < rs.length := by rw [h2]; exact (List.getElem?_eq_some_iff.mp e).1
  obtain ⟨ws', e1, e2⟩ := h3 k _ (List.getElem?_eq_getElem hk)
  rw [e] at e1
  obtain rfl := Option.some.inj e1
  exact ⟨rs, _, h1, h2, by rw [List.getElem?_map, List.getElem?_eq_getElem hk]; rfl, e2⟩
theorem split_ne (x y : Str) : Txt.split x y ≠ [] := fun e => by
  have := split_pos x y
  rw [e] at this
  exact absurd this (by decide)
theorem wdsSplit {H : Hp} {a : Addr} {r : Str} (h : H a = some (.lst ((Txt.split r " ").map V.str))) (l : r.length ≤ 640) : WdsAt H a (Txt.split r " ") :=
  ⟨h, split_ne _ _, fun w hw => Nat.le_trans (part_short hw) l, Nat.le_trans (split_le _ _) (by omega)⟩
/-- an edge that is read -/
theorem edgeGood {ws : List Str} {n : Nat} {e : Int × Int} (h : edgeIn ws n = some e) : 0 ≤ e.1 ∧ e.1 < e.2 ∧ e.2 < n := by
  unfold edgeIn at h
  split at h
  · rename_i a b _
    split at h
    · rename_i c
      injection h with h
      have hb : (isNode n (.int a) && isNode n (.int b) && !PyData.eqv (.int a) (.int b)) = true := c.2
      rw [Bool.and_eq_true, Bool.and_eq_true, Bool.not_eq_true'] at hb
      obtain ⟨⟨h1, h2⟩, h3⟩ := hb
      have g1 : (decide ((0 : Int) ≤ a) && decide (a ≤ (n : Int) - 1)) = true := h1
      have g2 : (decide ((0 : Int) ≤ b) && decide (b ≤ (n : Int) - 1)) = true := h2
      rw [Bool.and_eq_true, decide_eq_true_eq, decide_eq_true_eq] at g1 g2
      have ne : a ≠ b := fun q => by
        rw [q] at h3
        have := eqvSame (d := .int b) rfl
        rw [h3] at this
        cases this
      rw [← h]
      show 0 ≤ min a b ∧ min a b < max a b ∧ max a b < n
      omega
    · cases h
  · cases h
theorem goodSnocE {n : Nat} {es : List (Int × Int)} {e : Int × Int} (g : GoodE n es) (he : 0 ≤ e.1 ∧ e.1 < e.2 ∧ e.2 < n) (nm : e ∉ es) (l : es.length ≠ 40) : GoodE n (es ++ [e]) :=
  ⟨fun x hx => by
    rcases List.mem_append.mp hx with hx | hx
    · exact g.node x hx
    · rw [List.mem_singleton.mp hx]; exact he, by
    rw [List.nodup_append]
    exact ⟨g.once, by simp, fun x hx y hy => by rw [List.mem_singleton.mp hy]; exact fun q => nm (q ▸ hx)⟩, by
    rw [List.length_append]
    have := g.few
    show es.length + 1 ≤ 40
    omega⟩
theorem tupsSnoc {H : Hp} {ts : List Addr} {es : List (Int × Int)} {t : Addr} {e : Int × Int} (h : TupsAt H ts es) (ht : H t = some (.tup [.int e.1, .int e.2])) : TupsAt H (ts ++ [t]) (es ++ [e]) := by
  refine ⟨by rw [List.length_append, List.length_append, h.1]; rfl, fun k u q => ?_⟩
  by_cases hl : k < ts.length
  · rw [List.getElem?_append_left hl] at q
    obtain ⟨o, h1, h2⟩ := h.2 k u q
    exact ⟨o, by rw [List.getElem?_append_left (by rw [← h.1]; exact hl)]; exact h1, h2⟩
  · rw [List.getElem?_append_right (by omega)] at q
    have hk : k = ts.length := by
      have := (List.getElem?_eq_some_iff.mp q).1
      simp at this
      omega
    subst hk
    rw [Nat.sub_self] at q
    obtain rfl := Option.some.inj q
    exact ⟨e, by rw [h.1, List.getElem?_append_right (Nat.le_refl _), Nat.sub_self]; rfl, ht⟩
def ParsedAt (CG : Addr) (H : Hp) (n : Nat) (es : List (Int × Int)) (xs : List Int) (g q : Addr) : Prop := ∃ es', GE CG H g n es' ∧ SrtE es' ∧ es'.Perm es ∧ H q = some (.lst (xs.map V.int))
def spParse (K : PySem.W.Frag) (CG CX' : Addr) : Sp := fun vs H Q E => ∃ (v : V) (d : PyData), vs = [v] ∧ Rd K H v d ∧ ((∀ t, d ≠ .str t) → told CX' (.int 0) H E) ∧ ∀ t, d = .str t → t.length ≤ 640 ∧
  (∀ k, parseM t = .error k → told CX' (.int (k : Int)) H E) ∧ ∀ n es xs, parseM t = .ok (n, es, xs) → ∀ (T g q : Addr) (H' : Hp), Same H H' → H T = none → H g = none → H q = none → H' T = some (.tup [.ref g, .ref q]) → ParsedAt CG H' n es xs g q → Q (.ref T) H'
section
variable {P : Program} {w : World} {K : PySem.W.Frag} {mg : Str → Option Value} {base : Heap} {CG CX' CS CM CE : Addr}
theorem sc_parse : FnScope ["text", "rows", "size", "edges", "place", "edge", "position", "row"] ["text"] (defScope s_parse_position) := ⟨rfl, rfl, rfl, by decide +kernel, rfl, by decide +kernel, by decide +kernel⟩
theorem ok_parse {f fI : Addr} {fd fdI : FuncData} (F : Fun K "parse_position" "parse_position" s_parse_position f fd) (M : Nms mg) (n_str : mg "str" = none) (T : GTxt K mg CG) {t40 : Tok} (m40 : mg "MOST_EDGES" = some (.int 40 t40)) (EX : Ex P w K mg base "InvalidText" CX') (tyEX : PySem.W.typeIn K (.ref CX') = some (.type "type"))
    (GSi : At P w K mg base CX0 4 "size_in" ["words"] spSizeIn) (GEd : At P w K mg base CX0 5 "edge_in" ["words", "size"] spEdgeIn) (GRd : At P w K mg base CX0 3 "read_numbers" ["words"] (spReadN K))
    (MK : Mk K CG fI) (GI : FnOk P w K mg base (L2.CX P w) 6 fI fdI ["self", "size", "edges"] (spGI01 K CG CS CM CE)) (bI : L2.Binds K fdI ["self", "size", "edges"] []) :
    FnOk P w K mg base (L2.CX P w) 8 f fd ["text"] (spParse K CG CX') := by
  obtain ⟨fSi, fdSi, GSi, mSi, kSi, bSi⟩ := GSi
  obtain ⟨fEd, fdEd, GEd, mEd, kEd, bEd⟩ := GEd
  obtain ⟨fRd, fdRd, GRd, mRd, kRd, bRd⟩ := GRd
  refine F.okX sc_parse (fun vs H Q E h => ?_) (fun cdv A' outer s H vs Q E hr h => ?_)
  · obtain ⟨v, d, rfl, _⟩ := h
    rfl
  · obtain ⟨v, d, rfl, hd, kbad, kt⟩ := h
    have nd := sc_parse.nd
    have hu65 : A'.units + 3 + 65 < cLine := by
      have := hr.un
      have z : A'.units + 3 + 16 * 7 + 200 < cLine := this
      show A'.units + 3 + 65 < _
      omega
    refine ⟨_, (pss_cons (ps_if (pt_not (pt_val (pe_callB call_isi (by rfl) M.isi boot_isi (pa_cons (pv 0) (pa_cons (pe_bltn (v := V.ty "str") rfl n_str (by decide +kernel) rfl) pa_nil))))) (pss_one (ps_raiseX rfl EX tyEX (hr.mono (by decide)) (takes_of rfl rfl rfl rfl) rfl (pa_cons pe_int pa_nil))) pss_nil)
      (pss_cons (ps_setLc (i := 1) (own := [("row", 7)]) (g := gName 7) (tt := tYes) (by rfl) nd rfl rfl (sw_true rfl rfl rfl (by decide +kernel)) (pi_list (pe_split (pv 0) pe_str)) (blkOk_by (own := [("row", 7)]) (N := ["text", "rows", "size", "edges", "place", "edge", "position", "row"]) (sc := defScope s_parse_position) (by decide +kernel)) (fun _ _ _ _ _ => pg_name (i := 7) nd rfl (Or.inl rfl)) (fun _ _ _ _ _ => pts_nil) (fun _ _ _ _ _ => (pe_split (pv 7) pe_str)))
      (pss_cons (ps_set (i := 2) nd rfl (Or.inl rfl) (pe_call GSi (hr.mono (by decide)) (by rfl) mSi kSi bSi .nil pass0 (pa_cons (pe_ix (r := rIxL K) ix_list (pv 1) pe_int (fun _ _ => rfl)) pa_nil)))
      (pss_cons (ps_if (pt_cmpR op_isN (pv 2) pe_non (nomark _)) (pss_one (ps_raiseX rfl EX tyEX (hr.mono (by decide)) (takes_of rfl rfl rfl rfl) rfl (pa_cons pe_int pa_nil))) pss_nil)
      (pss_cons (ps_set (i := 3) nd rfl (Or.inl rfl) (pe_lst pa_nil))
      (pss_cons (ps_set (i := 4) nd rfl (Or.inl rfl) pe_int)
      (pss_cons (ps_while PassesOwn.leaving (PW.pt (pw_and (pt_cmpR op_lt (pv 4) (pe_callB call_len_seq (by rfl) M.len boot_len1 (pa_cons (pv 1) pa_nil)) (nomark _)) (pw_and1 (pt_cmpR op_ne (pe_ix (r := rIxL K) ix_list (pe_ix (r := rIxL K) ix_list (pv 1) (pv 4) (fun _ _ => rfl)) pe_int (fun _ _ => rfl)) pe_str (nomark _))))) (pss_cons (ps_set (i := 5) nd rfl (Or.inl rfl) (pe_call GEd (hr.mono (by decide)) (by rfl) mEd kEd bEd .nil pass0 (pa_cons (pe_ix (r := rIxL K) ix_list (pv 1) (pv 4) (fun _ _ => rfl)) (pa_cons (pv 2) pa_nil))))
      (pss_cons (ps_if (PW.pt (pw_or (pt_cmpR op_isN (pv 5) pe_non (nomark _)) (pw_or (pt_cmpR (show OpR _ (compareOp .In) (rInD K) from op_inD hu65) (pv 5) (pv 3) (by with_unfolding_all rfl)) (pw_or1 (pt_cmpR op_eq (pe_callB call_len_seq (by rfl) M.len boot_len1 (pa_cons (pv 3) pa_nil)) (pe_glob (v := .int 40) (by rfl) m40 ⟨_, rfl⟩) (nomark _)))))) (pss_one (ps_raiseX rfl EX tyEX (hr.mono (by decide)) (takes_of rfl rfl rfl rfl) rfl (pa_cons (pv 4) pa_nil))) pss_nil)
      (pss_cons (ps_expr (pe_bm PySem.F.plainAttrs_list PySem.F.slot_list_append PySem.F.type_list_append mt_append (pv 3) (pa_cons (pv 5) pa_nil)))
      (pss_one (ps_aug (i := 4) nd rfl (Or.inl rfl) pe_int ip_add))))))
      (pss_cons (ps_if (pt_cmpR op_eq (pv 4) (pe_callB call_len_seq (by rfl) M.len boot_len1 (pa_cons (pv 1) pa_nil)) (nomark _)) (pss_one (ps_raiseX rfl EX tyEX (hr.mono (by decide)) (takes_of rfl rfl rfl rfl) rfl (pa_cons (pv 4) pa_nil))) pss_nil)
      (pss_cons (ps_set (i := 6) nd rfl (Or.inl rfl) (pe_call GRd (hr.mono (by decide)) (by rfl) mRd kRd bRd .nil pass0 (pa_cons (pe_slice sl_list (pe_ix (r := rIxL K) ix_list (pv 1) (pv 4) (fun _ _ => rfl)) (po_some pe_int) po_none) pa_nil)))
      (pss_cons (ps_if (PW.pt (pw_or (pt_cmpR op_isN (pv 6) pe_non (nomark _)) (pw_or1 (pt_cmpR op_ne (pe_callB call_len_seq (by rfl) M.len boot_len1 (pa_cons (pv 6) pa_nil)) (pv 2) (nomark _))))) (pss_one (ps_raiseX rfl EX tyEX (hr.mono (by decide)) (takes_of rfl rfl rfl rfl) rfl (pa_cons (pv 4) pa_nil))) pss_nil)
      (pss_cons (ps_if (pt_cmpR op_lt (pe_op op_add (pv 4) pe_int) (pe_callB call_len_seq (by rfl) M.len boot_len1 (pa_cons (pv 1) pa_nil)) (nomark _)) (pss_one (ps_raiseX rfl EX tyEX (hr.mono (by decide)) (takes_of rfl rfl rfl rfl) rfl (pa_cons (pe_op op_add (pv 4) pe_int) pa_nil))) pss_nil)
      (pss_one (ps_ret (pe_tup (pa_cons (pe_make MK GI (hr.mono (by decide)) (by rfl) T.mgC bI .nil (passes_call (E := E) (takes_of rfl rfl rfl rfl) (fun _ _ _ _ h => h)) (pa_cons (pv 2) (pa_cons (pv 3) pa_nil))) (pa_cons (pv 6) pa_nil)))))))))))))))), ?_⟩
    refine ⟨_, rfl, v, _, _, _, _, rfl, .ty _, rdTy hd, kitSt K d, _, rfl, ?_⟩
    by_cases c : ∃ t, d = .str t
    · obtain ⟨t, rfl⟩ := c
      obtain ⟨lt, ke, ko⟩ := kt t rfl
      obtain rfl : v = .str t := rdStr hd
      have big : (2000 : Nat) < sizeLine := by rw [sizeLine_eq]; decide
      have e1 : (("\n" : Str).length == 0) = false := by decide +kernel
      have e2 : ((" " : Str).length == 0) = false := by decide +kernel
      refine iteF ⟨_, rfl, ⟨_, rfl⟩, t, _, rfl, rfl, e1, by omega, fun lp nlp => ?_⟩
      obtain ⟨H1, q1, s1, hlp⟩ := newAt (.lst ((Txt.split t "\n").map V.str)) nlp
      rw [q1]
      have few := split_le t "\n"
      refine ⟨lp, rfl, ⟨_, SqL.of hlp⟩, fun ro nro => ?_⟩
      refine lc_list (K := K) (a := lp) (xs := (Txt.split t "\n").map V.str) (fun i G => Same H1 G ∧ ∃ rs : List Addr, G ro = some (.lst (rs.map V.ref)) ∧ rs.length = i ∧ ∀ (k : Nat) (a : Addr), rs[k]? = some a → a ≠ ro ∧ ∃ z, (Txt.split t "\n")[k]? = some z ∧ WdsAt G a (Txt.split z " "))
        ⟨same_upd nro, [], upd_same, rfl, fun k a e => by simp at e⟩ (fun i G _ h => h.1.seq (SqL.of hlp)) (fun i y G hy hP => ?_) (fun G hP => ?_)
      · obtain ⟨sG, rs, hro, lrs, hrs⟩ := hP
        obtain ⟨z, hz, rfl⟩ := refAt hy
        have hi := (List.getElem?_eq_some_iff.mp hz).1
        have lz := part_short (List.mem_of_getElem? hz)
        refine ⟨rfl, _, rfl, ⟨_, rfl⟩, z, _, rfl, rfl, e2, by omega, fun wp nwp => ?_⟩
        obtain ⟨G2, q2, s2, hwp⟩ := newAt (.lst ((Txt.split z " ").map V.str)) nwp
        rw [q2]
        have wro : wp ≠ ro := fun q => by rw [q, hro] at nwp; cases nwp
        refine ⟨_, s2 _ _ hro, by rw [List.length_map, lrs]; omega, fun u o e => ?_, rs ++ [wp], by rw [upd_same, List.map_append]; rfl, by rw [List.length_append, lrs]; rfl, fun k a e => ?_⟩
        · rw [upd_ne (ne_of_none e nro)]
          exact s2 _ _ (sG _ _ e)
        · have kp : ∀ {a : Addr} {ws : List Str}, a ≠ ro → WdsAt G2 a ws → WdsAt (upd G2 ro (.lst (rs.map V.ref ++ [V.ref wp]))) a ws := fun {a ws} n h => ⟨by rw [upd_ne n]; exact h.at_, h.ne, h.short, h.few⟩
          by_cases hk : k < rs.length
          · rw [List.getElem?_append_left hk] at e
            obtain ⟨n, z', z1, z2⟩ := hrs k a e
            exact ⟨n, z', z1, kp n (z2.same s2)⟩
          · rw [List.getElem?_append_right (by omega)] at e
            have hk0 : k - rs.length = 0 := by
              have := (List.getElem?_eq_some_iff.mp e).1
              simp at this
              omega
            rw [hk0] at e
            obtain rfl := Option.some.inj e
            have hk2 : k = i := by omega
            rw [hk2]
            exact ⟨wro, z, hz, kp wro (wdsSplit hwp (by omega))⟩
      · obtain ⟨sG, rs, hro, lrs, hrs⟩ := hP
        rw [List.length_map] at lrs
        have hL : LinesAt G ro (rowsT t) := ⟨rs, hro, by unfold rowsT; rw [List.length_map]; exact lrs, fun k a e => by
          obtain ⟨_, z, z1, z2⟩ := hrs k a e
          exact ⟨_, by unfold rowsT; rw [List.getElem?_map, z1]; rfl, z2⟩⟩
        have sH : Same H G := s1.trans sG
        have lrow : (rowsT t).length = (Txt.split t "\n").length := by unfold rowsT; rw [List.length_map]
        have pos : 1 ≤ (rowsT t).length := by rw [lrow]; exact split_pos _ _
        have h0 : (rowsT t)[0]? = some ((rowsT t).headD []) := by
          cases hr0 : rowsT t with
          | nil => rw [hr0] at pos; exact absurd pos (by decide)
          | cons r rs => rfl
        clear hro lrs hrs
        obtain ⟨rs, a0, hro, lrs, ha0, hw0⟩ := hL.get h0
        refine ⟨_, rfl, ro, _, (0 : Int), .ref a0, rfl, rfl, SqL.of hro, atI_nat (j := 0) ha0, a0, (rowsT t).headD [], rfl, hw0, fun e G2 s2 => ?_, fun n e G2 s2 => ?_⟩
        · have pe : parseM t = .error 0 := by unfold parseM; rw [e]
          refine ⟨_, rfl, rfl, _, rfl, ?_⟩
          rw [decide_eq_true rfl]
          refine iteT ⟨.int 0, rfl, fun dd H' nd' s3 hx => ?_⟩
          exact ke 0 pe H' dd ((sH.trans s2).trans s3) ((sH.trans s2).free nd') hx
        · refine ⟨_, rfl, rfl, _, rfl, ?_⟩
          rw [decide_eq_false (show ¬ V.int (n : Int) = V.non from fun z => by cases z)]
          refine iteF ⟨by show 0 ≤ sizeLine; decide, fun ea nea => ?_⟩
          obtain ⟨G3, q3, s3, hea⟩ := newAt (.lst []) nea
          rw [q3]
          have hL2 := hL.same s2
          have s02 := sH.trans s2
          have hn : 1 ≤ n ∧ n ≤ 16 := by
            unfold sizeIn at e
            split at e
            · split at e
              · rename_i c
                injection e with e
                have := c.2
                omega
              · cases e
            · cases e
          have pm : ∀ R, goR n (rowsT t).tail [] 1 = R → parseM t = (match R with | .error k => .error k | .ok r => .ok (n, r)) := fun R hR => by
            unfold parseM
            rw [e]
            dsimp only
            rw [hR]
          have nro : ro ≠ ea := fun q => by
            obtain ⟨rs', h1', _⟩ := hL2
            rw [q, nea] at h1'
            cases h1'
          refine ⟨fun m σ J => ∃ (pl : Nat) (es : List (Int × Int)) (ts : List Addr) (v5 v6 v7 : Option V), σ = [some (.str t), some (.ref ro), some (.int (n : Int)), some (.ref ea), some (.int (pl : Int)), v5, v6, v7] ∧ Same G2 J ∧ J ea = some (.lst (ts.map V.ref)) ∧ TupsAt J ts es ∧ GoodE n es ∧ 1 ≤ pl ∧ pl ≤ (rowsT t).length ∧ m = (rowsT t).length - pl ∧
            goR n ((rowsT t).drop pl) es pl = goR n (rowsT t).tail [] 1, ⟨_, 1, [], [], _, _, _, rfl, s3, hea, ⟨rfl, fun k t e => by simp at e⟩, ⟨fun e he => (by cases he), List.nodup_nil, Nat.zero_le _⟩, Nat.le_refl _, pos, rfl, by rw [← List.drop_one]⟩, ?_⟩
          rintro m σ J ⟨pl, es, ts, v5, v6, v7, rfl, sJ, hJe, hts, good, p1, p2, rfl, hgo⟩
          have hLJ := hL2.same sJ
          obtain ⟨rsJ, hroJ, lrsJ, _⟩ := id hLJ
          have sHJ := s02.trans sJ
          have errAt : ∀ k : Nat, goR n ((rowsT t).drop pl) es pl = .error k → ∀ J', Same J J' → ∀ dd H', J' dd = none → Same J' H' → H' dd = some (.xd [(("value" : Str), V.int (k : Int))]) → E (.ref CX') (some dd) H' := fun k hk J' sj dd H' nd' s' hx => by
            have : parseM t = .error k := pm (.error k) (hgo.symm.trans hk)
            exact ke k this H' dd ((sHJ.trans sj).trans s') ((sHJ.trans sj).free nd') hx
          refine ⟨_, rfl, _, rfl, ro, _, rfl, .inl (SqL.of hroJ), _, _, rfl, rfl, _, rfl, ?_⟩
          rw [List.length_map, lrsJ]
          by_cases cl : pl < (rowsT t).length
          · obtain ⟨r, hr⟩ : ∃ r, (rowsT t)[pl]? = some r := ⟨_, List.getElem?_eq_getElem cl⟩
            have hdr : (rowsT t).drop pl = r :: (rowsT t).drop (pl + 1) := by
              rw [List.drop_eq_getElem_cons cl, (List.getElem?_eq_some_iff.mp hr).2]
            obtain ⟨rs2, ar, hro2, lrs2, har, hwr⟩ := hLJ.get hr
            rw [decide_eq_true (show (pl : Int) < ((rowsT t).length : Int) by omega)]
            refine iteT ⟨_, rfl, _, rfl, ro, _, (pl : Int), .ref ar, rfl, rfl, SqL.of hro2, atI_nat har, ar, _, (0 : Int), _, rfl, rfl, SqL.of hwr.at_, atI_nat (j := 0) (headAt hwr.ne), rfl, _, rfl, ?_⟩
            by_cases cn : headS r = ("numbers" : Str)
            · rw [show (!decide (V.str (headS r) = V.str "numbers")) = false from neS' cn]
              refine iteF ⟨_, rfl, _, rfl, ro, _, rfl, .inl (SqL.of hroJ), rfl, _, rfl, ?_⟩
              rw [List.length_map, lrsJ, decide_eq_false (show ¬ V.int (pl : Int) = V.int ((rowsT t).length : Int) from fun z => by injection z with z; omega)]
              refine iteF ?_
              refine ⟨_, rfl, _, rfl, ro, _, (pl : Int), .ref ar, rfl, rfl, SqL.of hro2, atI_nat har, _, rfl, ar, _, rfl, SqL.of hwr.at_, fun wt nwt => ?_⟩
              rw [cutTl]
              obtain ⟨J1, j1, z1, hwt⟩ := newAt (.lst (r.tail.map V.str)) nwt
              rw [j1]
              have gN : ∀ R, (match readN r.tail with | some xs => if xs.length = n then (if (rowsT t).drop (pl + 1) = [] then .ok (es, xs) else .error (pl + 1)) else .error pl | none => .error pl) = R → goR n ((rowsT t).drop pl) es pl = R := fun R h => by
                rw [hdr]
                show (if headS r = ("numbers" : Str) then _ else _) = R
                rw [if_pos cn]
                exact h
              refine ⟨wt, r.tail, rfl, SqL.of hwt, fun z hz => hwr.short z (List.mem_of_mem_tail hz), by rw [List.length_tail]; have := hwr.few; omega, fun e3 J2 z2 => ?_, fun xs e3 q J2 nq z2 hq => ?_⟩
              · refine ⟨_, rfl, rfl, _, rfl, ?_⟩
                rw [decide_eq_true rfl]
                refine iteT (iteT ⟨_, rfl, .int (pl : Int), rfl, ?_⟩)
                exact errAt pl (gN _ (by rw [e3])) J2 (z1.trans z2)
              · refine ⟨_, rfl, rfl, _, rfl, ?_⟩
                rw [decide_eq_false (show ¬ V.ref q = V.non from fun z => by cases z)]
                refine iteF ⟨_, rfl, q, _, rfl, .inl (SqL.of hq), _, rfl, rfl, _, rfl, ?_⟩
                by_cases cx : xs.length = n
                · rw [show (!decide (V.int ((xs.map V.int).length : Int) = V.int (n : Int))) = false from by
                    rw [List.length_map, decide_eq_true (by rw [cx])]
                    rfl]
                  refine iteF ?_
                  have z12 := z1.trans z2
                  refine ⟨_, rfl, _, _, rfl, rfl, _, rfl, ro, _, rfl, .inl (SqL.of (z12 _ _ hroJ)), _, _, rfl, rfl, _, rfl, ?_⟩
                  rw [List.length_map, lrsJ]
                  by_cases cm : pl + 1 < (rowsT t).length
                  · rw [decide_eq_true (show (pl : Int) + 1 < ((rowsT t).length : Int) by omega)]
                    refine iteT ⟨_, rfl, _, _, rfl, rfl, .int ((pl + 1 : Nat) : Int), rfl, ?_⟩
                    refine errAt (pl + 1) (gN _ ?_) J2 z12
                    rw [e3]
                    dsimp only
                    rw [if_pos cx, if_neg fun h => by
                      have := List.drop_eq_nil_iff.mp h
                      omega]
                  · rw [decide_eq_false (show ¬ (pl : Int) + 1 < ((rowsT t).length : Int) by omega)]
                    have ok : parseM t = .ok (n, es, xs) := pm (.ok (es, xs)) (hgo.symm.trans (gN (.ok (es, xs)) (by
                      rw [e3]
                      dsimp only
                      rw [if_pos cx, if_pos (List.drop_eq_nil_iff.mpr (by omega))])))
                    refine iteF ⟨_, rfl, _, rfl, ?_⟩
                    intro g dxn nx ndx nex
                    have sx0 := preS (CG := CG) nx ndx nex
                    have hJ2 := z12 _ _ hJe
                    have hts2 := hts.same z12
                    refine ⟨g, dxn, _, .ref ea, rfl, upd_same, .inr ⟨n, rfl, hn.1, hn.2, .inr (.inr ⟨es, ⟨ea, ts, rfl, .inl (sx0 _ _ hJ2), hts2.same sx0, good.toU⟩, fun h => by have := good.few; omega, fun _ J3 jj nr N es' up hx' hj hN near pe sE' nj' nn => ⟨rfl, ?_⟩⟩)⟩⟩
                    obtain ⟨s23, ge⟩ := made nx ndx nex good.toU hn.1 hn.2 good.few up hx' hj hN near pe sE'
                    refine ⟨_, rfl, by show 2 ≤ sizeLine; decide, fun T nT => ?_⟩
                    obtain ⟨J4, j4, z4, hT⟩ := newAt (.tup [V.ref g, V.ref q]) nT
                    rw [j4]
                    have sAll := sHJ.trans z12
                    exact ko n es xs ok T g q J4 (sAll.trans (s23.trans z4)) (sAll.free (s23.free nT)) (sAll.free nx) ((sHJ.trans z1).free nq) hT ⟨es', ge.same z4, sE', by rw [ordMap good] at pe; exact pe, z4 _ _ (s23 _ _ hq)⟩
                · rw [show (!decide (V.int ((xs.map V.int).length : Int) = V.int (n : Int))) = true from by
                    rw [List.length_map, decide_eq_false (fun z => cx (by injection z with z; omega))]
                    rfl]
                  refine iteT ⟨_, rfl, .int (pl : Int), rfl, ?_⟩
                  refine errAt pl (gN _ ?_) J2 (z1.trans z2)
                  rw [e3]
                  dsimp only
                  rw [if_neg cx]
            · rw [show (!decide (V.str (headS r) = V.str "numbers")) = true from by rw [strNe' cn]; rfl]
              refine iteT ?_
              refine ⟨fun σ' J' => ∃ (es' : List (Int × Int)) (ts' : List Addr) (v5 v6 v7 : Option V), σ' = [some (.str t), some (.ref ro), some (.int (n : Int)), some (.ref ea), some (.int ((pl + 1 : Nat) : Int)), v5, v6, v7] ∧ Same G2 J' ∧ J' ea = some (.lst (ts'.map V.ref)) ∧ TupsAt J' ts' es' ∧ GoodE n es' ∧
                goR n ((rowsT t).drop (pl + 1)) es' (pl + 1) = goR n (rowsT t).tail [] 1, fun σ' J' ⟨es', ts', w5, w6, w7, hσ, i1, i2, i3, i4, i5⟩ => ⟨(rowsT t).length - (pl + 1), by omega, pl + 1, es', ts', w5, w6, w7, hσ, i1, i2, i3, i4, by omega, by omega, rfl, i5⟩, ?_⟩
              have gE : ∀ R, (match edgeIn r n with | some e => if e ∈ es ∨ es.length = 40 then .error pl else goR n ((rowsT t).drop (pl + 1)) (es ++ [e]) (pl + 1) | none => .error pl) = R → goR n ((rowsT t).drop pl) es pl = R := fun R h => by
                rw [hdr]
                show (if headS r = ("numbers" : Str) then _ else _) = R
                rw [if_neg cn]
                exact h
              refine ⟨_, rfl, _, rfl, ro, _, (pl : Int), .ref ar, rfl, rfl, SqL.of hro2, atI_nat har, _, rfl, ar, r, n, rfl, hwr, fun e3 J1 z1 => ?_, fun e3 he t1 J1 nt1 z1 ht1 => ?_⟩
              · refine ⟨_, rfl, rfl, _, rfl, ?_⟩
                rw [decide_eq_true rfl]
                refine iteT (iteT ⟨_, rfl, .int (pl : Int), rfl, ?_⟩)
                exact errAt pl (gE _ (by rw [e3])) J1 z1
              · refine ⟨_, rfl, rfl, _, rfl, ?_⟩
                rw [decide_eq_false (show ¬ V.ref t1 = V.non from fun z => by cases z)]
                have hJ1 := z1 _ _ hJe
                have hts1 := hts.same z1
                refine iteF ⟨_, rfl, _, rfl, pairD e3, es.map pairD, .tup (SqT.of ht1) (.cons (.int _) (.cons (.int _) .nil)), .lst (SqL.of hJ1) (dpTups hts1), rfl, shapedPairs _, _, rfl, ?_⟩
                by_cases cm : e3 ∈ es
                · rw [anyPairT cm]
                  refine iteT (iteT ⟨_, rfl, .int (pl : Int), rfl, ?_⟩)
                  exact errAt pl (gE _ (by rw [he]; exact if_pos (.inl cm))) J1 z1
                · rw [anyPair cm]
                  refine iteF ⟨_, rfl, ea, _, rfl, .inl (SqL.of hJ1), rfl, _, rfl, ?_⟩
                  by_cases c40 : es.length = 40
                  · rw [List.length_map, hts1.1, decide_eq_true (by rw [c40]; rfl)]
                    refine iteT ⟨_, rfl, .int (pl : Int), rfl, ?_⟩
                    exact errAt pl (gE _ (by rw [he]; exact if_pos (.inr c40))) J1 z1
                  · rw [List.length_map, hts1.1, decide_eq_false (show ¬ V.int (es.length : Int) = V.int 40 from fun z => c40 (by injection z with z; omega))]
                    refine iteF ⟨_, rfl, .inl ⟨rfl, _, SqL.of hJ1⟩, _, rfl, ea, _, _, rfl, rfl, hJ1, by rw [List.length_map, hts1.1]; have := good.few; omega, ?_⟩
                    obtain ⟨J2, j2⟩ : ∃ J2, upd J1 ea (.lst ((ts ++ [t1]).map V.ref)) = J2 := ⟨_, rfl⟩
                    have j2' : upd J1 ea (.lst (ts.map V.ref ++ [V.ref t1])) = J2 := by rw [← j2, List.map_append]; rfl
                    rw [j2']
                    have k2 : ∀ z o, z ≠ ea → J1 z = some o → J2 z = some o := fun z o nz e => by rw [← j2, upd_ne nz]; exact e
                    refine ⟨_, rfl, _, _, rfl, rfl, es ++ [e3], ts ++ [t1], _, _, _, rfl, fun z o e => k2 z o (ne_of_none e nea) (z1 _ _ (sJ z o e)), by rw [← j2, upd_same], ?_, goodSnocE good (edgeGood he) cm c40, ?_⟩
                    · refine tupsSnoc ⟨hts1.1, fun k u e => ?_⟩ (k2 _ _ (ne_of ht1 hJ1 (by intro q; cases q)) ht1)
                      obtain ⟨z, y1, y2⟩ := hts1.2 k u e
                      exact ⟨z, y1, k2 _ _ (ne_of y2 hJ1 (by intro q; cases q)) y2⟩
                    · rw [← hgo]
                      exact (gE _ (by rw [he]; exact if_neg fun h => h.elim cm c40)).symm
          · rw [decide_eq_false (show ¬ (pl : Int) < ((rowsT t).length : Int) by omega)]
            refine iteF ⟨_, rfl, _, rfl, ro, _, rfl, .inl (SqL.of hroJ), rfl, _, rfl, ?_⟩
            rw [List.length_map, lrsJ, decide_eq_true (show V.int (pl : Int) = V.int ((rowsT t).length : Int) from congrArg V.int (by omega))]
            refine iteT ⟨_, rfl, .int (pl : Int), rfl, ?_⟩
            refine errAt pl ?_ J (Same.refl J)
            rw [List.drop_eq_nil_of_le (by omega)]
            rfl
    · have no : ∀ t, d ≠ .str t := fun t e => c ⟨t, e⟩
      have kb := kbad no
      cases d <;> first | exact iteT ⟨.int 0, rfl, fun dd H' nd' s3 hx => kb H' dd s3 nd' hx⟩ | exact absurd rfl (no _)
end
end K81
set_option Elab.async false
set_option linter.all false
set_option maxRecDepth 100000
set_option maxHeartbeats 8000000
namespace K81
open PySem PySem.Spec PyProof.Rows L2 FNX
def lwords (r w : Str) : Option (List Int) := if headS (Txt.split r " ") = w then readN (Txt.split r " ").tail else none
def spLRead : Sp := fun vs H Q _ => ∃ w : Str, vs = [.str w] ∧ w.length ≤ 640 ∧ ∀ H', Same H H' → Q (if okW w = true then .int (numW w) else .non) H'
def spLWords : Sp := fun vs H Q _ => ∃ r w : Str, vs = [.str r, .str w] ∧ r.length ≤ 640 ∧ (lwords r w = none → ∀ H', Same H H' → Q .non H') ∧ ∀ xs, lwords r w = some xs → ∀ q H', H q = none → Same H H' → H' q = some (.lst (xs.map V.int)) → Q (.ref q) H'
def rdD (w : Str) : PyData := if okW w = true then .int (numW w) else .none
def rdV (w : Str) : V := if okW w = true then .int (numW w) else .non
theorem shapedRd (ws : List Str) : SeqAt.shaped (.list (ws.map rdD)) = true := by
  have h1 : ∀ w : Str, PyData.canLay0 (rdD w) = true ∧ PyData.depth (rdD w) = 0 := fun w => by
    unfold rdD
    split
    · exact ⟨rfl, by simp only [PyData.depth]⟩
    · exact ⟨rfl, by simp only [PyData.depth]⟩
  have h2 : ∀ ws : List Str, PyData.canLayAll0 (ws.map rdD) = true ∧ PyData.depthAll (ws.map rdD) = 0 := fun ws => by
    induction ws with
    | nil => exact ⟨rfl, rfl⟩
    | cons w ws ih =>
      refine ⟨?_, ?_⟩
      · show (PyData.canLay0 (rdD w) && PyData.canLayAll0 (ws.map rdD)) = true
        rw [(h1 w).1, ih.1]
        rfl
      · show max (PyData.depth (rdD w)) (PyData.depthAll (ws.map rdD)) = 0
        rw [(h1 w).2, ih.2]
        rfl
  unfold SeqAt.shaped
  rw [show PyData.canLay0 (.list (ws.map rdD)) = PyData.canLayAll0 (ws.map rdD) from rfl, (h2 ws).1, show PyData.depth (.list (ws.map rdD)) = PyData.depthAll (ws.map rdD) + 1 from by simp only [PyData.depth], (h2 ws).2]
  rfl
theorem dpRd {K : PySem.W.Frag} {H : Hp} : ∀ ws : List Str, DpAll K H (ws.map rdV) (ws.map rdD)
  | [] => .nil
  | w :: ws => by
    refine .cons ?_ (dpRd ws)
    show Dp K H (rdV w) (rdD w)
    unfold rdV rdD
    split
    · exact .int _
    · exact .non
theorem noneIn (ws : List Str) : ((ws.map rdD).any fun z => PyData.eqv z .none) = !ws.all okW := by
  induction ws with
  | nil => rfl
  | cons w ws ih =>
    rw [List.map_cons, List.any_cons, List.all_cons, ih, Bool.not_and]
    congr 1
    unfold rdD
    by_cases c : okW w = true
    · rw [if_pos c, c]
      rfl
    · rw [if_neg c, Bool.eq_false_iff.mpr c]
      rfl
section
variable {P : Program} {w : World} {K : PySem.W.Frag} {mg : Str → Option Value} {base : Heap}
theorem sc_lread : FnScope ["_law_word", "_law_signs", "_law_sign"] ["_law_word"] (defScope s__law_read) := ⟨rfl, rfl, rfl, by decide +kernel, rfl, by decide +kernel, by decide +kernel⟩
theorem ok_lread {f : Addr} {fd : FuncData} (F : Fun K "_law_read" "_law_read" s__law_read f fd) (M : Nms mg) : FnOk P w K mg base CX0 1 f fd ["_law_word"] spLRead := by
  refine F.ok sc_lread (fun vs H Q E h => ?_) (fun cdv A' outer s H vs Q E hr h => ?_)
  · obtain ⟨x, rfl, _⟩ := h
    rfl
  · obtain ⟨x, rfl, hl, k⟩ := h
    have nd := sc_lread.nd
    have hu64 : A'.units + 3 + 64 < cLine := hr.units
    have big : (640 : Nat) < sizeLine := by rw [sizeLine_eq]; decide
    refine ⟨_, (pss_cons (ps_set (i := 1) nd rfl (Or.inl rfl) (pe_ifExp (pt_cmpR op_eq (pe_slice sl_str (pv 0) po_none (po_some pe_int)) pe_str (nomark _)) (pe_slice sl_str (pv 0) (po_some pe_int) po_none) (pv 0)))
      (pss_cons (ps_if (PW.pt (pw_or (pt_cmpR op_eq (pv 1) pe_str (nomark _)) (pw_or1 (pt_cmpR (op_neNil hu64) (pe_lc (own := [("_law_sign", 2)]) (g := gName 2) rfl nd (pi_str (pv 1)) (blkOk_by (own := [("_law_sign", 2)]) (N := ["_law_word", "_law_signs", "_law_sign"]) (sc := defScope s__law_read) (by decide +kernel)) (fun _ _ _ _ _ => pg_name (i := 2) nd rfl (Or.inl rfl)) (fun _ _ _ _ _ => pts_one (pt_cmpR op_notIn_sign (pv 2) pe_str (by with_unfolding_all rfl))) (fun _ _ _ _ _ => (pv 2))) (pe_lst pa_nil) (nomark _))))) (pss_one (ps_ret pe_non)) pss_nil)
      (pss_cons (ps_if (PW.pt (pw_and (pt_cmpR op_eq (pe_ix ix_str (pv 1) pe_int (fun _ _ => rfl)) pe_str (nomark _)) (pw_and1 (pt_cmpR op_ne (pv 0) pe_str (nomark _))))) (pss_one (ps_ret pe_non)) pss_nil)
      (pss_one (ps_ret (pe_callTy call_int_str (by rfl) M.int (by decide +kernel) (pa_cons (pv 0) pa_nil))))))), ?_⟩
    refine ⟨_, rfl, _, rfl, x, rfl, by omega, rfl, _, rfl, ?_⟩
    rw [cut_minus]
    have dl := dgs_len x
    by_cases cs : Txt.startswith x "-" = true
    · rw [cs]
      refine iteT ⟨_, rfl, _, rfl, x, rfl, by omega, ?_⟩
      have hd : cutS x (some 1) none = dgs x := by unfold dgs; rw [if_pos cs]
      have hno : okW x = false → Q .non H ∧ ∀ H', Same H H' → Q .non H' := fun e => by
        have hk : ∀ H', Same H H' → Q .non H' := fun H' s => by
          have := k H' s
          rw [if_neg (by rw [e]; decide)] at this
          exact this
        exact ⟨hk H (Same.refl H), hk⟩
      refine ⟨_, rfl, rfl, _, rfl, ?_⟩
      by_cases c0 : cutS x (some 1) none = ("" : Str)
      · rw [decide_eq_true (congrArg V.str c0)]
        exact iteT (iteT (hno (by unfold okW; rw [← hd, decide_eq_true c0]; rfl)).1)
      · rw [strNe' c0]
        refine iteF ⟨_, rfl, _, rfl, fun D nD => ?_⟩
        refine lc_it walk_str (fun i G => Same H G ∧ G D = some (.lst ((((cutS x (some 1) none).cps.toList.take i).filter fun c => !isDg c).map fun c => V.str ⟨#[c]⟩))) ⟨same_upd nD, upd_same⟩ (fun _ _ _ _ => True.intro) (fun i y G G' hi hP hy => ?_) (fun G hP => ?_)
        · obtain ⟨sG, hD⟩ := hP
          obtain ⟨rfl, cc, hc, rfl⟩ := hy
          have hc' : (cutS x (some 1) none).cps.toList[i]? = some cc := by rw [Array.getElem?_toList]; exact hc
          have tk : (cutS x (some 1) none).cps.toList.take (i + 1) = (cutS x (some 1) none).cps.toList.take i ++ [cc] := by rw [List.take_add_one, hc']; rfl
          refine ⟨rfl, _, rfl, cc, _, rfl, rfl, _, rfl, ?_⟩
          have ei : decide (cc ∈ ("0123456789" : Str).cps.toList) = isDg cc := rfl
          by_cases di : isDg cc = true
          · rw [ei, di]
            refine iteF ⟨sG, ?_⟩
            rw [tk, List.filter_append, show [cc].filter (fun c => !isDg c) = [] from by simp [di], List.append_nil]
            exact hD
          · rw [ei, Bool.eq_false_iff.mpr di]
            refine iteT ⟨_, rfl, _, hD, ?_, fun z o e => ?_, ?_⟩
            · rw [List.length_map]
              have l1 := List.length_filter_le (fun c => !isDg c) ((cutS x (some 1) none).cps.toList.take i)
              have l2 := List.length_take_le i (cutS x (some 1) none).cps.toList
              have l3 : (cutS x (some 1) none).cps.toList.length = (cutS x (some 1) none).length := lenL _
              have l4 : (cutS x (some 1) none).length ≤ x.length := by have h1 := dl; have h2 := congrArg Str.length hd; omega
              have l5 : (cutS x (some 1) none).cps.size = (cutS x (some 1) none).length := rfl
              omega
            · rw [upd_ne (ne_of_none e nD)]
              exact sG _ _ e
            · rw [upd_same, tk, List.filter_append, show [cc].filter (fun c => !isDg c) = [cc] from by simp [di], List.map_append]
              rfl
        · obtain ⟨sG, hD⟩ := hP
          have tl : (cutS x (some 1) none).cps.toList.take (cutS x (some 1) none).cps.size = (cutS x (some 1) none).cps.toList := List.take_of_length_le (by rw [Array.length_toList]; exact Nat.le_refl _)
          rw [tl] at hD
          refine ⟨by show 0 ≤ sizeLine; decide, fun nl nnl => ?_⟩
          obtain ⟨G2, q2, s2, hnl⟩ := newAt (.lst []) nnl
          rw [q2]
          have s02 := sG.trans s2
          refine ⟨D, nl, _, rfl, rfl, SqL.of (s2 _ _ hD), SqL.of hnl, _, rfl, ?_⟩
          have ea : (((cutS x (some 1) none).cps.toList.filter fun c => !isDg c).map fun c => V.str ⟨#[c]⟩).isEmpty = (cutS x (some 1) none).cps.toList.all isDg := by
            induction (cutS x (some 1) none).cps.toList with
            | nil => rfl
            | cons c cs ih =>
              by_cases di : isDg c = true
              · rw [List.filter_cons_of_neg (by simp [di]), ih, List.all_cons, di, Bool.true_and]
              · rw [List.filter_cons_of_pos (by simp [di]), List.all_cons, Bool.eq_false_iff.mpr di, Bool.false_and]
                rfl
          rw [ea]
          by_cases al : (cutS x (some 1) none).cps.toList.all isDg = true
          · rw [al]
            refine iteF ?_
            have hne : (cutS x (some 1) none).cps.toList ≠ [] := fun e => c0 (strExt (by rw [e]; rfl))
            cases hh : (cutS x (some 1) none).cps.toList with
            | nil => exact absurd hh hne
            | cons d0 ds =>
              have e48 : decide (V.str (⟨#[d0]⟩ : Str) = V.str "0") = decide (some d0 = some 48) := by
                by_cases q : d0 = 48
                · rw [q]; rfl
                · have n1 : ¬ (V.str (⟨#[d0]⟩ : Str) = V.str "0") := fun h => q (by
                    injection h with h
                    have e1 : (⟨#[d0]⟩ : Str).cps.toList = ("0" : Str).cps.toList := by rw [h]
                    have e2 : ("0" : Str).cps.toList = [48] := by decide +kernel
                    rw [e2] at e1
                    injection e1)
                  have n2 : ¬ (some d0 = some 48) := fun h => q (Option.some.inj h)
                  rw [decide_eq_false n1, decide_eq_false n2]
              have ok : okW x = (decide (x = ("0" : Str)) || !decide (some d0 = some 48)) := by
                unfold okW
                rw [← hd, decide_eq_false c0, al, hh]
                rfl
              refine ⟨_, rfl, cutS x (some 1) none, 0, d0, rfl, rfl, ?_, by rw [hh]; exact atI_nat (j := 0) rfl, rfl, _, rfl, ?_⟩
              · have l4 : (cutS x (some 1) none).length ≤ x.length := by have h1 := dl; have h2 := congrArg Str.length hd; omega
                have l5 : (cutS x (some 1) none).cps.size = (cutS x (some 1) none).length := rfl
                omega
              rw [e48]
              have good : okW x = true → Q (.int (numW x)) G2 := fun e => by
                have := k G2 s02
                rw [if_pos e] at this
                exact this
              by_cases q : some d0 = some 48
              · rw [decide_eq_true q] at ok ⊢
                refine iteT ⟨_, rfl, rfl, _, rfl, ?_⟩
                by_cases z : x = ("0" : Str)
                · rw [show (!decide (V.str x = V.str "0")) = false from neS' z]
                  have o : okW x = true := ok.trans (by simp [z])
                  exact iteF ⟨_, rfl, x, _, rfl, (okW_int o hl).1, hl, good o⟩
                · rw [show (!decide (V.str x = V.str "0")) = true from by rw [strNe' z]; rfl]
                  exact iteT ((hno (ok.trans (by rw [decide_eq_false z]; rfl))).2 G2 s02)
              · rw [decide_eq_false q] at ok ⊢
                have o : okW x = true := ok.trans (by simp)
                exact iteF (iteF ⟨_, rfl, x, _, rfl, (okW_int o hl).1, hl, good o⟩)
          · rw [Bool.eq_false_iff.mpr al]
            refine iteT ((hno ?_).2 G2 s02)
            unfold okW
            rw [← hd, Bool.eq_false_iff.mpr al]
            simp
    · rw [Bool.eq_false_iff.mpr cs]
      refine iteF ⟨_, rfl, ?_⟩
      have hd : x = dgs x := by unfold dgs; rw [if_neg cs]
      have hno : okW x = false → Q .non H ∧ ∀ H', Same H H' → Q .non H' := fun e => by
        have hk : ∀ H', Same H H' → Q .non H' := fun H' s => by
          have := k H' s
          rw [if_neg (by rw [e]; decide)] at this
          exact this
        exact ⟨hk H (Same.refl H), hk⟩
      refine ⟨_, rfl, rfl, _, rfl, ?_⟩
      by_cases c0 : x = ("" : Str)
      · rw [decide_eq_true (congrArg V.str c0)]
        exact iteT (iteT (hno (by unfold okW; rw [← hd, decide_eq_true c0]; rfl)).1)
      · rw [strNe' c0]
        refine iteF ⟨_, rfl, _, rfl, fun D nD => ?_⟩
        refine lc_it walk_str (fun i G => Same H G ∧ G D = some (.lst ((((x).cps.toList.take i).filter fun c => !isDg c).map fun c => V.str ⟨#[c]⟩))) ⟨same_upd nD, upd_same⟩ (fun _ _ _ _ => True.intro) (fun i y G G' hi hP hy => ?_) (fun G hP => ?_)
        · obtain ⟨sG, hD⟩ := hP
          obtain ⟨rfl, cc, hc, rfl⟩ := hy
          have hc' : (x).cps.toList[i]? = some cc := by rw [Array.getElem?_toList]; exact hc
          have tk : (x).cps.toList.take (i + 1) = (x).cps.toList.take i ++ [cc] := by rw [List.take_add_one, hc']; rfl
          refine ⟨rfl, _, rfl, cc, _, rfl, rfl, _, rfl, ?_⟩
          have ei : decide (cc ∈ ("0123456789" : Str).cps.toList) = isDg cc := rfl
          by_cases di : isDg cc = true
          · rw [ei, di]
            refine iteF ⟨sG, ?_⟩
            rw [tk, List.filter_append, show [cc].filter (fun c => !isDg c) = [] from by simp [di], List.append_nil]
            exact hD
          · rw [ei, Bool.eq_false_iff.mpr di]
            refine iteT ⟨_, rfl, _, hD, ?_, fun z o e => ?_, ?_⟩
            · rw [List.length_map]
              have l1 := List.length_filter_le (fun c => !isDg c) ((x).cps.toList.take i)
              have l2 := List.length_take_le i (x).cps.toList
              have l3 : (x).cps.toList.length = (x).length := lenL _
              have l4 : (x).length ≤ x.length := by have h1 := dl; have h2 := congrArg Str.length hd; omega
              have l5 : (x).cps.size = (x).length := rfl
              omega
            · rw [upd_ne (ne_of_none e nD)]
              exact sG _ _ e
            · rw [upd_same, tk, List.filter_append, show [cc].filter (fun c => !isDg c) = [cc] from by simp [di], List.map_append]
              rfl
        · obtain ⟨sG, hD⟩ := hP
          have tl : (x).cps.toList.take (x).cps.size = (x).cps.toList := List.take_of_length_le (by rw [Array.length_toList]; exact Nat.le_refl _)
          rw [tl] at hD
          refine ⟨by show 0 ≤ sizeLine; decide, fun nl nnl => ?_⟩
          obtain ⟨G2, q2, s2, hnl⟩ := newAt (.lst []) nnl
          rw [q2]
          have s02 := sG.trans s2
          refine ⟨D, nl, _, rfl, rfl, SqL.of (s2 _ _ hD), SqL.of hnl, _, rfl, ?_⟩
          have ea : (((x).cps.toList.filter fun c => !isDg c).map fun c => V.str ⟨#[c]⟩).isEmpty = (x).cps.toList.all isDg := by
            induction (x).cps.toList with
            | nil => rfl
            | cons c cs ih =>
              by_cases di : isDg c = true
              · rw [List.filter_cons_of_neg (by simp [di]), ih, List.all_cons, di, Bool.true_and]
              · rw [List.filter_cons_of_pos (by simp [di]), List.all_cons, Bool.eq_false_iff.mpr di, Bool.false_and]
                rfl
          rw [ea]
          by_cases al : (x).cps.toList.all isDg = true
          · rw [al]
            refine iteF ?_
            have hne : (x).cps.toList ≠ [] := fun e => c0 (strExt (by rw [e]; rfl))
            cases hh : (x).cps.toList with
            | nil => exact absurd hh hne
            | cons d0 ds =>
              have e48 : decide (V.str (⟨#[d0]⟩ : Str) = V.str "0") = decide (some d0 = some 48) := by
                by_cases q : d0 = 48
                · rw [q]; rfl
                · have n1 : ¬ (V.str (⟨#[d0]⟩ : Str) = V.str "0") := fun h => q (by
                    injection h with h
                    have e1 : (⟨#[d0]⟩ : Str).cps.toList = ("0" : Str).cps.toList := by rw [h]
                    have e2 : ("0" : Str).cps.toList = [48] := by decide +kernel
                    rw [e2] at e1
                    injection e1)
                  have n2 : ¬ (some d0 = some 48) := fun h => q (Option.some.inj h)
                  rw [decide_eq_false n1, decide_eq_false n2]
              have ok : okW x = (decide (x = ("0" : Str)) || !decide (some d0 = some 48)) := by
                unfold okW
                rw [← hd, decide_eq_false c0, al, hh]
                rfl
              refine ⟨_, rfl, x, 0, d0, rfl, rfl, ?_, by rw [hh]; exact atI_nat (j := 0) rfl, rfl, _, rfl, ?_⟩
              · have l4 : (x).length ≤ x.length := by have h1 := dl; have h2 := congrArg Str.length hd; omega
                have l5 : (x).cps.size = (x).length := rfl
                omega
              rw [e48]
              have good : okW x = true → Q (.int (numW x)) G2 := fun e => by
                have := k G2 s02
                rw [if_pos e] at this
                exact this
              by_cases q : some d0 = some 48
              · rw [decide_eq_true q] at ok ⊢
                refine iteT ⟨_, rfl, rfl, _, rfl, ?_⟩
                by_cases z : x = ("0" : Str)
                · rw [show (!decide (V.str x = V.str "0")) = false from neS' z]
                  have o : okW x = true := ok.trans (by simp [z])
                  exact iteF ⟨_, rfl, x, _, rfl, (okW_int o hl).1, hl, good o⟩
                · rw [show (!decide (V.str x = V.str "0")) = true from by rw [strNe' z]; rfl]
                  exact iteT ((hno (ok.trans (by rw [decide_eq_false z]; rfl))).2 G2 s02)
              · rw [decide_eq_false q] at ok ⊢
                have o : okW x = true := ok.trans (by simp)
                exact iteF (iteF ⟨_, rfl, x, _, rfl, (okW_int o hl).1, hl, good o⟩)
          · rw [Bool.eq_false_iff.mpr al]
            refine iteT ((hno ?_).2 G2 s02)
            unfold okW
            rw [← hd, Bool.eq_false_iff.mpr al]
            simp
theorem sc_lwords : FnScope ["_law_row", "_law_word", "_law_words_here", "_law_found", "_law_one"] ["_law_row", "_law_word"] (defScope s__law_words) := ⟨rfl, rfl, rfl, by decide +kernel, rfl, by decide +kernel, by decide +kernel⟩
theorem ok_lwords {f : Addr} {fd : FuncData} (F : Fun K "_law_words" "_law_words" s__law_words f fd) (M : Nms mg) (GRe : At P w K mg base CX0 1 "_law_read" ["_law_word"] spLRead) : FnOk P w K mg base CX0 2 f fd ["_law_row", "_law_word"] spLWords := by
  obtain ⟨fRe, fdRe, GRe, mRe, kRe, bRe⟩ := GRe
  refine F.ok sc_lwords (fun vs H Q E h => ?_) (fun cdv A' outer s H vs Q E hr h => ?_)
  · obtain ⟨r, x, rfl, _⟩ := h
    rfl
  · obtain ⟨r, x, rfl, hl, k0, k1⟩ := h
    have nd := sc_lwords.nd
    have hu65 : A'.units + 3 + 65 < cLine := by
      have := hr.un
      have z : A'.units + 3 + 16 * 1 + 200 < cLine := this
      show A'.units + 3 + 65 < _
      omega
    have big : (2000 : Nat) < sizeLine := by rw [sizeLine_eq]; decide
    have e2 : ((" " : Str).length == 0) = false := by decide +kernel
    refine ⟨_, (pss_cons (ps_set (i := 2) nd rfl (Or.inl rfl) (pe_split (pv 0) pe_str))
      (pss_cons (ps_setLc (i := 3) (own := [("_law_one", 4)]) (g := gName 4) (tt := tYes) (by rfl) nd rfl rfl (sw_true rfl rfl rfl (by decide +kernel)) (pi_list (pe_slice sl_list (pv 2) (po_some pe_int) po_none)) (blkOk_by (own := [("_law_one", 4)]) (N := ["_law_row", "_law_word", "_law_words_here", "_law_found", "_law_one"]) (sc := defScope s__law_words) (by decide +kernel)) (fun _ _ _ _ _ => pg_name (i := 4) nd rfl (Or.inl rfl)) (fun _ _ _ _ _ => pts_nil) (fun _ _ _ _ _ => (pe_call GRe (hr.mono (by decide)) (by rfl) mRe kRe bRe .nil pass0 (pa_cons (pv 4) pa_nil))))
      (pss_one (ps_ret (pe_ifExp (PW.pt (pw_or (pt_cmpR op_ne (pe_ix (r := rIxL K) ix_list (pv 2) pe_int (fun _ _ => rfl)) (pv 1) (nomark _)) (pw_or1 (pt_cmpR (show OpR _ (compareOp .In) (rInD K) from op_inD hu65) pe_non (pv 3) (by with_unfolding_all rfl))))) pe_non (pv 3)))))), ?_⟩
    refine ⟨_, rfl, ⟨_, rfl⟩, r, _, rfl, rfl, e2, by omega, fun wp nwp => ?_⟩
    obtain ⟨H1, q1, s1, hwp⟩ := newAt (.lst ((Txt.split r " ").map V.str)) nwp
    rw [q1]
    have hw := wdsSplit hwp hl
    refine ⟨_, rfl, _, rfl, wp, _, rfl, SqL.of hwp, fun tp ntp => ?_⟩
    rw [cutTl]
    obtain ⟨H2, q2, s2, htp⟩ := newAt (.lst ((Txt.split r " ").tail.map V.str)) ntp
    rw [q2]
    have s02 := s1.trans s2
    refine ⟨tp, rfl, ⟨_, SqL.of htp⟩, fun D nD => ?_⟩
    refine lc_list (K := K) (a := tp) (xs := (Txt.split r " ").tail.map V.str) (fun i G => Same H2 G ∧ G D = some (.lst (((Txt.split r " ").tail.take i).map rdV))) ⟨same_upd nD, upd_same⟩ (fun i G _ h => h.1.seq (SqL.of htp)) (fun i y G hy hP => ?_) (fun G hP => ?_)
    · obtain ⟨sG, hD⟩ := hP
      obtain ⟨z, hz, rfl⟩ := refAt hy
      have hm := List.mem_of_mem_tail (List.mem_of_getElem? hz)
      refine ⟨rfl, _, rfl, z, rfl, hw.short z hm, fun G2 s3 => ?_⟩
      refine ⟨_, s3 _ _ hD, ?_, fun u o e => ?_, ?_⟩
      · rw [List.length_map, List.length_take, List.length_tail]
        have := hw.few
        omega
      · rw [upd_ne (ne_of_none e nD)]
        exact s3 _ _ (sG _ _ e)
      · rw [upd_same, List.take_add_one, hz, List.map_append]
        rfl
    · obtain ⟨sG, hD⟩ := hP
      rw [List.length_map, List.take_length] at hD
      have hwG := (hw.same s2).same sG
      have s0G := s02.trans sG
      refine ⟨_, rfl, wp, _, (0 : Int), _, rfl, rfl, SqL.of hwG.at_, atI_nat (j := 0) (headAt hwG.ne), _, rfl, rfl, _, rfl, ?_⟩
      by_cases c : headS (Txt.split r " ") = x
      · rw [show (!decide (V.str (headS (Txt.split r " ")) = V.str x)) = false from neS' c]
        refine iteF ⟨_, rfl, .none, _, .non, .lst (SqL.of hD) (dpRd _), rfl, shapedRd _, _, rfl, ?_⟩
        rw [noneIn]
        by_cases al : (Txt.split r " ").tail.all okW = true
        · rw [al]
          have e : lwords r x = some ((Txt.split r " ").tail.map numW) := by
            unfold lwords readN
            rw [if_pos c, if_pos al]
          refine iteF ⟨_, rfl, k1 _ e D G (s02.free nD) s0G ?_⟩
          rw [hD, List.map_map]
          refine congrArg some (congrArg HO.lst (List.map_congr_left fun z hz => ?_))
          show rdV z = V.int (numW z)
          unfold rdV
          rw [if_pos (List.all_eq_true.mp al z hz)]
        · rw [Bool.eq_false_iff.mpr al]
          have e : lwords r x = none := by
            unfold lwords readN
            rw [if_pos c, if_neg al]
          exact iteT (k0 e G s0G)
      · rw [show (!decide (V.str (headS (Txt.split r " ")) = V.str x)) = true from by rw [strNe' c]; rfl]
        have e : lwords r x = none := by unfold lwords; rw [if_neg c]
        exact iteT (iteT (k0 e G s0G))
end
end K81
set_option Elab.async false
set_option linter.all false
set_option maxRecDepth 100000
set_option maxHeartbeats 8000000
namespace K81
open PySem PySem.Spec PyProof.Rows L2 FNX
theorem edgeInv {n : Nat} {a b : Int} (h : isEdgeD n (pairD (a, b)) = true) : 0 ≤ a ∧ a < n ∧ 0 ≤ b ∧ b < n ∧ a ≠ b := by
  have hb : (isNode n (.int a) && isNode n (.int b) && !PyData.eqv (.int a) (.int b)) = true := h
  rw [Bool.and_eq_true, Bool.and_eq_true, Bool.not_eq_true'] at hb
  obtain ⟨⟨h1, h2⟩, h3⟩ := hb
  have g1 : (decide ((0 : Int) ≤ a) && decide (a ≤ (n : Int) - 1)) = true := h1
  have g2 : (decide ((0 : Int) ≤ b) && decide (b ≤ (n : Int) - 1)) = true := h2
  rw [Bool.and_eq_true, decide_eq_true_eq, decide_eq_true_eq] at g1 g2
  have ne : a ≠ b := fun q => by
    rw [q] at h3
    have := eqvSame (d := .int b) rfl
    rw [h3] at this
    cases this
  omega
def Res81 (CG : Addr) (H : Hp) (q : Addr) (R : Except Nat (Nat × List (Int × Int) × List Int)) : Prop := match R with
  | .error k => H q = some (.lst [.str "no", .int (k : Int)])
  | .ok (n, es, xs) => ∃ g x, H q = some (.lst [.str "told", .ref g, .ref x]) ∧ ParsedAt CG H n es xs g x
def spDue81 (K : PySem.W.Frag) (CG : Addr) : Sp := fun vs H Q _ => ∃ t : Str, vs = [.str t] ∧ t.length ≤ 640 ∧ ∀ q H', H q = none → Same H H' → Res81 CG H' q (parseM t) → Q (.ref q) H'
section
variable {P : Program} {w : World} {K : PySem.W.Frag} {mg : Str → Option Value} {base : Heap} {CG CS CM CE : Addr}
theorem sc_due81 : FnScope ["_law_text", "_law_rows", "_law_first", "_law_many", "_law_joins_here", "_law_at", "_law_found", "_law_edge"] ["_law_text"] (defScope s__law_due) := ⟨rfl, rfl, rfl, by decide +kernel, rfl, by decide +kernel, by decide +kernel⟩
theorem ok_due81 {f fI : Addr} {fd fdI : FuncData} (F : Fun K "_law_due" "_law_due" s__law_due f fd) (M : Nms mg) (T : GTxt K mg CG) (GWd : At P w K mg base CX0 2 "_law_words" ["_law_row", "_law_word"] spLWords)
    (MK : Mk K CG fI) (GI : FnOk P w K mg base (L2.CX P w) 6 fI fdI ["self", "size", "edges"] (spGI01 K CG CS CM CE)) (bI : L2.Binds K fdI ["self", "size", "edges"] []) :
    FnOk P w K mg base CX0 8 f fd ["_law_text"] (spDue81 K CG) := by
  obtain ⟨fWd, fdWd, GWd, mWd, kWd, bWd⟩ := GWd
  refine F.ok sc_due81 (fun vs H Q E h => ?_) (fun cdv A' outer s H vs Q E hr h => ?_)
  · obtain ⟨t, rfl, _⟩ := h
    rfl
  · obtain ⟨t, rfl, lt, kq⟩ := h
    have nd := sc_due81.nd
    have hu65 : A'.units + 3 + 65 < cLine := by
      have := hr.un
      have z : A'.units + 3 + 16 * 7 + 200 < cLine := this
      show A'.units + 3 + 65 < _
      omega
    have big : (2000 : Nat) < sizeLine := by rw [sizeLine_eq]; decide
    have e1 : (("\n" : Str).length == 0) = false := by decide +kernel
    refine ⟨_, (pss_cons (ps_set (i := 1) nd rfl (Or.inl rfl) (pe_split (pv 0) pe_str))
      (pss_cons (ps_set (i := 2) nd rfl (Or.inl rfl) (pe_call GWd (hr.mono (by decide)) (by rfl) mWd kWd bWd .nil pass0 (pa_cons (pe_ix (r := rIxL K) ix_list (pv 1) pe_int (fun _ _ => rfl)) (pa_cons pe_str pa_nil))))
      (pss_cons (ps_if (PW.pt (pw_or (pt_cmpR op_isN (pv 2) pe_non (nomark _)) (pw_or (pt_cmpR op_ne (pe_callB call_len_seq (by rfl) M.len boot_len1 (pa_cons (pv 2) pa_nil)) pe_int (nomark _)) (pw_or1 (pt_not (pt_chain op_le op_le pe_int (pe_ix (r := rIxL K) ix_list (pv 2) pe_int (fun _ _ => rfl)) pe_int)))))) (pss_one (ps_ret (pe_lst (pa_cons pe_str (pa_cons pe_int pa_nil))))) pss_nil)
      (pss_cons (ps_par (i := 3) (j := 4) (by rfl) nd rfl rfl (by decide) rfl rfl (pa_cons (pe_ix (r := rIxL K) ix_list (pv 2) pe_int (fun _ _ => rfl)) (pa_cons (pe_lst pa_nil) pa_nil)) (by rfl))
      (pss_cons (ps_for PassesOwn.never rfl (pi_range2 rfl M.range (pa_cons pe_int (pa_cons (pe_callB call_len_seq (by rfl) M.len boot_len1 (pa_cons (pv 1) pa_nil)) pa_nil))) (pg_name (i := 5) nd rfl (Or.inl rfl)) (pss_cons (ps_set (i := 6) nd rfl (Or.inl rfl) (pe_call GWd (hr.mono (by decide)) (by rfl) mWd kWd bWd .nil pass0 (pa_cons (pe_ix (r := rIxL K) ix_list (pv 1) (pv 5) (fun _ _ => rfl)) (pa_cons pe_str pa_nil))))
      (pss_cons (ps_if (PW.pt (pw_and (pt_cmpR op_notN (pv 6) pe_non (nomark _)) (pw_and1 (pt_cmpR op_eq (pe_callB call_len_seq (by rfl) M.len boot_len1 (pa_cons (pv 6) pa_nil)) (pv 3) (nomark _))))) (pss_one (ps_ret (pe_ifExp (pt_cmpR op_lt (pe_op op_add (pv 5) pe_int) (pe_callB call_len_seq (by rfl) M.len boot_len1 (pa_cons (pv 1) pa_nil)) (nomark _)) (pe_lst (pa_cons pe_str (pa_cons (pe_op op_add (pv 5) pe_int) pa_nil))) (pe_lst (pa_cons pe_str (pa_cons (pe_make MK GI (hr.mono (by decide)) (by rfl) T.mgC bI .nil passL (pa_cons (pv 3) (pa_cons (pv 4) pa_nil))) (pa_cons (pv 6) pa_nil))))))) pss_nil)
      (pss_cons (ps_set (i := 6) nd rfl (Or.inl rfl) (pe_call GWd (hr.mono (by decide)) (by rfl) mWd kWd bWd .nil pass0 (pa_cons (pe_ix (r := rIxL K) ix_list (pv 1) (pv 5) (fun _ _ => rfl)) (pa_cons pe_str pa_nil))))
      (pss_cons (ps_if (PW.pt (pw_or (pt_cmpR op_isN (pv 6) pe_non (nomark _)) (pw_or (pt_cmpR op_ne (pe_callB call_len_seq (by rfl) M.len boot_len1 (pa_cons (pv 6) pa_nil)) pe_int (nomark _)) (pw_or (pt_cmpR op_lt (pe_callB (show CallR _ (.builtin "min") (rMin K) from cr_min rfl) (by rfl) M.min boot_min1 (pa_cons (pv 6) pa_nil)) pe_int (nomark _)) (pw_or (pt_cmpR op_ge (pe_callB (show CallR _ (.builtin "max") (rMax K) from cr_max rfl) (by rfl) M.max boot_max1 (pa_cons (pv 6) pa_nil)) (pv 3) (nomark _)) (pw_or1 (pt_cmpR op_eq (pe_ix (r := rIxL K) ix_list (pv 6) pe_int (fun _ _ => rfl)) (pe_ix (r := rIxL K) ix_list (pv 6) pe_int (fun _ _ => rfl)) (nomark _)))))))) (pss_one (ps_ret (pe_lst (pa_cons pe_str (pa_cons (pv 5) pa_nil))))) pss_nil)
      (pss_cons (ps_set (i := 7) nd rfl (Or.inl rfl) (pe_tup (pa_cons (pe_callB (show CallR _ (.builtin "min") (rMin K) from cr_min rfl) (by rfl) M.min boot_min1 (pa_cons (pv 6) pa_nil)) (pa_cons (pe_callB (show CallR _ (.builtin "max") (rMax K) from cr_max rfl) (by rfl) M.max boot_max1 (pa_cons (pv 6) pa_nil)) pa_nil))))
      (pss_cons (ps_if (PW.pt (pw_or (pt_cmpR (show OpR _ (compareOp .In) (rInD K) from op_inD hu65) (pv 7) (pv 4) (by with_unfolding_all rfl)) (pw_or1 (pt_cmpR op_eq (pe_callB call_len_seq (by rfl) M.len boot_len1 (pa_cons (pv 4) pa_nil)) pe_int (nomark _))))) (pss_one (ps_ret (pe_lst (pa_cons pe_str (pa_cons (pv 5) pa_nil))))) pss_nil)
      (pss_one (ps_expr (pe_bm PySem.F.plainAttrs_list PySem.F.slot_list_append PySem.F.type_list_append mt_append (pv 4) (pa_cons (pv 7) pa_nil)))))))))))
      (pss_one (ps_ret (pe_lst (pa_cons pe_str (pa_cons (pe_callB call_len_seq (by rfl) M.len boot_len1 (pa_cons (pv 1) pa_nil)) pa_nil)))))))))), ?_⟩
    refine ⟨_, rfl, ⟨_, rfl⟩, t, _, rfl, rfl, e1, by omega, fun lp nlp => ?_⟩
    obtain ⟨H1, q1, s1, hlp⟩ := newAt (.lst ((Txt.split t "\n").map V.str)) nlp
    rw [q1]
    have few := split_le t "\n"
    have lrow : (rowsT t).length = (Txt.split t "\n").length := by unfold rowsT; rw [List.length_map]
    have pos := split_pos t "\n"
    have shortR : ∀ z ∈ Txt.split t "\n", z.length ≤ 640 := fun z hz => Nat.le_trans (part_short hz) lt
    obtain ⟨z0, hz0⟩ : ∃ z, (Txt.split t "\n")[0]? = some z := ⟨_, List.getElem?_eq_getElem (by omega)⟩
    have hr0 : (rowsT t).headD [] = Txt.split z0 " " := by
      unfold rowsT
      cases hs : Txt.split t "\n" with
      | nil => rw [hs] at hz0; cases hz0
      | cons a as =>
        rw [hs] at hz0
        obtain rfl := Option.some.inj hz0
        rfl
    have strAt : ∀ {k : Nat} {z : Str}, (Txt.split t "\n")[k]? = some z → ((Txt.split t "\n").map V.str)[k]? = some (V.str z) := fun {k z} e => by rw [List.getElem?_map, e]; rfl
    have bad0 : sizeIn (Txt.split z0 " ") = none → parseM t = .error 0 := fun e => by unfold parseM; rw [hr0, e]
    have no0 : ∀ {H2 : Hp}, Same H H2 → sizeIn (Txt.split z0 " ") = none → ∀ q, H2 q = none → Q (.ref q) (upd H2 q (.lst [.str "no", .int 0])) := fun {H2} s e q nq => kq q _ (s.free nq) (s.trans (same_upd nq)) (by rw [bad0 e]; exact upd_same)
    refine ⟨_, rfl, lp, _, (0 : Int), _, rfl, rfl, SqL.of hlp, atI_nat (j := 0) (strAt hz0), z0, _, rfl, shortR z0 (List.mem_of_getElem? hz0), fun e H2 s2 => ?_, fun xs e q H2 nq s2 hq => ?_⟩
    · have no : sizeIn (Txt.split z0 " ") = none := by
        unfold lwords at e
        unfold sizeIn
        by_cases c : headS (Txt.split z0 " ") = ("graph" : Str)
        · rw [if_pos c] at e
          rw [e]
        · split
          · exact if_neg fun h => c h.1
          · rfl
      refine ⟨_, rfl, rfl, _, rfl, ?_⟩
      rw [decide_eq_true rfl]
      exact iteT (iteT ⟨by show 2 ≤ sizeLine; decide, fun q nq => no0 (s1.trans s2) no q nq⟩)
    · have s02 := s1.trans s2
      have hgr : headS (Txt.split z0 " ") = ("graph" : Str) ∧ readN (Txt.split z0 " ").tail = some xs := by
        unfold lwords at e
        by_cases c : headS (Txt.split z0 " ") = ("graph" : Str)
        · rw [if_pos c] at e
          exact ⟨c, e⟩
        · rw [if_neg c] at e
          cases e
      refine ⟨_, rfl, rfl, _, rfl, ?_⟩
      rw [decide_eq_false (show ¬ V.ref q = V.non from fun z => by cases z)]
      refine iteF ⟨_, rfl, q, _, rfl, .inl (SqL.of hq), rfl, _, rfl, ?_⟩
      by_cases l1 : xs.length = 1
      · obtain ⟨z, rfl⟩ : ∃ z, xs = [z] := by
          match xs, l1 with
          | [z], _ => exact ⟨z, rfl⟩
        refine iteF ⟨_, rfl, q, _, (0 : Int), _, rfl, rfl, SqL.of hq, atI_nat (j := 0) rfl, _, _, rfl, rfl, _, rfl, ?_⟩
        by_cases b : 1 ≤ z ∧ z ≤ 16
        · rw [decide_eq_true b.1]
          refine iteT ⟨_, _, rfl, rfl, _, rfl, ?_⟩
          rw [decide_eq_true b.2]
          obtain ⟨n, rfl⟩ : ∃ n : Nat, z = (n : Int) := ⟨z.toNat, by omega⟩
          have yes : sizeIn (Txt.split z0 " ") = some n := by
            unfold sizeIn
            rw [hgr.2]
            exact if_pos ⟨hgr.1, b⟩
          have hn : 1 ≤ n ∧ n ≤ 16 := by omega
          refine iteF ?_
          have pm : ∀ R, goR n (rowsT t).tail [] 1 = R → parseM t = (match R with | .error k => .error k | .ok r => .ok (n, r)) := fun R hR => by
            unfold parseM
            rw [hr0, yes]
            dsimp only
            subst hR
            generalize goR n (rowsT t).tail [] 1 = R
            cases R <;> rfl
          refine ⟨_, rfl, q, _, (0 : Int), _, rfl, rfl, SqL.of hq, atI_nat (j := 0) rfl, by show 0 ≤ sizeLine; decide, fun ea nea => ?_⟩
          obtain ⟨H3, q3, s3, hea⟩ := newAt (.lst []) nea
          rw [q3]
          refine ⟨_, _, rfl, ?_⟩
          have hlp3 := (s2.trans s3) _ _ hlp
          refine ⟨_, rfl, lp, _, rfl, .inl (SqL.of hlp3), _, _, rfl, ⟨by decide, by decide, by rw [List.length_map]; omega, by rw [List.length_map]; omega⟩, for_range (lo := 1) (fun i σ J => ∃ (es : List (Int × Int)) (ts : List Addr) (v5 v6 v7 : Option V), σ = [some (.str t), some (.ref lp), some (.ref q), some (.int (n : Int)), some (.ref ea), v5, v6, v7] ∧ Same H2 J ∧ J ea = some (.lst (ts.map V.ref)) ∧ TupsAt J ts es ∧ GoodE n es ∧
            goR n ((rowsT t).drop (i + 1)) es (i + 1) = goR n (rowsT t).tail [] 1) ⟨[], [], _, _, _, rfl, s3, hea, ⟨rfl, fun k t e => by simp at e⟩, ⟨fun e he => (by cases he), List.nodup_nil, Nat.zero_le _⟩, by rw [← List.drop_one]⟩ (fun i σ J hi hG => ?_) (fun σ J hG => ?_)⟩
          · obtain ⟨es, ts, v5, v6, v7, rfl, sJ, hJe, hts, good, hgo⟩ := hG
            rw [List.length_map] at hi
            have hi1 : i + 1 < (Txt.split t "\n").length := by omega
            obtain ⟨z, hz⟩ : ∃ z, (Txt.split t "\n")[i + 1]? = some z := ⟨_, List.getElem?_eq_getElem hi1⟩
            have hrz : (rowsT t)[i + 1]? = some (Txt.split z " ") := by unfold rowsT; rw [List.getElem?_map, hz]; rfl
            have hdr : (rowsT t).drop (i + 1) = Txt.split z " " :: (rowsT t).drop (i + 2) := by
              rw [List.drop_eq_getElem_cons (by omega), (List.getElem?_eq_some_iff.mp hrz).2]
            have hlpJ := (s2.trans s3) _ _ hlp
            have hlpJ : J lp = some (.lst ((Txt.split t "\n").map V.str)) := sJ _ _ (s2 _ _ hlp)
            have s0J := s02.trans sJ
            have szz := shortR z (List.mem_of_getElem? hz)
            have ei : (1 : Int) + (i : Int) = ((i + 1 : Nat) : Int) := by omega
            have errAt : ∀ k : Nat, goR n ((rowsT t).drop (i + 1)) es (i + 1) = .error k → ∀ J', Same J J' → ∀ q', J' q' = none → Q (.ref q') (upd J' q' (.lst [.str "no", .int (k : Int)])) := fun k hk J' sj q' nq' => by
              have : parseM t = .error k := pm (.error k) (hgo.symm.trans hk)
              exact kq q' _ ((s0J.trans sj).free nq') ((s0J.trans sj).trans (same_upd nq')) (by rw [this]; exact upd_same)
            rw [ei]
            refine ⟨_, rfl, _, rfl, lp, _, ((i + 1 : Nat) : Int), _, rfl, rfl, SqL.of hlpJ, atI_nat (strAt hz), z, _, rfl, szz, fun e3 J1 s1' => ?_, fun xs e3 f1 J1 nf1 s1' hf1 => ?_⟩
            · have hN : headS (Txt.split z " ") = ("numbers" : Str) → goR n ((rowsT t).drop (i + 1)) es (i + 1) = .error (i + 1) := fun cn => by
                unfold lwords at e3
                rw [if_pos cn] at e3
                rw [hdr]
                show (if headS (Txt.split z " ") = ("numbers" : Str) then _ else _) = _
                rw [if_pos cn, e3]
              refine ⟨_, rfl, rfl, _, rfl, ?_⟩
              rw [show (!decide (V.non = V.non)) = false from by rw [decide_eq_true rfl]; rfl]
              refine iteF (iteF ?_)
              have gE : ∀ R, headS (Txt.split z " ") ≠ ("numbers" : Str) → (match edgeIn (Txt.split z " ") n with | some e => if e ∈ es ∨ es.length = 40 then .error (i + 1) else goR n ((rowsT t).drop (i + 2)) (es ++ [e]) (i + 2) | none => .error (i + 1)) = R → goR n ((rowsT t).drop (i + 1)) es (i + 1) = R := fun R cn h => by
                rw [hdr]
                show (if headS (Txt.split z " ") = ("numbers" : Str) then _ else _) = R
                rw [if_neg cn]
                exact h
              have noE : edgeIn (Txt.split z " ") n = none → goR n ((rowsT t).drop (i + 1)) es (i + 1) = .error (i + 1) := fun e => by
                by_cases cn : headS (Txt.split z " ") = ("numbers" : Str)
                · exact hN cn
                · exact gE _ cn (by rw [e])
              refine ⟨_, rfl, _, rfl, lp, _, ((i + 1 : Nat) : Int), _, rfl, rfl, SqL.of (s1' _ _ hlpJ), atI_nat (strAt hz), z, _, rfl, szz, fun e4 J2 s2' => ?_, fun ys e4 f2 J2 nf2 s2' hf2 => ?_⟩
              · have sJ2 := Same.trans s1' s2'
                have no : edgeIn (Txt.split z " ") n = none := by
                  unfold lwords at e4
                  unfold edgeIn
                  by_cases c : headS (Txt.split z " ") = ("edge" : Str)
                  · rw [if_pos c] at e4
                    rw [e4]
                  · split
                    · exact if_neg fun h => c h.1
                    · rfl
                refine ⟨_, rfl, rfl, _, rfl, ?_⟩
                rw [decide_eq_true rfl]
                exact iteT (iteT ⟨_, rfl, by show 2 ≤ sizeLine; decide, fun q' nq' => errAt (i + 1) (noE no) J2 sJ2 q' nq'⟩)
              · have sJ2 := Same.trans s1' s2'
                obtain ⟨he, hrd⟩ : headS (Txt.split z " ") = ("edge" : Str) ∧ readN (Txt.split z " ").tail = some ys := by
                  unfold lwords at e4
                  by_cases c : headS (Txt.split z " ") = ("edge" : Str)
                  · rw [if_pos c] at e4
                    exact ⟨c, e4⟩
                  · rw [if_neg c] at e4
                    cases e4
                have cn : headS (Txt.split z " ") ≠ ("numbers" : Str) := fun h => by
                  rw [h] at he
                  exact absurd he (by decide +kernel)
                refine ⟨_, rfl, rfl, _, rfl, ?_⟩
                rw [decide_eq_false (show ¬ V.ref f2 = V.non from fun z => by cases z)]
                refine iteF ⟨_, rfl, f2, _, rfl, .inl (SqL.of hf2), rfl, _, rfl, ?_⟩
                by_cases l2 : ys.length = 2
                · obtain ⟨a, b, rfl⟩ : ∃ a b, ys = [a, b] := by
                    match ys, l2 with
                    | [a, b], _ => exact ⟨a, b, rfl⟩
                  have eIn : ∀ c : Bool, isEdgeD n (pairD (a, b)) = c → edgeIn (Txt.split z " ") n = (if c = true then some (ordP (a, b)) else none) := fun c hc => by
                    unfold edgeIn
                    rw [hrd]
                    dsimp only
                    rw [hc]
                    by_cases q : c = true
                    · rw [if_pos q, if_pos ⟨he, q⟩]
                    · rw [if_neg q, if_neg fun h => q h.2]
                  have bad : ¬ (0 ≤ a ∧ a < n ∧ 0 ≤ b ∧ b < n ∧ a ≠ b) → ∀ q', J2 q' = none → Q (.ref q') (upd J2 q' (.lst [.str "no", .int ((i + 1 : Nat) : Int)])) := fun h q' nq' =>
                    errAt (i + 1) (noE ((eIn false (Bool.eq_false_iff.mpr fun y => h (edgeInv y))).trans rfl)) J2 sJ2 q' nq'
                  refine iteF ⟨_, rfl, f2, [a, b], rfl, SqL.of hf2, Nat.succ_pos _, fun mn m1 m2 => ⟨_, _, rfl, rfl, _, rfl, ?_⟩⟩
                  by_cases c1 : mn < 0
                  · rw [decide_eq_true c1]
                    refine iteT (iteT ⟨_, rfl, by show 2 ≤ sizeLine; decide, bad fun h => ?_⟩)
                    simp only [List.mem_cons, List.not_mem_nil, or_false] at m1
                    omega
                  · rw [decide_eq_false c1]
                    refine iteF ⟨_, rfl, f2, [a, b], rfl, SqL.of hf2, Nat.succ_pos _, fun mx m3 m4 => ⟨_, rfl, _, _, rfl, rfl, _, rfl, ?_⟩⟩
                    by_cases c2 : mx ≥ (n : Int)
                    · rw [decide_eq_true c2]
                      refine iteT (iteT ⟨_, rfl, by show 2 ≤ sizeLine; decide, bad fun h => ?_⟩)
                      simp only [List.mem_cons, List.not_mem_nil, or_false] at m3
                      omega
                    · rw [decide_eq_false c2]
                      refine iteF ⟨_, rfl, f2, _, (0 : Int), _, rfl, rfl, SqL.of hf2, atI_nat (j := 0) rfl, _, rfl, f2, _, (1 : Int), _, rfl, rfl, SqL.of hf2, atI_nat (j := 1) rfl, rfl, _, rfl, ?_⟩
                      by_cases c3 : a = b
                      · rw [decide_eq_true (congrArg V.int c3)]
                        exact iteT ⟨_, rfl, by show 2 ≤ sizeLine; decide, bad fun h => h.2.2.2.2 c3⟩
                      · rw [decide_eq_false (show ¬ V.int a = V.int b from fun q => c3 (by injection q))]
                        have a1 := m2 a (by simp)
                        have a2 := m2 b (by simp)
                        have a3 := m4 a (by simp)
                        have a4 := m4 b (by simp)
                        have good2 : 0 ≤ a ∧ a < n ∧ 0 ≤ b ∧ b < n ∧ a ≠ b := ⟨by omega, by omega, by omega, by omega, c3⟩
                        have hyes := eIn true (isEdgePair (e := (a, b)) good2)
                        rw [if_pos rfl] at hyes
                        refine iteF ⟨_, rfl, f2, [a, b], rfl, SqL.of hf2, Nat.succ_pos _, fun mn' m5 m6 => ⟨_, rfl, f2, [a, b], rfl, SqL.of hf2, Nat.succ_pos _, fun mx' m7 m8 => ?_⟩⟩
                        obtain ⟨q1', q2'⟩ := minmax2 m5 m6 m7 m8
                        rw [q1', q2']
                        refine ⟨by show 2 ≤ sizeLine; decide, fun t1 nt1 => ?_⟩
                        obtain ⟨J3, j3, s3', ht1⟩ := newAt (.tup [V.int (ordP (a, b)).1, V.int (ordP (a, b)).2]) nt1
                        rw [j3]
                        have sJ3 := sJ2.trans s3'
                        have hJ3 := sJ3 _ _ hJe
                        have hts3 := hts.same sJ3
                        refine ⟨_, rfl, _, rfl, pairD (ordP (a, b)), es.map pairD, .tup (SqT.of ht1) (.cons (.int _) (.cons (.int _) .nil)), .lst (SqL.of hJ3) (dpTups hts3), rfl, shapedPairs _, _, rfl, ?_⟩
                        by_cases cm : ordP (a, b) ∈ es
                        · rw [anyPairT cm]
                          exact iteT (iteT ⟨_, rfl, by show 2 ≤ sizeLine; decide, errAt (i + 1) (gE _ cn (by rw [hyes]; exact if_pos (.inl cm))) J3 sJ3⟩)
                        · rw [anyPair cm]
                          refine iteF ⟨_, rfl, ea, _, rfl, .inl (SqL.of hJ3), rfl, _, rfl, ?_⟩
                          by_cases c40 : es.length = 40
                          · rw [List.length_map, hts3.1, decide_eq_true (by rw [c40]; rfl)]
                            exact iteT ⟨_, rfl, by show 2 ≤ sizeLine; decide, errAt (i + 1) (gE _ cn (by rw [hyes]; exact if_pos (.inr c40))) J3 sJ3⟩
                          · rw [List.length_map, hts3.1, decide_eq_false (show ¬ V.int (es.length : Int) = V.int 40 from fun z => c40 (by injection z with z; omega))]
                            refine iteF ⟨_, rfl, .inl ⟨rfl, _, SqL.of hJ3⟩, _, rfl, ea, _, _, rfl, rfl, hJ3, by rw [List.length_map, hts3.1]; have := good.few; omega, ?_⟩
                            obtain ⟨J4, j4⟩ : ∃ J4, upd J3 ea (.lst ((ts ++ [t1]).map V.ref)) = J4 := ⟨_, rfl⟩
                            have j4' : upd J3 ea (.lst (ts.map V.ref ++ [V.ref t1])) = J4 := by rw [← j4, List.map_append]; rfl
                            rw [j4']
                            have k4 : ∀ z o, z ≠ ea → J3 z = some o → J4 z = some o := fun z o nz e => by rw [← j4, upd_ne nz]; exact e
                            refine ⟨es ++ [ordP (a, b)], ts ++ [t1], _, _, _, rfl, fun z o e => k4 z o (ne_of_none e nea) (sJ3 _ _ (sJ z o e)), by rw [← j4, upd_same], ?_, goodSnocE good (edgeGood hyes) cm c40, ?_⟩
                            · refine tupsSnoc ⟨hts3.1, fun k u e => ?_⟩ (k4 _ _ (ne_of ht1 hJ3 (by intro q; cases q)) ht1)
                              obtain ⟨z, y1, y2⟩ := hts3.2 k u e
                              exact ⟨z, y1, k4 _ _ (ne_of y2 hJ3 (by intro q; cases q)) y2⟩
                            · rw [← hgo]
                              exact (gE _ cn (by rw [hyes]; exact if_neg fun h => h.elim cm c40)).symm
                · have no : edgeIn (Txt.split z " ") n = none := by
                    unfold edgeIn
                    rw [hrd]
                    match ys, l2 with
                    | [], _ => rfl
                    | [_], _ => rfl
                    | _ :: _ :: _ :: _, _ => rfl
                  rw [show (!decide (V.int ((ys.map V.int).length : Int) = V.int 2)) = true from by
                    rw [List.length_map, decide_eq_false (fun z => l2 (by injection z with z; omega))]
                    rfl]
                  exact iteT (iteT ⟨_, rfl, by show 2 ≤ sizeLine; decide, fun q' nq' => errAt (i + 1) (noE no) J2 sJ2 q' nq'⟩)
            · obtain ⟨cnum, hrn⟩ : headS (Txt.split z " ") = ("numbers" : Str) ∧ readN (Txt.split z " ").tail = some xs := by
                unfold lwords at e3
                by_cases c : headS (Txt.split z " ") = ("numbers" : Str)
                · rw [if_pos c] at e3
                  exact ⟨c, e3⟩
                · rw [if_neg c] at e3
                  cases e3
              have gN : ∀ R, (if xs.length = n then (if (rowsT t).drop (i + 2) = [] then .ok (es, xs) else .error (i + 2)) else .error (i + 1)) = R → goR n ((rowsT t).drop (i + 1)) es (i + 1) = R := fun R h => by
                rw [hdr]
                show (if headS (Txt.split z " ") = ("numbers" : Str) then _ else _) = R
                rw [if_pos cnum, hrn]
                exact h
              refine ⟨_, rfl, rfl, _, rfl, ?_⟩
              rw [show (!decide (V.ref f1 = V.non)) = true from by rw [decide_eq_false (fun z => by cases z)]; rfl]
              refine iteT ⟨_, rfl, f1, _, rfl, .inl (SqL.of hf1), _, rfl, rfl, _, rfl, ?_⟩
              by_cases cx : xs.length = n
              · rw [List.length_map, decide_eq_true (show V.int (xs.length : Int) = V.int (n : Int) by rw [cx])]
                refine iteT ⟨_, rfl, _, _, rfl, rfl, _, rfl, lp, _, rfl, .inl (SqL.of (s1' _ _ hlpJ)), _, _, rfl, rfl, _, rfl, ?_⟩
                rw [List.length_map]
                by_cases cm : i + 2 < (Txt.split t "\n").length
                · rw [decide_eq_true (show ((i + 1 : Nat) : Int) + 1 < ((Txt.split t "\n").length : Int) by omega)]
                  refine iteT ⟨_, rfl, _, _, rfl, rfl, by show 2 ≤ sizeLine; decide, fun q' nq' => ?_⟩
                  refine errAt (i + 2) (gN _ ?_) J1 s1' q' nq'
                  rw [if_pos cx, if_neg fun h => by
                    have := List.drop_eq_nil_iff.mp h
                    omega]
                · rw [decide_eq_false (show ¬ ((i + 1 : Nat) : Int) + 1 < ((Txt.split t "\n").length : Int) by omega)]
                  have ok : parseM t = .ok (n, es, xs) := pm (.ok (es, xs)) (hgo.symm.trans (gN (.ok (es, xs)) (by
                    rw [if_pos cx, if_pos (List.drop_eq_nil_iff.mpr (by omega))])))
                  refine iteF ⟨_, rfl, _, rfl, ?_⟩
                  intro g dxn nx ndx nex
                  have sx0 := preS (CG := CG) nx ndx nex
                  have hJ2 := s1' _ _ hJe
                  have hts2 := hts.same s1'
                  refine ⟨g, dxn, _, .ref ea, rfl, upd_same, .inr ⟨n, rfl, hn.1, hn.2, .inr (.inr ⟨es, ⟨ea, ts, rfl, .inl (sx0 _ _ hJ2), hts2.same sx0, good.toU⟩, fun h => by have := good.few; omega, fun _ J3 jj nr N es' up hx' hj hN near pe sE' nj' nn => ⟨rfl, ?_⟩⟩)⟩⟩
                  obtain ⟨s23, ge⟩ := made nx ndx nex good.toU hn.1 hn.2 good.few up hx' hj hN near pe sE'
                  refine ⟨_, rfl, by show 3 ≤ sizeLine; decide, fun q' nq' => ?_⟩
                  obtain ⟨J4, j4, z4, hq'⟩ := newAt (.lst [V.str "told", V.ref g, V.ref f1]) nq'
                  rw [j4]
                  have sAll := s0J.trans s1'
                  refine kq q' J4 (sAll.free (s23.free nq')) (sAll.trans (s23.trans z4)) ?_
                  rw [ok]
                  exact ⟨g, f1, hq', es', ge.same z4, sE', by rw [ordMap good] at pe; exact pe, z4 _ _ (s23 _ _ hf1)⟩
              · rw [List.length_map, decide_eq_false (show ¬ V.int (xs.length : Int) = V.int (n : Int) from fun z => cx (by injection z with z; omega))]
                refine iteF ?_
                have hN : headS (Txt.split z " ") = ("numbers" : Str) → goR n ((rowsT t).drop (i + 1)) es (i + 1) = .error (i + 1) := fun _ => gN _ (by rw [if_neg cx])
                have gE : ∀ R, headS (Txt.split z " ") ≠ ("numbers" : Str) → (match edgeIn (Txt.split z " ") n with | some e => if e ∈ es ∨ es.length = 40 then .error (i + 1) else goR n ((rowsT t).drop (i + 2)) (es ++ [e]) (i + 2) | none => .error (i + 1)) = R → goR n ((rowsT t).drop (i + 1)) es (i + 1) = R := fun R cn h => by
                  rw [hdr]
                  show (if headS (Txt.split z " ") = ("numbers" : Str) then _ else _) = R
                  rw [if_neg cn]
                  exact h
                have noE : edgeIn (Txt.split z " ") n = none → goR n ((rowsT t).drop (i + 1)) es (i + 1) = .error (i + 1) := fun e => by
                  by_cases cn : headS (Txt.split z " ") = ("numbers" : Str)
                  · exact hN cn
                  · exact gE _ cn (by rw [e])
                refine ⟨_, rfl, _, rfl, lp, _, ((i + 1 : Nat) : Int), _, rfl, rfl, SqL.of (s1' _ _ hlpJ), atI_nat (strAt hz), z, _, rfl, szz, fun e4 J2 s2' => ?_, fun ys e4 f2 J2 nf2 s2' hf2 => ?_⟩
                · have sJ2 := Same.trans s1' s2'
                  have no : edgeIn (Txt.split z " ") n = none := by
                    unfold lwords at e4
                    unfold edgeIn
                    by_cases c : headS (Txt.split z " ") = ("edge" : Str)
                    · rw [if_pos c] at e4
                      rw [e4]
                    · split
                      · exact if_neg fun h => c h.1
                      · rfl
                  refine ⟨_, rfl, rfl, _, rfl, ?_⟩
                  rw [decide_eq_true rfl]
                  exact iteT (iteT ⟨_, rfl, by show 2 ≤ sizeLine; decide, fun q' nq' => errAt (i + 1) (noE no) J2 sJ2 q' nq'⟩)
                · have sJ2 := Same.trans s1' s2'
                  obtain ⟨he, hrd⟩ : headS (Txt.split z " ") = ("edge" : Str) ∧ readN (Txt.split z " ").tail = some ys := by
                    unfold lwords at e4
                    by_cases c : headS (Txt.split z " ") = ("edge" : Str)
                    · rw [if_pos c] at e4
                      exact ⟨c, e4⟩
                    · rw [if_neg c] at e4
                      cases e4
                  have cn : headS (Txt.split z " ") ≠ ("numbers" : Str) := fun h => by
                    rw [h] at he
                    exact absurd he (by decide +kernel)
                  refine ⟨_, rfl, rfl, _, rfl, ?_⟩
                  rw [decide_eq_false (show ¬ V.ref f2 = V.non from fun z => by cases z)]
                  refine iteF ⟨_, rfl, f2, _, rfl, .inl (SqL.of hf2), rfl, _, rfl, ?_⟩
                  by_cases l2 : ys.length = 2
                  · obtain ⟨a, b, rfl⟩ : ∃ a b, ys = [a, b] := by
                      match ys, l2 with
                      | [a, b], _ => exact ⟨a, b, rfl⟩
                    have eIn : ∀ c : Bool, isEdgeD n (pairD (a, b)) = c → edgeIn (Txt.split z " ") n = (if c = true then some (ordP (a, b)) else none) := fun c hc => by
                      unfold edgeIn
                      rw [hrd]
                      dsimp only
                      rw [hc]
                      by_cases q : c = true
                      · rw [if_pos q, if_pos ⟨he, q⟩]
                      · rw [if_neg q, if_neg fun h => q h.2]
                    have bad : ¬ (0 ≤ a ∧ a < n ∧ 0 ≤ b ∧ b < n ∧ a ≠ b) → ∀ q', J2 q' = none → Q (.ref q') (upd J2 q' (.lst [.str "no", .int ((i + 1 : Nat) : Int)])) := fun h q' nq' =>
                      errAt (i + 1) (noE ((eIn false (Bool.eq_false_iff.mpr fun y => h (edgeInv y))).trans rfl)) J2 sJ2 q' nq'
                    refine iteF ⟨_, rfl, f2, [a, b], rfl, SqL.of hf2, Nat.succ_pos _, fun mn m1 m2 => ⟨_, _, rfl, rfl, _, rfl, ?_⟩⟩
                    by_cases c1 : mn < 0
                    · rw [decide_eq_true c1]
                      refine iteT (iteT ⟨_, rfl, by show 2 ≤ sizeLine; decide, bad fun h => ?_⟩)
                      simp only [List.mem_cons, List.not_mem_nil, or_false] at m1
                      omega
                    · rw [decide_eq_false c1]
                      refine iteF ⟨_, rfl, f2, [a, b], rfl, SqL.of hf2, Nat.succ_pos _, fun mx m3 m4 => ⟨_, rfl, _, _, rfl, rfl, _, rfl, ?_⟩⟩
                      by_cases c2 : mx ≥ (n : Int)
                      · rw [decide_eq_true c2]
                        refine iteT (iteT ⟨_, rfl, by show 2 ≤ sizeLine; decide, bad fun h => ?_⟩)
                        simp only [List.mem_cons, List.not_mem_nil, or_false] at m3
                        omega
                      · rw [decide_eq_false c2]
                        refine iteF ⟨_, rfl, f2, _, (0 : Int), _, rfl, rfl, SqL.of hf2, atI_nat (j := 0) rfl, _, rfl, f2, _, (1 : Int), _, rfl, rfl, SqL.of hf2, atI_nat (j := 1) rfl, rfl, _, rfl, ?_⟩
                        by_cases c3 : a = b
                        · rw [decide_eq_true (congrArg V.int c3)]
                          exact iteT ⟨_, rfl, by show 2 ≤ sizeLine; decide, bad fun h => h.2.2.2.2 c3⟩
                        · rw [decide_eq_false (show ¬ V.int a = V.int b from fun q => c3 (by injection q))]
                          have a1 := m2 a (by simp)
                          have a2 := m2 b (by simp)
                          have a3 := m4 a (by simp)
                          have a4 := m4 b (by simp)
                          have good2 : 0 ≤ a ∧ a < n ∧ 0 ≤ b ∧ b < n ∧ a ≠ b := ⟨by omega, by omega, by omega, by omega, c3⟩
                          have hyes := eIn true (isEdgePair (e := (a, b)) good2)
                          rw [if_pos rfl] at hyes
                          refine iteF ⟨_, rfl, f2, [a, b], rfl, SqL.of hf2, Nat.succ_pos _, fun mn' m5 m6 => ⟨_, rfl, f2, [a, b], rfl, SqL.of hf2, Nat.succ_pos _, fun mx' m7 m8 => ?_⟩⟩
                          obtain ⟨q1', q2'⟩ := minmax2 m5 m6 m7 m8
                          rw [q1', q2']
                          refine ⟨by show 2 ≤ sizeLine; decide, fun t1 nt1 => ?_⟩
                          obtain ⟨J3, j3, s3', ht1⟩ := newAt (.tup [V.int (ordP (a, b)).1, V.int (ordP (a, b)).2]) nt1
                          rw [j3]
                          have sJ3 := sJ2.trans s3'
                          have hJ3 := sJ3 _ _ hJe
                          have hts3 := hts.same sJ3
                          refine ⟨_, rfl, _, rfl, pairD (ordP (a, b)), es.map pairD, .tup (SqT.of ht1) (.cons (.int _) (.cons (.int _) .nil)), .lst (SqL.of hJ3) (dpTups hts3), rfl, shapedPairs _, _, rfl, ?_⟩
                          by_cases cm : ordP (a, b) ∈ es
                          · rw [anyPairT cm]
                            exact iteT (iteT ⟨_, rfl, by show 2 ≤ sizeLine; decide, errAt (i + 1) (gE _ cn (by rw [hyes]; exact if_pos (.inl cm))) J3 sJ3⟩)
                          · rw [anyPair cm]
                            refine iteF ⟨_, rfl, ea, _, rfl, .inl (SqL.of hJ3), rfl, _, rfl, ?_⟩
                            by_cases c40 : es.length = 40
                            · rw [List.length_map, hts3.1, decide_eq_true (by rw [c40]; rfl)]
                              exact iteT ⟨_, rfl, by show 2 ≤ sizeLine; decide, errAt (i + 1) (gE _ cn (by rw [hyes]; exact if_pos (.inr c40))) J3 sJ3⟩
                            · rw [List.length_map, hts3.1, decide_eq_false (show ¬ V.int (es.length : Int) = V.int 40 from fun z => c40 (by injection z with z; omega))]
                              refine iteF ⟨_, rfl, .inl ⟨rfl, _, SqL.of hJ3⟩, _, rfl, ea, _, _, rfl, rfl, hJ3, by rw [List.length_map, hts3.1]; have := good.few; omega, ?_⟩
                              obtain ⟨J4, j4⟩ : ∃ J4, upd J3 ea (.lst ((ts ++ [t1]).map V.ref)) = J4 := ⟨_, rfl⟩
                              have j4' : upd J3 ea (.lst (ts.map V.ref ++ [V.ref t1])) = J4 := by rw [← j4, List.map_append]; rfl
                              rw [j4']
                              have k4 : ∀ z o, z ≠ ea → J3 z = some o → J4 z = some o := fun z o nz e => by rw [← j4, upd_ne nz]; exact e
                              refine ⟨es ++ [ordP (a, b)], ts ++ [t1], _, _, _, rfl, fun z o e => k4 z o (ne_of_none e nea) (sJ3 _ _ (sJ z o e)), by rw [← j4, upd_same], ?_, goodSnocE good (edgeGood hyes) cm c40, ?_⟩
                              · refine tupsSnoc ⟨hts3.1, fun k u e => ?_⟩ (k4 _ _ (ne_of ht1 hJ3 (by intro q; cases q)) ht1)
                                obtain ⟨z, y1, y2⟩ := hts3.2 k u e
                                exact ⟨z, y1, k4 _ _ (ne_of y2 hJ3 (by intro q; cases q)) y2⟩
                              · rw [← hgo]
                                exact (gE _ cn (by rw [hyes]; exact if_neg fun h => h.elim cm c40)).symm
                  · have no : edgeIn (Txt.split z " ") n = none := by
                      unfold edgeIn
                      rw [hrd]
                      match ys, l2 with
                      | [], _ => rfl
                      | [_], _ => rfl
                      | _ :: _ :: _ :: _, _ => rfl
                    rw [show (!decide (V.int ((ys.map V.int).length : Int) = V.int 2)) = true from by
                      rw [List.length_map, decide_eq_false (fun z => l2 (by injection z with z; omega))]
                      rfl]
                    exact iteT (iteT ⟨_, rfl, by show 2 ≤ sizeLine; decide, fun q' nq' => errAt (i + 1) (noE no) J2 sJ2 q' nq'⟩)
          · obtain ⟨es, ts, v5, v6, v7, rfl, sJ, hJe, hts, good, hgo⟩ := hG
            have hlpJ : J lp = some (.lst ((Txt.split t "\n").map V.str)) := sJ _ _ (s2 _ _ hlp)
            refine ⟨_, rfl, lp, _, rfl, .inl (SqL.of hlpJ), by show 2 ≤ sizeLine; decide, fun q' nq' => ?_⟩
            rw [List.length_map] at hgo ⊢
            have hk : ((((Txt.split t "\n").length : Int) - 1).toNat + 1) = (Txt.split t "\n").length := by omega
            rw [hk, List.drop_eq_nil_of_le (by omega)] at hgo
            have : parseM t = .error (Txt.split t "\n").length := pm (.error _) hgo.symm
            exact kq q' _ ((s02.trans sJ).free nq') ((s02.trans sJ).trans (same_upd nq')) (by rw [this]; exact upd_same)
        · have no : sizeIn (Txt.split z0 " ") = none := by
            unfold sizeIn
            rw [hgr.2]
            exact if_neg fun h => b h.2
          by_cases b1 : 1 ≤ z
          · rw [decide_eq_true b1]
            refine iteT ⟨_, _, rfl, rfl, _, rfl, ?_⟩
            rw [decide_eq_false (fun h => b ⟨b1, h⟩)]
            exact iteT ⟨by show 2 ≤ sizeLine; decide, fun q nq => no0 s02 no q nq⟩
          · rw [decide_eq_false b1]
            refine iteF ⟨_, rfl, ?_⟩
            exact iteT ⟨by show 2 ≤ sizeLine; decide, fun q nq => no0 s02 no q nq⟩
      · have no : sizeIn (Txt.split z0 " ") = none := by
          unfold sizeIn
          rw [hgr.2]
          match xs, l1 with
          | [], _ => rfl
          | _ :: _ :: _, _ => rfl
        rw [show (!decide (V.int ((xs.map V.int).length : Int) = V.int 1)) = true from by
          rw [List.length_map, decide_eq_false (fun z => l1 (by injection z with z; omega))]
          rfl]
        exact iteT (iteT ⟨by show 2 ≤ sizeLine; decide, fun q nq => no0 s02 no q nq⟩)
end
end K81
set_option Elab.async false
set_option linter.all false
set_option maxRecDepth 100000
set_option maxHeartbeats 8000000
namespace K81
open PySem PySem.Spec PyProof.Rows L2 FNX
def resR : PyData → Except Nat (Nat × List (Int × Int) × List Int)
  | .str t => parseM t
  | _ => .error 0
theorem len4 {α : Type} {l : List α} (h : l.length = 4) : ∃ a b c d, l = [a, b, c, d] := by
  match l, h with
  | [a, b, c, d], _ => exact ⟨a, b, c, d, rfl⟩
theorem headG81 {K : PySem.W.Frag} {C : Addr} {m : MkC} {r : List (Addr × MkC)} {v : V} {d : PyData} {H : Hp} {Q : VK} (x : PySem.W.exmOne K (.ref C) (.ref C) = some true) (hd : ∀ H', Same H H' → Rd K H' v d)
    (k : ∀ H', Same H H' → m v d H' Q) : told C v H (wErrG K Q ((C, m) :: r)) :=
  fun H' dd s _ hx => ⟨true, x, fun _ => ⟨rfl, dd, v, d, rfl, hx, hd H' s, k H' s⟩, (fun z => nomatch z)⟩
def tParse (K : PySem.W.Frag) (CG CX' : Addr) : WX → TS := fun W D σ H => ∃ Ech : XK, (∀ cls d H' σ', Ech cls d H' → σ'.length = 4 → W cls d σ' H') ∧
  tSeq (tAsg (tCall (spParse K CG CX') [] Ech (tCons (tVar 0) tNil)) (gName 2)) (tAsg (tLst (tCons (tC (.str "told")) (tCons (tOp (rIxT K) (tVar 2) (tC (.int 0))) (tCons (tOp (rIxT K) (tVar 2) (tC (.int 1))) tNil)))) (gName 1)) D σ H
def spTold81 (K : PySem.W.Frag) (CG : Addr) : Sp := fun vs H Q _ => ∃ (v : V) (d : PyData), vs = [v] ∧ Rd K H v d ∧ (∀ t, d = .str t → t.length ≤ 640) ∧ ∀ q H', H q = none → Same H H' → Res81 CG H' q (resR d) → Q (.ref q) H'
section
variable {P : Program} {w : World} {K : PySem.W.Frag} {mg : Str → Option Value} {base : Heap} {CG CX' : Addr}
theorem sc_told81 : FnScope ["_law_text", "_law_kept", "_law_found", "e"] ["_law_text"] (defScope s__law_told) := ⟨rfl, rfl, rfl, by decide +kernel, rfl, by decide +kernel, by decide +kernel⟩
theorem ok_told81 {f : Addr} {fd : FuncData} (F : Fun K "_law_told" "_law_told" s__law_told f fd) (EX : Ex P w K mg base "InvalidText" CX') (xX : PySem.W.exmOne K (.ref CX') (.ref CX') = some true) (GPa : At P w K mg base (L2.CX P w) 8 "parse_position" ["text"] (spParse K CG CX')) :
    FnOk P w K mg base CX0 10 f fd ["_law_text"] (spTold81 K CG) := by
  obtain ⟨fPa, fdPa, GPa, mPa, kPa, bPa⟩ := GPa
  refine F.ok sc_told81 (fun vs H Q E h => ?_) (fun cdv A' outer s H vs Q E hr h => ?_)
  · obtain ⟨v, d, rfl, _⟩ := h
    rfl
  · obtain ⟨v, d, rfl, hd, lt, k⟩ := h
    have nd := sc_told81.nd
    refine ⟨_, pss_cons (ps_set (i := 1) nd rfl (Or.inl rfl) pe_non) (pss_cons (ps_try_mas (i := 3) (tb := tParse K CG CX') rfl rfl nd rfl rfl L2.takes0
        (fun W pn xe tk _ => ⟨fun pins s' σ H' D I h' => by
          obtain ⟨Ech, hW, h1⟩ := h'
          exact (pss_cons (ps_set (i := 2) nd rfl (Or.inl rfl) (pe_call GPa (hr.mono (by decide)) (by rfl) mPa kPa bPa .nil (passes_call (takes_len tk) (fun cls d σ' H' e l => hW cls d H' σ' e l)) (pa_cons (pv 0) pa_nil)))
            (pss_one (ps_set (i := 1) nd rfl (Or.inl rfl) (pe_lst (pa_cons pe_str (pa_cons (pe_ix (r := rIxT K) ix_tup (pv 2) pe_int (fun _ _ => rfl)) (pa_cons (pe_ix (r := rIxT K) ix_tup (pv 2) pe_int (fun _ _ => rfl)) pa_nil))))))).run pins s' σ H' D I h1⟩)
        (.cons ⟨rfl, by decide, .inl EX.mgC⟩ (fun z oz cls d pn hz hf => pss_one (ps_set (i := 1) nd rfl (Or.inl rfl) (pe_lst (pa_cons pe_str (pa_cons (pe_byX EX.xc hz hf (pv 3)) pa_nil)))))
        .nil)) (pss_one (ps_ret (pv 1)))), ?_⟩
    refine ⟨wErrG K Q [(CX', mkV "no")], fun cls d' H' σ' w l => ?_, ?_⟩
    · obtain ⟨a, b, c, d2, rfl⟩ := len4 l
      obtain ⟨b0, e0, yes0, no0⟩ := w
      refine ⟨b0, e0, fun t0 z nz => ?_, fun n0 => ?_⟩
      · obtain ⟨rfl, dd, u, dt, rfl, hd', hv, m⟩ := yes0 t0
        exact ⟨_, rfl, rfl, rfl, dd, _, rfl, hd', by show 2 ≤ sizeLine; decide, fun p np => ⟨_, rfl, m p np⟩⟩
      · exact (no0 n0).elim
    · have er : ∀ kk : Nat, resR d = .error kk → told CX' (.int (kk : Int)) H (wErrG K Q [(CX', mkV "no")]) := fun kk e =>
        headG81 (d := .int (kk : Int)) xX (fun _ _ => .dat (.int _)) fun H' s q nq => k q _ (s.free nq) (s.trans (same_upd nq)) (by rw [e]; exact upd_same)
      refine ⟨_, rfl, v, d, rfl, hd, fun no => er 0 (by cases d <;> first | rfl | exact absurd rfl (no _)), fun t ht => ⟨lt t ht, fun kk e => er kk (by rw [ht]; exact e), fun n es xs e T g q H' s' nT ng nq hT hp => ?_⟩⟩
      refine ⟨_, rfl, T, _, (0 : Int), _, rfl, rfl, SqT.of hT, atI_nat (j := 0) rfl, _, rfl, T, _, (1 : Int), _, rfl, rfl, SqT.of hT, atI_nat (j := 1) rfl, by show 3 ≤ sizeLine; decide, fun p np => ⟨_, rfl, ?_⟩⟩
      have sp := same_upd (o := HO.lst [V.str "told", V.ref g, V.ref q]) np
      refine k p _ (s'.free np) (s'.trans sp) ?_
      rw [ht, show resR (.str t) = parseM t from rfl, e]
      obtain ⟨es', h1, h2, h3, h4⟩ := hp
      exact ⟨g, q, upd_same, es', h1.same sp, h2, h3, sp _ _ h4⟩
end
end K81
set_option Elab.async false
set_option linter.all false
set_option maxRecDepth 100000
set_option maxHeartbeats 8000000
namespace K81
open PySem PySem.Spec PyProof.Rows L2 FNX
theorem shwPow2 {i : Int} {k : Nat} (hk : 0 < k) (k2 : k ≤ 450) (h : i.natAbs < 10 ^ k) : Shw 0 (k + 1) (.int i) := by
  refine ⟨?_, ?_, ?_⟩
  · simp only [PyData.showable]
    refine decide_eq_true ?_
    by_cases c : i.natAbs = 0
    · rw [c]
      decide
    · have z : i.natAbs < 2 ^ (4 * k) := Nat.lt_of_lt_of_le h (by
        rw [Nat.pow_mul]
        exact Nat.pow_le_pow_left (by decide) k)
      have y := (Nat.log2_lt c).mpr z
      exact Nat.lt_trans y (Nat.lt_of_le_of_lt (Nat.mul_le_mul_left 4 k2) (by decide))
  · simp only [PyData.depth]
    omega
  · simp only [PyData.shown]
    exact intLen hk h
theorem shwInts2 {x : List Int} {k m : Nat} (hk : 0 < k) (k2 : k ≤ 450) (h : ∀ v ∈ x, v.natAbs < 10 ^ k) (hl : x.length ≤ m) : Shw 1 ((k + 3) * m + 2) (posD x) :=
  shwList (k := 0) (L := k + 1) (m := m) (fun e he => by
    obtain ⟨v, hv, rfl⟩ := List.mem_map.mp he
    exact shwPow2 hk k2 (h v hv)) (by rw [List.length_map]; exact hl)
theorem okW_big {w : Str} (h : okW w = true) {L : Nat} (hl : w.length ≤ L) (h0 : w.length ≤ 640) : (numW w).natAbs < 10 ^ L := by
  have h2 := h
  unfold okW at h
  rw [Bool.and_eq_true, Bool.and_eq_true, Bool.not_eq_true', decide_eq_false_iff_not] at h
  obtain ⟨hne, hall, _⟩ := h
  have hne' : (dgs w).cps.toList ≠ [] := fun e => hne (strExt (by rw [e]; rfl))
  have had : NumText.AllDigits (dgs w).cps.toList := fun c hc => isDg_iff.mp (List.all_eq_true.mp hall c hc)
  have big : ∀ cs : List Nat, NumText.AllDigits cs → cs.length ≤ L → NumText.digitsVal cs < 10 ^ L := fun cs hc hl => by
    have := digitsLt cs 0 fun c hm => (hc c hm).2
    rw [Nat.zero_add, Nat.one_mul] at this
    exact Nat.lt_of_lt_of_le this (Nat.pow_le_pow_right (by decide) hl)
  by_cases c : Txt.startswith w "-" = true
  · obtain ⟨cs, hcs⟩ := starts_iff.mp c
    have e : (dgs w).cps.toList = cs := by
      unfold dgs
      rw [if_pos c, cutS_tail, hcs]
      rfl
    rw [e] at hne' had
    unfold numW
    rw [PySem.intText_neg hcs had hne' (by omega)]
    have hlen : cs.length ≤ L := by
      have := lenL w
      rw [hcs, List.length_cons] at this
      omega
    show (-((NumText.digitsVal cs : Nat) : Int)).natAbs < _
    rw [Int.natAbs_neg, Int.natAbs_natCast]
    exact big cs had hlen
  · have e : dgs w = w := by
      unfold dgs
      rw [if_neg c]
    rw [e] at hne' had
    unfold numW
    rw [PySem.intText_digits had hne' (by omega)]
    show (((NumText.digitsVal w.cps.toList : Nat) : Int)).natAbs < _
    rw [Int.natAbs_natCast]
    exact big _ had (by rw [lenL]; exact hl)
theorem readN_big {ws : List Str} {xs : List Int} (h : readN ws = some xs) (hl : ∀ w ∈ ws, w.length ≤ 450) : ∀ x ∈ xs, x.natAbs < 10 ^ 450 := by
  unfold readN at h
  split at h
  · rename_i c
    injection h with h
    intro x hx
    rw [← h] at hx
    obtain ⟨w, hw, rfl⟩ := List.mem_map.mp hx
    have := hl w hw
    exact okW_big (List.all_eq_true.mp c w hw) this (by omega)
  · cases h
theorem goR_facts {n : Nat} : ∀ {rs : List (List Str)} {es : List (Int × Int)} {k : Nat}, (∀ r ∈ rs, ∀ w ∈ r, w.length ≤ 450) →
    (∀ m, goR n rs es k = .error m → m ≤ k + rs.length) ∧ ∀ es' xs, goR n rs es k = .ok (es', xs) → xs.length = n ∧ ∀ x ∈ xs, x.natAbs < 10 ^ 450
  | [], es, k, _ => ⟨fun m h => by injection h with h; show m ≤ k; omega, fun es' xs h => by cases h⟩
  | r :: rs, es, k, hl => by
    have h1 := hl r List.mem_cons_self
    have h2 : ∀ q ∈ rs, ∀ w ∈ q, w.length ≤ 450 := fun q hq => hl q (List.mem_cons_of_mem _ hq)
    refine ⟨fun m h => ?_, fun es' xs h => ?_⟩
    · rw [List.length_cons]
      unfold goR at h
      split at h
      · split at h
        · split at h
          · split at h
            · cases h
            · injection h with h; omega
          · injection h with h; omega
        · injection h with h; omega
      · split at h
        · split at h
          · injection h with h; omega
          · have := (goR_facts h2).1 m h
            omega
        · injection h with h; omega
    · unfold goR at h
      split at h
      · split at h
        · rename_i ys e
          split at h
          · rename_i c
            split at h
            · injection h with h
              injection h with h3 h4
              rw [← h4]
              exact ⟨c, readN_big e fun w hw => h1 w (List.mem_of_mem_tail hw)⟩
            · cases h
          · cases h
        · cases h
      · split at h
        · split at h
          · cases h
          · exact (goR_facts h2).2 es' xs h
        · cases h
/-- texts whose words are short -/
def Fit (t : Str) : Prop := t.length ≤ 640 ∧ ∀ r ∈ rowsT t, ∀ w ∈ r, w.length ≤ 450
theorem Fit.of {t : Str} (h : t.length ≤ 450) : Fit t := ⟨by omega, fun r hr w hw => by
  unfold rowsT at hr
  obtain ⟨z, hz, rfl⟩ := List.mem_map.mp hr
  exact Nat.le_trans (part_short hw) (Nat.le_trans (part_short hz) h)⟩
def Small81 (R : Except Nat (Nat × List (Int × Int) × List Int)) : Prop := match R with
  | .error k => k ≤ 1000
  | .ok (n, es, xs) => n ≤ 16 ∧ xs.length = n ∧ ∀ x ∈ xs, x.natAbs < 10 ^ 450
theorem parse_small {t : Str} (h : Fit t) : Small81 (parseM t) := by
  have hl : (rowsT t).length ≤ 642 := by
    unfold rowsT
    rw [List.length_map]
    have := split_le t "\n"
    have := h.1
    omega
  have ht : ∀ r ∈ (rowsT t).tail, ∀ w ∈ r, w.length ≤ 450 := fun r hr => h.2 r (List.mem_of_mem_tail hr)
  unfold parseM
  cases e : sizeIn ((rowsT t).headD []) with
  | none => exact Nat.zero_le _
  | some n =>
    dsimp only
    have hn : n ≤ 16 := by
      unfold sizeIn at e
      split at e
      · split at e
        · rename_i c
          injection e with e
          have := c.2
          omega
        · cases e
      · cases e
    cases e2 : goR n (rowsT t).tail [] 1 with
    | error k =>
      have := (goR_facts ht).1 k e2
      rw [List.length_tail] at this
      show k ≤ 1000
      omega
    | ok r =>
      obtain ⟨es, xs⟩ := r
      exact ⟨hn, (goR_facts ht).2 es xs e2⟩
def rReprA (K : PySem.W.Frag) (CG : Addr) : List V → Hp → VK → Prop := fun vs H Q => rRepr K vs H Q ∨ rReprO K CG (spReprGg CG) vs H Q
theorem reprRes {K : PySem.W.Frag} {CG : Addr} {H1 : Hp} {q1 : Addr} {R : Except Nat (Nat × List (Int × Int) × List Int)} (sm : Small81 R) (h1 : Res81 CG H1 q1 R) : ∃ txt : Str,
    ∀ (H2 : Hp) (q2 : Addr), Res81 CG H2 q2 R → ∀ (Q : VK) (G : Hp), Same H2 G → (∀ H', Same G H' → Q (.str txt) H') → rReprA K CG [.ref q2] G Q := by
  cases R with
  | error k =>
    have sh : Shw 1 100 (.list [.str "no", .int (k : Int)]) := by
      refine (shwList (k := 0) (L := 13) (m := 2) (fun d hd => ?_) (by show 2 ≤ 2; decide)).mono (by decide) (by decide)
      rcases List.mem_cons.mp hd with rfl | hd
      · exact ⟨by decide +kernel, by decide +kernel, by decide +kernel⟩
      · rw [List.mem_singleton.mp hd]
        have : k ≤ 1000 := sm
        exact shwInt (Nat.lt_of_le_of_lt (show ((k : Nat) : Int).natAbs ≤ 1000 by omega) (by decide +kernel))
    obtain ⟨l1, l2, l3⟩ := shwLine sh (by decide) (by decide)
    have one : ∀ {H : Hp} {q : Addr}, Res81 CG H q (.error k) → ∀ (Q : VK) (G : Hp), Same H G → (∀ H', Same G H' → Q (.str (PyData.list [.str "no", .int (k : Int)]).shown) H') → rReprA K CG [.ref q] G Q := fun {H q} h Q G s hq =>
      .inl ⟨.ref q, .list [.str "no", .int (k : Int)], rfl, .dat (.lst (SqL.of (s _ _ h)) (.cons (.str _) (.cons (.int _) .nil))), l1, l2, l3, hq G (Same.refl G)⟩
    exact ⟨_, fun H2 q2 h2 => one h2⟩
  | ok r =>
    obtain ⟨n, es, xs⟩ := r
    obtain ⟨n16, lx, bx⟩ := sm
    obtain ⟨g1, x1, a1, e1, ge1, se1, pe1, hx1⟩ := h1
    have shX := shwInts2 (k := 450) (m := 16) (by decide) (by decide) bx (by omega)
    have shT : Shw 0 20 (.str "told") := ⟨by decide +kernel, by decide +kernel, by decide +kernel⟩
    obtain ⟨t1, t2, t3⟩ := shwLine shT (by decide) (by decide)
    obtain ⟨y1, y2, y3⟩ := shwLine shX (by decide) (by decide)
    have good := ge1.good
    have klen : (listText [(PyData.str "told").shown, textG n e1, (posD xs).shown]).length ≤ sizeLine := by
      have z := listText_le [(PyData.str "told").shown, textG n e1, (posD xs).shown]
      rw [piled_cons, piled_cons, piled_cons, piled_nil] at z
      have b1 := shT.len
      have b2 := textGLen good n16
      have b3 := shX.len
      have big : (100000 : Nat) ≤ sizeLine := by rw [sizeLine_eq]; decide
      omega
    have one : ∀ {H : Hp} {q g x : Addr}, H q = some (.lst [.str "told", .ref g, .ref x]) → GE CG H g n e1 → H x = some (.lst (xs.map V.int)) → ∀ (Q : VK) (G : Hp), Same H G → (∀ H', Same G H' → Q (.str (listText [(PyData.str "told").shown, textG n e1, (posD xs).shown])) H') → rReprA K CG [.ref q] G Q := fun {H q g x} h ge hx Q G s hq => by
      have geG := ge.same s
      obtain ⟨dx, j, nr, N, o, _⟩ := id geG.obj
      refine .inr ⟨q, _, [(PyData.str "told").shown, textG n e1, (posD xs).shown], rfl, s _ _ h, .lst (s _ _ h) (y := .ref g) (by simp) (.ins o), rfl, fun i y hy => ?_, klen, hq⟩
      match i, hy with
      | 0, hy =>
        obtain rfl := Option.some.inj hy
        exact ⟨_, rfl, .inl ⟨.str "told", .dat (.str _), t1, t2, t3, rfl⟩⟩
      | 1, hy =>
        obtain rfl := Option.some.inj hy
        exact ⟨_, rfl, .inr ⟨g, dx, _, rfl, o, fun gd H' s' gb => ⟨g, n, e1, rfl, geG.same s', gb, rfl, rfl⟩⟩⟩
      | 2, hy =>
        obtain rfl := Option.some.inj hy
        exact ⟨_, rfl, .inl ⟨posD xs, .dat (.lst (SqL.of (s _ _ hx)) (dpInts _)), y1, y2, y3, rfl⟩⟩
      | i + 3, hy => simp at hy
    refine ⟨listText [(PyData.str "told").shown, textG n e1, (posD xs).shown], fun H2 q2 h2 => ?_⟩
    obtain ⟨g2, x2, a2, e2, ge2, se2, pe2, hx2⟩ := h2
    obtain rfl : e1 = e2 := SrtE.uniq (pe1.trans pe2.symm) se1 se2
    exact one a2 ge2 hx2
end K81
set_option Elab.async false
set_option linter.all false
set_option maxRecDepth 100000
set_option maxHeartbeats 8000000
namespace K81
open PySem PySem.Spec PyProof.Rows L2 FNX
def wt (ws : List Str) : Nat := (ws.map (·.length)).sum + ws.length
theorem wt_app (a b : List Str) : wt (a ++ b) = wt a + wt b := by
  unfold wt
  rw [List.map_append, List.sum_append, List.length_append]
  omega
theorem wt_take (a : List Str) (k : Nat) : wt (a.take k) ≤ wt a := by
  have h := wt_app (a.take k) (a.drop k)
  rw [List.take_append_drop] at h
  omega
theorem wt_drop (a : List Str) (k : Nat) : wt (a.drop k) ≤ wt a := by
  have h := wt_app (a.take k) (a.drop k)
  rw [List.take_append_drop] at h
  omega
theorem wt_cut (a : List Str) (k : Nat) : wt (a.take k) + wt (a.drop k) = wt a := by
  rw [← wt_app, List.take_append_drop]
theorem wt_dropLe (a : List Str) {k j : Nat} (h : k ≤ j) : wt (a.drop j) ≤ wt (a.drop k) := by
  have := wt_drop (a.drop k) (j - k)
  rw [List.drop_drop, show k + (j - k) = j from by omega] at this
  exact this
theorem wt_set : ∀ (a : List Str) (k : Nat) (v x : Str), a[k]? = some x → wt (a.set k v) + x.length = wt a + v.length
  | [], k, v, x, h => by simp at h
  | y :: a, 0, v, x, h => by
    obtain rfl := Option.some.inj h
    show wt (v :: a) + y.length = wt (y :: a) + v.length
    unfold wt
    simp only [List.map_cons, List.sum_cons, List.length_cons]
    omega
  | y :: a, k + 1, v, x, h => by
    have ih := wt_set a k v x h
    show wt (y :: a.set k v) + x.length = wt (y :: a) + v.length
    unfold wt at ih ⊢
    simp only [List.map_cons, List.sum_cons, List.length_cons] at ih ⊢
    omega
theorem wt_swap {a : List Str} {i j : Nat} {x y : Str} (hi : a[i]? = some x) (hj : a[j]? = some y) : wt ((a.set i y).set j x) = wt a := by
  have h1 := wt_set a i y x hi
  have h2 : (a.set i y)[j]? = some y := by
    by_cases c : i = j
    · subst c
      rw [List.getElem?_set_self (List.getElem?_eq_some_iff.mp hi).1]
    · rw [List.getElem?_set_ne c]
      exact hj
  have h3 := wt_set (a.set i y) j x y h2
  omega
theorem join_le (sep : Str) (hs : sep.length = 1) (ws : List Str) : (Txt.join sep ws).length ≤ wt ws := by
  have h := size_glued sep ws
  unfold wt
  show (Builtin.Str.glued sep ws).length ≤ _
  rw [h, hs]
  omega
theorem wt_split (t sep : Str) (hs : sep.length = 1) : wt (Txt.split t sep) ≤ t.length + 1 := split_weight t sep (by omega)
def spBent81 (K : PySem.W.Frag) : Sp := fun vs H Q _ => ∃ (p : Addr) (t : Str), vs = [.ref p, .str t] ∧ PoolAt H p ∧ t.length ≤ 400 ∧ ∀ (t' : Str) H', SameX p H H' → PoolAt H' p → t'.length ≤ 2 * t.length + 3 → Q (.str t') H'
theorem appL (x y : Str) : (x ++ y).length = x.length + y.length := appLen x y
theorem ixAt {n k : Nat} (h : k < n) : ixN n (k : Int) = some k := by
  unfold ixN
  simp only [show (0 : Int) ≤ (k : Int) from by omega, if_true, show (k : Int) < (n : Int) from by omega, Int.toNat_natCast, and_self, if_pos]
section
variable {P : Program} {w : World} {K : PySem.W.Frag} {mg : Str → Option Value} {base : Heap}
theorem sc_bent81 : FnScope ["_law_pool_here", "_law_text", "_law_at", "_law_sign", "_law_some", "_law_gap", "_law_words_here", "_law_spot", "_law_other", "_law_moved"] ["_law_pool_here", "_law_text"] (defScope s__law_bent) := ⟨rfl, rfl, rfl, by decide +kernel, rfl, by decide +kernel, by decide +kernel⟩
theorem ok_bent81 {f : Addr} {fd : FuncData} (F : Fun K "_law_bent" "_law_bent" s__law_bent f fd) (M : Nms mg) (GT : At P w K mg base CX0 1 "_law_take" ["_law_pool_here", "_law_sides"] spTake) : FnOk P w K mg base CX0 2 f fd ["_law_pool_here", "_law_text"] (spBent81 K) := by
  obtain ⟨fT, fdT, GT, mT, kT, bT⟩ := GT
  refine F.ok sc_bent81 (fun vs H Q E h => ?_) (fun cdv A' outer s H vs Q E hr h => ?_)
  · obtain ⟨p, t, rfl, _⟩ := h
    rfl
  · obtain ⟨p, t, rfl, hp, lt, k⟩ := h
    have nd := sc_bent81.nd
    have big : (5000 : Nat) < sizeLine := by rw [sizeLine_eq]; decide
    refine ⟨_, (pss_cons (ps_set (i := 2) nd rfl (Or.inl rfl) (pe_call GT (hr.mono (by decide)) (by rfl) mT kT bT .nil pass0 (pa_cons (pv 0) (pa_cons (pe_op op_add (pe_callB call_len_str (by rfl) M.len boot_len1 (pa_cons (pv 1) pa_nil)) pe_int) pa_nil))))
      (pss_cons (ps_set (i := 3) nd rfl (Or.inl rfl) (pe_ix ix_str pe_str (pe_call GT (hr.mono (by decide)) (by rfl) mT kT bT .nil pass0 (pa_cons (pv 0) (pa_cons pe_int pa_nil))) (fun _ _ => rfl)))
      (pss_cons (ps_set (i := 4) nd rfl (Or.inl rfl) (pe_lst (pa_cons (pe_op op_add_str (pe_op op_add_str (pe_slice sl_str (pv 1) po_none (po_some (pv 2))) (pv 3)) (pe_slice sl_str (pv 1) (po_some (pv 2)) po_none)) (pa_cons (pe_op op_add_str (pe_op op_add_str (pe_slice sl_str (pv 1) po_none (po_some (pv 2))) (pv 3)) (pe_slice sl_str (pv 1) (po_some (pe_op op_add (pv 2) pe_int)) po_none)) (pa_cons (pe_op op_add_str (pe_slice sl_str (pv 1) po_none (po_some (pv 2))) (pe_slice sl_str (pv 1) (po_some (pe_op op_add (pv 2) pe_int)) po_none)) pa_nil)))))
      (pss_cons (ps_set (i := 5) nd rfl (Or.inl rfl) (pe_ix (r := rIxL K) ix_list (pe_lst (pa_cons pe_str (pa_cons pe_str pa_nil))) (pe_call GT (hr.mono (by decide)) (by rfl) mT kT bT .nil pass0 (pa_cons (pv 0) (pa_cons pe_int pa_nil))) (fun _ _ => rfl)))
      (pss_cons (ps_set (i := 6) nd rfl (Or.inl rfl) (pe_split (pv 1) (pv 5)))
      (pss_cons (ps_par (i := 7) (j := 8) (by rfl) nd rfl rfl (by decide) rfl rfl (pa_cons (pe_call GT (hr.mono (by decide)) (by rfl) mT kT bT .nil pass0 (pa_cons (pv 0) (pa_cons (pe_callB call_len_seq (by rfl) M.len boot_len1 (pa_cons (pv 6) pa_nil)) pa_nil))) (pa_cons (pe_call GT (hr.mono (by decide)) (by rfl) mT kT bT .nil pass0 (pa_cons (pv 0) (pa_cons (pe_callB call_len_seq (by rfl) M.len boot_len1 (pa_cons (pv 6) pa_nil)) pa_nil))) pa_nil)) (by rfl))
      (pss_cons (ps_set (i := 4) nd rfl (Or.inl rfl) (pe_op op_cat (pv 4) (pe_lst (pa_cons (pe_join (pv 5) (pe_op op_cat (pe_slice sl_list (pv 6) po_none (po_some (pv 7))) (pe_slice sl_list (pv 6) (po_some (pe_op op_add (pv 7) pe_int)) po_none))) (pa_cons (pe_join (pv 5) (pe_op op_cat (pe_slice sl_list (pv 6) po_none (po_some (pe_op op_add (pv 7) pe_int))) (pe_slice sl_list (pv 6) (po_some (pv 7)) po_none))) pa_nil)))))
      (pss_cons (ps_set (i := 9) nd rfl (Or.inl rfl) (pe_callTy call_list_of (by rfl) M.list (by decide +kernel) (pa_cons (pv 6) pa_nil)))
      (pss_cons (ps_asg (pe_tup (pa_cons (pe_ix (r := rIxL K) ix_list (pv 6) (pv 8) (fun _ _ => rfl)) (pa_cons (pe_ix (r := rIxL K) ix_list (pv 6) (pv 7) (fun _ _ => rfl)) pa_nil))) (pg_tup rfl (pgs_cons (pg_sub (pv 9) (pv 7) set_list) (pgs_cons (pg_sub (pv 9) (pv 8) set_list) pgs_nil))))
      (pss_one (ps_ret (pe_ix (r := rIxL K) ix_list (pe_op op_cat (pv 4) (pe_lst (pa_cons (pe_join (pv 5) (pv 9)) (pa_cons (pe_op op_add_str (pv 1) (pv 5)) pa_nil)))) (pe_call GT (hr.mono (by decide)) (by rfl) mT kT bT .nil pass0 (pa_cons (pv 0) (pa_cons pe_int pa_nil))) (fun _ _ => rfl))))))))))))), ?_⟩
    refine ⟨_, rfl, _, rfl, t, rfl, by omega, _, _, rfl, rfl, p, _, rfl, hp, by omega, by omega, fun at_ H1 a0 a1 hp1 tk1 => ?_⟩
    obtain ⟨at', rfl⟩ : ∃ at' : Nat, at_ = (at' : Int) := ⟨at_.toNat, by omega⟩
    have x1 := sameX_take tk1
    refine ⟨_, rfl, p, 12, rfl, hp1, by decide, by decide, fun sg H2 b0 b1 hp2 tk2 => ?_⟩
    have x2 := x1.trans (sameX_take tk2)
    have hlen12 : (" -0159geu\n.x" : Str).cps.toList.length = 12 := by decide +kernel
    obtain ⟨cs, hcs⟩ : ∃ c, atI (" -0159geu\n.x" : Str).cps.toList sg = some c := by
      obtain ⟨j, rfl⟩ : ∃ j : Nat, sg = (j : Int) := ⟨sg.toNat, by omega⟩
      exact ⟨_, atI_nat (List.getElem?_eq_getElem (by omega))⟩
    refine ⟨_, sg, cs, rfl, rfl, by decide +kernel, hcs, ?_⟩
    have one : (⟨#[cs]⟩ : Str).length = 1 := rfl
    have c1 : ∀ lo hi, (cutS t lo hi).length ≤ t.length := fun lo hi => cutS_length t lo hi
    have fit : ∀ n : Nat, n ≤ 5000 → n ≤ sizeLine := fun n h => by omega
    refine ⟨_, rfl, _, rfl, _, rfl, t, rfl, by omega, _, rfl, _, _, rfl, rfl, fit _ (by have := c1 none (some (at' : Int)); omega), ?_⟩
    refine ⟨_, rfl, _, rfl, _, rfl, t, rfl, by omega, _, _, rfl, rfl, fit _ (by rw [appL, one]; have := c1 none (some (at' : Int)); have := c1 (some (at' : Int)) none; omega), ?_⟩
    refine ⟨_, rfl, _, rfl, _, rfl, t, rfl, by omega, _, rfl, _, _, rfl, rfl, fit _ (by have := c1 none (some (at' : Int)); omega), ?_⟩
    refine ⟨_, rfl, _, rfl, _, _, rfl, rfl, _, rfl, t, rfl, by omega, _, _, rfl, rfl, fit _ (by rw [appL, one]; have := c1 none (some (at' : Int)); have := c1 (some ((at' : Int) + 1)) none; omega), ?_⟩
    refine ⟨_, rfl, _, rfl, _, rfl, t, rfl, by omega, ?_⟩
    refine ⟨_, rfl, _, rfl, _, _, rfl, rfl, _, rfl, t, rfl, by omega, _, _, rfl, rfl, fit _ (by have := c1 none (some (at' : Int)); have := c1 (some ((at' : Int) + 1)) none; omega), ?_⟩
    refine ⟨by show 3 ≤ sizeLine; decide, fun l1 nl1 => ?_⟩
    obtain ⟨S1, hS1⟩ : ∃ S, cutS t none (some (at' : Int)) ++ (⟨#[cs]⟩ : Str) ++ cutS t (some (at' : Int)) none = S := ⟨_, rfl⟩
    obtain ⟨S2, hS2⟩ : ∃ S, cutS t none (some (at' : Int)) ++ (⟨#[cs]⟩ : Str) ++ cutS t (some ((at' : Int) + 1)) none = S := ⟨_, rfl⟩
    obtain ⟨S3, hS3⟩ : ∃ S, cutS t none (some (at' : Int)) ++ cutS t (some ((at' : Int) + 1)) none = S := ⟨_, rfl⟩
    have b1' : S1.length ≤ 2 * t.length + 1 := by rw [← hS1, appL, appL, one]; have := c1 none (some (at' : Int)); have := c1 (some (at' : Int)) none; omega
    have b2' : S2.length ≤ 2 * t.length + 1 := by rw [← hS2, appL, appL, one]; have := c1 none (some (at' : Int)); have := c1 (some ((at' : Int) + 1)) none; omega
    have b3' : S3.length ≤ 2 * t.length + 1 := by rw [← hS3, appL]; have := c1 none (some (at' : Int)); have := c1 (some ((at' : Int) + 1)) none; omega
    rw [hS1, hS2, hS3]
    obtain ⟨H3, q3, s3, hl1⟩ := newAt (.lst [V.str S1, V.str S2, V.str S3]) nl1
    rw [q3]
    refine ⟨by show 2 ≤ sizeLine; decide, fun l2 nl2 => ?_⟩
    obtain ⟨H4, q4, s4, hl2⟩ := newAt (.lst [V.str " ", V.str "\n"]) nl2
    rw [q4]
    have s24 := s3.trans s4
    refine ⟨_, rfl, p, 2, rfl, hp2.same s24, by decide, by decide, fun gp H5 d0 d1 hp5 tk5 => ?_⟩
    have x45 := sameX_take tk5
    have pn : ∀ {z : Addr}, H2 z = none → z ≠ p := fun {z} n q => by
      obtain ⟨u, w', e, _⟩ := hp2
      rw [← q, n] at e; cases e
    have hl25 := x45 _ _ (pn (s3.free nl2)) hl2
    obtain ⟨gap, hgap, hgl, hg0⟩ : ∃ g : Str, atI [V.str " ", V.str "\n"] gp = some (.str g) ∧ g.length = 1 ∧ (g.length == 0) = false := by
      obtain rfl | rfl : gp = 0 ∨ gp = 1 := by omega
      · exact ⟨" ", rfl, by decide +kernel, by decide +kernel⟩
      · exact ⟨"\n", rfl, by decide +kernel, by decide +kernel⟩
    refine ⟨l2, _, gp, _, rfl, rfl, SqL.of hl25, hgap, ?_⟩
    refine ⟨_, rfl, ⟨_, rfl⟩, _, rfl, t, _, rfl, rfl, hg0, by omega, fun wl nwl => ?_⟩
    obtain ⟨ws, hws⟩ : ∃ ws, Txt.split t gap = ws := ⟨_, rfl⟩
    rw [hws]
    have wW : wt ws ≤ t.length + 1 := by rw [← hws]; exact wt_split t gap hgl
    have wl1 : 1 ≤ ws.length := by rw [← hws]; exact split_pos _ _
    have wl2 : ws.length ≤ t.length + 2 := by rw [← hws]; exact split_le _ _
    obtain ⟨H6, q6, s6, hwl⟩ := newAt (.lst (ws.map V.str)) nwl
    rw [q6]
    have hp6 := hp5.same s6
    have lw : ((ws.map V.str).length : Int) = (ws.length : Int) := by rw [List.length_map]
    refine ⟨_, rfl, _, rfl, wl, _, rfl, .inl (SqL.of hwl), p, _, rfl, hp6, by omega, by omega, fun sp H7 f0 f1 hp7 tk7 => ?_⟩
    obtain ⟨sp', rfl⟩ : ∃ sp' : Nat, sp = (sp' : Int) := ⟨sp.toNat, by omega⟩
    have x67 := sameX_take tk7
    have pwl : wl ≠ p := fun q => by
      obtain ⟨u, w', e, _⟩ := hp5
      rw [← q, nwl] at e; cases e
    have hwl7 := x67 _ _ pwl hwl
    refine ⟨_, rfl, _, rfl, wl, _, rfl, .inl (SqL.of hwl7), p, _, rfl, hp7, by omega, by omega, fun ot H8 g0 g1 hp8 tk8 => ?_⟩
    obtain ⟨ot', rfl⟩ : ∃ ot' : Nat, ot = (ot' : Int) := ⟨ot.toNat, by omega⟩
    have x78 := sameX_take tk8
    have hwl8 := x78 _ _ pwl hwl7
    rw [lw] at f1 g1
    have x48 : SameX p H4 H8 := (x45.trans (Same.x s6)).trans (x67.trans x78)
    have hl18 := x48 _ _ (pn nl1) (s4 _ _ hl1)
    obtain ⟨xs, hxs⟩ : ∃ x, ws[sp']? = some x := ⟨_, List.getElem?_eq_getElem (by omega)⟩
    obtain ⟨xo, hxo⟩ : ∃ x, ws[ot']? = some x := ⟨_, List.getElem?_eq_getElem (by omega)⟩
    have strAt : ∀ {ws : List Str} {k : Nat} {z : Str}, ws[k]? = some z → (ws.map V.str)[k]? = some (V.str z) := fun {ws k z} e => by rw [List.getElem?_map, e]; rfl
    have cT : ∀ j : Nat, cutV (ws.map V.str) none (some (j : Int)) = (ws.take j).map V.str := fun j => by
      unfold cutV
      rw [HT.sIx_none, List.drop_zero, Nat.sub_zero, HT.sIx_nat, List.map_take]
      by_cases c : j ≤ (ws.map V.str).length
      · rw [Nat.min_eq_left c]
      · rw [Nat.min_eq_right (by omega), List.take_of_length_le (Nat.le_refl _), List.take_of_length_le (by omega)]
    have cD : ∀ j : Nat, cutV (ws.map V.str) (some (j : Int)) none = (ws.drop j).map V.str := fun j => by
      unfold cutV
      rw [HT.sIx_nat, HT.sIx_none, List.map_drop, List.take_of_length_le (by rw [List.length_drop]; exact Nat.le_refl _)]
      by_cases c : j ≤ (ws.map V.str).length
      · rw [Nat.min_eq_left c]
      · rw [Nat.min_eq_right (by omega), List.drop_eq_nil_of_le (Nat.le_refl _), List.drop_eq_nil_of_le (by omega)]
    have ljoin : ∀ ys : List Str, wt ys ≤ 4000 → (ys.map (·.length)).sum + ys.length * gap.length ≤ 16777216 := fun ys h => by
      rw [hgl, Nat.mul_one]
      unfold wt at h
      omega
    have lmap : ∀ ys : List Str, (ys.map V.str).length ≤ wt ys := fun ys => by
      rw [List.length_map]
      unfold wt
      omega
    have one1 : ((sp' : Int) + 1) = ((sp' + 1 : Nat) : Int) := by omega
    refine ⟨_, _, rfl, _, rfl, _, rfl, ⟨_, rfl⟩, ?_⟩
    have W : ∀ ys : List Str, wt ys ≤ 2 * (t.length + 1) → wt ys ≤ 4000 := fun ys h => by omega
    have w1 : wt (ws.take sp' ++ ws.drop (sp' + 1)) ≤ t.length + 1 := by
      rw [wt_app]
      have := wt_cut ws sp'
      have := wt_dropLe ws (show sp' ≤ sp' + 1 from Nat.le_succ sp')
      omega
    have w2 : wt (ws.take (sp' + 1) ++ ws.drop sp') ≤ 2 * (t.length + 1) := by
      rw [wt_app]
      have := wt_take ws (sp' + 1)
      have := wt_drop ws sp'
      omega
    have w3 : wt ((ws.set sp' xo).set ot' xs) ≤ t.length + 1 := by rw [wt_swap hxs hxo]; exact wW
    refine ⟨_, rfl, _, rfl, _, rfl, wl, _, rfl, SqL.of hwl8, fun u1 nu1 => ?_⟩
    rw [cT]
    obtain ⟨G1, r1, z1, hu1⟩ := newAt (.lst ((ws.take sp').map V.str)) nu1
    rw [r1]
    refine ⟨_, rfl, _, rfl, _, _, rfl, rfl, _, rfl, wl, _, rfl, SqL.of (z1 _ _ hwl8), fun u2 nu2 => ?_⟩
    rw [one1, cD]
    obtain ⟨G2, r2, z2, hu2⟩ := newAt (.lst ((ws.drop (sp' + 1)).map V.str)) nu2
    rw [r2]
    refine ⟨u1, u2, _, _, rfl, rfl, z2 _ _ hu1, hu2, by rw [← List.length_append, ← List.map_append]; exact fit _ (Nat.le_trans (lmap _) (by omega)), fun u3 nu3 => ?_⟩
    rw [← List.map_append]
    obtain ⟨G3, r3, z3, hu3⟩ := newAt (.lst ((ws.take sp' ++ ws.drop (sp' + 1)).map V.str)) nu3
    rw [r3]
    refine ⟨gap, u3, _, rfl, rfl, .inl (SqL.of hu3), ljoin _ (W _ (by omega)), ?_⟩
    obtain ⟨S4, hS4⟩ : ∃ S, Txt.join gap (ws.take sp' ++ ws.drop (sp' + 1)) = S := ⟨_, rfl⟩
    rw [hS4]
    have b4 : S4.length ≤ 2 * t.length + 2 := by rw [← hS4]; have := join_le gap hgl (ws.take sp' ++ ws.drop (sp' + 1)); omega
    have z13 := z1.trans (z2.trans z3)
    refine ⟨_, rfl, ⟨_, rfl⟩, _, rfl, _, rfl, _, _, rfl, rfl, _, rfl, wl, _, rfl, SqL.of (z13 _ _ hwl8), fun u4 nu4 => ?_⟩
    rw [one1, cT]
    obtain ⟨G4, r4, z4, hu4⟩ := newAt (.lst ((ws.take (sp' + 1)).map V.str)) nu4
    rw [r4]
    refine ⟨_, rfl, _, rfl, _, rfl, wl, _, rfl, SqL.of ((z13.trans z4) _ _ hwl8), fun u5 nu5 => ?_⟩
    rw [cD]
    obtain ⟨G5, r5, z5, hu5⟩ := newAt (.lst ((ws.drop sp').map V.str)) nu5
    rw [r5]
    refine ⟨u4, u5, _, _, rfl, rfl, z5 _ _ hu4, hu5, by rw [← List.length_append, ← List.map_append]; exact fit _ (Nat.le_trans (lmap _) (by omega)), fun u6 nu6 => ?_⟩
    rw [← List.map_append]
    obtain ⟨G6, r6, z6, hu6⟩ := newAt (.lst ((ws.take (sp' + 1) ++ ws.drop sp').map V.str)) nu6
    rw [r6]
    refine ⟨gap, u6, _, rfl, rfl, .inl (SqL.of hu6), ljoin _ (W _ w2), ?_⟩
    obtain ⟨S5, hS5⟩ : ∃ S, Txt.join gap (ws.take (sp' + 1) ++ ws.drop sp') = S := ⟨_, rfl⟩
    rw [hS5]
    have b5 : S5.length ≤ 2 * t.length + 2 := by rw [← hS5]; have := join_le gap hgl (ws.take (sp' + 1) ++ ws.drop sp'); omega
    refine ⟨by show 2 ≤ sizeLine; decide, fun u7 nu7 => ?_⟩
    obtain ⟨G7, r7, z7, hu7⟩ := newAt (.lst [V.str S4, V.str S5]) nu7
    rw [r7]
    have z17 := z13.trans (z4.trans (z5.trans (z6.trans z7)))
    refine ⟨l1, u7, _, _, rfl, rfl, z17 _ _ hl18, hu7, by show 3 + 2 ≤ sizeLine; decide, fun u8 nu8 => ?_⟩
    obtain ⟨G8, r8, z8, hu8⟩ := newAt (.lst ([V.str S1, V.str S2, V.str S3] ++ [V.str S4, V.str S5])) nu8
    rw [r8]
    have z18 := z17.trans z8
    have hwlG := z18 _ _ hwl8
    refine ⟨_, rfl, wl, _, rfl, .inl (SqL.of hwlG), fun mv nmv => ?_⟩
    obtain ⟨G9, r9, z9, hmv⟩ := newAt (.lst (ws.map V.str)) nmv
    rw [r9]
    have hwl9 := z9 _ _ hwlG
    refine ⟨_, rfl, _, rfl, wl, _, (ot' : Int), _, rfl, rfl, SqL.of hwl9, atI_nat (strAt hxo), _, rfl, _, rfl, wl, _, (sp' : Int), _, rfl, rfl, SqL.of hwl9, atI_nat (strAt hxs), by show 2 ≤ sizeLine; decide, fun T nT => ?_⟩
    obtain ⟨Ga, ra, za, hT⟩ := newAt (.tup [V.str xo, V.str xs]) nT
    rw [ra]
    have hmva := za _ _ hmv
    refine ⟨T, _, rfl, SqT.of hT, rfl, ?_⟩
    have hsp : sp' < (ws.map V.str).length := by rw [List.length_map]; omega
    refine ⟨_, _, rfl, _, rfl, _, rfl, mv, ws.map V.str, (sp' : Int), sp', rfl, rfl, hmva, ixAt hsp, ?_⟩
    obtain ⟨Gb, rb⟩ : ∃ Gb, upd Ga mv (.lst ((ws.set sp' xo).map V.str)) = Gb := ⟨_, rfl⟩
    have rb' : upd Ga mv (.lst ((ws.map V.str).set sp' (V.str xo))) = Gb := by rw [← rb]; simp only [List.map_set]
    rw [rb']
    have hmvb : Gb mv = some (.lst ((ws.set sp' xo).map V.str)) := by rw [← rb, upd_same]
    have hot : ot' < ((ws.set sp' xo).map V.str).length := by rw [List.length_map, List.length_set]; omega
    refine ⟨_, _, rfl, _, rfl, _, rfl, mv, _, (ot' : Int), ot', rfl, rfl, hmvb, ixAt hot, rfl, ?_⟩
    obtain ⟨Gc, rc⟩ : ∃ Gc, upd Gb mv (.lst (((ws.set sp' xo).set ot' xs).map V.str)) = Gc := ⟨_, rfl⟩
    have rc' : upd Gb mv (.lst (((ws.set sp' xo).map V.str).set ot' (V.str xs))) = Gc := by rw [← rc]; simp only [List.map_set]
    rw [rc']
    have hmvc : Gc mv = some (.lst (((ws.set sp' xo).set ot' xs).map V.str)) := by rw [← rc, upd_same]
    have keepC : ∀ z o, G8 z = some o → Gc z = some o := fun z o e => by
      rw [← rc, upd_ne (ne_of_none e nmv), ← rb, upd_ne (ne_of_none e nmv)]
      exact za _ _ (z9 _ _ e)
    refine ⟨_, rfl, _, rfl, ⟨_, rfl⟩, _, rfl, gap, mv, _, rfl, rfl, .inl (SqL.of hmvc), ljoin _ (W _ (by omega)), ?_⟩
    obtain ⟨S6, hS6⟩ : ∃ S, Txt.join gap ((ws.set sp' xo).set ot' xs) = S := ⟨_, rfl⟩
    rw [hS6]
    have b6 : S6.length ≤ 2 * t.length + 2 := by rw [← hS6]; have := join_le gap hgl ((ws.set sp' xo).set ot' xs); omega
    refine ⟨_, rfl, _, rfl, _, _, rfl, rfl, fit _ (by omega), ?_⟩
    obtain ⟨S7, hS7⟩ : ∃ S, t ++ gap = S := ⟨_, rfl⟩
    rw [hS7]
    have b7 : S7.length ≤ 2 * t.length + 2 := by rw [← hS7, appL]; omega
    refine ⟨by show 2 ≤ sizeLine; decide, fun u9 nu9 => ?_⟩
    obtain ⟨Gd, rd, zd, hu9⟩ := newAt (.lst [V.str S6, V.str S7]) nu9
    rw [rd]
    have hu8d := zd _ _ (keepC _ _ hu8)
    refine ⟨u8, u9, _, _, rfl, rfl, hu8d, hu9, by show 3 + 2 + 2 ≤ sizeLine; decide, fun v1 nv1 => ?_⟩
    obtain ⟨Ge, re, ze, hv1⟩ := newAt (.lst ([V.str S1, V.str S2, V.str S3] ++ [V.str S4, V.str S5] ++ [V.str S6, V.str S7])) nv1
    rw [re]
    have keepE : Same H8 Ge := fun z o e => ze _ _ (zd _ _ (keepC z o (z18 _ _ e)))
    have hpE := hp8.same keepE
    refine ⟨_, rfl, p, 7, rfl, hpE, by decide, by decide, fun ii Hf h0 h1 hpf tkf => ?_⟩
    have xE := sameX_take tkf
    have v1p : v1 ≠ p := fun q => by
      obtain ⟨u8', w8', e8, _⟩ := hp8
      have e9 := zd _ _ (keepC _ _ (z18 _ _ e8))
      rw [← q, nv1] at e9
      cases e9
    have hv1f := xE _ _ v1p hv1
    obtain ⟨S, hS, bS⟩ : ∃ S : Str, atI ([V.str S1, V.str S2, V.str S3] ++ [V.str S4, V.str S5] ++ [V.str S6, V.str S7]) ii = some (.str S) ∧ S.length ≤ 2 * t.length + 3 := by
      obtain rfl | rfl | rfl | rfl | rfl | rfl | rfl : ii = 0 ∨ ii = 1 ∨ ii = 2 ∨ ii = 3 ∨ ii = 4 ∨ ii = 5 ∨ ii = 6 := by omega
      · exact ⟨S1, rfl, by omega⟩
      · exact ⟨S2, rfl, by omega⟩
      · exact ⟨S3, rfl, by omega⟩
      · exact ⟨S4, rfl, by omega⟩
      · exact ⟨S5, rfl, by omega⟩
      · exact ⟨S6, rfl, by omega⟩
      · exact ⟨S7, rfl, by omega⟩
    refine ⟨v1, _, ii, _, rfl, rfl, SqL.of hv1f, hS, k S Hf ?_ hpf bS⟩
    exact (x2.trans (Same.x s24)).trans (x48.trans ((Same.x keepE).trans xE))
end
end K81
set_option Elab.async false
set_option linter.all false
set_option maxRecDepth 100000
set_option maxHeartbeats 8000000
namespace K81
open PySem PySem.Spec PyProof.Rows L2 FNX
/-- a method that is called where reprs run further out -/
def MAtGg (P : Program) (w : World) (K : PySem.W.Frag) (mg : Str → Option Value) (base : Heap) (C : Addr) (k : Nat) (x : Str) (ps : List Str) (sp : List Code → Sp) : Prop :=
  ∃ f fd, GgOk P w K mg base k f fd ps sp ∧ PySem.W.findIn K (.ref C) x = some (some (.ref f)) ∧ PySem.W.isFn K (.ref f) = true ∧ L2.Binds K fd ps []
def rJoin (K : PySem.W.Frag) : V → List V → Hp → VK → Prop := fun x xs H Q => ∃ a p ys, x = V.str a ∧ xs = [V.ref p] ∧ (SqL K H p (List.map V.str ys) ∨ SqT K H p (List.map V.str ys)) ∧
  (List.map (fun x => x.length) ys).sum + ys.length * a.length ≤ 16777216 ∧ Q (V.str (Txt.join a ys)) H
def spKr81 : Sp := fun vs H Q _ => vs = [] ∧ ∀ H', Same H H' → Q (.bl true) H'
def TxtsAt (H : Hp) (a : Addr) (ts : List Str) : Prop := H a = some (.lst (ts.map V.str)) ∧ ∀ t ∈ ts, t.length ≤ 450
theorem TxtsAt.same {H H' : Hp} {a : Addr} {ts : List Str} (h : TxtsAt H a ts) (s : Same H H') : TxtsAt H' a ts := ⟨s _ _ h.1, h.2⟩
theorem oneSign : ∀ i : Nat, i < 10 → (Str.ofString (toString ((i : Nat) : Int))).length = 1 := fun i h => by
  have : ∀ i : Fin 10, (Str.ofString (toString ((i.val : Nat) : Int))).length = 1 := by decide +kernel
  exact this ⟨i, h⟩
theorem log10 {i : Int} (h : i.natAbs < 2 ^ 100) : i.natAbs.log2 < 1920 := by
  by_cases c : i.natAbs = 0
  · rw [c]
    decide
  · exact Nat.lt_trans ((Nat.log2_lt c).mpr h) (by decide)
theorem mul10 : MulOk " 1" 10 := ⟨by decide, fun _ _ => by decide +kernel, fun _ _ => by decide +kernel⟩
section
variable {P : Program} {w : World} {K : PySem.W.Frag} {mg : Str → Option Value} {base : Heap} {CG CX' CS CM CE : Addr}
theorem sc_kr81 : FnScope ["_law_thing", "_law_pairs", "_law_one", "_law_end", "_law_texts", "_law_two", "_law_count", "_law_text"] [] (defScope s__law_known_right) := ⟨rfl, rfl, rfl, by decide +kernel, rfl, by decide +kernel, by decide +kernel⟩
theorem ok_kr81 {f : Addr} {fd : FuncData} (F : Fun K "_law_known_right" "_law_known_right" s__law_known_right f fd) (M : Nms mg) (n_str : mg "str" = none)
    (GTo : At P w K mg base CX0 10 "_law_told" ["_law_text"] (spTold81 K CG)) (GDu : At P w K mg base CX0 8 "_law_due" ["_law_text"] (spDue81 K CG)) (GRp : MAtGg P w K mg base CG 4 "__repr__" ["self"] (spReprGg CG)) :
    GOk P w K mg base 11 f fd [] spKr81 := by
  obtain ⟨fTo, fdTo, GTo, mTo, kTo, bTo⟩ := GTo
  obtain ⟨fDu, fdDu, GDu, mDu, kDu, bDu⟩ := GDu
  obtain ⟨fRp, fdRp, GRp, sRp, fnRp, bRp⟩ := GRp
  refine okG F sc_kr81 (fun vs H Q E h => ?_) (fun cdv A' outer s H vs Q E hgd hr h => ?_)
  · obtain ⟨rfl, _⟩ := h
    rfl
  · obtain ⟨rfl, k⟩ := h
    have nd := sc_kr81.nd
    have hu64 : A'.units + 3 + 64 < cLine := hr.units
    have big : (5000 : Nat) < sizeLine := by rw [sizeLine_eq]; decide
    have fit : ∀ n : Nat, n ≤ 5000 → n ≤ sizeLine := fun n h => by omega
    refine ⟨_, (pss_cons (ps_for PassesOwn.never rfl (pi_list (pe_lst (pa_cons pe_non (pa_cons pe_int (pa_cons pe_bl (pa_cons (pe_lst (pa_cons pe_str pa_nil)) (pa_cons pe_dnewK pa_nil))))))) (pg_name (i := 0) nd rfl (Or.inl rfl)) (pss_one (ps_if (pt_cmpR (show OpR _ (compareOp .NotEq) (rNeD K) from op_neD hu64) (pe_call GTo (hr.mono (by decide)) (by rfl) mTo kTo bTo .nil pass0 (pa_cons (pv 0) pa_nil)) (pe_lst (pa_cons pe_str (pa_cons pe_int pa_nil))) (nomark _)) (pss_one (ps_ret pe_bl)) pss_nil)))
      (pss_cons (ps_set (i := 1) nd rfl (Or.inr rfl) (pe_lst pa_nil))
      (pss_cons (ps_for PassesOwn.never rfl (pi_range1 rfl M.range (pa_cons pe_int pa_nil)) (pg_name (i := 2) nd rfl (Or.inr rfl)) (pss_one (ps_set (i := 1) nd rfl (Or.inr rfl) (pe_op op_cat (pv 1) (pe_lc (own := [("_law_two", 5)]) (g := gName 5) (tt := tYes) rfl nd (pi_range1 rfl M.range (pa_cons (pv 2) pa_nil)) (blkOk_by (own := [("_law_two", 5)]) (N := ["_law_thing", "_law_pairs", "_law_one", "_law_end", "_law_texts", "_law_two", "_law_count", "_law_text"]) (sc := defScope s__law_known_right) (by decide +kernel)) (fun _ _ _ _ _ => pg_name (i := 5) nd rfl (Or.inl rfl)) (fun _ _ _ _ _ => pts_nil) (fun _ _ _ _ _ => (pe_op op_add_str (pe_op op_add_str (pe_op op_add_str pe_str (pe_callTy call_str_int (by rfl) n_str (by decide +kernel) (pa_cons (pv 2) pa_nil))) pe_str) (pe_callTy call_str_int (by rfl) n_str (by decide +kernel) (pa_cons (pv 5) pa_nil)))))))))
      (pss_cons (ps_set (i := 3) nd rfl (Or.inr rfl) (pe_op op_add_str pe_str (pe_op op_mulS pe_str pe_int)))
      (pss_cons (ps_set (i := 4) nd rfl (Or.inl rfl) (pe_op op_cat (pe_lc (own := [("_law_count", 6)]) (g := gName 6) (tt := tYes) rfl nd (pi_list (pe_lst (pa_cons pe_int (pa_cons pe_int pa_nil)))) (blkOk_by (own := [("_law_count", 6)]) (N := ["_law_thing", "_law_pairs", "_law_one", "_law_end", "_law_texts", "_law_two", "_law_count", "_law_text"]) (sc := defScope s__law_known_right) (by decide +kernel)) (fun _ _ _ _ _ => pg_name (i := 6) nd rfl (Or.inl rfl)) (fun _ _ _ _ _ => pts_nil) (fun _ _ _ _ _ => (pe_op op_add_str (pe_op op_add_str pe_str (show PE _ _ (tM1 (rJoin K) _ _) from pe_join pe_str (pe_slice (r := rSlL K) sl_list (pv 1) po_none (po_some (pv 6))))) (pv 3)))) (pe_lst (pa_cons pe_str (pa_cons pe_str pa_nil)))))
      (pss_cons (ps_set (i := 4) nd rfl (Or.inl rfl) (pe_op op_cat (pv 4) (pe_lst (pa_cons pe_str (pa_cons pe_str (pa_cons pe_str (pa_cons pe_str (pa_cons pe_str pa_nil))))))))
      (pss_cons (ps_set (i := 4) nd rfl (Or.inl rfl) (pe_op op_cat (pv 4) (pe_lst (pa_cons pe_str (pa_cons pe_str pa_nil)))))
      (pss_cons (ps_expr (pe_bm PySem.F.plainAttrs_list PySem.F.slot_list_append PySem.F.type_list_append mt_append (pv 4) (pa_cons pe_str pa_nil)))
      (pss_cons (ps_set (i := 4) nd rfl (Or.inl rfl) (pe_op op_cat (pv 4) (pe_lst (pa_cons pe_str (pa_cons pe_str (pa_cons pe_str pa_nil))))))
      (pss_cons (ps_expr (pe_bm PySem.F.plainAttrs_list PySem.F.slot_list_append PySem.F.type_list_append mt_append (pv 4) (pa_cons pe_str pa_nil)))
      (pss_cons (ps_set (i := 4) nd rfl (Or.inl rfl) (pe_op op_cat (pv 4) (pe_lst (pa_cons pe_str (pa_cons pe_str (pa_cons pe_str pa_nil))))))
      (pss_one (ps_ret (pe_cmpR (show OpR _ (compareOp .Eq) (rEqD K) from op_eqD hu64) (pe_lc (own := [("_law_text", 7)]) (g := gName 7) rfl nd (pi_list (pv 4)) (blkOk_by (own := [("_law_text", 7)]) (N := ["_law_thing", "_law_pairs", "_law_one", "_law_end", "_law_texts", "_law_two", "_law_count", "_law_text"]) (sc := defScope s__law_known_right) (by decide +kernel)) (fun _ _ _ _ _ => pg_name (i := 7) nd rfl (Or.inl rfl)) (fun _ _ _ _ _ => pts_one (pt_cmpR op_ne (pe_callB (show CallR _ (.builtin "repr") (rReprA K CG) from call_or (call_repr hgd hr.units) (call_reprO GRp hgd sRp fnRp bRp (hr.mono (by decide)))) (by rfl) M.repr boot_repr1 (pa_cons (pe_call GTo (hr.mono (by decide)) (by rfl) mTo kTo bTo .nil pass0 (pa_cons (pv 7) pa_nil)) pa_nil)) (pe_callB (show CallR _ (.builtin "repr") (rReprA K CG) from call_or (call_repr hgd hr.units) (call_reprO GRp hgd sRp fnRp bRp (hr.mono (by decide)))) (by rfl) M.repr boot_repr1 (pa_cons (pe_call GDu (hr.mono (by decide)) (by rfl) mDu kDu bDu .nil pass0 (pa_cons (pv 7) pa_nil)) pa_nil)) (nomark _))) (fun _ _ _ _ _ => (pv 7))) (pe_lst pa_nil) (nomark _))))))))))))))), ?_⟩
    refine ⟨by show 1 ≤ sizeLine; decide, fun l1 nl1 => ?_⟩
    obtain ⟨H1, q1, s1, hl1⟩ := newAt (.lst [V.str "graph 1"]) nl1
    rw [q1]
    intro d1 nd1
    obtain ⟨H2, q2, s2, hd1⟩ := newAt (.dK []) nd1
    rw [q2]
    refine ⟨by show 5 ≤ sizeLine; decide, fun L nL => ?_⟩
    obtain ⟨H3, q3, s3, hL⟩ := newAt (.lst [V.non, V.int 5, V.bl true, V.ref l1, V.ref d1]) nL
    rw [q3]
    have s03 := s1.trans (s2.trans s3)
    refine ⟨L, rfl, ⟨_, SqL.of hL⟩, for_list (K := K) (a := L) (xs := [V.non, V.int 5, V.bl true, V.ref l1, V.ref d1]) (fun i σ G => ∃ v0 : Option V, σ = [v0, none, none, none, none, none, none, none] ∧ Same H3 G) ⟨none, rfl, Same.refl _⟩ (fun i σ G _ h => ?_) (fun i y σ G hi h => ?_) (fun σ G h => ?_)⟩
    · obtain ⟨_, _, sG⟩ := h
      exact SqL.of (sG _ _ hL)
    · obtain ⟨v0, rfl, sG⟩ := h
      obtain ⟨d, hd, nt⟩ : ∃ d, Rd K G y d ∧ ∀ t, d ≠ .str t := by
        have hlt : i < 5 := (List.getElem?_eq_some_iff.mp hi).1
        obtain rfl | rfl | rfl | rfl | rfl : i = 0 ∨ i = 1 ∨ i = 2 ∨ i = 3 ∨ i = 4 := by omega
        · obtain rfl := Option.some.inj hi
          exact ⟨.none, .dat .non, fun t e => by cases e⟩
        · obtain rfl := Option.some.inj hi
          exact ⟨.int 5, .dat (.int _), fun t e => by cases e⟩
        · obtain rfl := Option.some.inj hi
          exact ⟨.bool true, .dat (.bl _), fun t e => by cases e⟩
        · obtain rfl := Option.some.inj hi
          exact ⟨.list [.str "graph 1"], .dat (.lst (SqL.of (sG _ _ (s3 _ _ (s2 _ _ hl1)))) (.cons (.str _) .nil)), fun t e => by cases e⟩
        · obtain rfl := Option.some.inj hi
          exact ⟨.dict [], .dct [] (sG _ _ (s3 _ _ hd1)), fun t e => by cases e⟩
      have r0 : resR d = .error 0 := by cases d <;> first | rfl | exact absurd rfl (nt _)
      refine ⟨_, rfl, y, d, rfl, hd, fun t e => absurd e (nt t), fun q G1 nq sq hq => ?_⟩
      rw [r0] at hq
      refine ⟨by show 2 ≤ sizeLine; decide, fun p np => ?_⟩
      obtain ⟨G2, q4, s4, hp⟩ := newAt (.lst [V.str "no", V.int 0]) np
      rw [q4]
      refine ⟨.list [.str "no", .int 0], .list [.str "no", .int 0], .lst (SqL.of (s4 _ _ hq)) (.cons (.str _) (.cons (.int _) .nil)), .lst (SqL.of hp) (.cons (.str _) (.cons (.int _) .nil)), by decide +kernel, by decide +kernel, _, rfl, ?_⟩
      rw [show (!PyData.eqv (.list [.str "no", .int 0]) (.list [.str "no", .int 0])) = false from by decide +kernel]
      exact iteF ⟨_, rfl, sG.trans (sq.trans s4)⟩
    obtain ⟨v0, rfl, sG⟩ := h
    have s0G := s03.trans sG
    clear sG s03 hL q3 s3 nL hd1 q2 s2 nd1 hl1 q1 s1 nl1
    refine ⟨by show 0 ≤ sizeLine; decide, fun pa npa => ?_⟩
    obtain ⟨J0, q0, s0, hpa⟩ := newAt (.lst []) npa
    rw [q0]
    refine ⟨_, rfl, by decide, by decide, for_range (lo := 0) (fun i σ J => ∃ (v0 v2 : Option V) (a : Addr) (ws : List Str), σ = [v0, some (.ref a), v2, none, none, none, none, none] ∧ Same H J ∧ J a = some (.lst (ws.map V.str)) ∧ ws.length ≤ 10 * i ∧ ∀ t ∈ ws, t.length = 8)
      ⟨v0, none, pa, [], rfl, s0G.trans s0, hpa, Nat.zero_le _, by simp⟩ (fun i σ J hi h => ?_) (fun σ J h => ?_)⟩
    · obtain ⟨v0, v2, a, ws, rfl, sJ, ha, lw, hw⟩ := h
      have i10 : i < 10 := hi
      rw [Int.zero_add]
      refine ⟨_, rfl, _, rfl, _, rfl, by omega, by omega, fun D nD => ?_⟩
      have sD := same_upd (o := HO.lst []) nD
      refine lc_range (lo := 0) (fun j J' => Same J J' ∧ ∃ us : List Str, J' D = some (.lst (us.map V.str)) ∧ us.length = j ∧ ∀ t ∈ us, t.length = 8) ⟨sD, [], upd_same, rfl, by simp⟩ (fun j J' hj h => ?_) (fun J' h => ?_)
      · obtain ⟨sJ', us, hus, lus, wus⟩ := h
        have w1 := oneSign i i10
        have w2 := oneSign j (by omega)
        have e1 : ("edge " : Str).length = 5 := by decide +kernel
        have e2 : (" " : Str).length = 1 := by decide +kernel
        refine ⟨rfl, ?_⟩
        rw [Int.zero_add]
        obtain ⟨si, hsi⟩ : ∃ z, Str.ofString (toString ((i : Nat) : Int)) = z := ⟨_, rfl⟩
        obtain ⟨sj, hsj⟩ : ∃ z, Str.ofString (toString ((j : Nat) : Int)) = z := ⟨_, rfl⟩
        rw [hsi] at w1
        rw [hsj] at w2
        refine ⟨_, rfl, _, rfl, log10 (Nat.lt_of_lt_of_le (show ((i : Nat) : Int).natAbs < 10 by omega) (by decide)), ?_⟩
        rw [hsi]
        refine ⟨_, _, rfl, rfl, fit _ (by rw [e1, w1]; decide), ?_⟩
        refine ⟨_, _, rfl, rfl, fit _ (by rw [appL, e1, w1, e2]; decide), ?_⟩
        refine ⟨_, rfl, _, rfl, log10 (Nat.lt_of_lt_of_le (show ((j : Nat) : Int).natAbs < 10 by omega) (by decide)), ?_⟩
        rw [hsj]
        refine ⟨_, _, rfl, rfl, fit _ (by rw [appL, appL, e1, w1, e2, w2]; decide), ?_⟩
        refine ⟨_, hus, by rw [List.length_map, lus]; exact Nat.lt_of_lt_of_le (Nat.lt_trans (show j < 10 by omega) (by decide)) (Nat.le_of_lt big), ?_, us ++ ["edge " ++ si ++ " " ++ sj], by rw [upd_same, List.map_append]; rfl, by rw [List.length_append, lus]; rfl, fun t ht => ?_⟩
        · intro b o e
          rw [upd_ne (ne_of_none e nD)]
          exact sJ' _ _ e
        · rcases List.mem_append.mp ht with ht | ht
          · exact wus t ht
          · rw [List.mem_singleton.mp ht, appL, appL, appL, e1, w1, e2, w2]
      · obtain ⟨sJ', us, hus, lus, wus⟩ := h
        refine ⟨a, D, _, _, rfl, rfl, sJ' _ _ ha, hus, by rw [List.length_map, List.length_map]; exact fit _ (by omega), fun p np => ?_⟩
        have sp := same_upd (o := HO.lst (ws.map V.str ++ us.map V.str)) np
        refine ⟨_, _, p, ws ++ us, rfl, (sJ.trans sJ').trans sp, by rw [upd_same, List.map_append], by rw [List.length_append]; omega, fun t ht => ?_⟩
        rcases List.mem_append.mp ht with ht | ht
        · exact hw t ht
        · exact wus t ht
    obtain ⟨v0, v2, a, ws, rfl, sJ, ha, lw, hw⟩ := h
    clear hpa q0 s0 npa s0G
    refine ⟨" 1", 10, rfl, rfl, mul10, ?_⟩
    rw [show Txt.mul " 1" 10 = " 1 1 1 1 1 1 1 1 1 1" from by decide +kernel]
    refine ⟨_, _, rfl, rfl, by decide +kernel, ?_⟩
    rw [show ("\nnumbers" : Str) ++ " 1 1 1 1 1 1 1 1 1 1" = "\nnumbers 1 1 1 1 1 1 1 1 1 1" from by decide +kernel]
    have lend : ("\nnumbers 1 1 1 1 1 1 1 1 1 1" : Str).length = 28 := by decide +kernel
    obtain ⟨En, hEn⟩ : ∃ z, ("\nnumbers 1 1 1 1 1 1 1 1 1 1" : Str) = z := ⟨_, rfl⟩
    rw [hEn] at lend ⊢
    refine ⟨by show 2 ≤ sizeLine; decide, fun c nc => ?_⟩
    obtain ⟨J1, q1, s1, hc⟩ := newAt (.lst [V.int 40, V.int 41]) nc
    rw [q1]
    refine ⟨c, rfl, ⟨_, SqL.of hc⟩, fun D nD => ?_⟩
    have sD := same_upd (o := HO.lst []) nD
    refine lc_list (K := K) (a := c) (xs := [V.int 40, V.int 41]) (fun i J' => Same J1 J' ∧ ∃ us : List Str, J' D = some (.lst (us.map V.str)) ∧ us.length = i ∧ ∀ t ∈ us, t.length ≤ 450) ⟨sD, [], upd_same, rfl, by simp⟩ (fun i J' hi h => SqL.of (h.1 _ _ hc)) (fun i x J' hi h => ?_) (fun J' h => ?_)
    · obtain ⟨sJ', us, hus, lus, wus⟩ := h
      obtain ⟨cnt, rfl, hcnt⟩ : ∃ n : Nat, x = .int n ∧ n ≤ 41 := by
        have hlt : i < 2 := (List.getElem?_eq_some_iff.mp hi).1
        obtain rfl | rfl : i = 0 ∨ i = 1 := by omega
        · exact ⟨40, (Option.some.inj hi).symm, by decide⟩
        · exact ⟨41, (Option.some.inj hi).symm, by decide⟩
      have ea : ("graph 10\n" : Str).length = 9 := by decide +kernel
      have en : ("\n" : Str).length = 1 := by decide +kernel
      refine ⟨rfl, ?_⟩
      refine ⟨⟨_, rfl⟩, _, rfl, _, rfl, _, rfl, a, _, rfl, SqL.of (sJ' _ _ (s1 _ _ ha)), fun z nz => ?_⟩
      have cT : cutV (ws.map V.str) none (some (cnt : Int)) = (ws.take cnt).map V.str := by
        unfold cutV
        rw [HT.sIx_none, List.drop_zero, Nat.sub_zero, HT.sIx_nat, List.map_take]
        by_cases c : cnt ≤ (ws.map V.str).length
        · rw [Nat.min_eq_left c]
        · rw [Nat.min_eq_right (by omega), List.take_of_length_le (Nat.le_refl _), List.take_of_length_le (by omega)]
      rw [cT]
      obtain ⟨J2, q2, s2, hz⟩ := newAt (.lst ((ws.take cnt).map V.str)) nz
      rw [q2]
      have wtk : wt (ws.take cnt) ≤ 369 := by
        have l1 : (ws.take cnt).length ≤ 41 := by rw [List.length_take]; omega
        have : ((ws.take cnt).map (·.length)).sum = 8 * (ws.take cnt).length := by
          have : ∀ y ∈ ws.take cnt, y.length = 8 := fun y hy => hw y (List.mem_of_mem_take hy)
          revert this
          generalize ws.take cnt = zs
          intro this
          induction zs with
          | nil => rfl
          | cons y ys ih =>
            rw [List.map_cons, List.sum_cons, ih fun u hu => this u (List.mem_cons_of_mem _ hu), this y List.mem_cons_self, List.length_cons]
            omega
        unfold wt
        omega
      refine ⟨"\n", z, _, rfl, rfl, .inl (SqL.of hz), by rw [en]; unfold wt at wtk; omega, ?_⟩
      have bj := join_le "\n" en (ws.take cnt)
      obtain ⟨S, hS⟩ : ∃ S, Txt.join "\n" (ws.take cnt) = S := ⟨_, rfl⟩
      rw [hS] at bj ⊢
      refine ⟨_, _, rfl, rfl, fit _ (by omega), ?_⟩
      refine ⟨_, rfl, _, _, rfl, rfl, fit _ (by rw [appL]; omega), ?_⟩
      refine ⟨_, s2 _ _ hus, by rw [List.length_map, lus]; exact Nat.lt_of_le_of_lt (Nat.le_of_lt (List.getElem?_eq_some_iff.mp hi).1) (by show 2 < sizeLine; decide), fun b o e => ?_, us ++ ["graph 10\n" ++ S ++ En], by rw [upd_same, List.map_append]; rfl, by rw [List.length_append, lus]; rfl, fun t ht => ?_⟩
      · rw [upd_ne (ne_of_none e nD)]
        exact s2 _ _ (sJ' _ _ e)
      · rcases List.mem_append.mp ht with ht | ht
        · exact wus t ht
        · rw [List.mem_singleton.mp ht, appL, appL]
          omega
    obtain ⟨sJ', us, hus, lus, wus⟩ := h
    obtain ⟨ts0, M0, a0, sM0, n0, h0, b0, l0, rfl, rfl, rfl⟩ : ∃ ts0 M0 a0, Same H M0 ∧ H a0 = none ∧ M0 a0 = some (.lst (ts0.map V.str)) ∧ (∀ t ∈ ts0, t.length ≤ 450) ∧ ts0.length ≤ 2 ∧ M0 = J' ∧ a0 = D ∧ ts0 = us := ⟨us, J', D, (sJ.trans s1).trans sJ', (sJ.trans s1).free nD, hus, wus, Nat.le_of_eq lus, rfl, rfl, rfl⟩
    refine ⟨by show 2 ≤ sizeLine; decide, fun l1 nl1 => ?_⟩
    obtain ⟨A1, qa1, sa1, ha1⟩ := newAt (.lst [V.str "", V.str "graph 0"]) nl1
    rw [qa1]
    refine ⟨a0, l1, _, _, rfl, rfl, sa1 _ _ h0, ha1, by rw [List.length_map]; exact fit _ (by show _ + 2 ≤ _; omega), fun a1 na1 => ?_⟩
    obtain ⟨M1, qm1, sm1, hm1⟩ := newAt (.lst (ts0.map V.str ++ [V.str "", V.str "graph 0"])) na1
    rw [qm1]
    have h1 : M1 a1 = some (.lst ((ts0 ++ (["", "graph 0"] : List Str)).map V.str)) := by rw [List.map_append]; exact hm1
    have sM1 : Same H M1 := sM0.trans (sa1.trans sm1)
    have n1 : H a1 = none := (sM0.trans sa1).free na1
    have b1 : ∀ t ∈ ts0 ++ (["", "graph 0"] : List Str), t.length ≤ 450 := fun t ht => by
      rcases List.mem_append.mp ht with ht | ht
      · exact b0 t ht
      · exact (show ∀ t ∈ (["", "graph 0"] : List Str), t.length ≤ 450 from by decide +kernel) t ht
    have l1' : (ts0 ++ (["", "graph 0"] : List Str)).length ≤ 4 := by rw [List.length_append]; show _ + 2 ≤ _; omega
    obtain ⟨ts1, ets1⟩ : ∃ z, ts0 ++ (["", "graph 0"] : List Str) = z := ⟨_, rfl⟩
    rw [ets1] at h1 b1 l1'
    clear ets1 hm1 qm1 qa1 ha1
    refine ⟨_, rfl, ?_⟩
    refine ⟨by show 5 ≤ sizeLine; decide, fun l2 nl2 => ?_⟩
    obtain ⟨A2, qa2, sa2, ha2⟩ := newAt (.lst [V.str "graph 17\nnumbers 1", V.str "graph 1", V.str "graph 1\nnumbers 5", V.str "graph 1\nnumbers 5\n", V.str "graph 1\nnumbers"]) nl2
    rw [qa2]
    refine ⟨a1, l2, _, _, rfl, rfl, sa2 _ _ h1, ha2, by rw [List.length_map]; exact fit _ (by show _ + 5 ≤ _; omega), fun a2 na2 => ?_⟩
    obtain ⟨M2, qm2, sm2, hm2⟩ := newAt (.lst (ts1.map V.str ++ [V.str "graph 17\nnumbers 1", V.str "graph 1", V.str "graph 1\nnumbers 5", V.str "graph 1\nnumbers 5\n", V.str "graph 1\nnumbers"])) na2
    rw [qm2]
    have h2 : M2 a2 = some (.lst ((ts1 ++ (["graph 17\nnumbers 1", "graph 1", "graph 1\nnumbers 5", "graph 1\nnumbers 5\n", "graph 1\nnumbers"] : List Str)).map V.str)) := by rw [List.map_append]; exact hm2
    have sM2 : Same H M2 := sM1.trans (sa2.trans sm2)
    have n2 : H a2 = none := (sM1.trans sa2).free na2
    have b2 : ∀ t ∈ ts1 ++ (["graph 17\nnumbers 1", "graph 1", "graph 1\nnumbers 5", "graph 1\nnumbers 5\n", "graph 1\nnumbers"] : List Str), t.length ≤ 450 := fun t ht => by
      rcases List.mem_append.mp ht with ht | ht
      · exact b1 t ht
      · exact (show ∀ t ∈ (["graph 17\nnumbers 1", "graph 1", "graph 1\nnumbers 5", "graph 1\nnumbers 5\n", "graph 1\nnumbers"] : List Str), t.length ≤ 450 from by decide +kernel) t ht
    have l2' : (ts1 ++ (["graph 17\nnumbers 1", "graph 1", "graph 1\nnumbers 5", "graph 1\nnumbers 5\n", "graph 1\nnumbers"] : List Str)).length ≤ 9 := by rw [List.length_append]; show _ + 5 ≤ _; omega
    obtain ⟨ts2, ets2⟩ : ∃ z, ts1 ++ (["graph 17\nnumbers 1", "graph 1", "graph 1\nnumbers 5", "graph 1\nnumbers 5\n", "graph 1\nnumbers"] : List Str) = z := ⟨_, rfl⟩
    rw [ets2] at h2 b2 l2'
    clear ets2 hm2 qm2 qa2 ha2
    refine ⟨_, rfl, ?_⟩
    refine ⟨by show 2 ≤ sizeLine; decide, fun l3 nl3 => ?_⟩
    obtain ⟨A3, qa3, sa3, ha3⟩ := newAt (.lst [V.str "graph 2\nnumbers 1 2\nedge 0 1", V.str "graph 2\nedge 0 1\nedge 1 0\nnumbers 1 2"]) nl3
    rw [qa3]
    refine ⟨a2, l3, _, _, rfl, rfl, sa3 _ _ h2, ha3, by rw [List.length_map]; exact fit _ (by show _ + 2 ≤ _; omega), fun a3 na3 => ?_⟩
    obtain ⟨M3, qm3, sm3, hm3⟩ := newAt (.lst (ts2.map V.str ++ [V.str "graph 2\nnumbers 1 2\nedge 0 1", V.str "graph 2\nedge 0 1\nedge 1 0\nnumbers 1 2"])) na3
    rw [qm3]
    have h3 : M3 a3 = some (.lst ((ts2 ++ (["graph 2\nnumbers 1 2\nedge 0 1", "graph 2\nedge 0 1\nedge 1 0\nnumbers 1 2"] : List Str)).map V.str)) := by rw [List.map_append]; exact hm3
    have sM3 : Same H M3 := sM2.trans (sa3.trans sm3)
    have n3 : H a3 = none := (sM2.trans sa3).free na3
    have b3 : ∀ t ∈ ts2 ++ (["graph 2\nnumbers 1 2\nedge 0 1", "graph 2\nedge 0 1\nedge 1 0\nnumbers 1 2"] : List Str), t.length ≤ 450 := fun t ht => by
      rcases List.mem_append.mp ht with ht | ht
      · exact b2 t ht
      · exact (show ∀ t ∈ (["graph 2\nnumbers 1 2\nedge 0 1", "graph 2\nedge 0 1\nedge 1 0\nnumbers 1 2"] : List Str), t.length ≤ 450 from by decide +kernel) t ht
    have l3' : (ts2 ++ (["graph 2\nnumbers 1 2\nedge 0 1", "graph 2\nedge 0 1\nedge 1 0\nnumbers 1 2"] : List Str)).length ≤ 11 := by rw [List.length_append]; show _ + 2 ≤ _; omega
    obtain ⟨ts3, ets3⟩ : ∃ z, ts2 ++ (["graph 2\nnumbers 1 2\nedge 0 1", "graph 2\nedge 0 1\nedge 1 0\nnumbers 1 2"] : List Str) = z := ⟨_, rfl⟩
    rw [ets3] at h3 b3 l3'
    clear ets3 hm3 qm3 qa3 ha3
    refine ⟨_, rfl, .inl ⟨rfl, _, SqL.of h3⟩, a3, _, _, rfl, rfl, h3, by rw [List.length_map]; exact Nat.lt_of_le_of_lt (show _ ≤ 5000 by omega) big, ?_⟩
    obtain ⟨M4, qm4⟩ : ∃ z, upd M3 a3 (.lst (ts3.map V.str ++ [V.str "graph 01\nnumbers 5"])) = z := ⟨_, rfl⟩
    rw [qm4]
    have h4 : M4 a3 = some (.lst ((ts3 ++ (["graph 01\nnumbers 5"] : List Str)).map V.str)) := by rw [← qm4, upd_same, List.map_append]; rfl
    have n4 := n3
    have sM4 : Same H M4 := fun z oo e => by rw [← qm4, upd_ne (ne_of_none e n3)]; exact sM3 _ _ e
    have b4 : ∀ t ∈ ts3 ++ (["graph 01\nnumbers 5"] : List Str), t.length ≤ 450 := fun t ht => by
      rcases List.mem_append.mp ht with ht | ht
      · exact b3 t ht
      · rw [List.mem_singleton.mp ht]; decide +kernel
    have l4' : (ts3 ++ (["graph 01\nnumbers 5"] : List Str)).length ≤ 12 := by rw [List.length_append]; show _ + 1 ≤ _; omega
    obtain ⟨ts4, ets4⟩ : ∃ z, ts3 ++ (["graph 01\nnumbers 5"] : List Str) = z := ⟨_, rfl⟩
    rw [ets4] at h4 b4 l4'
    obtain ⟨a4, ea4⟩ : ∃ z, a3 = z := ⟨_, rfl⟩
    rw [ea4] at h4 n4 ⊢
    clear ets4 qm4
    refine ⟨_, rfl, ?_⟩
    refine ⟨by show 3 ≤ sizeLine; decide, fun l5 nl5 => ?_⟩
    obtain ⟨A5, qa5, sa5, ha5⟩ := newAt (.lst [V.str "graph 1\nnumbers -0", V.str "graph 1\nnumbers 00", V.str "graph 2\nedge 0 0\nnumbers 1 2"]) nl5
    rw [qa5]
    refine ⟨a4, l5, _, _, rfl, rfl, sa5 _ _ h4, ha5, by rw [List.length_map]; exact fit _ (by show _ + 3 ≤ _; omega), fun a5 na5 => ?_⟩
    obtain ⟨M5, qm5, sm5, hm5⟩ := newAt (.lst (ts4.map V.str ++ [V.str "graph 1\nnumbers -0", V.str "graph 1\nnumbers 00", V.str "graph 2\nedge 0 0\nnumbers 1 2"])) na5
    rw [qm5]
    have h5 : M5 a5 = some (.lst ((ts4 ++ (["graph 1\nnumbers -0", "graph 1\nnumbers 00", "graph 2\nedge 0 0\nnumbers 1 2"] : List Str)).map V.str)) := by rw [List.map_append]; exact hm5
    have sM5 : Same H M5 := sM4.trans (sa5.trans sm5)
    have n5 : H a5 = none := (sM4.trans sa5).free na5
    have b5 : ∀ t ∈ ts4 ++ (["graph 1\nnumbers -0", "graph 1\nnumbers 00", "graph 2\nedge 0 0\nnumbers 1 2"] : List Str), t.length ≤ 450 := fun t ht => by
      rcases List.mem_append.mp ht with ht | ht
      · exact b4 t ht
      · exact (show ∀ t ∈ (["graph 1\nnumbers -0", "graph 1\nnumbers 00", "graph 2\nedge 0 0\nnumbers 1 2"] : List Str), t.length ≤ 450 from by decide +kernel) t ht
    have l5' : (ts4 ++ (["graph 1\nnumbers -0", "graph 1\nnumbers 00", "graph 2\nedge 0 0\nnumbers 1 2"] : List Str)).length ≤ 15 := by rw [List.length_append]; show _ + 3 ≤ _; omega
    obtain ⟨ts5, ets5⟩ : ∃ z, ts4 ++ (["graph 1\nnumbers -0", "graph 1\nnumbers 00", "graph 2\nedge 0 0\nnumbers 1 2"] : List Str) = z := ⟨_, rfl⟩
    rw [ets5] at h5 b5 l5'
    clear ets5 hm5 qm5 qa5 ha5
    refine ⟨_, rfl, .inl ⟨rfl, _, SqL.of h5⟩, a5, _, _, rfl, rfl, h5, by rw [List.length_map]; exact Nat.lt_of_le_of_lt (show _ ≤ 5000 by omega) big, ?_⟩
    obtain ⟨M6, qm6⟩ : ∃ z, upd M5 a5 (.lst (ts5.map V.str ++ [V.str "graph 1\nnumbers 1 2"])) = z := ⟨_, rfl⟩
    rw [qm6]
    have h6 : M6 a5 = some (.lst ((ts5 ++ (["graph 1\nnumbers 1 2"] : List Str)).map V.str)) := by rw [← qm6, upd_same, List.map_append]; rfl
    have n6 := n5
    have sM6 : Same H M6 := fun z oo e => by rw [← qm6, upd_ne (ne_of_none e n5)]; exact sM5 _ _ e
    have b6 : ∀ t ∈ ts5 ++ (["graph 1\nnumbers 1 2"] : List Str), t.length ≤ 450 := fun t ht => by
      rcases List.mem_append.mp ht with ht | ht
      · exact b5 t ht
      · rw [List.mem_singleton.mp ht]; decide +kernel
    have l6' : (ts5 ++ (["graph 1\nnumbers 1 2"] : List Str)).length ≤ 16 := by rw [List.length_append]; show _ + 1 ≤ _; omega
    obtain ⟨ts6, ets6⟩ : ∃ z, ts5 ++ (["graph 1\nnumbers 1 2"] : List Str) = z := ⟨_, rfl⟩
    rw [ets6] at h6 b6 l6'
    obtain ⟨a6, ea6⟩ : ∃ z, a5 = z := ⟨_, rfl⟩
    rw [ea6] at h6 n6 ⊢
    clear ets6 qm6
    refine ⟨_, rfl, ?_⟩
    refine ⟨by show 3 ≤ sizeLine; decide, fun l7 nl7 => ?_⟩
    obtain ⟨A7, qa7, sa7, ha7⟩ := newAt (.lst [V.str "graph 2\nedge 0\nnumbers 1 2", V.str "graph 2\nedge 0 2\nnumbers 1 2", V.str "graph 1\n\nnumbers 5"]) nl7
    rw [qa7]
    refine ⟨a6, l7, _, _, rfl, rfl, sa7 _ _ h6, ha7, by rw [List.length_map]; exact fit _ (by show _ + 3 ≤ _; omega), fun a7 na7 => ?_⟩
    obtain ⟨M7, qm7, sm7, hm7⟩ := newAt (.lst (ts6.map V.str ++ [V.str "graph 2\nedge 0\nnumbers 1 2", V.str "graph 2\nedge 0 2\nnumbers 1 2", V.str "graph 1\n\nnumbers 5"])) na7
    rw [qm7]
    have h7 : M7 a7 = some (.lst ((ts6 ++ (["graph 2\nedge 0\nnumbers 1 2", "graph 2\nedge 0 2\nnumbers 1 2", "graph 1\n\nnumbers 5"] : List Str)).map V.str)) := by rw [List.map_append]; exact hm7
    have sM7 : Same H M7 := sM6.trans (sa7.trans sm7)
    have n7 : H a7 = none := (sM6.trans sa7).free na7
    have b7 : ∀ t ∈ ts6 ++ (["graph 2\nedge 0\nnumbers 1 2", "graph 2\nedge 0 2\nnumbers 1 2", "graph 1\n\nnumbers 5"] : List Str), t.length ≤ 450 := fun t ht => by
      rcases List.mem_append.mp ht with ht | ht
      · exact b6 t ht
      · exact (show ∀ t ∈ (["graph 2\nedge 0\nnumbers 1 2", "graph 2\nedge 0 2\nnumbers 1 2", "graph 1\n\nnumbers 5"] : List Str), t.length ≤ 450 from by decide +kernel) t ht
    have l7' : (ts6 ++ (["graph 2\nedge 0\nnumbers 1 2", "graph 2\nedge 0 2\nnumbers 1 2", "graph 1\n\nnumbers 5"] : List Str)).length ≤ 19 := by rw [List.length_append]; show _ + 3 ≤ _; omega
    obtain ⟨ts7, ets7⟩ : ∃ z, ts6 ++ (["graph 2\nedge 0\nnumbers 1 2", "graph 2\nedge 0 2\nnumbers 1 2", "graph 1\n\nnumbers 5"] : List Str) = z := ⟨_, rfl⟩
    rw [ets7] at h7 b7 l7'
    clear ets7 hm7 qm7 qa7 ha7
    have nE : ∀ {z : Str}, V.str z = V.str z := rfl
    refine ⟨_, rfl, a7, rfl, ⟨_, SqL.of h7⟩, fun D2 nD2 => ?_⟩
    refine lc_list (K := K) (a := a7) (xs := ts7.map V.str) (fun i J' => Same M7 J' ∧ J' D2 = some (.lst [])) ⟨same_upd nD2, upd_same⟩ (fun i J' hi h => SqL.of (h.1 _ _ h7)) (fun i x J' hi h => ?_) (fun J' h => ?_)
    · obtain ⟨sJ', hD2⟩ := h
      obtain ⟨t, rfl, lt⟩ : ∃ t, x = .str t ∧ t.length ≤ 450 := by
        rw [List.getElem?_map] at hi
        cases e : ts7[i]? with
        | none => rw [e] at hi; cases hi
        | some t =>
          rw [e] at hi
          exact ⟨t, (Option.some.inj hi).symm, b7 t (List.mem_of_getElem? e)⟩
      refine ⟨rfl, ?_⟩
      refine ⟨_, rfl, .str t, .str t, rfl, .dat (.str _), fun t' e => by cases e; omega, fun q G1 nq sq hq => ?_⟩
      obtain ⟨txt, htx⟩ := reprRes (parse_small (Fit.of lt)) hq
      refine htx G1 q hq _ G1 (Same.refl _) fun G2 s2 => ?_
      refine ⟨_, rfl, t, rfl, by omega, fun q2 G3 nq2 s3 hq2 => ?_⟩
      refine htx G3 q2 hq2 _ G3 (Same.refl _) fun G4 s4 => ?_
      refine ⟨rfl, _, rfl, ?_⟩
      rw [show (!decide (V.str txt = V.str txt)) = false from by rw [decide_eq_true rfl]; rfl]
      have sA := sq.trans (s2.trans (s3.trans s4))
      exact ⟨sJ'.trans sA, sA _ _ hD2⟩
    · obtain ⟨sJ', hD2⟩ := h
      refine ⟨by show 0 ≤ sizeLine; decide, fun e ne => ?_⟩
      obtain ⟨G1, qe, se, he⟩ := newAt (.lst []) ne
      rw [qe]
      exact ⟨.list [], .list [], .lst (SqL.of (se _ _ hD2)) .nil, .lst (SqL.of he) .nil, by decide +kernel, by decide +kernel, k G1 (sM7.trans (sJ'.trans se))⟩
end
end K81
set_option Elab.async false
set_option linter.all false
set_option maxRecDepth 100000
set_option maxHeartbeats 8000000
namespace K81
open PySem PySem.Spec PyProof.Rows L2 FNX
def spJoinsM : Sp := fun vs H Q _ => ∃ (p : Addr) (n m : Nat), vs = [.ref p, .int n, .int m] ∧ PoolAt H p ∧ 1 ≤ n ∧ n ≤ 1000 ∧ m ≤ 40 ∧
  ∀ q H' es, H q = none → SameX p H H' → PoolAt H' p → EdgesAt H' q es → GoodE n es → es.length ≤ m → Q (.ref q) H'
def spLaw (K : PySem.W.Frag) : Sp := fun vs H Q _ => ∃ (a : Addr) (ns : List Int), vs = [.ref a] ∧ SqL K H a (ns.map V.int) ∧ ns.length ≤ 63 ∧ ∀ H', Q (.bl true) H'
theorem threeSigns : ∀ i : Int, -20 ≤ i → i ≤ 20 → (Str.ofString (toString i)).length ≤ 3 := fun i h1 h2 => by
  have : ∀ k : Fin 41, (Str.ofString (toString ((k.val : Int) - 20))).length ≤ 3 := by decide +kernel
  have z := this ⟨(i + 20).toNat, by omega⟩
  rwa [show (((i + 20).toNat : Nat) : Int) - 20 = i by omega] at z
section
variable {P : Program} {w : World} {K : PySem.W.Frag} {mg : Str → Option Value} {base : Heap} {CG : Addr}
theorem ok_joinsM {f : Addr} {fd : FuncData} (F : Fun K "_law_joins" "_law_joins" s__law_joins f fd) (M : Nms mg) (G : At P w K mg base CX0 1 "_law_take" ["_law_pool_here", "_law_sides"] spTake) :
    FnOk P w K mg base CX0 2 f fd ["_law_pool_here", "_law_many", "_law_top"] spJoinsM := by
  obtain ⟨c, cd, G, mG, kG, bG⟩ := G
  refine F.ok sc_joins (fun vs H Q E h => ?_) (fun cdv A outer s H vs Q E hr h => ?_)
  · obtain ⟨p, n, m, rfl, _⟩ := h
    rfl
  · obtain ⟨p, n, m, rfl, hp, n1, n2, m1, k⟩ := h
    have hu65 : A.units + 3 + 65 < cLine := by
      have := hr.un
      show A.units + 3 + 65 < _
      have z : A.units + 3 + 16 * 1 + 200 < cLine := this
      omega
    refine ⟨_, pss_cons (ps_set (i := 3) sc_joins.nd rfl (Or.inl rfl) (pe_lst pa_nil))
      (pss_cons (ps_for PassesOwn.never rfl (pi_range1 rfl M.range (pa_cons (pe_call G hr (by rfl) mG kG bG .nil pass0 (pa_cons (pv 0) (pa_cons (pe_op op_add (pv 2) pe_int) pa_nil))) pa_nil)) (pg_name (i := 4) sc_joins.nd rfl (Or.inl rfl))
        (pss_cons (ps_par (i := 5) (j := 6) (by rfl) sc_joins.nd rfl rfl (by decide) rfl rfl (pa_cons (pe_call G hr (by rfl) mG kG bG .nil pass0 (pa_cons (pv 0) (pa_cons (pv 1) pa_nil))) (pa_cons (pe_call G hr (by rfl) mG kG bG .nil pass0 (pa_cons (pv 0) (pa_cons (pv 1) pa_nil))) pa_nil)) (by rfl))
        (pss_one (ps_if (PW.pt (pw_and (pt_cmpR op_ne (pv 5) (pv 6) (nomark _)) (pw_and1 (pt_cmpR (op_notInD hu65) (pe_tup (pa_cons (pe_callB (call_min2 rfl) (by rfl) M.min boot_min1 (pa_cons (pv 5) (pa_cons (pv 6) pa_nil)))
            (pa_cons (pe_callB (call_max2 rfl) (by rfl) M.max boot_max1 (pa_cons (pv 5) (pa_cons (pv 6) pa_nil))) pa_nil))) (pv 3) (by rfl)))))
          (pss_one (ps_expr (pe_bm PySem.F.plainAttrs_list PySem.F.slot_list_append PySem.F.type_list_append mt_append (pv 3) (pa_cons (pe_tup (pa_cons (pe_callB (call_min2 rfl) (by rfl) M.min boot_min1 (pa_cons (pv 5) (pa_cons (pv 6) pa_nil)))
            (pa_cons (pe_callB (call_max2 rfl) (by rfl) M.max boot_max1 (pa_cons (pv 5) (pa_cons (pv 6) pa_nil))) pa_nil))) pa_nil)))) pss_nil))))
      (pss_one (ps_ret (pv 3)))), ?_⟩
    refine ⟨by show 0 ≤ sizeLine; decide, fun D nD => ?_⟩
    have pD := hp.ne nD
    refine ⟨_, rfl, _, rfl, _, _, rfl, rfl, p, _, rfl, hp.same (same_upd nD), by omega, by omega, fun r H1 r0 r1 hp1 s1 => ?_⟩
    have sx0 : SameX p H H1 := (Same.x (same_upd nD)).trans (sameX_take s1)
    have d1 : H1 D = some (.lst []) := by
      rw [s1 D pD.symm, upd_same]
    obtain ⟨m', rfl⟩ : ∃ m' : Nat, r = (m' : Int) := ⟨r.toNat, by omega⟩
    refine ⟨m', rfl, by omega, by omega, for_range (n := m') (fun i σ H' => ∃ (o4 o5 o6 : Option V) (ts : List Addr) (es : List (Int × Int)), σ = [some (.ref p), some (.int n), some (.int m), some (.ref D), o4, o5, o6] ∧
      SameX p H H' ∧ PoolAt H' p ∧ H' D = some (.lst (ts.map V.ref)) ∧ TupsAt H' ts es ∧ (∀ e ∈ es, 0 ≤ e.1 ∧ e.1 < e.2 ∧ e.2 < n) ∧ es.Nodup ∧ es.length ≤ i)
      ⟨none, none, none, [], [], rfl, sx0, hp1, d1, ⟨rfl, fun k t e => by simp at e⟩, by simp, by simp, by simp⟩ (fun i σ H' hi h => ?_) (fun σ H' h => ?_)⟩
    · obtain ⟨o4, o5, o6, ts, es, rfl, sx, hpp, hD, ht, g1, g2, g3⟩ := h
      refine ⟨_, rfl, _, rfl, p, _, rfl, hpp, by omega, by omega, fun a H2 a0 a1 hp2 s2 => ?_⟩
      refine ⟨_, rfl, _, rfl, p, _, rfl, hp2, by omega, by omega, fun b H3 b0 b1 hp3 s3 => ?_⟩
      have sx3 : SameX p H' H3 := (sameX_take s2).trans (sameX_take s3)
      have hD3 : H3 D = some (.lst (ts.map V.ref)) := sx3 D _ pD.symm hD
      have ht3 := ht.sameX hpp sx3
      have sxa := sx.trans sx3
      refine ⟨_, _, rfl, ?_⟩
      refine ⟨_, rfl, _, rfl, rfl, _, rfl, ?_⟩
      by_cases c : a = b
      · rw [decide_eq_true (congrArg V.int c)]
        exact iteF ⟨_, _, _, ts, es, rfl, sxa, hp3, hD3, ht3, g1, g2, by omega⟩
      have ne : decide (V.int a = V.int b) = false := decide_eq_false (fun z => by
        injection z with z
        exact c z)
      rw [ne]
      refine iteT ?_
      have em : (if b < a then b else a) = min a b := by
        split <;> omega
      have eM : (if b > a then b else a) = max a b := by
        split <;> omega
      refine ⟨_, rfl, _, rfl, a, b, rfl, _, rfl, _, rfl, a, b, rfl, by show 2 ≤ sizeLine; decide, fun T nT => ?_⟩
      rw [em, eM]
      have hDT := same_upd nT (o := .tup [V.int (min a b), V.int (max a b)]) _ _ hD3
      have htT := ht3.same (same_upd nT (o := .tup [V.int (min a b), V.int (max a b)]))
      have hpT := hp3.same (same_upd nT (o := .tup [V.int (min a b), V.int (max a b)]))
      have sxT : SameX p H (upd H3 T (.tup [V.int (min a b), V.int (max a b)])) := sxa.trans (Same.x (same_upd nT))
      refine ⟨_, rfl, pairD (min a b, max a b), es.map pairD, .tup (SqT.of upd_same) (.cons (.int _) (.cons (.int _) .nil)), .lst (SqL.of hDT) (dpTups htT), rfl, shapedPairs _, _, rfl, ?_⟩
      by_cases hm : (min a b, max a b) ∈ es
      · rw [anyPairT hm]
        exact iteF ⟨_, _, _, ts, es, rfl, sxT, hpT, hDT, htT, g1, g2, by omega⟩
      rw [anyPair hm]
      refine iteT ⟨_, rfl, .inl ⟨rfl, _, SqL.of hDT⟩, _, rfl, _, rfl, a, b, rfl, _, rfl, _, rfl, a, b, rfl, by show 2 ≤ sizeLine; decide, fun U nU => ?_⟩
      rw [em, eM]
      have hDU := same_upd nU (o := .tup [V.int (min a b), V.int (max a b)]) _ _ hDT
      have htU := htT.same (same_upd nU (o := .tup [V.int (min a b), V.int (max a b)]))
      have hpU := hpT.same (same_upd nU (o := .tup [V.int (min a b), V.int (max a b)]))
      have sxU := sxT.trans (Same.x (p := p) (same_upd nU (o := .tup [V.int (min a b), V.int (max a b)])))
      have hU : (upd (upd H3 T (.tup [V.int (min a b), V.int (max a b)])) U (.tup [V.int (min a b), V.int (max a b)])) U = some (.tup [V.int (min a b), V.int (max a b)]) := upd_same
      generalize upd (upd H3 T (.tup [V.int (min a b), V.int (max a b)])) U (.tup [V.int (min a b), V.int (max a b)]) = H5 at hDU htU hpU sxU hU ⊢
      refine ⟨D, _, _, rfl, rfl, hDU, by rw [List.length_map, htU.1, sizeLine_eq]; omega, ?_⟩
      have htP := htU.push (t := U) (e := (min a b, max a b)) hU
      refine ⟨_, _, _, ts ++ [U], es ++ [(min a b, max a b)], rfl, fun q o hq e => ?_, ?_, by rw [upd_same, List.map_append]; rfl, ⟨htP.1, fun k t hk => ?_⟩, fun e he => ?_, ?_, by rw [List.length_append]; show es.length + 1 ≤ _; omega⟩
      · have qD : q ≠ D := fun z => by
          rw [z, nD] at e
          cases e
        rw [upd_ne qD]
        exact sxU q o hq e
      · obtain ⟨c1, c2, z, y⟩ := hpU
        exact ⟨c1, c2, by rw [upd_ne pD]; exact z, y⟩
      · obtain ⟨x, q1, q2⟩ := htP.2 k t hk
        exact ⟨x, q1, by rw [upd_ne (ne_of q2 hDU (by intro y; cases y))]; exact q2⟩
      · rcases List.mem_append.mp he with he | he
        · exact g1 e he
        · rw [List.mem_singleton.mp he]
          show 0 ≤ min a b ∧ min a b < max a b ∧ max a b < n
          omega
      · refine List.nodup_append.mpr ⟨g2, by simp, fun x hx y hy => ?_⟩
        rw [List.mem_singleton.mp hy]
        exact fun z => hm (z ▸ hx)
    · obtain ⟨o4, o5, o6, ts, es, rfl, sx, hpp, hD, ht, g1, g2, g3⟩ := h
      exact ⟨_, rfl, k D H' es nD sx hpp ⟨ts, hD, ht⟩ ⟨g1, g2, by omega⟩ (by omega)⟩
theorem sc_law : FnScope ["_law_script", "_law_k", "_law_pool_here", "_law_many", "_law_joins_here", "_law_rows", "_law_text", "_law_turn", "_law_bent_here", "_law_one", "_law_two"] ["_law_script"] (defScope s_law) := ⟨rfl, rfl, rfl, by decide +kernel, rfl, by decide +kernel, by decide +kernel⟩
theorem ok_law {f : Addr} {fd : FuncData} (F : Fun K "law" "law" s_law f fd) (M : Nms mg) (n_str : mg "str" = none)
    (GKr : AtG P w K mg base 11 "_law_known_right" [] spKr81) (GP : At P w K mg base CX0 1 "_law_pool" ["_law_script", "_law_k"] (spPool K)) (GT : At P w K mg base CX0 1 "_law_take" ["_law_pool_here", "_law_sides"] spTake)
    (GJ : At P w K mg base CX0 2 "_law_joins" ["_law_pool_here", "_law_many", "_law_top"] spJoinsM) (GSm : At P w K mg base CX0 2 "_law_small" ["_law_pool_here", "_law_many", "_law_wide"] spSmall) (GBe : At P w K mg base CX0 2 "_law_bent" ["_law_pool_here", "_law_text"] (spBent81 K))
    (GTo : At P w K mg base CX0 10 "_law_told" ["_law_text"] (spTold81 K CG)) (GDu : At P w K mg base CX0 8 "_law_due" ["_law_text"] (spDue81 K CG)) (GRp : MAtGg P w K mg base CG 4 "__repr__" ["self"] (spReprGg CG)) :
    GOk P w K mg base 12 f fd ["_law_script"] (spLaw K) := by
  obtain ⟨fKr, fdKr, GKr, mKr, kKr, bKr⟩ := GKr
  obtain ⟨fP, fdP, GP, mP, kP, bP⟩ := GP
  obtain ⟨fT, fdT, GT, mT, kT, bT⟩ := GT
  obtain ⟨fJ, fdJ, GJ, mJ, kJ, bJ⟩ := GJ
  obtain ⟨fSm, fdSm, GSm, mSm, kSm, bSm⟩ := GSm
  obtain ⟨fBe, fdBe, GBe, mBe, kBe, bBe⟩ := GBe
  obtain ⟨fTo, fdTo, GTo, mTo, kTo, bTo⟩ := GTo
  obtain ⟨fDu, fdDu, GDu, mDu, kDu, bDu⟩ := GDu
  obtain ⟨fRp, fdRp, GRp, sRp, fnRp, bRp⟩ := GRp
  refine okG F sc_law (fun vs H Q E h => ?_) (fun cdv A' outer s H vs Q E hgd hr h => ?_)
  · obtain ⟨a, ns, rfl, _⟩ := h
    rfl
  · obtain ⟨a0, ns, rfl, hS, hlen, kont⟩ := h
    have nd := sc_law.nd
    have hu64 : A'.units + 3 + 64 < cLine := hr.units
    have big : (5000 : Nat) < sizeLine := by rw [sizeLine_eq]; decide
    have fit : ∀ n : Nat, n ≤ 5000 → n ≤ sizeLine := fun n h => by omega
    refine ⟨_, (pss_cons (ps_if (pt_not (pt_val (pe_callG0 hgd GKr (hr.mono (by decide)) (by rfl) mKr kKr bKr pass0))) (pss_one (ps_ret pe_bl)) pss_nil)
      (pss_cons (ps_for PassesOwn.never rfl (pi_range1 rfl M.range (pa_cons (pe_callB (call_max2 rfl) (by rfl) M.max boot_max1 (pa_cons pe_int (pa_cons (pe_callB (call_min2 rfl) (by rfl) M.min boot_min1 (pa_cons (pe_callB call_len_seq (by rfl) M.len boot_len1 (pa_cons (pv 0) pa_nil)) (pa_cons pe_int pa_nil))) pa_nil))) pa_nil)) (pg_name (i := 1) nd rfl (Or.inl rfl)) (pss_cons (ps_set (i := 2) nd rfl (Or.inl rfl) (pe_call GP (hr.mono (by decide)) (by rfl) mP kP bP .nil pass0 (pa_cons (pv 0) (pa_cons (pv 1) pa_nil))))
      (pss_cons (ps_set (i := 3) nd rfl (Or.inl rfl) (pe_op op_add pe_int (pe_call GT (hr.mono (by decide)) (by rfl) mT kT bT .nil pass0 (pa_cons (pv 2) (pa_cons pe_int pa_nil)))))
      (pss_cons (ps_set (i := 4) nd rfl (Or.inl rfl) (pe_call GJ (hr.mono (by decide)) (by rfl) mJ kJ bJ .nil pass0 (pa_cons (pv 2) (pa_cons (pv 3) (pa_cons pe_int pa_nil)))))
      (pss_cons (ps_set (i := 5) nd rfl (Or.inl rfl) (pe_op op_cat (pe_lst (pa_cons (pe_op op_add_str pe_str (pe_callTy call_str_int (by rfl) n_str (by decide +kernel) (pa_cons (pv 3) pa_nil))) pa_nil)) (pe_lc (own := [("_law_one", 9), ("_law_two", 10)]) (g := gTup K 2 (gCons (gName 9) (gCons (gName 10) (gNil)))) (tt := tYes) rfl nd (pi_list (pv 4)) (blkOk_by (own := [("_law_one", 9), ("_law_two", 10)]) (N := ["_law_script", "_law_k", "_law_pool_here", "_law_many", "_law_joins_here", "_law_rows", "_law_text", "_law_turn", "_law_bent_here", "_law_one", "_law_two"]) (sc := defScope s_law) (by decide +kernel)) (fun _ _ _ _ _ => pg_tup rfl (pgs_cons (pg_name (i := 9) nd rfl (Or.inl rfl)) (pgs_cons (pg_name (i := 10) nd rfl (Or.inl rfl)) pgs_nil))) (fun _ _ _ _ _ => pts_nil) (fun _ _ _ _ _ => (pe_op op_add_str (pe_op op_add_str (pe_op op_add_str pe_str (pe_callTy call_str_int (by rfl) n_str (by decide +kernel) (pa_cons (pv 9) pa_nil))) pe_str) (pe_callTy call_str_int (by rfl) n_str (by decide +kernel) (pa_cons (pv 10) pa_nil)))))))
      (pss_cons (ps_set (i := 6) nd rfl (Or.inl rfl) (show PE _ _ (tM1 (rJoin K) _ _) from pe_join pe_str (pe_op op_cat (pv 5) (pe_lst (pa_cons (pe_op op_add_str pe_str (show PE _ _ (tM1 (rJoin K) _ _) from pe_join pe_str (pe_lc (own := [("_law_one", 9)]) (g := gName 9) (tt := tYes) rfl nd (pi_list (pe_call GSm (hr.mono (by decide)) (by rfl) mSm kSm bSm .nil pass0 (pa_cons (pv 2) (pa_cons (pv 3) (pa_cons pe_int pa_nil))))) (blkOk_by (own := [("_law_one", 9)]) (N := ["_law_script", "_law_k", "_law_pool_here", "_law_many", "_law_joins_here", "_law_rows", "_law_text", "_law_turn", "_law_bent_here", "_law_one", "_law_two"]) (sc := defScope s_law) (by decide +kernel)) (fun _ _ _ _ _ => pg_name (i := 9) nd rfl (Or.inl rfl)) (fun _ _ _ _ _ => pts_nil) (fun _ _ _ _ _ => (pe_callTy call_str_int (by rfl) n_str (by decide +kernel) (pa_cons (pv 9) pa_nil)))))) pa_nil)))))
      (pss_one (ps_for PassesOwn.never rfl (pi_range1 rfl M.range (pa_cons pe_int pa_nil)) (pg_name (i := 7) nd rfl (Or.inl rfl)) (pss_cons (ps_set (i := 8) nd rfl (Or.inl rfl) (pe_call GBe (hr.mono (by decide)) (by rfl) mBe kBe bBe .nil pass0 (pa_cons (pv 2) (pa_cons (pv 6) pa_nil))))
      (pss_one (ps_for PassesOwn.never rfl (pi_list (pe_lst (pa_cons (pv 8) (pa_cons (pe_call GBe (hr.mono (by decide)) (by rfl) mBe kBe bBe .nil pass0 (pa_cons (pv 2) (pa_cons (pv 8) pa_nil))) pa_nil)))) (pg_name (i := 9) nd rfl (Or.inl rfl)) (pss_one (ps_if (pt_cmpR op_ne (pe_callB (show CallR _ (.builtin "repr") (rReprA K CG) from call_or (call_repr hgd hr.units) (call_reprO GRp hgd sRp fnRp bRp (hr.mono (by decide)))) (by rfl) M.repr boot_repr1 (pa_cons (pe_call GTo (hr.mono (by decide)) (by rfl) mTo kTo bTo .nil pass0 (pa_cons (pv 9) pa_nil)) pa_nil)) (pe_callB (show CallR _ (.builtin "repr") (rReprA K CG) from call_or (call_repr hgd hr.units) (call_reprO GRp hgd sRp fnRp bRp (hr.mono (by decide)))) (by rfl) M.repr boot_repr1 (pa_cons (pe_call GDu (hr.mono (by decide)) (by rfl) mDu kDu bDu .nil pass0 (pa_cons (pv 9) pa_nil)) pa_nil)) (nomark _)) (pss_one (ps_ret pe_bl)) pss_nil)))))))))))))
      (pss_one (ps_ret pe_bl)))), ?_⟩
    refine ⟨rfl, fun Hk sk => ?_⟩
    have hSk := sqLSame hS sk
    refine ⟨_, rfl, iteF ?_⟩
    have bnd : ∀ l : Nat, 1 ≤ (if (if (6 : Int) < (l : Int) then (6 : Int) else (l : Int)) > 1 then (if (6 : Int) < (l : Int) then (6 : Int) else (l : Int)) else 1) ∧
        (if (if (6 : Int) < (l : Int) then (6 : Int) else (l : Int)) > 1 then (if (6 : Int) < (l : Int) then (6 : Int) else (l : Int)) else 1) ≤ 6 := fun l => by
      split <;> split <;> omega
    have bl := bnd (ns.map V.int).length
    refine ⟨_, rfl, a0, _, rfl, .inl hSk, _, _, rfl, _, _, rfl, _, rfl, by omega, by omega, for_range (lo := 0) (fun i σ H' => ∃ v1 v2 v3 v4 v5 v6 v7 v8 v9 v10 : Option V,
      σ = [some (.ref a0), v1, v2, v3, v4, v5, v6, v7, v8, v9, v10] ∧ Same Hk H') ⟨none, none, none, none, none, none, none, none, none, none, rfl, Same.refl Hk⟩ ?_ ?_⟩
    case refine_2 =>
      rintro σ H' ⟨v1, v2, v3, v4, v5, v6, v7, v8, v9, v10, rfl, _⟩
      exact kont H'
    rintro i σ H0 hi ⟨v1, v2, v3, v4, v5, v6, v7, v8, v9, v10, rfl, sm⟩
    have hS0 := sqLSame hSk sm
    refine ⟨_, rfl, _, rfl, a0, ns, (0 : Int) + i, rfl, hS0, by omega, by omega, fun p H1 np s1 hp1 => ?_⟩
    refine ⟨_, rfl, p, 5, rfl, hp1, by omega, by omega, fun r H2 r0 r1 hp2 t2 => ⟨_, _, rfl, rfl, ?_⟩⟩
    obtain ⟨n, hn⟩ : ∃ n : Nat, (1 : Int) + r = (n : Int) := ⟨(1 + r).toNat, by omega⟩
    have n1 : 1 ≤ n := by omega
    have n5 : n ≤ 5 := by omega
    rw [show ((fun i j : Int => V.int (i + j)) 1 r) = V.int (n : Int) from congrArg V.int hn]
    refine ⟨_, rfl, _, rfl, p, n, 6, rfl, hp2, by omega, by omega, by decide, fun q H3 es nq s3 hp3 he good few => ?_⟩
    have x13 : SameX p H1 H3 := (sameX_take t2).trans s3
    have wn := oneSign n (by omega)
    obtain ⟨sn, hsn⟩ : ∃ z, Str.ofString (toString ((n : Nat) : Int)) = z := ⟨_, rfl⟩
    rw [hsn] at wn
    have eg : ("graph " : Str).length = 6 := by decide +kernel
    refine ⟨_, rfl, _, rfl, log10 (Nat.lt_of_lt_of_le (show ((n : Nat) : Int).natAbs < 10 by omega) (by decide)), ?_⟩
    rw [hsn]
    refine ⟨_, _, rfl, rfl, fit _ (by rw [eg, wn]; decide), by show 1 ≤ sizeLine; decide, fun l1 nl1 => ?_⟩
    obtain ⟨H4, q4, s4, hl1⟩ := newAt (.lst [V.str ("graph " ++ sn)]) nl1
    rw [q4]
    obtain ⟨ts, hq, hts⟩ := he
    refine ⟨_, rfl, q, rfl, ⟨_, SqL.of (s4 _ _ hq)⟩, fun D nD => ?_⟩
    have sD := same_upd (o := HO.lst []) nD
    have hl1D := sD _ _ hl1
    refine lc_list (K := K) (a := q) (xs := ts.map V.ref) (fun i J' => Same H4 J' ∧ ∃ us : List Str, J' D = some (.lst (us.map V.str)) ∧ us.length = i ∧ ∀ t ∈ us, t.length = 8) ⟨sD, [], upd_same, rfl, by simp⟩ (fun i J' hi h => SqL.of (h.1 _ _ (s4 _ _ hq))) (fun j x J' hj h => ?_) (fun J' h => ?_)
    · obtain ⟨sJ', us, hus, lus, wus⟩ := h
      obtain ⟨t, ht, rfl⟩ : ∃ t, ts[j]? = some t ∧ x = .ref t := by
        rw [List.getElem?_map] at hj
        cases e : ts[j]? with
        | none => rw [e] at hj; cases hj
        | some t =>
          rw [e] at hj
          exact ⟨t, rfl, (Option.some.inj hj).symm⟩
      obtain ⟨e, hee, hT⟩ := hts.2 j t ht
      have gd := good.node e (List.mem_of_getElem? hee)
      obtain ⟨e1, e2⟩ := e
      obtain ⟨a, rfl⟩ : ∃ a : Nat, e1 = (a : Int) := ⟨e1.toNat, by have : 0 ≤ e1 := gd.1; omega⟩
      obtain ⟨b, rfl⟩ : ∃ b : Nat, e2 = (b : Int) := ⟨e2.toNat, by have : (a : Int) < e2 := gd.2.1; omega⟩
      have ab : a < 5 ∧ b < 5 := by
        have z1 : (a : Int) < b := gd.2.1
        have z2 : (b : Int) < n := gd.2.2
        omega
      have w1 := oneSign a (by omega)
      have w2 := oneSign b (by omega)
      have e1 : ("edge " : Str).length = 5 := by decide +kernel
      have e2 : (" " : Str).length = 1 := by decide +kernel
      refine ⟨t, _, rfl, SqT.of (sJ' _ _ (s4 _ _ hT)), rfl, _, _, rfl, _, _, rfl, rfl, rfl, ?_⟩
      obtain ⟨si, hsi⟩ : ∃ z, Str.ofString (toString ((a : Nat) : Int)) = z := ⟨_, rfl⟩
      obtain ⟨sj, hsj⟩ : ∃ z, Str.ofString (toString ((b : Nat) : Int)) = z := ⟨_, rfl⟩
      rw [hsi] at w1
      rw [hsj] at w2
      refine ⟨_, rfl, _, rfl, log10 (Nat.lt_of_lt_of_le (show ((a : Nat) : Int).natAbs < 10 by omega) (by decide)), ?_⟩
      rw [hsi]
      refine ⟨_, _, rfl, rfl, fit _ (by rw [e1, w1]; decide), ?_⟩
      refine ⟨_, _, rfl, rfl, fit _ (by rw [appL, e1, w1, e2]; decide), ?_⟩
      refine ⟨_, rfl, _, rfl, log10 (Nat.lt_of_lt_of_le (show ((b : Nat) : Int).natAbs < 10 by omega) (by decide)), ?_⟩
      rw [hsj]
      refine ⟨_, _, rfl, rfl, fit _ (by rw [appL, appL, e1, w1, e2, w2]; decide), ?_⟩
      have jl : j < 6 := by
        have := (List.getElem?_eq_some_iff.mp hee).1
        omega
      refine ⟨_, hus, by rw [List.length_map, lus]; exact Nat.lt_of_lt_of_le (Nat.lt_trans jl (by decide)) (Nat.le_of_lt big), ?_, us ++ ["edge " ++ si ++ " " ++ sj], by rw [upd_same, List.map_append]; rfl, by rw [List.length_append, lus]; rfl, fun t ht => ?_⟩
      · intro b o e
        rw [upd_ne (ne_of_none e nD)]
        exact sJ' _ _ e
      · rcases List.mem_append.mp ht with ht | ht
        · exact wus t ht
        · rw [List.mem_singleton.mp ht, appL, appL, appL, e1, w1, e2, w2]
    obtain ⟨sJ', us, hus, lus, wus⟩ := h
    rw [List.length_map] at lus
    have lus6 : us.length ≤ 6 := by rw [lus, hts.1]; exact few
    refine ⟨l1, D, _, _, rfl, rfl, sJ' _ _ hl1, hus, fit _ (by rw [List.length_map]; show 1 + _ ≤ _; omega), fun R nR => ?_⟩
    obtain ⟨H5, q5, s5, hR⟩ := newAt (.lst ([V.str ("graph " ++ sn)] ++ us.map V.str)) nR
    rw [q5]
    have s45 := sJ'.trans s5
    have x15 : SameX p H1 H5 := x13.trans (Same.x (s4.trans s45))
    have hp5 := hp3.same (s4.trans s45)
    have pR : p ≠ R := hp3.ne ((s4.trans sJ').free nR)
    have hR' : H5 R = some (.lst ((("graph " ++ sn) :: us).map V.str)) := hR
    refine ⟨⟨_, rfl⟩, _, rfl, ⟨_, rfl⟩, _, rfl, _, rfl, p, n, 20, rfl, hp5, by omega, by decide, fun xq H6 x nxq x56 hp6 hxq lx bx => ?_⟩
    have hR6 := x56 R _ (Ne.symm pR) hR'
    refine ⟨xq, rfl, ⟨_, SqL.of hxq⟩, fun D2 nD2 => ?_⟩
    have sD2 := same_upd (o := HO.lst []) nD2
    refine lc_list (K := K) (a := xq) (xs := x.map V.int) (fun i J' => Same H6 J' ∧ ∃ us : List Str, J' D2 = some (.lst (us.map V.str)) ∧ us.length = i ∧ ∀ t ∈ us, t.length ≤ 3) ⟨sD2, [], upd_same, rfl, by simp⟩ (fun i J' hi h => SqL.of (h.1 _ _ hxq)) (fun j y J' hj h => ?_) (fun J2 h => ?_)
    · obtain ⟨sJ2, us, hus, lus, wus⟩ := h
      obtain ⟨o, ho, rfl⟩ := intsAt hj
      have bo := bx o (List.mem_of_getElem? ho)
      have w3 := threeSigns o (by omega) (by omega)
      refine ⟨rfl, ?_⟩
      refine ⟨_, rfl, _, rfl, log10 (Nat.lt_of_lt_of_le (show o.natAbs < 100 by omega) (by decide)), ?_⟩
      have jl : j < 5 := by
        have := (List.getElem?_eq_some_iff.mp ho).1
        omega
      refine ⟨_, hus, by rw [List.length_map, lus]; exact Nat.lt_of_lt_of_le (Nat.lt_trans jl (by decide)) (Nat.le_of_lt big), ?_, us ++ [Str.ofString (toString o)], by rw [upd_same, List.map_append]; rfl, by rw [List.length_append, lus]; rfl, fun t ht => ?_⟩
      · intro b oo e
        rw [upd_ne (ne_of_none e nD2)]
        exact sJ2 _ _ e
      · rcases List.mem_append.mp ht with ht | ht
        · exact wus t ht
        · rw [List.mem_singleton.mp ht]
          exact w3
    obtain ⟨sJ2, us2, hus2, lus2, wus2⟩ := h
    rw [List.length_map, lx] at lus2
    have sumLe : ∀ (m : Nat) (zs : List Str), (∀ z ∈ zs, z.length ≤ m) → wt zs ≤ (m + 1) * zs.length := fun m zs => by
      induction zs with
      | nil => intro _; exact Nat.zero_le _
      | cons z zs ih =>
        intro h
        have h1 := ih fun y hy => h y (List.mem_cons_of_mem _ hy)
        have h2 := h z List.mem_cons_self
        unfold wt at h1 ⊢
        rw [List.map_cons, List.sum_cons, List.length_cons, Nat.mul_add]
        omega
    have e1 : (" " : Str).length = 1 := by decide +kernel
    have en : ("\n" : Str).length = 1 := by decide +kernel
    have e8 : ("numbers " : Str).length = 8 := by decide +kernel
    have wt2 : wt us2 ≤ 20 := by
      have := sumLe 3 us2 wus2
      omega
    refine ⟨" ", D2, us2, rfl, rfl, .inl (SqL.of hus2), by rw [e1]; unfold wt at wt2; omega, ?_⟩
    have bj := join_le " " e1 us2
    obtain ⟨S, hS⟩ : ∃ S, Txt.join " " us2 = S := ⟨_, rfl⟩
    rw [hS] at bj ⊢
    refine ⟨_, _, rfl, rfl, fit _ (by omega), ?_⟩
    refine ⟨by show 1 ≤ sizeLine; decide, fun l2 nl2 => ?_⟩
    obtain ⟨H7, q7, s7, hl2⟩ := newAt (.lst [V.str ("numbers " ++ S)]) nl2
    rw [q7]
    have s67 := sJ2.trans s7
    refine ⟨R, l2, _, _, rfl, rfl, s67 _ _ hR6, hl2, fit _ (by rw [List.length_map, List.length_cons]; show _ + 1 ≤ _; omega), fun R2 nR2 => ?_⟩
    obtain ⟨H8, q8, s8, hR2⟩ := newAt (.lst ((("graph " ++ sn) :: us).map V.str ++ [V.str ("numbers " ++ S)])) nR2
    rw [q8]
    have hR2' : H8 R2 = some (.lst (((("graph " ++ sn) :: us) ++ ["numbers " ++ S]).map V.str)) := by rw [List.map_append]; exact hR2
    have wtR : wt ((("graph " ++ sn) :: us) ++ ["numbers " ++ S]) ≤ 100 := by
      rw [wt_app]
      have h1 : wt us ≤ 54 := by
        have := sumLe 8 us fun z hz => Nat.le_of_eq (wus z hz)
        omega
      have h2 : wt (("graph " ++ sn) :: us) = 8 + wt us := by
        unfold wt
        rw [List.map_cons, List.sum_cons, List.length_cons, appL, eg, wn]
        omega
      have h3 : wt ["numbers " ++ S] ≤ 29 := by
        show (("numbers " ++ S).length + 0) + 1 ≤ 29
        rw [appL, e8]
        omega
      omega
    refine ⟨"\n", R2, _, rfl, rfl, .inl (SqL.of hR2'), by rw [en]; unfold wt at wtR; omega, ?_⟩
    have bt := join_le "\n" en ((("graph " ++ sn) :: us) ++ ["numbers " ++ S])
    obtain ⟨T, hT⟩ : ∃ T, Txt.join "\n" ((("graph " ++ sn) :: us) ++ ["numbers " ++ S]) = T := ⟨_, rfl⟩
    rw [hT] at bt ⊢
    have lT : T.length ≤ 100 := by omega
    have s68 := s67.trans s8
    have x18 : SameX p H1 H8 := (x15.trans x56).trans (Same.x s68)
    have hp8 := hp6.same s68
    refine ⟨_, rfl, by decide, by decide, for_range (lo := 0) (fun j σ G => ∃ v7 v8 v9 v10 : Option V, σ = [some (.ref a0), some (.int (0 + i)), some (.ref p), some (.int (n : Int)), some (.ref q), some (.ref R), some (.str T), v7, v8, v9, v10] ∧ SameX p H1 G ∧ PoolAt G p)
      ⟨_, _, _, _, rfl, x18, hp8⟩ (fun j σ G hj h => ?_) (fun σ G h => ?_)⟩
    · obtain ⟨v7, v8, v9, v10, rfl, xG, hpG⟩ := h
      refine ⟨_, rfl, _, rfl, p, T, rfl, hpG, by omega, fun t1 G1 x1 hpG1 lt1 => ?_⟩
      refine ⟨_, rfl, _, rfl, _, rfl, p, t1, rfl, hpG1, by omega, fun t2 G2 x2 hpG2 lt2 => ?_⟩
      refine ⟨by show 2 ≤ sizeLine; decide, fun L nL => ?_⟩
      obtain ⟨G3, r3, z3, hL⟩ := newAt (.lst [V.str t1, V.str t2]) nL
      rw [r3]
      refine ⟨L, rfl, ⟨_, SqL.of hL⟩, for_list (K := K) (a := L) (xs := [V.str t1, V.str t2]) (fun jj σ J => ∃ v9 : Option V, σ = [some (.ref a0), some (.int (0 + i)), some (.ref p), some (.int (n : Int)), some (.ref q), some (.ref R), some (.str T), some (.int (0 + j)), some (.str t1), v9, v10] ∧ Same G3 J)
        ⟨_, rfl, Same.refl _⟩ (fun jj σ J _ h => ?_) (fun jj y σ J hy h => ?_) (fun σ J h => ?_)⟩
      · obtain ⟨_, _, sJ⟩ := h
        exact SqL.of (sJ _ _ hL)
      · obtain ⟨v9, rfl, sJ⟩ := h
        obtain ⟨t, rfl, lt⟩ : ∃ t, y = .str t ∧ t.length ≤ 450 := by
          have hlt : jj < 2 := (List.getElem?_eq_some_iff.mp hy).1
          obtain rfl | rfl : jj = 0 ∨ jj = 1 := by omega
          · exact ⟨t1, (Option.some.inj hy).symm, by omega⟩
          · exact ⟨t2, (Option.some.inj hy).symm, by omega⟩
        refine ⟨_, rfl, .str t, .str t, rfl, .dat (.str _), fun t' e => by cases e; omega, fun u J1 nu su hu => ?_⟩
        obtain ⟨txt, htx⟩ := reprRes (parse_small (Fit.of lt)) hu
        refine htx J1 u hu _ J1 (Same.refl _) fun J2 s2 => ?_
        refine ⟨_, rfl, t, rfl, by omega, fun u2 J3 nu2 s3 hu2 => ?_⟩
        refine htx J3 u2 hu2 _ J3 (Same.refl _) fun J4 s4 => ?_
        refine ⟨rfl, _, rfl, ?_⟩
        rw [show (!decide (V.str txt = V.str txt)) = false from by rw [decide_eq_true rfl]; rfl]
        exact iteF ⟨_, rfl, sJ.trans (su.trans (s2.trans (s3.trans s4)))⟩
      · obtain ⟨v9, rfl, sJ⟩ := h
        exact ⟨_, _, _, _, rfl, ((xG.trans x1).trans x2).trans (Same.x (z3.trans sJ)), hpG2.same (z3.trans sJ)⟩
    · obtain ⟨v7, v8, v9, v10, rfl, xG, hpG⟩ := h
      exact ⟨_, _, _, _, _, _, _, _, _, _, rfl, fun z o e => xG z o (fun w => by have := sm _ _ e; rw [w, np] at this; cases this) (s1 _ _ (sm _ _ e))⟩
end
end K81
set_option Elab.async false
set_option linter.all false
set_option maxRecDepth 100000
set_option maxHeartbeats 8000000
namespace FNX
open PySem PySem.Spec PyProof.Rows L2
section
variable {K : PySem.W.Frag} {h : Heap} {mg : Str → Option Value} {x qual : Str} {C f N T e : Addr} {st : Stmt} {od an odT : Option Addr} {oc kV doc pm cd ct ocT : Value} {sl slT : Array (Option Value)} {nT : Nat}
/-- a dict of the top whose values are defs -/
structure DctF (K : PySem.W.Frag) (w : World) (a : Addr) : Prop where
  ex : ∃ es n, List.lookup a K = some { cls := .type "dict", data := .dict es n } ∧ PySem.W.KeysLit w.params es.toList
theorem DctF.at {w : World} {a f : Addr} {x : Str} (d : DctF K w a) (h : PySem.W.nsIn K a x = some (some (.ref f))) : KDct K w a x (.ref f) := by
  obtain ⟨es, n, h1, h2⟩ := d.ex
  exact ⟨es, n, .ref f, h1, h2, h, rfl⟩
end
end FNX
set_option Elab.async false
set_option linter.all false
set_option maxRecDepth 100000
set_option maxHeartbeats 8000000
namespace K81
open PySem PySem.Spec PyProof.Rows L2 FNX
section
variable {P : Program} {w : World} {K : PySem.W.Frag} {mg : Str → Option Value} {base : Heap} {CG : Addr} {CX : CXT} {k : Nat} {x qual : Str} {st : Stmt} {f : Addr} {ps : List Str} {sp : Sp}
theorem at_of (F : FnF K mg x st f) (ok : ∀ fd, Fun K x x st f fd → FnOk P w K mg base CX k f fd ps sp)
    (b : ∀ (kV doc pm : Value) (an : Option Addr) (cdv ct : Value) (us : List Value), us.length = ps.length → bindArgs (PySem.W.fnOf x x (defArgs st) (defBody st) (defScope st) .none kV doc pm an cdv ct) ⟨us, []⟩ = pure (ps.zip us)) : At P w K mg base CX k x ps sp := by
  obtain ⟨g, fd, F⟩ := F
  exact ⟨f, fd, ok fd F, g, F.kp, F.binds b⟩
theorem atG_of (F : FnF K mg x st f) (ok : ∀ fd, Fun K x x st f fd → GOk P w K mg base k f fd ps sp)
    (b : ∀ (kV doc pm : Value) (an : Option Addr) (cdv ct : Value) (us : List Value), us.length = ps.length → bindArgs (PySem.W.fnOf x x (defArgs st) (defBody st) (defScope st) .none kV doc pm an cdv ct) ⟨us, []⟩ = pure (ps.zip us)) : AtG P w K mg base k x ps sp := by
  obtain ⟨g, fd, F⟩ := F
  exact ⟨f, fd, ok fd F, g, F.kp, F.binds b⟩
theorem matGg_of {spg : List Code → Sp} (F : MtF K CG x qual st f) (ok : ∀ fd, Fun K x qual st f fd → GgOk P w K mg base k f fd ps spg)
    (b : ∀ (kV doc pm : Value) (an : Option Addr) (cdv ct : Value) (us : List Value), us.length = ps.length → bindArgs (PySem.W.fnOf x qual (defArgs st) (defBody st) (defScope st) .none kV doc pm an cdv ct) ⟨us, []⟩ = pure (ps.zip us)) : MAtGg P w K mg base CG k x ps spg := by
  obtain ⟨m, fd, F⟩ := F
  exact ⟨f, fd, ok fd F, m.1, m.fn, F.binds b⟩
end
theorem tInvalidSize : InitTxt s_InvalidSize_init := ⟨⟨rfl, rfl, rfl, by decide +kernel, rfl, by decide +kernel, by decide +kernel⟩, ⟨_, _, _, _, rfl⟩, fun _ _ _ _ _ _ _ us hl => match us, hl with | [_, _], _ => rfl, fun _ _ _ _ _ _ _ _ _ => rfl⟩
theorem tInvalidEdge : InitTxt s_InvalidEdge_init := ⟨⟨rfl, rfl, rfl, by decide +kernel, rfl, by decide +kernel, by decide +kernel⟩, ⟨_, _, _, _, rfl⟩, fun _ _ _ _ _ _ _ us hl => match us, hl with | [_, _], _ => rfl, fun _ _ _ _ _ _ _ _ _ => rfl⟩
theorem tTooMany : InitTxt s_TooMany_init := ⟨⟨rfl, rfl, rfl, by decide +kernel, rfl, by decide +kernel, by decide +kernel⟩, ⟨_, _, _, _, rfl⟩, fun _ _ _ _ _ _ _ us hl => match us, hl with | [_, _], _ => rfl, fun _ _ _ _ _ _ _ _ _ => rfl⟩
theorem tInvalidText : InitTxt s_InvalidText_init := ⟨⟨rfl, rfl, rfl, by decide +kernel, rfl, by decide +kernel, by decide +kernel⟩, ⟨_, _, _, _, rfl⟩, fun _ _ _ _ _ _ _ us hl => match us, hl with | [_, _], _ => rfl, fun _ _ _ _ _ _ _ _ _ => rfl⟩
theorem all_mk {l : PySem.W.OpenLaw} {w : World} {K : PySem.W.Frag} {h : Heap} {mg : Str → Option Value} {fa fL   f0 f1 f2 f3 f4 f5 f6 f7 f8 f9 f10 f11 f12 f13 f14 f15 f16 f17 f18 f19 f20 f21 f22 c0 c1 c2 c3 CG fI eT : Addr} {t0 t1 t2 : Tok} (X : K.In h) (G : h.Ns mainGlobals mg) (hfa : mg "law" = some (.ref fa))
    (C0 : Cl K mg "InvalidSize" c0) (ty0 : PySem.W.typeIn K (.ref c0) = some (.type "type"))
    (C1 : Cl K mg "InvalidEdge" c1) (ty1 : PySem.W.typeIn K (.ref c1) = some (.type "type"))
    (C2 : Cl K mg "TooMany" c2) (ty2 : PySem.W.typeIn K (.ref c2) = some (.type "type"))
    (C3 : Cl K mg "InvalidText" c3) (ty3 : PySem.W.typeIn K (.ref c3) = some (.type "type"))
    (gG : PySem.W.nsIn K mainGlobals "Graph" = some (some (.ref CG)))
    (cl : Cls K CG) (n1 : PySem.W.findIn K (.ref CG) "node_count" = some none) (n2 : PySem.W.findIn K (.ref CG) "joined" = some none) (n3 : PySem.W.findIn K (.ref CG) "near" = some none) (FI : InF K CG "Graph.__init__" s_Graph_init fI eT)
    (F0 : FnF K mg "is_integer" s_is_integer f0)
    (F1 : FnF K mg "is_integer_within" s_is_integer_within f1)
    (F2 : FnF K mg "is_node" s_is_node f2)
    (F3 : FnF K mg "is_edge" s_is_edge f3)
    (F4 : FnF K mg "checked_edges" s_checked_edges f4)
    (F5 : FnF K mg "neighbour_lists" s_neighbour_lists f5)
    (F6 : MtF K CG "__repr__" "Graph.__repr__" s_Graph_repr f6)
    (F7 : FnF K mg "digits_of" s_digits_of f7)
    (F8 : FnF K mg "is_number" s_is_number f8)
    (F9 : FnF K mg "read_numbers" s_read_numbers f9)
    (F10 : FnF K mg "size_in" s_size_in f10)
    (F11 : FnF K mg "edge_in" s_edge_in f11)
    (F12 : FnF K mg "parse_position" s_parse_position f12)
    (F13 : FnF K mg "_law_pool" s__law_pool f13)
    (F14 : FnF K mg "_law_take" s__law_take f14)
    (F15 : FnF K mg "_law_joins" s__law_joins f15)
    (F16 : FnF K mg "_law_small" s__law_small f16)
    (F17 : FnF K mg "_law_read" s__law_read f17)
    (F18 : FnF K mg "_law_words" s__law_words f18)
    (F19 : FnF K mg "_law_due" s__law_due f19)
    (F20 : FnF K mg "_law_told" s__law_told f20)
    (F21 : FnF K mg "_law_bent" s__law_bent f21)
    (F22 : FnF K mg "_law_known_right" s__law_known_right f22)
    (FL : FnF K mg "law" s_law fL)
    (i0 : PySem.W.nsIn K mainGlobals "MOST_NODES" = some (some (.int 16 t0)))
    (i1 : PySem.W.nsIn K mainGlobals "MOST_EDGES" = some (some (.int 40 t1)))
    (i2 : PySem.W.nsIn K mainGlobals "DIGITS" = some (some (.str "0123456789" t2)))
    (z0 : PySem.W.nsIn K mainGlobals "isinstance" = some none)
    (z1 : PySem.W.nsIn K mainGlobals "int" = some none)
    (z2 : PySem.W.nsIn K mainGlobals "bool" = some none)
    (z3 : PySem.W.nsIn K mainGlobals "list" = some none)
    (z4 : PySem.W.nsIn K mainGlobals "tuple" = some none)
    (z5 : PySem.W.nsIn K mainGlobals "len" = some none)
    (z6 : PySem.W.nsIn K mainGlobals "all" = some none)
    (z7 : PySem.W.nsIn K mainGlobals "range" = some none)
    (z8 : PySem.W.nsIn K mainGlobals "enumerate" = some none)
    (z9 : PySem.W.nsIn K mainGlobals "min" = some none)
    (z10 : PySem.W.nsIn K mainGlobals "max" = some none)
    (z11 : PySem.W.nsIn K mainGlobals "sorted" = some none)
    (z12 : PySem.W.nsIn K mainGlobals "repr" = some none)
    (z13 : PySem.W.nsIn K mainGlobals "str" = some none)
    (x0 : PySem.W.exmOne K (.ref c3) (.ref c3) = some true)
    : ∃ fd : FuncData, (∀ (s : Shared) (v : Value), BindsTo s fd ⟨[v], []⟩ [("_law_script", v)]) ∧ ∀ base : Heap, K.In base → base.Ns mainGlobals mg → GOk l.prog w K mg base 12 fa fd ["_law_script"] (spLaw K) := by
  obtain ⟨gL, fdL, FL⟩ := FL
  have e := hfa.symm.trans gL
  cases e
  refine ⟨fdL, fun s v => ?_, fun base KB NB => ?_⟩
  · obtain ⟨oc, od, kV, doc, pm, an, cdv, ct, osl, rfl, _, _⟩ := FL.ex
    exact .of_eq rfl
  have no : ∀ {x : Str}, PySem.W.nsIn K mainGlobals x = some none → mg x = none := fun z => PySem.W.mg_none_of X G z
  have M : Nms mg := {isi := no z0, int := no z1, bool := no z2, list := no z3, tuple := no z4, len := no z5, all := no z6, range := no z7, enumerate := no z8, min := no z9, max := no z10, sorted := no z11, repr := no z12 }
  have n_str : mg "str" = none := no z13
  have i_MOST_NODES := PySem.W.mg_of X G i0
  have i_MOST_EDGES := PySem.W.mg_of X G i1
  have i_DIGITS := PySem.W.mg_of X G i2
  have T : GTxt K mg CG := ⟨cl, n1, n2, n3, PySem.W.mg_of X G gG⟩
  have ES : Ex l.prog w K mg base "InvalidSize" c0 := C0.ex
  have EE : Ex l.prog w K mg base "InvalidEdge" c1 := C1.ex
  have EM : Ex l.prog w K mg base "TooMany" c2 := C2.ex
  have EX : Ex l.prog w K mg base "InvalidText" c3 := C3.ex

  have a_is_integer : At l.prog w K mg base CX0 1 "is_integer" ["thing"] (spIsInteger K) := at_of F0 (fun fd F => ok_is_integer F M) (fun _ _ _ _ _ _ us hl => match us, hl with | [_], _ => rfl)
  have a_is_integer_within : At l.prog w K mg base CX0 2 "is_integer_within" ["thing", "low", "high"] (spWithin K) := at_of F1 (fun fd F => ok_within F a_is_integer) (fun _ _ _ _ _ _ us hl => match us, hl with | [_, _, _], _ => rfl)
  have a_is_node : At l.prog w K mg base CX0 3 "is_node" ["size", "thing"] (spIsNode K) := at_of F2 (fun fd F => ok_is_node F a_is_integer_within) (fun _ _ _ _ _ _ us hl => match us, hl with | [_, _], _ => rfl)
  have a_is_edge : At l.prog w K mg base CX0 4 "is_edge" ["size", "thing"] (spIsEdgeD K) := at_of F3 (fun fd F => ok_is_edgeD F M a_is_node) (fun _ _ _ _ _ _ us hl => match us, hl with | [_, _], _ => rfl)
  have a_checked_edges : At l.prog w K mg base (L2.CX l.prog w) 5 "checked_edges" ["size", "edges"] (spEdges01 K c1) := at_of F4 (fun fd F => ok_checked01 F M EE ty1 a_is_edge) (fun _ _ _ _ _ _ us hl => match us, hl with | [_, _], _ => rfl)
  have a_neighbour_lists : At l.prog w K mg base CX0 1 "neighbour_lists" ["size", "edges"] (spNear K) := at_of F5 (fun fd F => ok_near F M) (fun _ _ _ _ _ _ us hl => match us, hl with | [_, _], _ => rfl)
  have a___repr__ : MAtGg l.prog w K mg base CG 4 "__repr__" ["self"] (spReprGg CG) := matGg_of F6 (fun fd F => ok_greprG F T) (fun _ _ _ _ _ _ us hl => match us, hl with | [_], _ => rfl)
  obtain ⟨MK, fdI, FI⟩ := FI
  have GI := ok_gi01 (P := l.prog) (w := w) (base := base) FI T M i_MOST_NODES i_MOST_EDGES ES ty0 EM ty2 a_is_integer_within a_checked_edges a_neighbour_lists
  have bI : L2.Binds K fdI ["self", "size", "edges"] [] := by
    obtain ⟨ds, hd, hb⟩ := FI.binds1 (ps := ["self", "size", "edges"]) 3 1 (by simp) rfl (fun T kV doc pm an cdv ct us its h1 h2 => match us, its, h1, h2 with | [_, _, _], [_], _, _ => ⟨_, rfl, rfl⟩)
    cases hd
    exact hb
  have a_digits_of : At l.prog w K mg base CX0 1 "digits_of" ["word"] spDigits := at_of F7 (fun fd F => ok_digits F) (fun _ _ _ _ _ _ us hl => match us, hl with | [_], _ => rfl)
  have a_is_number : At l.prog w K mg base CX0 2 "is_number" ["word"] spIsNum := at_of F8 (fun fd F => ok_isnum F M i_DIGITS a_digits_of) (fun _ _ _ _ _ _ us hl => match us, hl with | [_], _ => rfl)
  have a_read_numbers : At l.prog w K mg base CX0 3 "read_numbers" ["words"] (spReadN K) := at_of F9 (fun fd F => ok_readn F M a_is_number) (fun _ _ _ _ _ _ us hl => match us, hl with | [_], _ => rfl)
  have a_size_in : At l.prog w K mg base CX0 4 "size_in" ["words"] spSizeIn := at_of F10 (fun fd F => ok_sizein F M i_MOST_NODES a_read_numbers a_is_integer_within) (fun _ _ _ _ _ _ us hl => match us, hl with | [_], _ => rfl)
  have a_edge_in : At l.prog w K mg base CX0 5 "edge_in" ["words", "size"] spEdgeIn := at_of F11 (fun fd F => ok_edgein F M a_read_numbers a_is_edge) (fun _ _ _ _ _ _ us hl => match us, hl with | [_, _], _ => rfl)
  have a_parse_position : At l.prog w K mg base (L2.CX l.prog w) 8 "parse_position" ["text"] (spParse K CG c3) := at_of F12 (fun fd F => ok_parse F M n_str T i_MOST_EDGES EX ty3 a_size_in a_edge_in a_read_numbers MK GI bI) (fun _ _ _ _ _ _ us hl => match us, hl with | [_], _ => rfl)
  have a__law_pool : At l.prog w K mg base CX0 1 "_law_pool" ["_law_script", "_law_k"] (spPool K) := at_of F13 (fun fd F => ok_pool F M.len) (fun _ _ _ _ _ _ us hl => match us, hl with | [_, _], _ => rfl)
  have a__law_take : At l.prog w K mg base CX0 1 "_law_take" ["_law_pool_here", "_law_sides"] spTake := at_of F14 (fun fd F => ok_take F) (fun _ _ _ _ _ _ us hl => match us, hl with | [_, _], _ => rfl)
  have a__law_joins : At l.prog w K mg base CX0 2 "_law_joins" ["_law_pool_here", "_law_many", "_law_top"] spJoinsM := at_of F15 (fun fd F => ok_joinsM F M a__law_take) (fun _ _ _ _ _ _ us hl => match us, hl with | [_, _, _], _ => rfl)
  have a__law_small : At l.prog w K mg base CX0 2 "_law_small" ["_law_pool_here", "_law_many", "_law_wide"] spSmall := at_of F16 (fun fd F => ok_small F M a__law_take) (fun _ _ _ _ _ _ us hl => match us, hl with | [_, _, _], _ => rfl)
  have a__law_read : At l.prog w K mg base CX0 1 "_law_read" ["_law_word"] spLRead := at_of F17 (fun fd F => ok_lread F M) (fun _ _ _ _ _ _ us hl => match us, hl with | [_], _ => rfl)
  have a__law_words : At l.prog w K mg base CX0 2 "_law_words" ["_law_row", "_law_word"] spLWords := at_of F18 (fun fd F => ok_lwords F M a__law_read) (fun _ _ _ _ _ _ us hl => match us, hl with | [_, _], _ => rfl)
  have a__law_due : At l.prog w K mg base CX0 8 "_law_due" ["_law_text"] (spDue81 K CG) := at_of F19 (fun fd F => ok_due81 F M T a__law_words MK GI bI) (fun _ _ _ _ _ _ us hl => match us, hl with | [_], _ => rfl)
  have a__law_told : At l.prog w K mg base CX0 10 "_law_told" ["_law_text"] (spTold81 K CG) := at_of F20 (fun fd F => ok_told81 F EX x0 a_parse_position) (fun _ _ _ _ _ _ us hl => match us, hl with | [_], _ => rfl)
  have a__law_bent : At l.prog w K mg base CX0 2 "_law_bent" ["_law_pool_here", "_law_text"] (spBent81 K) := at_of F21 (fun fd F => ok_bent81 F M a__law_take) (fun _ _ _ _ _ _ us hl => match us, hl with | [_, _], _ => rfl)
  have a__law_known_right : AtG l.prog w K mg base 11 "_law_known_right" [] spKr81 := atG_of F22 (fun fd F => ok_kr81 F M n_str a__law_told a__law_due a___repr__) (fun _ _ _ _ _ _ us hl => match us, hl with | [], _ => rfl)
  exact ok_law FL M n_str a__law_known_right a__law_pool a__law_take a__law_joins a__law_small a__law_bent a__law_told a__law_due a___repr__
end K81
set_option Elab.async false
set_option linter.all false
open PySem PySem.W PyProof.Rows
set_option maxRecDepth 100000 in
set_option maxHeartbeats 0 in
theorem PySem.Challenge.cw_firenegatives_k81_texts_that_are_invalid_holds : PySem.Challenge.rw_firenegatives_k81_texts_that_are_invalid.Holds := by
  w_on; o_law; k_head; (case hw => w_witness2)
  k_fill
  refine FNX.walkG (l := PySem.Challenge.rw_firenegatives_k81_texts_that_are_invalid) (n := 63) (k := 12) (x := "_law_script") (sp := fun w => K81.spLaw _) rfl (by decide) rfl ⟨rfl, by decide, by decide⟩ (fun w h Y => PySem.W.kIn_of Y) ?F
    (fun w H a ns hl hS => ⟨a, ns, rfl, hS, hl, fun _ => rfl⟩)
  case F =>
    intro w mg fa h KX G hmg
    refine' K81.all_mk KX G hmg
      (FNX.mkCl KX G ?_ (FNX.mkXC F.excBase_ValueError FNX.chainVal ?_ ?_ ?_ ?_ ?_ ?_ ?_ ?_ ?_ ?_ ?_) K81.tInvalidSize ?_ ?_ ?_ ?_ ?_) ?_
      (FNX.mkCl KX G ?_ (FNX.mkXC F.excBase_ValueError FNX.chainVal ?_ ?_ ?_ ?_ ?_ ?_ ?_ ?_ ?_ ?_ ?_) K81.tInvalidEdge ?_ ?_ ?_ ?_ ?_) ?_
      (FNX.mkCl KX G ?_ (FNX.mkXC F.excBase_OverflowError FNX.chainOver ?_ ?_ ?_ ?_ ?_ ?_ ?_ ?_ ?_ ?_ ?_) K81.tTooMany ?_ ?_ ?_ ?_ ?_) ?_
      (FNX.mkCl KX G ?_ (FNX.mkXC F.excBase_ValueError FNX.chainVal ?_ ?_ ?_ ?_ ?_ ?_ ?_ ?_ ?_ ?_ ?_) K81.tInvalidText ?_ ?_ ?_ ?_ ?_) ?_
      ?_ ⟨?_, ?_, ?_, ?_⟩ ?_ ?_ ?_ (FNX.mkIn ?_ ?_ ?_ ?_ ?_ ?_ ?_ ?_)
      (FNX.mkF KX G ?_ ?_ ?_ ?_) (FNX.mkF KX G ?_ ?_ ?_ ?_) (FNX.mkF KX G ?_ ?_ ?_ ?_) (FNX.mkF KX G ?_ ?_ ?_ ?_) (FNX.mkF KX G ?_ ?_ ?_ ?_) (FNX.mkF KX G ?_ ?_ ?_ ?_) (FNX.mkMt ?_ ?_ ?_ ?_ ?_) (FNX.mkF KX G ?_ ?_ ?_ ?_) (FNX.mkF KX G ?_ ?_ ?_ ?_) (FNX.mkF KX G ?_ ?_ ?_ ?_) (FNX.mkF KX G ?_ ?_ ?_ ?_) (FNX.mkF KX G ?_ ?_ ?_ ?_) (FNX.mkF KX G ?_ ?_ ?_ ?_) (FNX.mkF KX G ?_ ?_ ?_ ?_) (FNX.mkF KX G ?_ ?_ ?_ ?_) (FNX.mkF KX G ?_ ?_ ?_ ?_) (FNX.mkF KX G ?_ ?_ ?_ ?_) (FNX.mkF KX G ?_ ?_ ?_ ?_) (FNX.mkF KX G ?_ ?_ ?_ ?_) (FNX.mkF KX G ?_ ?_ ?_ ?_) (FNX.mkF KX G ?_ ?_ ?_ ?_) (FNX.mkF KX G ?_ ?_ ?_ ?_) (FNX.mkF KX G ?_ ?_ ?_ ?_) (FNX.mkF KX G ?_ ?_ ?_ ?_)
      ?_ ?_ ?_ ?_ ?_ ?_ ?_ ?_ ?_ ?_ ?_ ?_ ?_ ?_ ?_ ?_ ?_ ?x0
    any_goals k_is
    case x0 => kernel_rfl
#print axioms PySem.Challenge.cw_firenegatives_k81_texts_that_are_invalid_holds
