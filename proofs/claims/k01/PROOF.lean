import PyProof.Rows.All
import Wide.All
import OpenK.AllK
import Wide.FinOn
import HandS.ForMost
import HandS.ForExc
import HandS.ExcInit
import HandS.ExcField
import HandS.ClsMeth
import HandS.TryMany
import HandS.ExcIs
import HandS.IsInst
import HandS.Wide
import HandS.OwnEq
import HandS.Flow
import HandS.NoneIn
import HandS.Evl
import HandS.Style
import HandS.SortKw
import HandS.MakeKw
import HandS.Star
import HandS.Deep
import HandS.TupAny
import HandS.TupLen
import KE.GoesEnumKw
import KE.DataMinMax
import HandS.DictComp
import KE.KDictKeyed
import KE.KDictDisplayH
import KE.KDictCopyH
import HandS.HotCalls
import KE.DatumOrd
import HandS.Codes
import HandS.Conv
import HandS.Walk
import PySem.Challenge.RW_heapcode_k01_codes_made_and_refused
set_option Elab.async false
set_option linter.all false
set_option maxRecDepth 100000
set_option maxHeartbeats 4000000
/-! ## Errors over an own base class: Base.__init__(self, 'text') and fields -/
namespace Hx
open PySem PySem.Spec PyProof.Rows L2
section
variable {X : Cx} {e : Expr} {es : List Expr} {ta : TA} {p1 p2 pos : Pos}
/-- Base.__init__(self, ..), Base an own class at D that leaves __init__ to ValueError -/
theorem pe_binit {x : Str} {D : Addr} {pl : Sem Bool} (hD : X.mg x = some (.ref D)) (rd : ClX.CRead X.K D (.type "type"))
    (fc : PySem.W.findCls X.K (.ref D) (.type "type") "__init__" = some (.val (.builtin "ValueError.__init__"))) (ha : PA X (e :: es) ta) (hg : Gl X x := by rfl)
    (hdb : (x == ("__debug__" : Str)) = false := by decide)
    (hc : eval (.Call (.Attribute (.Name x p1) "__init__" p2) (e :: es) [] pos) X.env = (do
      let vv ← eval (.Name x p1) X.env
      standAt p2.atName
      let (g, hd) ← holding [vv] (getMethod vv "__init__" pl)
      callWith pos g hd (backTo pos (starEach (e :: es) X.env)) (backToKw pos (keywordEach [] X.env))) := by rfl)
    (hs : starEach (e :: es) X.env = (false, eval e X.env) :: starEach es X.env := by rfl) (hp : (backTo pos (starEach es X.env)).any (·.1) = false := by rfl) :
    PE X (.Call (.Attribute (.Name x p1) "__init__" p2) (e :: es) [] pos) (tVeI X.K ta) := by
  constructor
  intro pins s σ H Q I0 hq
  refine PySem.W.methodCall_KW (ld_glob I0 hg hD ?_ hdb) hc
  refine PySem.W.method_cls I0.kIn rd.ga ?_
  refine PySem.W.cls_value I0.kIn rd.rd fc rfl ?_
  refine PyProof.Rows.callWith_method1 (thn (ha.run pos pins _ σ H _ (I0.tok _) hq) ?_) hs hp
  rintro us s2 ⟨vs, H2, I2, rv, a, C, ws, rfl, hl, T, ea, q⟩
  cases rv with
  | @cons _ u0 _ ur ra rw' =>
    cases (show u0 = Value.ref a from ra)
    have hz : ur.length ≤ sizeLine := by rw [← Paired.length rw', sizeLine_eq]; omega
    exact oinit_ok T I2 ea hz fun s3 J => ⟨V.non, H2, J, rfl, q⟩
end
end Hx
/-! ## try with any number of clauses, named or not -/
namespace Hx
open PySem PySem.Spec PyProof.Rows L2
/-- a clause: the class, the slot of its name if it has one, the suite's reading -/
structure Cla where
  c : Value
  o : Option Nat
  ts : Addr → Value → Option Addr → TS
/-- behind the suite the name is gone -/
def endsOf (o : Option Nat) (D : Ends) : Ends := match o with
  | none => D
  | some i => { nx := fun ρ G => D.nx (ρ.set i none) G, rt := D.rt, bk := fun ρ G => D.bk (ρ.set i none) G, ct := fun ρ G => D.ct (ρ.set i none) G }
def named (o : Option Nat) (σ : L2.St) (a : Addr) : L2.St := match o with
  | none => σ
  | some i => σ.set i (some (.ref a))
def wAny (K : PySem.W.Frag) (Wout : WX) (D : Ends) : List Cla → WX
  | [] => Wout
  | k :: r => fun cls d σ H => ∃ b, PySem.W.exmOne K cls k.c = some b ∧ (b = true → ∀ a, H a = none → k.ts a cls d (endsOf k.o D) (named k.o σ a) H) ∧ (b = false → wAny K Wout D r cls d σ H)
inductive ClaOk (X : Cx) : List ExceptHandler → List Cla → Prop
  | nil : ClaOk X [] []
  | bare {x : Str} {c : Value} {ts : Addr → Value → Option Addr → TS} {s₀ : Stmt} {su : List Stmt} {np q : Pos} {hs : List ExceptHandler} {l : List Cla} (hc : Names X x c)
      (hsu : ∀ (a : Addr) (oe : Obj) (cls : Value) (d : Option Addr) (pn : List (Addr × Obj)), Zc cls d oe → (∃ vs, oe.data = .fields vs) → PSs (X.suite a ((a, oe) :: pn)) (s₀ :: su) (ts a cls d)) (r : ClaOk X hs l) :
      ClaOk X (.ExceptHandler (some (.Name x np)) none (s₀ :: su) q :: hs) (⟨c, none, ts⟩ :: l)
  | as {x n : Str} {i : Nat} {c : Value} {ts : Addr → Value → Option Addr → TS} {s₀ : Stmt} {su : List Stmt} {np q : Pos} {hs : List ExceptHandler} {l : List Cla} (hN : X.N.Nodup) (hi : X.N[i]? = some n) (hln : X.env.kindOf n = some .local) (hc : Names X x c)
      (hsu : ∀ (a : Addr) (oe : Obj) (cls : Value) (d : Option Addr) (pn : List (Addr × Obj)), Zc cls d oe → (∃ vs, oe.data = .fields vs) → PSs (X.suite a ((a, oe) :: pn)) (s₀ :: su) (ts a cls d)) (r : ClaOk X hs l) :
      ClaOk X (.ExceptHandler (some (.Name x np)) (some n) (s₀ :: su) q :: hs) (⟨c, some i, ts⟩ :: l)
section
variable {X : Cx} {body : List Stmt} {h₀ : ExceptHandler} {hds : List ExceptHandler} {l : List Cla} {pos : Pos} {tb : WX → TS} {Wout : WX}
theorem ps_try_any (hstk : X.stack = X.env :: X.outer) (hfrm : X.env.frame = some X.env.locals) (tkO : Takes X Wout)
    (hbody : ∀ (W : WX) (pn : List (Addr × Obj)) (xe : Value → Shared → Prop), Takes (X.tr pn xe) W → PassesOwn (model X.prog X.w) X.A X.env xe → PSs (X.tr pn xe) body (tb W))
    (hcl : ClaOk X (h₀ :: hds) l) : PS X (.Try body (h₀ :: hds) [] [] pos) (fun D σ H => tb (wAny X.K Wout D l) D σ H) := by
  constructor
  intro pins s σ H D I0 hrd
  have ok := I0.ok
  have hA : X.A.frames = some (X.env :: X.outer) := by rw [ok.frames, hstk]
  refine wpAny_Try_except ?_
  refine wpAny_mono ((hbody (wAny X.K Wout D l) (X.pn ++ pins) (fun e t1 => wpAny (model X.prog X.w) X.A (noteFrame e X.env) (fun _ t2 =>
    wpAny (model X.prog X.w) X.A (setFlight e none) (fun _ t3 =>
      wpAny (model X.prog X.w) X.A (handleBy e X.env (h₀ :: hds)) (SP X pins D) X.xe t3) X.xe t2) X.xe t1) ?raised PassesOwn.looking).run [] s σ H D (I0.toTry _) hrd) ?through (fun _ _ z => z)
  case through =>
    intro f t hsp
    cases f with
    | next => obtain ⟨ρ, G, J, q⟩ := hsp; exact wpAny_execs_nil ⟨ρ, G, J.ofTry ok, q⟩
    | brk => obtain ⟨ρ, G, J, q⟩ := hsp; exact ⟨ρ, G, J.ofTry ok, q⟩
    | cont => obtain ⟨ρ, G, J, q⟩ := hsp; exact ⟨ρ, G, J.ofTry ok, q⟩
    | ret u => obtain ⟨v, ρ, G, J, r, q⟩ := hsp; exact ⟨v, ρ, G, J.ofTry ok, r, q⟩
  case raised =>
    rintro u t ⟨a, B, sI, pins', ρ, G, cls, d, rfl, JT, nb, up, sky0, na, os, ag, hw⟩
    have J : Inv X pins ρ G sI := JT.ofTry ok
    have sky : Sky B (X.env :: X.outer) a (Zc cls d) X.env.locals t.heap := by rw [← hstk]; exact sky0
    show wpAny (model X.prog X.w) X.A (noteFrame (.ref a) X.env) _ _ _
    refine Sky.land Zc.steady hA hfrm sky fun g3 fl up3 => ?_
    have J3 : Inv X pins ρ G { t with heap := g3 } := J.landed nb fl.1 (up.trans up3) os ag
    obtain ⟨ob, vz, hob, hz, hdz⟩ := fl.there
    have nIn : ∀ L ∈ frs (X.env :: X.outer), a ≠ L := by
      intro L hL e
      subst e
      obtain ⟨_, o2, e2, nf⟩ := fl.2.2.1.mem hL
      rw [hob] at e2
      cases e2
      exact nf _ hdz
    have nL : a ≠ X.env.locals := nIn _ (List.mem_filterMap.mpr ⟨X.env, List.mem_cons_self, hfrm⟩)
    have nF : a ∉ X.fs := fun hm => by
      obtain ⟨e, he, q⟩ := List.mem_filterMap.mp hm
      exact nIn a (List.mem_filterMap.mpr ⟨e, List.mem_cons_of_mem _ he, q⟩) rfl
    have S3 := J3.suite hob hdz na nL nF
    have LT : PySem.W.Looks (model X.prog X.w) g3 (typeOf (.ref a)) cls := fun A Q E s k q => wpAny_typeOf_ref (k _ _ hob) (by rw [hz.1]; exact q)
    -- the class that a clause names is found
    have find : ∀ {x : Str} {c : Value} {np : Pos}, Names X x c → ∀ {Q E : Value → Shared → Prop}, Q c { t with heap := g3 } → wpAny (model X.prog X.w) (X.A.mark (some (.ref a))) (eval (.Name x np) X.env) Q E { t with heap := g3 } := by
      rintro x c np ⟨hg, hdb, hm | ⟨hm, hv, hnn⟩⟩ Q E q
      · exact ld_glob (X := X.suite a ((a, ob) :: (X.pn ++ pins))) S3 hg hm q hdb
      · exact ld_blt (X := X.suite a ((a, ob) :: (X.pn ++ pins))) S3 hg hm hv q hnn hdb
    have run : ∀ {hs : List ExceptHandler} {m : List Cla}, ClaOk X hs m → wAny X.K Wout D m cls d ρ G →
        wpAny (model X.prog X.w) X.A (handleBy (.ref a) X.env hs) (SP X pins D) X.xe { t with heap := g3 } := by
      intro hs m hk
      induction hk with
      | nil =>
        intro hw
        refine wpAny_handleBy_nil ?_
        obtain ⟨_, _, _, oe, vs, T, oT, ts', he, _, hd', h1, _⟩ := id fl
        unfold PySem.passOn
        refine wpAny_bind (wpAny_field he hd' h1 ?_)
        rw [if_neg (show ¬ ((Value.ref T == Value.none) = true) from by simp)]
        have off : wpAny (model X.prog X.w) X.A (setFlight (.ref a) X.env.frame) (fun _ t4 => wpAny (model X.prog X.w) X.A (throw (.ref a) : Sem Flow) (SP X pins D) X.xe t4) X.xe { t with heap := g3 } := by
          rw [hfrm]
          refine HandSPX.setFlight_upZ fl fun g4 held up4 => wpAny_throw (tkO _ _ ?_)
          exact ⟨a, B, sI, pins, ρ, G, cls, d, rfl, J, nb, (up.trans up3).trans up4, .inr (.inr (by rw [hstk]; exact held)), na, os, ag, hw⟩
        first
          | exact wpAny_bind (wpAny_pure (wpAny_bind off))
          | exact wpAny_bind off
      | bare hc hsu r ih =>
        rintro ⟨b, hb1, hyes, hno⟩
        refine wpAny_handleBy_cons (codeAny_handlers_test ?_) (by intro q; cases q)
        refine find hc ((PySem.W.exm_one (M := model X.prog X.w) J3.kIn LT hb1).here ?_)
        cases b with
        | false => exact ih (hno rfl)
        | true =>
          refine codeAny_handlers_suite (HandSPX.lands_againZ fl fun g4 fl4 up4 => ?_)
          have J4 : Inv X pins ρ G { t with heap := g4 } := J.landed nb fl4.1 ((up.trans up3).trans up4) os ag
          obtain ⟨o4, v4, he4, hz4, hd4⟩ := fl4.there
          refine wpAny_mono ((hsu a o4 cls d (X.pn ++ pins) hz4 ⟨_, hd4⟩).run [] _ _ G _ (J4.suite he4 hd4 na nL nF) (hyes rfl a na)) (fun f t6 hsp => ?_) (fun _ _ z => False.elim z)
          cases f with
          | next => obtain ⟨ρ6, G6, S6, q6⟩ := hsp; exact ⟨ρ6, G6, S6.unsuite ok, q6⟩
          | brk => obtain ⟨ρ6, G6, S6, q6⟩ := hsp; exact ⟨ρ6, G6, S6.unsuite ok, q6⟩
          | cont => obtain ⟨ρ6, G6, S6, q6⟩ := hsp; exact ⟨ρ6, G6, S6.unsuite ok, q6⟩
          | ret u => obtain ⟨v6, ρ6, G6, S6, r6, q6⟩ := hsp; exact ⟨v6, ρ6, G6, S6.unsuite ok, r6, q6⟩
      | @as x n i c ts s₀ su np q hs l hN hi hln hc hsu r ih =>
        rintro ⟨b, hb1, hyes, hno⟩
        refine wpAny_handleBy_cons (codeAny_handlers_test ?_) (by intro q; cases q)
        refine find hc ((PySem.W.exm_one (M := model X.prog X.w) J3.kIn LT hb1).here ?_)
        cases b with
        | false => exact ih (hno rfl)
        | true =>
          refine codeAny_handlers_suite_as (HandSPX.lands_againZ fl fun g4 fl4 up4 => ?_)
          have J4 : Inv X pins ρ G { t with heap := g4 } := J.landed nb fl4.1 ((up.trans up3).trans up4) os ag
          obtain ⟨o4, v4, he4, hz4, hd4⟩ := fl4.there
          refine store_ok (X := X.suite a ((a, o4) :: (X.pn ++ pins))) (v := .ref a) (J4.suite he4 hd4 na nL nF) hN hi (.inl hln) rfl (fun t5 S5 => ?_) (.inr hln)
          refine wpAny_mono ((hsu a o4 cls d (X.pn ++ pins) hz4 ⟨_, hd4⟩).run [] t5 _ G _ S5 (hyes rfl a na)) (fun f t6 hsp => ?_) (fun _ _ z => False.elim z)
          cases f with
          | next => obtain ⟨ρ6, G6, S6, q6⟩ := hsp; exact gone_ok (S6.unsuite ok) hN hi hln fun t7 J7 => ⟨_, _, J7, q6⟩
          | brk => obtain ⟨ρ6, G6, S6, q6⟩ := hsp; exact gone_ok (S6.unsuite ok) hN hi hln fun t7 J7 => ⟨_, _, J7, q6⟩
          | cont => obtain ⟨ρ6, G6, S6, q6⟩ := hsp; exact gone_ok (S6.unsuite ok) hN hi hln fun t7 J7 => ⟨_, _, J7, q6⟩
          | ret u => obtain ⟨v6, ρ6, G6, S6, r6, q6⟩ := hsp; exact gone_ok (S6.unsuite ok) hN hi hln fun t7 J7 => ⟨_, _, _, J7, r6, q6⟩
    exact run hcl hw
end
end Hx
/-! ## isinstance of an error that has its own dict -/
namespace Hx
open PySem PySem.Spec PySem.Calls PyProof.Rows PySem.W
section
variable {prog : Program} {w : World} {A : Around} {E : Value → Shared → Prop} {s : Shared} {K : Frag} {x D : Addr} {ox : Obj} {od : Option Obj}
theorem bind_found {C : Addr} {nm : Str} {a g : Value} (hc : (clsIn K C).isSome = true) (ha : findIn K (.ref C) nm = some (some a)) (hg : specialIn K a "__get__" = some (some g)) (ht : takesIn K a = some true) :
    findObj K C od nm = some (.bind g a) := by
  obtain ⟨cd, hcd⟩ := Option.isSome_iff_exists.mp hc
  show (clsIn K C).bind _ = _
  rw [hcd, Option.bind_some, ha]
  simp [hg, ht]
theorem class_of_err {Q : Option Value → Shared → Prop} (T : L2.ExcC K D) (X : K.In s.heap) (I : InstAt s.heap x ox D od) (h : Q (some (.ref D)) { s with toks := s.toks + 1 }) :
    wpAny (model prog w) A (getAttr? (.ref x) "__class__") Q E s := by
  have hf : findObj K D od "__class__" = some (.bind (.builtin "getset_descriptor.__get__") (.builtin "object.__class__")) :=
    bind_found (by obtain ⟨cd, hc, _⟩ := any_some T.hd; rw [hc]; rfl) T.ha T.hn T.ht
  obtain ⟨hp, gs, dr, tk, os⟩ := s
  have K0 := I.type (M := model prog w)
  have K1 := looks_findIn (M := model prog w) X T.hg
  have K2 := looks_findIn (M := model prog w) X T.hk
  have K3 := looks_find (M := model prog w) X I hf
  have isB : Looks (model prog w) hp (isInstance (.ref x) (.type "BaseException")) true := K0.andThen (looks_subIn X T.hs)
  have ne2 : (Value.builtin "BaseException.__getattribute__" == Value.builtin "object.__getattribute__") = false := by decide +kernel
  have ne1 : (onTheHeap (Value.ref D) && Value.builtin "BaseException.__getattribute__" == Value.builtin "object.__getattribute__") = false := by rw [ne2]; rfl
  have ne0 : (false && onTheHeap (Value.builtin "BaseException.__getattribute__")) = false := rfl
  unfold getAttr? getAttrBy? getAttrBy
  refine wpAny_bind (wpAny_mkText (wpAny_bind (wpAny_attempt (wpAny_holding (wpAny_bind (K0.at (wpAny_bind (K1.at ?_))))))))
  show wpAny _ _ (if (onTheHeap (Value.ref D) && Value.builtin "BaseException.__getattribute__" == Value.builtin "object.__getattribute__") = true then _ else _) _ _ _
  rw [ne1, if_neg Bool.false_ne_true]
  unfold getAttrByItsOwn hookBefore
  refine wpAny_bind ?_
  rw [if_pos (show onTheHeap (Value.ref D) = true from rfl)]
  refine K2.at (wpAny_bind (wpAny_attempt (wpAny_holding ?_)))
  unfold callGetattribute
  rw [ne0, if_neg Bool.false_ne_true]
  unfold boundAndCalled
  rw [F.excAttr_ValueError.ga.bind (.ref x)]
  refine wpAny_bind (wpAny_pure ?_)
  show wpAny _ _ (call (.builtin "BaseException.__getattribute__") [.ref x, .str "__class__" tk]) _ _ _
  refine wpAny_call (codeAny_call_builtin F.excAttr_ValueError.ga.plain F.entry_bexc_ga (@check_slot (model prog w) _ _ ⟨hp, gs, dr, tk + 1, os⟩ "BaseException.__getattribute__" "BaseException" "__getattribute__" (.ref x) [.str "__class__" tk] [] _ (by decide +kernel) (by decide +kernel) isB (F.args_bexc_ga (.ref x) (.str "__class__" tk)) ?_))
  unfold Builtin.«object.__getattribute__»
  refine wpAny_bind (wpAny_of_eq (a := ((Value.ref x : Value), [Value.str "__class__" tk])) (by first | rfl | (simp only [slotArgs]; rfl)) (wpAny_bind (wpAny_pure (wpAny_bind (K0.at (wpAny_bind (K3.at ?_)))))))
  show wpAny _ _ (holding [Value.builtin "object.__class__"] (call (.builtin "getset_descriptor.__get__") [.builtin "object.__class__", .ref x, .ref D]) >>= ret) _ _ _
  refine wpAny_bind (wpAny_holding (wpAny_call (class_get (s := ⟨hp, gs, dr, tk + 1, os⟩) (ox := ox) (od := od) X I T.hm (wpAny_pure ?_))))
  show wpAny _ _ (handedOut (.ref D)) _ _ _
  rw [handedOut_of (v := .ref D) rfl]
  first
    | exact wpAny_pure (wpAny_pure h)
    | exact wpAny_pure h
    | exact wpAny_pure (wpAny_bind (wpAny_pure (wpAny_pure h)))
theorem kit_err (T : L2.ExcC K D) : KitX K (.ref x) (.ref D) (fun h => ∃ ox od, InstAt h x ox D od) where
  ty := fun _ _ _ ⟨_, _, I⟩ => I.type
  it := by
    intro M h X _ A' Q' E' s' k q
    obtain ⟨cd, hc, _⟩ := any_some T.hd
    unfold clsIn at hc
    split at hc
    · rename_i _ _ _ _ ho
      unfold isType loadHead
      exact wpAny_bind (wpAny_loadPart (k _ _ (X _ _ ho)) (wpAny_pure q))
    · cases hc
  ne := by
    intro h tp dd its n sl X htp
    obtain ⟨cd, hc, _⟩ := any_some T.hd
    refine Bool.eq_false_iff.mpr fun q => ?_
    cases (Value.ref.inj (beq_iff_eq.mp q) : D = tp)
    unfold clsIn at hc
    split at hc
    · rename_i _ _ _ _ ho
      cases ((X _ _ ho).symm.trans htp)
    · cases hc
  ca := fun X ⟨_, _, I⟩ k => class_of_err T X I k
end
end Hx
namespace Hx
open PySem PySem.Spec PyProof.Rows L2
/-- the error at a, of the class at D, with a dict at d or with none, as the heap has it -/
def errAt (D a : Addr) (d : Option Addr) (oe : Obj) : Prop := Zc (.ref D) d oe ∧ ∃ vs, oe.data = .fields vs
/-- isinstance(e, c), e the error whose object is pinned -/
def rIsD (K : PySem.W.Frag) (D a : Addr) (d : Option Addr) : List V → Hp → VK → Prop := fun xs H Q => ∃ (c : V) (cv : Value) (b : Bool), xs = [.ref a, c] ∧ ClsV c cv ∧ (∀ z, d = some z → ∃ fs, H z = some (.xd fs)) ∧ PySem.W.kitOne K (.ref D) cv = some b ∧ Q (.bl b) H
def rIsDT (K : PySem.W.Frag) (D a : Addr) (d : Option Addr) : List V → Hp → VK → Prop := fun xs H Q => ∃ (tp : Addr) (cs : List V) (us : List Value) (b : Bool), xs = [.ref a, .ref tp] ∧ H tp = some (.tup cs) ∧ Paired ClsV cs us ∧ (∀ z, d = some z → ∃ fs, H z = some (.xd fs)) ∧
  PySem.W.kitAny K (.ref D) us = some b ∧ Q (.bl b) H
section
variable {X : Cx} {a D : Addr} {d : Option Addr} {oe : Obj}
theorem inst_err {pins : List (Addr × Obj)} {σ : L2.St} {H : Hp} {s : Shared} (I : Inv X pins σ H s) (hp : (a, oe) ∈ X.pn ++ pins) (he : errAt D a d oe) (hd : ∀ z, d = some z → ∃ fs, H z = some (.xd fs)) :
    ∃ ox od, PySem.W.InstAt s.heap a ox D od := by
  obtain ⟨hget, _⟩ := I.pin (a, oe) hp
  obtain ⟨⟨h1, h2⟩, vs, hv⟩ := he
  obtain ⟨oc, odd, oda, osl⟩ := oe
  dsimp only at h1 h2 hv
  subst h1 h2 hv
  cases odd with
  | none => exact ⟨_, none, hget, rfl, rfl, trivial⟩
  | some z =>
    obtain ⟨fs, hz⟩ := hd z rfl
    obtain ⟨mA, ⟨o, es, ep, e1, e2⟩, _⟩ := (show ObjOk X.prog X.w H s.heap z (.xd fs) from I.hok z _ hz)
    exact ⟨_, some o, hget, rfl, rfl, e1⟩
theorem call_isD (T : ExcC X.K D) (hp : (a, oe) ∈ X.pn) (he : errAt D a d oe) : CallR X (.builtin "isinstance") (rIsD X.K D a d) := by
  intro pins s σ H xs us Q I r h
  obtain ⟨c, cv, b, rfl, k, hd, e, q⟩ := h
  obtain ⟨u1, u2, rfl, r1, r2⟩ := vals2 r
  cases (show u1 = Value.ref a from r1)
  cases k.eq r2
  exact PySem.W.kia_one (kit_err T) I.kIn (inst_err I (List.mem_append_left _ hp) he hd) e (fun z => nomatch z) fun tk => ⟨.bl b, H, I.tok tk, rfl, q⟩
theorem call_isDT (T : ExcC X.K D) (hp : (a, oe) ∈ X.pn) (he : errAt D a d oe) : CallR X (.builtin "isinstance") (rIsDT X.K D a d) := by
  intro pins s σ H xs us Q I r h
  obtain ⟨tp, cs, ws, b, rfl, hT, k, hd, e, q⟩ := h
  obtain ⟨u1, u2, rfl, r1, r2⟩ := vals2 r
  cases (show u1 = Value.ref a from r1)
  cases (show u2 = Value.ref tp from r2)
  obtain ⟨_, its, rv, o, h1, h2, n, h3⟩ := (show ObjOk X.prog X.w H s.heap tp (.tup cs) from I.hok tp _ hT)
  cases ClsV.all k rv
  obtain ⟨oc, odd, dt, sl⟩ := o
  simp only at h2 h3
  subst h2 h3
  exact PySem.W.kia_tup (kit_err T) I.kIn (inst_err I (List.mem_append_left _ hp) he hd) h1 e (fun z => nomatch z) fun tk => ⟨.bl b, H, I.tok tk, rfl, q⟩
end
end Hx
namespace Hx
open PySem PySem.Spec PyProof.Rows L2
/-- what the base class of the errors must have, at D -/
structure BaseT (K : PySem.W.Frag) (mg : Str → Option Value) (D : Addr) : Prop where
  gB : mg "HeapError" = some (.ref D)
  rdB : ClX.CRead K D (.type "type")
  fcB : PySem.W.findCls K (.ref D) (.type "type") "__init__" = some (.val (.builtin "ValueError.__init__"))
/-- __init__ without, with one, with three fields -/
def spI0 (K : PySem.W.Frag) : Sp := fun vs H Q _ => ∃ (a C : Addr), vs = [.ref a] ∧ OexC K C ∧ H a = some (exo a C none) ∧ Q .non H
def spI1 (K : PySem.W.Frag) (f : Str) : Sp := fun vs H Q _ => ∃ (a C : Addr) (v : V), vs = [.ref a, v] ∧ OexC K C ∧ PySem.W.findIn K (.ref C) f = some none ∧ H a = some (exo a C none) ∧
  ∀ d, H d = none → d ≠ a → Q .non (upd (upd H d (exd d [(f, v)])) a (exo a C (some d)))
def spI3 (K : PySem.W.Frag) (f g k : Str) : Sp := fun vs H Q _ => ∃ (a C : Addr) (u v z : V), vs = [.ref a, u, v, z] ∧ OexC K C ∧ PySem.W.findIn K (.ref C) f = some none ∧ PySem.W.findIn K (.ref C) g = some none ∧ PySem.W.findIn K (.ref C) k = some none ∧
  H a = some (exo a C none) ∧ ∀ d, H d = none → d ≠ a → Q .non (upd (upd (upd (upd H d (exd d [(f, u)])) a (exo a C (some d))) d (exd d [(g, v), (f, u)])) d (exd d [(k, z), (g, v), (f, u)]))
end Hx
/-! ## raising such errors -/
namespace Hx
open PySem PySem.Spec PyProof.Rows L2
/-- what is known of an error class: its name x, at C, its __init__ at fI -/
structure ExT (K : PySem.W.Frag) (mg : Str → Option Value) (x : Str) (C fI : Addr) : Prop where
  oex : OexC K C
  gC : mg x = some (.ref C)
  iC : PySem.W.findIn K (.ref C) "__init__" = some (some (.ref fI))
  tI : PySem.W.typeIn K (.ref fI) = some (.type "function")
theorem drop_new {H1 : Hp} {a d C : Addr} {fs gs : List (Str × V)} (na : H1 a = none) (nad : d ≠ a) :
    upd (del (upd (upd H1 d (exd d fs)) a (exo a C (some d))) a) d (.xd gs) = upd H1 d (.xd gs) := by
  funext b
  by_cases hb : b = d
  · rw [hb, upd_same, upd_same]
  · rw [upd_ne hb, upd_ne hb]
    by_cases ha : b = a
    · rw [ha, del_same, na]
    · rw [del_ne ha, upd_ne ha, upd_ne hb]
theorem mk1 {K : PySem.W.Frag} {H1 : Hp} {C : Addr} {f : Str} {v : V} {Q : XK} (T : OexC K C) (nf : PySem.W.findIn K (.ref C) f = some none) (h : ∀ d, H1 d = none → Q (.ref C) (some d) (upd H1 d (.xd [(f, v)]))) :
    ([v] : List V).length ≤ 1000 ∧ ∀ a, H1 a = none → spI1 K f (.ref a :: ([v] ++ [])) (upd H1 a (exo a C none))
      (fun r H2 => r = .non ∧ ∃ (d : Addr) (fs : List (Str × V)), H2 a = some (exo a C (some d)) ∧ H2 d = some (exd d fs) ∧ H1 d = none ∧ Q (.ref C) (some d) (upd (del H2 a) d (.xd fs))) (fun _ _ _ => False) := by
  refine ⟨by show 1 ≤ 1000; decide, fun a na => ⟨a, C, v, rfl, T, nf, upd_same, fun d nd ne => ⟨rfl, d, [(f, v)], upd_same, ?_, ?_, ?_⟩⟩⟩
  · rw [upd_ne ne, upd_same]
  · rw [upd_ne ne] at nd
    exact nd
  · rw [upd_ne ne] at nd
    have e : upd (del (upd (upd (upd H1 a (exo a C none)) d (exd d [(f, v)])) a (exo a C (some d))) a) d (.xd [(f, v)]) = upd H1 d (.xd [(f, v)]) := by
      funext b
      by_cases hb : b = d
      · rw [hb, upd_same, upd_same]
      · rw [upd_ne hb, upd_ne hb]
        by_cases ha : b = a
        · rw [ha, del_same, na]
        · rw [del_ne ha, upd_ne ha, upd_ne hb, upd_ne ha]
    rw [e]
    exact h d nd
theorem mk3 {K : PySem.W.Frag} {H1 : Hp} {C : Addr} {f g k : Str} {u v z : V} {Q : XK} (T : OexC K C) (n1 : PySem.W.findIn K (.ref C) f = some none) (n2 : PySem.W.findIn K (.ref C) g = some none) (n3 : PySem.W.findIn K (.ref C) k = some none)
    (h : ∀ d, H1 d = none → Q (.ref C) (some d) (upd H1 d (.xd [(k, z), (g, v), (f, u)]))) :
    ([u, v, z] : List V).length ≤ 1000 ∧ ∀ a, H1 a = none → spI3 K f g k (.ref a :: ([u, v, z] ++ [])) (upd H1 a (exo a C none))
      (fun r H2 => r = .non ∧ ∃ (d : Addr) (fs : List (Str × V)), H2 a = some (exo a C (some d)) ∧ H2 d = some (exd d fs) ∧ H1 d = none ∧ Q (.ref C) (some d) (upd (del H2 a) d (.xd fs))) (fun _ _ _ => False) := by
  refine ⟨by show 3 ≤ 1000; decide, fun a na => ⟨a, C, u, v, z, rfl, T, n1, n2, n3, upd_same, fun d nd ne => ⟨rfl, d, [(k, z), (g, v), (f, u)], ?_, upd_same, ?_, ?_⟩⟩⟩
  · rw [upd_ne ne.symm, upd_ne ne.symm, upd_same]
  · rw [upd_ne ne] at nd
    exact nd
  · rw [upd_ne ne] at nd
    have e : upd (del (upd (upd (upd (upd (upd H1 a (exo a C none)) d (exd d [(f, u)])) a (exo a C (some d))) d (exd d [(g, v), (f, u)])) d (exd d [(k, z), (g, v), (f, u)])) a) d (.xd [(k, z), (g, v), (f, u)]) = upd H1 d (.xd [(k, z), (g, v), (f, u)]) := by
      funext b
      by_cases hb : b = d
      · rw [hb, upd_same, upd_same]
      · rw [upd_ne hb, upd_ne hb]
        by_cases ha : b = a
        · rw [ha, del_same, na]
        · rw [del_ne ha, upd_ne hb, upd_ne hb, upd_ne ha, upd_ne hb, upd_ne ha]
    rw [e]
    exact h d nd
/-- C(), the error has no dict -/
def tMk0 (C : Addr) : L2.St → Hp → XK → Prop := fun _ H Q => Q (.ref C) none H
section
variable {X : Cx} {p pos : Pos}
theorem pmk_none {x : Str} {C fI : Addr} {k : Nat} {fd : FuncData} (T : ExT X.K X.mg x C fI) (F1 : FnOk X.prog X.w X.K X.mg X.base CX0 k fI fd ["self"] (spI0 X.K)) (hr : Room (k + 1) X.A) (hb : Binds X.K fd ["self"] []) (hg : Gl X x := by rfl)
    (hdb : (x == ("__debug__" : Str)) = false := by decide) : PMk X (.Call (.Name x p) [] [] pos) (tMk0 C) := by
  intro pins s σ H Q I h
  obtain ⟨nm, q, N, bs, bm, sn, sub, ab, col, dd, k0, k1, k2, k3, k5, hC, hbm⟩ := T.oex.cls
  refine wpAny_Call_Name_kw (ld_glob I hg T.gC ?_ hdb)
  refine PySem.W.callWith_K0 I.kIn T.oex.kC ?_
  show wpAny _ _ (call (.ref C) []) _ _ _
  obtain ⟨hp, g, dr, tk, os⟩ := s
  have na : H (hp.objs.size + 1) = none := I.hok.fresh (Nat.le_succ _)
  have stay : ∀ b o, hp.get? b = some o → ((hp.push (PySem.W.kdv_tup [])).push (PySem.HandSPX.excO C hp.objs.size)).get? b = some o := fun b o e => Heap.get?_push_of_some _ (Heap.get?_push_of_some _ e)
  have atE : ((hp.push (PySem.W.kdv_tup [])).push (PySem.HandSPX.excO C hp.objs.size)).get? (hp.objs.size + 1) = some (PySem.HandSPX.excO C hp.objs.size) := by heap_get
  have I2 := I.laid (t' := tk) (a := hp.objs.size + 1) (o := exo (hp.objs.size + 1) C none) stay (Nat.le_succ _) (exo_ok atE)
  have hq : spI0 X.K [.ref (hp.objs.size + 1)] (upd H (hp.objs.size + 1) (exo (hp.objs.size + 1) C none)) (fun v H2 => v = .non ∧ H2 = upd H (hp.objs.size + 1) (exo (hp.objs.size + 1) C none)) (fun _ _ _ => False) :=
    ⟨_, C, rfl, T.oex, upd_same, rfl, rfl⟩
  have bd := hb _ [Value.ref (hp.objs.size + 1)] I2.kIn rfl
  refine wpAny_call (PySem.HandSPX.call_own F.excBase_ValueError (fun Y => PySem.HandSPX.refsVE_contains Y bm hbm) (I.kIn _ _ hC) (PySem.W.looks_findIn I.kIn T.iC) (fun self => PySem.W.bind_fn I.kIn self T.tI) (Nat.zero_le _)
    (codeAny_mono (F1.run _ X.stack _ _ ⟨[Value.ref (hp.objs.size + 1)], []⟩ [Value.ref (hp.objs.size + 1)] [V.ref (hp.objs.size + 1)] _ (fun _ _ _ => False) (hr.make C [] []) (I2.env0.make C [] []) bd (.cons (show L2.RelV (V.ref (hp.objs.size + 1)) (Value.ref (hp.objs.size + 1)) from rfl) .nil) hq) fun r s' hq' => ?_))
  cases r with
  | error er => exact hq'.elim
  | ok fl =>
    cases fl with
    | next => exact False.elim hq'
    | brk => exact False.elim hq'
    | cont => exact False.elim hq'
    | ret u =>
      obtain ⟨v, H2, os2, bare2, un, hok, rv, ev, eH⟩ := hq'
      subst ev eH
      obtain ⟨h2, g2, d2, t2, os'⟩ := s'
      have ea : upd H (hp.objs.size + 1) (exo (hp.objs.size + 1) C none) (hp.objs.size + 1) = some (exo (hp.objs.size + 1) C none) := upd_same
      obtain ⟨t0, hoe⟩ := exo_at hok ea
      obtain ⟨G, gi, gn⟩ := restrict h2 fun b => decide (b ≠ hp.objs.size + 1)
      have gk : ∀ b, b ≠ hp.objs.size + 1 → G.get? b = h2.get? b := fun b hb => gi b (decide_eq_true hb)
      have ge : G.get? (hp.objs.size + 1) = none := gn _ (by simp)
      have old : ∀ {b : Addr} {o : Obj}, hp.get? b = some o → b ≠ hp.objs.size + 1 := fun z => Nat.ne_of_lt (Nat.lt_succ_of_lt (Heap.lt_size z))
      have U : Un (frs X.stack) [] H H hp G := by
        refine ⟨fun b o z n hf hx => ?_, fun b o z n hf hx => ?_, fun b o z n _ => n, fun b o z hx => ?_, fun _ _ z => z, fun _ _ _ z => z, fun b ps z => ⟨#[], by rw [z]; simp⟩⟩
        · rw [gk b (old z)]; exact un.keep b o (stay b o z) (by rw [upd_ne (old z)]; exact n) hf hx
        · rw [gk b (old z)]; exact un.slot b o (stay b o z) (by rw [upd_ne (old z)]; exact n) hf hx
        · rw [gk b (old z)]; exact un.there b o (stay b o z) hx
      have hokG : HOk X.prog X.w H G := fun b o z => by
        have nb : b ≠ hp.objs.size + 1 := ne_of_none z na
        refine (hok b o (by rw [upd_ne nb]; exact z)).stay (fun c v hc y => ?_) (fun c hc => ?_) (fun c xs hc => ?_)
        · have nc : c ≠ hp.objs.size + 1 := by
            rcases hc with hc | hc
            · rw [hc]; exact nb
            · exact at_ne ea hc exo_own
          rw [gk c nc]; exact y
        · have nc := at_ne ea hc exo_own
          rw [upd_ne nc] at hc; exact hc
        · have nc := at_ne ea hc exo_tup
          rw [upd_ne nc] at hc; exact hc
      have J : Inv X pins σ H ⟨G, g2, d2, t2, os'⟩ := I.call' (ch := []) os2 U hokG bare2 (fun b z => absurd z (by simp))
      refine ⟨rv, hp.objs.size + 1, _, _, ⟨G, g2, d2, t2, os'⟩, H, .ref C, none, rfl, J, fun b o z => ?_, ge, hoe, ⟨rfl, rfl⟩, rfl, rfl, na, rfl, bare2, raises_own T.oex.exC T.oex.tyC, h⟩
      by_cases hb : b = hp.objs.size + 1
      · rw [hb, ge] at z; cases z
      · exact (gk b hb).symm.trans z
end
end Hx
/-! ## The bag of draws -/
namespace Hx
open PySem PySem.Spec PyProof.Rows L2
abbrev kC : Key := Sum.inr ("cells" : Str)
abbrev kA : Key := Sum.inr ("at" : Str)
abbrev kD : Key := Sum.inr ("digits" : Str)
abbrev kN : Key := Sum.inr ("count" : Str)
abbrev kF : Key := Sum.inr ("fold" : Str)
def bagK (l : Addr) (i dg ct fd : Int) : List (Key × V) := [(kC, .ref l), (kA, .int i), (kD, .int dg), (kN, .int ct), (kF, .int fd)]
theorem nCA : ¬ kC = kA := by decide +kernel
theorem nCD : ¬ kC = kD := by decide +kernel
theorem nCN : ¬ kC = kN := by decide +kernel
theorem nCF : ¬ kC = kF := by decide +kernel
theorem nAD : ¬ kA = kD := by decide +kernel
theorem nAN : ¬ kA = kN := by decide +kernel
theorem nAF : ¬ kA = kF := by decide +kernel
theorem nDN : ¬ kD = kN := by decide +kernel
theorem nDF : ¬ kD = kF := by decide +kernel
theorem nNF : ¬ kN = kF := by decide +kernel
theorem strN {x y : Str} (h : ¬ (Sum.inr x : Key) = Sum.inr y) : ¬ x = y := fun e => h (by rw [e])
theorem strN' {x y : Str} (h : ¬ (Sum.inr x : Key) = Sum.inr y) : ¬ y = x := fun e => h (by rw [e])
section
variable (l : Addr) (i dg ct fd z : Int)
theorem gC : valV (bagK l i dg ct fd) kC = some (.ref l) := valV_pos rfl
theorem gA : valV (bagK l i dg ct fd) kA = some (.int i) := by unfold bagK; rw [valV_neg nCA, valV_pos rfl]
theorem gD : valV (bagK l i dg ct fd) kD = some (.int dg) := by unfold bagK; rw [valV_neg nCD, valV_neg nAD, valV_pos rfl]
theorem gN : valV (bagK l i dg ct fd) kN = some (.int ct) := by unfold bagK; rw [valV_neg nCN, valV_neg nAN, valV_neg nDN, valV_pos rfl]
theorem gF : valV (bagK l i dg ct fd) kF = some (.int fd) := by unfold bagK; rw [valV_neg nCF, valV_neg nAF, valV_neg nDF, valV_neg nNF, valV_pos rfl]
theorem pA : putK (bagK l i dg ct fd) kA (.int z) = bagK l z dg ct fd := by
  unfold putK
  rw [valV_any, gA, Option.isSome_some, if_pos rfl]
  simp [bagK, strN nCA, strN' nAD, strN' nAN, strN' nAF]
theorem pD : putK (bagK l i dg ct fd) kD (.int z) = bagK l i z ct fd := by
  unfold putK
  rw [valV_any, gD, Option.isSome_some, if_pos rfl]
  simp [bagK, strN nCD, strN nAD, strN' nDN, strN' nDF]
theorem pN : putK (bagK l i dg ct fd) kN (.int z) = bagK l i dg z fd := by
  unfold putK
  rw [valV_any, gN, Option.isSome_some, if_pos rfl]
  simp [bagK, strN nCN, strN nAN, strN nDN, strN' nNF]
theorem pF : putK (bagK l i dg ct fd) kF (.int z) = bagK l i dg ct z := by
  unfold putK
  rw [valV_any, gF, Option.isSome_some, if_pos rfl]
  simp [bagK, strN nCF, strN nAF, strN nDF, strN nNF]
end
/-- a bag stands at p, n draws were taken -/
def Bag (H : Hp) (p : Addr) (n : Nat) : Prop := ∃ (l : Addr) (ns : List Int) (i dg fd : Int), H p = some (.dK (bagK l i dg (n : Int) fd)) ∧ H l = some (.lst (ns.map V.int)) ∧ ns.length ≤ 63 ∧ 0 ≤ i ∧ 0 ≤ dg ∧ 0 ≤ fd ∧ fd < 2147483587
theorem Bag.keep {H H' : Hp} {p : Addr} {n : Nat} (b : Bag H p n) (e : Same H H') : Bag H' p n := by
  obtain ⟨l, ns, i, dg, fd, h1, h2, q⟩ := b
  exact ⟨l, ns, i, dg, fd, e _ _ h1, e _ _ h2, q⟩
theorem Bag.at {H : Hp} {p : Addr} {n : Nat} (b : Bag H p n) : ∃ o, H p = some o := by
  obtain ⟨l, ns, i, dg, fd, h1, _⟩ := b
  exact ⟨_, h1⟩
/-- all but p as it was -/
def But (p : Addr) (H H' : Hp) : Prop := ∀ b o, b ≠ p → H b = some o → H' b = some o
theorem But.refl (p : Addr) (H : Hp) : But p H H := fun _ _ _ e => e
theorem But.trans {p : Addr} {H H1 H2 : Hp} (a : But p H H1) (b : But p H1 H2) : But p H H2 := fun c o n e => b c o n (a c o n e)
theorem Same.but {p : Addr} {H H' : Hp} (e : Same H H') : But p H H' := fun b o _ h => e b o h
theorem But.upd {p : Addr} {H : Hp} {o : HO} : But p H (upd H p o) := fun b u n e => by rw [upd_ne n]; exact e
theorem But.free {p : Addr} {H H' : Hp} {n : Nat} (e : But p H H') (b : Bag H' p n) {x : Addr} (h : H' x = none) : H x = none := by
  cases q : H x with
  | none => rfl
  | some o =>
    by_cases z : x = p
    · obtain ⟨u, hu⟩ := b.at
      rw [z, hu] at h
      cases h
    · rw [e x o z q] at h
      cases h
theorem new_same {H : Hp} {p : Addr} {o : HO} (h : H p = none) : Same H (upd H p o) := fun b u q => by rw [upd_ne (ne_of_none q h)]; exact q
/-- _law_draw -/
def spDraw : Sp := fun vs H Q _ => ∃ (p : Addr) (n : Nat) (m : Int), vs = [.ref p, .int m] ∧ Bag H p n ∧ n ≤ 1000000 ∧ 0 < m ∧ m.natAbs < 2 ^ 8000 ∧
  ∀ (r : Int) (H' : Hp), 0 ≤ r → r < m → Bag H' p (n + 1) → But p H H' → Q (.int r) H'
/-- _law_bag -/
def spBag (K : PySem.W.Frag) : Sp := fun vs H Q _ => ∃ (a : Addr) (ns : List Int), vs = [.ref a] ∧ SqL K H a (ns.map V.int) ∧ ns.length ≤ 63 ∧
  ∀ (p : Addr) (H' : Hp), H p = none → Same H H' → Bag H' p 0 → Q (.ref p) H'
/-- built-ins that the draws use -/
structure BltT (mg : Str → Option Value) : Prop where
  int : mg "int" = none
  list : mg "list" = none
  len : mg "len" = none
theorem big17 {x : Int} (h0 : 0 ≤ x) (h : x < 18446744073709551616) : 0 ≤ (17 : Int) ∧ (17 : Int) ≤ 1000000 ∧ x.natAbs < 2 ^ 64 := ⟨by decide, by decide, by omega⟩
end Hx
/-! ## An error class with all that is asked of it -/
namespace Hx
open PySem PySem.Spec PyProof.Rows L2
structure ClT (K : PySem.W.Frag) (mg : Str → Option Value) (x qual : Str) (st : Stmt) (ps fl : List Str) (C fI : Addr) : Prop where
  ex : ExT K mg x C fI
  fn : ∃ fd, Fun K "__init__" qual st fI fd ∧ Binds K fd ps []
  nf : ∀ f ∈ fl, PySem.W.findIn K (.ref C) f = some none
  xf : XfC K C
  is : ExcC K C
/-- how an error that was made from a, b, c leaves: field f of the class at C -/
def err1 (C : Addr) (f : Str) (a : V) (H : Hp) (E : XK) : Prop := ∀ d, H d = none → E (.ref C) (some d) (upd H d (.xd [(f, a)]))
def err3 (C : Addr) (f g k : Str) (a b c : V) (H : Hp) (E : XK) : Prop := ∀ d, H d = none → E (.ref C) (some d) (upd H d (.xd [(k, c), (g, b), (f, a)]))
section
variable {X : Cx} {e : Expr} {es : List Expr} {ta : TA} {p pos pos2 : Pos} {W : WX}
/-- raise C(..) -/
def tRz (C : Addr) (sp : Sp) (W : WX) (ta : TA) : TS := fun _ σ H => tMkO C sp [] ta σ H fun cls d H' => W cls d σ H'
theorem rd1 {K : PySem.W.Frag} {C : Addr} {f : Str} {i : Nat} {W : WX} {D : Ends} {σ : L2.St} {H : Hp} {v : V} (T : OexC K C) (nf : PySem.W.findIn K (.ref C) f = some none) (hi : σ[i]? = some (some v)) (h : err1 C f v H fun cls d H' => W cls d σ H') :
    tRz C (spI1 K f) W (tCons (tVar i) tNil) D σ H := ⟨v, hi, mk1 (Q := fun cls d H' => W cls d σ H') T nf h⟩
theorem rd3 {K : PySem.W.Frag} {C : Addr} {f g h : Str} {i j k : Nat} {W : WX} {D : Ends} {σ : L2.St} {H : Hp} {u v z : V} (T : OexC K C) (n1 : PySem.W.findIn K (.ref C) f = some none) (n2 : PySem.W.findIn K (.ref C) g = some none) (n3 : PySem.W.findIn K (.ref C) h = some none)
    (hi : σ[i]? = some (some u)) (hj : σ[j]? = some (some v)) (hk : σ[k]? = some (some z)) (q : err3 C f g h u v z H fun cls d H' => W cls d σ H') :
    tRz C (spI3 K f g h) W (tCons (tVar i) (tCons (tVar j) (tCons (tVar k) tNil))) D σ H := ⟨u, hi, v, hj, z, hk, mk3 (Q := fun cls d H' => W cls d σ H') T n1 n2 n3 q⟩
theorem ps_rz {x qual : Str} {st : Stmt} {ps fl : List Str} {sp : Sp} {C fI : Addr} (hc : X.calm = true) (tk : Takes X W) (T : ClT X.K X.mg x qual st ps fl C fI) (ok : ∀ fd, Fun X.K "__init__" qual st fI fd → FnOk X.prog X.w X.K X.mg X.base CX0 1 fI fd ps sp) (hr : Room 2 X.A)
    (ha : PA X (e :: es) ta) (hg : Gl X x := by rfl) (hdb : (x == ("__debug__" : Str)) = false := by decide) (hs : starEach (e :: es) X.env = (false, eval e X.env) :: starEach es X.env := by rfl) (hp : (backTo pos (starEach es X.env)).any (·.1) = false := by rfl) :
    PS X (.Raise (some (.Call (.Name x p) (e :: es) [] pos)) none pos2) (tRz C sp W ta) := by
  obtain ⟨fd, F, b⟩ := T.fn
  exact ps_raise hc tk (pmk_oex T.ex.oex T.ex.iC T.ex.tI (ok fd F) hr b .nil pass0 hg T.ex.gC ha hdb hs hp)
/-- raise C() -/
def tR0 (C : Addr) (W : WX) : TS := fun _ σ H => W (.ref C) none σ H
theorem ps_r0 {x qual : Str} {st : Stmt} {C fI : Addr} (hc : X.calm = true) (tk : Takes X W) (T : ClT X.K X.mg x qual st ["self"] [] C fI) (ok : ∀ fd, Fun X.K "__init__" qual st fI fd → FnOk X.prog X.w X.K X.mg X.base CX0 1 fI fd ["self"] (spI0 X.K)) (hr : Room 2 X.A) (hg : Gl X x := by rfl)
    (hdb : (x == ("__debug__" : Str)) = false := by decide) : PS X (.Raise (some (.Call (.Name x p) [] [] pos)) none pos2) (tR0 C W) := by
  obtain ⟨fd, F, b⟩ := T.fn
  exact ps_raise hc tk (pmk_none T.ex (ok fd F) hr b hg hdb)
end
end Hx
/-! ## A def that is handed the error that its caller's suite holds -/
namespace Hx
open PySem PySem.Spec PyProof.Rows L2
/-- as FnOk, while an error is handled; its object p stands still and may be looked at -/
structure FnP (P : Program) (w : World) (K : PySem.W.Frag) (mg : Str → Option Value) (base : Heap) (k : Nat) (f : Addr) (fd : FuncData) (ps : List Str) (sp : Addr × Obj → Sp) : Prop where
  len : ∀ p vs H Q E, sp p vs H Q E → vs.length = ps.length
  run : ∀ (p : Addr × Obj) (A : Around) (outer : List Env) (s : Shared) (H : Hp) (args : Args) (us : List Value) (vs : List V) (Q : VK) (E : XK), L2H.RoomH k A → L2H.PinOk outer H s p → Env0 P w K mg base A outer s H → BindsTo s fd args (ps.zip us) → Vals vs us → sp p vs H Q E →
    codeAny (model P w) A (.call (.ref f) args) (CR CX0 outer P w H s Q E) s
theorem fnP_of {P : Program} {w : World} {K : PySem.W.Frag} {mg : Str → Option Value} {base : Heap} {k : Nat} {x qual : Str} {st : Stmt} {f : Addr} {fd : FuncData} {N ps : List Str} {sp : Addr × Obj → Sp} (F : Fun K x qual st f fd) (S : FnScope N ps (defScope st)) (ln : ∀ p vs H Q E, sp p vs H Q E → vs.length = ps.length)
    (hb : ∀ (p : Addr × Obj) (cdv : Value) (A : Around) (outer : List Env) (s : Shared) (H : Hp) (vs : List V) (Q : VK) (E : XK), L2H.RoomH k (A.deeper (envOfC qual (defScope st) s.heap.objs.size f cdv)) → sp p vs H Q E →
      ∃ t, PSs (L2H.cxH CX0 P w K mg base N qual (defScope st) f cdv A outer s H E p).nox (defBody st) t ∧ t { nx := fun _ G => Q .non G, rt := Q } (L2.start N vs) H) : FnP P w K mg base (k + 1) f fd ps sp := by
  obtain ⟨oc, od, kV, doc, pm, an, cdv, ct, osl, rfl, lk, hcd⟩ := F.ex
  constructor
  · exact ln
  intro p A outer s H args us vs Q E hr pin e0 bd rv hsp
  have KX : K.In s.heap := e0.mod.kin.keeps fun b o z => (e0.bs b o z).1
  refine codeAny_call_function hr.depth (KX _ _ lk) rfl S.co S.gen rfl (PySem.W.codeRec_of KX hcd) (bd _ _ _ _ (wpAny_newFunctionEnv_cells S.kind ?_ fun env he t1 ic => ?_))
  · rintro ⟨n, v⟩ hy
    rcases S.par n (List.of_mem_zip hy).1 with z | z
    · exact .inl z
    · exact .inr ⟨z, PySem.W.cellsFrom_some _ _ _ (.inl z)⟩
  subst he
  refine ⟨(e0.mod.nolimit.keeps fun b o z => (e0.bs b o z).1).keeps ic.toInCall.keep, codeAny_func ?_⟩
  obtain ⟨t, ht, hq⟩ := hb p cdv A outer s H vs Q E (hr.deeper _) hsp
  have I := L2H.inv_startH (CX := CX0) (E := E) S pin e0 (ln _ _ _ _ _ hsp) rv ic
  refine wpAny_mono (ht.nox.run [] t1 _ H _ I hq) (fun fl s' hs => ?_) fun _ _ z => z
  cases fl with
  | ret u => obtain ⟨v, ρ, G, J, r, q⟩ := hs; exact ⟨v, G, J.os, J.bare, J.base, J.hok, r, q⟩
  | next => obtain ⟨ρ, G, J, q⟩ := hs; exact ⟨.non, G, J.os, J.bare, J.base, J.hok, rfl, q⟩
  | brk => obtain ⟨ρ, G, J, z⟩ := hs; exact False.elim z
  | cont => obtain ⟨ρ, G, J, z⟩ := hs; exact False.elim z
section
variable {X : Cx} {k : Nat} {f : Addr} {fd : FuncData} {ps : List Str} {sp : Addr × Obj → Sp} {x : Str} {q pos : Pos} {e : Expr} {es : List Expr} {t : TA} {p : Addr × Obj}
theorem pe_callP (F : FnP X.prog X.w X.K X.mg X.base k f fd ps sp) (hp : p ∈ X.pn) (hr : L2H.RoomH k X.A) (hm : X.mg x = some (.ref f)) (hk : PySem.W.keepIn X.K (.ref f) = true) (hb : Binds X.K fd ps []) (ha : PA X (e :: es) t) (hg : Gl X x := by rfl)
    (hdb : (x == ("__debug__" : Str)) = false := by decide) (h1 : starEach (e :: es) X.env = (false, eval e X.env) :: starEach es X.env := by rfl) (h2 : (backTo pos (starEach es X.env)).any (·.1) = false := by rfl) :
    PE X (.Call (.Name x q) (e :: es) [] pos) (tCallS (sp p) (fun _ _ _ _ => False) t) := by
  constructor
  intro pins s σ H Q I h
  refine wpAny_Call_Name_kw (ld_glob I hg hm ?_ hdb)
  refine PySem.W.callWith_K (h₀ := X.base) I.ok.mod.kin hk (thn (ha.run pos pins s σ H _ I h) ?_) h1 h2
  rintro us s1 ⟨vs, H1, I1, r, hsp⟩
  refine ⟨I1.kIn, ?_⟩
  have hl : us.length = ps.length := by rw [← r.length]; exact F.len _ _ _ _ _ hsp
  have bd := hb s1 us I1.kIn (by rw [List.append_nil]; exact hl)
  rw [List.append_nil] at bd
  have pn := I1.pin p (List.mem_append_left _ hp)
  have pin : L2H.PinOk X.stack H1 s1 p := ⟨pn.1, pn.2.1, fun hm => (List.mem_cons.mp (I1.stkSub p.1 hm)).elim pn.2.2.1 pn.2.2.2.1, pn.2.2.2.2⟩
  refine wpAny_call (codeAny_mono (F.run p X.A X.stack s1 H1 ⟨us, []⟩ us vs Q (fun _ _ _ => False) hr pin I1.env0 bd r hsp) fun r s' hq => ?_)
  cases r with
  | error er => exact hq.elim
  | ok fl =>
    cases fl with
    | ret u => exact I1.after hq
    | next => exact False.elim hq
    | brk => exact False.elim hq
    | cont => exact False.elim hq
end
end Hx
/-! ## What the top has written, told by two answers -/
namespace Hx
open PySem PySem.Spec PyProof.Rows L2
/-- what is asked of the error class at C, of its __init__ at f, of its fields -/
def clsB (K : PySem.W.Frag) (C f : Addr) (fl : List Str) : Bool :=
  decide (PySem.W.findIn K (.ref C) "__setattr__" = some (some (.builtin "object.__setattr__"))) && (decide (PySem.W.findIn K (.ref C) "__getattribute__" = some (some (.builtin "BaseException.__getattribute__"))) &&
  (decide (PySem.W.findIn K (.ref C) "__getattr__" = some none) && (decide (PySem.W.subIn K (.ref C) (.type "BaseException") = some true) && (decide (PySem.W.typeIn K (.ref C) = some (.type "type")) && (PySem.W.hasDictIn K C && (PySem.W.keepIn K (.ref C) &&
  (decide (PySem.W.findIn K (.ref C) "__class__" = some (some (.builtin "object.__class__"))) && (decide (PySem.W.specialIn K (.builtin "object.__class__") "__get__" = some (some (.builtin "getset_descriptor.__get__"))) && (decide (PySem.W.takesIn K (.builtin "object.__class__") = some true) &&
  (decide (PySem.W.mroIn K C (.type "object") = some true) && (decide (PySem.W.findIn K (.ref C) "__init__" = some (some (.ref f))) && (decide (PySem.W.typeIn K (.ref f) = some (.type "function")) && fl.all fun x => decide (PySem.W.findIn K (.ref C) x = some none)))))))))))))
theorem cl_mk {K : PySem.W.Frag} {h : Heap} {mg : Str → Option Value} {x qual : Str} {st : Stmt} {ps fl : List Str} {C f D : Addr} (X : K.In h) (G : h.Ns mainGlobals mg) (aC : PySem.W.nsIn K mainGlobals x = some (some (.ref C))) {nm q : Str} {N : Addr} {bs : List Value} {sn : List Str} {sub : List Value} {ab : Bool} {col : Option Bool} {dd : Option Addr} {m0 m1 m2 m3 m5 : Option Value}
    (xL : K.lookup C = some (excClassObj nm q C N bs [.ref D, .type "ValueError", .type "Exception", .type "BaseException", .type "object"] true sn sub ab col dd m0 m1 m2 m3 m5 "ValueError.__new__")) {oc : Value} {od an : Option Addr} {osl : Array (Option Value)} {kV doc pm cdv ct : Value}
    (lf : K.lookup f = some ⟨oc, od, .func (PySem.W.fnOf "__init__" qual (defArgs st) (defBody st) (defScope st) .none kV doc pm an cdv ct), osl⟩) (cf : PySem.W.codeIn K cdv qual = true) (kf : PySem.W.keepIn K (.ref f) = true)
    (hb : ∀ (kV doc pm : Value) (an : Option Addr) (cdv ct : Value) (us : List Value), us.length = ps.length → bindArgs (PySem.W.fnOf "__init__" qual (defArgs st) (defBody st) (defScope st) .none kV doc pm an cdv ct) ⟨us, []⟩ = pure (ps.zip us)) (b : clsB K C f fl = true) :
    ClT K mg x qual st ps fl C f := by
  unfold clsB at b
  simp only [Bool.and_eq_true, decide_eq_true_eq, List.all_eq_true] at b
  obtain ⟨sa, ga, gg, eC, tC, hC, kC, cc, cn, ct', mo, iC, tI, nf⟩ := b
  have F := fun_mk (st := st) lf cf kf
  exact ⟨⟨⟨⟨nm, q, N, bs, _, sn, sub, ab, col, dd, m0, m1, m2, m3, m5, xL, by rfl⟩, sa, eC, tC, kC⟩, PySem.W.mg_of X G aC, iC, tI⟩, ⟨_, F, F.binds hb⟩, nf, ⟨ga, gg, eC, hC⟩, ⟨ga, gg, eC, hC, cc, cn, ct', mo⟩⟩
/-- which error is of which class -/
def pairsB (K : PySem.W.Frag) (D : Addr) (Cs : List Addr) : Bool := (List.range Cs.length).all fun j => decide (PySem.W.exmOne K (.ref (Cs.getD j 0)) (.ref D) = some true) && (decide (PySem.W.kitOne K (.ref (Cs.getD j 0)) (.type "ValueError") = some true) && (List.range Cs.length).all fun k =>
  decide (PySem.W.exmOne K (.ref (Cs.getD j 0)) (.ref (Cs.getD k 0)) = some (decide (j = k))) && decide (PySem.W.kitOne K (.ref (Cs.getD j 0)) (.ref (Cs.getD k 0)) = some (decide (j = k))))
theorem pairs_of {K : PySem.W.Frag} {D : Addr} {Cs : List Addr} (b : pairsB K D Cs = true) {j : Nat} (hj : j < Cs.length) : PySem.W.exmOne K (.ref (Cs.getD j 0)) (.ref D) = some true ∧ PySem.W.kitOne K (.ref (Cs.getD j 0)) (.type "ValueError") = some true ∧
    ∀ k, k < Cs.length → PySem.W.exmOne K (.ref (Cs.getD j 0)) (.ref (Cs.getD k 0)) = some (decide (j = k)) ∧ PySem.W.kitOne K (.ref (Cs.getD j 0)) (.ref (Cs.getD k 0)) = some (decide (j = k)) := by
  unfold pairsB at b
  rw [List.all_eq_true] at b
  have z := b j (List.mem_range.mpr hj)
  simp only [Bool.and_eq_true, decide_eq_true_eq, List.all_eq_true] at z
  exact ⟨z.1, z.2.1, fun k hk => z.2.2 k (List.mem_range.mpr hk)⟩
end Hx

/-! ## Dicts whose keys are nested tuples and whose values are True -/
namespace Nd
open PySem PySem.Spec PyProof.Rows L2
mutual
/-- the value is such a key -/
inductive NV (K : PySem.W.Frag) (H : Hp) : V → NestedKey → Prop
  | non : NV K H .non .none
  | int (i : Int) : NV K H (.int i) (.num i)
  | str (x : Str) : NV K H (.str x) (.text x)
  | tup {a : Addr} {xs : List V} {ks : List NestedKey} : SqT K H a xs → NVs K H xs ks → NV K H (.ref a) (.tup ks)
inductive NVs (K : PySem.W.Frag) (H : Hp) : List V → List NestedKey → Prop
  | nil : NVs K H [] []
  | cons {x : V} {xs : List V} {k : NestedKey} {ks : List NestedKey} : NV K H x k → NVs K H xs ks → NVs K H (x :: xs) (k :: ks)
end
theorem sqt_same {K : PySem.W.Frag} {H H' : Hp} {a : Addr} {xs : List V} (e : Same H H') (h : SqT K H a xs) : SqT K H' a xs := by
  rcases h with (h | ⟨o, h⟩) | h
  · exact .inl (.inl (e _ _ h))
  · exact .inl (.inr ⟨o, e _ _ h⟩)
  · exact .inr h
/-- kept where tuples are -/
def Tups (H H' : Hp) : Prop := ∀ b xs, Rd H b (.tup xs) → Rd H' b (.tup xs)
theorem Tups.of {H H' : Hp} (e : Same H H') : Tups H H' := fun b xs h => by
  rcases h with h | ⟨o, h⟩
  · exact .inl (e _ _ h)
  · exact .inr ⟨o, e _ _ h⟩
theorem Tups.trans {H H1 H2 : Hp} (a : Tups H H1) (b : Tups H1 H2) : Tups H H2 := fun c xs h => b c xs (a c xs h)
theorem Tups.refl (H : Hp) : Tups H H := fun _ _ h => h
theorem Tups.upd {H : Hp} {a : Addr} {o : HO} (h : ∀ xs, ¬ Rd H a (.tup xs)) : Tups H (upd H a o) := fun b xs r => by
  have nb : b ≠ a := fun e => h xs (e ▸ r)
  rcases r with r | ⟨ob, r⟩
  · exact .inl (by rw [upd_ne nb]; exact r)
  · exact .inr ⟨ob, by rw [upd_ne nb]; exact r⟩
mutual
theorem NV.keep {K : PySem.W.Frag} {H H' : Hp} (e : Tups H H') : ∀ (k : NestedKey) (v : V), NV K H v k → NV K H' v k
  | .none, _, h => by cases h; exact .non
  | .num i, _, h => by cases h; exact .int i
  | .text x, _, h => by cases h; exact .str x
  | .tup ks, _, h => by
    cases h with
    | tup h1 h2 => exact .tup (h1.elim (fun z => .inl (e _ _ z)) .inr) (NVs.keep e ks _ h2)
theorem NVs.keep {K : PySem.W.Frag} {H H' : Hp} (e : Tups H H') : ∀ (ks : List NestedKey) (xs : List V), NVs K H xs ks → NVs K H' xs ks
  | [], _, h => by cases h; exact .nil
  | k :: ks, _, h => by
    cases h with
    | cons h1 h2 => exact .cons (NV.keep e k _ h1) (NVs.keep e ks _ h2)
end
section
variable {X : Cx} {pins : List (Addr × Obj)} {σ : L2.St} {H : Hp} {s : Shared}
mutual
theorem nv_is (I : Inv X pins σ H s) : ∀ (k : NestedKey) (v : V) (u : Value), NV X.K H v k → RelV v u → NestedIs s.heap k u
  | .none, _, _, h, r => by cases h; cases r; exact .none
  | .num i, _, _, h, r => by cases h; obtain ⟨t, rfl⟩ := r; exact .int i t
  | .text x, _, _, h, r => by cases h; obtain ⟨t, rfl⟩ := r; exact .text x t
  | .tup ks, _, _, h, r => by
    cases h with
    | @tup a xs _ h1 h2 =>
      cases (show _ = Value.ref a from r)
      obtain ⟨its, rv, ⟨o, e1, e2, n, e3⟩, _⟩ := I.tuple h1
      exact .tup e1 e2 e3 (by simpa using nvs_are I ks xs its h2 rv)
theorem nvs_are (I : Inv X pins σ H s) : ∀ (ks : List NestedKey) (xs : List V) (us : List Value), NVs X.K H xs ks → Vals xs us → NestedAll s.heap ks us
  | [], _, _, h, r => by cases h; cases r; exact .nil
  | k :: ks, _, _, h, r => by
    cases h with
    | cons h1 h2 =>
      cases r with
      | cons r1 r2 => exact .cons (nv_is I k _ _ h1 r1) (nvs_are I ks _ _ h2 r2)
end
end
/-- the entries: each key with the tuple that stands for it -/
abbrev Ks := List (NestedKey × Addr)
def xsOf (ks : Ks) : List (NestedKey × Addr × Value) := ks.map fun p => (p.1, p.2, Value.bool true)
def ndP (P : Program) (w : World) (a : Addr) (ks : Ks) : Heap → Prop := fun h => ∃ o es ep, h.get? a = some o ∧ o.ExactDict ∧ o.data = .dict es ep ∧ es.toList = (xsOf ks).map (entryOfKey (nestedKind P w)) ∧ ((xsOf ks).map (·.1)).Nodup
def ndO (P : Program) (w : World) (a : Addr) (ks : Ks) : HO := .ext (ndP P w a ks)
/-- at a stands the dict of the keys ks -/
structure ND (P : Program) (w : World) (K : PySem.W.Frag) (H : Hp) (a : Addr) (ks : Ks) : Prop where
  at_ : H a = some (ndO P w a ks)
  sm : (a == sysModules) = false
  ln : ks.length ≤ 1000
  nv : ∀ p ∈ ks, NV K H (.ref p.2) p.1 ∧ p.1.depth ≤ 8
def putN (ks : Ks) (k : NestedKey) (b : Addr) : Ks := if (ks.any fun p => decide (p.1 = k)) = true then ks else ks ++ [(k, b)]
theorem atKey_xs (ks : Ks) (k : NestedKey) : (atKey (xsOf ks) k).isSome = ks.any fun p => decide (p.1 = k) := by
  unfold xsOf
  induction ks with
  | nil => rfl
  | cons p r ih =>
    by_cases h : p.1 = k
    · simp [atKey, h]
    · simpa [atKey, h] using ih
theorem stored_xs (ks : Ks) (k : NestedKey) (b : Addr) : storedH (xsOf ks) k b (.bool true) = xsOf (putN ks k b) := by
  unfold storedH putN
  rw [atKey_xs]
  split
  · unfold xsOf
    rw [List.map_map]
    refine List.map_congr_left fun p _ => ?_
    by_cases h : p.1 = k <;> simp [putAt, h]
  · simp [xsOf]
theorem putN_len (ks : Ks) (k : NestedKey) (b : Addr) : (putN ks k b).length ≤ ks.length + 1 := by
  unfold putN
  split
  · exact Nat.le_succ _
  · rw [List.length_append, List.length_singleton]; exact Nat.le_refl _
theorem nd_not {P : Program} {w : World} {K : PySem.W.Frag} {H : Hp} {a : Addr} {ks : Ks} (h : H a = some (ndO P w a ks)) (xs : List V) : ¬ Rd H a (.tup xs) := fun r => by
  rcases r with r | ⟨o, r⟩
  · rw [h] at r; cases r
  · rw [h] at r; cases r
section
variable {X : Cx} {pins : List (Addr × Obj)} {σ : L2.St} {H : Hp} {s : Shared} {a : Addr} {ks : Ks}
theorem nd_at (I : Inv X pins σ H s) (h : H a = some (ndO X.prog X.w a ks)) : ndP X.prog X.w a ks s.heap := by
  have z : ObjOk X.prog X.w H s.heap a (.ext (ndP X.prog X.w a ks)) := I.hok a _ h
  exact z.1
theorem nd_obj {P : Program} {w : World} {H' : Hp} {h' : Heap} (z : ndP P w a ks h') : ObjOk P w H' h' a (ndO P w a ks) := by
  obtain ⟨o, es, ep, h1, h2, h3, h4, h5⟩ := z
  exact ⟨⟨o, es, ep, h1, h2, h3, h4, h5⟩, ⟨o, h1⟩, fun g1 g2 ⟨o', es', ep', q1, q2⟩ k => ⟨o', es', ep', k _ q1, q2⟩⟩
theorem nd_dict (I : Inv X pins σ H s) (N : ND X.prog X.w X.K H a ks) : s.heap.DictOfH (nestedKind X.prog X.w) a (xsOf ks) := by
  obtain ⟨o, es, ep, h1, h2, h3, h4, h5⟩ := nd_at I N.at_
  refine ⟨o, es, ep, h1, h2, h3, h4, fun x hx => ?_, h5⟩
  unfold xsOf at hx
  obtain ⟨p, hp, rfl⟩ := List.mem_map.mp hx
  exact ⟨nv_is I p.1 (.ref p.2) (.ref p.2) (N.nv p hp).1 rfl, (N.nv p hp).2⟩
/-- what stands behind a store -/
theorem nd_put {h' : Heap} {t' : Nat} {k : NestedKey} {b : Addr} (I : Inv X pins σ H s) (N : ND X.prog X.w X.K H a ks) (hm : h'.DictOfH (nestedKind X.prog X.w) a (storedH (xsOf ks) k b (.bool true))) (hs : Heap.SameBut a s.heap h') :
    Inv X pins σ (upd H a (ndO X.prog X.w a (putN ks k b))) { s with heap := h', toks := t' } := by
  rw [stored_xs] at hm
  obtain ⟨o, es, ep, h1, h2, h3, h4, _, h5⟩ := hm
  exact d_write I (by rw [N.at_]; exact True.intro) hs ⟨o, h1⟩ (nd_obj ⟨o, es, ep, h1, h2, h3, h4, h5⟩)
theorem ND.put {P : Program} {w : World} {K : PySem.W.Frag} {k : NestedKey} {b : Addr} (N : ND P w K H a ks) (hl : ks.length < 1000) (hk : NV K H (.ref b) k) (hd : k.depth ≤ 8) : ND P w K (upd H a (ndO P w a (putN ks k b))) a (putN ks k b) := by
  have e : Tups H (upd H a (ndO P w a (putN ks k b))) := Tups.upd (nd_not (K := K) N.at_)
  refine ⟨upd_same, N.sm, Nat.le_trans (putN_len ks k b) hl, fun p hp => ?_⟩
  have hp' : p ∈ ks ∨ p = (k, b) := by
    unfold putN at hp
    split at hp
    · exact .inl hp
    · exact (List.mem_append.mp hp).imp id fun z => List.mem_singleton.mp z
  rcases hp' with hp' | rfl
  · exact ⟨NV.keep e _ _ (N.nv p hp').1, (N.nv p hp').2⟩
  · exact ⟨NV.keep e _ _ hk, hd⟩
theorem ND.keep {P : Program} {w : World} {K : PySem.W.Frag} {H' : Hp} (N : ND P w K H a ks) (e : Same H H') : ND P w K H' a ks :=
  ⟨e _ _ N.at_, N.sm, N.ln, fun p hp => ⟨NV.keep (Tups.of e) _ _ (N.nv p hp).1, (N.nv p hp).2⟩⟩
end
/-! ### rules -/
section
variable {X : Cx} {pos : Pos}
/-- {} -/
def tNdNew (P : Program) (w : World) : TE := fun _ H Q => ∀ p, H p = none → (p == sysModules) = false → Q (.ref p) (upd H p (ndO P w p []))
theorem nd_empty {P : Program} {w : World} (h : Heap) : ndP P w h.objs.size [] (h.push { cls := .type "dict", data := .dict #[] }) :=
  ⟨_, #[], 0, Heap.get?_push_size _ rfl, ⟨rfl, rfl, rfl⟩, rfl, rfl, List.nodup_nil⟩
theorem pe_ndnew : PE X (.Dict [] [] pos) (tNdNew X.prog X.w) := ⟨fun pins s σ H Q I h =>
  wpAny_Dict_empty ⟨.ref s.heap.objs.size, _, I.laid (a := s.heap.objs.size) (o := ndO X.prog X.w s.heap.objs.size []) (t' := s.toks) (fun _ _ q => Heap.get?_push_of_some _ q) (Nat.le_refl _) (nd_obj (nd_empty s.heap)), rfl,
    h _ (I.hok.fresh (Nat.le_refl _)) (beq_eq_false_iff_ne.mpr (Ne.symm (Nat.ne_of_lt I.big)))⟩⟩
theorem nd_new {P : Program} {w : World} {K : PySem.W.Frag} {H : Hp} {p : Addr} (sm : (p == sysModules) = false) : ND P w K (upd H p (ndO P w p [])) p [] := ⟨upd_same, sm, Nat.zero_le _, fun _ z => nomatch z⟩
/-- d[k] = True -/
def rNdSet (P : Program) (w : World) (K : PySem.W.Frag) : TSet := fun o i v H Q => ∃ (a b : Addr) (ks : Ks) (k : NestedKey), o = .ref a ∧ i = .ref b ∧ v = .bl true ∧ ND P w K H a ks ∧ ks.length < 1000 ∧ NV K H (.ref b) k ∧ k.depth ≤ 8 ∧ Q (upd H a (ndO P w a (putN ks k b)))
theorem set_nd (hu : X.A.units + 64 < cLine) : PSet X (rNdSet X.prog X.w X.K) := by
  intro pins s σ H o i v ov iv u Q I ro ri rv h
  obtain ⟨a, b, ks, k, rfl, rfl, rfl, N, hl, hk, hd, q⟩ := h
  cases (show ov = Value.ref a from ro)
  cases (show iv = Value.ref b from ri)
  cases (show u = Value.bool true from rv)
  have hz : (xsOf ks).length ≤ sizeLine := by
    unfold xsOf
    rw [List.length_map]
    exact Nat.le_trans N.ln (by decide)
  refine wpAny_setItem_heap (hsz := hz) (knd := nestedKind X.prog X.w) (by show X.A.units + 1 + 8 < cLine; omega) ⟨nv_is I k _ _ hk rfl, hd⟩ (nd_dict I N) fun h' hm hs => ?_
  exact ⟨_, nd_put I N hm hs, q⟩
/-- list(d) -/
def rNdList (P : Program) (w : World) (K : PySem.W.Frag) : List V → Hp → VK → Prop := fun xs H Q => ∃ (a : Addr) (ks : Ks), xs = [.ref a] ∧ ND P w K H a ks ∧ ∀ l, H l = none → Q (.ref l) (upd H l (.lst (ks.map fun p => V.ref p.2)))
theorem call_listNd (hc : X.calm = true) : CallR X (.type "list") (rNdList X.prog X.w X.K) := by
  intro pins s σ H xs us Q I r h
  obtain ⟨a, ks, rfl, N, q⟩ := h
  obtain ⟨u, rfl, ru⟩ := vals1 r
  cases (show u = Value.ref a from ru)
  obtain ⟨o, es, ep, h1, h2, h3, h4, h5⟩ := nd_at I N.at_
  have sz : es.size = ks.length := by
    rw [← Array.length_toList, h4, List.length_map]
    unfold xsOf
    rw [List.length_map]
  refine PySem.W.kdl_call (KdlSrc.rawDict (es := es) (ep := ep) N.sm) (I.ok.hd hc) ⟨o, h1, h2, h3⟩ (by rw [sz]; exact Nat.le_trans N.ln (by decide)) fun h' tk acc c kp eS it => ?_
  have rel : ∀ (js : Ks) (vs : List Value), vs = js.map (fun p => Value.ref p.2) → Vals (js.map fun p => V.ref p.2) vs := fun js => by
    induction js with
    | nil => intro vs e; subst e; exact .nil
    | cons p r ih => intro vs e; subst e; exact .cons rfl (ih _ rfl)
  have ea : acc.toList = ks.map fun p => Value.ref p.2 := by
    refine List.ext_getElem? fun j => ?_
    rw [List.getElem?_map, Array.getElem?_toList]
    have qe := entry_at h4 j
    unfold xsOf at qe
    rw [List.getElem?_map] at qe
    cases hj : acc[j]? with
    | none =>
      have g : ks.length ≤ j := by
        have := Array.getElem?_eq_none_iff.mp hj
        have e1 := it.1
        omega
      rw [List.getElem?_eq_none g]
      rfl
    | some v =>
      obtain ⟨hi, hv⟩ := it.2 j v hj
      rw [Array.getElem?_eq_getElem hi] at qe
      cases hb : ks[j]? with
      | none => rw [hb] at qe; cases qe
      | some p =>
        rw [hb] at qe
        have e2 : es[j] = entryOfKey (nestedKind X.prog X.w) (p.1, p.2, Value.bool true) := Option.some.inj qe
        rw [hv, e2]
        rfl
  have new : ObjOk X.prog X.w (upd H s.heap.objs.size (.lst (ks.map fun p => V.ref p.2))) h' s.heap.objs.size (.lst (ks.map fun p => V.ref p.2)) := by
    refine ⟨by rw [List.length_map]; exact Nat.le_trans N.ln (by decide), acc.toList, c, rel ks _ ea, ?_⟩
    rw [eS]
  exact ⟨.ref s.heap.objs.size, _, I.laid (t' := tk) kp (Nat.le_refl _) new, rfl, q _ (I.hok.fresh (Nat.le_refl _))⟩
/-- {k: True} -/
def tNdOne (P : Program) (w : World) (K : PySem.W.Frag) (tk tv : TE) : TE := fun σ H Q => ∀ p, H p = none → (p == sysModules) = false → tk σ (upd H p (ndO P w p [])) fun x H1 => tv σ H1 fun y H2 => ∃ (b : Addr) (k : NestedKey), x = .ref b ∧ y = .bl true ∧ NV K H2 (.ref b) k ∧ k.depth ≤ 8 ∧ H2 p = some (ndO P w p []) ∧ Q (.ref p) (upd H2 p (ndO P w p [(k, b)]))
theorem pe_ndone {e f : Expr} {tk tv : TE} (hu : X.A.units + 64 < cLine) (he : PE X e tk) (hf : PE X f tv) : PE X (.Dict [some e] [f] pos) (tNdOne X.prog X.w X.K tk tv) := by
  constructor
  intro pins s σ H Q I h
  have I1 : Inv X pins σ (upd H s.heap.objs.size (ndO X.prog X.w s.heap.objs.size [])) { s with heap := s.heap.push { cls := .type "dict", data := .dict #[] } } :=
    I.laid (a := s.heap.objs.size) (t' := s.toks) (fun _ _ q => Heap.get?_push_of_some _ q) (Nat.le_refl _) (nd_obj (nd_empty s.heap))
  have sm : (s.heap.objs.size == sysModules) = false := beq_eq_false_iff_ne.mpr (Ne.symm (Nat.ne_of_lt I.big))
  have run := (pps_cons (pos := pos) he hf pps_nil).run pins _ σ _ (fun ps H2 => match ps with
    | [(x, y)] => ∃ (b : Addr) (k : NestedKey), x = .ref b ∧ y = .bl true ∧ NV X.K H2 (.ref b) k ∧ k.depth ≤ 8 ∧ H2 s.heap.objs.size = some (ndO X.prog X.w s.heap.objs.size []) ∧ Q (.ref s.heap.objs.size) (upd H2 s.heap.objs.size (ndO X.prog X.w s.heap.objs.size [(k, b)]))
    | _ => False) I1 ?rd
  case rd => exact h s.heap.objs.size (I.hok.fresh (Nat.le_refl _)) sm
  rw [arm_eval_Dict, show (evalEachOpt [some e] X.env).zip ((evalEach [f] X.env).map fun v => do let x ← v; standAt pos; pure x) = (pairTrees [some e] [f] X.env pos).map fun p => (some p.1, p.2) from rfl, dictDisplay_pairs (pairTrees [some e] [f] X.env pos) (by intro z; cases z) (by show 1 < 17; decide)]
  refine wpAny_bind (wpAny_standAt (wpAny_bind (wpAny_subDictH (knd := nestedKind X.prog X.w) (Q := fun d s' => wpAny (model X.prog X.w) X.A (pure (Value.ref d)) (EP X pins σ Q) X.xe s') (by show X.A.units + 8 < cLine; omega) (by show 1 ≤ 15; decide) (wpAny_mono run ?_ fun _ _ z => z))))
  rintro vs t ⟨ps, H2, I2, rv, hps⟩
  match ps, rv, hps with
  | [(x, y)], .cons (b := v0) r1 .nil, hps =>
    obtain ⟨b, k, rfl, rfl, hk, hd, e0, q⟩ := hps
    obtain ⟨u1, u2⟩ := v0
    cases (show u1 = Value.ref b from r1.1)
    cases (show u2 = Value.bool true from r1.2)
    have N0 : ND X.prog X.w X.K H2 s.heap.objs.size [] := ⟨e0, sm, Nat.zero_le _, fun _ z => nomatch z⟩
    refine ⟨[(k, b, Value.bool true)], ⟨rfl, rfl, ⟨nv_is I2 k _ _ hk rfl, hd⟩, trivial⟩, nd_dict I2 N0, fun h' tk hm hs => wpAny_pure ?_⟩
    exact ⟨.ref s.heap.objs.size, _, nd_put (t' := tk) I2 N0 hm hs, rfl, q⟩
end
end Nd
/-! ### {k: True for x in ..} -/
namespace Nd
open PySem PySem.Spec PyProof.Rows L2
/-- one store of such a comprehension: D's dict gets the key of y -/
def NdTurn (P : Program) (w : World) (K : PySem.W.Frag) (D : Addr) (y z : V) (G : Hp) (Nx : Hp → Prop) : Prop := ∃ (b : Addr) (ks : Ks) (k : NestedKey), y = .ref b ∧ z = .bl true ∧ ND P w K G D ks ∧ ks.length < 1000 ∧ NV K G (.ref b) k ∧ k.depth ≤ 8 ∧ Nx (upd G D (ndO P w D (putN ks k b)))
/-- the comprehension: D is the new dict -/
def tNdc (P : Program) (w : World) (K : PySem.W.Frag) (wi : TI) (g : TG) (tt : TT) (tk tv : TE) (vs : List Nat) : TE := fun σ H Q => wi σ H fun J G => ∀ D, G D = none → (D == sysModules) = false →
  ∃ W : Nat → Nat → Hp → Prop, (∃ m, W 0 m (upd G D (ndO P w D []))) ∧ ∀ i m G1, W i m G1 →
    (J.stop i G1 ∧ Q (.ref D) G1) ∨ (J.go i G1 ∧ ∃ Nx : Hp → Prop, (∀ G2, Nx G2 → ∃ m', m' < m ∧ W (i + 1) m' G2) ∧ ∀ x G2, J.yld i G1 x G2 → g x (wipe σ vs) G2 fun ρ G3 => wipe ρ vs = wipe σ vs ∧ tt ρ G3 fun b G4 =>
      if b = true then tk ρ G4 fun y G5 => tv ρ G5 fun z G6 => NdTurn P w K D y z G6 Nx else Nx G4)
section
variable {X : Cx}
theorem nd_dictSet {pins : List (Addr × Obj)} {σ : L2.St} {H : Hp} {s : Shared} {E : Value → Shared → Prop} {D : Addr} {y z : V} {u r : Value} {Nx : Hp → Prop} {Q : Unit → Shared → Prop} (hu : X.A.units + 64 < cLine) (I : Inv X pins σ H s) (ry : RelV y u) (rz : RelV z r) (t : NdTurn X.prog X.w X.K D y z H Nx)
    (q : ∀ G s', Inv X pins σ G s' → Nx G → Q () s') : wpAny (model X.prog X.w) X.A (dictSet D u r) Q E s := by
  obtain ⟨b, ks, k, rfl, rfl, N, hl, hk, hd, nx⟩ := t
  cases (show u = Value.ref b from ry)
  cases (show r = Value.bool true from rz)
  have hz : (xsOf ks).length ≤ sizeLine := by
    unfold xsOf
    rw [List.length_map]
    exact Nat.le_trans N.ln (by decide)
  exact wpAny_dictSet_heap (hsz := hz) (knd := nestedKind X.prog X.w) (by show X.A.units + 8 < cLine; omega) ⟨nv_is I k _ _ hk rfl, hd⟩ (nd_dict I N) fun h' hm hs => q _ _ (nd_put I N hm hs) nx
theorem pe_ndc {kx vx tg iter : Expr} {ifs : List Expr} {scope : Scope} {own : List (Str × Nat)} {pos : Pos} {wi : TI} {g : TG} {tt : TT} {tk tv : TE} (hc : X.calm = true) (hN : X.N.Nodup) (hu : X.A.units + 64 < cLine) (hi : PI X tg iter wi) (ok : BlkOk X.N X.env.scope scope own)
    (hg : ∀ (s : Shared) (H : Hp) (C : Addr) (cl : List (Str × Addr)) (fp : List Addr), PG (X.blk s H scope (compEnvC scope cl C X.env) fp) tg g)
    (ht : ∀ (s : Shared) (H : Hp) (C : Addr) (cl : List (Str × Addr)) (fp : List Addr), PTs (X.blk s H scope (compEnvC scope cl C X.env) fp) ifs tt)
    (hk : ∀ (s : Shared) (H : Hp) (C : Addr) (cl : List (Str × Addr)) (fp : List Addr), PE (X.blk s H scope (compEnvC scope cl C X.env) fp) kx tk)
    (hv : ∀ (s : Shared) (H : Hp) (C : Addr) (cl : List (Str × Addr)) (fp : List Addr), PE (X.blk s H scope (compEnvC scope cl C X.env) fp) vx tv) (hs : ∀ x, foldedSetIterable iter X.env x = pure x := by intro _; rfl) :
    PE X (.DictComp kx vx [⟨tg, iter, ifs, 0⟩] scope pos) (tNdc X.prog X.w X.K wi g tt tk tv (own.map (·.2))) := by
  constructor
  intro pins s σ H Q I hrd
  rw [arm_eval_DictComp]
  have frees : ∀ y ∈ scope.names, y.2 = .free → ∃ c, X.env.cells.lookup y.1 = some c := fun y hy e => (ok.free y hy e).elim (fun z => I.ok.has _ (.inl z)) fun z => I.ok.has _ (.inr z)
  refine wpAny_comprehension_free rfl hs (closure_ok frees) ok.kind (fun y hy e => by rw [ok.uniq y hy, e]) (thn (hi.run pins s σ H _ I hrd) fun xv t1 hx => thn hx ?_)
  rintro itv t2 ⟨it, fp, tn, J, G, rfl, I2, T, st2, f2, q⟩
  refine wpAny_newObj_type (newEnv_comp ?_)
  have sm : (t2.heap.objs.size == sysModules) = false := beq_eq_false_iff_ne.mpr (Ne.symm (Nat.ne_of_lt I2.big))
  obtain ⟨W, ⟨m0, w0⟩, turn⟩ := q t2.heap.objs.size (I2.hok.fresh (Nat.le_refl _)) sm
  have I3 : Inv X pins σ (upd G t2.heap.objs.size (ndO X.prog X.w t2.heap.objs.size [])) { t2 with heap := t2.heap.push { cls := .type "dict", data := .dict #[] } } :=
    I2.laid (t' := t2.toks) (fun b o e => Heap.get?_push_of_some _ e) (Nat.le_refl _) (nd_obj (nd_empty t2.heap))
  generalize hD : t2.heap.objs.size = D at w0 turn I3 sm ⊢
  generalize ht3 : ({ t2 with heap := t2.heap.push { cls := .type "dict", data := .dict #[] } } : Shared) = t3 at I3
  have e3 : t3.heap = t2.heap.push { cls := .type "dict", data := .dict #[] } := by rw [← ht3]
  have old : ∀ b ∈ fp, b < t2.heap.objs.size := fun b hb => by
    obtain ⟨o, e, _⟩ := T.obj _ _ st2 b hb
    exact Heap.lt_size e
  have f3 : ∀ b ∈ fp, FpOk X pins (upd G D (ndO X.prog X.w D [])) b ∧ b < t3.heap.objs.size := fun b hb => by
    have lt := old b hb
    refine ⟨⟨?_, (f2 b hb).2⟩, by rw [e3, Heap.size_push]; exact Nat.lt_succ_of_lt lt⟩
    rw [upd_ne (by rw [← hD]; exact Nat.ne_of_lt lt)]
    exact (f2 b hb).1
  have st3 : tn 0 t3.heap := T.keep _ _ _ st2 fun b _ o e => by rw [e3]; exact Heap.get?_push_of_some _ e
  have I4 := block_start I3 ok hN f3
  have pg := hg t3 (upd G D (ndO X.prog X.w D [])) t3.heap.objs.size (cellsFrom (t3.heap.objs.size + 1) scope.names (cloFrom X.env.cells scope.names [])) fp
  have pt := ht t3 (upd G D (ndO X.prog X.w D [])) t3.heap.objs.size (cellsFrom (t3.heap.objs.size + 1) scope.names (cloFrom X.env.cells scope.names [])) fp
  have pk := hk t3 (upd G D (ndO X.prog X.w D [])) t3.heap.objs.size (cellsFrom (t3.heap.objs.size + 1) scope.names (cloFrom X.env.cells scope.names [])) fp
  have pv := hv t3 (upd G D (ndO X.prog X.w D [])) t3.heap.objs.size (cellsFrom (t3.heap.objs.size + 1) scope.names (cloFrom X.env.cells scope.names [])) fp
  show codeAny _ _ (.compStart (.DictComp kx vx [⟨tg, iter, ifs, 0⟩] scope pos) 0 (.ref it) (.ref D) (compEnvC scope (cellsFrom (t3.heap.objs.size + 1) scope.names (cloFrom X.env.cells scope.names [])) t3.heap.objs.size X.env))
    (compPost (model X.prog X.w) X.A X.xe _ _ (.ref D) t3.heap.objs.size) { t3 with heap := pushCells (t3.heap.push { cls := .type "dict", data := .dict #[] }) scope.names }
  have apart : ∀ b ∈ fp, (upd G D (ndO X.prog X.w D [])) b = none := fun b hb => (f3 b hb).1.1
  generalize hce : compEnvC scope (cellsFrom (t3.heap.objs.size + 1) scope.names (cloFrom X.env.cells scope.names [])) t3.heap.objs.size X.env = ce at I4 pg pt pk pv ⊢
  have cL : ce.locals = t3.heap.objs.size := by subst hce; rfl
  generalize hG3 : upd G D (ndO X.prog X.w D []) = G3 at I3 I4 pg pt pk pv w0 apart f3
  generalize ht4 : ({ t3 with heap := pushCells (t3.heap.push { cls := .type "dict", data := .dict #[] }) scope.names } : Shared) = t4 at I4 ⊢
  have st4 : tn 0 t4.heap := T.keep _ _ _ st3 fun b _ o e => by rw [← ht4]; exact pushCells_keeps _ _ _ _ (Heap.get?_push_of_some _ e)
  have still : ∀ {ρ : L2.St} {G' : Hp} {t' : Shared}, Inv (X.blk t3 G3 scope ce fp) [] ρ G' t' → (∀ b ∈ fp, G' b = none) → ∀ b ∈ fp, FpOk (X.blk t3 G3 scope ce fp) [] G' b := fun {ρ G' t'} I' hn b hb =>
    ⟨hn b hb, (I'.ok.exf b hb).1, I'.ok.exfs b hb, .inl hb, fun x c e => (I'.ok.exf b hb).2 x c e, fun p hp => absurd (show p ∈ ([] : List (Addr × Obj)) ++ [] from hp) (by simp)⟩
  refine codeAny_compStart_dict ?loop (T.self X.A 0 _ _ _ st4 ?loop)
  refine compLoop_anyD (fun n t' => ∃ i G', Inv (X.blk t3 G3 scope ce fp) [] (wipe σ (own.map (·.2))) G' t' ∧ tn i t'.heap ∧ (∀ b ∈ fp, G' b = none) ∧ W i n G') ?_ m0 ⟨0, G3, I4, st4, apart, w0⟩
  rintro n t5 ⟨i, G5, I5, st5, n5, w5⟩
  rcases turn i n G5 w5 with ⟨stop, fin⟩ | ⟨go, Nx, hNx, step⟩
  · refine thnF (T.done (X.blk t3 G3 scope ce fp) rfl rfl rfl hc i [] t5 _ G5 (fun _ _ => False) I5 (still I5 n5) st5 stop) ?_
    rintro r t6 ⟨rfl, I6⟩
    have I7 : Inv X pins σ G5 t6 := I3.call' (ch := fp) I6.os I6.base I6.hok I6.bare fun b hb => ⟨(f3 b hb).1.2.2.2.1, (f3 b hb).1.2.1, (f3 b hb).1.2.2.2.2.1, (f3 b hb).1.2.2.2.2.2⟩
    have nC : G5 t3.heap.objs.size = none := by
      have z : G5 ce.locals = none := I6.free
      rw [cL] at z
      exact z
    obtain ⟨m, hn, _⟩ := I6.loc
    have hn' : t6.heap.Ns ce.locals m := hn
    rw [cL] at hn'
    obtain ⟨f0, f1, f2', f3', f4, f5⟩ := I3.fpOk (Nat.le_refl _) nC
    exact ⟨m, hn', fun h'' sb => ⟨.ref D, G5, I7.turned (t' := t6.toks) (fun b o hb e => (sb.2 b hb).trans e) f0 f1 f3' f4 f5, rfl, fin⟩⟩
  · refine thnF (T.item (X.blk t3 G3 scope ce fp) rfl rfl rfl hc i [] t5 _ G5 (fun _ _ => False) I5 (still I5 n5) st5 go) ?_
    rintro r t6 ⟨u, rfl, h6⟩
    refine thnF h6 ?_
    rintro _ t7 ⟨x, G7, I7, r7, y7, st7, n7⟩
    refine thnF (pg.run _ t7 _ G7 x u _ (I7.pinned (still I7 n7) (T.obj _ _ st7)) r7 (step x G7 y7)) ?_
    rintro _ t8 ⟨ρ, G8, I8, hw8, q8⟩
    refine thnF (pt.run _ t8 ρ G8 _ I8 q8) ?_
    rintro b t9 ⟨G9, I9, q9⟩
    have back : ∀ {t' : Shared} {G' : Hp}, Inv (X.blk t3 G3 scope ce fp) ([] ++ pinsAt fp t7.heap) ρ G' t' → Nx G' → ∃ m, m < n ∧ ∃ i G', Inv (X.blk t3 G3 scope ce fp) [] (wipe σ (own.map (·.2))) G' t' ∧ tn i t'.heap ∧ (∀ b ∈ fp, G' b = none) ∧ W i m G' := fun {t' G'} I' nx => by
      obtain ⟨m', lt, w'⟩ := hNx G' nx
      have pinned : ∀ b ∈ fp, ∀ o, t7.heap.get? b = some o → t'.heap.get? b = some o ∧ G' b = none := fun b hb o e =>
        ⟨(I'.pin (b, o) (List.mem_append_right _ (List.mem_append_right _ (mem_pinsAt hb e)))).1, (I'.pin (b, o) (List.mem_append_right _ (List.mem_append_right _ (mem_pinsAt hb e)))).2.1⟩
      refine ⟨m', lt, i + 1, G', (I'.unpinned (pins := [])).weak (by rw [← hw8, wipe_length]) (fun j v e => ?_), T.keep _ _ _ st7 fun b hb o e => (pinned b hb o e).1, fun b hb => ?_, w'⟩
      · rw [← hw8] at e
        exact (wipe_some e).1
      · obtain ⟨o, e, _⟩ := T.obj _ _ st7 b hb
        exact (pinned b hb o e).2
    cases b with
    | false =>
      simp only [Bool.false_eq_true, if_false] at q9 ⊢
      exact back I9 q9
    | true =>
      simp only [if_true] at q9 ⊢
      refine thnF (pk.run _ t9 ρ G9 _ I9 q9) ?_
      rintro z t10 ⟨yk, G10, I10, r10, q10⟩
      refine thnF (pv.run _ t10 ρ G10 _ I10 q10) ?_
      rintro z2 t11 ⟨yv, G11, I11, r11, nt⟩
      exact nd_dictSet (X := X.blk t3 G3 scope ce fp) hu I11 r10 r11 nt fun G12 t12 I12 nx => back I12 nx
end
end Nd
/-! ### truth, comprehensions -/
namespace Nd
open PySem PySem.Spec PyProof.Rows L2
section
variable {prog : Program} {w : World} {KK : Type} [DecidableEq KK] {knd : HeapKind prog w KK} {A : Around} {E : Value → Shared → Prop} {s : Shared}
theorem truthy_keyed {d : Addr} {xs : List (KK × Addr × Value)} {Q : Bool → Shared → Prop} (sm : (d == sysModules) = false) (hm : s.heap.DictOfH knd d xs) (fit : (xs.length : Int) < 2 ^ 63) (h : Q (!xs.isEmpty) { s with toks := s.toks + 1 + 1 }) :
    wpAny (model prog w) A (truthy (.ref d)) Q E s := by
  have same : ((xs.length : Int) != 0) = !xs.isEmpty := by cases xs <;> simp <;> omega
  have ln : wpAny (model prog w) A (runValue (.builtin "len" ⟨[.ref d], []⟩)) (fun r t => r = .int xs.length (s.toks + 1) ∧ Q (!xs.isEmpty) t) E s := by
    refine wpAny_runValue (codeAny_builtin PySem.entry_len ?_)
    rw [Around.under_plainId PySem.plain_len _]
    refine wpAny_mono (wpAny_len_body_dictH (Q := fun r t => r = .int xs.length (s.toks + 1) ∧ Q (!xs.isEmpty) t) sm hm fit ⟨rfl, h⟩) ?_ fun _ _ z => z
    rintro fin t ⟨r, rfl, q⟩
    exact q
  unfold truthy
  first
    | refine wpAny_bind (wpAny_callSpecial?_none (name := Str.ofString "__bool__") hm.typeIs noBool_dict ?_)
    | refine wpAny_bind (wpAny_pure (wpAny_bind (wpAny_callSpecial?_none (name := Str.ofString "__bool__") hm.typeIs noBool_dict ?_)))
  first
    | refine wpAny_bind (wpAny_specialOf (name := Str.ofString "__len__") hm.typeIs F.slot_dict_len.lookup ?_)
    | refine wpAny_bind (wpAny_pure (wpAny_bind (wpAny_specialOf (name := Str.ofString "__len__") hm.typeIs F.slot_dict_len.lookup ?_)))
  have fin : ∀ r t, (r = Value.int xs.length (s.toks + 1) ∧ Q (!xs.isEmpty) t) → Q ((xs.length : Int) != 0) t := fun r t z => same ▸ z.2
  first
    | exact wpAny_bind (wpAny_mono ln (fun r t z => by obtain ⟨rfl, _⟩ := id z; exact wpAny_pure (fin _ t z)) fun _ _ z => z)
    | exact wpAny_bind (wpAny_pure (wpAny_bind (wpAny_mono ln (fun r t z => by obtain ⟨rfl, _⟩ := id z; exact wpAny_pure (fin _ t z)) fun _ _ z => z)))
end
section
variable {X : Cx}
/-- a test that is the dict's truth -/
def tNdTru (P : Program) (w : World) (K : PySem.W.Frag) (ta : TE) : TT := fun σ H Q => ta σ H fun x G => ∃ (a : Addr) (ks : Ks), x = .ref a ∧ ND P w K G a ks ∧ Q (!ks.isEmpty) G
theorem pt_nd {e : Expr} {te : TE} (he : PE X e te) (hi : ∀ whole, isTrue e X.env whole = (do let v ← whole; standAt e.pos; holding [v] (truthy v)) := by intro _; rfl) : PT X e (tNdTru X.prog X.w X.K te) := by
  constructor
  intro pins s σ H Q I h
  refine isTrue_plain (thn (he.run pins s σ H _ I h) ?_) (hi _)
  rintro v t ⟨x, G, J, r, a, ks, rfl, N, q⟩
  cases (show v = Value.ref a from r)
  have e1 : (xsOf ks).length = ks.length := by unfold xsOf; rw [List.length_map]
  have e2 : (xsOf ks).isEmpty = ks.isEmpty := by cases ks <;> rfl
  have ln := N.ln
  exact truthy_keyed N.sm (nd_dict J N) (by omega) ⟨G, J.tok _, by rw [e2]; exact q⟩
end
end Nd
/-! ## enumerate(xs, start=k), min(xs, default=d) of nothing, what is never reached -/
namespace Nd
open PySem PySem.Spec PyProof.Rows L2
theorem pe_no {X : Cx} {e : Expr} : PE X e (fun _ _ _ => False) := ⟨fun _ _ _ _ _ _ h => h.elim⟩
/-- the list at a, each item in a new pair with its number from k on -/
def ItS (K : PySem.W.Frag) (a : Addr) (k : Int) : It :=
  ⟨fun i G => ∃ (xs : List V) (x : V), SqL K G a xs ∧ xs[i]? = some x, fun i G v G' => ∃ T x, v = .ref T ∧ G T = none ∧ G' = upd G T (.tup [.int (k + (i : Int)), x]) ∧ ∀ xs, SqL K G a xs → xs[i]? = some x, fun i G => ∃ xs : List V, SqL K G a xs ∧ xs.length = i⟩
theorem turn_from {P : Program} {w : World} {K : PySem.W.Frag} {elts : List Expr} {kk : Nat} {tpos : Pos} (a e it : Addr) (k : Int) :
    Turn P w K (.Tuple elts kk tpos) (ItS K a k) [e, it] e (fun i h => (∃ o, IsEnum h e it (k + (i : Int)) o) ∧ h.IsListIter it a i ∧ e ≠ it) where
  mem := List.mem_cons_self
  obj := by
    rintro i h ⟨⟨o, he⟩, ⟨ob, ho, hc, hd⟩, _⟩ b hb
    rcases List.mem_cons.mp hb with rfl | hb
    · exact ⟨_, he, fun v z => nomatch z⟩
    · cases List.mem_singleton.mp hb
      exact ⟨ob, ho, fun v z => by rw [hd] at z; cases z⟩
  keep := fun i h h' ⟨⟨o, he⟩, hi, ne⟩ st => ⟨⟨o, st e (by simp) _ he⟩, hi.at fun ob z => st it (by simp) ob z, ne⟩
  item := by
    intro X hP hw hK hc i pins s σ H E I hf st hg
    subst hP hw hK
    obtain ⟨⟨o, he⟩, hit, ne⟩ := st
    obtain ⟨xs, x, hq, hx⟩ := hg
    obtain ⟨its, rv, p, hz⟩ := I.list hq
    obtain ⟨u, hu, ru⟩ := rv.get hx
    have le : e < s.heap.objs.size := Heap.lt_size he
    have li : it < s.heap.objs.size := by obtain ⟨_, q, _⟩ := hit; exact Heap.lt_size q
    have ha := p.isList
    have nai : a ≠ it := fun z => by
      obtain ⟨o1, q1, c1, _⟩ := ha
      obtain ⟨o2, q2, c2, _⟩ := hit
      rw [z, q2] at q1
      cases q1
      rw [c1] at c2
      exact absurd (Value.type.inj c2) (by decide)
    have nae : e ≠ a := fun z => by
      obtain ⟨o1, q1, c1, _⟩ := ha
      rw [← z, he] at q1
      cases q1
      exact absurd (Value.type.inj (show Value.type "enumerate" = Value.type "list" from c1)) (by decide)
    have lt : i < its.toArray.size := by
      have := (List.getElem?_eq_some_iff.mp hu).1
      simpa using this
    refine wpAny_pyNext_enum_itemC (Draws.list (A := X.A.in1) (I.ok.hd hc) it a nai its.toArray) he ⟨hit, ha⟩ lt ne (by simp [ne, nae]) fun y h' tk hy ho hst hT hsz stay => ?_
    have ey : y = u := by
      have z : its.toArray[i]? = some y := hy
      rw [List.getElem?_toArray, hu] at z
      exact (Option.some.inj z).symm
    subst ey
    refine ⟨_, rfl, wpAny_letOwnedTupleGo_enum (s := { s with heap := h', toks := tk + 1 }) ho fun h2 he2 sb => ?_⟩
    have hT2 : h2.get? s.heap.objs.size = some { cls := .type "tuple", data := .seq #[.int (k + (i : Int)) tk, y] } := (sb.2 _ (Nat.ne_of_gt le)).trans hT
    have new : ObjOk X.prog X.w (upd H s.heap.objs.size (.tup [.int (k + (i : Int)), x])) h2 s.heap.objs.size (.tup [.int (k + (i : Int)), x]) :=
      ⟨by show 2 ≤ sizeLine; decide, [.int (k + (i : Int)) tk, y], .cons ⟨_, rfl⟩ (.cons ru .nil), ⟨_, hT2, rfl, _, rfl⟩⟩
    have I1 : Inv X pins σ (upd H s.heap.objs.size (.tup [.int (k + (i : Int)), x])) { s with heap := h2, toks := tk + 1 } :=
      I.turnedNew (ch := [e, it]) (fun b ob hb q => (sb.2 b (fun z => hb (by simp [z]))).trans (stay b ob (fun z => hb (by simp [z])) (fun z => hb (by simp [z])) q)) hf (Nat.le_refl _) new
    refine ⟨.ref s.heap.objs.size, _, I1, rfl, ⟨_, x, rfl, I.hok.fresh (Nat.le_refl _), rfl, fun ys hy' => by rw [I.list_inj hy' hq]; exact hx⟩, ⟨⟨y, ?_⟩, hst.1.at fun ob q => (sb.2 it (Ne.symm ne)).trans q, ne⟩, fun b hb => ?_⟩
    · rw [show k + ((i + 1 : Nat) : Int) = k + (i : Int) + 1 by omega]; exact he2
    · have lb : b < s.heap.objs.size := by
        rcases List.mem_cons.mp hb with rfl | hb
        · exact le
        · cases List.mem_singleton.mp hb; exact li
      rw [upd_ne (Nat.ne_of_lt lb)]
      exact (hf b hb).1
  done := by
    intro X hP hw hK hc i pins s σ H E I hf st hg
    subst hP hw hK
    obtain ⟨⟨o, he⟩, hit, ne⟩ := st
    obtain ⟨xs, hq, hx⟩ := hg
    obtain ⟨its, rv, p, hz⟩ := I.list hq
    obtain ⟨f0, f1, f2, f3, f4, f5⟩ := hf it (by simp)
    have hl := rv.length
    have ha := p.isList
    have nai : a ≠ it := fun z => by
      obtain ⟨o1, q1, c1, _⟩ := ha
      obtain ⟨o2, q2, c2, _⟩ := hit
      rw [z, q2] at q1
      cases q1
      rw [c1] at c2
      exact absurd (Value.type.inj c2) (by decide)
    have sz : its.toArray.size = i := by
      rw [List.size_toArray, ← hl]
      exact hx
    exact wpAny_pyNext_enum_endD (Draws.list (A := X.A.in1) (I.ok.hd hc) it a nai its.toArray) he ⟨by rw [sz]; exact hit, ha⟩ fun h' eb => ⟨rfl, I.turned (t' := s.toks) (fun b o hb q => eb b o hb q) f0 f1 f3 f4 f5⟩
  self := fun A i s Q E ⟨⟨_, he⟩, _⟩ h => wpAny_pyIter_enum he h
def iFrom (K : PySem.W.Frag) (k : Int) (ta : TA) : TI := fun σ G R => ta σ G fun vs G1 => ∃ a xs, vs = [.ref a] ∧ SqL K G1 a xs ∧ R (ItS K a k) G1
section
variable {X : Cx}
/-- a built-in class called with keywords -/
theorem callWith_tyK {M : Model} {A : Around} {E : Value → Shared → Prop} {s : Shared} {env : Env} {pos : Pos} {T : String} {e : Expr} {rest : List Expr} {kws : List Keyword} {Q : Value → Shared → Prop}
    (h : wpAny M A (spliced (backTo pos (starEach (e :: rest) env))) (fun vs t1 => wpAny M A (evalAll ((backToKw pos (keywordEach kws env)).map (·.2))) (fun zs t2 => wpAny M A (call (.type T) vs (((backToKw pos (keywordEach kws env)).filterMap (·.1)).zip zs)) Q E t2) E t1) E s)
    (h1 : backTo pos (starEach (e :: rest) env) = (false, eval e env) :: backTo pos (starEach rest env)) (h2 : (backTo pos (starEach (e :: rest) env)).any (·.1) = false) (h3 : (backToKw pos (keywordEach kws env)).all (·.1.isSome) = true) (h4 : (backToKw pos (keywordEach kws env)).any (·.1.isNone) = false) :
    wpAny M A (callWith pos (.type T) [] (backTo pos (starEach (e :: rest) env)) (backToKw pos (keywordEach kws env))) Q E s := by
  unfold callWith
  rw [h1] at h ⊢
  refine wpAny_bind (wpAny_holding (wpAny_mono (PyProof.Rows.evalArgs_kwB (Q := fun a t => wpAny M A (call (.type T) a.pos a.kw) Q E t) h3 h) (fun a t1 q => wpAny_bind (wpAny_standAt ?_)) fun _ _ z => z))
  rw [← h1]
  simp only [h2, h4, Bool.or_false]
  refine wpAny_bind (wpAny_pure ?_)
  exact wpAny_bind (wpAny_mono q (fun r t2 hr => wpAny_bind (wpAny_holding (wpAny_point (wpAny_pure hr)))) fun _ _ z => z)
/-- enumerate(e, start=k), k written -/
theorem pi_from {e : Expr} {ta : TA} {p pos tpos p2 p3 : Pos} {elts : List Expr} {kk j : Nat} {k : Int} (hm : X.mg "enumerate" = none) (h0 : -(2 ^ 63) ≤ k) (h1 : k < 2 ^ 63) (ha : PA X [e] ta) (hg : Gl X "enumerate" := by rfl)
    (g1 : backTo pos (starEach [e] X.env) = (false, eval e X.env) :: backTo pos (starEach [] X.env) := by rfl) (g2 : (backTo pos (starEach [e] X.env)).any (·.1) = false := by rfl) :
    PI X (.Tuple elts kk tpos) (.Call (.Name "enumerate" p) [e] [⟨some "start", .Constant (.int k) j p2, p3⟩] pos) (iFrom X.K k ta) := by
  constructor
  intro pins s σ H R I h
  refine wpAny_Call_Name_kw (ld_blt I hg hm boot_enumerate ?_ (by decide) (by decide))
  refine callWith_tyK (thn (ha.run pos pins s σ H _ I h) ?_) g1 g2 rfl rfl
  rintro us t1 ⟨vs, G1, I1, r1, a, xs, rfl, hq, q⟩
  have hk : PK X [⟨some "start", .Constant (.int k) j p2, p3⟩] (tCons (tC (.int k)) tNil) := pk_cons pe_int pk_nil
  refine thn (hk.run pos pins t1 σ G1 (fun zs G2 => zs = [.int k] ∧ G2 = G1) I1 ⟨rfl, rfl⟩) ?_
  rintro ws t2 ⟨zs, G2, I2, r2, rfl, rfl⟩
  match us, r1, ws, r2 with
  | [u], .cons ru .nil, [z], .cons rz .nil =>
    cases (show u = Value.ref a from ru)
    obtain ⟨tk, rfl⟩ := (show ∃ t, z = Value.int k t from rz)
    obtain ⟨its, rv, pl, hz⟩ := I2.list hq
    refine enum_begins_start (begins_list a its.toArray) pl.isList h0 h1 fun h' he hit hsz hkeep => wpAny_pyIter_enum he ?_
    have I3 : Inv X pins σ G2 { t2 with heap := h' } := I2.kept (t' := t2.toks) hkeep
    refine ⟨t2.heap.objs.size + 1, [t2.heap.objs.size + 1, t2.heap.objs.size], _, _, G2, rfl, I3, turn_from a (t2.heap.objs.size + 1) t2.heap.objs.size k, ⟨⟨.none, ?_⟩, ⟨_, hit, rfl, rfl⟩, Nat.succ_ne_self _⟩, fun b hb => ?_, q⟩
    · rw [show k + ((0 : Nat) : Int) = k by omega]; exact he
    · have le : t2.heap.objs.size ≤ b := by
        rcases List.mem_cons.mp hb with rfl | hb
        · exact Nat.le_add_right _ _
        · cases List.mem_singleton.mp hb; exact Nat.le_refl _
      exact I2.fpOk le (I2.hok.fresh le)
/-- min([], default=d) -/
theorem call_min0 (hc : X.calm = true) (hu : X.A.units + 64 < cLine) : CallRK X (.builtin "min") ["default"] (fun xs zs G Q => ∃ a d, xs = [.ref a] ∧ zs = [d] ∧ SqL X.K G a [] ∧ Q d G) := by
  intro pins s σ H xs zs us ws Q I r1 r2 h
  obtain ⟨a, d, rfl, rfl, hq, q⟩ := h
  match us, r1, ws, r2 with
  | [u], .cons ru .nil, [z], .cons rz .nil =>
    cases (show u = Value.ref a from ru)
    obtain ⟨its, rv, pl, hz⟩ := I.list hq
    cases rv
    refine PySem.W.min_list_default (xs := []) (as := []) (I.ok.hd hc) pl.isList .nil ⟨fun _ z => (List.not_mem_nil z).elim, fun _ z => (List.not_mem_nil z).elim⟩ (by simp only [PyData.depthAll]; omega) (fun _ h' tk k => ⟨d, H, I.kept (t' := tk) k, rz, q⟩) (fun y ys i v h' tk bs e => nomatch e)
end
end Nd
/-! ## len(o), o[i], o == p, o != p of an own class with its own methods -/
namespace Dun
open PySem PySem.Spec PyProof.Rows L2
section
variable {X : Cx} {n : Nat} {CX : CXT} {C f : Addr} {fd : FuncData} {ps : List Str} {sp : Sp} {E : XK}
/-- a def called at some room below -/
theorem run_at {A : Around} {pins : List (Addr × Obj)} {σ : L2.St} {H : Hp} {s : Shared} {Q : VK} {us : List Value} {vs : List V} (F : FnOk X.prog X.w X.K X.mg X.base CX n f fd ps sp) (sb : L2.Sub X n A) (hb : Binds X.K fd ps []) (hx : Passes CX X E)
    (I : Inv X pins σ H s) (r : Vals vs us) (h : sp vs H Q E) : wpAny (model X.prog X.w) A (call (.ref f) us) (EP X pins σ Q) X.xe s := by
  have hl : us.length = ps.length := by rw [← r.length]; exact F.len _ _ _ _ h
  have e0 : Env0 X.prog X.w X.K X.mg X.base A X.stack s H := by
    have e := I.env0
    exact ⟨by rw [sb.fr]; exact e.frames, e.mod, e.bs, e.bsz, e.funs, e.frf, e.hok, e.bare⟩
  refine wpAny_call (codeAny_mono (F.run A X.stack s H ⟨us, []⟩ us vs Q E sb.room e0 (by
    have z := hb s us I.kIn (by simpa using hl)
    simpa using z) r h) fun r s' hq => ?_)
  cases r with
  | error e => exact hx pins σ H s e s' I hq
  | ok fl =>
    cases fl with
    | ret u => exact I.after hq
    | next => exact False.elim hq
    | brk => exact False.elim hq
    | cont => exact False.elim hq
theorem cmp_back {pins : List (Addr × Obj)} {σ : L2.St} {Q : VK} {v : Value} {s' : Shared} (h : EP X pins σ Q v s') : PySem.W.CmpBack (EP X pins σ Q) v s' := by
  obtain ⟨z, H', I, r, q⟩ := h
  cases v with
  | notImplemented => cases z <;> first | exact (nomatch (show Value.notImplemented = _ from r)) | (obtain ⟨t, e⟩ := r; cases e) | cases r
  | _ => exact ⟨z, H', I, r, q⟩
/-- a dunder of the class at C is the def at f -/
structure Dn (K : PySem.W.Frag) (C : Addr) (nm : Str) (f : Addr) : Prop where
  hs : PySem.W.findIn K (.ref C) nm = some (some (.ref f))
  hf : PySem.W.isFn K (.ref f) = true
  fn : PySem.W.fnIn K f = true
/-- o[i] -/
def tIxO (C : Addr) (sp : Sp) (E : XK) (ta tb : TE) : TE := fun σ H Q => ta σ H fun x H1 => tb σ H1 fun y H2 => ∃ a dx fs, x = .ref a ∧ H2 a = some (.ins C dx fs) ∧ sp [.ref a, y] H2 Q E
theorem pe_ixO {a b : Expr} {ta tb : TE} {pos : Pos} (F : FnOk X.prog X.w X.K X.mg X.base CX n f fd ps sp) (hr : Room (n + 1) X.A) (d : Dn X.K C "__getitem__" f) (hb : Binds X.K fd ps []) (hx : Passes CX X E) (ha : PE X a ta) (hi : PE X b tb)
    (hsl : ∀ o i, subscripted b true o i = runValue (.builtin "lifetime.subscript" ⟨[o, i], []⟩) := by intro _ _; rfl) :
    PE X (.Subscript a b pos) (tIxO C sp E ta tb) := by
  refine ⟨fun pins s σ H Q I h => ?_⟩
  refine Subscript_ (binT ha hi I h fun v u s2 x y H2 I2 rx ry q => ?_)
  obtain ⟨p, dx, fs, rfl, hp, q⟩ := q
  cases (show v = Value.ref p from rx)
  obtain ⟨mA, J, _⟩ := ins_get I2.hok hp
  obtain ⟨od, J, _⟩ := J.look
  obtain ⟨m, hF⟩ := I2.fr
  exact PySem.W.sub_K hF I2.ok.mod.kin J d.hs d.fn d.hf (run_at (A := X.A.in1) F ⟨hr.in1, rfl⟩ hb hx I2 (.cons (show L2.RelV (.ref p) (.ref p) from rfl) (.cons ry .nil)) q) (hsl _ _)
/-- len(o) -/
theorem call_lenO (F : FnOk X.prog X.w X.K X.mg X.base CX n f fd ps sp) (hr : Room (n + 1) X.A) (d : Dn X.K C "__len__" f) (hb : Binds X.K fd ps []) (hx : Passes CX X E) :
    CallR X (.builtin "len") (fun xs H Q => ∃ a dx fs, xs = [.ref a] ∧ H a = some (.ins C dx fs) ∧ sp [.ref a] H (fun v H' => ∃ z : Int, v = .int z ∧ 0 ≤ z ∧ z < 2 ^ 63 ∧ Q (.int z) H') E) := by
  intro pins s σ H xs us Q I r h
  obtain ⟨a, dx, fs, rfl, ha, q⟩ := h
  obtain ⟨u, rfl, ru⟩ := vals1 r
  cases (show u = Value.ref a from ru)
  obtain ⟨mA, J, _⟩ := ins_get I.hok ha
  obtain ⟨od, J, _⟩ := J.look
  obtain ⟨m, hF⟩ := I.fr
  refine PySem.W.len_K hF I.ok.mod.kin J d.hs d.hf (wpAny_mono (run_at (A := X.A.in1) F ⟨hr.in1, rfl⟩ hb hx I (.cons (show L2.RelV (.ref a) (.ref a) from rfl) .nil) q) (fun v s' hv => ?_) fun _ _ z => z)
  obtain ⟨_, H', I', rv, z, rfl, z0, z1, qz⟩ := hv
  obtain ⟨t, rfl⟩ := (show ∃ t, v = Value.int z t from rv)
  exact ⟨⟨z0, z1⟩, .int z, H', I'.tok _, ⟨_, rfl⟩, qz⟩
/-- what stands on the right -/
inductive Rt (K : PySem.W.Frag) (H : Hp) (C : Addr) : V → Prop
  | own {b dy : Addr} {gs : List (Str × V)} (h : H b = some (.ins C dy gs)) : Rt K H C (.ref b)
  | str (x : Str) (h : PySem.W.subIn K (.type "str") (.ref C) = some false) : Rt K H C (.str x)
theorem rt_looks {pins : List (Addr × Obj)} {σ : L2.St} {H : Hp} {s : Shared} {y : V} {u : Value} (I : Inv X pins σ H s) (r : RelV y u) (h : Rt X.K H C y) : ∃ tb, PySem.W.Looks (model X.prog X.w) s.heap (typeOf u) tb ∧ PySem.W.notFirst X.K C tb = true := by
  cases h with
  | @own b dy gs h =>
    cases (show u = Value.ref b from r)
    obtain ⟨mB, J, _⟩ := ins_get I.hok h
    obtain ⟨od, J, _⟩ := J.look
    exact ⟨_, J.type, by simp [PySem.W.notFirst]⟩
  | str x h =>
    obtain ⟨t, rfl⟩ := (show ∃ t, u = Value.str x t from r)
    refine ⟨.type "str", PySem.W.Looks.of_pure rfl, ?_⟩
    unfold PySem.W.notFirst
    rw [h]
    simp
def rEqO (K : PySem.W.Frag) (C : Addr) (sp : Sp) (E : XK) : R2 := fun x y H Q => ∃ a dx fs, x = .ref a ∧ H a = some (.ins C dx fs) ∧ Rt K H C y ∧ sp [.ref a, y] H Q E
theorem op_eqO (F : FnOk X.prog X.w X.K X.mg X.base CX n f fd ps sp) (hr : Room n X.A) (d : Dn X.K C "__eq__" f) (hb : Binds X.K fd ps []) (hx : Passes CX X E) : OpR X (compareOp .Eq) (rEqO X.K C sp E) := by
  intro pins s σ H x y v u Q I rx ry h
  obtain ⟨a, dx, fs, rfl, ha, hy, q⟩ := h
  cases (show v = Value.ref a from rx)
  obtain ⟨tb, hl, hn⟩ := rt_looks I ry hy
  obtain ⟨mA, J, _⟩ := ins_get I.hok ha
  obtain ⟨od, J, _⟩ := J.look
  obtain ⟨m, hF⟩ := I.fr
  exact PySem.W.cmp_K (op := .Eq) hr.units0 hF I.ok.mod.kin J hl hn d.hs d.hf (wpAny_mono (run_at F ⟨hr, rfl⟩ hb hx I (.cons (show L2.RelV (.ref a) (.ref a) from rfl) (.cons ry .nil)) q) (fun v s' hv => cmp_back hv) fun _ _ z => z)
/-- != without an own one: the other answer of == -/
theorem objNe {A : Around} {s : Shared} {x L : Addr} {b : Value} {h₀ : Heap} {ox : Obj} {od : Option Obj} {K : PySem.W.Frag} {Q : Fin → Shared → Prop} {E : Value → Shared → Prop} (hu : A.units < cLine) (XK : K.In s.heap) (J : PySem.W.InstAt s.heap x ox C od) (d : Dn K C "__eq__" f)
    (h : wpAny (model X.prog X.w) A (call (.ref f) [.ref x, b]) (fun v s' => ∃ z, v = .bool z ∧ Q (.done (.ret (.bool (!z)))) s') E s) :
    wpAny (model X.prog X.w) A (Builtin.«object.__ne__» ⟨[.ref x, b], []⟩) Q E s := by
  unfold Builtin.«object.__ne__»
  refine wpAny_bind (wpAny_pure ?_)
  refine wpAny_bind (wpAny_cRoomFor hu ?_)
  refine wpAny_bind (PySem.W.ifBound_K XK J d.hs d.hf (wpAny_mono h (fun v s' hv => ?_) fun _ _ z => z))
  obtain ⟨z, rfl, q⟩ := hv
  exact wpAny_bind (wpAny_truthy_bool (wpAny_pure q))
def rNeO (K : PySem.W.Frag) (C : Addr) (sp : Sp) (E : XK) : R2 := fun x y H Q => ∃ a dx fs, x = .ref a ∧ H a = some (.ins C dx fs) ∧ Rt K H C y ∧ sp [.ref a, y] H (fun v H' => ∃ z, v = .bl z ∧ Q (.bl (!z)) H') E
theorem op_neO (F : FnOk X.prog X.w X.K X.mg X.base CX n f fd ps sp) (hr : Room (n + 1) X.A) (d : Dn X.K C "__eq__" f) (hno : PySem.W.findIn X.K (.ref C) "__ne__" = some (some (.builtin "object.__ne__"))) (hm : PySem.W.mroIn X.K C (.type "object") = some true) (hb : Binds X.K fd ps []) (hx : Passes CX X E) : OpR X (compareOp .NotEq) (rNeO X.K C sp E) := by
  intro pins s σ H x y v u Q I rx ry h
  obtain ⟨a, dx, fs, rfl, ha, hy, q⟩ := h
  cases (show v = Value.ref a from rx)
  obtain ⟨tb, hl, hn⟩ := rt_looks I ry hy
  obtain ⟨mA, J, _⟩ := ins_get I.hok ha
  obtain ⟨od, J, _⟩ := J.look
  obtain ⟨m, hF⟩ := I.fr
  have XK := I.ok.mod.kin.keeps hF.keep
  have body : wpAny (model X.prog X.w) X.A (call (.builtin "object.__ne__") [.ref a, u]) (fun v s' => ∃ z, v = .bool z ∧ EP X pins σ Q (.bool z) s') X.xe s := by
    refine wpAny_call (codeAny_call_builtin PySem.F.cmp_object.ne.plain PySem.F.cmpEntry_ne (PySem.W.check_slot PySem.F.cmpKind_ne PySem.F.cmpSplit_ne (J.type.andThen (PySem.W.looks_mroIn XK hm)) (PySem.F.cmpArgs_ne _ _) ?_))
    refine objNe (A := X.A.in1) (L := a) (h₀ := X.base) hr.in1.units0 XK J d (wpAny_mono (run_at (A := X.A.in1) F ⟨hr.in1, rfl⟩ hb hx I (.cons (show L2.RelV (.ref a) (.ref a) from rfl) (.cons ry .nil)) q) (fun v s' hv => ?_) fun _ _ z => z)
    obtain ⟨_, H', I', rv, z, rfl, qz⟩ := hv
    cases (show v = Value.bool z from rv)
    exact ⟨z, rfl, ⟨!z, rfl, ⟨V.bl (!z), H', I', rfl, qz⟩⟩⟩
  have one : wpAny (model X.prog X.w) X.A (tryCompare (.ref a) "__ne__" u) (fun r s' => ∃ z, r = some (.bool z) ∧ EP X pins σ Q (.bool z) s') X.xe s := by
    unfold tryCompare
    refine wpAny_bind ?_
    simp only [callSpecialIfBound?, bindSpecialIfBound?]
    refine wpAny_holding (wpAny_bind (wpAny_bind (wpAny_bind (J.type.here ((PySem.W.looks_findIn XK hno).here ?_)))))
    refine wpAny_bind (wpAny_askSetting (wpAny_ite ?_))
    have fin : wpAny (model X.prog X.w) X.A (call (.builtin "object.__ne__") ([.ref a] ++ [u]) >>= fun v => pure (some v)) (fun r s' => wpAny (model X.prog X.w) X.A (match r with | some .notImplemented => pure none | none => pure none | some v => pure (some v)) (fun r s' => ∃ z, r = some (.bool z) ∧ EP X pins σ Q (.bool z) s') X.xe s') X.xe s :=
      wpAny_bind (wpAny_mono body (fun v s' h' => wpAny_pure (by obtain ⟨z, rfl, q⟩ := h'; exact wpAny_pure ⟨z, rfl, q⟩)) fun _ _ h' => h')
    split
    · exact wpAny_bind (wpAny_of_eq (PySem.F.cmp_object.ne.bind _) (wpAny_pure (by exact fin)))
    · exact wpAny_tryCatch (wpAny_bind (wpAny_of_eq (PySem.F.cmp_object.ne.bind _) (wpAny_pure (by exact fin))))
  show wpAny (model X.prog X.w) X.A (richCompare .NotEq (.ref a) u) (EP X pins σ Q) X.xe s
  unfold richCompare
  simp only [oneThing_ref]
  refine wpAny_holding (wpAny_bind (wpAny_cRoomFor hr.units0 ?_))
  refine wpAny_bind (J.type.here (wpAny_bind (hl.here ?_)))
  have last : wpAny (model X.prog X.w) X.A (tryCompare (.ref a) "__ne__" u) (fun r s' => ∃ v, r = some v ∧ EP X pins σ Q v s') X.xe s := wpAny_mono one (fun r s' z => by obtain ⟨z, rfl, q⟩ := z; exact ⟨_, rfl, q⟩) fun _ _ z => z
  split
  · rename_i q
    have e : PySem.W.subIn X.K tb (.ref C) = some false := by
      rcases Bool.or_eq_true_iff.mp hn with e | e
      · rw [beq_iff_eq.mp e] at q; simp at q
      · exact beq_iff_eq.mp e
    refine wpAny_bind ((PySem.W.looks_subIn XK e).here ?_)
    simp only [Bool.false_eq_true, if_false]
    refine wpAny_bind (wpAny_mono last (fun r s' z => ?_) fun _ _ e => e)
    obtain ⟨v, rfl, hq⟩ := z
    exact wpAny_pure hq
  · refine wpAny_bind (wpAny_pure ?_)
    simp only [Bool.false_eq_true, if_false]
    refine wpAny_bind (wpAny_mono last (fun r s' z => ?_) fun _ _ e => e)
    obtain ⟨v, rfl, hq⟩ := z
    exact wpAny_pure hq
end
end Dun
/-! ## tuples item by item the same; in over a tuple of data; {k: True for x in list} by an invariant -/
namespace Dun
open PySem PySem.Spec PyProof.Rows L2
section
variable {X : Cx}
/-- a value that is equal to itself at any time -/
def selfV : V → Bool
  | .non => true
  | .bl _ => true
  | .int _ => true
  | .str _ => true
  | .ref _ => true
  | _ => false
theorem self_eqAt {A : Around} {s : Shared} {x : V} {u v : Value} (ru : RelV x u) (rv : RelV x v) (h : selfV x = true) : SeqAt.EqAt A s u v true := by
  have fl : ∀ {z : V}, flatV z = true → eqV z z = true → RelV z u → RelV z v → SeqAt.EqAt A s u v true := fun hf he r1 r2 => by
    have q := eqAt_V (A := A) (s := s) r1 r2 hf hf
    rw [he] at q
    exact q
  cases x with
  | non => exact fl rfl rfl ru rv
  | bl b => exact fl rfl (by simp [eqV]) ru rv
  | int i => exact fl rfl (by simp [eqV]) ru rv
  | str y => exact fl rfl (by simp [eqV]) ru rv
  | ref a =>
    cases (show u = Value.ref a from ru)
    cases (show v = Value.ref a from rv)
    exact SeqAt.EqAt.same _
  | _ => cases h
/-- t != u, two tuples of the same items -/
def rNeSame (K : PySem.W.Frag) : R2 := fun x y H Q => ∃ a b xs, x = .ref a ∧ y = .ref b ∧ SqT K H a xs ∧ SqT K H b xs ∧ xs.all selfV = true ∧ Q (.bl false) H
theorem op_neSame (hu : X.A.units < cLine) : OpR X (compareOp .NotEq) (rNeSame X.K) := by
  intro pins s σ H x y v u Q I rx ry h
  obtain ⟨a, b, xs, rfl, rfl, ha, hb, hs, q⟩ := h
  cases (show v = Value.ref a from rx)
  cases (show u = Value.ref b from ry)
  obtain ⟨its, r, e, z⟩ := I.tuple ha
  obtain ⟨its2, r2, e2, z2⟩ := I.tuple hb
  have hsz : its.toArray.size = its2.toArray.size := by rw [List.size_toArray, List.size_toArray, ← r.length, ← r2.length]
  refine SeqAt.RcNeAt.tuples (e := fun _ => true) e e2 hu (fun j h1 h2 => ?_) X.prog X.w X.xe _ ?_
  · have g1 : its[j]? = some its.toArray[j] := by
      have h1' : j < its.length := by simpa using h1
      rw [List.getElem?_eq_getElem h1'] <;> simp
    have g2 : its2[j]? = some its2.toArray[j] := by
      have h2' : j < its2.length := by simpa using h2
      rw [List.getElem?_eq_getElem h2'] <;> simp
    have k1 : j < xs.length := by rw [r.length]; simpa using h1
    obtain ⟨u, hu1, ru⟩ := r.get (List.getElem?_eq_getElem k1)
    obtain ⟨v, hv1, rv⟩ := r2.get (List.getElem?_eq_getElem k1)
    rw [g1] at hu1
    rw [g2] at hv1
    rw [Option.some.inj hu1, Option.some.inj hv1]
    exact self_eqAt ru rv (List.all_eq_true.mp hs _ (List.getElem_mem k1))
  · have hh : (!((List.range (min its.toArray.size its2.toArray.size)).all (fun _ => true) && its.toArray.size == its2.toArray.size)) = false := by
      rw [hsz]
      simp
    rw [hh]
    exact ⟨.bl false, H, I, rfl, q⟩
def rInDT (K : PySem.W.Frag) : R2 := fun x y H Q => ∃ d ds, Dp K H x d ∧ Dp K H y (.tuple ds) ∧ SeqAt.shaped d = true ∧ SeqAt.shaped (.tuple ds) = true ∧ Q (.bl (ds.any fun z => PyData.eqv z d)) H
theorem op_inDT (hu : X.A.units + 65 < cLine) : OpR X (compareOp .In) (rInDT X.K) := by
  intro pins s σ H x y v u Q I rx ry h
  obtain ⟨d, ds, hd, he, sd, se, q⟩ := h
  obtain ⟨as, r1⟩ := Dp.reads I d x v hd rx
  obtain ⟨bs, r2⟩ := Dp.reads I (.tuple ds) y u he ry
  exact SeqAt.in_tuple_reads r2 r1 (SeqAt.canLay_of_shaped se) (SeqAt.canLay_of_shaped sd) (room_in_shaped sd hu) ⟨.bl _, H, I, rfl, q⟩
end
/-- {key: True for x in list}: Pv i says what stands behind i turns -/
theorem ndc_list {P : Program} {w : World} {K : PySem.W.Frag} {a D : Addr} {xs : List V} {g : TG} {tt : TT} {tk tv : TE} {vs : List Nat} {σ : L2.St} {H : Hp} {Qd : Hp → Prop} (Pv : Nat → Hp → Prop) (h0 : Pv 0 (upd H D (Nd.ndO P w D [])))
    (hl : ∀ i H', i ≤ xs.length → Pv i H' → SqL K H' a xs)
    (hs : ∀ i x H', xs[i]? = some x → Pv i H' → g x (wipe σ vs) H' fun ρ H1 => wipe ρ vs = wipe σ vs ∧ tt ρ H1 fun b H4 => if b = true then tk ρ H4 fun y H2 => tv ρ H2 fun z H3 => Nd.NdTurn P w K D y z H3 (Pv (i + 1)) else Pv (i + 1) H4)
    (hd : ∀ H', Pv xs.length H' → Qd H') :
    ∃ W : Nat → Nat → Hp → Prop, (∃ m, W 0 m (upd H D (Nd.ndO P w D []))) ∧ ∀ i m G1, W i m G1 →
    ((Itl K a).stop i G1 ∧ Qd G1) ∨ ((Itl K a).go i G1 ∧ ∃ Nx : Hp → Prop, (∀ G2, Nx G2 → ∃ m', m' < m ∧ W (i + 1) m' G2) ∧ ∀ x G2, (Itl K a).yld i G1 x G2 → g x (wipe σ vs) G2 fun ρ G3 => wipe ρ vs = wipe σ vs ∧ tt ρ G3 fun b G4 =>
      if b = true then tk ρ G4 fun y G5 => tv ρ G5 fun z G6 => Nd.NdTurn P w K D y z G6 Nx else Nx G4) := by
  refine ⟨fun i m H => m = xs.length - i ∧ i ≤ xs.length ∧ Pv i H, ⟨xs.length, by simp, Nat.zero_le _, h0⟩, ?_⟩
  rintro i m H ⟨rfl, hi, p⟩
  have q := hl i H hi p
  by_cases hlt : i < xs.length
  · refine .inr ⟨⟨xs, xs[i], q, by simp [hlt]⟩, Pv (i + 1), fun H' p' => ⟨xs.length - (i + 1), by omega, rfl, hlt, p'⟩, fun x H' y => ?_⟩
    obtain ⟨e, y⟩ := y
    subst e
    exact hs i x _ (y xs q) p
  · have e : i = xs.length := by omega
    subst e
    exact .inl ⟨⟨xs, q, Nat.le_refl _⟩, hd H p⟩
/-- for n, x in enumerate(xs, start=k) -/
theorem for_from {K : PySem.W.Frag} {a : Addr} {k : Int} {xs : List V} {g : TG} {tb : TS} {D : Ends} {σ : L2.St} {H : Hp} (Pv : Nat → L2.St → Hp → Prop) (h0 : Pv 0 σ H) (hl : ∀ i σ H, i ≤ xs.length → Pv i σ H → SqL K H a xs)
    (hs : ∀ i x σ H T, xs[i]? = some x → Pv i σ H → H T = none → g (.ref T) σ (upd H T (.tup [.int (k + (i : Int)), x])) fun σ2 H2 => tb { D with nx := Pv (i + 1), ct := Pv (i + 1), bk := D.nx } σ2 H2) (hd : ∀ σ H, Pv xs.length σ H → D.nx σ H) :
    ∃ W : Nat → Nat → L2.St → Hp → Prop, (∃ m, W 0 m σ H) ∧ ∀ i m σ H, W i m σ H →
      ((Nd.ItS K a k).stop i H ∧ D.nx σ H) ∨ ((Nd.ItS K a k).go i H ∧ ∃ N : L2.St → Hp → Prop, (∀ σ' H', N σ' H' → ∃ m', m' < m ∧ W (i + 1) m' σ' H') ∧ ∀ x H', (Nd.ItS K a k).yld i H x H' → g x σ H' fun σ2 H2 => tb { D with nx := N, ct := N, bk := D.nx } σ2 H2) := by
  refine ⟨fun i m σ H => m = xs.length - i ∧ i ≤ xs.length ∧ Pv i σ H, ⟨xs.length, by simp, Nat.zero_le _, h0⟩, ?_⟩
  rintro i m σ H ⟨rfl, hi, p⟩
  have q := hl i σ H hi p
  by_cases hlt : i < xs.length
  · refine .inr ⟨⟨xs, xs[i], q, by simp [hlt]⟩, Pv (i + 1), fun σ' H' p' => ⟨xs.length - (i + 1), by omega, rfl, hlt, p'⟩, fun x H' y => ?_⟩
    obtain ⟨T, z, rfl, nT, rfl, y⟩ := y
    exact hs i z σ H T (y xs q) p nT
  · have e : i = xs.length := by omega
    subst e
    exact .inl ⟨⟨xs, q, rfl⟩, hd σ H p⟩
/-! ### heaps -/
theorem free_upd {H : Hp} {a b : Addr} {o : HO} (h : L2.upd H a o b = none) : H b = none ∧ b ≠ a := by
  have n : b ≠ a := fun e => by rw [e, upd_same] at h; cases h
  rw [upd_ne n] at h
  exact ⟨h, n⟩
theorem free_same {H H' : Hp} {a : Addr} (e : Same H H') (h : H' a = none) : H a = none := by
  cases q : H a with
  | none => rfl
  | some o => rw [e _ _ q] at h; cases h
theorem same_out {H G : Hp} {a : Addr} {o : HO} (e : Same H G) (h : H a = none) : Same H (L2.upd G a o) := fun b u q => by
  rw [upd_ne (ne_of_none q h)]
  exact e b u q
theorem same_new {H G : Hp} {a : Addr} {o : HO} (e : Same H G) (h : G a = none) : Same H (L2.upd G a o) := same_out e (free_same e h)
theorem sqt_tups {K : PySem.W.Frag} {H H' : Hp} {a : Addr} {xs : List V} (e : Nd.Tups H H') (h : SqT K H a xs) : SqT K H' a xs := h.elim (fun z => .inl (e _ _ z)) .inr
theorem tups_lst {H : Hp} {a : Addr} {ys : List V} {o : HO} (h : H a = some (.lst ys)) : Nd.Tups H (L2.upd H a o) := Nd.Tups.upd fun xs r => by
  rcases r with r | ⟨z, r⟩
  · rw [h] at r; cases r
  · rw [h] at r; cases r
theorem tups_ins {H : Hp} {a C dx : Addr} {fs : List (Str × V)} {o : HO} (h : H a = some (.ins C dx fs)) : Nd.Tups H (L2.upd H a o) := Nd.Tups.upd fun xs r => by
  rcases r with r | ⟨z, r⟩
  · rw [h] at r; cases r
  · rw [h] at r; cases r
theorem sql_ne {K : PySem.W.Frag} {H : Hp} {a b : Addr} {xs : List V} {o : HO} (h : SqL K H a xs) (n : a ≠ b) : SqL K (L2.upd H b o) a xs := by
  rcases h with (h | ⟨z, h⟩) | h
  · exact .inl (.inl (by rw [upd_ne n]; exact h))
  · exact .inl (.inr ⟨z, by rw [upd_ne n]; exact h⟩)
  · exact .inr h
theorem sqt_list_same {K : PySem.W.Frag} {H H' : Hp} {a : Addr} {xs : List V} (h : SqL K H a xs) (e : Same H H') : SqL K H' a xs := by
  rcases h with (h | ⟨o, h⟩) | h
  · exact .inl (.inl (e _ _ h))
  · exact .inl (.inr ⟨o, e _ _ h⟩)
  · exact .inr h
end Dun
/-! ## own instances made, own methods called, where what is raised is wished for at the caller's slots -/
namespace Mkx
open PySem PySem.Spec PyProof.Rows L2
/-- nothing is raised after all -/
theorem pass_no {X : Cx} : Passes (L2.CX X.prog X.w) X (fun _ _ _ => False) := fun pins σ H s e s' I c => by
  obtain ⟨_, _, _, _, _, _, _, _, _, _, _, _, no⟩ := c
  exact no.elim
def tMakeS (C : Addr) (sp : Sp) (W : WX) (ta : TA) : TE := fun σ H Q => ta σ H fun vs G => ∀ x dx, G x = none → G dx = none → dx ≠ x →
  sp (.ref x :: vs) (upd (upd G dx (.own x)) x (.ins C dx [])) (fun v G2 => v = .non ∧ Q (.ref x) G2) (WE W σ)
def tMethS (C : Addr) (nm : Str) (sp : Sp) (W : WX) (to : TE) (ta : TA) : TE := fun σ H Q => to σ H fun x G => ∃ a dx fs, x = .ref a ∧ G a = some (.ins C dx fs) ∧ fs.lookup nm = none ∧ ta σ G fun vs G2 => sp (x :: vs) G2 Q (WE W σ)
section
variable {X : Cx} {W : WX} {n : Nat} {C g : Addr} {fd : FuncData} {ps : List Str} {sp : Sp} {x nm : Str} {p pos apos : Pos} {e o : Expr} {es : List Expr} {to : TE} {ta : TA}
theorem run_mkS {pins : List (Addr × Obj)} {σ : L2.St} {G : Hp} {t : Shared} {Q : VK} {us : List Value} {vs : List V} (M : Mk X.K C g) (F : FnOk X.prog X.w X.K X.mg X.base (L2.CX X.prog X.w) n g fd ps sp) (room : Room (n + 1) X.A) (bd : Binds X.K fd ps []) (tk : Takes X W) (J : Inv X pins σ G t) (rv : Vals vs us)
    (want : ∀ x dx, G x = none → G dx = none → dx ≠ x → sp (.ref x :: vs) (upd (upd G dx (.own x)) x (.ins C dx [])) (fun v G2 => v = .non ∧ Q (.ref x) G2) (WE W σ)) : wpAny (model X.prog X.w) X.A (call (.ref C) us) (EP X pins σ Q) X.xe t := by
  have go := want (t.heap.objs.size + 1) t.heap.objs.size (J.hok.fresh (Nat.le_succ _)) (J.hok.fresh (Nat.le_refl _)) (Nat.ne_of_lt (Nat.lt_succ_self _))
  have J2 := Inv.made (C := C) J
  have both : Vals (V.ref (t.heap.objs.size + 1) :: vs) (Value.ref (t.heap.objs.size + 1) :: us) := .cons rfl rv
  have len : (Value.ref (t.heap.objs.size + 1) :: us).length = ps.length := both.length.symm.trans (F.len _ _ _ _ go)
  have binds := bd _ (Value.ref (t.heap.objs.size + 1) :: us) J2.kIn (by rw [List.append_nil]; exact len)
  rw [List.append_nil] at binds
  refine wpAny_call (make_map (f := g) J.kIn M.makes M.init (beq_iff_eq.mp M.fn) (codeAny_mono (F.run _ X.stack _ _ ⟨Value.ref (t.heap.objs.size + 1) :: us, []⟩ _ _ _ (WE W σ) (room.make C us []) (J2.env0.make C us []) binds both go) fun r t' done => ?_))
  match r, done with
  | .error er, done => exact passAt tk σ pins _ _ er t' J2 done
  | .ok (.ret u), done =>
    obtain ⟨v, G', J3, rr, ev, q3⟩ := J2.after done
    subst ev
    exact ⟨rr, ⟨V.ref (t.heap.objs.size + 1), G', J3, rfl, q3⟩⟩
  | .ok .next, done => exact False.elim done
  | .ok .brk, done => exact False.elim done
  | .ok .cont, done => exact False.elim done
theorem pe_makeS (M : Mk X.K C g) (F : FnOk X.prog X.w X.K X.mg X.base (L2.CX X.prog X.w) n g fd ps sp) (room : Room (n + 1) X.A) (gl : Gl X x) (hm : X.mg x = some (.ref C)) (bd : Binds X.K fd ps []) (tk : Takes X W) (args : PA X (e :: es) ta)
    (hdb : (x == ("__debug__" : Str)) = false := by decide) (first : starEach (e :: es) X.env = (false, eval e X.env) :: starEach es X.env := by rfl) (plain : (backTo pos (starEach es X.env)).any (·.1) = false := by rfl) : PE X (.Call (.Name x p) (e :: es) [] pos) (tMakeS C sp W ta) := by
  constructor
  intro pins t σ G Q J want
  refine wpAny_Call_Name_kw (ld_glob J gl hm ?_ hdb)
  refine PySem.W.callWith_K (h₀ := X.base) J.ok.mod.kin M.kp (thn (args.run pos pins t σ G _ J want) ?_) first plain
  rintro us t1 ⟨vs, G1, J1, rv, q⟩
  exact ⟨J1.kIn, run_mkS M F room bd tk J1 rv q⟩
theorem pe_methS {pl : Sem Bool} (ho : PE X o to) (c : Cls X.K C) (m : Meth X.K C nm g) (F : FnOk X.prog X.w X.K X.mg X.base (L2.CX X.prog X.w) n g fd ps sp) (room : Room n X.A) (bd : Binds X.K fd ps []) (tk : Takes X W) (args : PA X (e :: es) ta)
    (first : starEach (e :: es) X.env = (false, eval e X.env) :: starEach es X.env := by rfl) (plain : (backTo pos (starEach es X.env)).any (·.1) = false := by rfl)
    (shape : eval (.Call (.Attribute o nm apos) (e :: es) [] pos) X.env = (eval o X.env >>= fun ov => standAt apos.atName >>= fun _ => holding [ov] (getMethod ov nm pl) >>= fun fa => callWith pos fa.1 fa.2 (backTo pos (starEach (e :: es) X.env)) (backToKw pos (keywordEach [] X.env))) := by rfl) :
    PE X (.Call (.Attribute o nm apos) (e :: es) [] pos) (tMethS C nm sp W to ta) := by
  constructor
  intro pins t σ G Q J want
  refine PySem.W.methodCall_KW (pl := pl) (thn (ho.run pins t σ G _ J want) ?_) shape
  rintro u t1 ⟨_, G1, J1, ru, a, dx, fs, rfl, ea, l, q⟩
  cases (show u = Value.ref a from ru)
  refine getmeth_ok J1 ea c m l ?_
  refine PySem.W.callWith_K (first := [.ref a]) (h₀ := X.base) J1.ok.mod.kin m.kp (thn (args.run pos pins t1 σ G1 _ J1 q) ?_) first plain
  rintro us t2 ⟨vs, G2, J2, rv, q2⟩
  exact ⟨J2.kIn, run_fnS (E := WE W) (us := .ref a :: us) (vs := .ref a :: vs) F room bd (passAt tk σ) J2 (.cons rfl rv) q2⟩
end
end Mkx
/-! ## enumerate(t), t a tuple -/
namespace PySem
set_option maxHeartbeats 1000000 in
theorem meets_enumerate_one {v : Value} {o : Obj} {H : Heap → Prop} (B : Begins v o H) :
    Meets (Builtin.«enumerate.__new__» ⟨[.type "enumerate", v], []⟩) (fun _ R s => H s.heap ∧
      R (.ok (.ret (.ref (s.heap.push o).objs.size))) { s with heap := (s.heap.push o).push { cls := .type "enumerate", data := .fields #[.none, .bool false, .ref s.heap.objs.size, rawInt 0, .none, .none] } }) :=
  .of_wp fun prog w A R s h => by
    obtain ⟨hp, g, d, tk, os⟩ := s; obtain ⟨h1, h⟩ := h
    have hsub := sub_enumerate
    have q1 : ∀ {A' : Around} {E : Value → Shared → Prop} {Q : Value → Shared → Prop}, Q (.ref hp.objs.size) ⟨hp.push o, g, d, tk, os⟩ → wpAny (model prog w) A' (pyIter v) Q E ⟨hp, g, d, tk, os⟩ :=
      fun q => B.iter prog w _ _ ⟨hp, g, d, tk, os⟩ _ h1 q
    wp_walk using q1
    refine wpAny_stack_any fun st => wpAny_pure ?_
    split
    · rename_i c _ _ _ _ _
      cases (c == Value.type "enumerate")
      · wp_walk using q1
        exact ⟨_, rfl, h⟩
      · wp_walk using q1
        exact ⟨_, rfl, h⟩
    · wp_walk using q1
      exact ⟨_, rfl, h⟩
theorem enum_begins_one {prog : Program} {w : World} {A : Around} {E : Value → Shared → Prop} {s : Shared} {v : Value} {o : Obj} {H : Heap → Prop} {Q : Value → Shared → Prop} (B : Begins v o H) (h1 : H s.heap)
    (h : ∀ h', IsEnum h' (s.heap.objs.size + 1) s.heap.objs.size 0 .none → h'.get? s.heap.objs.size = some o → h'.objs.size = s.heap.objs.size + 2 →
      (∀ b o, s.heap.get? b = some o → h'.get? b = some o) → Q (.ref (s.heap.objs.size + 1)) { s with heap := h' }) :
    wpAny (model prog w) A (call (.type "enumerate") [v]) Q E s := by
  refine callType_new F.called_enumerate (by decide) (F.typeCall_enumerate_1 _) (F.newCall_enumerate_1 _) (fun obj => F.args_object_init_2 obj _) F.entry_enumerate_new
    (meets_enumerate_one B) ⟨h1, ?_⟩
  have hz : (s.heap.push o).objs.size = s.heap.objs.size + 1 := Heap.size_push ..
  show _ ∧ _
  rw [hz]
  have he : IsEnum ((s.heap.push o).push { cls := .type "enumerate", data := .fields #[.none, .bool false, .ref s.heap.objs.size, rawInt 0, .none, .none] }) (s.heap.objs.size + 1) s.heap.objs.size 0 .none := by
    have := Heap.get?_push_size (s.heap.push o) (o := { cls := .type "enumerate", data := .fields #[.none, .bool false, .ref s.heap.objs.size, rawInt 0, .none, .none] }) rfl
    rw [hz] at this; exact this
  refine ⟨⟨_, he, rfl⟩, h _ he (Heap.get?_push_of_some _ (Heap.get?_push_size _ B.free)) (by rw [Heap.size_push, hz]) fun b o x => Heap.get?_push_of_some _ (Heap.get?_push_of_some _ x)⟩
end PySem
namespace Nd
open PySem PySem.Spec PyProof.Rows L2
/-- the tuple at a, each item in a new pair with its number -/
def ItT (K : PySem.W.Frag) (a : Addr) : It :=
  ⟨fun i G => ∃ (xs : List V) (x : V), SqT K G a xs ∧ xs[i]? = some x, fun i G v G' => ∃ T x, v = .ref T ∧ G T = none ∧ G' = upd G T (.tup [.int (i : Nat), x]) ∧ ∀ xs, SqT K G a xs → xs[i]? = some x, fun i G => ∃ xs : List V, SqT K G a xs ∧ xs.length = i⟩
theorem turn_enumT {P : Program} {w : World} {K : PySem.W.Frag} {elts : List Expr} {kk : Nat} {tpos : Pos} (a e it : Addr) :
    Turn P w K (.Tuple elts kk tpos) (ItT K a) [e, it] e (fun i h => (∃ o, IsEnum h e it (i : Nat) o) ∧ h.IsTupleIter it a i ∧ e ≠ it) where
  mem := List.mem_cons_self
  obj := by
    rintro i h ⟨⟨o, he⟩, ⟨ob, ho, hc, hd⟩, _⟩ b hb
    rcases List.mem_cons.mp hb with rfl | hb
    · exact ⟨_, he, fun v z => nomatch z⟩
    · cases List.mem_singleton.mp hb
      exact ⟨ob, ho, fun v z => by rw [hd] at z; cases z⟩
  keep := fun i h h' ⟨⟨o, he⟩, hi, ne⟩ st => ⟨⟨o, st e (by simp) _ he⟩, hi.at fun ob z => st it (by simp) ob z, ne⟩
  item := by
    intro X hP hw hK hc i pins s σ H E I hf st hg
    subst hP hw hK
    obtain ⟨⟨o, he⟩, hit, ne⟩ := st
    obtain ⟨xs, x, hq, hx⟩ := hg
    obtain ⟨its, rv, p, hz⟩ := I.tuple hq
    obtain ⟨u, hu, ru⟩ := rv.get hx
    have le : e < s.heap.objs.size := Heap.lt_size he
    have li : it < s.heap.objs.size := by obtain ⟨_, q, _⟩ := hit; exact Heap.lt_size q
    have ha : s.heap.IsTuple a its.toArray := p
    have nai : a ≠ it := fun z => by
      obtain ⟨o1, q1, c1, _⟩ := ha
      obtain ⟨o2, q2, c2, _⟩ := hit
      rw [z, q2] at q1
      cases q1
      rw [c1] at c2
      exact absurd (Value.type.inj c2) (by decide)
    have nae : e ≠ a := fun z => by
      obtain ⟨o1, q1, c1, _⟩ := ha
      rw [← z, he] at q1
      cases q1
      exact absurd (Value.type.inj (show Value.type "enumerate" = Value.type "tuple" from c1)) (by decide)
    have lt : i < its.toArray.size := by
      have := (List.getElem?_eq_some_iff.mp hu).1
      simpa using this
    refine wpAny_pyNext_enum_itemC (Draws.tuple (A := X.A.in1) (I.ok.hd hc) it a nai its.toArray) he ⟨hit, ha⟩ lt ne (by simp [ne, nae]) fun y h' tk hy ho hst hT hsz stay => ?_
    have ey : y = u := by
      have z : its.toArray[i]? = some y := hy
      rw [List.getElem?_toArray, hu] at z
      exact (Option.some.inj z).symm
    subst ey
    refine ⟨_, rfl, wpAny_letOwnedTupleGo_enum (s := { s with heap := h', toks := tk + 1 }) ho fun h2 he2 sb => ?_⟩
    have hT2 : h2.get? s.heap.objs.size = some { cls := .type "tuple", data := .seq #[.int (i : Nat) tk, y] } := (sb.2 _ (Nat.ne_of_gt le)).trans hT
    have new : ObjOk X.prog X.w (upd H s.heap.objs.size (.tup [.int (i : Nat), x])) h2 s.heap.objs.size (.tup [.int (i : Nat), x]) :=
      ⟨by show 2 ≤ sizeLine; decide, [.int (i : Nat) tk, y], .cons ⟨_, rfl⟩ (.cons ru .nil), ⟨_, hT2, rfl, _, rfl⟩⟩
    have I1 : Inv X pins σ (upd H s.heap.objs.size (.tup [.int (i : Nat), x])) { s with heap := h2, toks := tk + 1 } :=
      I.turnedNew (ch := [e, it]) (fun b ob hb q => (sb.2 b (fun z => hb (by simp [z]))).trans (stay b ob (fun z => hb (by simp [z])) (fun z => hb (by simp [z])) q)) hf (Nat.le_refl _) new
    refine ⟨.ref s.heap.objs.size, _, I1, rfl, ⟨_, x, rfl, I.hok.fresh (Nat.le_refl _), rfl, fun ys hy' => by rw [I.tuple_inj hy' hq]; exact hx⟩, ⟨⟨y, ?_⟩, hst.1.at fun ob q => (sb.2 it (Ne.symm ne)).trans q, ne⟩, fun b hb => ?_⟩
    · rw [show ((i + 1 : Nat) : Int) = (i : Int) + 1 by omega]; exact he2
    · have lb : b < s.heap.objs.size := by
        rcases List.mem_cons.mp hb with rfl | hb
        · exact le
        · cases List.mem_singleton.mp hb; exact li
      rw [upd_ne (Nat.ne_of_lt lb)]
      exact (hf b hb).1
  done := by
    intro X hP hw hK hc i pins s σ H E I hf st hg
    subst hP hw hK
    obtain ⟨⟨o, he⟩, hit, ne⟩ := st
    obtain ⟨xs, hq, hx⟩ := hg
    obtain ⟨its, rv, p, hz⟩ := I.tuple hq
    obtain ⟨f0, f1, f2, f3, f4, f5⟩ := hf it (by simp)
    have hl := rv.length
    have ha : s.heap.IsTuple a its.toArray := p
    have nai : a ≠ it := fun z => by
      obtain ⟨o1, q1, c1, _⟩ := ha
      obtain ⟨o2, q2, c2, _⟩ := hit
      rw [z, q2] at q1
      cases q1
      rw [c1] at c2
      exact absurd (Value.type.inj c2) (by decide)
    have sz : its.toArray.size = i := by
      rw [List.size_toArray, ← hl]
      exact hx
    exact wpAny_pyNext_enum_endD (Draws.tuple (A := X.A.in1) (I.ok.hd hc) it a nai its.toArray) he ⟨by rw [sz]; exact hit, ha⟩ fun h' eb => ⟨rfl, I.turned (t' := s.toks) (fun b o hb q => eb b o hb q) f0 f1 f3 f4 f5⟩
  self := fun A i s Q E ⟨⟨_, he⟩, _⟩ h => wpAny_pyIter_enum he h
def iEnumT (K : PySem.W.Frag) (ta : TA) : TI := fun σ G R => ta σ G fun vs G1 => ∃ a xs, vs = [.ref a] ∧ SqT K G1 a xs ∧ R (ItT K a) G1
theorem pi_enumT {X : Cx} {e : Expr} {ta : TA} {p pos tpos : Pos} {elts : List Expr} {kk : Nat} (hg : Gl X "enumerate") (hm : X.mg "enumerate" = none) (ha : PA X [e] ta) (hs : starEach [e] X.env = [(false, eval e X.env)] := by rfl) :
    PI X (.Tuple elts kk tpos) (.Call (.Name "enumerate" p) [e] [] pos) (iEnumT X.K ta) := by
  refine ⟨fun pins s σ H R I h => ?_⟩
  refine Call_ (ld_blt I hg hm boot_enumerate (PyProof.Rows.callWith_type1 (thn (ha.run pos pins s σ H _ I h) fun us s1 ⟨vs, H1, I1, r1, q1⟩ => ?_) hs rfl))
  obtain ⟨a, xs, ex, hq, q⟩ := q1
  subst ex
  cases r1 with
  | cons r rr =>
    cases rr
    cases r
    obtain ⟨its, rv, p', hz⟩ := I1.tuple hq
    have hT : s1.heap.IsTuple a its.toArray := p'
    refine PySem.enum_begins_one (begins_tuple a its.toArray) hT fun h' he hit hsz hk => wpAny_pyIter_enum he ?_
    have I2 : Inv X pins σ H1 { s1 with heap := h' } := I1.kept (t' := s1.toks) hk
    refine ⟨s1.heap.objs.size + 1, [s1.heap.objs.size + 1, s1.heap.objs.size], _, _, H1, rfl, I2, turn_enumT a (s1.heap.objs.size + 1) s1.heap.objs.size, ⟨⟨.none, he⟩, ⟨_, hit, rfl, rfl⟩, Nat.succ_ne_self _⟩, fun b hb => ?_, q⟩
    have e' : b = s1.heap.objs.size + 1 ∨ b = s1.heap.objs.size := by simpa using hb
    have hle : s1.heap.objs.size ≤ b := by
      rcases e' with z | z
      · rw [z]; exact Nat.le_add_right _ _
      · rw [z]; exact Nat.le_refl _
    exact I1.fpOk hle (I1.hok.fresh hle)
/-- for n, x in enumerate(t) -/
theorem for_enumT {K : PySem.W.Frag} {a : Addr} {xs : List V} {g : TG} {tb : TS} {D : Ends} {σ : L2.St} {H : Hp} (Pv : Nat → L2.St → Hp → Prop) (h0 : Pv 0 σ H) (hl : ∀ i σ H, i ≤ xs.length → Pv i σ H → SqT K H a xs)
    (hs : ∀ i x σ H T, xs[i]? = some x → Pv i σ H → H T = none → g (.ref T) σ (upd H T (.tup [.int (i : Nat), x])) fun σ2 H2 => tb { D with nx := Pv (i + 1), ct := Pv (i + 1), bk := D.nx } σ2 H2) (hd : ∀ σ H, Pv xs.length σ H → D.nx σ H) :
    ∃ W : Nat → Nat → L2.St → Hp → Prop, (∃ m, W 0 m σ H) ∧ ∀ i m σ H, W i m σ H →
      ((Nd.ItT K a).stop i H ∧ D.nx σ H) ∨ ((Nd.ItT K a).go i H ∧ ∃ N : L2.St → Hp → Prop, (∀ σ' H', N σ' H' → ∃ m', m' < m ∧ W (i + 1) m' σ' H') ∧ ∀ x H', (Nd.ItT K a).yld i H x H' → g x σ H' fun σ2 H2 => tb { D with nx := N, ct := N, bk := D.nx } σ2 H2) := by
  refine ⟨fun i m σ H => m = xs.length - i ∧ i ≤ xs.length ∧ Pv i σ H, ⟨xs.length, by simp, Nat.zero_le _, h0⟩, ?_⟩
  rintro i m σ H ⟨rfl, hi, p⟩
  have q := hl i σ H hi p
  by_cases hlt : i < xs.length
  · refine .inr ⟨⟨xs, xs[i], q, by simp [hlt]⟩, Pv (i + 1), fun σ' H' p' => ⟨xs.length - (i + 1), by omega, rfl, hlt, p'⟩, fun x H' y => ?_⟩
    obtain ⟨T, z, rfl, nT, rfl, y⟩ := y
    exact hs i z σ H T (y xs q) p nT
  · have e : i = xs.length := by omega
    subst e
    exact .inl ⟨⟨xs, q, rfl⟩, hd σ H p⟩
end Nd
/-! ## o.f as one of several targets -/
namespace Nd
open PySem PySem.Spec PyProof.Rows L2
def gFld (K : PySem.W.Frag) (to : TE) (f : Str) : TG := fun v σ H Q => to σ H fun x H2 => ∃ a C dx fs, x = .ref a ∧ H2 a = some (.ins C dx fs) ∧ Cls K C ∧ NoAttr K C f ∧ fs.length < 1000 ∧ Q σ (upd H2 a (.ins C dx (putF f v fs)))
theorem pg_fld {X : Cx} {o : Expr} {f : Str} {pos : Pos} {to : TE} (ho : PE X o to)
    (ha : ∀ v, assign (.Attribute o f pos) X.env v = (do
      let ov ← holding [v] (eval o X.env)
      standAt pos.atName
      holding [v, ov] (setAttr ov f v)
      release [v, ov] []) := by intro _; rfl) : PG X (.Attribute o f pos) (gFld X.K to f) := by
  refine ⟨fun pins s σ H v u Q I r h => ?_⟩
  rw [ha]
  refine wpAny_bind (wpAny_holding (thn (ho.run pins s σ H _ I h) fun ov s1 ⟨x, H1, I1, r1, q1⟩ => ?_))
  obtain ⟨a, C, dx, fs, ex, ea, c, n, l, q2⟩ := q1
  subst ex
  obtain rfl : ov = Value.ref a := r1
  refine wpAny_bind (wpAny_standAt (wpAny_bind (wpAny_holding (setattr_ok I1 ea c n l r fun s2 I2 => ?_))))
  exact wpAny_release ⟨σ, _, I2, q2⟩
end Nd
namespace H1
open PySem PySem.Spec PyProof.Rows L2 Hx Nd Dun
def top (i : Nat) : Stmt := PySem.Challenge.pw_heapcode_k01_codes_made_and_refused.main.body.getD i (.Pass ⟨0, 0, 0, 0⟩)
abbrev sBag : Stmt := top 55
abbrev sDraw : Stmt := top 56
section
variable {P : Program} {w : World} {K : PySem.W.Frag} {mg : Str → Option Value} {base : Heap} {D : Addr}
abbrev iBadKind : Stmt := inClass (top 2) 0
theorem scBadKind : FnScope ["self", "kind"] ["self", "kind"] (defScope iBadKind) := ⟨rfl, rfl, rfl, by decide +kernel, rfl, by decide +kernel, by decide +kernel⟩
theorem okBadKind {fI : Addr} {fd : FuncData} (F : Fun K "__init__" "BadKind.__init__" iBadKind fI fd) (B : BaseT K mg D) : FnOk P w K mg base CX0 1 fI fd ["self", "kind"] (spI1 K "kind") := by
  refine F.ok scBadKind (fun vs H Q E h => ?_) (fun cdv A outer s H vs Q E hr h => ?_)
  · obtain ⟨a, C, v, rfl, _⟩ := h
    rfl
  · obtain ⟨a, C, v, rfl, T, n1, ea, q⟩ := h
    refine ⟨_, pss_cons (ps_expr (pe_binit B.gB B.rdB B.fcB (pa_cons (pv 0) (pa_cons pe_str pa_nil)))) (pss_one (ps_ost (pv 0) (pv 1))), ?_⟩
    refine ⟨_, rfl, a, C, _, rfl, (by show 1 ≤ 1000; decide), T, ea, _, rfl, _, rfl, a, C, rfl, T, n1, .inl ⟨ea, fun dx nd ne => ?_⟩⟩
    exact q dx nd ne
abbrev iBadWidth : Stmt := inClass (top 3) 0
theorem scBadWidth : FnScope ["self", "width"] ["self", "width"] (defScope iBadWidth) := ⟨rfl, rfl, rfl, by decide +kernel, rfl, by decide +kernel, by decide +kernel⟩
theorem okBadWidth {fI : Addr} {fd : FuncData} (F : Fun K "__init__" "BadWidth.__init__" iBadWidth fI fd) (B : BaseT K mg D) : FnOk P w K mg base CX0 1 fI fd ["self", "width"] (spI1 K "width") := by
  refine F.ok scBadWidth (fun vs H Q E h => ?_) (fun cdv A outer s H vs Q E hr h => ?_)
  · obtain ⟨a, C, v, rfl, _⟩ := h
    rfl
  · obtain ⟨a, C, v, rfl, T, n1, ea, q⟩ := h
    refine ⟨_, pss_cons (ps_expr (pe_binit B.gB B.rdB B.fcB (pa_cons (pv 0) (pa_cons pe_str pa_nil)))) (pss_one (ps_ost (pv 0) (pv 1))), ?_⟩
    refine ⟨_, rfl, a, C, _, rfl, (by show 1 ≤ 1000; decide), T, ea, _, rfl, _, rfl, a, C, rfl, T, n1, .inl ⟨ea, fun dx nd ne => ?_⟩⟩
    exact q dx nd ne
abbrev iBadLine : Stmt := inClass (top 4) 0
theorem scBadLine : FnScope ["self", "line"] ["self", "line"] (defScope iBadLine) := ⟨rfl, rfl, rfl, by decide +kernel, rfl, by decide +kernel, by decide +kernel⟩
theorem okBadLine {fI : Addr} {fd : FuncData} (F : Fun K "__init__" "BadLine.__init__" iBadLine fI fd) (B : BaseT K mg D) : FnOk P w K mg base CX0 1 fI fd ["self", "line"] (spI1 K "line") := by
  refine F.ok scBadLine (fun vs H Q E h => ?_) (fun cdv A outer s H vs Q E hr h => ?_)
  · obtain ⟨a, C, v, rfl, _⟩ := h
    rfl
  · obtain ⟨a, C, v, rfl, T, n1, ea, q⟩ := h
    refine ⟨_, pss_cons (ps_expr (pe_binit B.gB B.rdB B.fcB (pa_cons (pv 0) (pa_cons pe_str pa_nil)))) (pss_one (ps_ost (pv 0) (pv 1))), ?_⟩
    refine ⟨_, rfl, a, C, _, rfl, (by show 1 ≤ 1000; decide), T, ea, _, rfl, _, rfl, a, C, rfl, T, n1, .inl ⟨ea, fun dx nd ne => ?_⟩⟩
    exact q dx nd ne
abbrev iRefused : Stmt := inClass (top 5) 0
theorem scRefused : FnScope ["self", "line"] ["self", "line"] (defScope iRefused) := ⟨rfl, rfl, rfl, by decide +kernel, rfl, by decide +kernel, by decide +kernel⟩
theorem okRefused {fI : Addr} {fd : FuncData} (F : Fun K "__init__" "Refused.__init__" iRefused fI fd) (B : BaseT K mg D) : FnOk P w K mg base CX0 1 fI fd ["self", "line"] (spI1 K "line") := by
  refine F.ok scRefused (fun vs H Q E h => ?_) (fun cdv A outer s H vs Q E hr h => ?_)
  · obtain ⟨a, C, v, rfl, _⟩ := h
    rfl
  · obtain ⟨a, C, v, rfl, T, n1, ea, q⟩ := h
    refine ⟨_, pss_cons (ps_expr (pe_binit B.gB B.rdB B.fcB (pa_cons (pv 0) (pa_cons pe_str pa_nil)))) (pss_one (ps_ost (pv 0) (pv 1))), ?_⟩
    refine ⟨_, rfl, a, C, _, rfl, (by show 1 ≤ 1000; decide), T, ea, _, rfl, _, rfl, a, C, rfl, T, n1, .inl ⟨ea, fun dx nd ne => ?_⟩⟩
    exact q dx nd ne
abbrev iTooMany : Stmt := inClass (top 6) 0
theorem scTooMany : FnScope ["self", "what", "many", "most"] ["self", "what", "many", "most"] (defScope iTooMany) := ⟨rfl, rfl, rfl, by decide +kernel, rfl, by decide +kernel, by decide +kernel⟩
theorem okTooMany {fI : Addr} {fd : FuncData} (F : Fun K "__init__" "TooMany.__init__" iTooMany fI fd) (B : BaseT K mg D) : FnOk P w K mg base CX0 1 fI fd ["self", "what", "many", "most"] (spI3 K "what" "many" "most") := by
  refine F.ok scTooMany (fun vs H Q E h => ?_) (fun cdv A outer s H vs Q E hr h => ?_)
  · obtain ⟨a, C, u, v, z, rfl, _⟩ := h
    rfl
  · obtain ⟨a, C, u, v, z, rfl, T, n1, n2, n3, ea, q⟩ := h
    refine ⟨_, pss_cons (ps_expr (pe_binit B.gB B.rdB B.fcB (pa_cons (pv 0) (pa_cons pe_str pa_nil)))) (pss_cons (ps_ost (pv 0) (pv 1)) (pss_cons (ps_ost (pv 0) (pv 2)) (pss_one (ps_ost (pv 0) (pv 3))))), ?_⟩
    refine ⟨_, rfl, a, C, _, rfl, (by show 1 ≤ 1000; decide), T, ea, _, rfl, _, rfl, a, C, rfl, T, n1, .inl ⟨ea, fun dx nd ne => ?_⟩⟩
    refine ⟨_, rfl, _, rfl, a, C, rfl, T, n2, .inr ⟨dx, _, upd_same, (by rw [upd_ne ne, upd_same]), (by show 1 ≤ 900; decide), ?_⟩⟩
    refine ⟨_, rfl, _, rfl, a, C, rfl, T, n3, .inr ⟨dx, _, (by rw [upd_ne ne.symm, upd_same]), upd_same, (by show 2 ≤ 900; decide), ?_⟩⟩
    exact q dx nd ne
theorem scBag : FnScope ["_law_script", "_law_fold", "_law_cell"] ["_law_script"] (defScope sBag) := ⟨rfl, rfl, rfl, by decide +kernel, rfl, by decide +kernel, by decide +kernel⟩
theorem ok_bag {f : Addr} {fd : FuncData} (F : Fun K "_law_bag" "_law_bag" sBag f fd) (B : BltT mg) : FnOk P w K mg base CX0 1 f fd ["_law_script"] (spBag K) := by
  refine F.ok scBag (fun vs H Q E h => ?_) (fun cdv A outer s H vs Q E hr h => ?_)
  · obtain ⟨a, ns, rfl, _⟩ := h
    rfl
  · obtain ⟨a, ns, rfl, hS, hl, q⟩ := h
    refine ⟨_, pss_cons (ps_set (i := 1) scBag.nd rfl (Or.inl rfl) pe_int)
      (pss_cons (ps_for PassesOwn.never rfl (pi_list (pv 0)) (pg_name (i := 2) scBag.nd rfl (Or.inl rfl))
        (pss_one (ps_set (i := 1) scBag.nd rfl (Or.inl rfl) (pe_op op_mod (pe_callTy call_int1 (by rfl) B.int (by decide +kernel) (pa_cons (pe_op op_add (pe_op op_mul (pv 1) pe_int) (pv 2)) pa_nil)) pe_int))))
      (pss_one (ps_ret (pe_disp (pps_cons pe_str (pe_callTy call_list_of (by rfl) B.list (by decide +kernel) (pa_cons (pv 0) pa_nil)) (pps_cons pe_str pe_int (pps_cons pe_str pe_int (pps_cons pe_str pe_int (pps_cons pe_str (pv 1) pps_nil))))) (by rfl) (by rfl) (fun z => by cases z) (by decide))))), ?_⟩
    refine ⟨_, rfl, a, rfl, ⟨_, hS⟩, for_list (K := K) (a := a) (xs := ns.map V.int) (fun i σ H' => H' = H ∧ ∃ (fo : Int) (v : Option V), σ = [some (.ref a), some (.int fo), v] ∧ 0 ≤ fo ∧ fo < 1000000009)
      ⟨rfl, 0, none, rfl, by decide, by decide⟩ (fun i σ H' _ ⟨e, _⟩ => by rw [e]; exact hS) ?_ ?_⟩
    · rintro i y σ H' hi ⟨rfl, fo, v, rfl, h0, h1⟩
      obtain ⟨u, rfl⟩ : ∃ u, y = V.int u := by
        rw [List.getElem?_map] at hi
        cases e : ns[i]? with
        | none => rw [e] at hi; cases hi
        | some u => rw [e] at hi; exact ⟨u, (Option.some.inj hi).symm⟩
      refine ⟨_, rfl, _, _, rfl, rfl, .inl ⟨by omega, by omega⟩, _, rfl, _, _, rfl, rfl, .inl ⟨_, rfl, _, _, rfl, rfl, (by show (0 : Int) < 1000000009; decide), ?_⟩⟩
      exact ⟨rfl, _, _, rfl, Int.emod_nonneg _ (by decide), Int.emod_lt_of_pos _ (by decide)⟩
    · rintro σ H' ⟨rfl, fo, v, rfl, h0, h1⟩
      refine fun p hp => ?_
      refine ⟨_, rfl, a, _, rfl, .inl (L2.Same.seq (new_same hp) hS), fun l hl' => ?_⟩
      have npl : p ≠ l := fun e => by rw [e, upd_same] at hl'; cases hl'
      have lnone : H' l = none := by rw [upd_ne npl.symm] at hl'; exact hl'
      refine ⟨_, rfl, ?_, [(kC, .ref l), (kA, .int 0), (kD, .int 0), (kN, .int 0), (kF, .int fo)], rfl, (by show 5 ≤ 15; decide), ?_⟩
      · rw [upd_ne npl, upd_same]
      · have em : mergeK [] [(kC, V.ref l), (kA, .int 0), (kD, .int 0), (kN, .int 0), (kF, .int fo)] = bagK l 0 0 0 fo := by
          simp [mergeK, putK, bagK, strN nCA, strN nCD, strN nCN, strN nCF, strN nAD, strN nAN, strN nAF, strN nDN, strN nDF, strN nNF]
        refine q p _ hp (fun b o e => ?_) ⟨l, ns, 0, 0, fo, (by rw [upd_same, em]; rfl), (by rw [upd_ne npl.symm, upd_same]), hl, by decide, by decide, h0, by omega⟩
        rw [upd_ne (ne_of_none e hp), upd_ne (ne_of_none e lnone), upd_ne (ne_of_none e hp)]
        exact e
theorem scDraw : FnScope ["_law_bag_here", "_law_limit", "_law_cell", "_law_digit", "_law_base"] ["_law_bag_here", "_law_limit"] (defScope sDraw) := ⟨rfl, rfl, rfl, by decide +kernel, rfl, by decide +kernel, by decide +kernel⟩
theorem ok_draw {f : Addr} {fd : FuncData} (F : Fun K "_law_draw" "_law_draw" sDraw f fd) (B : BltT mg) : FnOk P w K mg base CX0 1 f fd ["_law_bag_here", "_law_limit"] spDraw := by
  refine F.ok scDraw (fun vs H Q E h => ?_) (fun cdv A outer s H vs Q E hr h => ?_)
  · obtain ⟨p, n, m, rfl, _⟩ := h
    rfl
  · obtain ⟨p, n, m, rfl, ⟨l, ns, i, dg, fo, hp, hl, hlen, i0, d0, f0, f1⟩, hn, m0, m1, q⟩ := h
    have hu := hu_of hr
    have npl : l ≠ p := ne_of hl hp (by intro z; cases z)
    refine ⟨_, pss_cons (ps_dput hu (pv 0) pe_str (pe_op op_add (pe_dget hu (pv 0) pe_str (fun _ _ => rfl)) pe_int) rfl)
      (Evl.pss_cut (ps_if (PW.pt (pw_and (pt_cmpR op_eq (pe_dget hu (pv 0) pe_str (fun _ _ => rfl)) pe_int (nomark _)) (pw_and1 (pt_cmpR op_lt (pe_dget hu (pv 0) pe_str (fun _ _ => rfl)) (pe_callB call_len_seq (by rfl) B.len PySem.boot_len (pa_cons (pe_dget hu (pv 0) pe_str (fun _ _ => rfl)) pa_nil)) (nomark _)))))
          (pss_cons (ps_set (i := 2) scDraw.nd rfl (Or.inl rfl) (pe_ix ix_list (pe_dget hu (pv 0) pe_str (fun _ _ => rfl)) (pe_dget hu (pv 0) pe_str (fun _ _ => rfl)) (fun _ _ => rfl)))
          (pss_cons (ps_dput hu (pv 0) pe_str (pe_op op_add (pe_dget hu (pv 0) pe_str (fun _ _ => rfl)) pe_int) rfl)
          (pss_one (ps_if (pt_cmpR op_ge (pv 2) (pe_op op_pow pe_int pe_int) (nomark _))
            (pss_one (ps_dput hu (pv 0) pe_str (pe_op op_sub (pv 2) (pe_op op_pow pe_int pe_int)) rfl))
            (pss_one (ps_dput hu (pv 0) pe_str (pe_op op_mod (pe_callTy call_int1 (by rfl) B.int (by decide +kernel) (pa_cons (pe_op op_add (pe_op op_mul (pe_dget hu (pv 0) pe_str (fun _ _ => rfl)) pe_int) (pv 2)) pa_nil)) pe_int) rfl))))))
          pss_nil)
      (pss_cons (ps_if (pt_cmpR op_gt (pe_dget hu (pv 0) pe_str (fun _ _ => rfl)) pe_int (nomark _))
          (pss_cons (ps_set (i := 3) scDraw.nd rfl (Or.inl rfl) (pe_op op_mod (pe_callTy call_int1 (by rfl) B.int (by decide +kernel) (pa_cons (pe_dget hu (pv 0) pe_str (fun _ _ => rfl)) pa_nil)) (pv 1)))
          (pss_cons (ps_dput hu (pv 0) pe_str (pe_op op_fdivW (pe_dget hu (pv 0) pe_str (fun _ _ => rfl)) (pv 1)) rfl)
          (pss_one (ps_ret (pv 3)))))
          pss_nil)
      (pss_cons (ps_set (i := 4) scDraw.nd rfl (Or.inl rfl) (pe_op op_add (pe_op op_add (pe_dget hu (pv 0) pe_str (fun _ _ => rfl)) (pe_op op_mul (pe_dget hu (pv 0) pe_str (fun _ _ => rfl)) pe_int)) pe_int))
      (pss_one (ps_ret (pe_op op_mod (pe_op op_fdiv (pe_callTy call_int1 (by rfl) B.int (by decide +kernel) (pa_cons (pe_op op_mod (pe_op op_pow (pv 4) pe_int) pe_int) pa_nil)) pe_int) (pv 1))))))), ?_⟩
    have five : ∀ {l i dg ct fo}, (bagK l i dg ct fo).length < sizeLine := fun {l i dg ct fo} => by show 5 < sizeLine; decide
    -- bag["count"] = bag["count"] + 1
    refine ⟨_, rfl, p, _, rfl, (show DGet _ _ (kV kN) _ from by rw [← gN l i dg n fo]; exact DGet.k hp), _, _, rfl, rfl, _, rfl, p, _, rfl, DPut.k (k := kN) hp five, ?_⟩
    rw [pN]
    -- Mid: a bag again, with one more
    refine ⟨fun σ G => ∃ v : Option V, σ = [some (.ref p), some (.int m), v, none, none] ∧ Bag G p (n + 1) ∧ But p H G, ?_, ?_⟩
    · have hp1 : (upd H p (.dK (bagK l i dg ((n : Int) + 1) fo))) p = some (.dK (bagK l i dg ((n : Int) + 1) fo)) := upd_same
      have hl1 : ∀ o, (upd H p o) l = some (.lst (ns.map V.int)) := fun o => by rw [upd_ne npl]; exact hl
      have en : ((n : Int) + 1) = ((n + 1 : Nat) : Int) := by omega
      have mid : ∀ (i dg fo : Int), 0 ≤ i → 0 ≤ dg → 0 ≤ fo → fo < 2147483587 → Bag (upd H p (.dK (bagK l i dg ((n : Int) + 1) fo))) p (n + 1) := fun i dg fo a b c d =>
        ⟨l, ns, i, dg, fo, (by rw [upd_same, en]), hl1 _, hlen, a, b, c, d⟩
      refine ⟨_, rfl, p, _, rfl, (show DGet _ _ (kV kD) _ from by rw [← gD l i dg ((n : Int) + 1) fo]; exact DGet.k hp1), rfl, _, rfl, ?_⟩
      refine ite2 (fun c => ?_) (fun c => ?_)
      · refine ⟨_, rfl, p, _, rfl, (show DGet _ _ (kV kA) _ from by rw [← gA l i dg ((n : Int) + 1) fo]; exact DGet.k hp1), _, rfl, p, _, rfl, (show DGet _ _ (kV kC) _ from by rw [← gC l i dg ((n : Int) + 1) fo]; exact DGet.k hp1), l, _, rfl, .inl (SqL.of (hl1 _)), _, _, rfl, rfl, _, rfl, ?_⟩
        refine ite2 (fun c2 => ?_) (fun c2 => ?_)
        · have c3 : i < (ns.length : Int) := by
            have z := of_decide_eq_true c2
            rw [List.length_map] at z
            exact z
          obtain ⟨v, hv⟩ : ∃ v, ns[i.toNat]? = some v := ⟨_, List.getElem?_eq_getElem (by omega)⟩
          have hat : atI (ns.map V.int) i = some (.int v) := at_of (j := i.toNat) (by omega) (by rw [List.getElem?_map, hv] <;> rfl)
          refine ⟨_, rfl, p, _, rfl, (show DGet _ _ (kV kC) _ from by rw [← gC l i dg ((n : Int) + 1) fo]; exact DGet.k hp1), _, rfl, p, _, rfl, (show DGet _ _ (kV kA) _ from by rw [← gA l i dg ((n : Int) + 1) fo]; exact DGet.k hp1), l, _, _, _, rfl, rfl, SqL.of (hl1 _), hat, ?_⟩
          refine ⟨_, rfl, p, _, rfl, (show DGet _ _ (kV kA) _ from by rw [← gA l i dg ((n : Int) + 1) fo]; exact DGet.k hp1), _, _, rfl, rfl, _, rfl, p, _, rfl, DPut.k (k := kA) hp1 five, ?_⟩
          rw [pA, upd_upd]
          have hp2 : (upd H p (.dK (bagK l (i + 1) dg ((n : Int) + 1) fo))) p = some (.dK (bagK l (i + 1) dg ((n : Int) + 1) fo)) := upd_same
          refine ⟨_, rfl, _, _, rfl, rfl, ⟨by decide, by decide, by decide⟩, _, _, rfl, rfl, _, rfl, ?_⟩
          refine ite2 (fun c4 => ?_) (fun c4 => ?_)
          · have c5 : v ≥ (10 : Int) ^ (18 : Int).toNat := of_decide_eq_true c4
            refine ⟨_, rfl, _, _, rfl, rfl, ⟨by decide, by decide, by decide⟩, _, _, rfl, rfl, _, rfl, p, _, rfl, DPut.k (k := kD) hp2 five, ?_⟩
            rw [pD, upd_upd]
            exact ⟨_, rfl, mid _ _ _ (by omega) (Int.sub_nonneg_of_le c5) f0 f1, But.upd⟩
          · refine ⟨_, rfl, p, _, rfl, (show DGet _ _ (kV kF) _ from by rw [← gF l (i + 1) dg ((n : Int) + 1) fo]; exact DGet.k hp2), _, _, rfl, rfl, .inl ⟨by omega, by omega⟩, _, rfl, _, _, rfl, rfl, .inl ⟨_, rfl, _, _, rfl, rfl, (by show (0 : Int) < 2147483587; decide), _, rfl, p, _, rfl, DPut.k (k := kF) hp2 five, ?_⟩⟩
            rw [pF, upd_upd]
            exact ⟨_, rfl, mid _ _ _ (by omega) d0 (Int.emod_nonneg _ (by decide)) (Int.emod_lt_of_pos _ (by decide)), But.upd⟩
        · exact ⟨_, rfl, mid _ _ _ i0 d0 f0 f1, But.upd⟩
      · exact ⟨_, rfl, mid _ _ _ i0 d0 f0 f1, But.upd⟩
    · rintro σ G ⟨v, rfl, ⟨l, ns, i, dg, fo, hp, hl, hlen, i0, d0, f0, f1⟩, hB⟩
      have npl : l ≠ p := ne_of hl hp (by intro z; cases z)
      have hc : ((n + 1 : Nat) : Int) = (n : Int) + 1 := by omega
      refine ⟨_, rfl, p, _, rfl, (show DGet _ _ (kV kD) _ from by rw [← gD l i dg ((n + 1 : Nat) : Int) fo]; exact DGet.k hp), _, _, rfl, rfl, _, rfl, ?_⟩
      refine ite2 (fun c => ?_) (fun c => ?_)
      · refine ⟨_, rfl, p, _, rfl, (show DGet _ _ (kV kD) _ from by rw [← gD l i dg ((n + 1 : Nat) : Int) fo]; exact DGet.k hp), .inl ⟨_, rfl, _, rfl, _, _, rfl, rfl, m0, ?_⟩⟩
        refine ⟨_, rfl, p, _, rfl, (show DGet _ _ (kV kD) _ from by rw [← gD l i dg ((n + 1 : Nat) : Int) fo]; exact DGet.k hp), _, rfl, _, _, rfl, rfl, wide_div m0 m1 (by decide) (by decide), _, rfl, p, _, rfl, DPut.k (k := kD) hp five, ?_⟩
        rw [pD]
        refine ⟨_, rfl, ?_⟩
        refine q _ _ (Int.emod_nonneg _ (by omega)) (Int.emod_lt_of_pos _ m0) ⟨l, ns, i, dg / m, fo, upd_same, by rw [upd_ne npl]; exact hl, hlen, i0, Int.ediv_nonneg d0 (by omega), f0, f1⟩ (hB.trans But.upd)
      · refine ⟨_, rfl, p, _, rfl, (show DGet _ _ (kV kF) _ from by rw [← gF l i dg ((n + 1 : Nat) : Int) fo]; exact DGet.k hp), _, rfl, p, _, rfl, (show DGet _ _ (kV kN) _ from by rw [← gN l i dg ((n + 1 : Nat) : Int) fo]; exact DGet.k hp), _, _, rfl, rfl, .inl ⟨by omega, by omega⟩, _, _, rfl, rfl, _, _, rfl, rfl, ?_⟩
        refine ⟨_, rfl, _, _, rfl, rfl, big17 (by omega) (by omega), _, _, rfl, rfl, (by show (0 : Int) < 2305843009213693951; decide), .inl ⟨_, rfl, _, _, rfl, rfl, ⟨by decide, by decide⟩, _, rfl, _, _, rfl, rfl, m0, ?_⟩⟩
        exact q _ _ (Int.emod_nonneg _ (by omega)) (Int.emod_lt_of_pos _ m0) ⟨l, ns, i, dg, fo, hp, hl, hlen, i0, d0, f0, f1⟩ hB
abbrev s_read_plain_part : Stmt := top 16
abbrev n_read_plain_part : List Str := ["text", "place", "width", "words"]
theorem c_read_plain_part : FnScope n_read_plain_part ["text", "place", "width"] (defScope s_read_plain_part) := ⟨rfl, rfl, rfl, by decide +kernel, rfl, by decide +kernel, by decide +kernel⟩
abbrev s_read_part : Stmt := top 17
abbrev n_read_part : List Str := ["text", "place", "width", "denied", "plain"]
theorem c_read_part : FnScope n_read_part ["text", "place", "width"] (defScope s_read_part) := ⟨rfl, rfl, rfl, by decide +kernel, rfl, by decide +kernel, by decide +kernel⟩
abbrev s_read_test : Stmt := top 18
abbrev n_read_test : List Str := ["text", "place", "width", "parts", "part"]
theorem c_read_test : FnScope n_read_test ["text", "place", "width"] (defScope s_read_test) := ⟨rfl, rfl, rfl, by decide +kernel, rfl, by decide +kernel, by decide +kernel⟩
abbrev s_names_given : Stmt := top 19
abbrev n_names_given : List Str := ["test", "_", "left", "right"]
theorem c_names_given : FnScope n_names_given ["test"] (defScope s_names_given) := ⟨rfl, rfl, rfl, by decide +kernel, rfl, by decide +kernel, by decide +kernel⟩
abbrev s_Row_init : Stmt := inClass (top 24) 0
abbrev n_Row_init : List Str := ["self", "word", "place", "number", "test"]
theorem c_Row_init : FnScope n_Row_init ["self", "word", "place", "number", "test"] (defScope s_Row_init) := ⟨rfl, rfl, rfl, by decide +kernel, rfl, by decide +kernel, by decide +kernel⟩
abbrev s_row_with_test : Stmt := top 25
abbrev n_row_with_test : List Str := ["word", "place", "text", "width", "test"]
theorem c_row_with_test : FnScope n_row_with_test ["word", "place", "text", "width"] (defScope s_row_with_test) := ⟨rfl, rfl, rfl, by decide +kernel, rfl, by decide +kernel, by decide +kernel⟩
abbrev s_row_of_block_word : Stmt := top 27
abbrev n_row_of_block_word : List Str := ["word", "place", "opened", "takers"]
theorem c_row_of_block_word : FnScope n_row_of_block_word ["word", "place", "opened"] (defScope s_row_of_block_word) := ⟨rfl, rfl, rfl, by decide +kernel, rfl, by decide +kernel, by decide +kernel⟩
abbrev s_read_row : Stmt := top 28
abbrev n_read_row : List Str := ["line", "opened", "width", "loops", "block", "place", "word", "_", "text"]
theorem c_read_row : FnScope n_read_row ["line", "opened", "width"] (defScope s_read_row) := ⟨rfl, rfl, rfl, by decide +kernel, rfl, by decide +kernel, by decide +kernel⟩
abbrev s_blocks_behind : Stmt := top 29
abbrev n_blocks_behind : List Str := ["word", "opened"]
theorem c_blocks_behind : FnScope n_blocks_behind ["word", "opened"] (defScope s_blocks_behind) := ⟨rfl, rfl, rfl, by decide +kernel, rfl, by decide +kernel, by decide +kernel⟩
abbrev s_read_rows : Stmt := top 30
abbrev n_read_rows : List Str := ["lines", "width", "rows", "opened", "number", "line", "row"]
theorem c_read_rows : FnScope n_read_rows ["lines", "width"] (defScope s_read_rows) := ⟨rfl, rfl, rfl, by decide +kernel, rfl, by decide +kernel, by decide +kernel⟩
abbrev s_match_blocks : Stmt := top 32
abbrev n_match_blocks : List Str := ["rows", "heads", "ends", "opened", "at", "row"]
theorem c_match_blocks : FnScope n_match_blocks ["rows"] (defScope s_match_blocks) := ⟨rfl, rfl, rfl, by decide +kernel, rfl, by decide +kernel, by decide +kernel⟩
abbrev s_Flow_init : Stmt := inClass (top 33) 0
abbrev n_Flow_init : List Str := ["self", "rows", "at"]
theorem c_Flow_init : FnScope n_Flow_init ["self", "rows"] (defScope s_Flow_init) := ⟨rfl, rfl, rfl, by decide +kernel, rfl, by decide +kernel, by decide +kernel⟩
abbrev s_Flow_landing : Stmt := inClass (top 33) 1
abbrev n_Flow_landing : List Str := ["self", "at", "head"]
theorem c_Flow_landing : FnScope n_Flow_landing ["self", "at"] (defScope s_Flow_landing) := ⟨rfl, rfl, rfl, by decide +kernel, rfl, by decide +kernel, by decide +kernel⟩
abbrev s_Flow_way_past : Stmt := inClass (top 33) 2
abbrev n_Flow_way_past : List Str := ["self", "at", "place", "head"]
theorem c_Flow_way_past : FnScope n_Flow_way_past ["self", "at"] (defScope s_Flow_way_past) := ⟨rfl, rfl, rfl, by decide +kernel, rfl, by decide +kernel, by decide +kernel⟩
abbrev s_Flow_find_loops : Stmt := inClass (top 33) 3
abbrev n_Flow_find_loops : List Str := ["self", "found", "head", "end", "at"]
theorem c_Flow_find_loops : FnScope n_Flow_find_loops ["self"] (defScope s_Flow_find_loops) := ⟨rfl, rfl, rfl, by decide +kernel, rfl, by decide +kernel, by decide +kernel⟩
abbrev s_is_kind : Stmt := top 38
abbrev n_is_kind : List Str := ["value"]
theorem c_is_kind : FnScope n_is_kind ["value"] (defScope s_is_kind) := ⟨rfl, rfl, rfl, by decide +kernel, rfl, by decide +kernel, by decide +kernel⟩
abbrev s_is_width : Stmt := top 39
abbrev n_is_width : List Str := ["value"]
theorem c_is_width : FnScope n_is_width ["value"] (defScope s_is_width) := ⟨rfl, rfl, rfl, by decide +kernel, rfl, by decide +kernel, by decide +kernel⟩
abbrev s_allows : Stmt := top 40
abbrev n_allows : List Str := ["kind", "word"]
theorem c_allows : FnScope n_allows ["kind", "word"] (defScope s_allows) := ⟨rfl, rfl, rfl, by decide +kernel, rfl, by decide +kernel, by decide +kernel⟩
abbrev s_keeps_order : Stmt := top 45
abbrev n_keeps_order : List Str := ["way", "word", "loops", "home", "_", "once"]
theorem c_keeps_order : FnScope n_keeps_order ["way", "word"] (defScope s_keeps_order) := ⟨rfl, rfl, rfl, by decide +kernel, rfl, by decide +kernel, by decide +kernel⟩
abbrev s_way_behind : Stmt := top 46
abbrev n_way_behind : List Str := ["way", "line", "word", "loops", "home", "cut", "once", "known"]
theorem c_way_behind : FnScope n_way_behind ["way", "line", "word"] (defScope s_way_behind) := ⟨rfl, rfl, rfl, by decide +kernel, rfl, by decide +kernel, by decide +kernel⟩
abbrev s_Walk_init : Stmt := inClass (top 49) 0
abbrev n_Walk_init : List Str := ["self", "kind"]
theorem c_Walk_init : FnScope n_Walk_init ["self", "kind"] (defScope s_Walk_init) := ⟨rfl, rfl, rfl, by decide +kernel, rfl, by decide +kernel, by decide +kernel⟩
abbrev s_Walk_step : Stmt := inClass (top 49) 1
abbrev n_Walk_step : List Str := ["self", "line", "row"]
theorem c_Walk_step : FnScope n_Walk_step ["self", "line", "row"] (defScope s_Walk_step) := ⟨rfl, rfl, rfl, by decide +kernel, rfl, by decide +kernel, by decide +kernel⟩
abbrev s_Walk_begin_loop : Stmt := inClass (top 49) 2
abbrev n_Walk_begin_loop : List Str := ["self", "line", "word", "way", "behind", "loops", "_", "cut", "once"]
theorem c_Walk_begin_loop : FnScope n_Walk_begin_loop ["self", "line", "word"] (defScope s_Walk_begin_loop) := ⟨rfl, rfl, rfl, by decide +kernel, rfl, by decide +kernel, by decide +kernel⟩
abbrev s_Walk_stay_in_loop : Stmt := inClass (top 49) 3
abbrev n_Walk_stay_in_loop : List Str := ["self", "line", "word"]
theorem c_Walk_stay_in_loop : FnScope n_Walk_stay_in_loop ["self", "line", "word"] (defScope s_Walk_stay_in_loop) := ⟨rfl, rfl, rfl, by decide +kernel, rfl, by decide +kernel, by decide +kernel⟩
abbrev s_Walk_fork : Stmt := inClass (top 49) 4
abbrev n_Walk_fork : List Str := ["self", "line", "row", "ahead", "_", "way", "first"]
theorem c_Walk_fork : FnScope n_Walk_fork ["self", "line", "row"] (defScope s_Walk_fork) := ⟨rfl, rfl, rfl, by decide +kernel, rfl, by decide +kernel, by decide +kernel⟩
abbrev s_Walk_pass_line : Stmt := inClass (top 49) 5
abbrev n_Walk_pass_line : List Str := ["self", "line", "word", "way"]
theorem c_Walk_pass_line : FnScope n_Walk_pass_line ["self", "line", "word"] (defScope s_Walk_pass_line) := ⟨rfl, rfl, rfl, by decide +kernel, rfl, by decide +kernel, by decide +kernel⟩
abbrev s_Walk_end_ways : Stmt := inClass (top 49) 6
abbrev n_Walk_end_ways : List Str := ["self", "_", "home"]
theorem c_Walk_end_ways : FnScope n_Walk_end_ways ["self"] (defScope s_Walk_end_ways) := ⟨rfl, rfl, rfl, by decide +kernel, rfl, by decide +kernel, by decide +kernel⟩
abbrev s_least_break : Stmt := top 50
abbrev n_least_break : List Str := ["kind", "rows", "walk", "line", "row"]
theorem c_least_break : FnScope n_least_break ["kind", "rows"] (defScope s_least_break) := ⟨rfl, rfl, rfl, by decide +kernel, rfl, by decide +kernel, by decide +kernel⟩
abbrev s_Code_init : Stmt := inClass (top 53) 0
abbrev n_Code_init : List Str := ["self", "kind", "width", "text", "lines", "rows", "broken"]
theorem c_Code_init : FnScope n_Code_init ["self", "kind", "width", "text"] (defScope s_Code_init) := ⟨rfl, rfl, rfl, by decide +kernel, rfl, by decide +kernel, by decide +kernel⟩
abbrev s_Code_len : Stmt := inClass (top 53) 1
abbrev n_Code_len : List Str := ["self"]
theorem c_Code_len : FnScope n_Code_len ["self"] (defScope s_Code_len) := ⟨rfl, rfl, rfl, by decide +kernel, rfl, by decide +kernel, by decide +kernel⟩
abbrev s_Code_getitem : Stmt := inClass (top 53) 2
abbrev n_Code_getitem : List Str := ["self", "at"]
theorem c_Code_getitem : FnScope n_Code_getitem ["self", "at"] (defScope s_Code_getitem) := ⟨rfl, rfl, rfl, by decide +kernel, rfl, by decide +kernel, by decide +kernel⟩
abbrev s_Code_iter : Stmt := inClass (top 53) 3
abbrev n_Code_iter : List Str := ["self"]
theorem c_Code_iter : FnScope n_Code_iter ["self"] (defScope s_Code_iter) := ⟨rfl, rfl, rfl, by decide +kernel, rfl, by decide +kernel, by decide +kernel⟩
abbrev s_Code_eq : Stmt := inClass (top 53) 4
abbrev n_Code_eq : List Str := ["self", "other"]
theorem c_Code_eq : FnScope n_Code_eq ["self", "other"] (defScope s_Code_eq) := ⟨rfl, rfl, rfl, by decide +kernel, rfl, by decide +kernel, by decide +kernel⟩
abbrev s_Code_as_kind : Stmt := inClass (top 53) 5
abbrev n_Code_as_kind : List Str := ["self", "kind"]
theorem c_Code_as_kind : FnScope n_Code_as_kind ["self", "kind"] (defScope s_Code_as_kind) := ⟨rfl, rfl, rfl, by decide +kernel, rfl, by decide +kernel, by decide +kernel⟩
abbrev s_Lbag : Stmt := top 55
abbrev n_Lbag : List Str := ["_law_script", "_law_fold", "_law_cell"]
theorem c_Lbag : FnScope n_Lbag ["_law_script"] (defScope s_Lbag) := ⟨rfl, rfl, rfl, by decide +kernel, rfl, by decide +kernel, by decide +kernel⟩
abbrev s_Ldraw : Stmt := top 56
abbrev n_Ldraw : List Str := ["_law_bag_here", "_law_limit", "_law_cell", "_law_digit", "_law_base"]
theorem c_Ldraw : FnScope n_Ldraw ["_law_bag_here", "_law_limit"] (defScope s_Ldraw) := ⟨rfl, rfl, rfl, by decide +kernel, rfl, by decide +kernel, by decide +kernel⟩
abbrev s_Ltold : Stmt := top 57
abbrev n_Ltold : List Str := ["_law_kind", "_law_width", "_law_text", "_law_code", "e"]
theorem c_Ltold : FnScope n_Ltold ["_law_kind", "_law_width", "_law_text"] (defScope s_Ltold) := ⟨rfl, rfl, rfl, by decide +kernel, rfl, by decide +kernel, by decide +kernel⟩
abbrev s_Llines : Stmt := top 58
abbrev n_Llines : List Str := ["_law_bag_here", "_law_pool", "_law_found", "_law_k"]
theorem c_Llines : FnScope n_Llines ["_law_bag_here"] (defScope s_Llines) := ⟨rfl, rfl, rfl, by decide +kernel, rfl, by decide +kernel, by decide +kernel⟩
abbrev s_Lkinds_right : Stmt := top 59
abbrev n_Lkinds_right : List Str := ["_law_code", "_law_lines_here", "_law_kind", "_law_other", "e"]
theorem c_Lkinds_right : FnScope n_Lkinds_right ["_law_code", "_law_lines_here"] (defScope s_Lkinds_right) := ⟨rfl, rfl, rfl, by decide +kernel, rfl, by decide +kernel, by decide +kernel⟩
abbrev s_law : Stmt := top 60
abbrev n_law : List Str := ["_law_script", "_law_bag_here", "_law_kinds", "_law_odd", "_law_wide", "_law_kind", "_law_width", "_law_lines_here", "_law_text", "_law_code", "_law_k", "_law_wrong", "_law_no_width", "_law_long", "_law_many", "_law_due"]
theorem c_law : FnScope n_law ["_law_script"] (defScope s_law) := ⟨rfl, rfl, rfl, by decide +kernel, rfl, by decide +kernel, by decide +kernel⟩
end
end H1
namespace H1
open PySem PySem.Spec PyProof.Rows L2 Hx Nd Dun
section
variable {P : Program} {w : World} {K : PySem.W.Frag} {mg : Str → Option Value} {base : Heap} {D : Addr}
/-! ### facts of the top -/
structure FT (K : PySem.W.Frag) (mg : Str → Option Value) (x : Str) (st : Stmt) (ps : List Str) (f : Addr) : Prop where
  g : mg x = some (.ref f)
  fn : ∃ fd, Fun K x x st f fd ∧ Binds K fd ps []
structure MT (K : PySem.W.Frag) (C : Addr) (nm qual : Str) (st : Stmt) (ps : List Str) (f : Addr) : Prop where
  m : Meth K C nm f
  fn : ∃ fd, Fun K nm qual st f fd ∧ Binds K fd ps []
structure TupT (K : PySem.W.Frag) (mg : Str → Option Value) (x : Str) (a : Addr) (xs : List V) : Prop where
  g : mg x = some (.ref a)
  s : ∀ H, SqT K H a xs
def kindsV : List V := [.str "put", .str "take", .str "top", .str "out", .str "either", .str "above", .str "below", .str "tree"]
def widthsV : List V := [.int 2, .int 3, .int 4]
/-! ### is_kind, is_width, allows -/
def spIs (K : PySem.W.Frag) (ty : String) (xs : List V) : Sp := fun vs H Q _ => ∃ (v : V) (t : Value) (b : Bool), vs = [v] ∧ TyX K H v t ∧ PySem.W.kitOne K t (.type ty) = some b ∧ (b = true → flatV v = true) ∧ Q (.bl (b && inV v xs)) H
theorem ok_is_kind {f k : Addr} (T : FT K mg "is_kind" s_is_kind ["value"] f) (isi : mg "isinstance" = none) (st : mg "str" = none) (C : TupT K mg "KINDS" k kindsV) : ∃ fd, Fun K "is_kind" "is_kind" s_is_kind f fd ∧ Binds K fd ["value"] [] ∧ FnOk P w K mg base CX0 1 f fd ["value"] (spIs K "str" kindsV) := by
  obtain ⟨fd, F, b⟩ := T.fn
  refine ⟨fd, F, b, F.ok c_is_kind (fun vs H Q E h => ?_) (fun cdv A outer s H vs Q E hr h => ?_)⟩
  · obtain ⟨v, t, b, rfl, _⟩ := h
    rfl
  obtain ⟨v, t, b, rfl, ty, hk, hf, q⟩ := h
  refine ⟨_, pss_one (ps_ret (pe_and (pe_callB call_isi (by rfl) isi (by decide +kernel) (pa_cons (pv 0) (pa_cons (pe_bltn (x := "str") (v := .ty "str") rfl st (by decide +kernel) rfl) pa_nil))) (pe_one (pe_cmpR op_in_seq (pv 0) (pe_glob (v := .ref k) rfl C.g rfl) rfl)))), ?_⟩
  refine ⟨_, rfl, v, .ty "str", t, .type "str", b, rfl, .ty _, ty, hk, b, rfl, ?_⟩
  cases b with
  | false => exact q
  | true => exact ⟨_, rfl, k, kindsV, rfl, .inr (C.s H), hf rfl, rfl, q⟩
theorem ok_is_width {f k : Addr} (T : FT K mg "is_width" s_is_width ["value"] f) (isi : mg "isinstance" = none) (st : mg "int" = none) (C : TupT K mg "WIDTHS" k widthsV) : ∃ fd, Fun K "is_width" "is_width" s_is_width f fd ∧ Binds K fd ["value"] [] ∧ FnOk P w K mg base CX0 1 f fd ["value"] (spIs K "int" widthsV) := by
  obtain ⟨fd, F, b⟩ := T.fn
  refine ⟨fd, F, b, F.ok c_is_width (fun vs H Q E h => ?_) (fun cdv A outer s H vs Q E hr h => ?_)⟩
  · obtain ⟨v, t, b, rfl, _⟩ := h
    rfl
  obtain ⟨v, t, b, rfl, ty, hk, hf, q⟩ := h
  refine ⟨_, pss_one (ps_ret (pe_and (pe_callB call_isi (by rfl) isi (by decide +kernel) (pa_cons (pv 0) (pa_cons (pe_bltn (x := "int") (v := .ty "int") rfl st (by decide +kernel) rfl) pa_nil))) (pe_one (pe_cmpR op_in_seq (pv 0) (pe_glob (v := .ref k) rfl C.g rfl) rfl)))), ?_⟩
  refine ⟨_, rfl, v, .ty "int", t, .type "int", b, rfl, .ty _, ty, hk, b, rfl, ?_⟩
  cases b with
  | false => exact q
  | true => exact ⟨_, rfl, k, widthsV, rfl, .inr (C.s H), hf rfl, rfl, q⟩
/-- the words that stand in every kind -/
def freeW : List Str := ["tell", "grab", "note", "quit"]
structure AllT (K : PySem.W.Frag) (w : World) (mg : Str → Option Value) (d : Addr) : Prop where
  g : mg "ALLOWED" = some (.ref d)
  kd : ∃ es n, KDict K w d es n
  no : ∀ x ∈ freeW, PySem.W.nsIn K d x = some none
def spAllows : Sp := fun vs H Q _ => ∃ (v : V) (x : Str), vs = [v, .str x] ∧ x ∈ freeW ∧ Q (.bl true) H
theorem ok_allows {f d : Addr} (T : FT K mg "allows" s_allows ["kind", "word"] f) (C : AllT K w mg d) : ∃ fd, Fun K "allows" "allows" s_allows f fd ∧ Binds K fd ["kind", "word"] [] ∧ FnOk P w K mg base CX0 1 f fd ["kind", "word"] spAllows := by
  obtain ⟨fd, F, b⟩ := T.fn
  refine ⟨fd, F, b, F.ok c_allows (fun vs H Q E h => ?_) (fun cdv A outer s H vs Q E hr h => ?_)⟩
  · obtain ⟨v, x, rfl, _⟩ := h
    rfl
  obtain ⟨v, x, rfl, hx, q⟩ := h
  obtain ⟨es, n, kd⟩ := C.kd
  refine ⟨_, pss_one (ps_ret (pe_or (pe_cmpR (op_notIn_kd kd) (pv 1) (pe_glob (v := .ref d) rfl C.g rfl) rfl) (pe_one pe_no))), ?_⟩
  exact ⟨_, rfl, x, none, rfl, rfl, C.no x hx, true, rfl, q⟩
end
end H1
namespace H1
open PySem PySem.Spec PyProof.Rows L2 Hx Nd Dun
section
variable {P : Program} {w : World} {K : PySem.W.Frag} {mg : Str → Option Value} {base : Heap} {D : Addr}
theorem u65 {k : Nat} {A : Around} (r : Room k A) : A.units + 65 < cLine := by have := r.un; omega
/-! ### parts and tests: of 'inside' and 'below root' alone -/
def partTexts : List Str := ["inside", "below root"]
/-- the part that such a text is -/
def Part (K : PySem.W.Frag) (H : Hp) (p : Addr) : Prop := ∃ x : Str, x ∈ partTexts ∧ SqT K H p [.bl true, .str x, .non, .non]
/-- a test of one such part -/
def Test (K : PySem.W.Frag) (H : Hp) (t : Addr) : Prop := ∃ p, SqT K H t [.ref p] ∧ Part K H p
theorem Part.keep {H H' : Hp} {p : Addr} (h : Part K H p) (e : Same H H') : Part K H' p := by
  obtain ⟨x, hx, h⟩ := h
  exact ⟨x, hx, sqt_same e h⟩
theorem partOk {x : Str} (hx : x ∈ partTexts) : PyData.strOk x = true := by
  unfold partTexts at hx
  rcases List.mem_cons.mp hx with rfl | hx
  · decide +kernel
  · rcases List.mem_cons.mp hx with rfl | hx
    · decide +kernel
    · cases hx
theorem Test.keep {H H' : Hp} {p : Addr} (h : Test K H p) (e : Same H H') : Test K H' p := by
  obtain ⟨q, h1, h2⟩ := h
  exact ⟨q, sqt_same e h1, h2.keep e⟩
def spPlain (K : PySem.W.Frag) : Sp := fun vs H Q _ => ∃ (x : Str) (y z : V), vs = [.str x, y, z] ∧ x ∈ partTexts ∧ ∀ H' p, Same H H' → SqT K H' p [.str x, .non, .non] → Q (.ref p) H'
theorem ok_plain {f : Addr} (T : FT K mg "read_plain_part" s_read_plain_part ["text", "place", "width"] f) : ∃ fd, Fun K "read_plain_part" "read_plain_part" s_read_plain_part f fd ∧ Binds K fd ["text", "place", "width"] [] ∧ FnOk P w K mg base CX0 1 f fd ["text", "place", "width"] (spPlain K) := by
  obtain ⟨fd, F, b⟩ := T.fn
  refine ⟨fd, F, b, F.ok c_read_plain_part (fun vs H Q E h => ?_) (fun cdv A outer s H vs Q E hr h => ?_)⟩
  · obtain ⟨x, y, z, rfl, _⟩ := h
    rfl
  obtain ⟨x, y, z, rfl, hx, q⟩ := h
  refine ⟨_, pss_cons (ps_if (pt_cmpR op_in_seq (pv 0) (pe_tup (pa_cons pe_str (pa_cons pe_str (pa_cons pe_str pa_nil)))) rfl) (pss_one (ps_ret (pe_tup (pa_cons (pv 0) (pa_cons pe_non (pa_cons pe_non pa_nil)))))) pss_nil) (pss_cons ps_never (pss_cons ps_never (pss_one ps_never))), ?_⟩
  refine ⟨_, rfl, (by show 3 ≤ sizeLine; decide), fun t nt => ⟨t, _, rfl, .inr (SqT.of upd_same), rfl, rfl, _, rfl, ?_⟩⟩
  have hin : (if false = true then !inV (V.str x) [.str "inside", .str "below root", .str "below start"] else inV (V.str x) [.str "inside", .str "below root", .str "below start"]) = true := by
    unfold partTexts at hx
    rcases List.mem_cons.mp hx with rfl | hx
    · decide +kernel
    · rcases List.mem_cons.mp hx with rfl | hx
      · decide +kernel
      · cases hx
  rw [hin]
  refine iteT ?_
  refine ⟨_, rfl, (by show 3 ≤ sizeLine; decide), fun p np => ?_⟩
  exact q _ _ ((new_same nt).trans (new_same np)) (SqT.of upd_same)
/-- a part -/
def spPart (K : PySem.W.Frag) : Sp := fun vs H Q _ => ∃ (x : Str) (y z : V), vs = [.str x, y, z] ∧ x ∈ partTexts ∧ ∀ H' p, Same H H' → Part K H' p → Q (.ref p) H'
theorem ok_part {f g : Addr} (T : FT K mg "read_part" s_read_part ["text", "place", "width"] f) (T1 : FT K mg "read_plain_part" s_read_plain_part ["text", "place", "width"] g) : ∃ fd, Fun K "read_part" "read_part" s_read_part f fd ∧ Binds K fd ["text", "place", "width"] [] ∧ FnOk P w K mg base CX0 2 f fd ["text", "place", "width"] (spPart K) := by
  obtain ⟨fd, F, b⟩ := T.fn
  obtain ⟨fd1, F1, b1, G1⟩ := ok_plain (P := P) (w := w) (base := base) T1
  refine ⟨fd, F, b, F.ok c_read_part (fun vs H Q E h => ?_) (fun cdv A outer s H vs Q E hr h => ?_)⟩
  · obtain ⟨x, y, z, rfl, _⟩ := h
    rfl
  obtain ⟨x, y, z, rfl, hx, q⟩ := h
  refine ⟨_, pss_cons (ps_set (i := 3) c_read_part.nd rfl (Or.inl rfl) (pe_m1 PySem.F.slot_str_startswith PySem.F.type_str_startswith mt_startswith (pv 0) pe_str))
    (pss_cons (ps_set (i := 4) c_read_part.nd rfl (Or.inl rfl) (pe_call G1 hr rfl T1.g F1.kp b1 .nil pass0 (pa_cons (pe_ifExp (pt_val (pv 3)) pe_no (pv 0)) (pa_cons (pv 1) (pa_cons (pv 2) pa_nil)))))
    (pss_one (ps_ret (pe_ifExp (pt_cmp (pc_isN (pv 4))) pe_non (pe_tup (pa_cons (pe_not (pv 3)) (StX.pa_star (pv 4) pa_nil))))))), ?_⟩
  have hno : Txt.startswith x "not " = false := by
    unfold partTexts at hx
    rcases List.mem_cons.mp hx with rfl | hx
    · decide +kernel
    · rcases List.mem_cons.mp hx with rfl | hx
      · decide +kernel
      · cases hx
  refine ⟨_, rfl, ⟨_, rfl⟩, x, _, rfl, rfl, ?_⟩
  rw [hno]
  refine ⟨_, rfl, _, rfl, ?_⟩
  refine iteF ?_
  refine ⟨_, rfl, _, rfl, _, rfl, x, y, z, rfl, hx, fun H1 p s1 e1 => ?_⟩
  refine ⟨_, rfl, _, rfl, ?_⟩
  refine iteF ?_
  refine ⟨_, rfl, _, rfl, _, rfl, p, _, rfl, .inl e1, (by show 4 ≤ sizeLine; decide), fun r nr => ?_⟩
  exact q _ r (s1.trans (new_same nr)) ⟨x, hx, SqT.of upd_same⟩
/-- a test -/
def spTest (K : PySem.W.Frag) : Sp := fun vs H Q _ => ∃ (x : Str) (y z : V), vs = [.str x, y, z] ∧ x ∈ partTexts ∧ ∀ H' p, Same H H' → Test K H' p → Q (.ref p) H'
theorem part_split {x : Str} (hx : x ∈ partTexts) : Txt.split x " and " = [x] ∧ x.length + 2 ≤ sizeLine := by
  unfold partTexts at hx
  rcases List.mem_cons.mp hx with rfl | hx
  · exact ⟨by decide +kernel, by decide +kernel⟩
  · rcases List.mem_cons.mp hx with rfl | hx
    · exact ⟨by decide +kernel, by decide +kernel⟩
    · cases hx
theorem ok_test {f g e : Addr} (T : FT K mg "read_test" s_read_test ["text", "place", "width"] f) (T2 : FT K mg "read_part" s_read_part ["text", "place", "width"] g) (T1 : FT K mg "read_plain_part" s_read_plain_part ["text", "place", "width"] e) (tup : mg "tuple" = none) : ∃ fd, Fun K "read_test" "read_test" s_read_test f fd ∧ Binds K fd ["text", "place", "width"] [] ∧ FnOk P w K mg base CX0 3 f fd ["text", "place", "width"] (spTest K) := by
  obtain ⟨fd, F, b⟩ := T.fn
  obtain ⟨fd2, F2, b2, G2⟩ := ok_part (P := P) (w := w) (base := base) T2 T1
  refine ⟨fd, F, b, F.ok c_read_test (fun vs H Q E h => ?_) (fun cdv A outer s H vs Q E hr h => ?_)⟩
  · obtain ⟨x, y, z, rfl, _⟩ := h
    rfl
  obtain ⟨x, y, z, rfl, hx, q⟩ := h
  obtain ⟨e1, e2⟩ := part_split hx
  refine ⟨_, pss_cons (ps_setLc (i := 3) (own := [("part", 4)]) (g := gName 4) (tt := tYes) rfl c_read_test.nd rfl rfl (sw_true rfl rfl rfl (by decide +kernel)) (pi_list (pe_split (pv 0) pe_str)) (blkOk_by (own := [("part", 4)]) (N := n_read_test) (sc := defScope s_read_test) (by decide +kernel))
      (fun _ _ _ _ _ => pg_name (i := 4) c_read_test.nd rfl (Or.inl rfl)) (fun _ _ _ _ _ => pts_nil) (fun _ _ _ _ _ => pe_call G2 hr rfl T2.g F2.kp b2 .nil pass0 (pa_cons (pv 4) (pa_cons (pv 1) (pa_cons (pv 2) pa_nil)))))
    (pss_one (ps_ret (pe_ifExp (pt_cmpR (op_inD (u65 hr)) pe_non (pv 3) rfl) pe_non (pe_callTy call_tuple_of (by rfl) tup (by decide +kernel) (pa_cons (pv 3) pa_nil))))), ?_⟩
  refine ⟨_, rfl, ⟨_, rfl⟩, x, _, rfl, rfl, by decide +kernel, e2, ?_⟩
  rw [e1]
  refine fun l nl => ⟨l, rfl, ⟨_, SqL.of upd_same⟩, fun L nL => lc_list (K := K) (a := l) (xs := [.str x]) (fun i G => (i = 0 ∧ G = upd (upd H l (.lst [.str x])) L (.lst [])) ∨ (i = 1 ∧ ∃ p, Same H G ∧ SqL K G l [.str x] ∧ Part K G p ∧ G L = some (.lst [.ref p]))) (.inl ⟨rfl, rfl⟩) ?_ ?_ ?_⟩
  · rintro i G hi (⟨rfl, rfl⟩ | ⟨rfl, p, s1, h1, _⟩)
    · have nlL : l ≠ L := fun e => by rw [e, upd_same] at nL; cases nL
      exact SqL.of (by rw [upd_ne nlL, upd_same])
    · exact h1
  · rintro i v G hi (⟨rfl, rfl⟩ | ⟨rfl, p, s1, h1, _⟩)
    · cases hi
      have nlL : l ≠ L := fun e => by rw [e, upd_same] at nL; cases nL
      refine ⟨rfl, ?_⟩
      unfold tYes
      dsimp only
      rw [if_pos rfl]
      refine ⟨_, rfl, _, rfl, _, rfl, x, y, z, rfl, hx, fun G2 p s2 hp => ?_⟩
      obtain ⟨nL1, _⟩ := free_upd nL
      have s3 : Same H G2 := (same_new (new_same nl) nL).trans s2
      have eL : G2 L = some (.lst []) := s2 _ _ upd_same
      refine ⟨[], eL, (by show 0 < sizeLine; decide), .inr ⟨rfl, p, same_out s3 nL1, ?_, ?_, upd_same⟩⟩
      · exact SqL.of (by rw [upd_ne nlL]; exact s2 _ _ (by rw [upd_ne nlL, upd_same]))
      · obtain ⟨t, htx, ht⟩ := hp
        exact ⟨t, htx, sqt_tups (tups_lst eL) ht⟩
    · cases hi
  · rintro G (⟨h, _⟩ | ⟨_, p, s1, h1, hp, hL⟩)
    · cases h
    obtain ⟨t, htx, ht⟩ := hp
    have dp : Dp K G (.ref p) (.tuple [.bool true, .str t, .none, .none]) := .tup ht (.cons (.bl _) (.cons (.str _) (.cons .non (.cons .non .nil))))
    refine ⟨_, rfl, .none, [.tuple [.bool true, .str t, .none, .none]], .non, .lst (SqL.of hL) (.cons dp .nil), by decide +kernel, by simp [SeqAt.shaped, PyData.canLay0, PyData.canLayAll0, PyData.depth, PyData.depthAll, partOk htx], ?_⟩
    refine ⟨_, rfl, ?_⟩
    refine iteF ?_
    refine ⟨_, rfl, L, _, rfl, .inl ⟨SqL.of hL, fun r nr => ?_⟩⟩
    exact q _ r (s1.trans (new_same nr)) ⟨p, SqT.of upd_same, t, htx, sqt_same (new_same nr) ht⟩
theorem op_inDTk {X : Cx} {K' : PySem.W.Frag} (hk : X.K = K') (hu : X.A.units + 65 < cLine) : OpR X (compareOp .In) (rInDT K') := by subst hk; exact op_inDT hu
/-- such a test names no given item -/
def spNames (K : PySem.W.Frag) : Sp := fun vs H Q _ => ∃ (t : Addr), vs = [.ref t] ∧ Test K H t ∧ ∀ H', Same H H' → Q (.bl false) H'
theorem ok_names {f a : Addr} (T : FT K mg "names_given" s_names_given ["test"] f) (C : TupT K mg "GIVEN" a [.str "given", .int 0]) (any : mg "any" = none) : ∃ fd, Fun K "names_given" "names_given" s_names_given f fd ∧ Binds K fd ["test"] [] ∧ FnOk P w K mg base CX0 1 f fd ["test"] (spNames K) := by
  obtain ⟨fd, F, b⟩ := T.fn
  refine ⟨fd, F, b, F.ok c_names_given (fun vs H Q E h => ?_) (fun cdv A outer s H vs Q E hr h => ?_)⟩
  · obtain ⟨t, rfl, _⟩ := h
    rfl
  obtain ⟨t, rfl, ⟨p, ht, x, hxx, hp⟩, q⟩ := h
  refine ⟨_, pss_one (ps_ret (pe_callB (cr_any rfl) (by rfl) any (by decide +kernel) (pa_cons (pe_lc (own := [("_", 1), ("left", 2), ("right", 3)]) (g := gTup K 4 (gCons (gName 1) (gCons (gName 1) (gCons (gName 2) (gCons (gName 3) gNil))))) (tt := tYes) rfl c_names_given.nd (pi_tup (pv 0)) (blkOk_by (own := [("_", 1), ("left", 2), ("right", 3)]) (N := n_names_given) (sc := defScope s_names_given) (by decide +kernel))
      (fun _ _ _ _ _ => pg_tup rfl (pgs_cons (pg_name (i := 1) c_names_given.nd rfl (Or.inl rfl)) (pgs_cons (pg_name (i := 1) c_names_given.nd rfl (Or.inl rfl)) (pgs_cons (pg_name (i := 2) c_names_given.nd rfl (Or.inl rfl)) (pgs_cons (pg_name (i := 3) c_names_given.nd rfl (Or.inl rfl)) pgs_nil))))) (fun _ _ _ _ _ => pts_nil)
      (fun _ _ _ _ _ => pe_cmpR (op_inDTk (K' := K) rfl (by exact u65 hr)) (pe_glob (v := .ref a) rfl C.g rfl) (pe_tup (pa_cons (pv 2) (pa_cons (pv 3) pa_nil))) rfl)) pa_nil))), ?_⟩
  refine ⟨_, rfl, t, rfl, ⟨_, ht⟩, fun L nL => lc_tup (K := K) (a := t) (xs := [.ref p]) (fun i G => (i = 0 ∧ G = upd H L (.lst [])) ∨ (i = 1 ∧ Same H G ∧ G L = some (.lst [.bl false]))) (.inl ⟨rfl, rfl⟩) ?_ ?_ ?_⟩
  · rintro i G hi (⟨rfl, rfl⟩ | ⟨rfl, s1, _⟩)
    · exact sqt_same (new_same nL) ht
    · exact sqt_same s1 ht
  · rintro i v G hi (⟨rfl, rfl⟩ | ⟨rfl, _⟩)
    · cases hi
      have hp2 : SqT K (upd H L (.lst [])) p [.bl true, .str x, .non, .non] := sqt_same (new_same nL) hp
      refine ⟨p, _, rfl, hp2, rfl, _, _, rfl, _, _, rfl, _, _, rfl, _, _, rfl, rfl, rfl, ?_⟩
      unfold tYes
      dsimp only
      rw [if_pos rfl]
      refine ⟨_, rfl, _, rfl, (by show 2 ≤ sizeLine; decide), fun r nr => ?_⟩
      refine ⟨.tuple [.str "given", .int 0], [.none, .none], .tup (C.s _) (.cons (.str _) (.cons (.int _) .nil)), .tup (SqT.of upd_same) (.cons .non (.cons .non .nil)), ?_, ?_, ?_⟩
      · decide +kernel
      · decide +kernel
      · have e : ([PyData.none, PyData.none].any fun z => PyData.eqv z (.tuple [.str "given", .int 0])) = false := by decide +kernel
        rw [e]
        obtain ⟨nr1, nrL⟩ := free_upd nr
        refine ⟨[], (by rw [upd_ne nrL.symm, upd_same]), (by show 0 < sizeLine; decide), .inr ⟨rfl, same_out (same_new (new_same nL) nr) nL, upd_same⟩⟩
    · cases hi
  · rintro G (⟨h, _⟩ | ⟨_, s1, hL⟩)
    · cases h
    exact ⟨L, [false], rfl, SqL.of hL, q _ s1⟩
end
end H1
namespace H1
open PySem PySem.Spec PyProof.Rows L2 Hx Nd Dun
section
variable {P : Program} {w : World} {K : PySem.W.Frag} {mg : Str → Option Value} {base : Heap} {D : Addr}
/-! ### the lines of the law's texts -/
inductive Tk | tell | grab | note | quit | ifi | ifb | els | fin
inductive On | no | yes | els
def Tk.line : Tk → Str
  | .tell => "tell" | .grab => "grab" | .note => "note" | .quit => "quit" | .ifi => "if inside" | .ifb => "if below root" | .els => "else" | .fin => "end"
def Tk.word : Tk → Str
  | .tell => "tell" | .grab => "grab" | .note => "note" | .quit => "quit" | .ifi => "if" | .ifb => "if" | .els => "else" | .fin => "end"
def On.vs : On → List V
  | .no => [] | .yes => [.str "if"] | .els => [.str "else"]
def stp : On → Tk → Option On
  | o, .tell => some o
  | o, .grab => some o
  | o, .note => some o
  | o, .quit => some o
  | .no, .ifi => some .yes
  | .no, .ifb => some .yes
  | .yes, .els => some .els
  | .yes, .fin => some .no
  | .els, .fin => some .no
  | _, _ => none
/-! ### Row -/
abbrev psRow : List Str := ["self", "word", "place", "number", "test"]
structure RowT (K : PySem.W.Frag) (mg : Str → Option Value) (C fI tt : Addr) : Prop where
  g : mg "Row" = some (.ref C)
  mak : Mk K C fI
  cl : Cls K C
  nw : NoAttr K C "word"
  np : NoAttr K C "place"
  nn : NoAttr K C "number"
  nt : NoAttr K C "test"
  fn : ∃ fd, FunD K "__init__" "Row.__init__" (defArgs s_Row_init) (defBody s_Row_init) (defScope s_Row_init) [.non, .ref tt] [] fI fd
def rowF (a b c d : V) : List (Str × V) := [("word", a), ("place", b), ("number", c), ("test", d)]
def spRow (C : Addr) : Sp := fun vs H Q _ => ∃ (p dx : Addr) (a b c d : V), vs = [.ref p, a, b, c, d] ∧ H p = some (.ins C dx []) ∧ Q .non (upd H p (.ins C dx (rowF a b c d)))
theorem ok_Row {C fI tt : Addr} (T : RowT K mg C fI tt) {fd : FuncData} (F : FunD K "__init__" "Row.__init__" (defArgs s_Row_init) (defBody s_Row_init) (defScope s_Row_init) [.non, .ref tt] [] fI fd) : FnOk P w K mg base CX0 1 fI fd psRow (spRow C) := by
  refine F.ok (CX := CX0) c_Row_init (fun vs H Q E h => ?_) (fun cdv A outer s H vs Q E hr h => ?_)
  · obtain ⟨p, dx, a, b, c, d, rfl, _⟩ := h
    rfl
  obtain ⟨p, dx, a, b, c, d, rfl, hp, q⟩ := h
  refine ⟨_, (pss_cons (ps_fld (pv 0) (pv 1) rfl) (pss_cons (ps_fld (pv 0) (pv 2) rfl) (pss_cons (ps_fld (pv 0) (pv 3) rfl) (pss_one (ps_fld (pv 0) (pv 4) rfl))))), ?_⟩
  refine ⟨_, rfl, _, rfl, p, C, dx, _, rfl, hp, T.cl, T.nw, (by show 0 < 1000; decide), ?_⟩
  refine ⟨_, rfl, _, rfl, p, C, dx, _, rfl, upd_same, T.cl, T.np, (by show 1 < 1000; decide), ?_⟩
  refine ⟨_, rfl, _, rfl, p, C, dx, _, rfl, upd_same, T.cl, T.nn, (by show 2 < 1000; decide), ?_⟩
  refine ⟨_, rfl, _, rfl, p, C, dx, _, rfl, upd_same, T.cl, T.nt, (by show 3 < 1000; decide), ?_⟩
  rw [upd_upd, upd_upd, upd_upd]
  exact q
theorem iteBT {b : Bool} {A B : Prop} (h : b = true) (x : A) : if b = true then A else B := by rw [if_pos h]; exact x
theorem iteBF {b : Bool} {A B : Prop} (h : b = false) (x : B) : if b = true then A else B := by rw [h]; exact iteF x
def RowAt (K : PySem.W.Frag) (C : Addr) (H : Hp) (r : Addr) (t : Tk) : Prop := ∃ (dx tt : Addr) (nu : V), H r = some (.ins C dx (rowF (.str t.word) (.str "top") nu (.ref tt))) ∧ (t = .ifi ∨ t = .ifb → Test K H tt)
theorem RowAt.keep {C r : Addr} {t : Tk} {H H' : Hp} (h : RowAt K C H r t) (e : Same H H') : RowAt K C H' r t := by
  obtain ⟨dx, tt, nu, h1, h2⟩ := h
  exact ⟨dx, tt, nu, e _ _ h1, fun z => (h2 z).keep e⟩
theorem row_kb {fI tt : Addr} {fd : FuncData} (F : FunD K "__init__" "Row.__init__" (defArgs s_Row_init) (defBody s_Row_init) (defScope s_Row_init) [.non, .ref tt] [] fI fd) :
    ∃ its : List Value, KBn K fd psRow 3 ["test"] (fun us ws => us ++ (its.take 1 ++ ws)) (fun vs zs => vs ++ (([.non, .ref tt] : List V).take 1 ++ zs)) :=
  FunD.kbindsD (ps := psRow) F 3 ["test"] (fun us its ws => us ++ (its.take 1 ++ ws)) (by simp) (fun r1 r2 r3 => by
    exact r1.append ((r2.take 1).append r3)) (fun T kV doc pm an cdv ct us its ws l1 l2 l3 => by
    match us, its, ws, l1, l2, l3 with
    | [a, b, c], [d, e], [f], _, _, _ => exact ⟨_, rfl, rfl⟩)
theorem row_b {fI tt : Addr} {fd : FuncData} (F : FunD K "__init__" "Row.__init__" (defArgs s_Row_init) (defBody s_Row_init) (defScope s_Row_init) [.non, .ref tt] [] fI fd) : ∃ ds, Vals [.non, .ref tt] ds ∧ Binds K fd psRow ds :=
  FunD.binds1 (ps := psRow) F 3 0 (by simp) rfl (fun T kV doc pm an cdv ct us its l1 l2 => by
    match us, its, l1, l2 with
    | [a, b, c], [d, e], _, _ => exact ⟨_, rfl, rfl⟩)
/-! ### row_with_test -/
def spRowTest (K : PySem.W.Frag) (C : Addr) : Sp := fun vs H Q _ => ∃ (x : Str) (y z : V), vs = [y, .str "top", .str x, z] ∧ x ∈ partTexts ∧ ∀ H' r dx tt, Same H H' → H r = none → H' r = some (.ins C dx (rowF y (.str "top") .non (.ref tt))) → Test K H' tt → Q (.ref r) H'
theorem ok_rowTest {f g C fI tt : Addr} (T : FT K mg "row_with_test" s_row_with_test ["word", "place", "text", "width"] f) {td : FuncData} (TF : Fun K "read_test" "read_test" s_read_test g td) (tb : Binds K td ["text", "place", "width"] []) (tg : mg "read_test" = some (.ref g)) (TG : FnOk P w K mg base CX0 3 g td ["text", "place", "width"] (spTest K)) (R : RowT K mg C fI tt) :
    ∃ fd, Fun K "row_with_test" "row_with_test" s_row_with_test f fd ∧ Binds K fd ["word", "place", "text", "width"] [] ∧ FnOk P w K mg base CX0 4 f fd ["word", "place", "text", "width"] (spRowTest K C) := by
  obtain ⟨fd, F, b⟩ := T.fn
  refine ⟨fd, F, b, F.ok c_row_with_test (fun vs H Q E h => ?_) (fun cdv A outer s H vs Q E hr h => ?_)⟩
  · obtain ⟨x, y, z, rfl, _⟩ := h
    rfl
  obtain ⟨x, y, z, rfl, hx, q⟩ := h
  obtain ⟨rd, RF⟩ := R.fn
  obtain ⟨its, kb⟩ := row_kb RF
  refine ⟨_, pss_cons (ps_set (i := 4) c_row_with_test.nd rfl (Or.inl rfl) (pe_call TG hr rfl tg TF.kp tb .nil pass0 (pa_cons (pv 2) (pa_cons (pv 1) (pa_cons (pv 3) pa_nil)))))
    (pss_one (ps_ret (pe_ifExp (pt_cmp (pc_isN (pv 4))) pe_non (pe_makeN (n := 2) R.mak (ok_Row R RF) (hr.mono (by decide)) rfl R.g kb pass0 (pa_cons (pv 0) (pa_cons (pv 1) pa_nil)) (pk_cons (pv 4) pk_nil))))), ?_⟩
  refine ⟨_, rfl, _, rfl, _, rfl, x, .str "top", z, rfl, hx, fun H1 t s1 ht => ?_⟩
  refine ⟨_, rfl, _, rfl, ?_⟩
  refine iteF ?_
  refine ⟨_, rfl, _, rfl, _, rfl, rfl, rfl, fun p dx np nd ne => ?_⟩
  refine ⟨p, dx, y, .str "top", .non, .ref t, rfl, upd_same, rfl, ?_⟩
  rw [upd_upd]
  have s2 := (s1.trans (new_same (o := .own p) nd))
  have np' : upd H1 dx (.own p) p = none := by rw [upd_ne ne.symm]; exact np
  have s3 := s2.trans (new_same (o := .ins C dx (rowF y (.str "top") .non (.ref t))) np')
  exact q _ p dx t s3 (free_same s1 np) upd_same (ht.keep ((new_same nd).trans (new_same np')))
/-! ### row_of_block_word -/
def spBlock (K : PySem.W.Frag) (C : Addr) : Sp := fun vs H Q _ => ∃ (op : Addr) (o : On) (t : Tk), vs = [.str t.word, .str "top", .ref op] ∧ SqL K H op o.vs ∧ ((t = .els ∧ o = .yes) ∨ (t = .fin ∧ o = .yes) ∨ (t = .fin ∧ o = .els)) ∧ ∀ H' r, Same H H' → H r = none → RowAt K C H' r t → Q (.ref r) H'
theorem ok_block {f C fI tt : Addr} (T : FT K mg "row_of_block_word" s_row_of_block_word ["word", "place", "opened"] f) (R : RowT K mg C fI tt) :
    ∃ fd, Fun K "row_of_block_word" "row_of_block_word" s_row_of_block_word f fd ∧ Binds K fd ["word", "place", "opened"] [] ∧ FnOk P w K mg base CX0 3 f fd ["word", "place", "opened"] (spBlock K C) := by
  obtain ⟨fd, F, b⟩ := T.fn
  refine ⟨fd, F, b, F.ok c_row_of_block_word (fun vs H Q E h => ?_) (fun cdv A outer s H vs Q E hr h => ?_)⟩
  · obtain ⟨op, o, t, rfl, _⟩ := h
    rfl
  obtain ⟨op, o, t, rfl, ho, hot, q⟩ := h
  obtain ⟨rd, RF⟩ := R.fn
  obtain ⟨ds, rds, rb⟩ := row_b RF
  refine ⟨_, pss_cons (ps_set (i := 3) c_row_of_block_word.nd rfl (Or.inl rfl) (pe_ifExp (pt_cmpR op_eq (pv 0) pe_str (nomark _)) (pe_tup (pa_cons pe_str pa_nil)) (pe_tup (pa_cons pe_str (pa_cons pe_str (pa_cons pe_str (pa_cons pe_str pa_nil)))))))
    (pss_one (ps_ret (pe_ifExp (PW.pt (pw_and (pt_truth (pv 2) (by intro _; rfl)) (pw_and1 (pt_cmpR op_in_seq (pe_ix ix_list (pv 2) (pe_un un_neg pe_int) (fun _ _ => rfl)) (pv 3) rfl)))) (pe_make R.mak (ok_Row R RF) (hr.mono (by decide)) rfl R.g rb rds pass0 (pa_cons (pv 0) (pa_cons (pv 1) pa_nil))) pe_non))), ?_⟩
  have fin : ∀ (G : Hp) (p dx : Addr), Same H G → G p = none → G dx = none → dx ≠ p → spRow C (.ref p :: ([.str t.word, .str "top"] ++ [.non, .ref tt])) (upd (upd G dx (.own p)) p (.ins C dx [])) (fun v H2 => v = .non ∧ Q (.ref p) H2) E := by
    intro G p dx s1 np nd ne
    refine ⟨p, dx, .str t.word, .str "top", .non, .ref tt, rfl, upd_same, rfl, ?_⟩
    rw [upd_upd]
    have np' : upd G dx (.own p) p = none := by rw [upd_ne ne.symm]; exact np
    refine q _ p ((s1.trans (new_same nd)).trans (new_same np')) (free_same s1 np) ⟨dx, tt, .non, upd_same, fun z => ?_⟩
    rcases hot with ⟨rfl, _⟩ | ⟨rfl, _⟩ | ⟨rfl, _⟩ <;> rcases z with z | z <;> cases z
  rcases hot with ⟨rfl, rfl⟩ | ⟨rfl, rfl⟩ | ⟨rfl, rfl⟩
  · refine ⟨_, rfl, rfl, _, rfl, iteBT (by decide +kernel) ⟨(by show 1 ≤ sizeLine; decide), fun u nu => ?_⟩⟩
    have ho' := sqt_list_same ho (new_same (o := .tup [.str "if"]) nu)
    refine ⟨_, rfl, true, .inl ⟨_, ho', rfl⟩, iteT ?_⟩
    refine ⟨_, rfl, _, rfl, op, _, _, _, rfl, rfl, ho', rfl, _, rfl, u, _, rfl, .inr (SqT.of upd_same), rfl, rfl, _, rfl, iteBT (by decide +kernel) ?_⟩
    exact ⟨_, rfl, _, rfl, fun p dx np nd ne => fin _ p dx (new_same nu) np nd ne⟩
  · refine ⟨_, rfl, rfl, _, rfl, iteBF (by decide +kernel) ⟨(by show 4 ≤ sizeLine; decide), fun u nu => ?_⟩⟩
    have ho' := sqt_list_same ho (new_same (o := .tup [.str "if", .str "else", .str "down", .str "up"]) nu)
    refine ⟨_, rfl, true, .inl ⟨_, ho', rfl⟩, iteT ?_⟩
    refine ⟨_, rfl, _, rfl, op, _, _, _, rfl, rfl, ho', rfl, _, rfl, u, _, rfl, .inr (SqT.of upd_same), rfl, rfl, _, rfl, iteBT (by decide +kernel) ?_⟩
    exact ⟨_, rfl, _, rfl, fun p dx np nd ne => fin _ p dx (new_same nu) np nd ne⟩
  · refine ⟨_, rfl, rfl, _, rfl, iteBF (by decide +kernel) ⟨(by show 4 ≤ sizeLine; decide), fun u nu => ?_⟩⟩
    have ho' := sqt_list_same ho (new_same (o := .tup [.str "if", .str "else", .str "down", .str "up"]) nu)
    refine ⟨_, rfl, true, .inl ⟨_, ho', rfl⟩, iteT ?_⟩
    refine ⟨_, rfl, _, rfl, op, _, _, _, rfl, rfl, ho', rfl, _, rfl, u, _, rfl, .inr (SqT.of upd_same), rfl, rfl, _, rfl, iteBT (by decide +kernel) ?_⟩
    exact ⟨_, rfl, _, rfl, fun p dx np nd ne => fin _ p dx (new_same nu) np nd ne⟩
end
end H1
namespace H1
open PySem PySem.Spec PyProof.Rows L2 Hx Nd Dun
section
variable {P : Program} {w : World} {K : PySem.W.Frag} {mg : Str → Option Value} {base : Heap} {D : Addr}
/-! ### read_row -/
theorem pt_no {X : Cx} {e : Expr} : PT X e (fun _ _ _ => False) := ⟨fun _ _ _ _ _ _ h => h.elim⟩
theorem op_in_seqk {X : Cx} {K' : PySem.W.Frag} (hk : X.K = K') : OpR X (compareOp .In) (rIn K' false) := by subst hk; exact op_in_seq
def loopsV : List V := [.str "down", .str "up"]
def topV : List V := [.str "tell", .str "grab", .str "grab last", .str "grab given", .str "lay", .str "longer", .str "shorter", .str "trade", .str "to start", .str "note", .str "quit"]
abbrev psRT : List Str := ["word", "place", "text", "width"]
abbrev psBW : List Str := ["word", "place", "opened"]
abbrev psRR : List Str := ["line", "opened", "width"]
def spReadRow (K : PySem.W.Frag) (C : Addr) : Sp := fun vs H Q _ => ∃ (x : Str) (op : Addr) (z : V) (o : On), vs = [.str x, .ref op, z] ∧ SqL K H op o.vs ∧ ((∃ (t : Tk) (o' : On), stp o t = some o' ∧ x = t.line ∧ ∀ H' r, Same H H' → H r = none → RowAt K C H' r t → Q (.ref r) H') ∨
  (x = "Tell" ∧ ∀ H', Same H H' → Q .non H'))
theorem ok_read_row {f g1 g2 C fI tt aL aT : Addr} (T : FT K mg "read_row" s_read_row psRR f) {d1 d2 : FuncData}
    (F1 : Fun K "row_with_test" "row_with_test" s_row_with_test g1 d1) (b1 : Binds K d1 psRT []) (m1 : mg "row_with_test" = some (.ref g1)) (G1 : FnOk P w K mg base CX0 4 g1 d1 psRT (spRowTest K C))
    (F2 : Fun K "row_of_block_word" "row_of_block_word" s_row_of_block_word g2 d2) (b2 : Binds K d2 psBW []) (m2 : mg "row_of_block_word" = some (.ref g2)) (G2 : FnOk P w K mg base CX0 3 g2 d2 psBW (spBlock K C))
    (R : RowT K mg C fI tt) (cL : TupT K mg "LOOPS" aL loopsV) (cT : TupT K mg "TOP_WORDS" aT topV) :
    ∃ fd, Fun K "read_row" "read_row" s_read_row f fd ∧ Binds K fd psRR [] ∧ FnOk P w K mg base CX0 5 f fd psRR (spReadRow K C) := by
  obtain ⟨fd, F, b⟩ := T.fn
  refine ⟨fd, F, b, F.ok c_read_row (fun vs H Q E h => ?_) (fun cdv A outer s H vs Q E hr h => ?_)⟩
  · obtain ⟨x, op, z, o, rfl, _⟩ := h
    rfl
  obtain ⟨x, op, z, o, rfl, ho, q⟩ := h
  obtain ⟨rd, RF⟩ := R.fn
  obtain ⟨ds, rds, rb⟩ := row_b RF
  refine ⟨_, pss_cons (ps_setLc (i := 3) (own := [("block", 4)]) (g := gName 4) rfl c_read_row.nd rfl rfl (sw_true rfl rfl rfl (by decide +kernel)) (pi_list (pv 1)) (blkOk_by (own := [("block", 4)]) (N := n_read_row) (sc := defScope s_read_row) (by decide +kernel))
      (fun _ _ _ _ _ => pg_name (i := 4) c_read_row.nd rfl (Or.inl rfl)) (fun _ _ _ _ _ => pts_one (pt_cmpR (op_in_seqk (K' := K) rfl) (pv 4) (pe_glob (v := .ref aL) rfl cL.g rfl) rfl)) (fun _ _ _ _ _ => pv 4))
    (pss_cons (ps_set (i := 5) c_read_row.nd rfl (Or.inl rfl) (pe_ifExp (pt_truth (pv 3) (by intro _; rfl)) pe_no pe_str))
    (pss_cons (ps_if (pt_cmpR op_in_seq (pv 0) (pe_tup (pa_cons pe_str (pa_cons pe_str pa_nil))) rfl) (pss_one (ps_ret (pe_call G2 (hr.mono (by decide)) rfl m2 F2.kp b2 .nil pass0 (pa_cons (pv 0) (pa_cons (pv 5) (pa_cons (pv 1) pa_nil)))))) pss_nil)
    (pss_cons (ps_if (pt_cmpR op_in_seq (pv 0) (pe_ifExp (pt_truth (pv 3) (by intro _; rfl)) pe_no (pe_glob (v := .ref aT) rfl cT.g rfl)) rfl) (pss_one (ps_ret (pe_make R.mak (ok_Row R RF) (hr.mono (by decide)) rfl R.g rb rds pass0 (pa_cons (pv 0) (pa_cons (pv 5) pa_nil))))) pss_nil)
    (pss_cons (ps_asg (pe_partition (pv 0) pe_str) (pg_tup rfl (pgs_cons (pg_name (i := 6) c_read_row.nd rfl (Or.inl rfl)) (pgs_cons (pg_name (i := 7) c_read_row.nd rfl (Or.inl rfl)) (pgs_cons (pg_name (i := 8) c_read_row.nd rfl (Or.inl rfl)) pgs_nil)))))
    (pss_cons (ps_if (pt_cmpR op_eq (pv 6) pe_str (nomark _)) (pss_one (ps_ret (pe_call G1 hr rfl m1 F1.kp b1 .nil pass0 (pa_cons (pv 6) (pa_cons (pv 5) (pa_cons (pv 8) (pa_cons (pv 2) pa_nil))))))) pss_nil)
    (pss_cons (ps_if (PW.pt (pw_and (pt_cmpR op_in_seq (pv 6) (pe_glob (v := .ref aL) rfl cL.g rfl) rfl) (pw_and1 pt_no))) (pss_one ps_never) pss_nil)
    (pss_one (ps_ret (pe_ifExp (pt_cmpR op_eq (pv 6) pe_str (nomark _)) pe_no pe_non))))))))), ?_⟩
  refine ⟨_, rfl, op, rfl, ⟨_, ho⟩, fun L nL => lc_list (K := K) (a := op) (xs := o.vs) (fun i G => G = upd H L (.lst [])) rfl ?_ ?_ ?_⟩
  · rintro i G _ rfl
    exact sqt_list_same ho (new_same nL)
  · rintro i v G hi rfl
    have hv : flatV v = true ∧ inV v loopsV = false := by
      cases o with
      | no => cases hi
      | yes =>
        match i, hi with
        | 0, hi => cases hi; exact ⟨rfl, by decide +kernel⟩
        | i + 1, hi => cases hi
      | els =>
        match i, hi with
        | 0, hi => cases hi; exact ⟨rfl, by decide +kernel⟩
        | i + 1, hi => cases hi
    refine ⟨rfl, ?_⟩
    exact ⟨_, rfl, _, _, rfl, .inr (cL.s _), hv.1, rfl, _, rfl, iteBF hv.2 rfl⟩
  rintro G rfl
  have sL : Same H (upd H L (.lst [])) := new_same nL
  refine ⟨_, rfl, false, .inl ⟨_, SqL.of upd_same, rfl⟩, iteF ?_⟩
  refine ⟨_, rfl, (by show 2 ≤ sizeLine; decide), fun u nu => ⟨u, _, rfl, .inr (SqT.of upd_same), rfl, rfl, _, rfl, ?_⟩⟩
  obtain ⟨G, hG⟩ : ∃ G, G = upd (upd H L (.lst [])) u (.tup [.str "else", .str "end"]) := ⟨_, rfl⟩
  have sG : Same H G := by rw [hG]; exact same_new sL nu
  have eL : G L = some (.lst []) := by rw [hG]; exact (new_same nu) _ _ upd_same
  rw [← hG]
  clear hG
  obtain ⟨qq, hqq⟩ : ∃ qq : Tk → Prop, qq = fun t => ∀ H' r, Same H H' → H r = none → RowAt K C H' r t → Q (.ref r) H' := ⟨_, rfl⟩
  have cls : (∃ t : Tk, x = t.word ∧ inV (.str x) [.str "else", .str "end"] = false ∧ inV (.str x) topV = true ∧ t ≠ .ifi ∧ t ≠ .ifb ∧ qq t) ∨
      (∃ t : Tk, x = t.word ∧ inV (.str x) [.str "else", .str "end"] = true ∧ ((t = .els ∧ o = .yes) ∨ (t = .fin ∧ o = .yes) ∨ (t = .fin ∧ o = .els)) ∧ qq t) ∨
      (∃ (t : Tk) (y : Str), t.word = "if" ∧ y ∈ partTexts ∧ inV (.str x) [.str "else", .str "end"] = false ∧ inV (.str x) topV = false ∧ Txt.partition x " " = (("if" : Str), (" " : Str), y) ∧ x.length ≤ sizeLine ∧ qq t) ∨
      (x = "Tell" ∧ ∀ H', Same H H' → Q .non H') := by
    rcases q with ⟨t, o', hst, rfl, q⟩ | ⟨rfl, q⟩
    · have q' : qq t := by rw [hqq]; exact q
      cases t with
      | tell => exact .inl ⟨_, rfl, by decide +kernel, by decide +kernel, by intro z; (cases z), by intro z; (cases z), q'⟩
      | grab => exact .inl ⟨_, rfl, by decide +kernel, by decide +kernel, by intro z; (cases z), by intro z; (cases z), q'⟩
      | note => exact .inl ⟨_, rfl, by decide +kernel, by decide +kernel, by intro z; (cases z), by intro z; (cases z), q'⟩
      | quit => exact .inl ⟨_, rfl, by decide +kernel, by decide +kernel, by intro z; (cases z), by intro z; (cases z), q'⟩
      | els =>
        cases o with
        | yes => exact .inr (.inl ⟨_, rfl, by decide +kernel, .inl ⟨rfl, rfl⟩, q'⟩)
        | _ => cases hst
      | fin =>
        cases o with
        | yes => exact .inr (.inl ⟨_, rfl, by decide +kernel, .inr (.inl ⟨rfl, rfl⟩), q'⟩)
        | els => exact .inr (.inl ⟨_, rfl, by decide +kernel, .inr (.inr ⟨rfl, rfl⟩), q'⟩)
        | _ => cases hst
      | ifi => exact .inr (.inr (.inl ⟨_, "inside", rfl, by decide +kernel, by decide +kernel, by decide +kernel, by decide +kernel, by decide +kernel, q'⟩))
      | ifb => exact .inr (.inr (.inl ⟨_, "below root", rfl, by decide +kernel, by decide +kernel, by decide +kernel, by decide +kernel, by decide +kernel, q'⟩))
    · exact .inr (.inr (.inr ⟨rfl, q⟩))
  clear q
  subst hqq
  rcases cls with ⟨t, rfl, h1, h2, n1, n2, q⟩ | ⟨t, rfl, h1, hot, q⟩ | ⟨t, y, hw, hy, h1, h2, hp, hl, q⟩ | ⟨rfl, q⟩
  · refine iteBF h1 ?_
    refine ⟨_, rfl, _, rfl, false, .inl ⟨_, SqL.of eL, rfl⟩, iteF ?_⟩
    refine ⟨aT, topV, rfl, .inr (cT.s _), rfl, rfl, _, rfl, iteBT h2 ?_⟩
    refine ⟨_, rfl, _, rfl, fun p dx np nd ne => ⟨p, dx, _, .str "top", .non, .ref tt, rfl, upd_same, rfl, ?_⟩⟩
    rw [upd_upd]
    have np' : upd G dx (.own p) p = none := by rw [upd_ne ne.symm]; exact np
    refine q _ p ((sG.trans (new_same nd)).trans (new_same np')) (free_same sG np) ⟨dx, tt, .non, upd_same, fun z => ?_⟩
    rcases z with z | z
    · exact absurd z n1
    · exact absurd z n2
  · refine iteBT h1 ?_
    refine ⟨_, rfl, _, rfl, _, rfl, op, o, t, rfl, sqt_list_same ho sG, hot, fun H' r s1 nr hrow => ?_⟩
    exact q H' r (sG.trans s1) (free_same sG nr) hrow
  · refine iteBF h1 ?_
    refine ⟨_, rfl, _, rfl, false, .inl ⟨_, SqL.of eL, rfl⟩, iteF ?_⟩
    refine ⟨aT, topV, rfl, .inr (cT.s _), rfl, rfl, _, rfl, iteBF h2 ?_⟩
    refine ⟨_, rfl, ⟨_, rfl⟩, x, _, rfl, rfl, by decide +kernel, hl, fun T nT => ?_⟩
    rw [hp]
    refine ⟨T, _, rfl, SqT.of upd_same, rfl, _, _, rfl, _, _, rfl, _, _, rfl, rfl, ?_⟩
    refine ⟨_, rfl, rfl, _, rfl, iteBT (by show decide (V.str ("if" : Str) = V.str ("if" : Str)) = true; decide +kernel) ?_⟩
    refine ⟨_, rfl, _, rfl, _, rfl, _, rfl, y, .str "if", z, rfl, hy, fun H' r dx tt s1 nr er ht => ?_⟩
    exact q H' r ((same_new sG nT).trans s1) (free_same (same_new sG nT) nr) ⟨dx, tt, .non, (by rw [hw]; exact er), fun _ => ht⟩
  · refine iteBF (by decide +kernel) ?_
    refine ⟨_, rfl, _, rfl, false, .inl ⟨_, SqL.of eL, rfl⟩, iteF ?_⟩
    refine ⟨aT, topV, rfl, .inr (cT.s _), rfl, rfl, _, rfl, iteBF (by decide +kernel) ?_⟩
    refine ⟨_, rfl, ⟨_, rfl⟩, "Tell", _, rfl, rfl, by decide +kernel, by decide +kernel, fun T nT => ?_⟩
    have hp : Txt.partition "Tell" " " = (("Tell" : Str), ("" : Str), ("" : Str)) := by decide +kernel
    rw [hp]
    refine ⟨T, _, rfl, SqT.of upd_same, rfl, _, _, rfl, _, _, rfl, _, _, rfl, rfl, ?_⟩
    refine ⟨_, rfl, rfl, _, rfl, iteBF (by decide +kernel) ?_⟩
    refine ⟨_, rfl, _, _, rfl, .inr (cL.s _), rfl, rfl, _, rfl, iteBF (by decide +kernel) ?_⟩
    refine iteF ?_
    refine ⟨_, rfl, rfl, _, rfl, iteBF (by decide +kernel) ?_⟩
    exact q _ (same_new sG nT)
/-! ### blocks_behind -/
def spBlocks : Sp := fun vs H Q _ => ∃ (op : Addr) (o o' : On) (t : Tk), vs = [.str t.word, .ref op] ∧ H op = some (.lst o.vs) ∧ stp o t = some o' ∧ ∀ H' p, Same H H' → (p = op ∨ H p = none) → H' p = some (.lst o'.vs) → Q (.ref p) H'
theorem ok_blocks {f aL : Addr} (T : FT K mg "blocks_behind" s_blocks_behind ["word", "opened"] f) (cL : TupT K mg "LOOPS" aL loopsV) : ∃ fd, Fun K "blocks_behind" "blocks_behind" s_blocks_behind f fd ∧ Binds K fd ["word", "opened"] [] ∧ FnOk P w K mg base CX0 1 f fd ["word", "opened"] spBlocks := by
  obtain ⟨fd, F, b⟩ := T.fn
  refine ⟨fd, F, b, F.ok c_blocks_behind (fun vs H Q E h => ?_) (fun cdv A outer s H vs Q E hr h => ?_)⟩
  · obtain ⟨op, o, o', t, rfl, _⟩ := h
    rfl
  obtain ⟨op, o, o', t, rfl, ho, hst, q⟩ := h
  refine ⟨_, pss_cons (ps_if (PW.pt (pw_or (pt_cmpR op_eq (pv 0) pe_str (nomark _)) (pw_or1 (pt_cmpR op_in_seq (pv 0) (pe_glob (v := .ref aL) rfl cL.g rfl) rfl)))) (pss_one (ps_ret (pe_op op_cat (pv 1) (pe_lst (pa_cons (pv 0) pa_nil))))) pss_nil)
    (pss_cons (ps_if (pt_cmpR op_eq (pv 0) pe_str (nomark _)) (pss_one (ps_ret (pe_op op_cat (pe_slice sl_list (pv 1) po_none (po_some (pe_un un_neg pe_int))) (pe_lst (pa_cons (pv 0) pa_nil))))) pss_nil)
    (pss_one (ps_ret (pe_ifExp (pt_cmpR op_eq (pv 0) pe_str (nomark _)) (pe_slice sl_list (pv 1) po_none (po_some (pe_un un_neg pe_int))) (pv 1))))), ?_⟩
  refine ⟨_, rfl, rfl, _, rfl, ?_⟩
  have cls : (t.word = "if" ∧ o = .no ∧ o' = .yes) ∨ (t.word = "else" ∧ o = .yes ∧ o' = .els) ∨ (t.word = "end" ∧ (o = .yes ∨ o = .els) ∧ o' = .no) ∨ (decide (V.str t.word = V.str "if") = false ∧ inV (V.str t.word) loopsV = false ∧ decide (V.str t.word = V.str "else") = false ∧ decide (V.str t.word = V.str "end") = false ∧ o' = o) := by
    cases t with
    | tell => cases hst; exact .inr (.inr (.inr ⟨by decide +kernel, by decide +kernel, by decide +kernel, by decide +kernel, rfl⟩))
    | grab => cases hst; exact .inr (.inr (.inr ⟨by decide +kernel, by decide +kernel, by decide +kernel, by decide +kernel, rfl⟩))
    | note => cases hst; exact .inr (.inr (.inr ⟨by decide +kernel, by decide +kernel, by decide +kernel, by decide +kernel, rfl⟩))
    | quit => cases hst; exact .inr (.inr (.inr ⟨by decide +kernel, by decide +kernel, by decide +kernel, by decide +kernel, rfl⟩))
    | ifi => cases o <;> cases hst; exact .inl ⟨rfl, rfl, rfl⟩
    | ifb => cases o <;> cases hst; exact .inl ⟨rfl, rfl, rfl⟩
    | els => cases o <;> cases hst; exact .inr (.inl ⟨rfl, rfl, rfl⟩)
    | fin =>
      cases o with
      | no => cases hst
      | yes => cases hst; exact .inr (.inr (.inl ⟨rfl, .inl rfl, rfl⟩))
      | els => cases hst; exact .inr (.inr (.inl ⟨rfl, .inr rfl, rfl⟩))
  rcases cls with ⟨hw, rfl, rfl⟩ | ⟨hw, rfl, rfl⟩ | ⟨hw, hoo, rfl⟩ | ⟨h1, h2, h3, h4, rfl⟩
  · rw [hw]
    refine iteBT (by decide +kernel) (iteT ?_)
    refine ⟨_, rfl, _, rfl, (by show 1 ≤ sizeLine; decide), fun l nl => ?_⟩
    refine ⟨op, l, _, _, rfl, rfl, (new_same nl) _ _ ho, upd_same, (by show 0 + 1 ≤ sizeLine; decide), fun p np => ?_⟩
    exact q _ p ((new_same nl).trans (new_same np)) (.inr (free_upd np).1) upd_same
  · rw [hw]
    refine iteBF (by decide +kernel) ?_
    refine ⟨_, rfl, _, _, rfl, .inr (cL.s _), rfl, rfl, _, rfl, iteBF (by decide +kernel) ?_⟩
    refine ⟨_, rfl, rfl, _, rfl, iteBT (by decide +kernel) ?_⟩
    refine ⟨_, rfl, _, rfl, _, rfl, op, _, rfl, SqL.of ho, fun c nc => ?_⟩
    refine ⟨_, rfl, (by show 1 ≤ sizeLine; decide), fun l nl => ?_⟩
    refine ⟨c, l, _, _, rfl, rfl, (new_same nl) _ _ upd_same, upd_same, (by show 0 + 1 ≤ sizeLine; decide), fun p np => ?_⟩
    exact q _ p (((new_same nc).trans (new_same nl)).trans (new_same np)) (.inr (free_upd (free_upd np).1).1) upd_same
  · rw [hw]
    refine iteBF (by decide +kernel) ?_
    refine ⟨_, rfl, _, _, rfl, .inr (cL.s _), rfl, rfl, _, rfl, iteBF (by decide +kernel) ?_⟩
    refine ⟨_, rfl, rfl, _, rfl, iteBF (by decide +kernel) ?_⟩
    refine ⟨_, rfl, rfl, _, rfl, iteBT (by decide +kernel) ?_⟩
    refine ⟨_, rfl, _, rfl, _, rfl, op, _, rfl, SqL.of ho, fun c nc => ?_⟩
    rcases hoo with rfl | rfl
    · exact q _ c (new_same nc) (.inr nc) upd_same
    · exact q _ c (new_same nc) (.inr nc) upd_same
  · refine iteBF h1 ?_
    refine ⟨_, rfl, _, _, rfl, .inr (cL.s _), rfl, rfl, _, rfl, iteBF h2 ?_⟩
    refine ⟨_, rfl, rfl, _, rfl, iteBF h3 ?_⟩
    refine ⟨_, rfl, rfl, _, rfl, iteBF h4 ?_⟩
    exact ⟨_, rfl, q H op (fun _ _ z => z) (.inl rfl) ho⟩
end
end H1
namespace H1
open PySem PySem.Spec PyProof.Rows L2 Hx Nd Dun
section
variable {P : Program} {w : World} {K : PySem.W.Frag} {mg : Str → Option Value} {base : Heap} {D : Addr}
/-! ### read_rows -/
def run : On → List Tk → Option On
  | o, [] => some o
  | o, t :: r => (stp o t).bind fun o' => run o' r
def RowsAt (K : PySem.W.Frag) (C : Addr) (H : Hp) (rs : List Addr) (ts : List Tk) : Prop := ∀ (i : Nat) (r : Addr) (t : Tk), rs[i]? = some r → ts[i]? = some t → RowAt K C H r t
theorem RowAt.lst {C r a : Addr} {t : Tk} {H : Hp} {ys : List V} {o : HO} (h : RowAt K C H r t) (e : H a = some (.lst ys)) : RowAt K C (upd H a o) r t := by
  obtain ⟨dx, tt, nu, h1, h2⟩ := h
  refine ⟨dx, tt, nu, ?_, fun z => ?_⟩
  · have n : r ≠ a := ne_of h1 e (by intro z; cases z)
    rw [upd_ne n]
    exact h1
  · obtain ⟨p, t1, x, hx, t2⟩ := h2 z
    exact ⟨p, sqt_tups (tups_lst e) t1, x, hx, sqt_tups (tups_lst e) t2⟩
theorem RowsAt.keep {C : Addr} {rs : List Addr} {ts : List Tk} {H H' : Hp} (h : RowsAt K C H rs ts) (e : Same H H') : RowsAt K C H' rs ts := fun i r t a b => (h i r t a b).keep e
structure ErrT (K : PySem.W.Frag) (mg : Str → Option Value) (D : Addr) (C I : Nat → Addr) : Prop where
  base : BaseT K mg D
  t0 : ClT K mg "BadKind" "BadKind.__init__" iBadKind ["self", "kind"] ["kind"] (C 0) (I 0)
  t1 : ClT K mg "BadWidth" "BadWidth.__init__" iBadWidth ["self", "width"] ["width"] (C 1) (I 1)
  t2 : ClT K mg "BadLine" "BadLine.__init__" iBadLine ["self", "line"] ["line"] (C 2) (I 2)
  t3 : ClT K mg "Refused" "Refused.__init__" iRefused ["self", "line"] ["line"] (C 3) (I 3)
  t4 : ClT K mg "TooMany" "TooMany.__init__" iTooMany ["self", "what", "many", "most"] ["what", "many", "most"] (C 4) (I 4)
abbrev psLW : List Str := ["lines", "width"]
def spRows (K : PySem.W.Frag) (C CB : Addr) : Sp := fun vs H Q E => ∃ (l : Addr) (z : V) (xs : List Str), vs = [.ref l, z] ∧ SqL K H l (xs.map V.str) ∧ xs.length ≤ 1000 ∧
  ((∃ ts : List Tk, xs = ts.map Tk.line ∧ run .no ts = some .no ∧ ∀ H' r rs, Same H H' → H' r = some (.lst (rs.map V.ref)) → rs.length = ts.length → RowsAt K C H' rs ts → Q (.ref r) H') ∨
  (∃ ys : List Str, xs = ("Tell" : Str) :: ys ∧ ∀ H', Same H H' → err1 CB "line" (.int 1) H' E))
theorem ok_read_rows {f g1 g2 C fI tt DB : Addr} {EC EI : Nat → Addr} (T : FT K mg "read_rows" s_read_rows psLW f) {d1 d2 : FuncData} (ET : ErrT K mg DB EC EI) (R : RowT K mg C fI tt) (enu : mg "enumerate" = none)
    (F1 : Fun K "read_row" "read_row" s_read_row g1 d1) (b1 : Binds K d1 psRR []) (m1 : mg "read_row" = some (.ref g1)) (G1 : FnOk P w K mg base CX0 5 g1 d1 psRR (spReadRow K C))
    (F2 : Fun K "blocks_behind" "blocks_behind" s_blocks_behind g2 d2) (b2 : Binds K d2 ["word", "opened"] []) (m2 : mg "blocks_behind" = some (.ref g2)) (G2 : FnOk P w K mg base CX0 1 g2 d2 ["word", "opened"] spBlocks) :
    ∃ fd, Fun K "read_rows" "read_rows" s_read_rows f fd ∧ Binds K fd psLW [] ∧ FnOk P w K mg base (L2.CX P w) 6 f fd psLW (spRows K C (EC 2)) := by
  obtain ⟨fd, F, b⟩ := T.fn
  refine ⟨fd, F, b, F.okX c_read_rows (fun vs H Q E h => ?_) (fun cdv A outer s H vs Q E hr h => ?_)⟩
  · obtain ⟨l, z, xs, rfl, _⟩ := h
    rfl
  obtain ⟨l, z, xs, rfl, hl, hn, q⟩ := h
  have tk : Takes (cxOf (L2.CX P w) P w K mg base n_read_rows "read_rows" (defScope s_read_rows) f cdv A outer s H E) (fun cls d _ G => E cls d G) := takes_of rfl rfl rfl rfl
  refine ⟨_, pss_cons (ps_set (i := 2) c_read_rows.nd rfl (Or.inl rfl) (pe_lst pa_nil)) (pss_cons (ps_set (i := 3) c_read_rows.nd rfl (Or.inl rfl) (pe_lst pa_nil))
    (pss_cons (ps_for (passes_of rfl) rfl (Nd.pi_from enu (by decide) (by decide) (pa_cons (pv 0) pa_nil)) (pg_tup rfl (pgs_cons (pg_name (i := 4) c_read_rows.nd rfl (Or.inl rfl)) (pgs_cons (pg_name (i := 5) c_read_rows.nd rfl (Or.inl rfl)) pgs_nil)))
      (pss_cons (ps_set (i := 6) c_read_rows.nd rfl (Or.inl rfl) (pe_call G1 hr rfl m1 F1.kp b1 .nil pass0 (pa_cons (pv 5) (pa_cons (pv 3) (pa_cons (pv 1) pa_nil)))))
      (pss_cons (ps_if (pt_cmp (pc_isN (pv 6))) (pss_one (ps_rz rfl tk ET.t2 (fun fd F => okBadLine F ET.base) (hr.mono (by decide)) (pa_cons (pv 4) pa_nil))) pss_nil)
      (pss_cons (ps_expr (pe_bm PySem.F.plainAttrs_list PySem.F.slot_list_append PySem.F.type_list_append mt_append (pv 2) (pa_cons (pv 6) pa_nil)))
      (pss_one (ps_set (i := 3) c_read_rows.nd rfl (Or.inl rfl) (pe_call G2 (hr.mono (by decide)) rfl m2 F2.kp b2 .nil pass0 (pa_cons (pe_fld (pv 6) rfl) (pa_cons (pv 3) pa_nil)))))))))
    (pss_cons (ps_if (pt_truth (pv 3) (by intro _; rfl)) (pss_one ps_never) pss_nil)
    (pss_one (ps_ret (pv 2)))))), ?_⟩
  refine ⟨Nat.zero_le _, fun lr nr => ⟨Nat.zero_le _, fun lo no => ?_⟩⟩
  obtain ⟨no1, nlr⟩ := free_upd no
  refine ⟨_, rfl, l, _, rfl, sqt_list_same hl (same_new (new_same nr) no), ?_⟩
  rcases q with ⟨ts, rfl, hrun, q⟩ | ⟨ys, rfl, q⟩
  · have hts : ts.length ≤ 1000 := by rw [List.length_map] at hn; exact hn
    refine for_from (K := K) (a := l) (xs := (ts.map Tk.line).map V.str) (fun i σ G => ∃ (lo : Addr) (o : On) (rs : List Addr) (v4 v5 v6 : Option V), σ = [some (.ref l), some z, some (.ref lr), some (.ref lo), v4, v5, v6] ∧ Same H G ∧ G lr = some (.lst (rs.map V.ref)) ∧ G lo = some (.lst o.vs) ∧ lo ≠ lr ∧ rs.length = i ∧ RowsAt K C G rs ts ∧ run o (ts.drop i) = some .no)
      ⟨lo, .no, [], none, none, none, rfl, same_new (new_same nr) no, (new_same no) _ _ upd_same, upd_same, nlr, rfl, (fun i r t h => by cases h), hrun⟩ ?_ ?_ ?_
    · rintro i σ G _ ⟨lo, o, rs, v4, v5, v6, rfl, sG, _⟩
      exact sqt_list_same hl sG
    · rintro i x σ G Tp hi ⟨lo, o, rs, v4, v5, v6, rfl, sG, elr, elo, nlo, hrs, hrow, hrun⟩ nT
      rw [List.getElem?_map, List.getElem?_map] at hi
      cases hti : ts[i]? with
      | none => rw [hti] at hi; cases hi
      | some t =>
        rw [hti] at hi
        cases hi
        have hd : ts.drop i = t :: ts.drop (i + 1) := by
          obtain ⟨hlt, he⟩ := List.getElem?_eq_some_iff.mp hti
          rw [List.drop_eq_getElem_cons hlt, he]
        rw [hd] at hrun
        obtain ⟨o', hst, hrun'⟩ := Option.bind_eq_some_iff.mp hrun
        have sT := new_same (o := .tup [.int (1 + (i : Int)), .str t.line]) nT
        refine ⟨Tp, _, rfl, SqT.of upd_same, rfl, _, _, rfl, _, _, rfl, rfl, ?_⟩
        refine ⟨_, rfl, _, rfl, _, rfl, t.line, lo, z, o, rfl, SqL.of (sT _ _ elo), .inl ⟨t, o', hst, rfl, fun G2 r s2 nr2 hr2 => ?_⟩⟩
        have sG2 := sT.trans s2
        refine ⟨_, rfl, _, rfl, iteF ?_⟩
        refine ⟨_, rfl, .inl ⟨rfl, _, SqL.of (sG2 _ _ elr)⟩, _, rfl, lr, _, _, rfl, rfl, sG2 _ _ elr, (by rw [List.length_map, hrs]; exact Nat.lt_of_lt_of_le (Nat.lt_of_lt_of_le (List.getElem?_eq_some_iff.mp hti).1 hts) (by decide)), ?_⟩
        have elr2 := sG2 _ _ elr
        obtain ⟨dx, tt', nu, er, ht⟩ := hr2.lst (o := .lst (rs.map V.ref ++ [.ref r])) elr2
        refine ⟨_, rfl, r, C, dx, _, _, rfl, er, R.cl, R.nw, rfl, _, rfl, lo, o, o', t, rfl, (by rw [upd_ne nlo]; exact sG2 _ _ elo), hst, fun G3 lo' s3 hlo' elo' => ?_⟩
        have h3 : RowsAt K C G3 (rs ++ [r]) ts := fun j a u ha hu => by
          rcases Nat.lt_or_ge j rs.length with lt | ge
          · rw [List.getElem?_append_left lt] at ha
            exact (((hrow j a u ha hu).keep sG2).lst elr2).keep s3
          · rw [List.getElem?_append_right ge] at ha
            have ej : j - rs.length = 0 := by
              have := (List.getElem?_eq_some_iff.mp ha).1
              simp at this
              omega
            rw [ej] at ha
            cases ha
            have e2 : j = i := by omega
            rw [e2, hti] at hu
            cases hu
            exact (hr2.lst elr2).keep s3
        refine ⟨lo', o', rs ++ [r], _, _, _, rfl, ?_, ?_, elo', ?_, by rw [List.length_append, hrs]; rfl, h3, hrun'⟩
        · exact (same_out (sG.trans sG2) nr).trans s3
        · have := s3 lr _ upd_same
          rw [this, List.map_append]
          rfl
        · rcases hlo' with e | e
          · rw [e]; exact nlo
          · intro z
            rw [z, upd_same] at e
            cases e
    · rintro σ G ⟨lo, o, rs, v4, v5, v6, rfl, sG, elr, elo, nlo, hrs, hrow, hrun⟩
      have ho : o = .no := by
        rw [List.length_map, List.length_map, List.drop_length] at hrun
        exact Option.some.inj hrun
      subst ho
      refine ⟨_, rfl, false, .inl ⟨_, SqL.of elo, rfl⟩, iteF ?_⟩
      exact ⟨_, rfl, q G lr rs sG elr (by rw [hrs, List.length_map, List.length_map]) hrow⟩
  · refine for_from (K := K) (a := l) (xs := (("Tell" : Str) :: ys).map V.str) (fun i σ G => i = 0 ∧ ∃ v4 v5 v6, σ = [some (.ref l), some z, some (.ref lr), some (.ref lo), v4, v5, v6] ∧ G = upd (upd H lr (.lst [])) lo (.lst [])) ⟨rfl, none, none, none, rfl, rfl⟩ ?_ ?_ ?_
    · rintro i σ G _ ⟨_, v4, v5, v6, rfl, rfl⟩
      exact sqt_list_same hl (same_new (new_same nr) no)
    · rintro i x σ G Tp hi ⟨rfl, v4, v5, v6, rfl, rfl⟩ nT
      cases hi
      have s0 : Same H (upd (upd (upd H lr (.lst [])) lo (.lst [])) Tp (.tup [.int (1 + ((0 : Nat) : Int)), .str "Tell"])) := same_new (same_new (new_same nr) no) nT
      obtain ⟨nT1, nTlo⟩ := free_upd nT
      refine ⟨Tp, _, rfl, SqT.of upd_same, rfl, _, _, rfl, _, _, rfl, rfl, ?_⟩
      refine ⟨_, rfl, _, rfl, _, rfl, "Tell", lo, z, .no, rfl, SqL.of ((new_same nT) _ _ upd_same), .inr ⟨rfl, fun G2 s2 => ?_⟩⟩
      refine ⟨_, rfl, _, rfl, iteT ?_⟩
      exact rd1 (W := fun cls d _ G => E cls d G) ET.t2.ex.oex (ET.t2.nf _ List.mem_cons_self) rfl (q _ (s0.trans s2))
    · rintro σ G ⟨h, _⟩
      cases h
end
end H1
namespace H1
open PySem PySem.Spec PyProof.Rows L2 Hx Nd Dun
section
variable {P : Program} {w : World} {K : PySem.W.Frag} {mg : Str → Option Value} {base : Heap} {D : Addr}
/-! ### ways -/
def key0 : NestedKey := .tup [.tup [], .num 0, .num 0, .tup []]
abbrev Wy (K : PySem.W.Frag) (H : Hp) (v : V) : Prop := NV K H v key0
theorem wy_inv {H : Hp} {v : V} (h : Wy K H v) : ∃ a b c, v = .ref a ∧ SqT K H a [.ref b, .int 0, .int 0, .ref c] ∧ SqT K H b [] ∧ SqT K H c [] := by
  cases h with
  | @tup a xs _ h1 h2 =>
    cases h2 with
    | cons x1 h2 =>
      cases h2 with
      | cons x2 h2 =>
        cases h2 with
        | cons x3 h2 =>
          cases h2 with
          | cons x4 h2 =>
            cases h2
            cases x2
            cases x3
            cases x1 with
            | @tup b ys _ y1 y2 =>
              cases y2
              cases x4 with
              | @tup c zs _ z1 z2 =>
                cases z2
                exact ⟨a, b, c, rfl, h1, y1, z1⟩
theorem wy_mk {H : Hp} {a b c : Addr} (h : SqT K H a [.ref b, .int 0, .int 0, .ref c]) (hb : SqT K H b []) (hc : SqT K H c []) : Wy K H (.ref a) :=
  .tup h (.cons (.tup hb .nil) (.cons (.int 0) (.cons (.int 0) (.cons (.tup hc .nil) .nil))))
theorem key0_deep : key0.depth ≤ 8 := by decide +kernel
def aheadV : List V := [.str "tell", .str "grab last", .str "grab given", .str "longer", .str "trade"]
def onceV : List V := [.str "longer", .str "shorter", .str "trade"]
def spKeeps (K : PySem.W.Frag) : Sp := fun vs H Q _ => ∃ (v : V) (x : Str), vs = [v, .str x] ∧ Wy K H v ∧ x ∈ freeW ∧ ∀ H', Same H H' → Q (.bl true) H'
theorem free_cases {x : Str} (h : x ∈ freeW) : x = "tell" ∨ x = "grab" ∨ x = "note" ∨ x = "quit" := by
  unfold freeW at h
  simpa using h
theorem ok_keeps {f aA : Addr} (T : FT K mg "keeps_order" s_keeps_order ["way", "word"] f) (cA : TupT K mg "AHEAD_OF_LOOPS" aA aheadV) : ∃ fd, Fun K "keeps_order" "keeps_order" s_keeps_order f fd ∧ Binds K fd ["way", "word"] [] ∧ FnOk P w K mg base CX0 1 f fd ["way", "word"] (spKeeps K) := by
  obtain ⟨fd, F, b⟩ := T.fn
  refine ⟨fd, F, b, F.ok c_keeps_order (fun vs H Q E h => ?_) (fun cdv A outer s H vs Q E hr h => ?_)⟩
  · obtain ⟨v, x, rfl, _⟩ := h
    rfl
  obtain ⟨v, x, rfl, hv, hx, q⟩ := h
  obtain ⟨a, b1, c1, rfl, ha, hb, hc⟩ := wy_inv hv
  refine ⟨_, pss_cons (ps_asg (pv 0) (pg_tup rfl (pgs_cons (pg_name (i := 2) c_keeps_order.nd rfl (Or.inl rfl)) (pgs_cons (pg_name (i := 3) c_keeps_order.nd rfl (Or.inl rfl)) (pgs_cons (pg_name (i := 4) c_keeps_order.nd rfl (Or.inl rfl)) (pgs_cons (pg_name (i := 5) c_keeps_order.nd rfl (Or.inl rfl)) pgs_nil))))))
    (pss_cons (ps_if (PW.pt (pw_and (pt_cmpR op_in_seq (pv 1) (pe_glob (v := .ref aA) rfl cA.g rfl) rfl) (pw_and1 (pt_truth (pv 2) (by intro _; rfl))))) (pss_one ps_never) pss_nil)
    (pss_cons (ps_if (pt_cmpR op_eq (pv 1) pe_str (nomark _)) (pss_one (ps_ret (pe_or (pe_notT (pv 2)) (pe_one pe_no)))) pss_nil)
    (pss_cons (ps_if (pt_cmpR op_eq (pv 1) pe_str (nomark _)) (pss_one ps_never) pss_nil)
    (pss_cons (ps_if (pt_cmpR op_eq (pv 1) pe_str (nomark _)) (pss_one ps_never) pss_nil)
    (pss_cons (ps_if (pt_cmpR op_in_seq (pv 1) (pe_tup (pa_cons pe_str (pa_cons pe_str pa_nil))) rfl) (pss_one ps_never) pss_nil)
    (pss_cons (ps_if (pt_cmpR op_eq (pv 1) pe_str (nomark _)) (pss_one ps_never) pss_nil)
    (pss_one (ps_ret pe_bl)))))))), ?_⟩
  refine ⟨_, rfl, a, _, rfl, ha, rfl, _, _, rfl, _, _, rfl, _, _, rfl, _, _, rfl, rfl, ?_⟩
  have grabT : ∀ n : Nat, True := fun _ => trivial
  rcases free_cases hx with rfl | rfl | rfl | rfl
  · refine ⟨_, rfl, _, _, rfl, .inr (cA.s _), rfl, rfl, _, rfl, iteBT (by decide +kernel) ?_⟩
    refine ⟨_, rfl, false, .inr (.inl ⟨_, hb, rfl⟩), iteF ?_⟩
    refine ⟨_, rfl, rfl, _, rfl, iteBF (by decide +kernel) ?_⟩
    refine ⟨_, rfl, rfl, _, rfl, iteBF (by decide +kernel) ?_⟩
    refine ⟨_, rfl, rfl, _, rfl, iteBF (by decide +kernel) ?_⟩
    refine ⟨_, rfl, (by show 2 ≤ sizeLine; decide), fun u nu => ⟨u, _, rfl, .inr (SqT.of upd_same), rfl, rfl, _, rfl, iteBF (by decide +kernel) ?_⟩⟩
    refine ⟨_, rfl, rfl, _, rfl, iteBF (by decide +kernel) ?_⟩
    exact q _ (new_same nu)
  · refine ⟨_, rfl, _, _, rfl, .inr (cA.s _), rfl, rfl, _, rfl, iteBF (by decide +kernel) ?_⟩
    refine iteF ?_
    refine ⟨_, rfl, rfl, _, rfl, iteBT (by decide +kernel) ?_⟩
    exact ⟨_, rfl, false, .inr (.inl ⟨_, hb, rfl⟩), _, rfl, q H (fun _ _ z => z)⟩
  · refine ⟨_, rfl, _, _, rfl, .inr (cA.s _), rfl, rfl, _, rfl, iteBF (by decide +kernel) ?_⟩
    refine iteF ?_
    refine ⟨_, rfl, rfl, _, rfl, iteBF (by decide +kernel) ?_⟩
    refine ⟨_, rfl, rfl, _, rfl, iteBF (by decide +kernel) ?_⟩
    refine ⟨_, rfl, rfl, _, rfl, iteBF (by decide +kernel) ?_⟩
    refine ⟨_, rfl, (by show 2 ≤ sizeLine; decide), fun u nu => ⟨u, _, rfl, .inr (SqT.of upd_same), rfl, rfl, _, rfl, iteBF (by decide +kernel) ?_⟩⟩
    refine ⟨_, rfl, rfl, _, rfl, iteBF (by decide +kernel) ?_⟩
    exact q _ (new_same nu)
  · refine ⟨_, rfl, _, _, rfl, .inr (cA.s _), rfl, rfl, _, rfl, iteBF (by decide +kernel) ?_⟩
    refine iteF ?_
    refine ⟨_, rfl, rfl, _, rfl, iteBF (by decide +kernel) ?_⟩
    refine ⟨_, rfl, rfl, _, rfl, iteBF (by decide +kernel) ?_⟩
    refine ⟨_, rfl, rfl, _, rfl, iteBF (by decide +kernel) ?_⟩
    refine ⟨_, rfl, (by show 2 ≤ sizeLine; decide), fun u nu => ⟨u, _, rfl, .inr (SqT.of upd_same), rfl, rfl, _, rfl, iteBF (by decide +kernel) ?_⟩⟩
    refine ⟨_, rfl, rfl, _, rfl, iteBF (by decide +kernel) ?_⟩
    exact q _ (new_same nu)
/-! ### way_behind -/
def spBehind (K : PySem.W.Frag) : Sp := fun vs H Q _ => ∃ (v : V) (n : V) (x : Str), vs = [v, n, .str x] ∧ Wy K H v ∧ x ∈ freeW ∧ ∀ H' b, Same H H' → Wy K H' (.ref b) → Q (.ref b) H'
theorem ok_behind {f aO : Addr} (T : FT K mg "way_behind" s_way_behind ["way", "line", "word"] f) (cO : TupT K mg "ONCE" aO onceV) (tup : mg "tuple" = none) : ∃ fd, Fun K "way_behind" "way_behind" s_way_behind f fd ∧ Binds K fd ["way", "line", "word"] [] ∧ FnOk P w K mg base CX0 1 f fd ["way", "line", "word"] (spBehind K) := by
  obtain ⟨fd, F, b⟩ := T.fn
  refine ⟨fd, F, b, F.ok c_way_behind (fun vs H Q E h => ?_) (fun cdv A outer s H vs Q E hr h => ?_)⟩
  · obtain ⟨v, n, x, rfl, _⟩ := h
    rfl
  obtain ⟨v, n, x, rfl, hv, hx, q⟩ := h
  obtain ⟨a, b1, c1, rfl, ha, hb, hc⟩ := wy_inv hv
  refine ⟨_, pss_cons (ps_asg (pv 0) (pg_tup rfl (pgs_cons (pg_name (i := 3) c_way_behind.nd rfl (Or.inl rfl)) (pgs_cons (pg_name (i := 4) c_way_behind.nd rfl (Or.inl rfl)) (pgs_cons (pg_name (i := 5) c_way_behind.nd rfl (Or.inl rfl)) (pgs_cons (pg_name (i := 6) c_way_behind.nd rfl (Or.inr rfl)) pgs_nil))))))
    (pss_cons (ps_if (PW.pt (pw_and (pt_cmpR op_eq (pv 2) pe_str (nomark _)) (pw_and1 pt_no))) (pss_one ps_never) pss_nil)
    (pss_cons (ps_if (PW.pt (pw_and (pt_cmpR op_eq (pv 2) pe_str (nomark _)) (pw_and1 pt_no))) (pss_one ps_never) pss_nil)
    (pss_one (ps_ret (pe_tup (pa_cons (pv 3) (pa_cons (pv 4) (pa_cons (pv 5) (pa_cons (pe_callTy call_tuple_of (by rfl) tup (by decide +kernel) (pa_cons
      (pe_lc (own := [("known", 7)]) (g := gName 7) rfl c_way_behind.nd (pi_tup (pe_glob (v := .ref aO) rfl cO.g rfl)) (blkOk_by (own := [("known", 7)]) (N := n_way_behind) (sc := defScope s_way_behind) (by decide +kernel))
        (fun _ _ _ _ _ => pg_name (i := 7) c_way_behind.nd rfl (Or.inl rfl)) (fun _ _ _ _ _ => pts_one (PW.pt (pw_or (pt_cmpR op_eq (pv 7) (pv 2) (nomark _)) (pw_or1 (pt_cmpR (op_in_seqk (K' := K) rfl) (pv 7) (pv 6) rfl))))) (fun _ _ _ _ _ => pv 7)) pa_nil)) pa_nil))))))))), ?_⟩
  refine ⟨_, rfl, a, _, rfl, ha, rfl, _, _, rfl, _, _, rfl, _, _, rfl, _, _, rfl, rfl, ?_⟩
  have w1 : decide (V.str x = V.str "to start") = false := by rcases free_cases hx with rfl | rfl | rfl | rfl <;> decide +kernel
  have w2 : decide (V.str x = V.str "shorter") = false := by rcases free_cases hx with rfl | rfl | rfl | rfl <;> decide +kernel
  refine ⟨_, rfl, rfl, _, rfl, iteBF w1 (iteF ?_)⟩
  refine ⟨_, rfl, rfl, _, rfl, iteBF w2 (iteF ?_)⟩
  refine ⟨_, rfl, _, rfl, _, rfl, aO, rfl, ⟨_, cO.s _⟩, fun L nL => lc_tup (K := K) (a := aO) (xs := onceV) (fun i G => G = upd H L (.lst [])) rfl (fun i G _ _ => cO.s G) ?_ ?_⟩
  · rintro i v G hi rfl
    have hv : ∃ y, v = .str y ∧ decide (V.str y = V.str x) = false := by
      match i, hi with
      | 0, hi => cases hi; exact ⟨_, rfl, by rcases free_cases hx with rfl | rfl | rfl | rfl <;> decide +kernel⟩
      | 1, hi => cases hi; exact ⟨_, rfl, by rcases free_cases hx with rfl | rfl | rfl | rfl <;> decide +kernel⟩
      | 2, hi => cases hi; exact ⟨_, rfl, by rcases free_cases hx with rfl | rfl | rfl | rfl <;> decide +kernel⟩
      | i + 3, hi => cases hi
    obtain ⟨y, rfl, hy⟩ := hv
    refine ⟨rfl, ?_⟩
    refine ⟨_, rfl, _, rfl, rfl, _, rfl, iteBF hy ?_⟩
    exact ⟨_, rfl, _, rfl, c1, [], rfl, .inr (sqt_same (new_same nL) hc), rfl, rfl, _, rfl, iteBF rfl rfl⟩
  · rintro G rfl
    refine ⟨L, _, rfl, .inl ⟨SqL.of upd_same, fun t nt => ?_⟩⟩
    have st := same_new (new_same (o := .lst []) nL) (o := .tup []) nt
    refine ⟨(by show 4 ≤ sizeLine; decide), fun p np => ?_⟩
    have sp := same_new (o := .tup [.ref b1, .int 0, .int 0, .ref t]) st np
    exact q _ p sp (wy_mk (SqT.of upd_same) (sqt_same sp hb) (SqT.of ((new_same np) _ _ upd_same)))
end
end H1
namespace H1
open PySem PySem.Spec PyProof.Rows L2 Hx Nd Dun
section
variable {P : Program} {w : World} {K : PySem.W.Frag} {mg : Str → Option Value} {base : Heap} {D : Addr}
/-! ### Walk -/
structure WalkT (K : PySem.W.Frag) (mg : Str → Option Value) (C : Addr) (m : Nat → Addr) : Prop where
  g : mg "Walk" = some (.ref C)
  mak : Mk K C (m 0)
  cl : Cls K C
  nk : NoAttr K C "kind"
  nb : NoAttr K C "broken"
  nw : NoAttr K C "ways"
  nf : NoAttr K C "forks"
  nt : NoAttr K C "turning"
  f0 : ∃ fd, Fun K "__init__" "Walk.__init__" s_Walk_init (m 0) fd ∧ Binds K fd ["self", "kind"] []
  f1 : MT K C "step" "Walk.step" s_Walk_step ["self", "line", "row"] (m 1)
  f4 : MT K C "fork" "Walk.fork" s_Walk_fork ["self", "line", "row"] (m 4)
  f5 : MT K C "pass_line" "Walk.pass_line" s_Walk_pass_line ["self", "line", "word"] (m 5)
  f6 : MT K C "end_ways" "Walk.end_ways" s_Walk_end_ways ["self"] (m 6)
def walkF (kd : V) (br wy fo : Addr) : List (Str × V) := [("kind", kd), ("broken", .ref br), ("ways", .ref wy), ("forks", .ref fo), ("turning", .bl false)]
/-- a list of at most one way, all alike -/
def WL (K : PySem.W.Frag) (H : Hp) (n : Nat) (l : Addr) : Prop := ∃ xs, H l = some (.lst xs) ∧ xs.length ≤ n ∧ ∀ v ∈ xs, Wy K H v
theorem WL.keep {H H' : Hp} {n : Nat} {l : Addr} (h : WL K H n l) (e : H' l = H l) (t : Tups H H') : WL K H' n l := by
  obtain ⟨xs, h1, h2, h3⟩ := h
  exact ⟨xs, by rw [e]; exact h1, h2, fun v hv => NV.keep t _ _ (h3 v hv)⟩
def FkAt (K : PySem.W.Frag) (H : Hp) (fo : Addr) (fs : List V) : On → Prop
  | .no => fs = []
  | _ => ∃ T l1 l2, fs = [.ref T] ∧ SqT K H T [.ref l1, .ref l2] ∧ WL K H 1 l1 ∧ WL K H 1 l2 ∧ l1 ≠ fo ∧ l2 ≠ fo
/-- the walk at wk, with open blocks o -/
structure WS (P : Program) (w : World) (K : PySem.W.Frag) (C : Addr) (H : Hp) (wk br fo : Addr) (kd : V) (o : On) : Prop where
  ex : ∃ (dx wy : Addr) (ks : Ks) (fs : List V), H wk = some (.ins C dx (walkF kd br wy fo)) ∧ H br = some (.lst []) ∧ ND P w K H wy ks ∧ (∀ p ∈ ks, p.1 = key0) ∧ ks.length ≤ 1 ∧ H fo = some (.lst fs) ∧ FkAt K H fo fs o
  ne : fo ≠ br
/-- all but two as it was -/
def Bt (a b : Addr) (H H' : Hp) : Prop := ∀ c u, c ≠ a → c ≠ b → H c = some u → H' c = some u
theorem Bt.of {a b : Addr} {H H' : Hp} (e : Same H H') : Bt a b H H' := fun c u _ _ h => e c u h
theorem Bt.trans {a b : Addr} {H H1 H2 : Hp} (x : Bt a b H H1) (y : Bt a b H1 H2) : Bt a b H H2 := fun c u n1 n2 h => y c u n1 n2 (x c u n1 n2 h)
theorem Bt.l {a b : Addr} {H : Hp} {o : HO} : Bt a b H (upd H a o) := fun c u n _ h => by rw [upd_ne n]; exact h
theorem Bt.r {a b : Addr} {H : Hp} {o : HO} : Bt a b H (upd H b o) := fun c u _ n h => by rw [upd_ne n]; exact h
theorem putN_key {ks : Ks} {b : Addr} (h : ∀ p ∈ ks, p.1 = key0) (hl : ks.length ≤ 1) : (∀ p ∈ putN ks key0 b, p.1 = key0) ∧ (putN ks key0 b).length ≤ 1 := by
  match ks, h, hl with
  | [], _, _ => exact ⟨fun p hp => by simp [putN] at hp; rw [hp], by simp [putN]⟩
  | [q], h, _ =>
    have hq := h q List.mem_cons_self
    have e : putN [q] key0 b = [q] := by simp [putN, hq]
    rw [e]
    exact ⟨h, by simp⟩
/-- list(self.ways) holds ways -/
theorem ways_wl {P : Program} {w : World} {K : PySem.W.Frag} {H : Hp} {wy l : Addr} {ks : Ks} (N : ND P w K H wy ks) (h0 : ∀ p ∈ ks, p.1 = key0) (h1 : ks.length ≤ 1) (nl : H l = none) : WL K (upd H l (.lst (ks.map fun p => V.ref p.2))) 1 l := by
  refine ⟨_, upd_same, by rw [List.length_map]; exact h1, fun v hv => ?_⟩
  obtain ⟨p, hp, rfl⟩ := List.mem_map.mp hv
  have z := (N.nv p hp).1
  rw [h0 p hp] at z
  exact NV.keep (Tups.of (new_same nl)) _ _ z
theorem nd_move {P : Program} {w : World} {K : PySem.W.Frag} {H H' : Hp} {a : Addr} {ks : Ks} (N : ND P w K H a ks) (e : H' a = H a) (t : Tups H H') : ND P w K H' a ks :=
  ⟨by rw [e]; exact N.at_, N.sm, N.ln, fun p hp => ⟨NV.keep t _ _ (N.nv p hp).1, (N.nv p hp).2⟩⟩
theorem tups_new {H : Hp} {a : Addr} {o : HO} (h : H a = none) : Tups H (upd H a o) := Tups.of (new_same h)
/-! #### __init__ -/
def spWalk (P : Program) (w : World) (K : PySem.W.Frag) (C : Addr) : Sp := fun vs H Q _ => ∃ (p dx : Addr) (kd : V), vs = [.ref p, kd] ∧ H p = some (.ins C dx []) ∧ ∀ H' br fo, But p H H' → H br = none → H fo = none → WS P w K C H' p br fo kd .no → Q .non H'
structure FreshT (K : PySem.W.Frag) (mg : Str → Option Value) (a : Addr) : Prop where
  g : mg "FRESH" = some (.ref a)
  w : ∀ H, Wy K H (.ref a)
theorem ok_Walk {C aF : Addr} {m : Nat → Addr} (T : WalkT K mg C m) (cF : FreshT K mg aF) {fd : FuncData} (F : Fun K "__init__" "Walk.__init__" s_Walk_init (m 0) fd) : FnOk P w K mg base CX0 1 (m 0) fd ["self", "kind"] (spWalk P w K C) := by
  refine F.ok c_Walk_init (fun vs H Q E h => ?_) (fun cdv A outer s H vs Q E hr h => ?_)
  · obtain ⟨p, dx, kd, rfl, _⟩ := h
    rfl
  obtain ⟨p, dx, kd, rfl, hp, q⟩ := h
  refine ⟨_, pss_cons (ps_fld (pv 0) (pv 1) rfl) (pss_cons (ps_fld (pv 0) (pe_lst pa_nil) rfl) (pss_cons (ps_fld (pv 0) (pe_ndone hr.units (pe_glob (v := .ref aF) rfl cF.g rfl) pe_bl) rfl) (pss_cons (ps_fld (pv 0) (pe_lst pa_nil) rfl) (pss_one (ps_fld (pv 0) pe_bl rfl))))), ?_⟩
  refine ⟨_, rfl, _, rfl, p, C, dx, _, rfl, hp, T.cl, T.nk, (by show 0 < 1000; decide), ?_⟩
  refine ⟨Nat.zero_le _, fun br nbr => ?_⟩
  obtain ⟨nbr1, nbrp⟩ := free_upd nbr
  refine ⟨_, rfl, p, C, dx, _, rfl, (new_same nbr) _ _ upd_same, T.cl, T.nb, (by show 1 < 1000; decide), ?_⟩
  refine fun wy nwy sm => ?_
  obtain ⟨nwy1, nwyp⟩ := free_upd nwy
  obtain ⟨nwy2, nwybr⟩ := free_upd nwy1
  refine ⟨aF, key0, rfl, rfl, cF.w _, key0_deep, upd_same, ?_⟩
  rw [upd_upd]
  refine ⟨_, rfl, p, C, dx, _, rfl, (new_same nwy) _ _ upd_same, T.cl, T.nw, (by show 2 < 1000; decide), ?_⟩
  refine ⟨Nat.zero_le _, fun fo nfo => ?_⟩
  obtain ⟨nfo1, nfop⟩ := free_upd nfo
  obtain ⟨nfo2, nfowy⟩ := free_upd nfo1
  obtain ⟨nfo3, _⟩ := free_upd nfo2
  obtain ⟨nfo4, nfobr⟩ := free_upd nfo3
  obtain ⟨nfo5, _⟩ := free_upd nfo4
  refine ⟨_, rfl, p, C, dx, _, rfl, (new_same nfo) _ _ upd_same, T.cl, T.nf, (by show 3 < 1000; decide), ?_⟩
  refine ⟨_, rfl, p, C, dx, _, rfl, upd_same, T.cl, T.nt, (by show 4 < 1000; decide), ?_⟩
  rw [upd_upd]
  obtain ⟨nbr2, _⟩ := free_upd nbr
  refine q _ br fo (fun c u n h => ?_) nbr2 nfo5 ⟨⟨dx, wy, [(key0, aF)], [], upd_same, ?_, ⟨?_, sm, (by show 1 ≤ 1000; decide), fun p hp => ?_⟩, fun p hp => ?_, (by show 1 ≤ 1; decide), ?_, rfl⟩, nfobr⟩
  · have c1 : c ≠ br := ne_of_none h nbr2
    have c2 : c ≠ fo := ne_of_none h nfo5
    have c3 : c ≠ wy := fun e => by
      rw [e] at h
      have := free_upd nwy2
      rw [this.1] at h
      cases h
    rw [upd_ne n, upd_ne c2, upd_ne n, upd_ne c3, upd_ne n, upd_ne c1, upd_ne n]
    exact h
  · rw [upd_ne nbrp, upd_ne nfobr.symm, upd_ne nbrp, upd_ne nwybr.symm, upd_ne nbrp, upd_same]
  · rw [upd_ne nwyp, upd_ne nfowy.symm, upd_ne nwyp, upd_same]
    rfl
  · simp at hp
    rw [hp]
    exact ⟨cF.w _, key0_deep⟩
  · simp at hp
    rw [hp]
  · rw [upd_ne nfop, upd_same]
end
end H1
namespace H1
open PySem PySem.Spec PyProof.Rows L2 Hx Nd Dun
section
variable {P : Program} {w : World} {K : PySem.W.Frag} {mg : Str → Option Value} {base : Heap} {D : Addr}
/-! #### how a walk moves -/
theorem FkAt.move {H H' : Hp} {fo : Addr} {fs : List V} {o : On} (h : FkAt K H fo fs o) (t : Tups H H') (e : ∀ l ys, l ≠ fo → H l = some (.lst ys) → H' l = some (.lst ys)) : FkAt K H' fo fs o := by
  have wl : ∀ l, l ≠ fo → WL K H 1 l → WL K H' 1 l := fun l n z => by
    obtain ⟨xs, h1, h2, h3⟩ := z
    exact ⟨xs, e l xs n h1, h2, fun v hv => NV.keep t _ _ (h3 v hv)⟩
  cases o with
  | no => exact h
  | yes =>
    obtain ⟨T, l1, l2, h1, h2, h3, h4, n1, n2⟩ := h
    exact ⟨T, l1, l2, h1, sqt_tups t h2, wl l1 n1 h3, wl l2 n2 h4, n1, n2⟩
  | els =>
    obtain ⟨T, l1, l2, h1, h2, h3, h4, n1, n2⟩ := h
    exact ⟨T, l1, l2, h1, sqt_tups t h2, wl l1 n1 h3, wl l2 n2 h4, n1, n2⟩
section
variable {C wk br fo : Addr} {kd : V} {o : On} {H H' : Hp}
theorem WS.keep (h : WS P w K C H wk br fo kd o) (e : Same H H') : WS P w K C H' wk br fo kd o := by
  obtain ⟨⟨dx, wy, ks, fs, h1, h2, h3, h4, h5, h6, h7⟩, n⟩ := h
  exact ⟨⟨dx, wy, ks, fs, e _ _ h1, e _ _ h2, h3.keep e, h4, h5, e _ _ h6, h7.move (Tups.of e) (fun l ys _ z => e _ _ z)⟩, n⟩
/-- the ways are new ones -/
theorem WS.ways {dx wy wy' : Addr} {ks' : Ks} {fs : List V} (h1 : H wk = some (.ins C dx (walkF kd br wy fo))) (h2 : H br = some (.lst [])) (h6 : H fo = some (.lst fs)) (h7 : FkAt K H fo fs o) (n : fo ≠ br) (N : ND P w K H wy' ks') (h4 : ∀ p ∈ ks', p.1 = key0) (h5 : ks'.length ≤ 1) :
    WS P w K C (upd H wk (.ins C dx (walkF kd br wy' fo))) wk br fo kd o := by
  have nb : br ≠ wk := ne_of h2 h1 (by intro z; cases z)
  have nf : fo ≠ wk := ne_of h6 h1 (by intro z; cases z)
  have nw : wy' ≠ wk := ne_of N.at_ h1 (by intro z; cases z)
  refine ⟨⟨dx, wy', ks', fs, upd_same, by rw [upd_ne nb]; exact h2, nd_move N (upd_ne nw) (tups_ins h1), h4, h5, by rw [upd_ne nf]; exact h6, h7.move (tups_ins h1) fun l ys _ z => ?_⟩, n⟩
  rw [upd_ne (ne_of z h1 (by intro z; cases z))]
  exact z
end
/-! #### end_ways -/
def spEnd (P : Program) (w : World) (K : PySem.W.Frag) (C : Addr) : Sp := fun vs H Q _ => ∃ (wk br fo : Addr) (kd : V) (o : On), vs = [.ref wk] ∧ WS P w K C H wk br fo kd o ∧ ∀ H', Bt wk fo H H' → WS P w K C H' wk br fo kd o → Q .non H'
theorem ok_end {C : Addr} {m : Nat → Addr} (T : WalkT K mg C m) (lst : mg "list" = none) : ∃ fd, Fun K "end_ways" "Walk.end_ways" s_Walk_end_ways (m 6) fd ∧ Binds K fd ["self"] [] ∧ FnOk P w K mg base CX0 1 (m 6) fd ["self"] (spEnd P w K C) := by
  obtain ⟨fd, F, b⟩ := T.f6.fn
  refine ⟨fd, F, b, F.ok c_Walk_end_ways (fun vs H Q E h => ?_) (fun cdv A outer s H vs Q E hr h => ?_)⟩
  · obtain ⟨wk, br, fo, kd, o, rfl, _⟩ := h
    rfl
  obtain ⟨wk, br, fo, kd, o, rfl, hw, q⟩ := h
  refine ⟨_, pss_cons (ps_for PassesOwn.never rfl (pi_list (pe_callTy (call_listNd rfl) (by rfl) lst (by decide +kernel) (pa_cons (pe_fld (pv 0) rfl) pa_nil)))
      (pg_tup rfl (pgs_cons (pg_name (i := 1) c_Walk_end_ways.nd rfl (Or.inl rfl)) (pgs_cons (pg_name (i := 2) c_Walk_end_ways.nd rfl (Or.inl rfl)) (pgs_cons (pg_name (i := 1) c_Walk_end_ways.nd rfl (Or.inl rfl)) (pgs_cons (pg_name (i := 1) c_Walk_end_ways.nd rfl (Or.inl rfl)) pgs_nil)))))
      (pss_one (ps_if (pt_truth (pv 2) (by intro _; rfl)) (pss_one ps_never) pss_nil)))
    (pss_one (ps_fld (pv 0) Nd.pe_ndnew rfl)), ?_⟩
  obtain ⟨⟨dx, wy, ks, fs, h1, h2, h3, h4, h5, h6, h7⟩, n⟩ := id hw
  refine ⟨_, rfl, wk, C, dx, _, _, rfl, h1, T.cl, T.nw, rfl, wy, ks, rfl, h3, fun l nl => ?_⟩
  have wl := ways_wl h3 h4 h5 nl
  refine ⟨l, rfl, ⟨_, SqL.of upd_same⟩, for_list (K := K) (a := l) (xs := ks.map fun p => V.ref p.2) (fun i σ G => G = upd H l (.lst (ks.map fun p => V.ref p.2)) ∧ ∃ v1 v2, σ = [some (.ref wk), v1, v2]) ⟨rfl, none, none, rfl⟩ ?_ ?_ ?_⟩
  · rintro i σ G _ ⟨rfl, _⟩
    exact SqL.of upd_same
  · rintro i v σ G hi ⟨rfl, v1, v2, rfl⟩
    obtain ⟨xs, e1, e2, e3⟩ := wl
    rw [upd_same] at e1
    have e1' : (ks.map fun p => V.ref p.2) = xs := by injection e1 with e1; injection e1
    have hv := e3 v (by rw [← e1']; exact List.mem_of_getElem? hi)
    obtain ⟨a, b1, c1, rfl, ha, hb, hc⟩ := wy_inv hv
    refine ⟨a, _, rfl, ha, rfl, _, _, rfl, _, _, rfl, _, _, rfl, _, _, rfl, rfl, ?_⟩
    exact ⟨_, rfl, false, rfl, iteF ⟨rfl, _, _, rfl⟩⟩
  · rintro σ G ⟨rfl, v1, v2, rfl⟩
    refine fun d nd sm => ?_
    have s1 := same_new (new_same (o := .lst (ks.map fun p => V.ref p.2)) nl) nd (o := ndO P w d [])
    refine ⟨_, rfl, wk, C, dx, _, rfl, s1 _ _ h1, T.cl, T.nw, (by show 5 < 1000; decide), ?_⟩
    refine q _ ((Bt.of s1).trans Bt.l) ?_
    exact WS.ways (s1 _ _ h1) (s1 _ _ h2) (s1 _ _ h6) (h7.move (Tups.of s1) fun l ys _ z => s1 _ _ z) n (Nd.nd_new (K := K) sm) (fun p hp => by cases hp) (by show 0 ≤ 1; decide)
/-! #### pass_line -/
abbrev psPL : List Str := ["self", "line", "word"]
theorem wl_mem {H : Hp} {l : Addr} {ys : List V} (h : WL K H 1 l) (e : H l = some (.lst ys)) : ys.length ≤ 1 ∧ ∀ v ∈ ys, Wy K H v := by
  obtain ⟨xs, e1, e2, e3⟩ := h
  rw [e] at e1
  have e1' : ys = xs := by injection e1 with e1; injection e1
  rw [e1']
  exact ⟨e2, e3⟩
def spPass (P : Program) (w : World) (K : PySem.W.Frag) (C : Addr) : Sp := fun vs H Q _ => ∃ (wk br fo : Addr) (kd n : V) (x : Str) (o : On), vs = [.ref wk, n, .str x] ∧ x ∈ freeW ∧ WS P w K C H wk br fo kd o ∧ ∀ H', Bt wk fo H H' → WS P w K C H' wk br fo kd o → Q .non H'
theorem ok_pass {C g1 g2 g3 : Addr} {m : Nat → Addr} (T : WalkT K mg C m) (lst : mg "list" = none) {d1 d2 d3 : FuncData}
    (F1 : Fun K "allows" "allows" s_allows g1 d1) (b1 : Binds K d1 ["kind", "word"] []) (m1 : mg "allows" = some (.ref g1)) (G1 : FnOk P w K mg base CX0 1 g1 d1 ["kind", "word"] spAllows)
    (F2 : Fun K "keeps_order" "keeps_order" s_keeps_order g2 d2) (b2 : Binds K d2 ["way", "word"] []) (m2 : mg "keeps_order" = some (.ref g2)) (G2 : FnOk P w K mg base CX0 1 g2 d2 ["way", "word"] (spKeeps K))
    (F3 : Fun K "way_behind" "way_behind" s_way_behind g3 d3) (b3 : Binds K d3 ["way", "line", "word"] []) (m3 : mg "way_behind" = some (.ref g3)) (G3 : FnOk P w K mg base CX0 1 g3 d3 ["way", "line", "word"] (spBehind K)) :
    ∃ fd, Fun K "pass_line" "Walk.pass_line" s_Walk_pass_line (m 5) fd ∧ Binds K fd psPL [] ∧ FnOk P w K mg base CX0 2 (m 5) fd psPL (spPass P w K C) := by
  obtain ⟨fd, F, b⟩ := T.f5.fn
  obtain ⟨d6, F6, b6, G6⟩ := ok_end (P := P) (w := w) (base := base) T lst
  refine ⟨fd, F, b, F.ok c_Walk_pass_line (fun vs H Q E h => ?_) (fun cdv A outer s H vs Q E hr h => ?_)⟩
  · obtain ⟨wk, br, fo, kd, n, x, o, rfl, _⟩ := h
    rfl
  obtain ⟨wk, br, fo, kd, n, x, o, rfl, hx, hw, q⟩ := h
  refine ⟨_, pss_cons (ps_for PassesOwn.never rfl (pi_list (pe_callTy (call_listNd rfl) (by rfl) lst (by decide +kernel) (pa_cons (pe_fld (pv 0) rfl) pa_nil))) (pg_name (i := 3) c_Walk_pass_line.nd rfl (Or.inl rfl))
      (pss_one (ps_if (PW.pt (pw_or (pt_not (pt_val (pe_call G1 hr rfl m1 F1.kp b1 .nil pass0 (pa_cons (pe_fld (pv 0) rfl) (pa_cons (pv 2) pa_nil))))) (pw_or1 (pt_not (pt_val (pe_call G2 hr rfl m2 F2.kp b2 .nil pass0 (pa_cons (pv 3) (pa_cons (pv 2) pa_nil)))))))) (pss_one ps_never) pss_nil)))
    (Evl.pss_cut (ps_if (pt_cmpR op_eq (pv 2) pe_str (nomark _)) (pss_one (ps_expr (pe_meth0 (pv 0) T.cl T.f6.m G6 hr b6 .nil pass0))) pss_nil)
    (pss_one (ps_fld (pv 0) (Nd.pe_ndc (own := [("way", 3)]) (g := gName 3) (tt := tYes) rfl c_Walk_pass_line.nd hr.units (pi_list (pe_callTy (call_listNd rfl) (by rfl) lst (by decide +kernel) (pa_cons (pe_fld (pv 0) rfl) pa_nil))) (blkOk_by (own := [("way", 3)]) (N := n_Walk_pass_line) (sc := defScope s_Walk_pass_line) (by decide +kernel))
      (fun _ _ _ _ _ => pg_name (i := 3) c_Walk_pass_line.nd rfl (Or.inl rfl)) (fun _ _ _ _ _ => pts_nil) (fun _ _ _ _ _ => pe_call G3 hr rfl m3 F3.kp b3 .nil pass0 (pa_cons (pv 3) (pa_cons (pv 1) (pa_cons (pv 2) pa_nil)))) (fun _ _ _ _ _ => pe_bl)) rfl))), ?_⟩
  obtain ⟨⟨dx, wy, ks, fs, h1, h2, h3, h4, h5, h6, h7⟩, ne⟩ := id hw
  refine ⟨_, rfl, wk, C, dx, _, _, rfl, h1, T.cl, T.nw, rfl, wy, ks, rfl, h3, fun l nl => ?_⟩
  have wl := ways_wl h3 h4 h5 nl
  have sl := new_same (o := .lst (ks.map fun p => V.ref p.2)) nl
  refine ⟨l, rfl, ⟨_, SqL.of upd_same⟩, for_list (K := K) (a := l) (xs := ks.map fun p => V.ref p.2) (fun i σ G => Same (upd H l (.lst (ks.map fun p => V.ref p.2))) G ∧ ∃ v3, σ = [some (.ref wk), some n, some (.str x), v3]) ⟨fun _ _ z => z, none, rfl⟩ ?_ ?_ ?_⟩
  · rintro i σ G _ ⟨sG, _⟩
    exact SqL.of (sG _ _ upd_same)
  · rintro i v σ G hi ⟨sG, v3, rfl⟩
    have hv : Wy K G v := NV.keep (Tups.of sG) _ _ ((wl_mem wl upd_same).2 v (List.mem_of_getElem? hi))
    refine ⟨_, rfl, wk, C, dx, _, _, rfl, sG _ _ (sl _ _ h1), T.cl, T.nk, rfl, _, rfl, kd, x, rfl, hx, true, rfl, iteF ?_⟩
    refine ⟨_, rfl, _, rfl, v, x, rfl, hv, hx, fun G2 s2 => ⟨true, rfl, iteF ?_⟩⟩
    exact ⟨sG.trans s2, _, rfl⟩
  · rintro σ G ⟨sG, v3, rfl⟩
    have sHG := sl.trans sG
    refine ⟨fun σ G => ∃ v3, σ = [some (.ref wk), some n, some (.str x), v3] ∧ Bt wk fo H G ∧ WS P w K C G wk br fo kd o, ?_, ?_⟩
    · refine ⟨_, rfl, rfl, _, rfl, ite2 (fun _ => ?_) (fun _ => ?_)⟩
      · refine ⟨_, rfl, wk, dx, _, rfl, sHG _ _ h1, rfl, wk, br, fo, kd, o, rfl, hw.keep sHG, fun G2 b2 w2 => ?_⟩
        exact ⟨_, rfl, (Bt.of sHG).trans b2, w2⟩
      · exact ⟨_, rfl, Bt.of sHG, hw.keep sHG⟩
    · rintro σ G ⟨v3, rfl, bG, wG⟩
      obtain ⟨⟨dx, wy, ks, fs, h1, h2, h3, h4, h5, h6, h7⟩, ne⟩ := id wG
      refine ⟨_, rfl, wk, C, dx, _, _, rfl, h1, T.cl, T.nw, rfl, wy, ks, rfl, h3, fun l nl => ?_⟩
      have wl := ways_wl h3 h4 h5 nl
      have sl := new_same (o := .lst (ks.map fun p => V.ref p.2)) nl
      refine ⟨l, rfl, ⟨_, SqL.of upd_same⟩, fun D nD sm => ndc_list (K := K) (a := l) (xs := ks.map fun p => V.ref p.2) (fun i G2 => Same (upd G l (.lst (ks.map fun p => V.ref p.2))) G2 ∧ ∃ js : Ks, ND P w K G2 D js ∧ (∀ p ∈ js, p.1 = key0) ∧ js.length ≤ 1)
        ⟨new_same nD, [], Nd.nd_new sm, (fun p hp => by cases hp), (by show 0 ≤ 1; decide)⟩ ?_ ?_ ?_⟩
      · rintro i G2 _ ⟨s2, _⟩
        exact SqL.of (s2 _ _ upd_same)
      · rintro i v G2 hi ⟨s2, js, N, j0, j1⟩
        have hv : Wy K G2 v := NV.keep (Tups.of s2) _ _ ((wl_mem wl upd_same).2 v (List.mem_of_getElem? hi))
        refine ⟨rfl, ?_⟩
        unfold tYes
        dsimp only
        rw [if_pos rfl]
        refine ⟨_, rfl, _, rfl, _, rfl, v, n, x, rfl, hv, hx, fun G3 b s3 hb => ?_⟩
        have N3 := N.keep s3
        obtain ⟨k1, k2⟩ := putN_key (b := b) j0 j1
        exact ⟨b, js, key0, rfl, rfl, N3, by omega, hb, key0_deep, same_out (s2.trans s3) nD, _, N3.put (by omega) hb key0_deep, k1, k2⟩
      · rintro G2 ⟨s2, js, N, j0, j1⟩
        have sG2 := sl.trans s2
        refine ⟨_, rfl, wk, C, dx, _, rfl, sG2 _ _ h1, T.cl, T.nw, (by show 5 < 1000; decide), ?_⟩
        refine q _ (bG.trans ((Bt.of sG2).trans Bt.l)) ?_
        exact WS.ways (sG2 _ _ h1) (sG2 _ _ h2) (sG2 _ _ h6) (h7.move (Tups.of sG2) fun l ys _ z => sG2 _ _ z) ne N j0 j1
end
end H1
namespace H1
open PySem PySem.Spec PyProof.Rows L2 Hx Nd Dun
section
variable {P : Program} {w : World} {K : PySem.W.Frag} {mg : Str → Option Value} {base : Heap} {D : Addr}
/-! #### fork -/
theorem ndc_id {G : Hp} {l D : Addr} {xs : List V} {i : Nat} {σ : L2.St} {vs : List Nat} {Qd : Hp → Prop} (e : G l = some (.lst xs)) (hx : ∀ v ∈ xs, Wy K G v) (nD : G D = none) (sm : (D == sysModules) = false)
    (hw : ∀ v : V, wipe ((wipe σ vs).set i (some v)) vs = wipe σ vs) (hg : ∀ v : V, ((wipe σ vs).set i (some v))[i]? = some (some v))
    (hd : ∀ G2 js, Same G G2 → ND P w K G2 D js → (∀ p ∈ js, p.1 = key0) → js.length ≤ 1 → Qd G2) :
    ∃ W : Nat → Nat → Hp → Prop, (∃ m, W 0 m (upd G D (Nd.ndO P w D []))) ∧ ∀ j m G1, W j m G1 →
    ((Itl K l).stop j G1 ∧ Qd G1) ∨ ((Itl K l).go j G1 ∧ ∃ Nx : Hp → Prop, (∀ G2, Nx G2 → ∃ m', m' < m ∧ W (j + 1) m' G2) ∧ ∀ x G2, (Itl K l).yld j G1 x G2 → gName i x (wipe σ vs) G2 fun ρ G3 => wipe ρ vs = wipe σ vs ∧ tYes ρ G3 fun b G4 =>
      if b = true then tVar i ρ G4 fun y G5 => tC (.bl true) ρ G5 fun z G6 => Nd.NdTurn P w K D y z G6 Nx else Nx G4) := by
  refine ndc_list (K := K) (a := l) (xs := xs) (fun i G2 => Same G G2 ∧ ∃ js : Ks, ND P w K G2 D js ∧ (∀ p ∈ js, p.1 = key0) ∧ js.length ≤ 1)
    ⟨new_same nD, [], Nd.nd_new sm, (fun p hp => by cases hp), (by show 0 ≤ 1; decide)⟩ ?_ ?_ ?_
  · rintro j G2 _ ⟨s2, _⟩
    exact SqL.of (s2 _ _ e)
  · rintro j v G2 hi ⟨s2, js, N, j0, j1⟩
    have hv : Wy K G2 v := NV.keep (Tups.of s2) _ _ (hx v (List.mem_of_getElem? hi))
    obtain ⟨b, _, _, rfl, _⟩ := wy_inv hv
    refine ⟨hw _, ?_⟩
    unfold tYes
    dsimp only
    rw [if_pos rfl]
    obtain ⟨k1, k2⟩ := putN_key (b := b) j0 j1
    exact ⟨_, hg _, b, js, key0, rfl, rfl, N, by omega, hv, key0_deep, same_out s2 nD, _, N.put (by omega) hv key0_deep, k1, k2⟩
  · rintro G2 ⟨s2, js, N, j0, j1⟩
    exact hd G2 js s2 N j0 j1
abbrev psFK : List Str := ["self", "line", "row"]
def spFork (P : Program) (w : World) (K : PySem.W.Frag) (C CR : Addr) : Sp := fun vs H Q _ => ∃ (wk br fo r : Addr) (kd n : V) (t : Tk) (o o' : On), vs = [.ref wk, n, .ref r] ∧ RowAt K CR H r t ∧ (t.word = "if" ∧ (t = .ifi ∨ t = .ifb) ∧ o = .no ∧ o' = .yes ∨ t = .els ∧ o = .yes ∧ o' = .els ∨ t = .fin ∧ o ≠ .no ∧ o' = .no) ∧
  WS P w K C H wk br fo kd o ∧ ∀ H', Bt wk fo H H' → WS P w K C H' wk br fo kd o' → Q .non H'
theorem ok_fork {C CR fI tt g : Addr} {m : Nat → Addr} (T : WalkT K mg C m) (R : RowT K mg CR fI tt) (lst : mg "list" = none) {d : FuncData} (F1 : Fun K "names_given" "names_given" s_names_given g d) (b1 : Binds K d ["test"] []) (m1 : mg "names_given" = some (.ref g)) (G1 : FnOk P w K mg base CX0 1 g d ["test"] (spNames K)) :
    ∃ fd, Fun K "fork" "Walk.fork" s_Walk_fork (m 4) fd ∧ Binds K fd psFK [] ∧ FnOk P w K mg base CX0 2 (m 4) fd psFK (spFork P w K C CR) := by
  obtain ⟨fd, F, b⟩ := T.f4.fn
  refine ⟨fd, F, b, F.ok c_Walk_fork (fun vs H Q E h => ?_) (fun cdv A outer s H vs Q E hr h => ?_)⟩
  · obtain ⟨wk, br, fo, r, kd, n, t, o, o', rfl, _⟩ := h
    rfl
  obtain ⟨wk, br, fo, r, kd, n, t, o, o', rfl, hrow, hot, hw, q⟩ := h
  refine ⟨_, pss_one (ps_if (pt_cmpR op_eq (pe_fld (pv 2) rfl) pe_str (nomark _))
    (Evl.pss_cut (ps_if (PW.pt (pw_and (Nd.pt_nd (pe_fld (pv 0) rfl)) (pw_and (pt_val (pe_call G1 hr rfl m1 F1.kp b1 .nil pass0 (pa_cons (pe_fld (pv 2) rfl) pa_nil))) (pw_and1 pt_no)))) (pss_one ps_never) pss_nil)
      (pss_one (ps_expr (pe_bm PySem.F.plainAttrs_list PySem.F.slot_list_append PySem.F.type_list_append mt_append (pe_fld (pv 0) rfl) (pa_cons (pe_tup (pa_cons (pe_callTy (call_listNd rfl) (by rfl) lst (by decide +kernel) (pa_cons (pe_fld (pv 0) rfl) pa_nil)) (pa_cons (pe_lst pa_nil) pa_nil))) pa_nil)))))
    (pss_one (ps_if (pt_cmpR op_eq (pe_fld (pv 2) rfl) pe_str (nomark _))
      (pss_cons (ps_asg (pe_bm0 PySem.F.plainAttrs_list PySem.F.slot_list_pop PySem.F.type_list_pop mt_pop (pe_fld (pv 0) rfl)) (pg_tup rfl (pgs_cons (pg_name (i := 3) c_Walk_fork.nd rfl (Or.inl rfl)) (pgs_cons (pg_name (i := 4) c_Walk_fork.nd rfl (Or.inl rfl)) pgs_nil))))
      (pss_cons (ps_expr (pe_bm PySem.F.plainAttrs_list PySem.F.slot_list_append PySem.F.type_list_append mt_append (pe_fld (pv 0) rfl) (pa_cons (pe_tup (pa_cons (pe_lst pa_nil) (pa_cons (pe_callTy (call_listNd rfl) (by rfl) lst (by decide +kernel) (pa_cons (pe_fld (pv 0) rfl) pa_nil)) pa_nil))) pa_nil)))
      (pss_one (ps_fld (pv 0) (Nd.pe_ndc (own := [("way", 5)]) (g := gName 5) (tt := tYes) rfl c_Walk_fork.nd hr.units (pi_list (pv 3)) (blkOk_by (own := [("way", 5)]) (N := n_Walk_fork) (sc := defScope s_Walk_fork) (by decide +kernel))
        (fun _ _ _ _ _ => pg_name (i := 5) c_Walk_fork.nd rfl (Or.inl rfl)) (fun _ _ _ _ _ => pts_nil) (fun _ _ _ _ _ => pv 5) (fun _ _ _ _ _ => pe_bl)) rfl))))
      (pss_cons (ps_asg (pe_bm0 PySem.F.plainAttrs_list PySem.F.slot_list_pop PySem.F.type_list_pop mt_pop (pe_fld (pv 0) rfl)) (pg_tup rfl (pgs_cons (pg_name (i := 3) c_Walk_fork.nd rfl (Or.inl rfl)) (pgs_cons (pg_name (i := 6) c_Walk_fork.nd rfl (Or.inl rfl)) pgs_nil))))
      (pss_one (ps_fld (pv 0) (Nd.pe_ndc (own := [("way", 5)]) (g := gName 5) (tt := tYes) rfl c_Walk_fork.nd hr.units (pi_list (pe_op op_cat (pe_op op_cat (pe_callTy (call_listNd rfl) (by rfl) lst (by decide +kernel) (pa_cons (pe_fld (pv 0) rfl) pa_nil)) (pv 3)) (pv 6))) (blkOk_by (own := [("way", 5)]) (N := n_Walk_fork) (sc := defScope s_Walk_fork) (by decide +kernel))
        (fun _ _ _ _ _ => pg_name (i := 5) c_Walk_fork.nd rfl (Or.inl rfl)) (fun _ _ _ _ _ => pts_nil) (fun _ _ _ _ _ => pv 5) (fun _ _ _ _ _ => pe_bl)) rfl)))))), ?_⟩
  obtain ⟨⟨dx, wy, ks, fs, h1, h2, h3, h4, h5, h6, h7⟩, ne⟩ := id hw
  obtain ⟨dxr, ttr, nu, er, ht⟩ := hrow
  have nwf : wk ≠ fo := ne_of h1 h6 (by intro z; cases z)
  have nyf : wy ≠ fo := ne_of h3.at_ h6 (by intro z; cases z)
  rcases hot with ⟨hwd, hif, rfl, rfl⟩ | ⟨rfl, rfl, rfl⟩ | ⟨rfl, hno, rfl⟩
  · refine ⟨_, rfl, r, CR, dxr, _, _, rfl, er, R.cl, R.nw, rfl, rfl, _, rfl, iteBT (by rw [hwd]; decide +kernel) ?_⟩
    refine ⟨fun σ G => σ = [some (.ref wk), some n, some (.ref r), none, none, none, none] ∧ Same H G, ?_, ?_⟩
    · refine ⟨_, rfl, wk, C, dx, _, _, rfl, h1, T.cl, T.nw, rfl, wy, ks, rfl, h3, ite2 (fun _ => ?_) (fun _ => ?_)⟩
      · exact ⟨_, rfl, r, CR, dxr, _, _, rfl, er, R.cl, R.nt, rfl, ttr, rfl, ht hif, fun G s => ⟨false, rfl, iteF (iteF ⟨rfl, s⟩)⟩⟩
      · exact iteF ⟨rfl, fun _ _ z => z⟩
    · rintro σ G ⟨rfl, sG⟩
      have hfs : fs = [] := h7
      subst hfs
      refine ⟨_, rfl, wk, C, dx, _, _, rfl, sG _ _ h1, T.cl, T.nf, rfl, .inl ⟨rfl, _, SqL.of (sG _ _ h6)⟩, ?_⟩
      refine ⟨_, rfl, wk, C, dx, _, _, rfl, sG _ _ h1, T.cl, T.nw, rfl, wy, ks, rfl, h3.keep sG, fun l nl => ?_⟩
      have wl := ways_wl (h3.keep sG) h4 h5 nl
      have sl := same_new (o := .lst (ks.map fun p => V.ref p.2)) sG nl
      refine ⟨Nat.zero_le _, fun l2 nl2 => ?_⟩
      obtain ⟨nl2a, nl2l⟩ := free_upd nl2
      have sl2 := same_new (o := .lst []) sl nl2
      refine ⟨(by show 2 ≤ sizeLine; decide), fun T' nT => ?_⟩
      have sT := same_new (o := .tup [.ref l, .ref l2]) sl2 nT
      refine ⟨fo, _, _, rfl, rfl, sT _ _ h6, (by show 0 < sizeLine; decide), ?_⟩
      have nlf : l ≠ fo := fun e => by rw [e, sG _ _ h6] at nl; cases nl
      have nl2f : l2 ≠ fo := fun e => by rw [e, sl _ _ h6] at nl2; cases nl2
      have nTl : T' ≠ l := fun e => by
        rw [e, upd_ne nl2l.symm, upd_same] at nT
        cases nT
      have nTl2 : T' ≠ l2 := fun e => by rw [e, upd_same] at nT; cases nT
      have tf := tups_lst (o := .lst [.ref T']) (sT _ _ h6)
      refine q _ ((Bt.of sT).trans Bt.r) ⟨⟨dx, wy, ks, [.ref T'], ?_, ?_, ?_, h4, h5, upd_same, T', l, l2, rfl, sqt_tups tf (SqT.of upd_same), ?_, ?_, nlf, nl2f⟩, ne⟩
      · rw [upd_ne nwf]; exact sT _ _ h1
      · rw [upd_ne ne.symm]; exact sT _ _ h2
      · exact nd_move (h3.keep sT) (upd_ne nyf) tf
      · exact wl.keep (by rw [upd_ne nlf, upd_ne nTl.symm, upd_ne nl2l.symm]) (((tups_new nl2).trans (tups_new nT)).trans tf)
      · exact ⟨[], by rw [upd_ne nl2f, upd_ne nTl2.symm, upd_same], (by show 0 ≤ 1; decide), fun v hv => by cases hv⟩
  · obtain ⟨T0, l1, l2, rfl, hT0, ⟨xs1, e1, c1, w1⟩, ⟨xs2, e2, c2, w2⟩, n1, n2⟩ := h7
    refine ⟨_, rfl, r, CR, dxr, _, _, rfl, er, R.cl, R.nw, rfl, rfl, _, rfl, iteBF (by decide +kernel) ?_⟩
    refine ⟨_, rfl, r, CR, dxr, _, _, rfl, er, R.cl, R.nw, rfl, rfl, _, rfl, iteBT (by decide +kernel) ?_⟩
    refine ⟨_, rfl, wk, C, dx, _, _, rfl, h1, T.cl, T.nf, rfl, .inl ⟨rfl, _, SqL.of h6⟩, fo, _, .ref T0, rfl, rfl, h6, rfl, ?_⟩
    obtain ⟨H1, hH1⟩ : ∃ H1, H1 = upd H fo (.lst (([.ref T0] : List V).dropLast)) := ⟨_, rfl⟩
    have t1 : Tups H H1 := by rw [hH1]; exact tups_lst h6
    have k1 : ∀ c u, c ≠ fo → H c = some u → H1 c = some u := fun c u n z => by rw [hH1, upd_ne n]; exact z
    have f1 : H1 fo = some (.lst []) := by rw [hH1]; exact upd_same
    have b1' : Bt wk fo H H1 := by rw [hH1]; exact Bt.r
    have ND1 : ND P w K H1 wy ks := nd_move h3 (by rw [hH1]; exact upd_ne nyf) t1
    rw [← hH1]
    clear hH1
    refine ⟨T0, _, rfl, sqt_tups t1 hT0, rfl, _, _, rfl, _, _, rfl, rfl, ?_⟩
    refine ⟨_, rfl, wk, C, dx, _, _, rfl, k1 _ _ nwf h1, T.cl, T.nf, rfl, .inl ⟨rfl, _, SqL.of f1⟩, Nat.zero_le _, fun la nla => ?_⟩
    have sa := new_same (o := .lst []) nla
    refine ⟨_, rfl, wk, C, dx, _, _, rfl, sa _ _ (k1 _ _ nwf h1), T.cl, T.nw, rfl, wy, ks, rfl, ND1.keep sa, fun lb nlb => ?_⟩
    have wlb := ways_wl (ND1.keep sa) h4 h5 nlb
    obtain ⟨nlb1, nlba⟩ := free_upd nlb
    have sb := same_new (o := .lst (ks.map fun p => V.ref p.2)) sa nlb
    refine ⟨(by show 2 ≤ sizeLine; decide), fun T1 nT1 => ?_⟩
    have st := same_new (o := .tup [.ref la, .ref lb]) sb nT1
    refine ⟨fo, _, _, rfl, rfl, st _ _ f1, (by show 0 < sizeLine; decide), ?_⟩
    have nlaf : la ≠ fo := fun e => by rw [e, f1] at nla; cases nla
    have nlbf : lb ≠ fo := fun e => by rw [e, sa _ _ f1] at nlb; cases nlb
    have nT1a : T1 ≠ la := fun e => by
      rw [e, upd_ne nlba.symm, upd_same] at nT1
      cases nT1
    have nT1b : T1 ≠ lb := fun e => by rw [e, upd_same] at nT1; cases nT1
    have t5 := tups_lst (o := .lst [.ref T1]) (st _ _ f1)
    obtain ⟨H5, hH5⟩ : ∃ H5, H5 = upd (upd (upd (upd H1 la (.lst [])) lb (.lst (ks.map fun p => V.ref p.2))) T1 (.tup [.ref la, .ref lb])) fo (.lst [.ref T1]) := ⟨_, rfl⟩
    have k5 : ∀ c u, c ≠ fo → H c = some u → H5 c = some u := fun c u n z => by rw [hH5, upd_ne n]; exact st _ _ (k1 c u n z)
    have tt5 : Tups H H5 := by rw [hH5]; exact (t1.trans (Tups.of st)).trans t5
    have fk5 : FkAt K H5 fo [.ref T1] .els := by
      rw [hH5]
      refine ⟨T1, la, lb, rfl, sqt_tups t5 (SqT.of upd_same), ?_, ?_, nlaf, nlbf⟩
      · exact ⟨[], by rw [upd_ne nlaf, upd_ne nT1a.symm, upd_ne nlba.symm, upd_same], (by show 0 ≤ 1; decide), fun v hv => by cases hv⟩
      · exact wlb.keep (by rw [upd_ne nlbf, upd_ne nT1b.symm]) ((tups_new nT1).trans t5)
    have f5 : H5 fo = some (.lst [.ref T1]) := by rw [hH5]; exact upd_same
    have b5 : Bt wk fo H H5 := by rw [hH5]; exact (b1'.trans (Bt.of st)).trans Bt.r
    subst hH5
    refine ⟨_, rfl, l1, rfl, ⟨xs1, SqL.of (k5 _ _ n1 e1)⟩, ?_⟩
    refine fun D nD sm => ndc_id (i := 5) (k5 _ _ n1 e1) (fun v hv => NV.keep tt5 _ _ (w1 v hv)) nD sm (fun v => rfl) (fun v => rfl) fun G2 js s2 N j0 j1 => ?_
    refine ⟨_, rfl, wk, C, dx, _, rfl, s2 _ _ (k5 _ _ nwf h1), T.cl, T.nw, (by show 5 < 1000; decide), q _ ((b5.trans (Bt.of s2)).trans Bt.l) ?_⟩
    exact WS.ways (s2 _ _ (k5 _ _ nwf h1)) (s2 _ _ (k5 _ _ ne.symm h2)) (s2 _ _ f5) (fk5.move (Tups.of s2) fun l ys _ z => s2 _ _ z) ne N j0 j1
  · obtain ⟨T0, l1, l2, rfl, hT0, ⟨xs1, e1, c1, w1⟩, ⟨xs2, e2, c2, w2⟩, n1, n2⟩ : ∃ T l1 l2, fs = [.ref T] ∧ SqT K H T [.ref l1, .ref l2] ∧ WL K H 1 l1 ∧ WL K H 1 l2 ∧ l1 ≠ fo ∧ l2 ≠ fo := by
      cases o with
      | no => exact absurd rfl hno
      | yes => exact h7
      | els => exact h7
    refine ⟨_, rfl, r, CR, dxr, _, _, rfl, er, R.cl, R.nw, rfl, rfl, _, rfl, iteBF (by decide +kernel) ?_⟩
    refine ⟨_, rfl, r, CR, dxr, _, _, rfl, er, R.cl, R.nw, rfl, rfl, _, rfl, iteBF (by decide +kernel) ?_⟩
    refine ⟨_, rfl, wk, C, dx, _, _, rfl, h1, T.cl, T.nf, rfl, .inl ⟨rfl, _, SqL.of h6⟩, fo, _, .ref T0, rfl, rfl, h6, rfl, ?_⟩
    obtain ⟨H1, hH1⟩ : ∃ H1, H1 = upd H fo (.lst (([.ref T0] : List V).dropLast)) := ⟨_, rfl⟩
    have t1 : Tups H H1 := by rw [hH1]; exact tups_lst h6
    have k1 : ∀ c u, c ≠ fo → H c = some u → H1 c = some u := fun c u n z => by rw [hH1, upd_ne n]; exact z
    have f1 : H1 fo = some (.lst []) := by rw [hH1]; exact upd_same
    have b1' : Bt wk fo H H1 := by rw [hH1]; exact Bt.r
    have ND1 : ND P w K H1 wy ks := nd_move h3 (by rw [hH1]; exact upd_ne nyf) t1
    rw [← hH1]
    clear hH1
    refine ⟨T0, _, rfl, sqt_tups t1 hT0, rfl, _, _, rfl, _, _, rfl, rfl, ?_⟩
    refine ⟨_, rfl, wk, C, dx, _, _, rfl, k1 _ _ nwf h1, T.cl, T.nw, rfl, wy, ks, rfl, ND1, fun l nl => ?_⟩
    have wl := wl_mem (ways_wl ND1 h4 h5 nl) upd_same
    have sl := new_same (o := .lst (ks.map fun p => V.ref p.2)) nl
    have lk : (ks.map fun p => V.ref p.2).length ≤ 1 := wl.1
    refine ⟨_, rfl, l, l1, _, _, rfl, rfl, upd_same, sl _ _ (k1 _ _ n1 e1), Nat.le_trans (Nat.add_le_add lk c1) (by decide), fun p np => ?_⟩
    have sp := same_new (o := .lst ((ks.map fun p => V.ref p.2) ++ xs1)) sl np
    refine ⟨_, rfl, p, l2, _, _, rfl, rfl, upd_same, sp _ _ (k1 _ _ n2 e2), (by rw [List.length_append]; exact Nat.le_trans (Nat.add_le_add (Nat.add_le_add lk c1) c2) (by decide)), fun p2 np2 => ?_⟩
    have sp2 := same_new (o := .lst (((ks.map fun p => V.ref p.2) ++ xs1) ++ xs2)) sp np2
    have tt := (tups_new nl (o := .lst (ks.map fun p => V.ref p.2))).trans ((tups_new np (o := .lst ((ks.map fun p => V.ref p.2) ++ xs1))).trans (tups_new np2 (o := .lst (((ks.map fun p => V.ref p.2) ++ xs1) ++ xs2))))
    refine ⟨p2, rfl, ⟨_, SqL.of upd_same⟩, fun D nD sm => ndc_id (i := 5) upd_same (fun v hv => ?_) nD sm (fun v => rfl) (fun v => rfl) fun G2 js s2 N j0 j1 => ?_⟩
    · rcases List.mem_append.mp hv with hv | hv
      · rcases List.mem_append.mp hv with hv | hv
        · exact NV.keep ((tups_new np).trans (tups_new np2)) _ _ (wl.2 v hv)
        · exact NV.keep (t1.trans tt) _ _ (w1 v hv)
      · exact NV.keep (t1.trans tt) _ _ (w2 v hv)
    · have s12 := sp2.trans s2
      refine ⟨_, rfl, wk, C, dx, _, rfl, s12 _ _ (k1 _ _ nwf h1), T.cl, T.nw, (by show 5 < 1000; decide), q _ ((b1'.trans (Bt.of s12)).trans Bt.l) ?_⟩
      exact WS.ways (s12 _ _ (k1 _ _ nwf h1)) (s12 _ _ (k1 _ _ ne.symm h2)) (s12 _ _ f1) rfl ne N j0 j1
end
end H1
namespace H1
open PySem PySem.Spec PyProof.Rows L2 Hx Nd Dun
section
variable {P : Program} {w : World} {K : PySem.W.Frag} {mg : Str → Option Value} {base : Heap} {D : Addr}
/-! #### step -/
abbrev psST : List Str := ["self", "line", "row"]
def spStep (P : Program) (w : World) (K : PySem.W.Frag) (C CR : Addr) : Sp := fun vs H Q _ => ∃ (wk br fo r : Addr) (kd n : V) (t : Tk) (o o' : On), vs = [.ref wk, n, .ref r] ∧ RowAt K CR H r t ∧ stp o t = some o' ∧ WS P w K C H wk br fo kd o ∧ ∀ H', Bt wk fo H H' → WS P w K C H' wk br fo kd o' → Q .non H'
theorem ok_step {C CR fI tt aL : Addr} {m : Nat → Addr} (T : WalkT K mg C m) (R : RowT K mg CR fI tt) (cL : TupT K mg "LOOPS" aL loopsV) {d4 d5 : FuncData}
    (F4 : Fun K "fork" "Walk.fork" s_Walk_fork (m 4) d4) (b4 : Binds K d4 psFK []) (G4 : FnOk P w K mg base CX0 2 (m 4) d4 psFK (spFork P w K C CR))
    (F5 : Fun K "pass_line" "Walk.pass_line" s_Walk_pass_line (m 5) d5) (b5 : Binds K d5 psPL []) (G5 : FnOk P w K mg base CX0 2 (m 5) d5 psPL (spPass P w K C)) :
    ∃ fd, Fun K "step" "Walk.step" s_Walk_step (m 1) fd ∧ Binds K fd psST [] ∧ FnOk P w K mg base CX0 3 (m 1) fd psST (spStep P w K C CR) := by
  obtain ⟨fd, F, b⟩ := T.f1.fn
  refine ⟨fd, F, b, F.ok c_Walk_step (fun vs H Q E h => ?_) (fun cdv A outer s H vs Q E hr h => ?_)⟩
  · obtain ⟨wk, br, fo, r, kd, n, t, o, o', rfl, _⟩ := h
    rfl
  obtain ⟨wk, br, fo, r, kd, n, t, o, o', rfl, hrow, hst, hw, q⟩ := h
  refine ⟨_, pss_one (ps_if (pt_cmpR op_in_seq (pe_fld (pv 2) rfl) (pe_glob (v := .ref aL) rfl cL.g rfl) rfl) (pss_one ps_never)
    (pss_one (ps_if (pt_cmpR op_ne (pe_fld (pv 2) rfl) pe_str (nomark _)) (pss_one ps_never)
    (pss_one (ps_if (pt_cmpR op_in_seq (pe_fld (pv 2) rfl) (pe_tup (pa_cons pe_str (pa_cons pe_str (pa_cons pe_str pa_nil)))) rfl) (pss_one (ps_expr (pe_meth (pv 0) T.cl T.f4.m G4 hr b4 .nil pass0 (pa_cons (pv 1) (pa_cons (pv 2) pa_nil)))))
      (pss_one (ps_expr (pe_meth (pv 0) T.cl T.f5.m G5 hr b5 .nil pass0 (pa_cons (pv 1) (pa_cons (pe_fld (pv 2) rfl) pa_nil)))))))))), ?_⟩
  obtain ⟨⟨dx, wy, ks, fs, h1, h2, h3, h4, h5, h6, h7⟩, ne⟩ := id hw
  obtain ⟨dxr, ttr, nu, er, ht⟩ := id hrow
  have cls : inV (V.str t.word) loopsV = false ∧ ((inV (V.str t.word) [.str "if", .str "else", .str "end"] = true ∧ (t.word = "if" ∧ (t = .ifi ∨ t = .ifb) ∧ o = .no ∧ o' = .yes ∨ t = .els ∧ o = .yes ∧ o' = .els ∨ t = .fin ∧ o ≠ .no ∧ o' = .no)) ∨ (inV (V.str t.word) [.str "if", .str "else", .str "end"] = false ∧ t.word ∈ freeW ∧ o' = o)) := by
    cases t with
    | tell => cases hst; exact ⟨by decide +kernel, .inr ⟨by decide +kernel, by decide +kernel, rfl⟩⟩
    | grab => cases hst; exact ⟨by decide +kernel, .inr ⟨by decide +kernel, by decide +kernel, rfl⟩⟩
    | note => cases hst; exact ⟨by decide +kernel, .inr ⟨by decide +kernel, by decide +kernel, rfl⟩⟩
    | quit => cases hst; exact ⟨by decide +kernel, .inr ⟨by decide +kernel, by decide +kernel, rfl⟩⟩
    | ifi => cases o <;> cases hst; exact ⟨by decide +kernel, .inl ⟨by decide +kernel, .inl ⟨rfl, .inl rfl, rfl, rfl⟩⟩⟩
    | ifb => cases o <;> cases hst; exact ⟨by decide +kernel, .inl ⟨by decide +kernel, .inl ⟨rfl, .inr rfl, rfl, rfl⟩⟩⟩
    | els => cases o <;> cases hst; exact ⟨by decide +kernel, .inl ⟨by decide +kernel, .inr (.inl ⟨rfl, rfl, rfl⟩)⟩⟩
    | fin =>
      cases o with
      | no => cases hst
      | yes => cases hst; exact ⟨by decide +kernel, .inl ⟨by decide +kernel, .inr (.inr ⟨rfl, (fun z => by cases z), rfl⟩)⟩⟩
      | els => cases hst; exact ⟨by decide +kernel, .inl ⟨by decide +kernel, .inr (.inr ⟨rfl, (fun z => by cases z), rfl⟩)⟩⟩
  obtain ⟨c1, c2⟩ := cls
  refine ⟨_, rfl, r, CR, dxr, _, _, rfl, er, R.cl, R.nw, rfl, aL, _, rfl, .inr (cL.s _), rfl, rfl, _, rfl, iteBF c1 ?_⟩
  refine ⟨_, rfl, r, CR, dxr, _, _, rfl, er, R.cl, R.np, rfl, rfl, _, rfl, iteBF (by decide +kernel) ?_⟩
  refine ⟨_, rfl, r, CR, dxr, _, _, rfl, er, R.cl, R.nw, rfl, (by show 3 ≤ sizeLine; decide), fun u nu => ⟨u, _, rfl, .inr (SqT.of upd_same), rfl, rfl, _, rfl, ?_⟩⟩
  have su := new_same (o := .tup [.str "if", .str "else", .str "end"]) nu
  rcases c2 with ⟨c3, hot⟩ | ⟨c3, hf, rfl⟩
  · refine iteBT c3 ?_
    exact ⟨_, rfl, wk, dx, _, rfl, su _ _ h1, rfl, _, rfl, _, rfl, wk, br, fo, r, kd, n, t, o, o', rfl, hrow.keep su, hot, hw.keep su, fun H' bt w' => q H' ((Bt.of su).trans bt) w'⟩
  · refine iteBF c3 ?_
    exact ⟨_, rfl, wk, dx, _, rfl, su _ _ h1, rfl, _, rfl, _, rfl, r, CR, dxr, _, _, rfl, su _ _ er, R.cl, R.nw, rfl, wk, br, fo, kd, n, t.word, o', rfl, hf, hw.keep su, fun H' bt w' => q H' ((Bt.of su).trans bt) w'⟩
/-! #### least_break -/
abbrev psLB : List Str := ["kind", "rows"]
def spLeast (K : PySem.W.Frag) (CR : Addr) : Sp := fun vs H Q _ => ∃ (l : Addr) (kd : V) (rs : List Addr) (ts : List Tk), vs = [kd, .ref l] ∧ H l = some (.lst (rs.map V.ref)) ∧ rs.length = ts.length ∧ RowsAt K CR H rs ts ∧ run .no ts = some .no ∧ ∀ H', Same H H' → Q .non H'
theorem Bt.same {a b : Addr} {H0 H H' : Hp} (x : Bt a b H H') (s : Same H0 H) (na : H0 a = none) (nb : H0 b = none) : Same H0 H' := fun c u z => x c u (fun e => by rw [e, na] at z; cases z) (fun e => by rw [e, nb] at z; cases z) (s c u z)
theorem ok_least {f C CR fI tt aF : Addr} {m : Nat → Addr} (T0 : FT K mg "least_break" s_least_break psLB f) (T : WalkT K mg C m) (R : RowT K mg CR fI tt) (cF : FreshT K mg aF) (lst : mg "list" = none) (enu : mg "enumerate" = none) (mn : mg "min" = none) {d1 : FuncData}
    (F1 : Fun K "step" "Walk.step" s_Walk_step (m 1) d1) (b1 : Binds K d1 psST []) (G1 : FnOk P w K mg base CX0 3 (m 1) d1 psST (spStep P w K C CR)) :
    ∃ fd, Fun K "least_break" "least_break" s_least_break f fd ∧ Binds K fd psLB [] ∧ FnOk P w K mg base CX0 4 f fd psLB (spLeast K CR) := by
  obtain ⟨fd, F, b⟩ := T0.fn
  obtain ⟨d6, F6, b6, G6⟩ := ok_end (P := P) (w := w) (base := base) T lst
  obtain ⟨d0, F0, b0⟩ := T.f0
  refine ⟨fd, F, b, F.ok c_least_break (fun vs H Q E h => ?_) (fun cdv A outer s H vs Q E hr h => ?_)⟩
  · obtain ⟨l, kd, rs, ts, rfl, _⟩ := h
    rfl
  obtain ⟨l, kd, rs, ts, rfl, hl, hlen, hrow, hrun, q⟩ := h
  refine ⟨_, pss_cons (ps_set (i := 2) c_least_break.nd rfl (Or.inl rfl) (pe_make T.mak (ok_Walk T cF F0) (hr.mono (by decide)) rfl T.g b0 .nil pass0 (pa_cons (pv 0) pa_nil)))
    (pss_cons (ps_for PassesOwn.never rfl (Nd.pi_from enu (by decide) (by decide) (pa_cons (pv 1) pa_nil)) (pg_tup rfl (pgs_cons (pg_name (i := 3) c_least_break.nd rfl (Or.inl rfl)) (pgs_cons (pg_name (i := 4) c_least_break.nd rfl (Or.inl rfl)) pgs_nil)))
      (pss_one (ps_expr (pe_meth (pv 2) T.cl T.f1.m G1 hr b1 .nil pass0 (pa_cons (pv 3) (pa_cons (pv 4) pa_nil))))))
    (pss_cons (ps_expr (pe_meth0 (pv 2) T.cl T.f6.m G6 (hr.mono (by decide)) b6 .nil pass0))
    (pss_one (ps_ret (pe_callBK (Nd.call_min0 rfl hr.units) rfl mn (by decide +kernel) (pa_cons (pe_fld (pv 2) rfl) pa_nil) (pk_cons pe_non pk_nil)))))), ?_⟩
  refine ⟨_, rfl, fun wk dx nwk nd nw => ⟨wk, dx, kd, rfl, upd_same, fun H1 br fo b1' nbr nfo w1 => ⟨rfl, ?_⟩⟩⟩
  have nwk' : upd H dx (.own wk) wk = none := by rw [upd_ne nw.symm]; exact nwk
  have sH : Same H (upd (upd H dx (.own wk)) wk (.ins C dx [])) := same_new (new_same nd) nwk'
  have s1 : Same H H1 := fun c u z => b1' c u (ne_of_none z nwk) (sH c u z)
  have nfoH : H fo = none := free_same sH nfo
  refine ⟨_, rfl, l, _, rfl, SqL.of (s1 _ _ hl), for_from (K := K) (a := l) (xs := rs.map V.ref) (fun i σ G => ∃ (o : On) (v3 v4 : Option V), σ = [some kd, some (.ref l), some (.ref wk), v3, v4] ∧ Same H G ∧ WS P w K C G wk br fo kd o ∧ run o (ts.drop i) = some .no)
    ⟨.no, none, none, rfl, s1, w1, hrun⟩ ?_ ?_ ?_⟩
  · rintro i σ G _ ⟨o, v3, v4, rfl, sG, _⟩
    exact SqL.of (sG _ _ hl)
  · rintro i x σ G Tp hi ⟨o, v3, v4, rfl, sG, wG, hrun⟩ nT
    rw [List.getElem?_map] at hi
    cases hri : rs[i]? with
    | none => rw [hri] at hi; cases hi
    | some r =>
      rw [hri] at hi
      cases hi
      have hlt : i < ts.length := by rw [← hlen]; exact (List.getElem?_eq_some_iff.mp hri).1
      have hti : ts[i]? = some ts[i] := List.getElem?_eq_getElem hlt
      have hd : ts.drop i = ts[i] :: ts.drop (i + 1) := List.drop_eq_getElem_cons hlt
      rw [hd] at hrun
      obtain ⟨o', hst, hrun'⟩ := Option.bind_eq_some_iff.mp hrun
      have sT := new_same (o := .tup [.int (1 + (i : Int)), .ref r]) nT
      obtain ⟨⟨dxw, wy, ks, fs, h1, _⟩, _⟩ := id wG
      refine ⟨Tp, _, rfl, SqT.of upd_same, rfl, _, _, rfl, _, _, rfl, rfl, ?_⟩
      refine ⟨_, rfl, wk, dxw, _, rfl, sT _ _ h1, rfl, _, rfl, _, rfl, wk, br, fo, r, kd, _, ts[i], o, o', rfl, (hrow i r _ hri hti).keep (sG.trans sT), hst, wG.keep sT, fun G2 bt w2 => ?_⟩
      exact ⟨o', _, _, rfl, bt.same (sG.trans sT) nwk nfoH, w2, hrun'⟩
  · rintro σ G ⟨o, v3, v4, rfl, sG, wG, hrun⟩
    obtain ⟨⟨dxw, wy, ks, fs, h1, _⟩, _⟩ := id wG
    refine ⟨_, rfl, wk, dxw, _, rfl, h1, rfl, wk, br, fo, kd, o, rfl, wG, fun G2 bt w2 => ?_⟩
    obtain ⟨⟨dxw, wy, ks, fs, h1, h2, _⟩, _⟩ := id w2
    exact ⟨_, rfl, wk, C, dxw, _, _, rfl, h1, T.cl, T.nb, rfl, br, .non, rfl, rfl, SqL.of h2, q _ (bt.same sG nwk nfoH)⟩
end
end H1
namespace H1
open PySem PySem.Spec PyProof.Rows L2 Hx Nd Dun
section
variable {P : Program} {w : World} {K : PySem.W.Frag} {mg : Str → Option Value} {base : Heap} {D : Addr}
/-! ### what the flow's parts need -/
theorem strV {a b : Str} : decide (V.str a = V.str b) = decide (a = b) := by
  by_cases h : a = b
  · rw [h]; simp
  · rw [decide_eq_false h, decide_eq_false fun z => h (V.str.inj z)]
theorem if_with {c : TT} {t u : TS} {D : Ends} {σ : L2.St} {H : Hp} {S : Hp → Prop} (h0 : ∀ G, S G → u D σ G) (h : (∀ G, S G → u D σ G) → tIfS c t u D σ H) : tIfS c t u D σ H := h h0
def isLoop (x : Str) : Bool := inV (.str x) loopsV
theorem big {n : Nat} (h : n ≤ 4000000) : n < sizeLine := Nat.lt_of_le_of_lt h (by decide)
theorem made_row {H G : Hp} {C p dx : Addr} (s : Same H G) (np : G p = none) (nd : G dx = none) (ne : dx ≠ p) {o : HO} : Same H (upd (upd G dx (.own p)) p o) := same_new (same_new s nd) (by rw [upd_ne ne.symm]; exact np)
theorem iteB {b : Bool} {A B : Prop} (h1 : b = true → A) (h2 : b = false → B) : if b = true then A else B := by
  cases b with
  | true => exact h1 rfl
  | false => exact h2 rfl
end
end H1
namespace H1
open PySem PySem.Spec PyProof.Rows L2 Hx Nd Dun
section
variable {P : Program} {w : World} {K : PySem.W.Frag} {mg : Str → Option Value} {base : Heap} {D : Addr}
/-! ### the blocks of a text, as depths -/
def balF : Nat → List Str → Option Nat
  | d, [] => some d
  | d, x :: r => if (decide (x = "if") || isLoop x) = true then balF (d + 1) r
      else if x = "else" then (if d = 0 then none else balF d r)
      else if x = "end" then (if d = 0 then none else balF (d - 1) r)
      else balF d r
/-! ### the dicts of blocks -/
abbrev kI (n : Nat) : Key := Sum.inl (n : Int)
theorem valV_mem {kvs : List (Key × V)} {k : Key} {v : V} : valV kvs k = some v → (k, v) ∈ kvs := by
  induction kvs with
  | nil => intro h; rw [valV_nil] at h; cases h
  | cons p r ih =>
    intro h
    by_cases e : p.1 = k
    · rw [valV_pos e] at h
      cases h
      rw [← e]
      exact List.mem_cons_self
    · rw [valV_neg e] at h
      exact List.mem_cons_of_mem _ (ih h)
theorem mem_put {kvs : List (Key × V)} {k : Key} {v : V} {kv : Key × V} (h : kv ∈ putK kvs k v) : kv ∈ kvs ∨ kv = (k, v) := by
  unfold putK at h
  split at h
  · obtain ⟨z, hz, rfl⟩ := List.mem_map.mp h
    split
    · rename_i c
      exact .inr (by rw [c])
    · exact .inl hz
  · rcases List.mem_append.mp h with h | h
    · exact .inl h
    · exact .inr (List.mem_singleton.mp h)
theorem put_len {kvs : List (Key × V)} {k : Key} {v : V} : (putK kvs k v).length ≤ kvs.length + 1 := by
  unfold putK
  split
  · rw [List.length_map]; omega
  · rw [List.length_append]; exact Nat.le_refl _
structure BI (i : Nat) (hk ek : List (Key × V)) (os : List Nat) : Prop where
  hh : ∀ kv ∈ hk, ∃ jn hn : Nat, kv = (kI jn, .int (hn : Int)) ∧ jn < i ∧ hn < i ∧ (hn ∈ os ∨ ∃ en : Nat, valV ek (kI hn) = some (.int (en : Int)) ∧ jn ≤ en ∧ en < i)
  ee : ∀ kv ∈ ek, ∃ hn en : Nat, kv = (kI hn, .int (en : Int)) ∧ hn < i ∧ en < i
  oo : ∀ h ∈ os, h < i
  hl : hk.length ≤ i
  el : ek.length ≤ i
  ol : os.length ≤ i
theorem BI.start : BI 0 [] [] [] := ⟨fun _ h => (List.not_mem_nil h).elim, fun _ h => (List.not_mem_nil h).elim, fun _ h => (List.not_mem_nil h).elim, Nat.le_refl _, Nat.le_refl _, Nat.le_refl _⟩
section
variable {i : Nat} {hk ek : List (Key × V)} {os : List Nat} {h : Nat}
theorem BI.skip (b : BI i hk ek os) : BI (i + 1) hk ek os := by
  refine ⟨fun kv hkv => ?_, fun kv hkv => ?_, fun h hh => ?_, Nat.le_succ_of_le b.hl, Nat.le_succ_of_le b.el, Nat.le_succ_of_le b.ol⟩
  · obtain ⟨jn, hn, e, h1, h2, h3⟩ := b.hh kv hkv
    exact ⟨jn, hn, e, by omega, by omega, h3.elim .inl fun ⟨en, a, c, d⟩ => .inr ⟨en, a, c, by omega⟩⟩
  · obtain ⟨hn, en, e, h1, h2⟩ := b.ee kv hkv
    exact ⟨hn, en, e, by omega, by omega⟩
  · have := b.oo h hh
    omega
theorem BI.push (b : BI i hk ek os) : BI (i + 1) hk ek (os ++ [i]) := by
  have c := b.skip
  refine ⟨fun kv hkv => ?_, c.ee, fun h hh => ?_, c.hl, c.el, by rw [List.length_append]; exact Nat.succ_le_succ b.ol⟩
  · obtain ⟨jn, hn, e, h1, h2, h3⟩ := c.hh kv hkv
    exact ⟨jn, hn, e, h1, h2, h3.elim (fun z => .inl (List.mem_append_left _ z)) .inr⟩
  · rcases List.mem_append.mp hh with hh | hh
    · exact c.oo h hh
    · rw [List.mem_singleton.mp hh]; omega
theorem BI.other (b : BI i hk ek (os ++ [h])) : BI (i + 1) (putK hk (kI i) (.int (h : Int))) ek (os ++ [h]) := by
  have c := b.skip
  have hi := b.oo h (List.mem_append_right _ List.mem_cons_self)
  refine ⟨fun kv hkv => ?_, c.ee, c.oo, Nat.le_trans put_len (Nat.succ_le_succ b.hl), c.el, c.ol⟩
  rcases mem_put hkv with hkv | hkv
  · exact c.hh kv hkv
  · exact ⟨i, h, hkv, by omega, by omega, .inl (List.mem_append_right _ List.mem_cons_self)⟩
theorem BI.close (b : BI i hk ek (os ++ [h])) : BI (i + 1) (putK hk (kI i) (.int (h : Int))) (putK ek (kI h) (.int (i : Int))) os := by
  have c := b.skip
  have hi := b.oo h (List.mem_append_right _ List.mem_cons_self)
  have hol := b.ol
  rw [List.length_append] at hol
  have hv : valV (putK ek (kI h) (.int (i : Int))) (kI h) = some (.int (i : Int)) := by rw [valV_put, if_pos rfl]
  refine ⟨fun kv hkv => ?_, fun kv hkv => ?_, fun z hz => c.oo z (List.mem_append_left _ hz), Nat.le_trans put_len (Nat.succ_le_succ b.hl), Nat.le_trans put_len (Nat.succ_le_succ b.el), by omega⟩
  · rcases mem_put hkv with hkv | hkv
    · obtain ⟨jn, hn, e, h1, h2, h3⟩ := b.hh kv hkv
      refine ⟨jn, hn, e, by omega, by omega, ?_⟩
      by_cases hz : hn = h
      · rw [hz]
        exact .inr ⟨i, hv, by omega, by omega⟩
      · rcases h3 with h3 | ⟨en, a, c, d⟩
        · rcases List.mem_append.mp h3 with h3 | h3
          · exact .inl h3
          · exact absurd (List.mem_singleton.mp h3) hz
        · refine .inr ⟨en, ?_, c, by omega⟩
          rw [valV_put, if_neg ?_]
          · exact a
          · intro z
            have := Sum.inl.inj z
            omega
    · exact ⟨i, h, hkv, by omega, by omega, .inr ⟨i, hv, Nat.le_refl _, by omega⟩⟩
  · rcases mem_put hkv with hkv | hkv
    · exact c.ee kv hkv
    · exact ⟨h, i, hkv, by omega, by omega⟩
end
/-- what the dicts tell of n rows -/
structure FlowOk (n : Nat) (hk ek : List (Key × V)) : Prop where
  hh : ∀ kv ∈ hk, ∃ jn hn en : Nat, kv = (kI jn, .int (hn : Int)) ∧ jn < n ∧ hn < n ∧ valV ek (kI hn) = some (.int (en : Int)) ∧ jn ≤ en ∧ en < n
  ee : ∀ kv ∈ ek, ∃ hn en : Nat, kv = (kI hn, .int (en : Int)) ∧ hn < n ∧ en < n
theorem BI.done {i : Nat} {hk ek : List (Key × V)} (b : BI i hk ek []) : FlowOk i hk ek := by
  refine ⟨fun kv hkv => ?_, b.ee⟩
  obtain ⟨jn, hn, e, h1, h2, h3⟩ := b.hh kv hkv
  rcases h3 with h3 | ⟨en, a, c, d⟩
  · cases h3
  · exact ⟨jn, hn, en, e, h1, h2, a, c, d⟩
end
end H1
namespace H1
open PySem PySem.Spec PyProof.Rows L2 Hx Nd Dun
section
variable {P : Program} {w : World} {K : PySem.W.Frag} {mg : Str → Option Value} {base : Heap} {D : Addr}
/-! ### match_blocks -/
/-- a row with this word -/
def RowW (K : PySem.W.Frag) (C : Addr) (H : Hp) (r : Addr) (x : Str) : Prop := ∃ (dx : Addr) (fs : List (Str × V)), H r = some (.ins C dx fs) ∧ fs.lookup ("word" : Str) = some (V.str x)
def RowsW (K : PySem.W.Frag) (C : Addr) (H : Hp) (rs : List Addr) (wr : List Str) : Prop := rs.length = wr.length ∧ ∀ (i : Nat) (r : Addr) (x : Str), rs[i]? = some r → wr[i]? = some x → RowW K C H r x
theorem RowW.keep {C r : Addr} {x : Str} {H H' : Hp} (h : RowW K C H r x) (e : Same H H') : RowW K C H' r x := by
  obtain ⟨dx, fs, h1, h2⟩ := h
  exact ⟨dx, fs, e _ _ h1, h2⟩
theorem RowsW.keep {C : Addr} {rs : List Addr} {wr : List Str} {H H' : Hp} (h : RowsW K C H rs wr) (e : Same H H') : RowsW K C H' rs wr := ⟨h.1, fun i r x a b => (h.2 i r x a b).keep e⟩
def intsN (os : List Nat) : List V := os.map fun (n : Nat) => V.int (n : Int)
def spMB (K : PySem.W.Frag) (C : Addr) : Sp := fun vs H Q _ => ∃ (t : Addr) (rs : List Addr) (wr : List Str), vs = [.ref t] ∧ SqT K H t (rs.map V.ref) ∧ RowsW K C H rs wr ∧ wr.length ≤ 900 ∧ balF 0 wr = some 0 ∧
  ∀ H' t' he en hk ek, Same H H' → SqT K H' t' [.ref he, .ref en] → H' he = some (.dK hk) → H' en = some (.dK ek) → he ≠ en → H he = none → H en = none → FlowOk rs.length hk ek → Q (.ref t') H'
theorem ok_mb {f CR fI tt aL : Addr} (T : FT K mg "match_blocks" s_match_blocks ["rows"] f) (R : RowT K mg CR fI tt) (cL : TupT K mg "LOOPS" aL loopsV) (enu : mg "enumerate" = none) :
    ∃ fd, Fun K "match_blocks" "match_blocks" s_match_blocks f fd ∧ Binds K fd ["rows"] [] ∧ FnOk P w K mg base CX0 1 f fd ["rows"] (spMB K CR) := by
  obtain ⟨fd, F, b⟩ := T.fn
  refine ⟨fd, F, b, F.ok c_match_blocks (fun vs H Q E h => ?_) (fun cdv A outer s H vs Q E hr h => ?_)⟩
  · obtain ⟨t, rs, wr, rfl, _⟩ := h
    rfl
  obtain ⟨t, rs, wr, rfl, ht, hrs, hlen, hbal, q⟩ := h
  have hu := hu_of hr
  refine ⟨_, pss_cons (ps_set (i := 1) c_match_blocks.nd rfl (Or.inl rfl) pe_dnewK) <| pss_cons (ps_set (i := 2) c_match_blocks.nd rfl (Or.inl rfl) pe_dnewK) <| pss_cons (ps_set (i := 3) c_match_blocks.nd rfl (Or.inl rfl) (pe_lst pa_nil)) <|
    pss_cons (ps_for PassesOwn.never rfl (Nd.pi_enumT (by rfl) enu (pa_cons (pv 0) pa_nil)) (pg_tup rfl (pgs_cons (pg_name (i := 4) c_match_blocks.nd rfl (Or.inl rfl)) (pgs_cons (pg_name (i := 5) c_match_blocks.nd rfl (Or.inl rfl)) pgs_nil)))
      (pss_one (ps_if (PW.pt (pw_or (pt_cmpR op_eq (pe_fld (pv 5) rfl) pe_str (nomark _)) (pw_or1 (pt_cmpR op_in_seq (pe_fld (pv 5) rfl) (pe_glob (v := .ref aL) rfl cL.g rfl) rfl))))
        (pss_one (ps_expr (pe_bm PySem.F.plainAttrs_list PySem.F.slot_list_append PySem.F.type_list_append mt_append (pv 3) (pa_cons (pv 4) pa_nil))))
        (pss_one (ps_if (pt_cmpR op_eq (pe_fld (pv 5) rfl) pe_str (nomark _)) (pss_one (ps_dput hu (pv 1) (pv 4) (pe_ix ix_list (pv 3) (pe_un un_neg pe_int) (fun _ _ => rfl)) rfl))
          (pss_one (ps_if (pt_cmpR op_eq (pe_fld (pv 5) rfl) pe_str (nomark _)) (pss_cons (ps_dput hu (pv 1) (pv 4) (pe_bm0 PySem.F.plainAttrs_list PySem.F.slot_list_pop PySem.F.type_list_pop mt_pop (pv 3)) rfl) (pss_one (ps_dput hu (pv 2) (pe_dget hu (pv 1) (pv 4) (fun _ _ => rfl)) (pv 4) rfl))) pss_nil))))))) <|
    pss_one (ps_ret (pe_tup (pa_cons (pv 1) (pa_cons (pv 2) pa_nil)))), ?_⟩
  refine fun he nhe => fun en nen => ⟨Nat.zero_le _, fun op nop => ?_⟩
  obtain ⟨nen1, nee⟩ := free_upd nen
  obtain ⟨nop1, nope⟩ := free_upd nop
  obtain ⟨nop2, noph⟩ := free_upd nop1
  have s3 : Same H (upd (upd (upd H he (.dK [])) en (.dK [])) op (.lst [])) := same_new (same_new (new_same nhe) nen) nop
  refine ⟨_, rfl, t, _, rfl, sqt_same s3 ht, Nd.for_enumT (K := K) (a := t) (xs := rs.map V.ref) (fun i σ G => ∃ (hk ek : List (Key × V)) (os : List Nat) (v4 v5 : Option V), σ = [some (.ref t), some (.ref he), some (.ref en), some (.ref op), v4, v5] ∧ Same H G ∧ G he = some (.dK hk) ∧ G en = some (.dK ek) ∧ G op = some (.lst (intsN os)) ∧ BI i hk ek os ∧ balF os.length (wr.drop i) = some 0)
    ⟨[], [], [], none, none, rfl, s3, by rw [upd_ne noph.symm, upd_ne nee.symm, upd_same], by rw [upd_ne nope.symm, upd_same], upd_same, .start, hbal⟩ ?_ ?_ ?_⟩
  · rintro i σ G _ ⟨hk, ek, os, v4, v5, rfl, sG, _⟩
    exact sqt_same sG ht
  · rintro i v σ G T hi ⟨hk, ek, os, v4, v5, rfl, sG, ehe, een, eop, bi, hb⟩ nT
    rw [List.getElem?_map] at hi
    cases hri : rs[i]? with
    | none => rw [hri] at hi; cases hi
    | some r =>
      rw [hri] at hi
      cases hi
      have hil : i < rs.length := (List.getElem?_eq_some_iff.mp hri).1
      have hiw : i < wr.length := by rw [← hrs.1]; exact hil
      obtain ⟨x, hx⟩ : ∃ x, wr[i]? = some x := ⟨_, List.getElem?_eq_getElem hiw⟩
      have hd : wr.drop i = x :: wr.drop (i + 1) := by
        rw [List.drop_eq_getElem_cons hiw, (List.getElem?_eq_some_iff.mp hx).2]
      rw [hd, balF] at hb
      have sT := new_same (o := .tup [.int (i : Nat), .ref r]) nT
      have sGT : Same H (upd G T (.tup [.int (i : Nat), .ref r])) := same_new sG nT
      obtain ⟨dx, fs, hr1, hr2⟩ := (hrs.2 i r x hri hx).keep sGT
      have ehe1 := sT _ _ ehe
      have een1 := sT _ _ een
      have eop1 := sT _ _ eop
      have eT : (upd G T (.tup [.int (i : Nat), .ref r])) T = some (.tup [.int (i : Nat), .ref r]) := upd_same
      generalize upd G T (.tup [.int (i : Nat), .ref r]) = G1 at sGT hr1 ehe1 een1 eop1 eT ⊢
      refine ⟨T, _, rfl, SqT.of eT, rfl, _, _, rfl, _, _, rfl, rfl, ?_⟩
      have nhe1 : he ≠ en := nee.symm
      have nhop : op ≠ he := noph
      have big9 : ∀ {n : Nat}, n ≤ 900 → n < sizeLine := fun h => Nat.lt_of_le_of_lt h (by decide)
      -- the word of the row
      refine ⟨_, rfl, r, CR, dx, fs, _, rfl, hr1, R.cl, R.nw, hr2, rfl, _, rfl, ?_⟩
      rw [strV]
      have push : (decide (x = "if") || isLoop x) = true → BI (i + 1) hk ek (os ++ [i]) ∧ balF (os ++ [i]).length (wr.drop (i + 1)) = some 0 := fun c => by
        rw [if_pos c] at hb
        exact ⟨bi.push, by rw [List.length_append]; exact hb⟩
      have hol : (intsN os).length < sizeLine := by
        unfold intsN
        rw [List.length_map]
        exact big9 (by have := bi.ol; have := hrs.1; omega)
      have appnd : (decide (x = "if") || isLoop x) = true → ∀ G2, Same H G2 → G2 he = some (.dK hk) → G2 en = some (.dK ek) → G2 op = some (.lst (intsN os)) → Same H (upd G2 op (.lst (intsN os ++ [.int (i : Nat)]))) ∧ (upd G2 op (.lst (intsN os ++ [.int (i : Nat)]))) he = some (.dK hk) ∧ (upd G2 op (.lst (intsN os ++ [.int (i : Nat)]))) en = some (.dK ek) ∧ (upd G2 op (.lst (intsN os ++ [.int (i : Nat)]))) op = some (.lst (intsN (os ++ [i]))) := fun _ G2 s2 a1 a2 a3 =>
        ⟨same_out s2 nop2, by rw [upd_ne noph.symm]; exact a1, by rw [upd_ne nope.symm]; exact a2, by rw [upd_same]; unfold intsN; rw [List.map_append]; rfl⟩
      refine iteB (fun h1 => ?_) (fun h1 => ?_)
      · have c : (decide (x = "if") || isLoop x) = true := by rw [h1]; rfl
        obtain ⟨p1, p2⟩ := push c
        obtain ⟨a1, a2, a3, a4⟩ := appnd c G1 sGT ehe1 een1 eop1
        refine ⟨_, rfl, .inl ⟨rfl, _, SqL.of eop1⟩, _, rfl, op, _, _, rfl, rfl, eop1, hol, ?_⟩
        exact ⟨hk, ek, os ++ [i], _, _, rfl, a1, a2, a3, a4, p1, p2⟩
      refine ⟨_, rfl, r, CR, dx, fs, _, rfl, hr1, R.cl, R.nw, hr2, aL, _, rfl, .inr (cL.s _), rfl, rfl, _, rfl, ?_⟩
      refine iteB (fun h2 => ?_) (fun h2 => ?_)
      · have h2' : isLoop x = true := h2
        have c : (decide (x = "if") || isLoop x) = true := by rw [h2', Bool.or_true]
        obtain ⟨p1, p2⟩ := push c
        obtain ⟨a1, a2, a3, a4⟩ := appnd c G1 sGT ehe1 een1 eop1
        refine ⟨_, rfl, .inl ⟨rfl, _, SqL.of eop1⟩, _, rfl, op, _, _, rfl, rfl, eop1, hol, ?_⟩
        exact ⟨hk, ek, os ++ [i], _, _, rfl, a1, a2, a3, a4, p1, p2⟩
      have h2' : isLoop x = false := h2
      have c0 : ¬ (decide (x = "if") || isLoop x) = true := by rw [h1, h2']; decide
      rw [if_neg c0] at hb
      refine ⟨_, rfl, r, CR, dx, fs, _, rfl, hr1, R.cl, R.nw, hr2, rfl, _, rfl, ?_⟩
      rw [strV]
      have hkl : hk.length < sizeLine := big9 (by have := bi.hl; have := hrs.1; omega)
      have ekl : ek.length < sizeLine := big9 (by have := bi.el; have := hrs.1; omega)
      refine iteB (fun h3 => ?_) (fun h3 => ?_)
      · have hx3 : x = "else" := of_decide_eq_true h3
        rw [if_pos hx3] at hb
        by_cases hz : os.length = 0
        · rw [if_pos hz] at hb; cases hb
        rw [if_neg hz] at hb
        obtain ⟨os', h, rfl⟩ : ∃ os' h, os = os' ++ [h] := by
          rcases List.eq_nil_or_concat os with e | ⟨r, z, e⟩
          · rw [e] at hz; exact absurd rfl hz
          · exact ⟨r, z, by rw [e, List.concat_eq_append]⟩
        have hlast : atI (intsN (os' ++ [h])) (-1) = some (.int (h : Int)) := by
          unfold intsN
          rw [List.map_append]
          exact atI_last _ _
        refine ⟨_, rfl, _, rfl, op, _, _, _, rfl, rfl, SqL.of eop1, hlast, _, rfl, _, rfl, he, _, rfl, DPut.k (k := kI i) ehe1 hkl, ?_⟩
        refine ⟨putK hk (kI i) (.int (h : Int)), ek, os' ++ [h], _, _, rfl, same_out sGT nhe, upd_same, by rw [upd_ne nhe1.symm]; exact een1, by rw [upd_ne nhop]; exact eop1, bi.other, hb⟩
      have hx3 : ¬ x = "else" := of_decide_eq_false h3
      rw [if_neg hx3] at hb
      refine ⟨_, rfl, r, CR, dx, fs, _, rfl, hr1, R.cl, R.nw, hr2, rfl, _, rfl, ?_⟩
      rw [strV]
      refine iteB (fun h4 => ?_) (fun h4 => ?_)
      · have hx4 : x = "end" := of_decide_eq_true h4
        rw [if_pos hx4] at hb
        by_cases hz : os.length = 0
        · rw [if_pos hz] at hb; cases hb
        rw [if_neg hz] at hb
        obtain ⟨os', h, rfl⟩ : ∃ os' h, os = os' ++ [h] := by
          rcases List.eq_nil_or_concat os with e | ⟨r, z, e⟩
          · rw [e] at hz; exact absurd rfl hz
          · exact ⟨r, z, by rw [e, List.concat_eq_append]⟩
        have hlen2 : (intsN (os' ++ [h])).length = os'.length + 1 := by unfold intsN; rw [List.length_map, List.length_append]; rfl
        have hget : (intsN (os' ++ [h]))[(intsN (os' ++ [h])).length - 1]? = some (.int (h : Int)) := by
          rw [hlen2, Nat.add_sub_cancel]
          unfold intsN
          rw [List.map_append, List.getElem?_append_right (by rw [List.length_map]; exact Nat.le_refl _), List.length_map, Nat.sub_self]
          rfl
        have hdrop : (intsN (os' ++ [h])).dropLast = intsN os' := by
          unfold intsN
          rw [List.map_append]
          exact List.dropLast_concat
        refine ⟨_, rfl, .inl ⟨rfl, _, SqL.of eop1⟩, op, _, _, rfl, rfl, eop1, hget, ?_⟩
        rw [hdrop]
        have ehe2 : (upd G1 op (.lst (intsN os'))) he = some (.dK hk) := by rw [upd_ne noph.symm]; exact ehe1
        refine ⟨_, rfl, _, rfl, he, _, rfl, DPut.k (k := kI i) ehe2 hkl, ?_⟩
        have hput : valV (putK hk (kI i) (.int (h : Int))) (kI i) = some (.int (h : Int)) := by rw [valV_put, if_pos rfl]
        have een3 : (upd (upd G1 op (.lst (intsN os'))) he (.dK (putK hk (kI i) (.int (h : Int))))) en = some (.dK ek) := by rw [upd_ne nhe1.symm, upd_ne nope.symm]; exact een1
        refine ⟨_, rfl, _, rfl, _, rfl, _, rfl, he, _, rfl, (show DGet _ _ (kV (kI i)) (some (.int (h : Int))) from by rw [← hput]; exact DGet.k upd_same), en, _, rfl, DPut.k (k := kI h) een3 ekl, ?_⟩
        refine ⟨putK hk (kI i) (.int (h : Int)), putK ek (kI h) (.int (i : Int)), os', _, _, rfl, same_out (same_out (same_out sGT nop2) nhe) nen1, by rw [upd_ne nhe1]; exact upd_same, upd_same, by rw [upd_ne nope, upd_ne noph]; exact upd_same, bi.close, ?_⟩
        rw [List.length_append] at hb
        exact hb
      · have hx4 : ¬ x = "end" := of_decide_eq_false h4
        rw [if_neg hx4] at hb
        exact ⟨hk, ek, os, _, _, rfl, sGT, ehe1, een1, eop1, bi.skip, hb⟩
  · rintro σ G ⟨hk, ek, os, v4, v5, rfl, sG, ehe, een, eop, bi, hb⟩
    rw [List.length_map] at hb bi
    rw [hrs.1, List.drop_length, balF] at hb
    have hos : os = [] := List.length_eq_zero_iff.mp (Option.some.inj hb)
    subst hos
    refine ⟨_, rfl, _, rfl, (by show 2 ≤ sizeLine; decide), fun T nT => q _ T he en hk ek (same_new sG nT) (SqT.of upd_same) ((new_same nT) _ _ ehe) ((new_same nT) _ _ een) nee.symm nhe nen1 bi.done⟩
end
end H1
namespace H1
open PySem PySem.Spec PyProof.Rows L2 Hx Nd Dun
section
variable {P : Program} {w : World} {K : PySem.W.Frag} {mg : Str → Option Value} {base : Heap} {D : Addr}
/-! ### Flow -/
structure FlowT (K : PySem.W.Frag) (mg : Str → Option Value) (C : Addr) (m : Nat → Addr) : Prop where
  g : mg "Flow" = some (.ref C)
  mak : Mk K C (m 0)
  cl : Cls K C
  nr : NoAttr K C "rows"
  nz : NoAttr K C "size"
  nh : NoAttr K C "heads"
  ne : NoAttr K C "ends"
  na : NoAttr K C "after"
  no : NoAttr K C "other"
  nl : NoAttr K C "loop_of"
  f0 : ∃ fd, Fun K "__init__" "Flow.__init__" s_Flow_init (m 0) fd ∧ Binds K fd ["self", "rows"] []
  f1 : MT K C "landing" "Flow.landing" s_Flow_landing ["self", "at"] (m 1)
  f2 : MT K C "way_past" "Flow.way_past" s_Flow_way_past ["self", "at"] (m 2)
  f3 : MT K C "find_loops" "Flow.find_loops" s_Flow_find_loops ["self"] (m 3)
structure FlowH (K : PySem.W.Frag) (C CR : Addr) (H : Hp) (p tr he en : Addr) (rs : List Addr) (wr : List Str) (hk ek : List (Key × V)) : Prop where
  o : ∃ (dx : Addr) (fs : List (Str × V)), H p = some (.ins C dx fs) ∧ fs.lookup ("rows" : Str) = some (V.ref tr) ∧ fs.lookup ("size" : Str) = some (V.int (rs.length : Nat)) ∧ fs.lookup ("heads" : Str) = some (V.ref he) ∧ fs.lookup ("ends" : Str) = some (V.ref en) ∧
    fs.lookup ("landing" : Str) = none ∧ fs.lookup ("way_past" : Str) = none ∧ fs.lookup ("find_loops" : Str) = none
  t : SqT K H tr (rs.map V.ref)
  r : RowsW K CR H rs wr
  h : Rd H he (.dK hk)
  e : Rd H en (.dK ek)
  ok : FlowOk rs.length hk ek
section
variable {C CR p tr he en : Addr} {rs : List Addr} {wr : List Str} {hk ek : List (Key × V)} {H H' : Hp}
theorem rd_same {a : Addr} {u : HO} (e : Same H H') (r : Rd H a u) : Rd H' a u := by
  rcases r with r | ⟨o, r⟩
  · exact .inl (e _ _ r)
  · exact .inr ⟨o, e _ _ r⟩
theorem FlowH.keep (h : FlowH K C CR H p tr he en rs wr hk ek) (e : Same H H') : FlowH K C CR H' p tr he en rs wr hk ek := by
  obtain ⟨⟨dx, fs, o1, o2⟩, t, r, h1, h2, ok⟩ := h
  exact ⟨⟨dx, fs, e _ _ o1, o2⟩, sqt_same e t, r.keep e, rd_same e h1, rd_same e h2, ok⟩
/-- while a dict is locked -/
theorem FlowH.frz (h : FlowH K C CR H p tr he en rs wr hk ek) {d : Addr} {kvs : List (Key × V)} (hd : H d = some (.dK kvs)) (od : Obj) : FlowH K C CR (upd H d (.frz od (.dK kvs))) p tr he en rs wr hk ek := by
  obtain ⟨⟨dx, fs, o1, o2⟩, t, r, h1, h2, ok⟩ := h
  have rd : ∀ {a : Addr} {ys : List (Key × V)}, Rd H a (.dK ys) → Rd (upd H d (.frz od (.dK kvs))) a (.dK ys) := fun {a ys} r => by
    by_cases e : a = d
    · subst e
      rcases r with r | ⟨o, r⟩
      · rw [hd] at r; cases r; exact .inr ⟨od, upd_same⟩
      · rw [hd] at r; cases r
    · rcases r with r | ⟨o, r⟩
      · exact .inl (by rw [upd_ne e]; exact r)
      · exact .inr ⟨o, by rw [upd_ne e]; exact r⟩
  have tt : Nd.Tups H (upd H d (.frz od (.dK kvs))) := Nd.Tups.upd fun xs r => by
    rcases r with r | ⟨z, r⟩
    · rw [hd] at r; cases r
    · rw [hd] at r; cases r
  refine ⟨⟨dx, fs, by rw [upd_ne (ne_of o1 hd (by intro z; cases z))]; exact o1, o2⟩, sqt_tups tt t, ⟨r.1, fun i a x e1 e2 => ?_⟩, rd h1, rd h2, ok⟩
  obtain ⟨dx', fs', a1, a2⟩ := r.2 i a x e1 e2
  exact ⟨dx', fs', by rw [upd_ne (ne_of a1 hd (by intro z; cases z))]; exact a1, a2⟩
end
theorem rget {H : Hp} {a : Addr} {kvs : List (Key × V)} {k : Key} (r : Rd H a (.dK kvs)) : DGet H a (kV k) (valV kvs k) := .inl ⟨kvs, k, r, rfl, rfl⟩
def spLand (K : PySem.W.Frag) (C CR : Addr) : Sp := fun vs H Q _ => ∃ (p tr he en : Addr) (rs : List Addr) (wr : List Str) (hk ek : List (Key × V)) (a : Int), vs = [.ref p, .int a] ∧ FlowH K C CR H p tr he en rs wr hk ek ∧ 0 ≤ a ∧ ∀ v : Int, Q (.int v) H
def muL (n : Nat) (σ : L2.St) : Nat := match σ[1]? with
  | some (some (V.int k)) => ((n : Int) - k).toNat
  | _ => 0
theorem ok_landing {C CR fI tt aL : Addr} {m : Nat → Addr} (T : FlowT K mg C m) (R : RowT K mg CR fI tt) (cL : TupT K mg "LOOPS" aL loopsV) :
    ∃ fd, Fun K "landing" "Flow.landing" s_Flow_landing (m 1) fd ∧ Binds K fd ["self", "at"] [] ∧ FnOk P w K mg base CX0 1 (m 1) fd ["self", "at"] (spLand K C CR) := by
  obtain ⟨fd, F, b⟩ := T.f1.fn
  refine ⟨fd, F, b, F.ok c_Flow_landing (fun vs H Q E h => ?_) (fun cdv A outer s H vs Q E hr h => ?_)⟩
  · obtain ⟨p, tr, he, en, rs, wr, hk, ek, a, rfl, _⟩ := h
    rfl
  obtain ⟨p, tr, he, en, rs, wr, hk, ek, a, rfl, hf, ha, q⟩ := h
  have hu := hu_of hr
  refine ⟨_, pss_cons (ps_while PassesOwn.never (PW.pt (pw_and (pt_cmpR op_lt (pv 1) (pe_fld (pv 0) rfl) (nomark _)) (pw_and1 (pt_cmp (pc_din hu (pv 1) (pe_fld (pv 0) rfl))))))
      (pss_cons (ps_set (i := 2) c_Flow_landing.nd rfl (Or.inl rfl) (pe_dget hu (pe_fld (pv 0) rfl) (pv 1) (fun _ _ => rfl))) <|
      pss_cons (ps_if (PW.pt (pw_and (pt_cmpR op_eq (pe_fld (pe_ix ix_tup (pe_fld (pv 0) rfl) (pv 1) (fun _ _ => rfl)) rfl) pe_str (nomark _)) (pw_and1 (pt_cmpR op_in_seq (pe_fld (pe_ix ix_tup (pe_fld (pv 0) rfl) (pv 2) (fun _ _ => rfl)) rfl) (pe_glob (v := .ref aL) rfl cL.g rfl) rfl)))) (pss_one (ps_ret (pv 2))) pss_nil) <|
      pss_one (ps_set (i := 1) c_Flow_landing.nd rfl (Or.inl rfl) (pe_op op_add (pe_dget hu (pe_fld (pv 0) rfl) (pv 2) (fun _ _ => rfl)) pe_int)))) <|
    pss_one (ps_ret (pv 1)), ?_⟩
  obtain ⟨⟨dx, fs, o1, l1, l2, l3, l4, _⟩, ht, hrw, hh, hen, ok⟩ := hf
  have rowAt : ∀ {j : Nat}, j < rs.length → ∃ r x, atI (rs.map V.ref) (j : Int) = some (.ref r) ∧ RowW K CR H r x := fun {j} hj => by
    have hw : j < wr.length := by rw [← hrw.1]; exact hj
    exact ⟨rs[j], wr[j], at_of (j := j) rfl (by rw [List.getElem?_map, List.getElem?_eq_getElem hj]; rfl), hrw.2 j _ _ (List.getElem?_eq_getElem hj) (List.getElem?_eq_getElem hw)⟩
  refine while_by (fun σ G => G = H ∧ ∃ (a : Int) (v2 : Option V), σ = [some (.ref p), some (.int a), v2] ∧ 0 ≤ a) (fun σ _ => muL rs.length σ) ⟨rfl, a, none, rfl, ha⟩ ?_ ?_
  · rintro σ G ⟨rfl, a, v2, rfl, ha⟩
    refine ⟨_, rfl, _, rfl, p, C, dx, fs, _, rfl, o1, T.cl, T.nz, l2, _, _, rfl, rfl, _, rfl, iteB (fun h1 => ?_) (fun h1 => ?_)⟩
    · have han : a < (rs.length : Int) := of_decide_eq_true h1
      obtain ⟨k, rfl⟩ : ∃ k : Nat, a = (k : Int) := ⟨a.toNat, by omega⟩
      refine ⟨_, rfl, _, rfl, p, C, dx, fs, _, rfl, o1, T.cl, T.nh, l3, he, _, rfl, rget (k := kI k) hh, _, rfl, ?_⟩
      cases hv : valV hk (kI k) with
      | none => exact iteF ⟨_, rfl, q _⟩
      | some v =>
        refine iteT ?_
        obtain ⟨jn, hn, e1, heq, hjn, hhn, hev, hje, hen1⟩ := ok.hh _ (valV_mem hv)
        have ejk : jn = k := by
          have := congrArg Prod.fst heq
          have := Sum.inl.inj this
          omega
        have ev : v = .int (hn : Int) := congrArg Prod.snd heq
        subst ev ejk
        refine ⟨_, rfl, p, C, dx, fs, _, rfl, o1, T.cl, T.nh, l3, _, rfl, he, _, rfl, (show DGet _ _ (kV (kI jn)) (some (.int (hn : Int))) from by rw [← hv]; exact rget hh), ?_⟩
        obtain ⟨r1, x1, at1, dx1, fs1, b1, c1⟩ := rowAt hjn
        obtain ⟨r2, x2, at2, dx2, fs2, b2, c2⟩ := rowAt hhn
        unfold gName tSeq
        dsimp only
        refine if_with (S := fun G' => G' = G) (fun G' hG => ?_) (fun alt => ?_)
        · subst hG
          refine ⟨_, rfl, p, C, dx, fs, _, rfl, o1, T.cl, T.ne, l4, _, rfl, en, _, rfl, (show DGet _ _ (kV (kI hn)) (some (.int (e1 : Int))) from by rw [← hev]; exact rget hen), _, _, rfl, rfl, ⟨rfl, (e1 : Int) + 1, _, rfl, by omega⟩, ?_⟩
          show ((rs.length : Int) - ((e1 : Int) + 1)).toNat < ((rs.length : Int) - (jn : Int)).toNat
          omega
        · refine ⟨_, rfl, p, C, dx, fs, _, rfl, o1, T.cl, T.nr, l1, _, rfl, tr, _, _, _, rfl, rfl, ht, at1, r1, CR, dx1, fs1, _, rfl, b1, R.cl, R.nw, c1, rfl, _, rfl, iteB (fun h3 => ?_) (fun h3 => iteF (alt _ rfl))⟩
          refine ⟨_, rfl, p, C, dx, fs, _, rfl, o1, T.cl, T.nr, l1, _, rfl, tr, _, _, _, rfl, rfl, ht, at2, r2, CR, dx2, fs2, _, rfl, b2, R.cl, R.nw, c2, aL, _, rfl, .inr (cL.s _), rfl, rfl, _, rfl, iteB (fun h4 => ?_) (fun h4 => alt _ rfl)⟩
          exact ⟨_, rfl, q _⟩
    · exact iteF ⟨_, rfl, q _⟩
  · rintro σ G Q1 Q2 h ⟨x1, e1, x2, e2, a1, C1, dx1, fs1, v1, e3, e4, c1, n1, lk, i, j, r1, r2, b, e5, hq⟩
    refine ⟨x1, e1, x2, e2, a1, C1, dx1, fs1, v1, e3, e4, c1, n1, lk, i, j, r1, r2, b, e5, ?_⟩
    cases b with
    | false =>
      have hq' := hq
      exact h _ _ hq'
    | true =>
      obtain ⟨y1, f1, y2, f2, a2, C2, dx2, fs2, v2, f3, f4, c2, n2, lk2, d, ov, f5, g5, b2, f6, hq2⟩ := hq
      exact ⟨y1, f1, y2, f2, a2, C2, dx2, fs2, v2, f3, f4, c2, n2, lk2, d, ov, f5, g5, b2, f6, h _ _ hq2⟩
end
end H1
namespace H1
open PySem PySem.Spec PyProof.Rows L2 Hx Nd Dun
section
variable {P : Program} {w : World} {K : PySem.W.Frag} {mg : Str → Option Value} {base : Heap} {D : Addr}
/-! ### way_past, find_loops -/
def spWP (K : PySem.W.Frag) (C CR : Addr) : Sp := fun vs H Q _ => ∃ (p tr he en : Addr) (rs : List Addr) (wr : List Str) (hk ek : List (Key × V)) (a : Nat), vs = [.ref p, .int (a : Int)] ∧ FlowH K C CR H p tr he en rs wr hk ek ∧ H he = some (.dK hk) ∧ a < rs.length ∧ ∀ H' (v : Int), Same H H' → Q (.int v) H'
/-- what came while a dict was locked -/
theorem same_unlock {H G : Hp} {d : Addr} {od : Obj} {u : HO} (hd : H d = some u) (s : Same (upd H d (.frz od u)) G) : Same H (upd G d u) := fun b o z => by
  by_cases e : b = d
  · subst e
    rw [hd] at z
    cases z
    exact upd_same
  · rw [upd_ne e]
    exact s _ _ (by rw [upd_ne e]; exact z)
theorem ok_wp {C CR fI tt : Addr} {m : Nat → Addr} (T : FlowT K mg C m) (R : RowT K mg CR fI tt) {ld : FuncData} (FL : Fun K "landing" "Flow.landing" s_Flow_landing (m 1) ld) (bL : Binds K ld ["self", "at"] []) (GL : FnOk P w K mg base CX0 1 (m 1) ld ["self", "at"] (spLand K C CR)) :
    ∃ fd, Fun K "way_past" "Flow.way_past" s_Flow_way_past (m 2) fd ∧ Binds K fd ["self", "at"] [] ∧ FnOk P w K mg base CX0 2 (m 2) fd ["self", "at"] (spWP K C CR) := by
  obtain ⟨fd, F, b⟩ := T.f2.fn
  refine ⟨fd, F, b, F.ok c_Flow_way_past (fun vs H Q E h => ?_) (fun cdv A outer s H vs Q E hr h => ?_)⟩
  · obtain ⟨p, tr, he, en, rs, wr, hk, ek, a, rfl, _⟩ := h
    rfl
  obtain ⟨p, tr, he, en, rs, wr, hk, ek, a, rfl, hf, hhe, ha, q⟩ := h
  have hu := hu_of hr
  have hr1 : Room 1 _ := hr.mono (by decide)
  refine ⟨_, pss_cons (ps_if (pt_cmp (pc_dnotin hu (pv 1) (pe_fld (pv 0) rfl))) (pss_one (ps_ret (pe_fld (pv 0) rfl))) pss_nil) <|
    pss_cons (ps_lock (ps_for PassesOwn.never rfl (pi_items (pe_fld (pv 0) rfl)) (pg_tup rfl (pgs_cons (pg_name (i := 2) c_Flow_way_past.nd rfl (Or.inl rfl)) (pgs_cons (pg_name (i := 3) c_Flow_way_past.nd rfl (Or.inl rfl)) pgs_nil)))
      (pss_one (ps_if (PW.pt (pw_and (pt_cmpR op_eq (pv 3) (pv 1) (nomark _)) (pw_and1 (pt_cmpR op_eq (pe_fld (pe_ix ix_tup (pe_fld (pv 0) rfl) (pv 2) (fun _ _ => rfl)) rfl) pe_str (nomark _))))) (pss_one (ps_ret (pe_meth (pv 0) T.cl T.f1.m GL hr1 bL .nil pass0 (pa_cons (pe_op op_add (pv 2) pe_int) pa_nil)))) pss_nil)))) <|
    pss_one (ps_ret (pe_meth (pv 0) T.cl T.f1.m GL hr1 bL .nil pass0 (pa_cons (pe_op op_add (pe_dget hu (pe_fld (pv 0) rfl) (pv 1) (fun _ _ => rfl)) pe_int) pa_nil))), ?_⟩
  obtain ⟨⟨dx, fs, o1, l1, l2, l3, l4, l5, l6, l7⟩, ht, hrw, hh, hen, ok⟩ := id hf
  refine ⟨_, rfl, _, rfl, p, C, dx, fs, _, rfl, o1, T.cl, T.ne, l4, en, _, rfl, rget (k := kI a) hen, _, rfl, ?_⟩
  cases hv : valV ek (kI a) with
  | none =>
    refine iteT ⟨_, rfl, p, C, dx, fs, _, rfl, o1, T.cl, T.nz, l2, q H _ (Same.refl H)⟩
  | some v =>
    refine iteF ?_
    obtain ⟨hn, e1, heq, hhn, he1⟩ := ok.ee _ (valV_mem hv)
    have ev : v = .int (e1 : Int) := congrArg Prod.snd heq
    subst ev
    refine ⟨he, _, hhe, trivial, fun od => ?_⟩
    have hfz := hf.frz hhe od
    refine ⟨_, rfl, p, C, dx, fs, _, rfl, (by rw [upd_ne (ne_of o1 hhe (by intro z; cases z))]; exact o1), T.cl, T.nh, l3, he, od, hk, rfl, upd_same, for_it walk_items (fun i σ G => Same (upd H he (.frz od (.dK hk))) G ∧ ∃ v2 v3 : Option V, σ = [some (.ref p), some (.int (a : Int)), v2, v3]) ⟨Same.refl _, none, none, rfl⟩ ?_ ?_ ?_⟩
    · rintro i σ G _ ⟨sG, _⟩
      exact sG _ _ upd_same
    · rintro i x σ G G' hi ⟨sG, v2, v3, rfl⟩ ⟨Tn, k, v, rfl, nT, rfl, hk1, hk2⟩
      obtain ⟨kv, hkv⟩ : ∃ kv, hk[i]? = some kv := ⟨_, List.getElem?_eq_getElem hi⟩
      dsimp only at hk1 hk2
      rw [hkv] at hk1 hk2
      obtain ⟨jn, hn2, en2, heq2, hj, hh2, hv2, _⟩ := ok.hh _ (List.mem_of_getElem? hkv)
      rw [heq2] at hk1 hk2
      cases hk1
      cases hk2
      have sT := same_new (o := .tup [kV (kI jn), .int (hn2 : Int)]) sG nT
      have hfT := hfz.keep sT
      have eT : (upd G Tn (.tup [kV (kI jn), .int (hn2 : Int)])) Tn = some (.tup [.int (jn : Int), .int (hn2 : Int)]) := upd_same
      generalize upd G Tn (.tup [kV (kI jn), .int (hn2 : Int)]) = G2 at sT hfT eT ⊢
      obtain ⟨⟨dx2, fs2, p1, p2, p3, p4, p5, p6, p7, p8⟩, ht2, hrw2, _, _, _⟩ := id hfT
      refine ⟨Tn, _, rfl, SqT.of eT, rfl, _, _, rfl, _, _, rfl, rfl, ?_⟩
      refine if_with (S := fun G' => G' = G2) (fun G' hG => ?_) (fun alt => ?_)
      · subst hG
        exact ⟨sT, _, _, rfl⟩
      · have hw2 : jn < wr.length := by rw [← hrw2.1]; exact hj
        obtain ⟨dx1, fs1, b1, c1⟩ := hrw2.2 jn _ _ (List.getElem?_eq_getElem hj) (List.getElem?_eq_getElem hw2)
        refine ⟨_, rfl, _, rfl, rfl, _, rfl, iteB (fun h3 => ?_) (fun h3 => iteF (alt _ rfl))⟩
        refine ⟨_, rfl, p, C, dx2, fs2, _, rfl, p1, T.cl, T.nr, p2, _, rfl, tr, _, _, _, rfl, rfl, ht2, at_of (j := jn) rfl (by rw [List.getElem?_map, List.getElem?_eq_getElem hj]; rfl), rs[jn], CR, dx1, fs1, _, rfl, b1, R.cl, R.nw, c1, rfl, _, rfl, iteB (fun h4 => ?_) (fun h4 => alt _ rfl)⟩
        refine ⟨_, rfl, p, dx2, fs2, rfl, p1, p6, _, rfl, _, _, rfl, rfl, p, tr, he, en, rs, wr, hk, ek, (jn : Int) + 1, rfl, hfT, by omega, fun v => ⟨sT _ _ upd_same, q _ _ (same_unlock hhe sT)⟩⟩
    · rintro σ G ⟨sG, v2, v3, rfl⟩
      refine ⟨sG _ _ upd_same, ?_⟩
      have sU := same_unlock hhe sG
      have hfU := hf.keep sU
      generalize upd G he (.dK hk) = G2 at sU hfU ⊢
      obtain ⟨⟨dx2, fs2, p1, p2, p3, p4, p5, p6, p7, p8⟩, _, _, _, hen2, _⟩ := id hfU
      refine ⟨_, rfl, p, dx2, fs2, rfl, p1, p6, _, rfl, p, C, dx2, fs2, _, rfl, p1, T.cl, T.ne, p5, _, rfl, en, _, rfl, (show DGet _ _ (kV (kI a)) (some (.int (e1 : Int))) from by rw [← hv]; exact rget hen2), _, _, rfl, rfl, p, tr, he, en, rs, wr, hk, ek, (e1 : Int) + 1, rfl, hfU, by omega, fun v => q _ _ sU⟩
def spFL (K : PySem.W.Frag) (C CR : Addr) : Sp := fun vs H Q _ => ∃ (p tr he en : Addr) (rs : List Addr) (wr : List Str) (hk ek : List (Key × V)), vs = [.ref p] ∧ FlowH K C CR H p tr he en rs wr hk ek ∧ H en = some (.dK ek) ∧ rs.length ≤ 900 ∧ ∀ H' r xs, Same H H' → H' r = some (.lst xs) → H r = none → xs.length = rs.length → Q (.ref r) H'
theorem ok_fl {C CR fI tt aL : Addr} {m : Nat → Addr} (T : FlowT K mg C m) (R : RowT K mg CR fI tt) (cL : TupT K mg "LOOPS" aL loopsV) (rng : mg "range" = none) :
    ∃ fd, Fun K "find_loops" "Flow.find_loops" s_Flow_find_loops (m 3) fd ∧ Binds K fd ["self"] [] ∧ FnOk P w K mg base CX0 1 (m 3) fd ["self"] (spFL K C CR) := by
  obtain ⟨fd, F, b⟩ := T.f3.fn
  refine ⟨fd, F, b, F.ok c_Flow_find_loops (fun vs H Q E h => ?_) (fun cdv A outer s H vs Q E hr h => ?_)⟩
  · obtain ⟨p, tr, he, en, rs, wr, hk, ek, rfl, _⟩ := h
    rfl
  obtain ⟨p, tr, he, en, rs, wr, hk, ek, rfl, hf, hen0, hlen, q⟩ := h
  refine ⟨_, pss_cons (ps_set (i := 1) c_Flow_find_loops.nd rfl (Or.inl rfl) (pe_op op_rep (pe_lst (pa_cons (pe_un un_neg pe_int) pa_nil)) (pe_fld (pv 0) rfl))) <|
    pss_cons (ps_lock (ps_for PassesOwn.never rfl (pi_items (pe_fld (pv 0) rfl)) (pg_tup rfl (pgs_cons (pg_name (i := 2) c_Flow_find_loops.nd rfl (Or.inl rfl)) (pgs_cons (pg_name (i := 3) c_Flow_find_loops.nd rfl (Or.inl rfl)) pgs_nil)))
      (pss_one (ps_if (pt_cmpR op_in_seq (pe_fld (pe_ix ix_tup (pe_fld (pv 0) rfl) (pv 2) (fun _ _ => rfl)) rfl) (pe_glob (v := .ref aL) rfl cL.g rfl) rfl)
        (pss_one (ps_for PassesOwn.never rfl (pi_range2 rfl rng (pa_cons (pv 2) (pa_cons (pe_op op_add (pv 3) pe_int) pa_nil))) (pg_name (i := 4) c_Flow_find_loops.nd rfl (Or.inl rfl)) (pss_one (ps_asg (pv 2) (pg_sub (pv 1) (pv 4) set_list))))) pss_nil)))) <|
    pss_one (ps_ret (pv 1)), ?_⟩
  obtain ⟨⟨dx, fs, o1, l1, l2, l3, l4, l5, l6, l7⟩, ht, hrw, hh, hen, ok⟩ := id hf
  refine ⟨_, rfl, (by show 1 ≤ sizeLine; decide), fun l0 nl0 => ⟨_, rfl, p, C, dx, fs, _, rfl, (new_same nl0) _ _ o1, T.cl, T.nz, l2, l0, _, _, rfl, rfl, upd_same, by omega, by omega, by rw [Int.toNat_natCast]; exact Nat.le_of_lt (big (by show 1 * _ ≤ _; omega)), fun fo nfo => ?_⟩⟩
  have s0 := new_same (o := .lst [.int (-1)]) nl0
  have s1 := same_new (o := .lst (List.replicate ((rs.length : Nat) : Int).toNat [.int (-1)]).flatten) s0 nfo
  have nfoH := free_same s0 nfo
  have efo : ∃ xs, (upd (upd H l0 (.lst [.int (-1)])) fo (.lst (List.replicate ((rs.length : Nat) : Int).toNat [.int (-1)]).flatten)) fo = some (.lst xs) ∧ xs.length = rs.length := ⟨_, upd_same, by simp⟩
  have hf1 := hf.keep s1
  have hen1 := s1 _ _ hen0
  have o1' := s1 _ _ o1
  have hno : fo ≠ en := fun z => by rw [z, hen0] at nfoH; cases nfoH
  obtain ⟨xs0, ex0, hx0⟩ := efo
  generalize upd (upd H l0 (.lst [.int (-1)])) fo (.lst (List.replicate ((rs.length : Nat) : Int).toNat [.int (-1)]).flatten) = G1 at s1 hf1 hen1 o1' ex0 ⊢
  refine ⟨en, _, hen1, trivial, fun od => ?_⟩
  have hfz := hf.frz hen0 od
  have sB : Same (upd H en (.frz od (.dK ek))) (upd G1 en (.frz od (.dK ek))) := fun b o z => by
    by_cases e : b = en
    · subst e
      rw [upd_same] at z ⊢
      exact z
    · rw [upd_ne e] at z ⊢
      exact s1 _ _ z
  have nfoB : (upd H en (.frz od (.dK ek))) fo = none := by rw [upd_ne hno]; exact nfoH
  refine ⟨_, rfl, p, C, dx, fs, _, rfl, (by rw [upd_ne (ne_of o1' hen1 (by intro z; cases z))]; exact o1'), T.cl, T.ne, l4, en, od, ek, rfl, upd_same, for_it walk_items (fun i σ G => Same (upd H en (.frz od (.dK ek))) G ∧ (∃ xs, G fo = some (.lst xs) ∧ xs.length = rs.length) ∧ ∃ v2 v3 v4 : Option V, σ = [some (.ref p), some (.ref fo), v2, v3, v4]) ⟨sB, ⟨xs0, by rw [upd_ne hno]; exact ex0, hx0⟩, none, none, none, rfl⟩ ?_ ?_ ?_⟩
  · rintro i σ G _ ⟨sG, _⟩
    exact sG _ _ upd_same
  · rintro i x σ G G' hi ⟨sG, ⟨xs, ex, hx⟩, v2, v3, v4, rfl⟩ ⟨Tn, k, v, rfl, nT, rfl, hk1, hk2⟩
    obtain ⟨kv, hkv⟩ : ∃ kv, ek[i]? = some kv := ⟨_, List.getElem?_eq_getElem hi⟩
    dsimp only at hk1 hk2
    rw [hkv] at hk1 hk2
    obtain ⟨hn, e1, heq, hhn, he1⟩ := ok.ee _ (List.mem_of_getElem? hkv)
    rw [heq] at hk1 hk2
    cases hk1
    cases hk2
    have sT := same_new (o := .tup [kV (kI hn), .int (e1 : Int)]) sG nT
    have hfT := hfz.keep sT
    have eT : (upd G Tn (.tup [kV (kI hn), .int (e1 : Int)])) Tn = some (.tup [.int (hn : Int), .int (e1 : Int)]) := upd_same
    have exT := (new_same (o := .tup [kV (kI hn), .int (e1 : Int)]) nT) _ _ ex
    generalize upd G Tn (.tup [kV (kI hn), .int (e1 : Int)]) = G2 at sT hfT eT exT ⊢
    obtain ⟨⟨dx2, fs2, p1, p2, p3, p4, p5, p6, p7, p8⟩, ht2, hrw2, _, _, _⟩ := id hfT
    refine ⟨Tn, _, rfl, SqT.of eT, rfl, _, _, rfl, _, _, rfl, rfl, ?_⟩
    have hw2 : hn < wr.length := by rw [← hrw2.1]; exact hhn
    obtain ⟨dx1, fs1, b1, c1⟩ := hrw2.2 hn _ _ (List.getElem?_eq_getElem hhn) (List.getElem?_eq_getElem hw2)
    refine ⟨_, rfl, p, C, dx2, fs2, _, rfl, p1, T.cl, T.nr, p2, _, rfl, tr, _, _, _, rfl, rfl, ht2, at_of (j := hn) rfl (by rw [List.getElem?_map, List.getElem?_eq_getElem hhn]; rfl), rs[hn], CR, dx1, fs1, _, rfl, b1, R.cl, R.nw, c1, aL, _, rfl, .inr (cL.s _), rfl, rfl, _, rfl, iteB (fun h3 => ?_) (fun h3 => ?_)⟩
    · refine ⟨_, rfl, _, rfl, _, _, rfl, rfl, (hn : Int), (e1 : Int) + 1, rfl, ⟨by omega, by omega, by omega, by omega⟩, for_range (lo := (hn : Int)) (n := ((e1 : Int) + 1 - (hn : Int)).toNat) (fun j σ G3 => Same (upd H en (.frz od (.dK ek))) G3 ∧ (∃ xs, G3 fo = some (.lst xs) ∧ xs.length = rs.length) ∧ ∃ v4 : Option V, σ = [some (.ref p), some (.ref fo), some (.int (hn : Int)), some (.int (e1 : Int)), v4]) ⟨sT, ⟨xs, exT, hx⟩, v4, rfl⟩ ?_ ?_⟩
      · rintro j σ G3 hj ⟨s3, ⟨ys, ey, hy⟩, v4, rfl⟩
        refine ⟨_, rfl, _, rfl, _, rfl, fo, ys, (hn : Int) + (j : Int), hn + j, rfl, rfl, ey, ?_, same_out s3 nfoB, ⟨_, upd_same, by rw [List.length_set]; exact hy⟩, _, rfl⟩
        unfold ixN
        rw [if_pos (by omega), if_pos (by omega)]
        congr 1
      · rintro σ G3 ⟨s3, ys, v4, rfl⟩
        exact ⟨s3, ys, _, _, _, rfl⟩
    · exact ⟨sT, ⟨xs, exT, hx⟩, _, _, _, rfl⟩
  · rintro σ G ⟨sG, ⟨xs, ex, hx⟩, v2, v3, v4, rfl⟩
    exact ⟨sG _ _ upd_same, _, rfl, q _ fo xs (same_unlock hen0 sG) (by rw [upd_ne hno]; exact ex) nfoH hx⟩
end
end H1
namespace H1
open PySem PySem.Spec PyProof.Rows L2 Hx Nd Dun
section
variable {P : Program} {w : World} {K : PySem.W.Frag} {mg : Str → Option Value} {base : Heap} {D : Addr}
/-! ### Flow.__init__ -/
def spFlow (K : PySem.W.Frag) (C CR : Addr) : Sp := fun vs H Q _ => ∃ (p l dx : Addr) (rs : List Addr) (wr : List Str), vs = [.ref p, .ref l] ∧ H p = some (.ins C dx []) ∧ H l = some (.lst (rs.map V.ref)) ∧ RowsW K CR H rs wr ∧ wr.length ≤ 900 ∧ balF 0 wr = some 0 ∧
  ∀ H', But p H H' → (∃ dx' fs, H' p = some (.ins C dx' fs)) → Q .non H'
def flowF (tr : Addr) (n : Nat) (he en : Addr) (r : List (Str × V)) : List (Str × V) := ("rows", .ref tr) :: ("size", .int (n : Int)) :: ("heads", .ref he) :: ("ends", .ref en) :: r
theorem sqt_ins {H : Hp} {p t : Addr} {C dx : Addr} {fs : List (Str × V)} {o : HO} {xs : List V} (hp : H p = some (.ins C dx fs)) (h : SqT K H t xs) : SqT K (upd H p o) t xs := sqt_tups (Nd.Tups.upd fun xs r => by
  rcases r with r | ⟨z, r⟩
  · rw [hp] at r; cases r
  · rw [hp] at r; cases r) h
/-- the object gets one field more -/
theorem FlowH.set {C CR p tr he en : Addr} {rs : List Addr} {wr : List Str} {hk ek : List (Key × V)} {G : Hp} {dx : Addr} {fs fs' : List (Str × V)} (h : FlowH K C CR G p tr he en rs wr hk ek) (hp : G p = some (.ins C dx fs)) (hnp : ∀ r ∈ rs, r ≠ p)
    (l1 : fs'.lookup ("rows" : Str) = some (V.ref tr)) (l2 : fs'.lookup ("size" : Str) = some (V.int (rs.length : Nat))) (l3 : fs'.lookup ("heads" : Str) = some (V.ref he)) (l4 : fs'.lookup ("ends" : Str) = some (V.ref en))
    (l5 : fs'.lookup ("landing" : Str) = none) (l6 : fs'.lookup ("way_past" : Str) = none) (l7 : fs'.lookup ("find_loops" : Str) = none) : FlowH K C CR (upd G p (.ins C dx fs')) p tr he en rs wr hk ek := by
  have rd : ∀ {a : Addr} {ys : List (Key × V)}, Rd G a (.dK ys) → Rd (upd G p (.ins C dx fs')) a (.dK ys) := fun {a ys} r => by
    rcases r with r | ⟨o, r⟩
    · exact .inl (by rw [upd_ne (ne_of r hp (by intro z; cases z))]; exact r)
    · exact .inr ⟨o, by rw [upd_ne (ne_of r hp (by intro z; cases z))]; exact r⟩
  refine ⟨⟨dx, fs', upd_same, l1, l2, l3, l4, l5, l6, l7⟩, sqt_ins hp h.t, ⟨h.r.1, fun i a x e1 e2 => ?_⟩, rd h.h, rd h.e, h.ok⟩
  obtain ⟨dx', fs2, a1, a2⟩ := h.r.2 i a x e1 e2
  exact ⟨dx', fs2, by rw [upd_ne (hnp a (List.mem_of_getElem? e1))]; exact a1, a2⟩
theorem ok_Flow {C CR fI tt aL gM : Addr} {m : Nat → Addr} (T : FlowT K mg C m) (R : RowT K mg CR fI tt) (cL : TupT K mg "LOOPS" aL loopsV) (rng : mg "range" = none) (len : mg "len" = none) (tup : mg "tuple" = none)
    {md : FuncData} (FM : Fun K "match_blocks" "match_blocks" s_match_blocks gM md) (bM : Binds K md ["rows"] []) (mM : mg "match_blocks" = some (.ref gM)) (GM : FnOk P w K mg base CX0 1 gM md ["rows"] (spMB K CR)) :
    ∃ fd, Fun K "__init__" "Flow.__init__" s_Flow_init (m 0) fd ∧ Binds K fd ["self", "rows"] [] ∧ FnOk P w K mg base CX0 3 (m 0) fd ["self", "rows"] (spFlow K C CR) := by
  obtain ⟨ld, FL, bL, GL⟩ := ok_landing (P := P) (w := w) (base := base) T R cL
  obtain ⟨wd, FW, bW, GW⟩ := ok_wp (P := P) (w := w) (base := base) T R FL bL GL
  obtain ⟨od, FO, bO, GO⟩ := ok_fl (P := P) (w := w) (base := base) T R cL rng
  obtain ⟨fd, F, b⟩ := T.f0
  refine ⟨fd, F, b, F.ok c_Flow_init (fun vs H Q E h => ?_) (fun cdv A outer s H vs Q E hr h => ?_)⟩
  · obtain ⟨p, l, dx, rs, wr, rfl, _⟩ := h
    rfl
  obtain ⟨p, l, dx, rs, wr, rfl, hp, hl, hrw, hlen, hbal, q⟩ := h
  refine ⟨_, pss_cons (ps_fld (pv 0) (pe_callTy call_tuple_of (by rfl) tup (by decide +kernel) (pa_cons (pv 1) pa_nil)) rfl) <|
    pss_cons (ps_fld (pv 0) (pe_callB (call_len_seq) (by rfl) len PySem.boot_len (pa_cons (pe_fld (pv 0) rfl) pa_nil)) rfl) <|
    pss_cons (ps_asg (pe_call GM (hr.mono (by decide)) rfl mM FM.kp bM .nil pass0 (pa_cons (pe_fld (pv 0) rfl) pa_nil)) (pg_tup rfl (pgs_cons (Nd.pg_fld (pv 0)) (pgs_cons (Nd.pg_fld (pv 0)) pgs_nil)))) <|
    pss_cons (ps_fld (pv 0) (pe_callTy call_tuple_of (by rfl) tup (by decide +kernel) (pa_cons (pe_lc (own := [("at", 2)]) (g := gName 2) (tt := tYes) rfl c_Flow_init.nd (pi_range1 rfl rng (pa_cons (pe_fld (pv 0) rfl) pa_nil)) (blkOk_by (own := [("at", 2)]) (N := n_Flow_init) (sc := defScope s_Flow_init) (by decide +kernel))
        (fun _ _ _ _ _ => pg_name (i := 2) c_Flow_init.nd rfl (Or.inl rfl)) (fun _ _ _ _ _ => pts_nil) (fun _ _ _ _ _ => pe_meth (pv 0) T.cl T.f1.m GL (hr.mono (by decide)) bL .nil pass0 (pa_cons (pe_op op_add (pv 2) pe_int) pa_nil))) pa_nil)) rfl) <|
    pss_cons (ps_fld (pv 0) (pe_callTy call_tuple_of (by rfl) tup (by decide +kernel) (pa_cons (pe_lc (own := [("at", 2)]) (g := gName 2) (tt := tYes) rfl c_Flow_init.nd (pi_range1 rfl rng (pa_cons (pe_fld (pv 0) rfl) pa_nil)) (blkOk_by (own := [("at", 2)]) (N := n_Flow_init) (sc := defScope s_Flow_init) (by decide +kernel))
        (fun _ _ _ _ _ => pg_name (i := 2) c_Flow_init.nd rfl (Or.inl rfl)) (fun _ _ _ _ _ => pts_nil) (fun _ _ _ _ _ => pe_meth (pv 0) T.cl T.f2.m GW (hr.mono (by decide)) bW .nil pass0 (pa_cons (pv 2) pa_nil))) pa_nil)) rfl) <|
    pss_one (ps_fld (pv 0) (pe_callTy call_tuple_of (by rfl) tup (by decide +kernel) (pa_cons (pe_meth0 (pv 0) T.cl T.f3.m GO (hr.mono (by decide)) bO .nil pass0) pa_nil)) rfl), ?_⟩
  have hnp : ∀ r ∈ rs, r ≠ p := fun r hr z => by
    subst z
    obtain ⟨i, hi⟩ := List.getElem?_of_mem hr
    have hw : i < wr.length := by rw [← hrw.1]; exact (List.getElem?_eq_some_iff.mp hi).1
    obtain ⟨dx', fs', a1, a2⟩ := hrw.2 i r _ hi (List.getElem?_eq_getElem hw)
    rw [hp] at a1
    cases a1
    cases a2
  have npl : l ≠ p := ne_of hl hp (by intro z; cases z)
  refine ⟨_, rfl, l, _, rfl, .inl ⟨SqL.of hl, fun tr ntr => ⟨_, rfl, p, C, dx, [], rfl, (new_same ntr) _ _ hp, T.cl, T.nr, (by show 0 < 1000; decide), ?_⟩⟩⟩
  have ntrp : tr ≠ p := (ne_of_none hp ntr).symm
  have htr : SqT K (upd (upd H tr (.tup (rs.map V.ref))) p (.ins C dx (putF "rows" (.ref tr) []))) tr (rs.map V.ref) := SqT.of (by rw [upd_ne ntrp, upd_same])
  refine ⟨_, rfl, p, C, dx, _, _, rfl, upd_same, T.cl, T.nr, rfl, tr, _, rfl, .inr htr, _, rfl, p, C, dx, _, rfl, upd_same, T.cl, T.nz, (by show 1 < 1000; decide), ?_⟩
  rw [upd_upd, List.length_map]
  have b3 : But p H (upd (upd H tr (.tup (rs.map V.ref))) p (.ins C dx (putF "size" (.int (rs.length : Nat)) (putF "rows" (.ref tr) [])))) := (Same.but (new_same ntr)).trans But.upd
  have htr3 : SqT K (upd (upd H tr (.tup (rs.map V.ref))) p (.ins C dx (putF "size" (.int (rs.length : Nat)) (putF "rows" (.ref tr) [])))) tr (rs.map V.ref) := SqT.of (by rw [upd_ne ntrp, upd_same])
  have hrw3 : RowsW K CR (upd (upd H tr (.tup (rs.map V.ref))) p (.ins C dx (putF "size" (.int (rs.length : Nat)) (putF "rows" (.ref tr) [])))) rs wr := ⟨hrw.1, fun i a x e1 e2 => by
    obtain ⟨dx', fs', a1, a2⟩ := hrw.2 i a x e1 e2
    exact ⟨dx', fs', b3 _ _ (hnp a (List.mem_of_getElem? e1)) a1, a2⟩⟩
  have hp3 : (upd (upd H tr (.tup (rs.map V.ref))) p (.ins C dx (putF "size" (.int (rs.length : Nat)) (putF "rows" (.ref tr) [])))) p = some (.ins C dx [("rows", .ref tr), ("size", .int (rs.length : Nat))]) := upd_same
  generalize upd (upd H tr (.tup (rs.map V.ref))) p (.ins C dx (putF "size" (.int (rs.length : Nat)) (putF "rows" (.ref tr) []))) = H3 at b3 htr3 hrw3 hp3 ⊢
  refine ⟨_, rfl, p, C, dx, _, _, rfl, hp3, T.cl, T.nr, rfl, tr, rs, wr, rfl, htr3, hrw3, hlen, hbal, fun H4 t' he en hk ek s4 ht' ehe een hne nhe nen hok => ?_⟩
  have hp4 := s4 _ _ hp3
  have nhep : he ≠ p := (ne_of_none hp3 nhe).symm
  have nenp : en ≠ p := (ne_of_none hp3 nen).symm
  refine ⟨t', _, rfl, ht', rfl, _, _, rfl, _, rfl, p, C, dx, _, rfl, hp4, T.cl, T.nh, (by show 2 < 1000; decide), _, _, rfl, _, rfl, p, C, dx, _, rfl, upd_same, T.cl, T.ne, (by show 3 < 1000; decide), rfl, ?_⟩
  rw [upd_upd]
  have f5 : FlowH K C CR (upd H4 p (.ins C dx (putF "ends" (.ref en) (putF "heads" (.ref he) [("rows", .ref tr), ("size", .int (rs.length : Nat))])))) p tr he en rs wr hk ek :=
    ⟨⟨dx, _, upd_same, rfl, rfl, rfl, rfl, rfl, rfl, rfl⟩, sqt_ins hp4 (sqt_same s4 htr3), ⟨hrw3.1, fun i a x e1 e2 => by
      obtain ⟨dx', fs', a1, a2⟩ := (hrw3.keep s4).2 i a x e1 e2
      exact ⟨dx', fs', by rw [upd_ne (hnp a (List.mem_of_getElem? e1))]; exact a1, a2⟩⟩, .inl (by rw [upd_ne nhep]; exact ehe), .inl (by rw [upd_ne nenp]; exact een), hok⟩
  have b5 : But p H (upd H4 p (.ins C dx (putF "ends" (.ref en) (putF "heads" (.ref he) [("rows", .ref tr), ("size", .int (rs.length : Nat))])))) := (b3.trans (Same.but s4)).trans But.upd
  have he5 : (upd H4 p (.ins C dx (putF "ends" (.ref en) (putF "heads" (.ref he) [("rows", .ref tr), ("size", .int (rs.length : Nat))])))) he = some (.dK hk) := by rw [upd_ne nhep]; exact ehe
  have en5 : (upd H4 p (.ins C dx (putF "ends" (.ref en) (putF "heads" (.ref he) [("rows", .ref tr), ("size", .int (rs.length : Nat))])))) en = some (.dK ek) := by rw [upd_ne nenp]; exact een
  have hp5 : (upd H4 p (.ins C dx (putF "ends" (.ref en) (putF "heads" (.ref he) [("rows", .ref tr), ("size", .int (rs.length : Nat))])))) p = some (.ins C dx (flowF tr rs.length he en [])) := upd_same
  generalize upd H4 p (.ins C dx (putF "ends" (.ref en) (putF "heads" (.ref he) [("rows", .ref tr), ("size", .int (rs.length : Nat))]))) = H5 at f5 b5 he5 en5 hp5 ⊢
  have hrl : rs.length ≤ 900 := by rw [hrw.1]; exact hlen
  -- after
  refine ⟨_, rfl, p, C, dx, _, _, rfl, hp5, T.cl, T.nz, rfl, _, rfl, by omega, by omega, fun D nD => ?_⟩
  rw [Int.toNat_natCast]
  refine lc_range (lo := 0) (n := rs.length) (fun i G => Same H5 G ∧ ∃ acc, G D = some (.lst acc) ∧ acc.length = i) ⟨new_same nD, [], upd_same, rfl⟩ ?_ ?_
  · rintro i G hi ⟨sG, acc, eD, hacc⟩
    refine ⟨rfl, ?_⟩
    unfold tYes
    dsimp only
    rw [if_pos rfl]
    refine ⟨_, rfl, p, dx, _, rfl, sG _ _ hp5, rfl, _, rfl, _, _, rfl, rfl, p, tr, he, en, rs, wr, hk, ek, _, rfl, f5.keep sG, by omega, fun v => ⟨acc, eD, big (by omega), same_out sG nD, _, upd_same, by rw [List.length_append, hacc]; rfl⟩⟩
  rintro G6 ⟨s6, acc6, eD6, _⟩
  refine ⟨D, _, rfl, .inl ⟨SqL.of eD6, fun ta nta => ?_⟩⟩
  have s6a := same_new (o := .tup acc6) s6 nta
  have hp6 := s6a _ _ hp5
  refine ⟨_, rfl, p, C, dx, _, rfl, hp6, T.cl, T.na, (by show 4 < 1000; decide), ?_⟩
  have f7 : FlowH K C CR (upd (upd G6 ta (.tup acc6)) p (.ins C dx (putF "after" (.ref ta) (flowF tr rs.length he en [])))) p tr he en rs wr hk ek := (f5.keep s6a).set hp6 hnp rfl rfl rfl rfl rfl rfl rfl
  have b7 : But p H (upd (upd G6 ta (.tup acc6)) p (.ins C dx (putF "after" (.ref ta) (flowF tr rs.length he en [])))) := (b5.trans (Same.but s6a)).trans But.upd
  have he7 : (upd (upd G6 ta (.tup acc6)) p (.ins C dx (putF "after" (.ref ta) (flowF tr rs.length he en [])))) he = some (.dK hk) := by rw [upd_ne nhep]; exact s6a _ _ he5
  have en7 : (upd (upd G6 ta (.tup acc6)) p (.ins C dx (putF "after" (.ref ta) (flowF tr rs.length he en [])))) en = some (.dK ek) := by rw [upd_ne nenp]; exact s6a _ _ en5
  have hp7 : (upd (upd G6 ta (.tup acc6)) p (.ins C dx (putF "after" (.ref ta) (flowF tr rs.length he en [])))) p = some (.ins C dx (flowF tr rs.length he en [("after", .ref ta)])) := upd_same
  generalize upd (upd G6 ta (.tup acc6)) p (.ins C dx (putF "after" (.ref ta) (flowF tr rs.length he en []))) = H7 at f7 b7 he7 en7 hp7 ⊢
  -- other
  refine ⟨_, rfl, p, C, dx, _, _, rfl, hp7, T.cl, T.nz, rfl, _, rfl, by omega, by omega, fun D2 nD2 => ?_⟩
  rw [Int.toNat_natCast]
  refine lc_range (lo := 0) (n := rs.length) (fun i G => Same H7 G ∧ ∃ acc, G D2 = some (.lst acc) ∧ acc.length = i) ⟨new_same nD2, [], upd_same, rfl⟩ ?_ ?_
  · rintro i G hi ⟨sG, acc, eD, hacc⟩
    refine ⟨rfl, ?_⟩
    unfold tYes
    dsimp only
    rw [if_pos rfl]
    refine ⟨_, rfl, p, dx, _, rfl, sG _ _ hp7, rfl, _, rfl, p, tr, he, en, rs, wr, hk, ek, i, by rw [Int.zero_add]; rfl, f7.keep sG, sG _ _ he7, hi, fun G2 v s2 => ⟨acc, s2 _ _ eD, big (by omega), same_out (fun c o z => s2 _ _ (sG _ _ z)) nD2, _, upd_same, by rw [List.length_append, hacc]; rfl⟩⟩
  rintro G8 ⟨s8, acc8, eD8, _⟩
  refine ⟨D2, _, rfl, .inl ⟨SqL.of eD8, fun tb ntb => ?_⟩⟩
  have s8a := same_new (o := .tup acc8) s8 ntb
  have hp8 := s8a _ _ hp7
  refine ⟨_, rfl, p, C, dx, _, rfl, hp8, T.cl, T.no, (by show 5 < 1000; decide), ?_⟩
  have f9 : FlowH K C CR (upd (upd G8 tb (.tup acc8)) p (.ins C dx (putF "other" (.ref tb) (flowF tr rs.length he en [("after", .ref ta)])))) p tr he en rs wr hk ek := (f7.keep s8a).set hp8 hnp rfl rfl rfl rfl rfl rfl rfl
  have b9 : But p H (upd (upd G8 tb (.tup acc8)) p (.ins C dx (putF "other" (.ref tb) (flowF tr rs.length he en [("after", .ref ta)])))) := (b7.trans (Same.but s8a)).trans But.upd
  have en9 : (upd (upd G8 tb (.tup acc8)) p (.ins C dx (putF "other" (.ref tb) (flowF tr rs.length he en [("after", .ref ta)])))) en = some (.dK ek) := by rw [upd_ne nenp]; exact s8a _ _ en7
  have hp9 : (upd (upd G8 tb (.tup acc8)) p (.ins C dx (putF "other" (.ref tb) (flowF tr rs.length he en [("after", .ref ta)])))) p = some (.ins C dx (flowF tr rs.length he en [("after", .ref ta), ("other", .ref tb)])) := upd_same
  generalize upd (upd G8 tb (.tup acc8)) p (.ins C dx (putF "other" (.ref tb) (flowF tr rs.length he en [("after", .ref ta)]))) = H9 at f9 b9 en9 hp9 ⊢
  refine ⟨_, rfl, p, dx, _, rfl, hp9, rfl, p, tr, he, en, rs, wr, hk, ek, rfl, f9, en9, hrl, fun G10 r xs s10 er nr hx => ?_⟩
  refine ⟨r, _, rfl, .inl ⟨SqL.of er, fun tc ntc => ?_⟩⟩
  have s11 := same_new (o := .tup xs) s10 ntc
  exact ⟨_, rfl, p, C, dx, _, rfl, s11 _ _ hp9, T.cl, T.nl, (by show 6 < 1000; decide), q _ ((b9.trans (Same.but s11)).trans But.upd) ⟨dx, _, upd_same⟩⟩
end
end H1
namespace H1
open PySem PySem.Spec PyProof.Rows L2 Hx Nd Dun
section
variable {P : Program} {w : World} {K : PySem.W.Frag} {mg : Str → Option Value} {base : Heap} {D : Addr}
/-! ### Code -/
structure CodeT (K : PySem.W.Frag) (mg : Str → Option Value) (C : Addr) (m : Nat → Addr) : Prop where
  g : mg "Code" = some (.ref C)
  mak : Mk K C (m 0)
  cl : Cls K C
  nk : NoAttr K C "kind"
  nw : NoAttr K C "width"
  nt : NoAttr K C "text"
  nf : NoAttr K C "flow"
  nm : NoAttr K C "memory"
  nl : NoAttr K C "_lines"
  f0 : ∃ fd, Fun K "__init__" "Code.__init__" s_Code_init (m 0) fd ∧ Binds K fd ["self", "kind", "width", "text"] []
  f1 : ∃ fd, Fun K "__len__" "Code.__len__" s_Code_len (m 1) fd ∧ Binds K fd ["self"] []
  f2 : ∃ fd, Fun K "__getitem__" "Code.__getitem__" s_Code_getitem (m 2) fd ∧ Binds K fd ["self", "at"] []
  f4 : ∃ fd, Fun K "__eq__" "Code.__eq__" s_Code_eq (m 4) fd ∧ Binds K fd ["self", "other"] []
  f5 : MT K C "as_kind" "Code.as_kind" s_Code_as_kind ["self", "kind"] (m 5)
  d1 : Dn K C "__len__" (m 1)
  d2 : Dn K C "__getitem__" (m 2)
  d4 : Dn K C "__eq__" (m 4)
  ne : PySem.W.findIn K (.ref C) "__ne__" = some (some (.builtin "object.__ne__"))
  mro : PySem.W.mroIn K C (.type "object") = some true
  ha : PySem.W.findIn K (.ref C) "__class__" = some (some (.builtin "object.__class__"))
  hn : PySem.W.specialIn K (.builtin "object.__class__") "__get__" = some (some (.builtin "getset_descriptor.__get__"))
  ht : PySem.W.takesIn K (.builtin "object.__class__") = some true
  kc : PySem.W.kitOne K (.ref C) (.ref C) = some true
  ks : PySem.W.kitOne K (.type "str") (.ref C) = some false
  ss : PySem.W.subIn K (.type "str") (.ref C) = some false
def codeF (k wd x : V) (fl me lt : Addr) : List (Str × V) := [("kind", k), ("width", wd), ("text", x), ("flow", .ref fl), ("memory", .ref me), ("_lines", .ref lt)]
/-- the lines of a text -/
def TextOf (x : Str) (ls : List Str) : Prop := (x = "" ∧ ls = []) ∨ ((x.length : Int) ≠ 0 ∧ x.length + 2 ≤ sizeLine ∧ Txt.split x "\n" = ls)
/-- what is_kind or is_width says of the value -/
def IsV (K : PySem.W.Frag) (H : Hp) (ty : String) (xs : List V) (v : V) (r : Bool) : Prop := ∃ (t : Value) (b : Bool), TyX K H v t ∧ PySem.W.kitOne K t (.type ty) = some b ∧ (b = true → flatV v = true) ∧ (b && inV v xs) = r
abbrev psCD : List Str := ["self", "kind", "width", "text"]
def spCode (K : PySem.W.Frag) (C : Addr) (EC : Nat → Addr) : Sp := fun vs H Q E => ∃ (p dx : Addr) (k wd : V) (x : Str) (ls : List Str), vs = [.ref p, k, wd, .str x] ∧ H p = some (.ins C dx []) ∧ TextOf x ls ∧
  ((IsV K H "str" kindsV k false ∧ err1 (EC 0) "kind" k H E) ∨ (IsV K H "str" kindsV k true ∧ IsV K H "int" widthsV wd false ∧ err1 (EC 1) "width" wd H E) ∨
   (IsV K H "str" kindsV k true ∧ IsV K H "int" widthsV wd true ∧
     ((60 < ls.length ∧ ∀ H', Same H H' → err3 (EC 4) "what" "many" "most" (.str "lines") (.int ls.length) (.int 60) H' E) ∨
      (ls.length ≤ 60 ∧ (∃ ys : List Str, ls = ("Tell" : Str) :: ys) ∧ ∀ H', Same H H' → err1 (EC 2) "line" (.int 1) H' E) ∨
      (ls.length ≤ 60 ∧ (∃ ts : List Tk, ls = ts.map Tk.line ∧ run .no ts = some .no) ∧ ∀ H' fl me lt, But p H H' → H' p = some (.ins C dx (codeF k wd (.str x) fl me lt)) → SqT K H' lt (ls.map V.str) → Q .non H'))))
/-- the words of the law's lines are balanced -/
def On.deep : On → Nat
  | .no => 0
  | _ => 1
def Tk.ifq : Tk → Bool
  | .ifi => true
  | .ifb => true
  | _ => false
def Tk.elq : Tk → Bool
  | .els => true
  | _ => false
def Tk.enq : Tk → Bool
  | .fin => true
  | _ => false
theorem word_facts : ∀ t : Tk, (decide (t.word = "if") || isLoop t.word) = t.ifq ∧ (t.word = "else" ↔ t.elq = true) ∧ (t.word = "end" ↔ t.enq = true) := by
  intro t
  cases t <;> decide +kernel
theorem run_bal : ∀ {ts : List Tk} {o o' : On}, run o ts = some o' → balF o.deep (ts.map Tk.word) = some o'.deep
  | [], o, o', h => by
    rw [run] at h
    cases h
    rfl
  | t :: r, o, o', h => by
    rw [run] at h
    cases hs : stp o t with
    | none => rw [hs] at h; cases h
    | some o1 =>
      rw [hs] at h
      have ih := run_bal (show run o1 r = some o' from h)
      obtain ⟨w1, w2, w3⟩ := word_facts t
      rw [List.map_cons, balF, w1]
      simp only [w2, w3]
      cases o <;> cases t <;> simp only [stp] at hs <;> cases hs <;> exact ih
theorem RowsAt.words {C : Addr} {H : Hp} {rs : List Addr} {ts : List Tk} (h : RowsAt K C H rs ts) (hl : rs.length = ts.length) : RowsW K C H rs (ts.map Tk.word) := by
  refine ⟨by rw [List.length_map]; exact hl, fun i r x e1 e2 => ?_⟩
  rw [List.getElem?_map] at e2
  cases hp : ts[i]? with
  | none => rw [hp] at e2; cases e2
  | some t =>
    rw [hp] at e2
    cases e2
    obtain ⟨dx, tt, nu, h1, _⟩ := h i r t e1 hp
    exact ⟨dx, _, h1, rfl⟩
theorem ok_Code {CF : Addr} {mF : Nat → Addr} (TF : FlowT K mg CF mF) {fdF : FuncData} (FF : Fun K "__init__" "Flow.__init__" s_Flow_init (mF 0) fdF) (bF : Binds K fdF ["self", "rows"] []) {C CR DB g1 g2 g3 g4 : Addr} {EC EI m : Nat → Addr} (T : CodeT K mg C m) (ET : ErrT K mg DB EC EI) (len : mg "len" = none) (tup : mg "tuple" = none) {tk60 : Value} (GF : FnOk P w K mg base CX0 3 (mF 0) fdF ["self", "rows"] (spFlow K CF CR)) (m60 : mg "MOST_LINES" = some tk60) (r60 : RelV (.int 60) tk60) {d1 d2 d3 d4 : FuncData}
    (F1 : Fun K "is_kind" "is_kind" s_is_kind g1 d1) (b1 : Binds K d1 ["value"] []) (m1 : mg "is_kind" = some (.ref g1)) (G1 : FnOk P w K mg base CX0 1 g1 d1 ["value"] (spIs K "str" kindsV))
    (F2 : Fun K "is_width" "is_width" s_is_width g2 d2) (b2 : Binds K d2 ["value"] []) (m2 : mg "is_width" = some (.ref g2)) (G2 : FnOk P w K mg base CX0 1 g2 d2 ["value"] (spIs K "int" widthsV))
    (F3 : Fun K "read_rows" "read_rows" s_read_rows g3 d3) (b3 : Binds K d3 psLW []) (m3 : mg "read_rows" = some (.ref g3)) (G3 : FnOk P w K mg base (L2.CX P w) 6 g3 d3 psLW (spRows K CR (EC 2)))
    (F4 : Fun K "least_break" "least_break" s_least_break g4 d4) (b4 : Binds K d4 psLB []) (m4 : mg "least_break" = some (.ref g4)) (G4 : FnOk P w K mg base CX0 4 g4 d4 psLB (spLeast K CR)) :
    ∃ fd, Fun K "__init__" "Code.__init__" s_Code_init (m 0) fd ∧ Binds K fd psCD [] ∧ FnOk P w K mg base (L2.CX P w) 7 (m 0) fd psCD (spCode K C EC) := by
  obtain ⟨fd, F, b⟩ := T.f0
  refine ⟨fd, F, b, F.okX c_Code_init (fun vs H Q E h => ?_) (fun cdv A outer s H vs Q E hr h => ?_)⟩
  · obtain ⟨p, dx, k, wd, x, ls, rfl, _⟩ := h
    rfl
  obtain ⟨p, dx, k, wd, x, ls, rfl, hp, hx, q⟩ := h
  have tk : Takes (cxOf (L2.CX P w) P w K mg base n_Code_init "Code.__init__" (defScope s_Code_init) (m 0) cdv A outer s H E) (fun cls d _ G => E cls d G) := takes_of rfl rfl rfl rfl
  refine ⟨_, pss_cons (ps_if (pt_not (pt_val (pe_call G1 (hr.mono (by decide)) rfl m1 F1.kp b1 .nil pass0 (pa_cons (pv 1) pa_nil)))) (pss_one (ps_rz rfl tk ET.t0 (fun fd F => okBadKind F ET.base) (hr.mono (by decide)) (pa_cons (pv 1) pa_nil))) pss_nil)
    (pss_cons (ps_if (pt_not (pt_val (pe_call G2 (hr.mono (by decide)) rfl m2 F2.kp b2 .nil pass0 (pa_cons (pv 2) pa_nil)))) (pss_one (ps_rz rfl tk ET.t1 (fun fd F => okBadWidth F ET.base) (hr.mono (by decide)) (pa_cons (pv 2) pa_nil))) pss_nil)
    (Evl.pss_cut (ps_set (i := 4) c_Code_init.nd rfl (Or.inl rfl) (pe_ifExp (pt_truth (pv 3) (by intro _; rfl)) (pe_split (pv 3) pe_str) (pe_lst pa_nil)))
    (pss_cons (ps_if (pt_cmpR op_gt (pe_callB call_len_seq (by rfl) len PySem.boot_len (pa_cons (pv 4) pa_nil)) (pe_glob (v := .int 60) rfl m60 r60) (nomark _)) (pss_one (ps_rz rfl tk ET.t4 (fun fd F => okTooMany F ET.base) (hr.mono (by decide)) (pa_cons pe_str (pa_cons (pe_callB call_len_seq (by rfl) len PySem.boot_len (pa_cons (pv 4) pa_nil)) (pa_cons (pe_glob (v := .int 60) rfl m60 r60) pa_nil))))) pss_nil)
    (pss_cons (ps_set (i := 5) c_Code_init.nd rfl (Or.inl rfl) (pe_callS G3 hr rfl m3 F3.kp b3 (fun σ => passAt tk σ) (pa_cons (pv 4) (pa_cons (pv 2) pa_nil))))
    (pss_cons (ps_set (i := 6) c_Code_init.nd rfl (Or.inl rfl) (pe_call G4 (hr.mono (by decide)) rfl m4 F4.kp b4 .nil pass0 (pa_cons (pv 1) (pa_cons (pv 5) pa_nil))))
    (pss_cons (ps_if (pt_cmp (pc_notN (pv 6))) (pss_one ps_never) pss_nil)
    (pss_cons (ps_fld (pv 0) (pv 1) rfl) (pss_cons (ps_fld (pv 0) (pv 2) rfl) (pss_cons (ps_fld (pv 0) (pv 3) rfl) (pss_cons (ps_fld (pv 0) (pe_make TF.mak GF (hr.mono (by decide)) rfl TF.g bF .nil pass0 (pa_cons (pv 5) pa_nil)) rfl) (pss_cons (ps_fld (pv 0) pe_dnewK rfl) (pss_one (ps_fld (pv 0) (pe_callTy call_tuple_of (by rfl) tup (by decide +kernel) (pa_cons (pv 4) pa_nil)) rfl))))))))))))), ?_⟩
  rcases q with ⟨⟨t1, c1, h11, h12, h13, h14⟩, q⟩ | ⟨⟨t1, c1, h11, h12, h13, h14⟩, ⟨t2, c2, h21, h22, h23, h24⟩, q⟩ | ⟨⟨t1, c1, h11, h12, h13, h14⟩, ⟨t2, c2, h21, h22, h23, h24⟩, q⟩
  · refine ⟨_, rfl, k, t1, c1, rfl, h11, h12, h13, _, rfl, iteBT (by rw [h14]; rfl) ?_⟩
    exact rd1 (W := fun cls d _ G => E cls d G) ET.t0.ex.oex (ET.t0.nf _ List.mem_cons_self) rfl q
  · refine ⟨_, rfl, k, t1, c1, rfl, h11, h12, h13, _, rfl, iteBF (by rw [h14]; rfl) ?_⟩
    refine ⟨_, rfl, wd, t2, c2, rfl, h21, h22, h23, _, rfl, iteBT (by rw [h24]; rfl) ?_⟩
    exact rd1 (W := fun cls d _ G => E cls d G) ET.t1.ex.oex (ET.t1.nf _ List.mem_cons_self) rfl q
  · refine ⟨_, rfl, k, t1, c1, rfl, h11, h12, h13, _, rfl, iteBF (by rw [h14]; rfl) ?_⟩
    refine ⟨_, rfl, wd, t2, c2, rfl, h21, h22, h23, _, rfl, iteBF (by rw [h24]; rfl) ?_⟩
    refine ⟨fun σ G => ∃ l, σ = [some (.ref p), some k, some wd, some (.str x), some (.ref l), none, none] ∧ Same H G ∧ G l = some (.lst (ls.map V.str)), ?_, ?_⟩
    · rcases hx with ⟨rfl, rfl⟩ | ⟨hn, hz, rfl⟩
      · refine ⟨_, rfl, false, ⟨by decide +kernel, by decide +kernel⟩, iteF ⟨Nat.zero_le _, fun l nl => ?_⟩⟩
        exact ⟨l, rfl, new_same nl, upd_same⟩
      · refine ⟨_, rfl, true, ⟨by omega, by simpa using hn⟩, iteT ?_⟩
        refine ⟨_, rfl, ⟨_, rfl⟩, x, _, rfl, rfl, by decide +kernel, hz, fun l nl => ?_⟩
        exact ⟨l, rfl, new_same nl, upd_same⟩
    · rintro σ G ⟨l, rfl, sG, hl⟩
      refine ⟨_, rfl, l, _, rfl, .inl (SqL.of hl), _, _, rfl, rfl, _, rfl, ?_⟩
      rw [List.length_map]
      rcases q with ⟨h60, q⟩ | ⟨h60, ⟨ys, rfl⟩, q⟩ | ⟨h60, ⟨ts, rfl, hrun⟩, q⟩
      · refine iteBT (decide_eq_true (by omega)) ?_
        refine ⟨_, rfl, l, _, rfl, .inl (SqL.of hl), ?_⟩
        rw [List.length_map]
        exact mk3 (Q := fun cls d H' => E cls d H') ET.t4.ex.oex (ET.t4.nf _ (by simp)) (ET.t4.nf _ (by simp)) (ET.t4.nf _ (by simp)) (q G sG)
      · refine iteBF (decide_eq_false (by omega)) ?_
        refine ⟨_, rfl, _, rfl, l, wd, _, rfl, SqL.of hl, by omega, .inr ⟨ys, rfl, fun H' s' => q H' (sG.trans s')⟩⟩
      · refine iteBF (decide_eq_false (by omega)) ?_
        refine ⟨_, rfl, _, rfl, l, wd, _, rfl, SqL.of hl, by omega, .inl ⟨ts, rfl, hrun, fun H2 r rs s2 er elen hrows => ?_⟩⟩
        refine ⟨_, rfl, _, rfl, r, k, rs, ts, rfl, er, elen, hrows, hrun, fun H3 s3 => ?_⟩
        refine ⟨_, rfl, _, rfl, iteBF (by decide) ?_⟩
        have sH := (sG.trans s2).trans s3
        have hp3 := sH _ _ hp
        refine ⟨_, rfl, _, rfl, p, C, dx, _, rfl, hp3, T.cl, T.nk, (by show 0 < 1000; decide), ?_⟩
        refine ⟨_, rfl, _, rfl, p, C, dx, _, rfl, upd_same, T.cl, T.nw, (by show 1 < 1000; decide), ?_⟩
        refine ⟨_, rfl, _, rfl, p, C, dx, _, rfl, upd_same, T.cl, T.nt, (by show 2 < 1000; decide), ?_⟩
        rw [upd_upd, upd_upd]
        have hl3 := s2.trans s3 _ _ hl
        have er3 := s3 _ _ er
        have npl : l ≠ p := ne_of hl3 hp3 (by intro z; cases z)
        have npr : r ≠ p := ne_of er3 hp3 (by intro z; cases z)
        have hw3 := (hrows.words elen).keep s3
        have hbal : balF 0 (ts.map Tk.word) = some 0 := run_bal hrun
        have hplen : (ts.map Tk.word).length ≤ 900 := by
          rw [List.length_map] at h60 ⊢
          omega
        have hnp : ∀ a ∈ rs, a ≠ p := fun a ha z => by
          subst z
          obtain ⟨i, hi⟩ := List.getElem?_of_mem ha
          have hwi : i < (ts.map Tk.word).length := by rw [← hw3.1]; exact (List.getElem?_eq_some_iff.mp hi).1
          obtain ⟨dx', fs', a1, a2⟩ := hw3.2 i a _ hi (List.getElem?_eq_getElem hwi)
          rw [hp3] at a1
          cases a1
          cases a2
        have bA : But p H3 (upd H3 p (.ins C dx (putF "text" (.str x) (putF "width" wd (putF "kind" k []))))) := But.upd
        have lA : (upd H3 p (.ins C dx (putF "text" (.str x) (putF "width" wd (putF "kind" k []))))) l = some (.lst ((ts.map Tk.line).map V.str)) := bA _ _ npl hl3
        have rA : (upd H3 p (.ins C dx (putF "text" (.str x) (putF "width" wd (putF "kind" k []))))) r = some (.lst (rs.map V.ref)) := bA _ _ npr er3
        have wA : RowsW K CR (upd H3 p (.ins C dx (putF "text" (.str x) (putF "width" wd (putF "kind" k []))))) rs (ts.map Tk.word) := ⟨hw3.1, fun i a y e1 e2 => by
          obtain ⟨dx', fs', a1, a2⟩ := hw3.2 i a y e1 e2
          exact ⟨dx', fs', bA _ _ (hnp a (List.mem_of_getElem? e1)) a1, a2⟩⟩
        have pA : (upd H3 p (.ins C dx (putF "text" (.str x) (putF "width" wd (putF "kind" k []))))) p = some (.ins C dx [("kind", k), ("width", wd), ("text", .str x)]) := upd_same
        generalize upd H3 p (.ins C dx (putF "text" (.str x) (putF "width" wd (putF "kind" k [])))) = HA at bA lA rA wA pA ⊢
        refine ⟨_, rfl, fun xf dxf nx ndx ne => ?_⟩
        have sAB := made_row (C := CF) (o := .ins CF dxf []) (Same.refl HA) nx ndx ne
        refine ⟨xf, r, dxf, rs, ts.map Tk.word, rfl, upd_same, sAB _ _ rA, wA.keep sAB, hplen, hbal, fun H5 b5 _ => ⟨rfl, ?_⟩⟩
        have sA5 : Same HA H5 := fun c o z => b5 _ _ (ne_of_none z nx) (sAB _ _ z)
        refine ⟨_, rfl, p, C, dx, _, rfl, sA5 _ _ pA, T.cl, T.nf, (by show 3 < 1000; decide), ?_⟩
        refine fun me nme => ⟨_, rfl, p, C, dx, _, rfl, (new_same nme) _ _ upd_same, T.cl, T.nm, (by show 4 < 1000; decide), ?_⟩
        obtain ⟨nme5, nmep⟩ := free_upd nme
        have bF' : But p HA (upd (upd (upd H5 p (.ins C dx (putF "flow" (.ref xf) [("kind", k), ("width", wd), ("text", .str x)]))) me (.dK [])) p (.ins C dx (putF "memory" (.ref me) (putF "flow" (.ref xf) [("kind", k), ("width", wd), ("text", .str x)])))) :=
          ((((Same.but sA5).trans But.upd).trans (Same.but (new_same nme))).trans But.upd)
        have pF : (upd (upd (upd H5 p (.ins C dx (putF "flow" (.ref xf) [("kind", k), ("width", wd), ("text", .str x)]))) me (.dK [])) p (.ins C dx (putF "memory" (.ref me) (putF "flow" (.ref xf) [("kind", k), ("width", wd), ("text", .str x)])))) p = some (.ins C dx [("kind", k), ("width", wd), ("text", .str x), ("flow", .ref xf), ("memory", .ref me)]) := upd_same
        generalize upd (upd (upd H5 p (.ins C dx (putF "flow" (.ref xf) [("kind", k), ("width", wd), ("text", .str x)]))) me (.dK [])) p (.ins C dx (putF "memory" (.ref me) (putF "flow" (.ref xf) [("kind", k), ("width", wd), ("text", .str x)]))) = HF at bF' pF ⊢
        refine ⟨_, rfl, l, _, rfl, .inl ⟨SqL.of (bF' _ _ npl lA), fun lt nlt => ?_⟩⟩
        refine ⟨_, rfl, p, C, dx, _, rfl, (new_same nlt) _ _ pF, T.cl, T.nl, (by show 5 < 1000; decide), ?_⟩
        have nltp : lt ≠ p := (ne_of_none pF nlt).symm
        exact q _ xf me lt ((Same.but sH).trans (bA.trans (bF'.trans ((Same.but (new_same nlt)).trans But.upd)))) upd_same (SqT.of (by rw [upd_ne nltp, upd_same]))
end
end H1
namespace H1
open PySem PySem.Spec PyProof.Rows L2 Hx Nd Dun
section
variable {P : Program} {w : World} {K : PySem.W.Frag} {mg : Str → Option Value} {base : Heap} {D : Addr}
/-! ### what a code answers -/
theorem tyof_keep {H H' : Hp} {x : V} {t : Value} (h : TyOf K H x t) (e : Same H H') : TyOf K H' x t := by
  cases h with
  | non => exact .non
  | bl b => exact .bl b
  | int i => exact .int i
  | str y => exact .str y
  | flt y => exact .flt y
  | lst z => exact .lst (e _ _ z)
  | frz z => exact .frz (e _ _ z)
  | tup z => exact .tup (e _ _ z)
  | dK z => exact .dK (e _ _ z)
  | dT z => exact .dT (e _ _ z)
  | ins z c1 c2 c3 c4 c5 => exact .ins (e _ _ z) c1 c2 c3 c4 c5
theorem tyx_keep {H H' : Hp} {x : V} {t : Value} (h : TyX K H x t) (e : Same H H') : TyX K H' x t := by
  cases h with
  | base z => exact .base (tyof_keep z e)
  | byt b => exact .byt b
  | set z => exact .set (e _ _ z)
  | kList a b => exact .kList a b
  | kTuple a b => exact .kTuple a b
  | kDict a b => exact .kDict a b
  | fTuple z => exact .fTuple (e _ _ z)
  | fDict z => exact .fDict (e _ _ z)
theorem IsV.keep {H H' : Hp} {ty : String} {xs : List V} {v : V} {r : Bool} (h : IsV K H ty xs v r) (e : Same H H') : IsV K H' ty xs v r := by
  obtain ⟨t, b, h1, h2⟩ := h
  exact ⟨t, b, tyx_keep h1 e, h2⟩
def CodeAt (K : PySem.W.Frag) (C : Addr) (H : Hp) (c : Addr) (k wd : V) (x : Str) (ls : List Str) : Prop := ∃ dx fl me lt, H c = some (.ins C dx (codeF k wd (.str x) fl me lt)) ∧ SqT K H lt (ls.map V.str)
theorem CodeAt.keep {C c : Addr} {H H' : Hp} {k wd : V} {x : Str} {ls : List Str} (h : CodeAt K C H c k wd x ls) (e : Same H H') : CodeAt K C H' c k wd x ls := by
  obtain ⟨dx, fl, me, lt, h1, h2⟩ := h
  exact ⟨dx, fl, me, lt, e _ _ h1, sqt_same e h2⟩
def spLen (K : PySem.W.Frag) (C : Addr) : Sp := fun vs H Q _ => ∃ (c : Addr) (k wd : V) (x : Str) (ls : List Str), vs = [.ref c] ∧ CodeAt K C H c k wd x ls ∧ Q (.int ls.length) H
theorem ok_len {C : Addr} {m : Nat → Addr} (T : CodeT K mg C m) (len : mg "len" = none) : ∃ fd, Fun K "__len__" "Code.__len__" s_Code_len (m 1) fd ∧ Binds K fd ["self"] [] ∧ FnOk P w K mg base CX0 1 (m 1) fd ["self"] (spLen K C) := by
  obtain ⟨fd, F, b⟩ := T.f1
  refine ⟨fd, F, b, F.ok c_Code_len (fun vs H Q E h => ?_) (fun cdv A outer s H vs Q E hr h => ?_)⟩
  · obtain ⟨c, k, wd, x, ls, rfl, _⟩ := h
    rfl
  obtain ⟨c, k, wd, x, ls, rfl, ⟨dx, fl, me, lt, h1, h2⟩, q⟩ := h
  refine ⟨_, pss_one (ps_ret (pe_callB call_len_seq (by rfl) len PySem.boot_len (pa_cons (pe_fld (pv 0) rfl) pa_nil))), ?_⟩
  refine ⟨_, rfl, c, C, dx, _, _, rfl, h1, T.cl, T.nl, rfl, lt, _, rfl, .inr h2, ?_⟩
  rw [List.length_map]
  exact q
def spGet (K : PySem.W.Frag) (C : Addr) : Sp := fun vs H Q _ => ∃ (c : Addr) (k wd : V) (x : Str) (ls : List Str) (i : Nat) (y : Str), vs = [.ref c, .int ((i : Int) + 1)] ∧ CodeAt K C H c k wd x ls ∧ ls[i]? = some y ∧ Q (.str y) H
theorem ok_get {C : Addr} {m : Nat → Addr} (T : CodeT K mg C m) : ∃ fd, Fun K "__getitem__" "Code.__getitem__" s_Code_getitem (m 2) fd ∧ Binds K fd ["self", "at"] [] ∧ FnOk P w K mg base CX0 1 (m 2) fd ["self", "at"] (spGet K C) := by
  obtain ⟨fd, F, b⟩ := T.f2
  refine ⟨fd, F, b, F.ok c_Code_getitem (fun vs H Q E h => ?_) (fun cdv A outer s H vs Q E hr h => ?_)⟩
  · obtain ⟨c, k, wd, x, ls, i, y, rfl, _⟩ := h
    rfl
  obtain ⟨c, k, wd, x, ls, i, y, rfl, ⟨dx, fl, me, lt, h1, h2⟩, hi, q⟩ := h
  refine ⟨_, pss_one (ps_ret (pe_ix ix_tup (pe_fld (pv 0) rfl) (pe_op op_sub (pv 1) pe_int) (fun _ _ => rfl))), ?_⟩
  refine ⟨_, rfl, c, C, dx, _, _, rfl, h1, T.cl, T.nl, rfl, _, rfl, _, _, rfl, rfl, lt, _, _, .str y, rfl, rfl, h2, at_of (j := i) (by omega) (by rw [List.getElem?_map, hi] <;> rfl), q⟩
def spEqC (K : PySem.W.Frag) (C : Addr) : Sp := fun vs H Q _ => ∃ (c : Addr) (k x : Str) (wd : Int) (ls : List Str) (y : V), vs = [.ref c, y] ∧ CodeAt K C H c (.str k) (.int wd) x ls ∧
  ((∃ z, y = .str z ∧ Q (.bl false) H) ∨ ∃ (d : Addr) (k' x' : Str) (wd' : Int) (ls' : List Str), y = .ref d ∧ CodeAt K C H d (.str k') (.int wd') x' ls' ∧ Q (.bl (decide (k = k') && (decide (wd = wd') && decide (x = x')))) H)
theorem ok_eq {C : Addr} {m : Nat → Addr} (T : CodeT K mg C m) (isi : mg "isinstance" = none) : ∃ fd, Fun K "__eq__" "Code.__eq__" s_Code_eq (m 4) fd ∧ Binds K fd ["self", "other"] [] ∧ FnOk P w K mg base CX0 1 (m 4) fd ["self", "other"] (spEqC K C) := by
  obtain ⟨fd, F, b⟩ := T.f4
  refine ⟨fd, F, b, F.ok c_Code_eq (fun vs H Q E h => ?_) (fun cdv A outer s H vs Q E hr h => ?_)⟩
  · obtain ⟨c, k, x, wd, ls, y, rfl, _⟩ := h
    rfl
  obtain ⟨c, k, x, wd, ls, y, rfl, ⟨dx, fl, me, lt, h1, h2⟩, q⟩ := h
  refine ⟨_, pss_one (ps_ret (pe_and (pe_callB call_isi (by rfl) isi (by decide +kernel) (pa_cons (pv 1) (pa_cons (pe_glob (v := .ref C) rfl T.g rfl) pa_nil)))
    (pe_and (pe_cmpR op_eq (pe_fld (pv 0) rfl) (pe_fld (pv 1) rfl) (nomark _)) (pe_and (pe_cmpR op_eq (pe_fld (pv 0) rfl) (pe_fld (pv 1) rfl) (nomark _)) (pe_one (pe_cmpR op_eq (pe_fld (pv 0) rfl) (pe_fld (pv 1) rfl) (nomark _))))))), ?_⟩
  rcases q with ⟨z, rfl, q⟩ | ⟨d, k', x', wd', ls', rfl, ⟨dx', fl', me', lt', e1, e2⟩, q⟩
  · exact ⟨_, rfl, .str z, .ref C, .type "str", .ref C, false, rfl, .own C, .base (.str z), T.ks, false, rfl, q⟩
  · refine ⟨_, rfl, .ref d, .ref C, .ref C, .ref C, true, rfl, .own C, .base (.ins e1 T.cl T.ha T.hn T.ht T.mro), T.kc, true, rfl, ?_⟩
    refine ⟨_, rfl, c, C, dx, _, _, rfl, h1, T.cl, T.nk, rfl, _, rfl, d, C, dx', _, _, rfl, e1, T.cl, T.nk, rfl, rfl, _, rfl, ?_⟩
    refine ite2 (fun a => ?_) (fun a => ?_)
    · have ea : k = k' := V.str.inj (of_decide_eq_true a)
      refine ⟨_, rfl, c, C, dx, _, _, rfl, h1, T.cl, T.nw, rfl, _, rfl, d, C, dx', _, _, rfl, e1, T.cl, T.nw, rfl, rfl, _, rfl, ?_⟩
      refine ite2 (fun a => ?_) (fun a => ?_)
      · have eb : wd = wd' := V.int.inj (of_decide_eq_true a)
        refine ⟨_, rfl, c, C, dx, _, _, rfl, h1, T.cl, T.nt, rfl, _, rfl, d, C, dx', _, _, rfl, e1, T.cl, T.nt, rfl, rfl, ?_⟩
        have ec : decide (V.str x = V.str x') = decide (x = x') := decide_eq_decide.mpr ⟨fun z => V.str.inj z, fun z => by rw [z]⟩
        rw [decide_eq_true ea, decide_eq_true eb, Bool.true_and, Bool.true_and] at q
        rw [ec]
        exact q
      · have eb : ¬ wd = wd' := fun z => a (decide_eq_true (by rw [z]))
        rw [decide_eq_true ea, decide_eq_false eb, Bool.true_and, Bool.false_and] at q
        exact q
    · have ea : ¬ k = k' := fun z => a (decide_eq_true (by rw [z]))
      rw [decide_eq_false ea, Bool.false_and] at q
      exact q
/-! #### as_kind -/
def spAs (K : PySem.W.Frag) (C : Addr) (EC : Nat → Addr) : Sp := fun vs H Q E => ∃ (c : Addr) (k wd kd : V) (x : Str) (ls : List Str), vs = [.ref c, kd] ∧ CodeAt K C H c k wd x ls ∧ TextOf x ls ∧
  ((IsV K H "str" kindsV kd false ∧ ∀ H', Same H H' → err1 (EC 0) "kind" kd H' E) ∨
   (IsV K H "str" kindsV kd true ∧ IsV K H "int" widthsV wd true ∧ ls.length ≤ 60 ∧ (∃ ts : List Tk, ls = ts.map Tk.line ∧ run .no ts = some .no) ∧ ∀ H' c', Same H H' → H c' = none → CodeAt K C H' c' kd wd x ls → Q (.ref c') H'))
theorem ok_as {C : Addr} {EC m : Nat → Addr} (T : CodeT K mg C m) {cd : FuncData} (FC : Fun K "__init__" "Code.__init__" s_Code_init (m 0) cd) (bC : Binds K cd psCD []) (GC : FnOk P w K mg base (L2.CX P w) 7 (m 0) cd psCD (spCode K C EC)) :
    ∃ fd, Fun K "as_kind" "Code.as_kind" s_Code_as_kind (m 5) fd ∧ Binds K fd ["self", "kind"] [] ∧ FnOk P w K mg base (L2.CX P w) 9 (m 5) fd ["self", "kind"] (spAs K C EC) := by
  obtain ⟨fd, F, b⟩ := T.f5.fn
  refine ⟨fd, F, b, F.okX c_Code_as_kind (fun vs H Q E h => ?_) (fun cdv A outer s H vs Q E hr h => ?_)⟩
  · obtain ⟨c, k, wd, kd, x, ls, rfl, _⟩ := h
    rfl
  obtain ⟨c, k, wd, kd, x, ls, rfl, ⟨dx, fl, me, lt, h1, h2⟩, hx, q⟩ := h
  have tk : Takes (cxOf (L2.CX P w) P w K mg base n_Code_as_kind "Code.as_kind" (defScope s_Code_as_kind) (m 5) cdv A outer s H E) (fun cls d _ G => E cls d G) := takes_of rfl rfl rfl rfl
  refine ⟨_, pss_one (ps_ret (Mkx.pe_makeS T.mak GC hr rfl T.g bC tk (pa_cons (pv 1) (pa_cons (pe_fld (pv 0) rfl) (pa_cons (pe_fld (pv 0) rfl) pa_nil))))), ?_⟩
  refine ⟨_, rfl, _, rfl, c, C, dx, _, _, rfl, h1, T.cl, T.nw, rfl, _, rfl, c, C, dx, _, _, rfl, h1, T.cl, T.nt, rfl, fun p dx2 np nd ne => ?_⟩
  have np' : upd H dx2 (.own p) p = none := by rw [upd_ne ne.symm]; exact np
  have sH := same_new (o := .ins C dx2 []) (new_same (o := .own p) nd) np'
  refine ⟨p, dx2, kd, wd, x, ls, rfl, upd_same, hx, ?_⟩
  rcases q with ⟨i1, q⟩ | ⟨i1, i2, h60, hts, q⟩
  · exact .inl ⟨i1.keep sH, q _ sH⟩
  · refine .inr (.inr ⟨i1.keep sH, i2.keep sH, .inr (.inr ⟨h60, hts, fun H' fl' me' lt' b' hp hlt => ⟨rfl, ?_⟩⟩)⟩)
    refine q H' p (fun a u z => b' a u (ne_of_none z np) (sH a u z)) np ⟨dx2, fl', me', lt', hp, hlt⟩
end
end H1
namespace H1
open PySem PySem.Spec PyProof.Rows L2 Hx Nd Dun
section
variable {P : Program} {w : World} {K : PySem.W.Frag} {mg : Str → Option Value} {base : Heap} {D : Addr}
/-! ### _law_told -/
structure KitT (K : PySem.W.Frag) (D : Addr) (C : Nat → Addr) : Prop where
  kit : ∀ j k, j < 5 → k < 5 → PySem.W.kitOne K (.ref (C j)) (.ref (C k)) = some (decide (j = k))
  exB : ∀ j, j < 5 → PySem.W.exmOne K (.ref (C j)) (.ref D) = some true
  ex0 : PySem.W.exmOne K (.ref (C 0)) (.ref (C 0)) = some true
  two : PySem.W.kitAny K (.ref (C 2)) [.ref (C 2), .ref (C 3)] = some true
def rIsZ (K : PySem.W.Frag) (a : Addr) (cls : Value) (d : Option Addr) : List V → Hp → VK → Prop := fun xs H Q => ∃ D, cls = .ref D ∧ ExcC K D ∧ rIsD K D a d xs H Q
def rIsZT (K : PySem.W.Frag) (a : Addr) (cls : Value) (d : Option Addr) : List V → Hp → VK → Prop := fun xs H Q => ∃ D, cls = .ref D ∧ ExcC K D ∧ rIsDT K D a d xs H Q
theorem call_isZ {X : Cx} {K' : PySem.W.Frag} {a : Addr} {cls : Value} {d : Option Addr} {oe : Obj} (hk : X.K = K') (hp : (a, oe) ∈ X.pn) (hz : Zc cls d oe) (hf : ∃ vs, oe.data = .fields vs) : CallR X (.builtin "isinstance") (rIsZ K' a cls d) := by
  subst hk
  intro pins s σ H xs us Q I r h
  obtain ⟨D, rfl, T, q⟩ := h
  exact call_isD T hp ⟨hz, hf⟩ pins s σ H xs us Q I r q
theorem call_isZT {X : Cx} {K' : PySem.W.Frag} {a : Addr} {cls : Value} {d : Option Addr} {oe : Obj} (hk : X.K = K') (hp : (a, oe) ∈ X.pn) (hz : Zc cls d oe) (hf : ∃ vs, oe.data = .fields vs) : CallR X (.builtin "isinstance") (rIsZT K' a cls d) := by
  subst hk
  intro pins s σ H xs us Q I r h
  obtain ⟨D, rfl, T, q⟩ := h
  exact call_isDT T hp ⟨hz, hf⟩ pins s σ H xs us Q I r q
theorem look1 {f : Str} {a : V} : List.lookup f [(f, a)] = some a := by simp [List.lookup]
abbrev psTD : List Str := ["_law_kind", "_law_width", "_law_text"]
/-- what a making is told as -/
inductive Told (K : PySem.W.Frag) (H : Hp) (k wd : V) (x : Str) (ls : List Str) : List V → Prop
  | kind : IsV K H "str" kindsV k false → Told K H k wd x ls [.str "kind", k]
  | width : IsV K H "str" kindsV k true → IsV K H "int" widthsV wd false → Told K H k wd x ls [.str "width", wd]
  | many : IsV K H "str" kindsV k true → IsV K H "int" widthsV wd true → 60 < ls.length → Told K H k wd x ls [.str "many", .str "lines", .int ls.length, .int 60]
  | line : IsV K H "str" kindsV k true → IsV K H "int" widthsV wd true → ls.length ≤ 60 → (∃ ys : List Str, ls = ("Tell" : Str) :: ys) → Told K H k wd x ls [.str "line", .int 1]
  | made : IsV K H "str" kindsV k true → IsV K H "int" widthsV wd true → ls.length ≤ 60 → (∃ ts : List Tk, ls = ts.map Tk.line ∧ run .no ts = some .no) → Told K H k wd x ls [.str "made", k, wd, .str x, .int ls.length]
def spTold (K : PySem.W.Frag) : Sp := fun vs H Q _ => ∃ (k wd : V) (x : Str) (ls : List Str) (ys : List V), vs = [k, wd, .str x] ∧ TextOf x ls ∧ Told K H k wd x ls ys ∧ ∀ H' t, Same H H' → SqT K H' t ys → Q (.ref t) H'
theorem ok_told {f C DB : Addr} {EC EI m : Nat → Addr} (T0 : FT K mg "_law_told" s_Ltold psTD f) (T : CodeT K mg C m) (ET : ErrT K mg DB EC EI) (KT : KitT K DB EC) (isi : mg "isinstance" = none) (len : mg "len" = none)
    {cd : FuncData} (FC : Fun K "__init__" "Code.__init__" s_Code_init (m 0) cd) (bC : Binds K cd psCD []) (GC : FnOk P w K mg base (L2.CX P w) 7 (m 0) cd psCD (spCode K C EC)) :
    ∃ fd, Fun K "_law_told" "_law_told" s_Ltold f fd ∧ Binds K fd psTD [] ∧ FnOk P w K mg base CX0 9 f fd psTD (spTold K) := by
  obtain ⟨fd, F, b⟩ := T0.fn
  obtain ⟨dl, FL, bL, GL⟩ := ok_len (P := P) (w := w) (base := base) T len
  refine ⟨fd, F, b, F.ok c_Ltold (fun vs H Q E h => ?_) (fun cdv A outer s H vs Q E hr h => ?_)⟩
  · obtain ⟨k, wd, x, ls, ys, rfl, _⟩ := h
    rfl
  obtain ⟨k, wd, x, ls, ys, rfl, hx, ht, q⟩ := h
  have hr1 : Room 2 _ := hr.mono (by decide)
  refine ⟨_, pss_cons (ps_try_any (Wout := fun _ _ _ _ => False) (tb := fun W => tAsg (Mkx.tMakeS C (spCode K C EC) W (tCons (tVar 0) (tCons (tVar 1) (tCons (tVar 2) tNil)))) (gName 3)) rfl rfl takes0
        (fun W pn xe tk _ => pss_one (ps_set (i := 3) c_Ltold.nd rfl (Or.inl rfl) (Mkx.pe_makeS T.mak GC hr rfl T.g bC tk (pa_cons (pv 0) (pa_cons (pv 1) (pa_cons (pv 2) pa_nil))))))
        (.as (i := 4) c_Ltold.nd rfl rfl ⟨rfl, by decide, .inl ET.base.gB⟩ (fun a oe cls d pn hz hf =>
          pss_cons (ps_if (pt_val (pe_callB (call_isZ (K' := K) rfl List.mem_cons_self hz hf) (by rfl) isi (by decide +kernel) (pa_cons (pv 4) (pa_cons (pe_glob (v := .ref (EC 0)) rfl ET.t0.ex.gC rfl) pa_nil)))) (pss_one (ps_ret (pe_tup (pa_cons pe_str (pa_cons (pe_xf ET.t0.xf (ET.t0.nf _ (by simp)) hz hf (pv 4)) pa_nil))))) pss_nil)
          (pss_cons (ps_if (pt_val (pe_callB (call_isZ (K' := K) rfl List.mem_cons_self hz hf) (by rfl) isi (by decide +kernel) (pa_cons (pv 4) (pa_cons (pe_glob (v := .ref (EC 1)) rfl ET.t1.ex.gC rfl) pa_nil)))) (pss_one (ps_ret (pe_tup (pa_cons pe_str (pa_cons (pe_xf ET.t1.xf (ET.t1.nf _ (by simp)) hz hf (pv 4)) pa_nil))))) pss_nil)
          (pss_cons (ps_if (pt_val (pe_callB (call_isZ (K' := K) rfl List.mem_cons_self hz hf) (by rfl) isi (by decide +kernel) (pa_cons (pv 4) (pa_cons (pe_glob (v := .ref (EC 4)) rfl ET.t4.ex.gC rfl) pa_nil)))) (pss_one (ps_ret (pe_tup (pa_cons pe_str (pa_cons (pe_xf ET.t4.xf (ET.t4.nf _ (by simp)) hz hf (pv 4)) (pa_cons (pe_xf ET.t4.xf (ET.t4.nf _ (by simp)) hz hf (pv 4)) (pa_cons (pe_xf ET.t4.xf (ET.t4.nf _ (by simp)) hz hf (pv 4)) pa_nil))))))) pss_nil)
          (pss_one (ps_ret (pe_ifExp (pt_val (pe_callB (call_isZT (K' := K) rfl List.mem_cons_self hz hf) (by rfl) isi (by decide +kernel) (pa_cons (pv 4) (pa_cons (pe_tup (pa_cons (pe_glob (v := .ref (EC 2)) rfl ET.t2.ex.gC rfl) (pa_cons (pe_glob (v := .ref (EC 3)) rfl ET.t3.ex.gC rfl) pa_nil))) pa_nil))))
            (pe_tup (pa_cons pe_str (pa_cons (pe_xf ET.t2.xf (ET.t2.nf _ (by simp)) hz hf (pv 4)) pa_nil))) (pe_tup (pa_cons pe_str pa_nil)))))))) .nil))
    (pss_one (ps_ret (pe_tup (pa_cons pe_str (pa_cons (pe_fld (pv 3) rfl) (pa_cons (pe_fld (pv 3) rfl) (pa_cons (pe_fld (pv 3) rfl) (pa_cons (pe_callB (call_lenO GL hr1 T.d1 bL pass0) (by rfl) len PySem.boot_len (pa_cons (pv 3) pa_nil)) pa_nil)))))))), ?_⟩
  refine ⟨_, rfl, _, rfl, _, rfl, fun p dx np nd ne => ?_⟩
  have np' : upd H dx (.own p) p = none := by rw [upd_ne ne.symm]; exact np
  have sH := same_new (o := .ins C dx []) (new_same (o := .own p) nd) np'
  refine ⟨p, dx, k, wd, x, ls, rfl, upd_same, hx, ?_⟩
  have hd : ∀ {d : Addr} {G : Hp} {fs : List (Str × V)}, ∀ z, some d = some z → ∃ gs, (upd G d (.xd fs)) z = some (.xd gs) := fun z e => by
    cases e
    exact ⟨_, upd_same⟩
  cases ht with
  | kind i1 =>
    refine .inl ⟨i1.keep sH, fun d nd => ⟨true, KT.exB 0 (by decide), fun _ a na => ?_, fun z => Bool.noConfusion z⟩⟩
    refine ⟨_, rfl, EC 0, rfl, ET.t0.is, .ref (EC 0), .ref (EC 0), _, rfl, .own _, hd, KT.kit 0 0 (by decide) (by decide), _, rfl, iteBT (by decide) ?_⟩
    refine ⟨_, rfl, rfl, rfl, d, _, _, rfl, upd_same, look1, (by show 2 ≤ sizeLine; decide), fun t nt => ?_⟩
    exact q _ t ((same_new sH nd).trans (new_same nt)) (SqT.of upd_same)
  | width i1 i2 =>
    refine .inr (.inl ⟨i1.keep sH, i2.keep sH, fun d nd => ⟨true, KT.exB 1 (by decide), fun _ a na => ?_, fun z => Bool.noConfusion z⟩⟩)
    refine ⟨_, rfl, EC 1, rfl, ET.t1.is, .ref (EC 0), .ref (EC 0), _, rfl, .own _, hd, KT.kit 1 0 (by decide) (by decide), _, rfl, iteBF (by decide) ?_⟩
    refine ⟨_, rfl, EC 1, rfl, ET.t1.is, .ref (EC 1), .ref (EC 1), _, rfl, .own _, hd, KT.kit 1 1 (by decide) (by decide), _, rfl, iteBT (by decide) ?_⟩
    refine ⟨_, rfl, rfl, rfl, d, _, _, rfl, upd_same, look1, (by show 2 ≤ sizeLine; decide), fun t nt => ?_⟩
    exact q _ t ((same_new sH nd).trans (new_same nt)) (SqT.of upd_same)
  | many i1 i2 h60 =>
    refine .inr (.inr ⟨i1.keep sH, i2.keep sH, .inl ⟨h60, fun H' s' d nd => ⟨true, KT.exB 4 (by decide), fun _ a na => ?_, fun z => Bool.noConfusion z⟩⟩⟩)
    refine ⟨_, rfl, EC 4, rfl, ET.t4.is, .ref (EC 0), .ref (EC 0), _, rfl, .own _, hd, KT.kit 4 0 (by decide) (by decide), _, rfl, iteBF (by decide) ?_⟩
    refine ⟨_, rfl, EC 4, rfl, ET.t4.is, .ref (EC 1), .ref (EC 1), _, rfl, .own _, hd, KT.kit 4 1 (by decide) (by decide), _, rfl, iteBF (by decide) ?_⟩
    refine ⟨_, rfl, EC 4, rfl, ET.t4.is, .ref (EC 4), .ref (EC 4), _, rfl, .own _, hd, KT.kit 4 4 (by decide) (by decide), _, rfl, iteBT (by decide) ?_⟩
    refine ⟨_, rfl, rfl, rfl, d, _, _, rfl, upd_same, (by simp [List.lookup]; rfl), _, rfl, rfl, rfl, d, _, _, rfl, upd_same, (by simp [List.lookup]; rfl), _, rfl, rfl, rfl, d, _, _, rfl, upd_same, (by simp [List.lookup]; rfl), (by show 4 ≤ sizeLine; decide), fun t nt => ?_⟩
    exact q _ t ((same_new (sH.trans s') nd).trans (new_same nt)) (SqT.of upd_same)
  | line i1 i2 h60 hl =>
    refine .inr (.inr ⟨i1.keep sH, i2.keep sH, .inr (.inl ⟨h60, hl, fun H' s' d nd => ⟨true, KT.exB 2 (by decide), fun _ a na => ?_, fun z => Bool.noConfusion z⟩⟩)⟩)
    refine ⟨_, rfl, EC 2, rfl, ET.t2.is, .ref (EC 0), .ref (EC 0), _, rfl, .own _, hd, KT.kit 2 0 (by decide) (by decide), _, rfl, iteBF (by decide) ?_⟩
    refine ⟨_, rfl, EC 2, rfl, ET.t2.is, .ref (EC 1), .ref (EC 1), _, rfl, .own _, hd, KT.kit 2 1 (by decide) (by decide), _, rfl, iteBF (by decide) ?_⟩
    refine ⟨_, rfl, EC 2, rfl, ET.t2.is, .ref (EC 4), .ref (EC 4), _, rfl, .own _, hd, KT.kit 2 4 (by decide) (by decide), _, rfl, iteBF (by decide) ?_⟩
    refine ⟨_, rfl, (by show 2 ≤ sizeLine; decide), fun u nu => ⟨EC 2, rfl, ET.t2.is, u, [.ref (EC 2), .ref (EC 3)], [.ref (EC 2), .ref (EC 3)], true, rfl, upd_same, .cons (.own _) (.cons (.own _) .nil), fun z e => ?_, KT.two, true, rfl, iteT ?_⟩⟩
    · cases e
      exact ⟨_, (new_same nu) _ _ upd_same⟩
    refine ⟨_, rfl, rfl, rfl, d, _, _, rfl, (new_same nu) _ _ upd_same, look1, (by show 2 ≤ sizeLine; decide), fun t nt => ?_⟩
    exact q _ t (((same_new (sH.trans s') nd).trans (new_same nu)).trans (new_same nt)) (SqT.of upd_same)
  | made i1 i2 h60 hts =>
    refine .inr (.inr ⟨i1.keep sH, i2.keep sH, .inr (.inr ⟨h60, hts, fun H' fl me lt bt hp hlt => ⟨rfl, ?_⟩⟩)⟩)
    refine ⟨_, rfl, p, C, dx, _, _, rfl, hp, T.cl, T.nk, rfl, _, rfl, p, C, dx, _, _, rfl, hp, T.cl, T.nw, rfl, _, rfl, p, C, dx, _, _, rfl, hp, T.cl, T.nt, rfl, ?_⟩
    refine ⟨_, rfl, p, dx, _, rfl, hp, p, k, wd, x, ls, rfl, ⟨dx, fl, me, lt, hp, hlt⟩, _, rfl, by omega, by omega, (by show 5 ≤ sizeLine; decide), fun t nt => ?_⟩
    refine q _ t (Same.trans (fun c u z => bt c u (ne_of_none z np) (sH c u z)) (new_same nt)) (SqT.of upd_same)
end
end H1
namespace H1
open PySem PySem.Spec PyProof.Rows L2 Hx Nd Dun
section
variable {P : Program} {w : World} {K : PySem.W.Frag} {mg : Str → Option Value} {base : Heap} {D : Addr}
/-! ### _law_lines -/
theorem bag_dk {H : Hp} {p : Addr} {n : Nat} (b : Bag H p n) : ∃ kvs, H p = some (.dK kvs) := by
  obtain ⟨l, ns, i, dg, fd, h1, _⟩ := b
  exact ⟨_, h1⟩
theorem lst_but {H H' : Hp} {p a : Addr} {xs : List V} (b : But p H H') (hp : ∃ kvs, H p = some (.dK kvs)) (h : H a = some (.lst xs)) : H' a = some (.lst xs) := by
  obtain ⟨kvs, hk⟩ := hp
  exact b a _ (fun e => by rw [e, hk] at h; cases h) h
theorem run_app : ∀ (a b : List Tk) (o : On), run o (a ++ b) = (run o a).bind fun o' => run o' b
  | [], b, o => rfl
  | t :: a, b, o => by
    show (stp o t).bind (fun o' => run o' (a ++ b)) = ((stp o t).bind fun o' => run o' a).bind fun o' => run o' b
    cases stp o t with
    | none => rfl
    | some o' => exact run_app a b o'
def tV (ts : List Tk) : List V := (ts.map Tk.line).map V.str
def poolTs : Nat → List Tk
  | 0 => [.tell] | 1 => [.grab] | 2 => [.note] | 3 => [.ifi, .tell, .fin] | _ => [.ifb, .els, .quit, .fin]
theorem pool_ok (j : Nat) : run .no (poolTs j) = some .no ∧ (poolTs j).length ≤ 4 := by
  match j with
  | 0 => exact ⟨rfl, by decide⟩
  | 1 => exact ⟨rfl, by decide⟩
  | 2 => exact ⟨rfl, by decide⟩
  | 3 => exact ⟨rfl, by decide⟩
  | j + 4 => exact ⟨rfl, by show 4 ≤ 4; decide⟩
def PoolAt (G : Hp) (pl : Addr) : Prop := ∃ L : Nat → Addr, G pl = some (.lst [.ref (L 0), .ref (L 1), .ref (L 2), .ref (L 3), .ref (L 4)]) ∧ ∀ j, j < 5 → G (L j) = some (.lst (tV (poolTs j)))
theorem PoolAt.but {G G' : Hp} {p pl : Addr} (h : PoolAt G pl) (b : But p G G') (hp : ∃ kvs, G p = some (.dK kvs)) : PoolAt G' pl := by
  obtain ⟨L, h1, h2⟩ := h
  exact ⟨L, lst_but b hp h1, fun j hj => lst_but b hp (h2 j hj)⟩
theorem small16 {m : Int} (h0 : 0 ≤ m) (h : m ≤ 1000) : m.natAbs < 2 ^ 8000 := by
  have h1 : m.natAbs < 2 ^ 10 := by omega
  exact Nat.lt_of_lt_of_le h1 (Nat.pow_le_pow_right (by decide) (by decide))
def spLines : Sp := fun vs H Q _ => ∃ (p : Addr) (n : Nat), vs = [.ref p] ∧ Bag H p n ∧ n ≤ 900000 ∧ ∀ H' l ts n', But p H H' → H l = none → H' l = some (.lst (tV ts)) → run .no ts = some .no → ts.length ≤ 60 → Bag H' p n' → n' ≤ n + 16 → Q (.ref l) H'
theorem ok_lines {f g : Addr} (T0 : FT K mg "_law_lines" s_Llines ["_law_bag_here"] f) (rng : mg "range" = none) (BT : BltT mg) {gd : FuncData} (FD : Fun K "_law_draw" "_law_draw" sDraw g gd) (bD : Binds K gd ["_law_bag_here", "_law_limit"] []) (mD : mg "_law_draw" = some (.ref g)) :
    ∃ fd, Fun K "_law_lines" "_law_lines" s_Llines f fd ∧ Binds K fd ["_law_bag_here"] [] ∧ FnOk P w K mg base CX0 2 f fd ["_law_bag_here"] spLines := by
  obtain ⟨fd, F, b⟩ := T0.fn
  have GD : FnOk P w K mg base CX0 1 g gd ["_law_bag_here", "_law_limit"] spDraw := ok_draw FD BT
  refine ⟨fd, F, b, F.ok c_Llines (fun vs H Q E h => ?_) (fun cdv A outer s H vs Q E hr h => ?_)⟩
  · obtain ⟨p, n, rfl, _⟩ := h
    rfl
  obtain ⟨p, n, rfl, hb, hn, q⟩ := h
  refine ⟨_, pss_cons (ps_set (i := 1) c_Llines.nd rfl (Or.inl rfl) (pe_lst (pa_cons (pe_lst (pa_cons pe_str pa_nil)) (pa_cons (pe_lst (pa_cons pe_str pa_nil)) (pa_cons (pe_lst (pa_cons pe_str pa_nil)) (pa_cons (pe_lst (pa_cons pe_str (pa_cons pe_str (pa_cons pe_str pa_nil)))) (pa_cons (pe_lst (pa_cons pe_str (pa_cons pe_str (pa_cons pe_str (pa_cons pe_str pa_nil))))) pa_nil)))))))
    (pss_cons (ps_set (i := 2) c_Llines.nd rfl (Or.inl rfl) (pe_lst pa_nil))
    (pss_cons (ps_for PassesOwn.never rfl (pi_range1 rfl rng (pa_cons (pe_call GD hr rfl mD FD.kp bD .nil pass0 (pa_cons (pv 0) (pa_cons pe_int pa_nil))) pa_nil)) (pg_name (i := 3) c_Llines.nd rfl (Or.inl rfl))
      (pss_one (ps_set (i := 2) c_Llines.nd rfl (Or.inl rfl) (pe_op op_cat (pv 2) (pe_ix ix_list (pv 1) (pe_call GD hr rfl mD FD.kp bD .nil pass0 (pa_cons (pv 0) (pa_cons (pe_ifExp (pt_cmpR op_lt (pv 3) pe_int (nomark _)) pe_int pe_int) pa_nil))) (fun _ _ => rfl))))))
    (pss_one (ps_ret (pv 2))))), ?_⟩
  refine ⟨(by show 1 ≤ sizeLine; decide), fun l0 n0 => ⟨(by show 1 ≤ sizeLine; decide), fun l1 n1 => ⟨(by show 1 ≤ sizeLine; decide), fun l2 n2 => ⟨(by show 3 ≤ sizeLine; decide), fun l3 n3 => ⟨(by show 4 ≤ sizeLine; decide), fun l4 n4 => ⟨(by show 5 ≤ sizeLine; decide), fun pl npl => ⟨Nat.zero_le _, fun lf nf => ?_⟩⟩⟩⟩⟩⟩⟩
  have s0 := new_same (o := .lst [.str "tell"]) n0
  have s1 := same_new (o := .lst [.str "grab"]) s0 n1
  have s2 := same_new (o := .lst [.str "note"]) s1 n2
  have s3 := same_new (o := .lst [.str "if inside", .str "tell", .str "end"]) s2 n3
  have s4 := same_new (o := .lst [.str "if below root", .str "else", .str "quit", .str "end"]) s3 n4
  have s5 := same_new (o := .lst [.ref l0, .ref l1, .ref l2, .ref l3, .ref l4]) s4 npl
  have s6 := same_new (o := .lst []) s5 nf
  have pool : PoolAt (upd (upd (upd (upd (upd (upd (upd H l0 (.lst [.str "tell"])) l1 (.lst [.str "grab"])) l2 (.lst [.str "note"])) l3 (.lst [.str "if inside", .str "tell", .str "end"])) l4 (.lst [.str "if below root", .str "else", .str "quit", .str "end"])) pl (.lst [.ref l0, .ref l1, .ref l2, .ref l3, .ref l4])) lf (.lst [])) pl := by
    refine ⟨fun j => match j with | 0 => l0 | 1 => l1 | 2 => l2 | 3 => l3 | _ => l4, (new_same nf) _ _ upd_same, fun j hj => ?_⟩
    have hh : j = 0 ∨ j = 1 ∨ j = 2 ∨ j = 3 ∨ j = 4 := by omega
    rcases hh with rfl | rfl | rfl | rfl | rfl
    · exact (new_same nf) _ _ ((new_same npl) _ _ ((new_same n4) _ _ ((new_same n3) _ _ ((new_same n2) _ _ ((new_same n1) _ _ upd_same)))))
    · exact (new_same nf) _ _ ((new_same npl) _ _ ((new_same n4) _ _ ((new_same n3) _ _ ((new_same n2) _ _ upd_same))))
    · exact (new_same nf) _ _ ((new_same npl) _ _ ((new_same n4) _ _ ((new_same n3) _ _ upd_same)))
    · exact (new_same nf) _ _ ((new_same npl) _ _ ((new_same n4) _ _ upd_same))
    · exact (new_same nf) _ _ ((new_same npl) _ _ upd_same)
  have nfH := free_same s5 nf
  refine ⟨_, rfl, p, n, 16, rfl, hb.keep s6, by omega, by decide, small16 (by decide) (by decide), fun r G r0 r1 bG uG => ?_⟩
  have dk := bag_dk (hb.keep s6)
  refine ⟨r, rfl, by omega, by omega, for_range (n := r.toNat) (fun i σ G => ∃ (lf : Addr) (ts : List Tk) (n' : Nat) (v3 : Option V), σ = [some (.ref p), some (.ref pl), some (.ref lf), v3] ∧ Bag G p n' ∧ n' ≤ n + 1 + i ∧ But p H G ∧ G lf = some (.lst (tV ts)) ∧ H lf = none ∧ run .no ts = some .no ∧ ts.length ≤ 4 * i ∧ PoolAt G pl)
    ⟨lf, [], n + 1, none, rfl, bG, Nat.le_refl _, (Hx.Same.but s6).trans uG, lst_but uG dk upd_same, nfH, rfl, Nat.le_refl _, pool.but uG dk⟩ ?_ ?_⟩
  · rintro i σ G hi ⟨lf, ts, n', v3, rfl, bG, hn', uG, eG, nlf, hrun, hlen, hpool⟩
    refine ⟨_, rfl, _, rfl, _, rfl, _, rfl, _, _, rfl, rfl, _, rfl, ?_⟩
    have step : ∀ m : Int, 1 ≤ m → m ≤ 5 → spDraw [.ref p, .int m] G (fun y H1 => rIxL K (.ref pl) y H1 fun z H2 => rCat (.ref lf) z H2 fun u H3 => ∃ (lf : Addr) (ts : List Tk) (n' : Nat) (v3 : Option V), ([some (.ref p), some (.ref pl), some u, some (.int (0 + (i : Int)))] : L2.St) = [some (.ref p), some (.ref pl), some (.ref lf), v3] ∧ Bag H3 p n' ∧ n' ≤ n + 1 + (i + 1) ∧ But p H H3 ∧ H3 lf = some (.lst (tV ts)) ∧ H lf = none ∧ run .no ts = some .no ∧ ts.length ≤ 4 * (i + 1) ∧ PoolAt H3 pl) E0 := by
      intro m m1 m5
      have hiN : i < 16 := by omega
      refine ⟨p, n', m, rfl, bG, by omega, by omega, small16 (by omega) (by omega), fun r2 G2 a0 a1 bG2 uG2 => ?_⟩
      have dk2 := bag_dk bG
      obtain ⟨L, e1, e2⟩ := hpool.but uG2 dk2
      have elf := lst_but uG2 dk2 eG
      have hj : r2.toNat < 5 := by omega
      refine ⟨pl, _, r2, .ref (L r2.toNat), rfl, rfl, SqL.of e1, at_of (j := r2.toNat) (by omega) ?_, ?_⟩
      · have hh : r2.toNat = 0 ∨ r2.toNat = 1 ∨ r2.toNat = 2 ∨ r2.toNat = 3 ∨ r2.toNat = 4 := by omega
        rcases hh with h | h | h | h | h <;> rw [h] <;> rfl
      · obtain ⟨k1, k2⟩ := pool_ok r2.toNat
        have lens : (tV ts).length + (tV (poolTs r2.toNat)).length ≤ sizeLine := by
          unfold tV
          rw [List.length_map, List.length_map, List.length_map, List.length_map]
          exact Nat.le_trans (Nat.add_le_add hlen k2) (Nat.le_trans (show 4 * i + 4 ≤ 100 by omega) (by decide))
        refine ⟨lf, L r2.toNat, _, _, rfl, rfl, elf, e2 _ hj, lens, fun z nz => ?_⟩
        have sz := new_same (o := .lst (tV ts ++ tV (poolTs r2.toNat))) nz
        refine ⟨z, ts ++ poolTs r2.toNat, n' + 1, _, rfl, bG2.keep sz, by omega, (uG.trans uG2).trans (Hx.Same.but sz), ?_, ?_, ?_, ?_, ?_⟩
        · rw [upd_same]
          unfold tV
          rw [List.map_append, List.map_append]
        · exact (uG.trans uG2).free bG2 nz
        · rw [run_app, hrun]
          exact k1
        · rw [List.length_append]
          omega
        · exact ⟨L, sz _ _ e1, fun j hj => sz _ _ (e2 j hj)⟩
    refine ite2 (fun _ => ?_) (fun _ => ?_)
    · exact step 5 (by decide) (by decide)
    · exact step 3 (by decide) (by decide)
  · rintro σ G ⟨lf, ts, n', v3, rfl, bG, hn', uG, eG, nlf, hrun, hlen, _⟩
    exact ⟨_, rfl, q G lf ts n' uG nlf eG hrun (by omega) bG (by omega)⟩
end
end H1
namespace H1
open PySem PySem.Spec PyProof.Rows L2 Hx Nd Dun
section
variable {P : Program} {w : World} {K : PySem.W.Frag} {mg : Str → Option Value} {base : Heap} {D : Addr}
/-! ### _law_kinds_right -/
theorem isKind {H : Hp} {s : Str} (h : inV (.str s) kindsV = true) : IsV K H "str" kindsV (.str s) true := ⟨.type "str", true, .base (.str s), kit_ty (by decide +kernel), fun _ => rfl, h⟩
theorem isWidth {H : Hp} {n : Int} (h : inV (.int n) widthsV = true) : IsV K H "int" widthsV (.int n) true := ⟨.type "int", true, .base (.int n), kit_ty (by decide +kernel), fun _ => rfl, h⟩
theorem noKind {H : Hp} {s : Str} (h : inV (.str s) kindsV = false) : IsV K H "str" kindsV (.str s) false := ⟨.type "str", true, .base (.str s), kit_ty (by decide +kernel), fun _ => rfl, h⟩
def Good (ls : List Str) : Prop := ls.length ≤ 60 ∧ ∃ ts : List Tk, ls = ts.map Tk.line ∧ run .no ts = some .no
abbrev psKR : List Str := ["_law_code", "_law_lines_here"]
def spRight (K : PySem.W.Frag) (C : Addr) : Sp := fun vs H Q _ => ∃ (c l : Addr) (k x : Str) (wd : Int) (ls : List Str), vs = [.ref c, .ref l] ∧ CodeAt K C H c (.str k) (.int wd) x ls ∧ TextOf x ls ∧ inV (.int wd) widthsV = true ∧ Good ls ∧ SqL K H l (ls.map V.str) ∧ ∀ H', Same H H' → Q (.bl true) H'
theorem ok_right {f C DB : Addr} {EC EI m : Nat → Addr} (T0 : FT K mg "_law_kinds_right" s_Lkinds_right psKR f) (T : CodeT K mg C m) (ET : ErrT K mg DB EC EI) (KT : KitT K DB EC) (isi : mg "isinstance" = none) (len : mg "len" = none)
    {ad : FuncData} (FA : Fun K "as_kind" "Code.as_kind" s_Code_as_kind (m 5) ad) (bA : Binds K ad ["self", "kind"] []) (GA : FnOk P w K mg base (L2.CX P w) 9 (m 5) ad ["self", "kind"] (spAs K C EC)) :
    ∃ fd, Fun K "_law_kinds_right" "_law_kinds_right" s_Lkinds_right f fd ∧ Binds K fd psKR [] ∧ FnOk P w K mg base CX0 10 f fd psKR (spRight K C) := by
  obtain ⟨fd, F, b⟩ := T0.fn
  obtain ⟨dl, FL, bL, GL⟩ := ok_len (P := P) (w := w) (base := base) T len
  obtain ⟨de, FE, bE, GE⟩ := ok_eq (P := P) (w := w) (base := base) T isi
  refine ⟨fd, F, b, F.ok c_Lkinds_right (fun vs H Q E h => ?_) (fun cdv A outer s H vs Q E hr h => ?_)⟩
  · obtain ⟨c, l, k, x, wd, ls, rfl, _⟩ := h
    rfl
  obtain ⟨c, l, k, x, wd, ls, rfl, hc, hx, hwd, hgood, hl, q⟩ := h
  have hr1 : Room 1 _ := hr.mono (by decide)
  have hr2 : Room 2 _ := hr.mono (by decide)
  refine ⟨_, pss_cons (ps_for PassesOwn.never rfl (pi_list (pe_lst (pa_cons pe_str (pa_cons pe_str (pa_cons pe_str (pa_cons pe_str (pa_cons pe_str (pa_cons pe_str (pa_cons pe_str (pa_cons pe_str pa_nil)))))))))) (pg_name (i := 2) c_Lkinds_right.nd rfl (Or.inl rfl))
      (pss_cons (ps_set (i := 3) c_Lkinds_right.nd rfl (Or.inl rfl) (pe_meth (pv 0) T.cl T.f5.m GA hr bA .nil Mkx.pass_no (pa_cons (pv 2) pa_nil)))
      (pss_cons (ps_if (pt_cmpR (op_neSame hr.units0) (pe_tup (pa_cons (pe_fld (pv 3) rfl) (pa_cons (pe_fld (pv 3) rfl) (pa_cons (pe_fld (pv 3) rfl) pa_nil)))) (pe_tup (pa_cons (pv 2) (pa_cons (pe_fld (pv 0) rfl) (pa_cons (pe_fld (pv 0) rfl) pa_nil)))) (nomark _)) (pss_one ps_never) pss_nil)
      (pss_one (ps_if (PW.pt (pw_or (pt_cmpR op_ne (pe_cmpR (op_eqO GE hr1 T.d4 bE pass0) (pv 3) (pv 0) (nomark _)) (pe_cmpR op_eq (pv 2) (pe_fld (pv 0) rfl) (nomark _)) (nomark _))
        (pw_or1 (pt_cmpR op_ne (pe_callB (call_lenO GL hr2 T.d1 bL pass0) (by rfl) len PySem.boot_len (pa_cons (pv 3) pa_nil)) (pe_callB call_len_seq (by rfl) len PySem.boot_len (pa_cons (pv 1) pa_nil)) (nomark _))))) (pss_one ps_never) pss_nil)))))
    (pss_one (ps_try_any (Wout := fun _ _ _ _ => False) (tb := fun W => tSeq (tDrop (Mkx.tMethS C "as_kind" (spAs K C EC) W (tVar 0) (tCons (tC (.str "heap")) tNil))) tNever) rfl rfl takes0
        (fun W pn xe tk _ => pss_cons (ps_expr (Mkx.pe_methS (pv 0) T.cl T.f5.m GA hr bA tk (pa_cons pe_str pa_nil))) (pss_one ps_never))
        (.as (i := 4) c_Lkinds_right.nd rfl rfl ⟨rfl, by decide, .inl ET.t0.ex.gC⟩ (fun a oe cls d pn hz hf => pss_one (ps_ret (pe_cmpR op_eq (pe_xf ET.t0.xf (ET.t0.nf _ (by simp)) hz hf (pv 4)) pe_str (nomark _)))) .nil))), ?_⟩
  have hc0 := hc
  obtain ⟨dx, _, _, lt, h1, h2⟩ := hc
  refine ⟨(by show 8 ≤ sizeLine; decide), fun L nL => ⟨L, rfl, ⟨_, SqL.of upd_same⟩, for_list (K := K) (a := L) (xs := kindsV) (fun i σ G => Same H G ∧ G L = some (.lst kindsV) ∧ ∃ v2 v3 v4, σ = [some (.ref c), some (.ref l), v2, v3, v4]) ⟨new_same nL, upd_same, none, none, none, rfl⟩ ?_ ?_ ?_⟩⟩
  · rintro i σ G _ ⟨_, eL, _⟩
    exact SqL.of eL
  · rintro i v σ G hi ⟨sG, eL, v2, v3, v4, rfl⟩
    obtain ⟨s1, rfl, hs1⟩ : ∃ s1 : Str, v = .str s1 ∧ inV (.str s1) kindsV = true := by
      match i, hi with
      | 0, hi => cases hi; exact ⟨_, rfl, by decide +kernel⟩
      | 1, hi => cases hi; exact ⟨_, rfl, by decide +kernel⟩
      | 2, hi => cases hi; exact ⟨_, rfl, by decide +kernel⟩
      | 3, hi => cases hi; exact ⟨_, rfl, by decide +kernel⟩
      | 4, hi => cases hi; exact ⟨_, rfl, by decide +kernel⟩
      | 5, hi => cases hi; exact ⟨_, rfl, by decide +kernel⟩
      | 6, hi => cases hi; exact ⟨_, rfl, by decide +kernel⟩
      | 7, hi => cases hi; exact ⟨_, rfl, by decide +kernel⟩
      | i + 8, hi => cases hi
    refine ⟨_, rfl, c, dx, _, rfl, sG _ _ h1, rfl, _, rfl, c, .str k, .int wd, .str s1, x, ls, rfl, hc0.keep sG, hx, .inr ⟨isKind hs1, isWidth hwd, hgood.1, hgood.2, fun G2 o s2 no ho => ?_⟩⟩
    have sG2 := sG.trans s2
    have ho0 := ho
    obtain ⟨dxo, _, _, lto, o1, o2⟩ := ho
    refine ⟨_, rfl, o, C, dxo, _, _, rfl, o1, T.cl, T.nk, rfl, _, rfl, o, C, dxo, _, _, rfl, o1, T.cl, T.nw, rfl, _, rfl, o, C, dxo, _, _, rfl, o1, T.cl, T.nt, rfl, (by show 3 ≤ sizeLine; decide), fun t1 nt1 => ?_⟩
    have st1 := same_new (o := .tup [.str s1, .int wd, .str x]) sG2 nt1
    refine ⟨_, rfl, _, rfl, c, C, dx, _, _, rfl, st1 _ _ h1, T.cl, T.nw, rfl, _, rfl, c, C, dx, _, _, rfl, st1 _ _ h1, T.cl, T.nt, rfl, (by show 3 ≤ sizeLine; decide), fun t2 nt2 => ?_⟩
    have s12 := (new_same (o := .tup [.str s1, .int wd, .str x]) nt1).trans (new_same (o := .tup [.str s1, .int wd, .str x]) nt2)
    have st2 := sG2.trans s12
    refine ⟨t1, t2, _, rfl, rfl, SqT.of ((new_same nt2) _ _ upd_same), SqT.of upd_same, rfl, _, rfl, iteF ?_⟩
    refine ⟨_, rfl, _, rfl, o, dxo, _, rfl, s12 _ _ o1, .own (st2 _ _ h1), o, s1, x, wd, ls, .ref c, rfl, ho0.keep s12, .inr ⟨c, k, x, wd, ls, rfl, hc0.keep st2, ?_⟩⟩
    refine ⟨_, rfl, _, rfl, c, C, dx, _, _, rfl, st2 _ _ h1, T.cl, T.nk, rfl, rfl, rfl, _, rfl, ?_⟩
    have eq1 : V.bl (decide (s1 = k) && (decide (wd = wd) && decide (x = x))) = V.bl (decide (V.str s1 = V.str k)) := by
      have e : decide (V.str s1 = V.str k) = decide (s1 = k) := decide_eq_decide.mpr ⟨fun z => V.str.inj z, fun z => by rw [z]⟩
      rw [e]
      simp
    refine iteNS eq1 ?_
    refine ⟨_, rfl, o, dxo, _, rfl, s12 _ _ o1, o, .str s1, .int wd, x, ls, rfl, ho0.keep s12, _, rfl, by omega, by have := hgood.1; omega, _, rfl, l, _, rfl, .inl (sqt_list_same hl st2), rfl, _, rfl, ?_⟩
    refine iteNS (by rw [List.length_map]) ?_
    exact ⟨st2, (s2.trans s12) _ _ eL, _, _, _, rfl⟩
  · rintro σ G ⟨sG, eL, v2, v3, v4, rfl⟩
    refine ⟨_, rfl, c, dx, _, rfl, sG _ _ h1, rfl, c, .str k, .int wd, .str "heap", x, ls, rfl, hc0.keep sG, hx, .inl ⟨noKind (by decide +kernel), fun H' s' d nd => ⟨true, KT.ex0, fun _ a na => ?_, fun z => Bool.noConfusion z⟩⟩⟩
    refine ⟨_, rfl, rfl, rfl, d, _, _, rfl, upd_same, look1, rfl, ?_⟩
    rw [show decide (V.str ("heap" : Str) = V.str ("heap" : Str)) = true from decide_eq_true rfl]
    exact q _ ((sG.trans s').trans (new_same nd))
end
end H1
namespace H1
open PySem PySem.Spec PyProof.Rows L2 Hx Nd Dun
section
variable {P : Program} {w : World} {K : PySem.W.Frag} {mg : Str → Option Value} {base : Heap} {D : Addr}
/-! ### texts of lines -/
section
open TL
abbrev nlS : Str := "\n"
def okL (p : Str) : Prop := 10 ∉ tl p ∧ 1 ≤ p.length ∧ p.length ≤ 20
theorem joinL_len : ∀ (ps : List (List Nat)), (∀ p ∈ ps, p.length ≤ 20) → (joinL [10] ps).length ≤ 21 * ps.length
  | [], _ => Nat.zero_le _
  | [p], h => by
    have := h p List.mem_cons_self
    show p.length ≤ 21 * 1
    omega
  | p :: q :: r, h => by
    have a := h p List.mem_cons_self
    have b := joinL_len (q :: r) fun x hx => h x (List.mem_cons_of_mem _ hx)
    show (p ++ ([10] ++ joinL [10] (q :: r))).length ≤ 21 * (r.length + 1 + 1)
    rw [List.length_append, List.length_append]
    have b' : (joinL [10] (q :: r)).length ≤ 21 * (r.length + 1) := b
    have c : ([10] : List Nat).length = 1 := rfl
    omega
theorem joinL_pos : ∀ (ps : List (List Nat)), ps ≠ [] → (∀ p ∈ ps, 1 ≤ p.length) → 1 ≤ (joinL [10] ps).length
  | [], h, _ => absurd rfl h
  | [p], _, h => h p List.mem_cons_self
  | p :: q :: r, _, h => by
    have a := h p List.mem_cons_self
    show 1 ≤ (p ++ ([10] ++ joinL [10] (q :: r))).length
    rw [List.length_append]
    omega
theorem tl_nl : tl nlS = [10] := by decide +kernel
theorem text_of {ls : List Str} (h : ∀ p ∈ ls, okL p) (hl : ls.length ≤ 100) : TextOf (Txt.join nlS ls) ls := by
  by_cases e : ls = []
  · subst e
    exact .inl ⟨by decide +kernel, rfl⟩
  · have t : tl (Txt.join nlS ls) = joinL [10] (ls.map tl) := by rw [join_eq, tl_join, tl_nl]
    have n : (Txt.join nlS ls).length = (joinL [10] (ls.map tl)).length := by rw [len_tl, t]
    have a := joinL_len (ls.map tl) fun p hp => by
      obtain ⟨q, hq, rfl⟩ := List.mem_map.mp hp
      rw [← len_tl]
      exact (h q hq).2.2
    have b := joinL_pos (ls.map tl) (fun z => e (List.map_eq_nil_iff.mp z)) fun p hp => by
      obtain ⟨q, hq, rfl⟩ := List.mem_map.mp hp
      rw [← len_tl]
      exact (h q hq).2.1
    rw [List.length_map] at a
    refine .inr ⟨by omega, ?_, split_join tl_nl (by decide +kernel) e fun p hp => (h p hp).1⟩
    exact Nat.le_trans (show (Txt.join nlS ls).length + 2 ≤ 2200 by omega) (by decide)
theorem join_len {ls : List Str} (h : ∀ p ∈ ls, okL p) : (Txt.join nlS ls).length ≤ 21 * ls.length := by
  have t : tl (Txt.join nlS ls) = joinL [10] (ls.map tl) := by rw [join_eq, tl_join, tl_nl]
  have n : (Txt.join nlS ls).length = (joinL [10] (ls.map tl)).length := by rw [len_tl, t]
  have a := joinL_len (ls.map tl) fun p hp => by
    obtain ⟨q, hq, rfl⟩ := List.mem_map.mp hp
    rw [← len_tl]
    exact (h q hq).2.2
  rw [List.length_map] at a
  omega
theorem ok_line (t : Tk) : okL t.line := by cases t <;> exact ⟨by decide +kernel, by decide +kernel, by decide +kernel⟩
theorem ok_ts {ts : List Tk} : ∀ p ∈ ts.map Tk.line, okL p := fun p hp => by
  obtain ⟨t, _, rfl⟩ := List.mem_map.mp hp
  exact ok_line t
theorem tell_join {ls : List Str} (h : ls ≠ []) : ("Tell\n" : Str) ++ Txt.join nlS ls = Txt.join nlS (("Tell" : Str) :: ls) := by
  cases ls with
  | nil => exact absurd rfl h
  | cons q r =>
    refine ext_tl ?_
    rw [tl_append, join_eq, join_eq, tl_join, tl_join, tl_nl]
    have z : tl ("Tell\n" : Str) = tl ("Tell" : Str) ++ [10] := by decide +kernel
    rw [z, List.append_assoc]
    rfl
theorem sum_le {ys : List Str} (h : ∀ p ∈ ys, okL p) (hl : ys.length ≤ 100) : (ys.map (·.length)).sum + ys.length * nlS.length ≤ 16777216 := by
  have a : ∀ zs : List Str, (∀ p ∈ zs, okL p) → (zs.map (·.length)).sum ≤ 20 * zs.length := fun zs => by
    induction zs with
    | nil => intro _; exact Nat.le_refl _
    | cons z r ih =>
      intro hz
      have b := ih fun p hp => hz p (List.mem_cons_of_mem _ hp)
      have c := (hz z List.mem_cons_self).2.2
      rw [List.map_cons, List.sum_cons, List.length_cons]
      omega
  have b := a ys h
  have c : nlS.length = 1 := by decide +kernel
  rw [c]
  omega
theorem run_tells (n : Nat) : run .no (List.replicate n Tk.tell) = some .no := by
  induction n with
  | zero => rfl
  | succ n ih => rw [List.replicate_succ]; exact ih
end
end
end H1
namespace H1
open PySem PySem.Spec PyProof.Rows L2 Hx Nd Dun
section
variable {P : Program} {w : World} {K : PySem.W.Frag} {mg : Str → Option Value} {base : Heap} {D : Addr}
/-! ### what the law has at hand -/
def oddV (l1 t1 d1 : Addr) : List V := [.str "Put", .str "", .str "set", .int 5, .non, .ref l1, .ref t1, .ref d1, .bl true]
def wideV (l2 t2 : Addr) : List V := [.int 1, .int 5, .int 0, .int (-2), .bl true, .non, .str "2", .ref l2, .int (10 ^ (30 : Int).toNat), .ref t2]
structure Fx (p lk lo l1 t1 d1 lw l2 t2 : Addr) (G : Hp) : Prop where
  k : G lk = some (.lst kindsV) ∧ lk ≠ p
  o : G lo = some (.lst (oddV l1 t1 d1)) ∧ lo ≠ p
  o1 : G l1 = some (.lst [.str "put"]) ∧ l1 ≠ p
  o2 : G t1 = some (.tup [.str "put"]) ∧ t1 ≠ p
  o3 : G d1 = some (.dK [(Sum.inr ("put" : Str), .int 1)]) ∧ d1 ≠ p
  w : G lw = some (.lst (wideV l2 t2)) ∧ lw ≠ p
  w1 : G l2 = some (.lst [.int 2]) ∧ l2 ≠ p
  w2 : G t2 = some (.tup [.int 2]) ∧ t2 ≠ p
section
variable {p lk lo l1 t1 d1 lw l2 t2 : Addr} {G G' : Hp}
theorem Fx.but (h : Fx p lk lo l1 t1 d1 lw l2 t2 G) (b : But p G G') : Fx p lk lo l1 t1 d1 lw l2 t2 G' :=
  ⟨⟨b _ _ h.k.2 h.k.1, h.k.2⟩, ⟨b _ _ h.o.2 h.o.1, h.o.2⟩, ⟨b _ _ h.o1.2 h.o1.1, h.o1.2⟩, ⟨b _ _ h.o2.2 h.o2.1, h.o2.2⟩, ⟨b _ _ h.o3.2 h.o3.1, h.o3.2⟩, ⟨b _ _ h.w.2 h.w.1, h.w.2⟩, ⟨b _ _ h.w1.2 h.w1.1, h.w1.2⟩, ⟨b _ _ h.w2.2 h.w2.1, h.w2.2⟩⟩
theorem Fx.same (h : Fx p lk lo l1 t1 d1 lw l2 t2 G) (e : Same G G') : Fx p lk lo l1 t1 d1 lw l2 t2 G' := h.but (Hx.Same.but e)
/-- a value that is no kind -/
theorem odd_at {r : Nat} (hr : r < 9) : ∃ v, (oddV l1 t1 d1)[r]? = some v ∧ selfV v = true ∧ ∀ G, Fx p lk lo l1 t1 d1 lw l2 t2 G → IsV K G "str" kindsV v false := by
  have hh : r = 0 ∨ r = 1 ∨ r = 2 ∨ r = 3 ∨ r = 4 ∨ r = 5 ∨ r = 6 ∨ r = 7 ∨ r = 8 := by omega
  rcases hh with rfl | rfl | rfl | rfl | rfl | rfl | rfl | rfl | rfl
  · exact ⟨_, rfl, rfl, fun G _ => noKind (by decide +kernel)⟩
  · exact ⟨_, rfl, rfl, fun G _ => noKind (by decide +kernel)⟩
  · exact ⟨_, rfl, rfl, fun G _ => noKind (by decide +kernel)⟩
  · exact ⟨_, rfl, rfl, fun G _ => ⟨.type "int", false, .base (.int _), kit_ty (by decide +kernel), fun z => Bool.noConfusion z, rfl⟩⟩
  · exact ⟨_, rfl, rfl, fun G _ => ⟨.type "NoneType", false, .base .non, kit_ty (by decide +kernel), fun z => Bool.noConfusion z, rfl⟩⟩
  · exact ⟨_, rfl, rfl, fun G h => ⟨.type "list", false, .base (.lst h.o1.1), kit_ty (by decide +kernel), fun z => Bool.noConfusion z, rfl⟩⟩
  · exact ⟨_, rfl, rfl, fun G h => ⟨.type "tuple", false, .base (.tup h.o2.1), kit_ty (by decide +kernel), fun z => Bool.noConfusion z, rfl⟩⟩
  · exact ⟨_, rfl, rfl, fun G h => ⟨.type "dict", false, .base (.dK h.o3.1), kit_ty (by decide +kernel), fun z => Bool.noConfusion z, rfl⟩⟩
  · exact ⟨_, rfl, rfl, fun G _ => ⟨.type "bool", false, .base (.bl _), kit_ty (by decide +kernel), fun z => Bool.noConfusion z, rfl⟩⟩
theorem wide_int {z : Int} (h : inV (.int z) widthsV = false) : IsV K G "int" widthsV (.int z) false := ⟨.type "int", true, .base (.int z), kit_ty (by decide +kernel), fun _ => rfl, h⟩
/-- a value that is no width -/
theorem wide_at {r : Nat} (hr : r < 10) : ∃ v, (wideV l2 t2)[r]? = some v ∧ selfV v = true ∧ ∀ G, Fx p lk lo l1 t1 d1 lw l2 t2 G → IsV K G "int" widthsV v false := by
  have hh : r = 0 ∨ r = 1 ∨ r = 2 ∨ r = 3 ∨ r = 4 ∨ r = 5 ∨ r = 6 ∨ r = 7 ∨ r = 8 ∨ r = 9 := by omega
  rcases hh with rfl | rfl | rfl | rfl | rfl | rfl | rfl | rfl | rfl | rfl
  · exact ⟨_, rfl, rfl, fun G _ => wide_int (by decide +kernel)⟩
  · exact ⟨_, rfl, rfl, fun G _ => wide_int (by decide +kernel)⟩
  · exact ⟨_, rfl, rfl, fun G _ => wide_int (by decide +kernel)⟩
  · exact ⟨_, rfl, rfl, fun G _ => wide_int (by decide +kernel)⟩
  · exact ⟨_, rfl, rfl, fun G _ => ⟨.type "bool", true, .base (.bl _), kit_ty (by decide +kernel), fun _ => rfl, by decide +kernel⟩⟩
  · exact ⟨_, rfl, rfl, fun G _ => ⟨.type "NoneType", false, .base .non, kit_ty (by decide +kernel), fun z => Bool.noConfusion z, rfl⟩⟩
  · exact ⟨_, rfl, rfl, fun G _ => ⟨.type "str", false, .base (.str _), kit_ty (by decide +kernel), fun z => Bool.noConfusion z, rfl⟩⟩
  · exact ⟨_, rfl, rfl, fun G h => ⟨.type "list", false, .base (.lst h.w1.1), kit_ty (by decide +kernel), fun z => Bool.noConfusion z, rfl⟩⟩
  · exact ⟨_, rfl, rfl, fun G _ => wide_int (by decide +kernel)⟩
  · exact ⟨_, rfl, rfl, fun G h => ⟨.type "tuple", false, .base (.tup h.w2.1), kit_ty (by decide +kernel), fun z => Bool.noConfusion z, rfl⟩⟩
theorem kind_at {r : Nat} (hr : r < 8) : ∃ k : Str, kindsV[r]? = some (.str k) ∧ inV (.str k) kindsV = true := by
  have hh : r = 0 ∨ r = 1 ∨ r = 2 ∨ r = 3 ∨ r = 4 ∨ r = 5 ∨ r = 6 ∨ r = 7 := by omega
  rcases hh with rfl | rfl | rfl | rfl | rfl | rfl | rfl | rfl <;> exact ⟨_, rfl, by decide +kernel⟩
end
theorem CodeAt.but {C c p : Addr} {H H' : Hp} {k wd : V} {x : Str} {ls : List Str} (h : CodeAt K C H c k wd x ls) (b : But p H H') (hp : ∃ kvs, H p = some (.dK kvs)) : CodeAt K C H' c k wd x ls := by
  obtain ⟨dx, fl, me, lt, h1, h2⟩ := h
  obtain ⟨kvs, hk⟩ := hp
  refine ⟨dx, fl, me, lt, b _ _ (fun e => by rw [e, hk] at h1; cases h1) h1, ?_⟩
  rcases h2 with (h2 | ⟨o, h2⟩) | h2
  · exact .inl (.inl (b _ _ (fun e => by rw [e, hk] at h2; cases h2) h2))
  · exact .inl (.inr ⟨o, b _ _ (fun e => by rw [e, hk] at h2; cases h2) h2⟩)
  · exact .inr h2
theorem mk_code {C : Addr} {EC : Nat → Addr} {G : Hp} {k x : Str} {wd : Int} {ls : List Str} {R : Addr → Hp → Prop} {E : XK} (hk : inV (.str k) kindsV = true) (hw : inV (.int wd) widthsV = true) (hx : TextOf x ls) (hg : Good ls)
    (h : ∀ c G', Same G G' → CodeAt K C G' c (.str k) (.int wd) x ls → R c G') :
    ∀ c dx, G c = none → G dx = none → dx ≠ c → spCode K C EC (.ref c :: ([.str k, .int wd, .str x] ++ [])) (upd (upd G dx (.own c)) c (.ins C dx [])) (fun v G2 => v = .non ∧ R c G2) E := by
  intro c dx nc nd ne
  have nc' : upd G dx (.own c) c = none := by rw [upd_ne ne.symm]; exact nc
  have sG := same_new (o := .ins C dx []) (new_same (o := .own c) nd) nc'
  exact ⟨c, dx, .str k, .int wd, x, ls, rfl, upd_same, hx, .inr (.inr ⟨isKind hk, isWidth hw, .inr (.inr ⟨hg.1, hg.2, fun G' fl me lt b hp hlt => ⟨rfl, h c G' (fun a u z => b a u (ne_of_none z nc) (sG a u z)) ⟨dx, fl, me, lt, hp, hlt⟩⟩⟩)⟩)⟩
theorem rep_flat (n : Nat) (y : Str) : (List.replicate n [V.str y]).flatten = (List.replicate n y).map V.str := by
  induction n with
  | zero => rfl
  | succ n ih => rw [List.replicate_succ, List.flatten_cons, ih, List.replicate_succ, List.map_cons]; rfl
end
end H1
namespace H1
open PySem PySem.Spec PyProof.Rows L2 Hx Nd Dun
section
variable {P : Program} {w : World} {K : PySem.W.Frag} {mg : Str → Option Value} {base : Heap} {D : Addr}
/-! ### the law -/
def spLaw (K : PySem.W.Frag) : Sp := fun vs H Q _ => ∃ (a : Addr) (ns : List Int), vs = [.ref a] ∧ SqL K H a (ns.map V.int) ∧ ns.length ≤ 63 ∧ ∀ H', Q (.bl true) H'
theorem ok_law {fL gB gD gT gL gR C : Addr} {EC m : Nat → Addr} {fd dB dD dT dL dR cd : FuncData} (F : Fun K "law" "law" s_law fL fd) (BT : BltT mg) (rng : mg "range" = none) (isi : mg "isinstance" = none) (T : CodeT K mg C m)
    (FB : Fun K "_law_bag" "_law_bag" sBag gB dB) (bB : Binds K dB ["_law_script"] []) (mB : mg "_law_bag" = some (.ref gB))
    (FD : Fun K "_law_draw" "_law_draw" sDraw gD dD) (bD : Binds K dD ["_law_bag_here", "_law_limit"] []) (mD : mg "_law_draw" = some (.ref gD))
    (FT' : Fun K "_law_told" "_law_told" s_Ltold gT dT) (bT : Binds K dT psTD []) (mT : mg "_law_told" = some (.ref gT)) (GT : FnOk P w K mg base CX0 9 gT dT psTD (spTold K))
    (FL : Fun K "_law_lines" "_law_lines" s_Llines gL dL) (bL : Binds K dL ["_law_bag_here"] []) (mL : mg "_law_lines" = some (.ref gL)) (GL : FnOk P w K mg base CX0 2 gL dL ["_law_bag_here"] spLines)
    (FR : Fun K "_law_kinds_right" "_law_kinds_right" s_Lkinds_right gR dR) (bR : Binds K dR psKR []) (mR : mg "_law_kinds_right" = some (.ref gR)) (GR : FnOk P w K mg base CX0 10 gR dR psKR (spRight K C))
    (FC : Fun K "__init__" "Code.__init__" s_Code_init (m 0) cd) (bC : Binds K cd psCD []) (GC : FnOk P w K mg base (L2.CX P w) 7 (m 0) cd psCD (spCode K C EC)) :
    FnOk P w K mg base CX0 11 fL fd ["_law_script"] (spLaw K) := by
  have GB : FnOk P w K mg base CX0 1 gB dB ["_law_script"] (spBag K) := ok_bag FB BT
  have GD : FnOk P w K mg base CX0 1 gD dD ["_law_bag_here", "_law_limit"] spDraw := ok_draw FD BT
  obtain ⟨dl, Fl, bl, Gl'⟩ := ok_len (P := P) (w := w) (base := base) T BT.len
  obtain ⟨de, FE, bE, GE⟩ := ok_eq (P := P) (w := w) (base := base) T isi
  obtain ⟨dg, FG, bG, GG⟩ := ok_get (P := P) (w := w) (base := base) T
  refine F.ok c_law (fun vs H Q E h => ?_) (fun cdv A outer s H vs Q E hr h => ?_)
  · obtain ⟨a, ns, rfl, _⟩ := h
    rfl
  obtain ⟨a, ns, rfl, hS, hlen, q⟩ := h
  have hr1 : Room 1 _ := hr.mono (by decide)
  have hr2 : Room 2 _ := hr.mono (by decide)
  have hr8 : Room 8 _ := hr.mono (by decide)
  have hr9 : Room 9 _ := hr.mono (by decide)
  refine ⟨_, pss_cons (ps_set (i := 1) c_law.nd rfl (Or.inl rfl) (pe_call GB hr1 rfl mB FB.kp bB .nil pass0 (pa_cons (pv 0) pa_nil)))
    (pss_cons (ps_set (i := 2) c_law.nd rfl (Or.inl rfl) (pe_lst (pa_cons pe_str (pa_cons pe_str (pa_cons pe_str (pa_cons pe_str (pa_cons pe_str (pa_cons pe_str (pa_cons pe_str (pa_cons pe_str pa_nil))))))))))
    (pss_cons (ps_set (i := 3) c_law.nd rfl (Or.inl rfl) (pe_lst (pa_cons pe_str (pa_cons pe_str (pa_cons pe_str (pa_cons pe_int (pa_cons pe_non (pa_cons (pe_lst (pa_cons pe_str pa_nil)) (pa_cons (pe_tup (pa_cons pe_str pa_nil)) (pa_cons (pe_disp (pps_cons pe_str pe_int pps_nil) (by rfl) (by rfl) (fun z => by cases z) (by decide)) (pa_cons pe_bl pa_nil)))))))))))
    (pss_cons (ps_set (i := 4) c_law.nd rfl (Or.inl rfl) (pe_lst (pa_cons pe_int (pa_cons pe_int (pa_cons pe_int (pa_cons (pe_un un_neg pe_int) (pa_cons pe_bl (pa_cons pe_non (pa_cons pe_str (pa_cons (pe_lst (pa_cons pe_int pa_nil)) (pa_cons (pe_op op_pow pe_int pe_int) (pa_cons (pe_tup (pa_cons pe_int pa_nil)) pa_nil))))))))))))
    (pss_cons (ps_par3 (i := 5) (j := 6) (l := 7) rfl c_law.nd rfl rfl rfl (by decide) (by decide) (by decide) rfl rfl rfl
        (pa_cons (pe_ix ix_list (pv 2) (pe_call GD hr1 rfl mD FD.kp bD .nil pass0 (pa_cons (pv 1) (pa_cons pe_int pa_nil))) (fun _ _ => rfl)) (pa_cons (pe_op op_add pe_int (pe_call GD hr1 rfl mD FD.kp bD .nil pass0 (pa_cons (pv 1) (pa_cons pe_int pa_nil)))) (pa_cons (pe_call GL hr2 rfl mL FL.kp bL .nil pass0 (pa_cons (pv 1) pa_nil)) pa_nil))) (by rfl))
    (pss_cons (ps_set (i := 8) c_law.nd rfl (Or.inl rfl) (pe_join pe_str (pv 7)))
    (pss_cons (ps_if (pt_cmpR (op_neSame hr.units0) (pe_call GT hr9 rfl mT FT'.kp bT .nil pass0 (pa_cons (pv 5) (pa_cons (pv 6) (pa_cons (pv 8) pa_nil)))) (pe_tup (pa_cons pe_str (pa_cons (pv 5) (pa_cons (pv 6) (pa_cons (pv 8) (pa_cons (pe_callB call_len_seq (by rfl) BT.len PySem.boot_len (pa_cons (pv 7) pa_nil)) pa_nil)))))) (nomark _)) (pss_one ps_never) pss_nil)
    (pss_cons (ps_set (i := 9) c_law.nd rfl (Or.inl rfl) (pe_make T.mak GC hr8 rfl T.g bC .nil Mkx.pass_no (pa_cons (pv 5) (pa_cons (pv 6) (pa_cons (pv 8) pa_nil)))))
    (pss_cons (ps_for PassesOwn.never rfl (pi_range1 rfl rng (pa_cons (pe_callB call_len_seq (by rfl) BT.len PySem.boot_len (pa_cons (pv 7) pa_nil)) pa_nil)) (pg_name (i := 10) c_law.nd rfl (Or.inl rfl))
      (pss_one (ps_if (pt_cmpR op_ne (pe_ixO GG hr2 T.d2 bG pass0 (pv 9) (pe_op op_add (pv 10) pe_int)) (pe_ix ix_list (pv 7) (pv 10) (fun _ _ => rfl)) (nomark _)) (pss_one ps_never) pss_nil)))
    (pss_cons (ps_if (PW.pt (pw_or (pt_cmpR (op_eqO GE hr1 T.d4 bE pass0) (pv 9) (pv 8) (nomark _)) (pw_or1 (pt_cmpR (op_neO GE hr2 T.d4 T.ne T.mro bE pass0) (pv 9) (pe_make T.mak GC hr8 rfl T.g bC .nil Mkx.pass_no (pa_cons (pv 5) (pa_cons (pv 6) (pa_cons (pe_join pe_str (pe_callTy call_list_of (by rfl) BT.list (by decide +kernel) (pa_cons (pv 7) pa_nil))) pa_nil)))) (nomark _))))) (pss_one ps_never) pss_nil)
    (pss_cons (ps_if (pt_cmpR op_ne (pe_cmpR (op_eqO GE hr1 T.d4 bE pass0) (pv 9) (pe_make T.mak GC hr8 rfl T.g bC .nil Mkx.pass_no (pa_cons (pv 5) (pa_cons (pe_op op_sub pe_int (pv 6)) (pa_cons (pv 8) pa_nil)))) (nomark _)) (pe_cmpR op_eq (pv 6) pe_int (nomark _)) (nomark _)) (pss_one ps_never) pss_nil)
    (pss_cons (ps_set (i := 11) c_law.nd rfl (Or.inl rfl) (pe_ix ix_list (pv 3) (pe_call GD hr1 rfl mD FD.kp bD .nil pass0 (pa_cons (pv 1) (pa_cons pe_int pa_nil))) (fun _ _ => rfl)))
    (pss_cons (ps_set (i := 12) c_law.nd rfl (Or.inl rfl) (pe_ix ix_list (pv 4) (pe_call GD hr1 rfl mD FD.kp bD .nil pass0 (pa_cons (pv 1) (pa_cons pe_int pa_nil))) (fun _ _ => rfl)))
    (pss_cons (ps_set (i := 13) c_law.nd rfl (Or.inl rfl) (pe_join pe_str (pe_op op_rep (pe_lst (pa_cons pe_str pa_nil)) (pe_op op_add pe_int (pe_call GD hr1 rfl mD FD.kp bD .nil pass0 (pa_cons (pv 1) (pa_cons pe_int pa_nil)))))))
    (pss_cons (ps_set (i := 14) c_law.nd rfl (Or.inl rfl) (pe_callB call_len_seq (by rfl) BT.len PySem.boot_len (pa_cons (pe_split (pv 13) pe_str) pa_nil)))
    (Evl.pss_cut (ps_set (i := 15) c_law.nd rfl (Or.inl rfl) (pe_ifExp (pt_cmpR op_gt (pv 14) pe_int (nomark _)) (pe_tup (pa_cons pe_str (pa_cons pe_str (pa_cons (pv 14) (pa_cons pe_int pa_nil))))) (pe_tup (pa_cons pe_str (pa_cons (pv 5) (pa_cons (pv 6) (pa_cons (pv 13) (pa_cons (pv 14) pa_nil))))))))
    (pss_cons (ps_if (PW.pt (pw_or (pt_cmpR (op_neSame hr.units0) (pe_call GT hr9 rfl mT FT'.kp bT .nil pass0 (pa_cons (pv 5) (pa_cons (pv 6) (pa_cons (pv 13) pa_nil)))) (pv 15) (nomark _)) (pw_or1 (pt_cmpR (op_neSame hr.units0) (pe_call GT hr9 rfl mT FT'.kp bT .nil pass0 (pa_cons (pv 11) (pa_cons (pv 12) (pa_cons (pv 13) pa_nil)))) (pe_tup (pa_cons pe_str (pa_cons (pv 11) pa_nil))) (nomark _))))) (pss_one ps_never) pss_nil)
    (Evl.pss_cut (ps_set (i := 15) c_law.nd rfl (Or.inl rfl) (pe_ifExp (pt_cmpR op_gt (pe_op op_add (pv 14) pe_int) pe_int (nomark _)) (pe_tup (pa_cons pe_str (pa_cons pe_str (pa_cons (pe_op op_add (pv 14) pe_int) (pa_cons pe_int pa_nil))))) (pe_tup (pa_cons pe_str (pa_cons pe_int pa_nil)))))
    (pss_cons (ps_if (PW.pt (pw_or (pt_cmpR (op_neSame hr.units0) (pe_call GT hr9 rfl mT FT'.kp bT .nil pass0 (pa_cons (pv 5) (pa_cons (pv 12) (pa_cons (pv 13) pa_nil)))) (pe_tup (pa_cons pe_str (pa_cons (pv 12) pa_nil))) (nomark _)) (pw_or1 (pt_cmpR (op_neSame hr.units0) (pe_call GT hr9 rfl mT FT'.kp bT .nil pass0 (pa_cons (pv 5) (pa_cons (pv 6) (pa_cons (pe_op op_add_str pe_str (pv 13)) pa_nil)))) (pv 15) (nomark _))))) (pss_one ps_never) pss_nil)
    (pss_one (ps_ret (pe_and (pe_call GR hr rfl mR FR.kp bR .nil pass0 (pa_cons (pv 9) (pa_cons (pv 7) pa_nil))) (pe_one (pe_cmpR op_eq (pe_callB (call_lenO Gl' hr2 T.d1 bl pass0) (by rfl) BT.len PySem.boot_len (pa_cons (pe_make T.mak GC hr8 rfl T.g bC .nil Mkx.pass_no (pa_cons (pv 5) (pa_cons (pv 6) (pa_cons pe_str pa_nil)))) pa_nil)) pe_int (nomark _)))))))))))))))))))))))), ?_⟩
  refine ⟨_, rfl, a, ns, rfl, hS, hlen, fun p H0 np s0 b0 => ?_⟩
  -- the four lists
  refine ⟨(by show 8 ≤ sizeLine; decide), fun lk nk => ?_⟩
  refine ⟨(by show 1 ≤ sizeLine; decide), fun l1 n1 => ⟨(by show 1 ≤ sizeLine; decide), fun t1 nt1 => fun d1 nd1 => ⟨upd_same, [(Sum.inr ("put" : Str), .int 1)], rfl, (by show 1 ≤ 15; decide), (by show 9 ≤ sizeLine; decide), fun lo no => ?_⟩⟩⟩
  refine ⟨_, rfl, (by show 1 ≤ sizeLine; decide), fun l2 n2 => ⟨_, _, rfl, rfl, ⟨by decide, by decide, by decide⟩, (by show 1 ≤ sizeLine; decide), fun t2 nt2 => ⟨(by show 10 ≤ sizeLine; decide), fun lw nw => ?_⟩⟩⟩
  rw [upd_upd] at no n2 nt2 nw
  rw [upd_upd]
  have hp0 : ∃ o, H0 p = some o := b0.at
  have neP : ∀ {G : Hp} {x : Addr}, Same H0 G → G x = none → x ≠ p := fun sG n e => by
    obtain ⟨o, ho⟩ := hp0
    rw [e, sG _ _ ho] at n
    cases n
  have S1 := new_same (o := .lst kindsV) nk
  have S2 := same_new (o := .lst [.str "put"]) S1 n1
  have S3 := same_new (o := .tup [.str "put"]) S2 nt1
  have S4 := same_new (o := .dK [(Sum.inr ("put" : Str), .int 1)]) S3 nd1
  have S5 := same_new (o := .lst (oddV l1 t1 d1)) S4 no
  have S6 := same_new (o := .lst [.int 2]) S5 n2
  have S7 := same_new (o := .tup [.int 2]) S6 nt2
  have S8 := same_new (o := .lst (wideV l2 t2)) S7 nw
  have T8 := new_same (o := .lst (wideV l2 t2)) nw
  have T7 := Same.trans (new_same (o := .tup [.int 2]) nt2) T8
  have T6 := Same.trans (new_same (o := .lst [.int 2]) n2) T7
  have T5 := Same.trans (new_same (o := .lst (oddV l1 t1 d1)) no) T6
  have T4 := Same.trans (new_same (o := .dK [(Sum.inr ("put" : Str), .int 1)]) nd1) T5
  have T3 := Same.trans (new_same (o := .tup [.str "put"]) nt1) T4
  have T2 := Same.trans (new_same (o := .lst [.str "put"]) n1) T3
  have fx : Fx p lk lo l1 t1 d1 lw l2 t2 _ := ⟨⟨T2 _ _ upd_same, neP (Same.refl H0) nk⟩, ⟨T6 _ _ upd_same, neP S4 no⟩, ⟨T3 _ _ upd_same, neP S1 n1⟩, ⟨T4 _ _ upd_same, neP S2 nt1⟩, ⟨T5 _ _ upd_same, neP S3 nd1⟩, ⟨upd_same, neP S7 nw⟩, ⟨T7 _ _ upd_same, neP S5 n2⟩, ⟨T8 _ _ upd_same, neP S6 nt2⟩⟩
  have bA := b0.keep S8
  clear T2 T3 T4 T5 T6 T7 T8 S2 S3 S4 S5 S6 S7
  -- kind, width, lines
  refine ⟨_, rfl, _, rfl, p, 0, 8, rfl, bA, by omega, by decide, small16 (by decide) (by decide), fun r1 G1 a0 a1 bG1 u1 => ?_⟩
  obtain ⟨k, hk1, hk⟩ := kind_at (r := r1.toNat) (by omega)
  have fx1 := fx.but u1
  refine ⟨lk, _, r1, .str k, rfl, rfl, SqL.of fx1.k.1, at_of (j := r1.toNat) (by omega) hk1, ?_⟩
  refine ⟨_, rfl, p, 1, 3, rfl, bG1, by omega, by decide, small16 (by decide) (by decide), fun r2 G2 c0 c1 bG2 u2 => ?_⟩
  have fx2 := fx1.but u2
  refine ⟨_, _, rfl, rfl, ?_⟩
  have hw3 : r2 = 0 ∨ r2 = 1 ∨ r2 = 2 := by omega
  have hw : inV (.int (2 + r2)) widthsV = true := by rcases hw3 with rfl | rfl | rfl <;> decide +kernel
  refine ⟨_, rfl, p, 2, rfl, bG2, by omega, fun G3 ll ts n3 u3 nll ell hrun hts bG3 hn3 => ⟨_, _, _, rfl, ?_⟩⟩
  have fx3 := fx2.but u3
  obtain ⟨ls, hls⟩ : ∃ ls : List Str, ls = ts.map Tk.line := ⟨_, rfl⟩
  have ell : G3 ll = some (.lst (ls.map V.str)) := by rw [hls]; exact ell
  have okls : ∀ q ∈ ls, okL q := by rw [hls]; exact ok_ts
  have hgood : Good ls := ⟨by rw [hls, List.length_map]; exact hts, ts, hls, hrun⟩
  have hl60 := hgood.1
  clear hls hrun hts
  have hx : TextOf (Txt.join nlS ls) ls := text_of okls (by omega)
  refine ⟨⟨_, rfl⟩, _, rfl, nlS, ll, ls, rfl, rfl, .inl (SqL.of ell), sum_le okls (by omega), ?_⟩
  -- told as made
  refine ⟨_, rfl, _, rfl, _, rfl, .str k, .int (2 + r2), Txt.join nlS ls, ls, _, rfl, hx, .made (isKind hk) (isWidth hw) hl60 hgood.2, fun G4 t4 s4 e4 => ?_⟩
  refine ⟨_, rfl, _, rfl, _, rfl, _, rfl, ll, _, rfl, .inl (SqL.of (s4 _ _ ell)), (by show 5 ≤ sizeLine; decide), fun t5 nt5 => ?_⟩
  have e4' : SqT K G4 t4 [.str "made", .str k, .int (2 + r2), .str (Txt.join nlS ls), .int (ls.map V.str).length] := by rw [List.length_map]; exact e4
  have sA := s4.trans (new_same (o := .tup [.str "made", .str k, .int (2 + r2), .str (Txt.join nlS ls), .int (ls.map V.str).length]) nt5)
  refine ⟨t4, t5, _, rfl, rfl, sqt_same (new_same nt5) e4', SqT.of upd_same, rfl, _, rfl, iteF ?_⟩
  have ellA := sA _ _ ell
  have fxA := fx3.same sA
  have bA := bG3.keep sA
  -- the code
  refine ⟨_, rfl, _, rfl, _, rfl, mk_code (R := fun c G => _) hk hw hx hgood fun c G5 s5 hc => ?_⟩
  have ell5 := s5 _ _ ellA
  have fx5 := fxA.same s5
  have b5 := bA.keep s5
  obtain ⟨dxc, _, _, ltc, hc1, hc2⟩ := id hc
  -- its lines
  refine ⟨_, rfl, ll, _, rfl, .inl (SqL.of ell5), ?_⟩
  refine ⟨((ls.map V.str).length : Nat), rfl, by rw [List.length_map]; omega, by rw [List.length_map]; omega, for_range (n := (((ls.map V.str).length : Nat) : Int).toNat) (fun i σ G => ∃ v10, σ = [some (.ref a), some (.ref p), some (.ref lk), some (.ref lo), some (.ref lw), some (.str k), some (.int (2 + r2)), some (.ref ll), some (.str (Txt.join nlS ls)), some (.ref c), v10, none, none, none, none, none] ∧ Same G5 G)
    ⟨none, rfl, Same.refl G5⟩ ?_ ?_⟩
  · rintro i σ G hi ⟨v10, rfl, sG⟩
    have hi' : i < ls.length := by
      rw [List.length_map] at hi
      omega
    have hy : ls[i]? = some ls[i] := List.getElem?_eq_getElem hi'
    refine ⟨_, rfl, _, rfl, _, _, rfl, rfl, c, dxc, _, rfl, sG _ _ hc1, c, .str k, .int (2 + r2), Txt.join nlS ls, ls, i, ls[i], (by rw [Int.zero_add]), hc.keep sG, hy, ?_⟩
    refine ⟨_, rfl, _, rfl, ll, _, _, .str ls[i], rfl, rfl, SqL.of (sG _ _ ell5), at_of (j := i) (by omega) (by rw [List.getElem?_map, hy] <;> rfl), rfl, _, rfl, iteNS rfl ?_⟩
    exact ⟨_, rfl, sG⟩
  · rintro σ G ⟨v10, rfl, sG⟩
    have ellG := sG _ _ ell5
    have fxG := fx5.same sG
    have bG := b5.keep sG
    have hcG := hc.keep sG
    -- code == text or code != Code(..)
    refine ⟨_, rfl, _, rfl, c, dxc, _, rfl, sG _ _ hc1, .str _ T.ss, c, k, Txt.join nlS ls, 2 + r2, ls, .str (Txt.join nlS ls), rfl, hcG, .inl ⟨_, rfl, _, rfl, iteF ?_⟩⟩
    refine ⟨_, rfl, _, rfl, _, rfl, ⟨_, rfl⟩, _, rfl, ll, _, rfl, .inl (SqL.of ellG), fun l3 nl3 => ?_⟩
    have s3' := new_same (o := .lst (ls.map V.str)) nl3
    refine ⟨nlS, l3, ls, rfl, rfl, .inl (SqL.of upd_same), sum_le okls (by omega), mk_code (R := fun c G => _) hk hw hx hgood fun o1 G6 s6 ho1 => ?_⟩
    have s36 := s3'.trans s6
    obtain ⟨dxo, _, _, lto, ho11, ho12⟩ := id ho1
    refine ⟨c, dxc, _, rfl, s36 _ _ (sG _ _ hc1), .own ho11, c, k, Txt.join nlS ls, 2 + r2, ls, .ref o1, rfl, hcG.keep s36, .inr ⟨o1, k, Txt.join nlS ls, 2 + r2, ls, rfl, ho1, _, rfl, _, rfl, iteBF (by simp) ?_⟩⟩
    -- another width
    have hw6 : inV (.int (6 - (2 + r2))) widthsV = true := by rcases hw3 with rfl | rfl | rfl <;> decide +kernel
    refine ⟨_, rfl, _, rfl, _, rfl, _, _, rfl, rfl, _, rfl, mk_code (R := fun c G => _) hk hw6 hx hgood fun o2 G7 s7 ho2 => ?_⟩
    have s37 := s36.trans s7
    obtain ⟨dxo2, _, _, lto2, ho21, ho22⟩ := id ho2
    have eq3 : V.bl (decide (k = k) && (decide ((2 + r2) = 6 - (2 + r2)) && decide (Txt.join nlS ls = Txt.join nlS ls))) = V.bl (decide (V.int (2 + r2) = V.int 3)) := by
      rcases hw3 with rfl | rfl | rfl <;> simp
    refine ⟨c, dxc, _, rfl, s37 _ _ (sG _ _ hc1), .own ho21, c, k, Txt.join nlS ls, 2 + r2, ls, .ref o2, rfl, hcG.keep s37, .inr ⟨o2, k, Txt.join nlS ls, 6 - (2 + r2), ls, rfl, ho2, _, rfl, rfl, rfl, _, rfl, iteNS eq3 ?_⟩⟩
    have ell7 := s37 _ _ ellG
    have fx7 := fxG.same s37
    have b7 := bG.keep s37
    have hc7 := hcG.keep s37
    -- what is no kind, no width
    refine ⟨_, rfl, _, rfl, p, n3, 9, rfl, b7, by omega, by decide, small16 (by decide) (by decide), fun r3 G8 d0 d1' b8 u8 => ?_⟩
    have dk7 := bag_dk b7
    have fx8 := fx7.but u8
    obtain ⟨wv, hwv, swv, iwv⟩ := odd_at (K := K) (p := p) (lk := lk) (lo := lo) (l1 := l1) (t1 := t1) (d1 := d1) (lw := lw) (l2 := l2) (t2 := t2) (r := r3.toNat) (by omega)
    refine ⟨lo, _, r3, wv, rfl, rfl, SqL.of fx8.o.1, at_of (j := r3.toNat) (by omega) hwv, ?_⟩
    refine ⟨_, rfl, _, rfl, p, n3 + 1, 10, rfl, b8, by omega, by decide, small16 (by decide) (by decide), fun r4 G9 e0 e1 b9 u9 => ?_⟩
    have fx9 := fx8.but u9
    obtain ⟨nv, hnv, snv, inv⟩ := wide_at (K := K) (p := p) (lk := lk) (lo := lo) (l1 := l1) (t1 := t1) (d1 := d1) (lw := lw) (l2 := l2) (t2 := t2) (r := r4.toNat) (by omega)
    refine ⟨lw, _, r4, nv, rfl, rfl, SqL.of fx9.w.1, at_of (j := r4.toNat) (by omega) hnv, ?_⟩
    -- a long text
    refine ⟨⟨_, rfl⟩, (by show 1 ≤ sizeLine; decide), fun lt nlt => ?_⟩
    have s9 := new_same (o := .lst [.str "tell"]) nlt
    refine ⟨_, rfl, p, n3 + 2, 4, rfl, b9.keep s9, by omega, by decide, small16 (by decide) (by decide), fun r5 G10 f0 f1 b10 u10 => ⟨_, _, rfl, rfl, ?_⟩⟩
    have dk9 := bag_dk (b9.keep s9)
    have fx10 := (fx9.same s9).but u10
    obtain ⟨N, hN⟩ : ∃ N : Nat, N = (59 + r5).toNat := ⟨_, rfl⟩
    have hN1 : 59 ≤ N := by omega
    have hN2 : N ≤ 62 := by omega
    refine ⟨lt, 59 + r5, [.str "tell"], rfl, rfl, lst_but u10 dk9 upd_same, by omega, by omega, Nat.le_trans (show 1 * (59 + r5).toNat ≤ 100 by omega) (by decide), fun z nz => ?_⟩
    obtain ⟨tl, htl⟩ : ∃ tl : List Str, tl = List.replicate N ("tell" : Str) := ⟨_, rfl⟩
    have oktl : ∀ q ∈ tl, okL q := fun q hq => by
      rw [htl] at hq
      rw [List.eq_of_mem_replicate hq]
      exact ok_line .tell
    have ltl : tl.length = N := by rw [htl, List.length_replicate]
    have gtl : ∃ us : List Tk, tl = us.map Tk.line ∧ run .no us = some .no := ⟨List.replicate N .tell, by rw [htl, List.map_replicate]; rfl, run_tells N⟩
    have eflat : (List.replicate (59 + r5).toNat [V.str ("tell" : Str)]).flatten = tl.map V.str := by rw [htl, ← hN]; exact rep_flat N "tell"
    have ez : (upd G10 z (.lst (List.replicate (59 + r5).toNat [V.str ("tell" : Str)]).flatten)) z = some (.lst (tl.map V.str)) := by rw [upd_same, eflat]
    have s10 := new_same (o := .lst (List.replicate (59 + r5).toNat [V.str ("tell" : Str)]).flatten) nz
    refine ⟨nlS, z, tl, rfl, rfl, .inl (SqL.of ez), sum_le oktl (by omega), ?_⟩
    have hxl : TextOf (Txt.join nlS tl) tl := text_of oktl (by omega)
    obtain ⟨hz, hsp⟩ : (Txt.join nlS tl).length + 2 ≤ sizeLine ∧ Txt.split (Txt.join nlS tl) nlS = tl := by
      rcases hxl with ⟨_, e⟩ | ⟨_, a, b⟩
      · rw [e] at ltl
        simp at ltl
        omega
      · exact ⟨a, b⟩
    have eM : (((Txt.split (Txt.join nlS tl) nlS).map V.str).length : Int) = (tl.length : Int) := by rw [hsp, List.length_map]
    have ell10 := lst_but u10 dk9 (s9 _ _ (lst_but u9 (bag_dk b8) (lst_but u8 dk7 ell7)))
    have hc10 := (((hc7.but u8 dk7).but u9 (bag_dk b8)).keep s9).but u10 dk9
    refine ⟨_, rfl, ⟨_, rfl⟩, Txt.join nlS tl, nlS, rfl, rfl, by decide +kernel, hz, fun z2 nz2 => ⟨z2, _, rfl, .inl (SqL.of upd_same), ?_⟩⟩
    have s11 := s10.trans (new_same (o := .lst ((Txt.split (Txt.join nlS tl) nlS).map V.str)) nz2)
    obtain ⟨due, hdue⟩ : ∃ due : List V, due = if 60 < N then [V.str "many", V.str "lines", V.int tl.length, V.int 60] else [V.str "made", V.str k, V.int (2 + r2), V.str (Txt.join nlS tl), V.int tl.length] := ⟨_, rfl⟩
    have sdue : due.all selfV = true := by rw [hdue]; split <;> rfl
    have tdue : ∀ G, Told K G (.str k) (.int (2 + r2)) (Txt.join nlS tl) tl due := fun G => by
      rw [hdue]
      split
      · exact .many (isKind hk) (isWidth hw) (by omega)
      · exact .made (isKind hk) (isWidth hw) (by omega) gtl
    refine ⟨fun σ G => ∃ t : Addr, σ = [some (.ref a), some (.ref p), some (.ref lk), some (.ref lo), some (.ref lw), some (.str k), some (.int (2 + r2)), some (.ref ll), some (.str (Txt.join nlS ls)), some (.ref c), v10, some wv, some nv, some (.str (Txt.join nlS tl)), some (.int ((Txt.split (Txt.join nlS tl) nlS).map V.str).length), some (.ref t)] ∧ Same G10 G ∧ SqT K G t due, ?_, ?_⟩
    · refine ⟨_, rfl, _, _, rfl, rfl, _, rfl, ite2 (fun h => ?_) (fun h => ?_)⟩
      · have h' : 60 < N := by
          have := of_decide_eq_true h
          omega
        refine ⟨_, rfl, (by show 4 ≤ sizeLine; decide), fun t nt => ⟨t, rfl, same_new s11 nt, ?_⟩⟩
        rw [hdue, if_pos h', ← eM]
        exact SqT.of upd_same
      · have h' : ¬ 60 < N := fun z => h (decide_eq_true (by omega))
        refine ⟨_, rfl, _, rfl, _, rfl, _, rfl, (by show 5 ≤ sizeLine; decide), fun t nt => ⟨t, rfl, same_new s11 nt, ?_⟩⟩
        rw [hdue, if_neg h', ← eM]
        exact SqT.of upd_same
    · rintro σ G ⟨t, rfl, sG10, et⟩
      refine ⟨_, rfl, _, rfl, _, rfl, .str k, .int (2 + r2), Txt.join nlS tl, tl, due, rfl, hxl, tdue G, fun G11 u1' s12 e12 => ?_⟩
      refine ⟨_, rfl, u1', t, due, rfl, rfl, e12, sqt_same s12 et, sdue, _, rfl, iteF ?_⟩
      have sG11 := sG10.trans s12
      refine ⟨_, rfl, _, rfl, _, rfl, wv, nv, Txt.join nlS tl, tl, _, rfl, hxl, .kind (iwv _ (fx10.same sG11)), fun G12 u2' s13 e13 => ?_⟩
      refine ⟨_, rfl, (by show 2 ≤ sizeLine; decide), fun u3' nu3 => ?_⟩
      refine ⟨u2', u3', _, rfl, rfl, sqt_same (new_same nu3) e13, SqT.of upd_same, (by show (true && (selfV wv && true)) = true; rw [swv]; rfl), _, rfl, iteF ?_⟩
      have sG13 := (sG11.trans s13).trans (new_same (o := .tup [.str "kind", wv]) nu3)
      obtain ⟨due2, hdue2⟩ : ∃ due : List V, due = if 60 < N + 1 then [V.str "many", V.str "lines", V.int (tl.length + 1), V.int 60] else [V.str "line", V.int 1] := ⟨_, rfl⟩
      have sdue2 : due2.all selfV = true := by rw [hdue2]; split <;> rfl
      have hxT : TextOf (("Tell\n" : Str) ++ Txt.join nlS tl) (("Tell" : Str) :: tl) := by
        rw [tell_join (fun z => by rw [z] at ltl; simp at ltl; omega)]
        refine text_of (fun q hq => ?_) (by rw [List.length_cons]; omega)
        rcases List.mem_cons.mp hq with rfl | hq
        · exact ⟨by decide +kernel, by decide +kernel, by decide +kernel⟩
        · exact oktl q hq
      have tdue2 : ∀ G, Told K G (.str k) (.int (2 + r2)) (("Tell\n" : Str) ++ Txt.join nlS tl) (("Tell" : Str) :: tl) due2 := fun G => by
        rw [hdue2]
        split
        · have e : (((("Tell" : Str) :: tl).length : Nat) : Int) = (tl.length : Int) + 1 := by rw [List.length_cons]; rfl
          rw [← e]
          exact .many (isKind hk) (isWidth hw) (by rw [List.length_cons]; omega)
        · exact .line (isKind hk) (isWidth hw) (by rw [List.length_cons]; omega) ⟨tl, rfl⟩
      refine ⟨fun σ G => ∃ t : Addr, σ = [some (.ref a), some (.ref p), some (.ref lk), some (.ref lo), some (.ref lw), some (.str k), some (.int (2 + r2)), some (.ref ll), some (.str (Txt.join nlS ls)), some (.ref c), v10, some wv, some nv, some (.str (Txt.join nlS tl)), some (.int ((Txt.split (Txt.join nlS tl) nlS).map V.str).length), some (.ref t)] ∧ Same G10 G ∧ SqT K G t due2, ?_, ?_⟩
      · refine ⟨_, rfl, _, _, rfl, rfl, _, _, rfl, rfl, _, rfl, ite2 (fun h => ?_) (fun h => ?_)⟩
        · have h' : 60 < N + 1 := by
            have := of_decide_eq_true h
            omega
          refine ⟨_, rfl, _, _, rfl, rfl, (by show 4 ≤ sizeLine; decide), fun t nt => ⟨t, rfl, same_new sG13 nt, ?_⟩⟩
          rw [hdue2, if_pos h', ← eM]
          exact SqT.of upd_same
        · have h' : ¬ 60 < N + 1 := fun z => h (decide_eq_true (by omega))
          refine ⟨(by show 2 ≤ sizeLine; decide), fun t nt => ⟨t, rfl, same_new sG13 nt, ?_⟩⟩
          rw [hdue2, if_neg h']
          exact SqT.of upd_same
      · rintro σ G ⟨t, rfl, sG10, et⟩
        refine ⟨_, rfl, _, rfl, _, rfl, .str k, nv, Txt.join nlS tl, tl, _, rfl, hxl, .width (isKind hk) (inv _ (fx10.same sG10)), fun G14 w1 s14 e14 => ?_⟩
        refine ⟨_, rfl, (by show 2 ≤ sizeLine; decide), fun w2 nw2 => ?_⟩
        refine ⟨w1, w2, _, rfl, rfl, sqt_same (new_same nw2) e14, SqT.of upd_same, (by show (true && (selfV nv && true)) = true; rw [snv]; rfl), _, rfl, iteF ?_⟩
        have s15 := s14.trans (new_same (o := .tup [.str "width", nv]) nw2)
        refine ⟨_, rfl, _, rfl, _, rfl, _, _, rfl, rfl, ?_, .str k, .int (2 + r2), _, ("Tell" : Str) :: tl, due2, rfl, hxT, tdue2 _, fun G16 w3 s16 e16 => ?_⟩
        · have jl := join_len oktl
          have ten : ("Tell\n" : Str).length = 5 := by decide +kernel
          exact Nat.le_trans (show ("Tell\n" : Str).length + (Txt.join nlS tl).length ≤ 2000 by omega) (by decide)
        refine ⟨_, rfl, w3, t, due2, rfl, rfl, e16, sqt_same (s15.trans s16) et, sdue2, _, rfl, iteF ?_⟩
        have sEnd := (sG10.trans s15).trans s16
        -- the kinds, the text without signs
        refine ⟨_, rfl, _, rfl, c, ll, k, Txt.join nlS ls, 2 + r2, ls, rfl, hc10.keep sEnd, hx, hw, hgood, SqL.of (sEnd _ _ ell10), fun G17 s17 => ⟨true, rfl, iteT ?_⟩⟩
        refine ⟨_, rfl, _, rfl, mk_code (R := fun c G => _) hk hw (.inl ⟨rfl, rfl⟩) ⟨Nat.zero_le _, [], rfl, rfl⟩ fun o3 G18 s18 ho3 => ?_⟩
        obtain ⟨dx3, _, _, lt3, ho31, ho32⟩ := id ho3
        refine ⟨o3, dx3, _, rfl, ho31, o3, .str k, .int (2 + r2), "", [], rfl, ho3, _, rfl, by decide, by decide, rfl, ?_⟩
        exact q _
end
end H1
namespace H1
open PySem PySem.Spec PyProof.Rows L2 Hx Nd Dun
/-! ### what the top has written, by answers of the kernel -/
def namesB (K : PySem.W.Frag) (C : Addr) (fl : List Str) : Bool := fl.all fun x => decide (PySem.W.findIn K (.ref C) x = some none)
def clB (K : PySem.W.Frag) (C f : Addr) (fl : List Str) : Bool := PySem.W.makesIn K C && (decide (PySem.W.findIn K (.ref C) "__init__" = some (some (.ref f))) && (PySem.W.isFn K (.ref f) && (PySem.W.keepIn K (.ref C) && (PySem.W.plainGet K C Str.empty && (PySem.W.hasDictIn K C && (PySem.W.plainOver K C &&
  (decide (PySem.W.findIn K (.ref C) "__setattr__" = some (some (.builtin "object.__setattr__"))) && namesB K C fl)))))))
theorem cl_of {K : PySem.W.Frag} {C f : Addr} {fl : List Str} (b : clB K C f fl = true) : Mk K C f ∧ Cls K C ∧ ∀ x ∈ fl, NoAttr K C x := by
  unfold clB namesB at b
  simp only [Bool.and_eq_true, decide_eq_true_eq, List.all_eq_true] at b
  obtain ⟨a1, a2, a3, a4, a5, a6, a7, a8, a9⟩ := b
  exact ⟨⟨a1, a2, a3, a4⟩, ⟨a5, a6, a7, a8⟩, a9⟩
def methB (K : PySem.W.Frag) (C : Addr) (m : Str) (f : Addr) : Bool := decide (PySem.W.findIn K (.ref C) m = some (some (.ref f))) && (PySem.W.isFn K (.ref f) && (PySem.W.keepIn K (.ref f) && PySem.W.fnIn K f))
theorem meth_of {K : PySem.W.Frag} {C : Addr} {m : Str} {f : Addr} (b : methB K C m f = true) : Meth K C m f ∧ Dn K C m f := by
  unfold methB at b
  simp only [Bool.and_eq_true, decide_eq_true_eq] at b
  obtain ⟨a1, a2, a3, a4⟩ := b
  exact ⟨⟨a1, a2, a3⟩, ⟨a1, a2, a4⟩⟩
def codeB (K : PySem.W.Frag) (C : Addr) : Bool := decide (PySem.W.findIn K (.ref C) "__ne__" = some (some (.builtin "object.__ne__"))) && (decide (PySem.W.mroIn K C (.type "object") = some true) && (decide (PySem.W.findIn K (.ref C) "__class__" = some (some (.builtin "object.__class__"))) &&
  (decide (PySem.W.specialIn K (.builtin "object.__class__") "__get__" = some (some (.builtin "getset_descriptor.__get__"))) && (decide (PySem.W.takesIn K (.builtin "object.__class__") = some true) && (decide (PySem.W.kitOne K (.ref C) (.ref C) = some true) && (decide (PySem.W.kitOne K (.type "str") (.ref C) = some false) && decide (PySem.W.subIn K (.type "str") (.ref C) = some false)))))))
theorem code_of {K : PySem.W.Frag} {C : Addr} (b : codeB K C = true) : PySem.W.findIn K (.ref C) "__ne__" = some (some (.builtin "object.__ne__")) ∧ PySem.W.mroIn K C (.type "object") = some true ∧ PySem.W.findIn K (.ref C) "__class__" = some (some (.builtin "object.__class__")) ∧
    PySem.W.specialIn K (.builtin "object.__class__") "__get__" = some (some (.builtin "getset_descriptor.__get__")) ∧ PySem.W.takesIn K (.builtin "object.__class__") = some true ∧ PySem.W.kitOne K (.ref C) (.ref C) = some true ∧ PySem.W.kitOne K (.type "str") (.ref C) = some false ∧ PySem.W.subIn K (.type "str") (.ref C) = some false := by
  unfold codeB at b
  simpa only [Bool.and_eq_true, decide_eq_true_eq] using b
/-- the values are these -/
def valsB : List V → List Value → Bool
  | [], [] => true
  | .str x :: r, .str y _ :: s => decide (x = y) && valsB r s
  | .int i :: r, .int j _ :: s => decide (i = j) && valsB r s
  | .non :: r, .none :: s => valsB r s
  | .ref a :: r, .ref b :: s => decide (a = b) && valsB r s
  | _, _ => false
theorem vals_of : ∀ (xs : List V) (us : List Value), valsB xs us = true → Vals xs us
  | [], [], _ => .nil
  | .str x :: r, .str y t :: s, h => by
    rw [valsB, Bool.and_eq_true, decide_eq_true_eq] at h
    obtain ⟨rfl, h⟩ := h
    exact .cons ⟨t, rfl⟩ (vals_of r s h)
  | .int i :: r, .int j t :: s, h => by
    rw [valsB, Bool.and_eq_true, decide_eq_true_eq] at h
    obtain ⟨rfl, h⟩ := h
    exact .cons ⟨t, rfl⟩ (vals_of r s h)
  | .non :: r, .none :: s, h => .cons rfl (vals_of r s h)
  | .ref a :: r, .ref b :: s, h => by
    rw [valsB, Bool.and_eq_true, decide_eq_true_eq] at h
    obtain ⟨rfl, h⟩ := h
    exact .cons rfl (vals_of r s h)
def tupB (K : PySem.W.Frag) (a : Addr) (xs : List V) : Bool := match K.lookup a with
  | some ⟨.type c, _, .seq its _, _⟩ => decide (c = "tuple") && (decide (its.size ≤ 1000) && valsB xs its.toList)
  | _ => false
theorem tup_of {K : PySem.W.Frag} {a : Addr} {xs : List V} (b : tupB K a xs = true) : ∀ H, SqT K H a xs := fun H => by
  unfold tupB at b
  split at b
  · rename_i c od its n sl e
    rw [Bool.and_eq_true, Bool.and_eq_true, decide_eq_true_eq, decide_eq_true_eq] at b
    obtain ⟨rfl, h1, h2⟩ := b
    exact .inr ⟨_, its, n, e, rfl, rfl, Nat.le_trans h1 (by decide), vals_of _ _ h2⟩
  · cases b
def wayB (K : PySem.W.Frag) (a : Addr) : Bool := match K.lookup a with
  | some ⟨.type c, _, .seq its _, _⟩ => (match its.toList with
    | [.ref b, .int i _, .int j _, .ref d] => decide (c = "tuple") && (decide (its.size ≤ 1000) && (decide (i = 0) && (decide (j = 0) && (tupB K b [] && tupB K d []))))
    | _ => false)
  | _ => false
theorem way_of {K : PySem.W.Frag} {a : Addr} (b : wayB K a = true) : ∀ H, Wy K H (.ref a) := fun H => by
  unfold wayB at b
  split at b
  · rename_i c od its n sl e
    split at b
    · rename_i b1 i ti j tj d e2
      simp only [Bool.and_eq_true, decide_eq_true_eq] at b
      obtain ⟨rfl, h1, rfl, rfl, h2, h3⟩ := b
      refine wy_mk (b := b1) (c := d) (.inr ⟨_, its, n, e, rfl, rfl, Nat.le_trans h1 (by decide), ?_⟩) (tup_of h2 H) (tup_of h3 H)
      rw [e2]
      exact .cons rfl (.cons ⟨_, rfl⟩ (.cons ⟨_, rfl⟩ (.cons rfl .nil)))
    · cases b
  · cases b
def dflB (K : PySem.W.Frag) (a : Addr) : Bool := match K.lookup a with
  | some ⟨_, _, .seq its _, _⟩ => (match its.toList with
    | [.none, .ref _] => true
    | _ => false)
  | _ => false
theorem dfl_of {K : PySem.W.Frag} {a : Addr} (b : dflB K a = true) : ∃ tt, DflV K (.ref a) [.non, .ref tt] := by
  unfold dflB at b
  split at b
  · rename_i oc od its n sl e
    split at b
    · rename_i tt e2
      refine ⟨tt, .inr ⟨by simp, a, _, [.none, .ref tt], n, rfl, e, ?_, .cons rfl (.cons rfl .nil)⟩⟩
      rw [← e2]
    · cases b
  · cases b
theorem fund_mk {K : PySem.W.Frag} {x qual : Str} {st : Stmt} {f : Addr} {oc : Value} {od : Option Addr} {dV kV doc pm : Value} {an : Option Addr} {cdv ct : Value} {osl : Array (Option Value)} {dvs : List V} (lk : K.lookup f = some ⟨oc, od, .func (PySem.W.fnOf x qual (defArgs st) (defBody st) (defScope st) dV kV doc pm an cdv ct), osl⟩)
    (hc : PySem.W.codeIn K cdv qual = true) (kp : PySem.W.keepIn K (.ref f) = true) (hD : DflV K dV dvs) : FunD K x qual (defArgs st) (defBody st) (defScope st) dvs [] f (PySem.W.fnOf x qual (defArgs st) (defBody st) (defScope st) dV kV doc pm an cdv ct) :=
  ⟨⟨oc, od, dV, kV, doc, pm, an, cdv, ct, osl, rfl, lk, hc, hD, .inl rfl⟩, kp⟩

theorem all_mk {P : Program} {w : World} {K : PySem.W.Frag} {h : Heap} {mg : Str → Option Value} {fa D : Addr} (X : K.In h) (G : h.Ns mainGlobals mg) (hfa : mg "law" = some (.ref fa))
    {nm0 q0 : Str} {N0 C0 I0 : Addr} {bs0 : List Value} {sn0 : List Str} {sub0 : List Value} {ab0 : Bool} {col0 : Option Bool} {dd0 : Option Addr} {m00 m10 m20 m30 m50 : Option Value} {ioc0 ikV0 idc0 ipm0 icd0 ict0 : Value} {iod0 ian0 : Option Addr} {isl0 : Array (Option Value)}
    {nm1 q1 : Str} {N1 C1 I1 : Addr} {bs1 : List Value} {sn1 : List Str} {sub1 : List Value} {ab1 : Bool} {col1 : Option Bool} {dd1 : Option Addr} {m01 m11 m21 m31 m51 : Option Value} {ioc1 ikV1 idc1 ipm1 icd1 ict1 : Value} {iod1 ian1 : Option Addr} {isl1 : Array (Option Value)}
    {nm2 q2 : Str} {N2 C2 I2 : Addr} {bs2 : List Value} {sn2 : List Str} {sub2 : List Value} {ab2 : Bool} {col2 : Option Bool} {dd2 : Option Addr} {m02 m12 m22 m32 m52 : Option Value} {ioc2 ikV2 idc2 ipm2 icd2 ict2 : Value} {iod2 ian2 : Option Addr} {isl2 : Array (Option Value)}
    {nm3 q3 : Str} {N3 C3 I3 : Addr} {bs3 : List Value} {sn3 : List Str} {sub3 : List Value} {ab3 : Bool} {col3 : Option Bool} {dd3 : Option Addr} {m03 m13 m23 m33 m53 : Option Value} {ioc3 ikV3 idc3 ipm3 icd3 ict3 : Value} {iod3 ian3 : Option Addr} {isl3 : Array (Option Value)}
    {nm4 q4 : Str} {N4 C4 I4 : Addr} {bs4 : List Value} {sn4 : List Str} {sub4 : List Value} {ab4 : Bool} {col4 : Option Bool} {dd4 : Option Addr} {m04 m14 m24 m34 m54 : Option Value} {ioc4 ikV4 idc4 ipm4 icd4 ict4 : Value} {iod4 ian4 : Option Addr} {isl4 : Array (Option Value)}
    {f_is_kind : Addr} {oc_is_kind kV_is_kind dc_is_kind pm_is_kind cd_is_kind ct_is_kind : Value} {od_is_kind an_is_kind : Option Addr} {sl_is_kind : Array (Option Value)}
    {f_is_width : Addr} {oc_is_width kV_is_width dc_is_width pm_is_width cd_is_width ct_is_width : Value} {od_is_width an_is_width : Option Addr} {sl_is_width : Array (Option Value)}
    {f_allows : Addr} {oc_allows kV_allows dc_allows pm_allows cd_allows ct_allows : Value} {od_allows an_allows : Option Addr} {sl_allows : Array (Option Value)}
    {f_read_plain_part : Addr} {oc_read_plain_part kV_read_plain_part dc_read_plain_part pm_read_plain_part cd_read_plain_part ct_read_plain_part : Value} {od_read_plain_part an_read_plain_part : Option Addr} {sl_read_plain_part : Array (Option Value)}
    {f_read_part : Addr} {oc_read_part kV_read_part dc_read_part pm_read_part cd_read_part ct_read_part : Value} {od_read_part an_read_part : Option Addr} {sl_read_part : Array (Option Value)}
    {f_read_test : Addr} {oc_read_test kV_read_test dc_read_test pm_read_test cd_read_test ct_read_test : Value} {od_read_test an_read_test : Option Addr} {sl_read_test : Array (Option Value)}
    {f_names_given : Addr} {oc_names_given kV_names_given dc_names_given pm_names_given cd_names_given ct_names_given : Value} {od_names_given an_names_given : Option Addr} {sl_names_given : Array (Option Value)}
    {f_row_with_test : Addr} {oc_row_with_test kV_row_with_test dc_row_with_test pm_row_with_test cd_row_with_test ct_row_with_test : Value} {od_row_with_test an_row_with_test : Option Addr} {sl_row_with_test : Array (Option Value)}
    {f_row_of_block_word : Addr} {oc_row_of_block_word kV_row_of_block_word dc_row_of_block_word pm_row_of_block_word cd_row_of_block_word ct_row_of_block_word : Value} {od_row_of_block_word an_row_of_block_word : Option Addr} {sl_row_of_block_word : Array (Option Value)}
    {f_read_row : Addr} {oc_read_row kV_read_row dc_read_row pm_read_row cd_read_row ct_read_row : Value} {od_read_row an_read_row : Option Addr} {sl_read_row : Array (Option Value)}
    {f_blocks_behind : Addr} {oc_blocks_behind kV_blocks_behind dc_blocks_behind pm_blocks_behind cd_blocks_behind ct_blocks_behind : Value} {od_blocks_behind an_blocks_behind : Option Addr} {sl_blocks_behind : Array (Option Value)}
    {f_read_rows : Addr} {oc_read_rows kV_read_rows dc_read_rows pm_read_rows cd_read_rows ct_read_rows : Value} {od_read_rows an_read_rows : Option Addr} {sl_read_rows : Array (Option Value)}
    {f_match_blocks : Addr} {oc_match_blocks kV_match_blocks dc_match_blocks pm_match_blocks cd_match_blocks ct_match_blocks : Value} {od_match_blocks an_match_blocks : Option Addr} {sl_match_blocks : Array (Option Value)}
    {f_keeps_order : Addr} {oc_keeps_order kV_keeps_order dc_keeps_order pm_keeps_order cd_keeps_order ct_keeps_order : Value} {od_keeps_order an_keeps_order : Option Addr} {sl_keeps_order : Array (Option Value)}
    {f_way_behind : Addr} {oc_way_behind kV_way_behind dc_way_behind pm_way_behind cd_way_behind ct_way_behind : Value} {od_way_behind an_way_behind : Option Addr} {sl_way_behind : Array (Option Value)}
    {f_least_break : Addr} {oc_least_break kV_least_break dc_least_break pm_least_break cd_least_break ct_least_break : Value} {od_least_break an_least_break : Option Addr} {sl_least_break : Array (Option Value)}
    {f_Lbag : Addr} {oc_Lbag kV_Lbag dc_Lbag pm_Lbag cd_Lbag ct_Lbag : Value} {od_Lbag an_Lbag : Option Addr} {sl_Lbag : Array (Option Value)}
    {f_Ldraw : Addr} {oc_Ldraw kV_Ldraw dc_Ldraw pm_Ldraw cd_Ldraw ct_Ldraw : Value} {od_Ldraw an_Ldraw : Option Addr} {sl_Ldraw : Array (Option Value)}
    {f_Ltold : Addr} {oc_Ltold kV_Ltold dc_Ltold pm_Ltold cd_Ltold ct_Ltold : Value} {od_Ltold an_Ltold : Option Addr} {sl_Ltold : Array (Option Value)}
    {f_Llines : Addr} {oc_Llines kV_Llines dc_Llines pm_Llines cd_Llines ct_Llines : Value} {od_Llines an_Llines : Option Addr} {sl_Llines : Array (Option Value)}
    {f_Lkinds_right : Addr} {oc_Lkinds_right kV_Lkinds_right dc_Lkinds_right pm_Lkinds_right cd_Lkinds_right ct_Lkinds_right : Value} {od_Lkinds_right an_Lkinds_right : Option Addr} {sl_Lkinds_right : Array (Option Value)}
    {f_law : Addr} {oc_law kV_law dc_law pm_law cd_law ct_law : Value} {od_law an_law : Option Addr} {sl_law : Array (Option Value)}
    {CR IR TD : Addr} {ocR kVR dcR pmR cdR ctR : Value} {odR anR : Option Addr} {slR : Array (Option Value)}
    {CW : Addr}
    {W0 : Addr} {ocW0 kVW0 dcW0 pmW0 cdW0 ctW0 : Value} {odW0 anW0 : Option Addr} {slW0 : Array (Option Value)}
    {W1 : Addr} {ocW1 kVW1 dcW1 pmW1 cdW1 ctW1 : Value} {odW1 anW1 : Option Addr} {slW1 : Array (Option Value)}
    {W4 : Addr} {ocW4 kVW4 dcW4 pmW4 cdW4 ctW4 : Value} {odW4 anW4 : Option Addr} {slW4 : Array (Option Value)}
    {W5 : Addr} {ocW5 kVW5 dcW5 pmW5 cdW5 ctW5 : Value} {odW5 anW5 : Option Addr} {slW5 : Array (Option Value)}
    {W6 : Addr} {ocW6 kVW6 dcW6 pmW6 cdW6 ctW6 : Value} {odW6 anW6 : Option Addr} {slW6 : Array (Option Value)}
    {CY : Addr}
    {Y0 : Addr} {ocY0 kVY0 dcY0 pmY0 cdY0 ctY0 : Value} {odY0 anY0 : Option Addr} {slY0 : Array (Option Value)}
    {Y1 : Addr} {ocY1 kVY1 dcY1 pmY1 cdY1 ctY1 : Value} {odY1 anY1 : Option Addr} {slY1 : Array (Option Value)}
    {Y2 : Addr} {ocY2 kVY2 dcY2 pmY2 cdY2 ctY2 : Value} {odY2 anY2 : Option Addr} {slY2 : Array (Option Value)}
    {Y3 : Addr} {ocY3 kVY3 dcY3 pmY3 cdY3 ctY3 : Value} {odY3 anY3 : Option Addr} {slY3 : Array (Option Value)}
    {CZ : Addr}
    {Z0 : Addr} {ocZ0 kVZ0 dcZ0 pmZ0 cdZ0 ctZ0 : Value} {odZ0 anZ0 : Option Addr} {slZ0 : Array (Option Value)}
    {Z1 : Addr} {ocZ1 kVZ1 dcZ1 pmZ1 cdZ1 ctZ1 : Value} {odZ1 anZ1 : Option Addr} {slZ1 : Array (Option Value)}
    {Z2 : Addr} {ocZ2 kVZ2 dcZ2 pmZ2 cdZ2 ctZ2 : Value} {odZ2 anZ2 : Option Addr} {slZ2 : Array (Option Value)}
    {Z4 : Addr} {ocZ4 kVZ4 dcZ4 pmZ4 cdZ4 ctZ4 : Value} {odZ4 anZ4 : Option Addr} {slZ4 : Array (Option Value)}
    {Z5 : Addr} {ocZ5 kVZ5 dcZ5 pmZ5 cdZ5 ctZ5 : Value} {odZ5 anZ5 : Option Addr} {slZ5 : Array (Option Value)}
    {tKINDS : Addr}
    {tWIDTHS : Addr}
    {tGIVEN : Addr}
    {tLOOPS : Addr}
    {tTOP_WORDS : Addr}
    {tONCE : Addr}
    {tAHEAD_OF_LOOPS : Addr}
    {tF dA : Addr} {esA : Array DictEntry} {nA : Nat} {tk60 : Tok}
    (aC0 : PySem.W.nsIn K mainGlobals "BadKind" = some (some (.ref C0)))
    (xL0 : K.lookup C0 = some (excClassObj nm0 q0 C0 N0 bs0 [.ref D, .type "ValueError", .type "Exception", .type "BaseException", .type "object"] true sn0 sub0 ab0 col0 dd0 m00 m10 m20 m30 m50 "ValueError.__new__"))
    (aI0 : PySem.W.findIn K (.ref C0) "__init__" = some (some (.ref I0)))
    (lI0 : K.lookup I0 = some ⟨ioc0, iod0, .func (PySem.W.fnOf "__init__" "BadKind.__init__" (defArgs iBadKind) (defBody iBadKind) (defScope iBadKind) .none ikV0 idc0 ipm0 ian0 icd0 ict0), isl0⟩)
    (cI0 : PySem.W.codeIn K icd0 "BadKind.__init__" = true)
    (kI0 : PySem.W.keepIn K (.ref I0) = true)
    (bC0 : clsB K C0 I0 ["kind"] = true)
    (aC1 : PySem.W.nsIn K mainGlobals "BadWidth" = some (some (.ref C1)))
    (xL1 : K.lookup C1 = some (excClassObj nm1 q1 C1 N1 bs1 [.ref D, .type "ValueError", .type "Exception", .type "BaseException", .type "object"] true sn1 sub1 ab1 col1 dd1 m01 m11 m21 m31 m51 "ValueError.__new__"))
    (aI1 : PySem.W.findIn K (.ref C1) "__init__" = some (some (.ref I1)))
    (lI1 : K.lookup I1 = some ⟨ioc1, iod1, .func (PySem.W.fnOf "__init__" "BadWidth.__init__" (defArgs iBadWidth) (defBody iBadWidth) (defScope iBadWidth) .none ikV1 idc1 ipm1 ian1 icd1 ict1), isl1⟩)
    (cI1 : PySem.W.codeIn K icd1 "BadWidth.__init__" = true)
    (kI1 : PySem.W.keepIn K (.ref I1) = true)
    (bC1 : clsB K C1 I1 ["width"] = true)
    (aC2 : PySem.W.nsIn K mainGlobals "BadLine" = some (some (.ref C2)))
    (xL2 : K.lookup C2 = some (excClassObj nm2 q2 C2 N2 bs2 [.ref D, .type "ValueError", .type "Exception", .type "BaseException", .type "object"] true sn2 sub2 ab2 col2 dd2 m02 m12 m22 m32 m52 "ValueError.__new__"))
    (aI2 : PySem.W.findIn K (.ref C2) "__init__" = some (some (.ref I2)))
    (lI2 : K.lookup I2 = some ⟨ioc2, iod2, .func (PySem.W.fnOf "__init__" "BadLine.__init__" (defArgs iBadLine) (defBody iBadLine) (defScope iBadLine) .none ikV2 idc2 ipm2 ian2 icd2 ict2), isl2⟩)
    (cI2 : PySem.W.codeIn K icd2 "BadLine.__init__" = true)
    (kI2 : PySem.W.keepIn K (.ref I2) = true)
    (bC2 : clsB K C2 I2 ["line"] = true)
    (aC3 : PySem.W.nsIn K mainGlobals "Refused" = some (some (.ref C3)))
    (xL3 : K.lookup C3 = some (excClassObj nm3 q3 C3 N3 bs3 [.ref D, .type "ValueError", .type "Exception", .type "BaseException", .type "object"] true sn3 sub3 ab3 col3 dd3 m03 m13 m23 m33 m53 "ValueError.__new__"))
    (aI3 : PySem.W.findIn K (.ref C3) "__init__" = some (some (.ref I3)))
    (lI3 : K.lookup I3 = some ⟨ioc3, iod3, .func (PySem.W.fnOf "__init__" "Refused.__init__" (defArgs iRefused) (defBody iRefused) (defScope iRefused) .none ikV3 idc3 ipm3 ian3 icd3 ict3), isl3⟩)
    (cI3 : PySem.W.codeIn K icd3 "Refused.__init__" = true)
    (kI3 : PySem.W.keepIn K (.ref I3) = true)
    (bC3 : clsB K C3 I3 ["line"] = true)
    (aC4 : PySem.W.nsIn K mainGlobals "TooMany" = some (some (.ref C4)))
    (xL4 : K.lookup C4 = some (excClassObj nm4 q4 C4 N4 bs4 [.ref D, .type "ValueError", .type "Exception", .type "BaseException", .type "object"] true sn4 sub4 ab4 col4 dd4 m04 m14 m24 m34 m54 "ValueError.__new__"))
    (aI4 : PySem.W.findIn K (.ref C4) "__init__" = some (some (.ref I4)))
    (lI4 : K.lookup I4 = some ⟨ioc4, iod4, .func (PySem.W.fnOf "__init__" "TooMany.__init__" (defArgs iTooMany) (defBody iTooMany) (defScope iTooMany) .none ikV4 idc4 ipm4 ian4 icd4 ict4), isl4⟩)
    (cI4 : PySem.W.codeIn K icd4 "TooMany.__init__" = true)
    (kI4 : PySem.W.keepIn K (.ref I4) = true)
    (bC4 : clsB K C4 I4 ["what", "many", "most"] = true)
    (a_is_kind : PySem.W.nsIn K mainGlobals "is_kind" = some (some (.ref f_is_kind)))
    (l_is_kind : K.lookup f_is_kind = some ⟨oc_is_kind, od_is_kind, .func (PySem.W.fnOf "is_kind" "is_kind" (defArgs s_is_kind) (defBody s_is_kind) (defScope s_is_kind) .none kV_is_kind dc_is_kind pm_is_kind an_is_kind cd_is_kind ct_is_kind), sl_is_kind⟩)
    (c_is_kind : PySem.W.codeIn K cd_is_kind "is_kind" = true)
    (k_is_kind : PySem.W.keepIn K (.ref f_is_kind) = true)
    (a_is_width : PySem.W.nsIn K mainGlobals "is_width" = some (some (.ref f_is_width)))
    (l_is_width : K.lookup f_is_width = some ⟨oc_is_width, od_is_width, .func (PySem.W.fnOf "is_width" "is_width" (defArgs s_is_width) (defBody s_is_width) (defScope s_is_width) .none kV_is_width dc_is_width pm_is_width an_is_width cd_is_width ct_is_width), sl_is_width⟩)
    (c_is_width : PySem.W.codeIn K cd_is_width "is_width" = true)
    (k_is_width : PySem.W.keepIn K (.ref f_is_width) = true)
    (a_allows : PySem.W.nsIn K mainGlobals "allows" = some (some (.ref f_allows)))
    (l_allows : K.lookup f_allows = some ⟨oc_allows, od_allows, .func (PySem.W.fnOf "allows" "allows" (defArgs s_allows) (defBody s_allows) (defScope s_allows) .none kV_allows dc_allows pm_allows an_allows cd_allows ct_allows), sl_allows⟩)
    (c_allows : PySem.W.codeIn K cd_allows "allows" = true)
    (k_allows : PySem.W.keepIn K (.ref f_allows) = true)
    (a_read_plain_part : PySem.W.nsIn K mainGlobals "read_plain_part" = some (some (.ref f_read_plain_part)))
    (l_read_plain_part : K.lookup f_read_plain_part = some ⟨oc_read_plain_part, od_read_plain_part, .func (PySem.W.fnOf "read_plain_part" "read_plain_part" (defArgs s_read_plain_part) (defBody s_read_plain_part) (defScope s_read_plain_part) .none kV_read_plain_part dc_read_plain_part pm_read_plain_part an_read_plain_part cd_read_plain_part ct_read_plain_part), sl_read_plain_part⟩)
    (c_read_plain_part : PySem.W.codeIn K cd_read_plain_part "read_plain_part" = true)
    (k_read_plain_part : PySem.W.keepIn K (.ref f_read_plain_part) = true)
    (a_read_part : PySem.W.nsIn K mainGlobals "read_part" = some (some (.ref f_read_part)))
    (l_read_part : K.lookup f_read_part = some ⟨oc_read_part, od_read_part, .func (PySem.W.fnOf "read_part" "read_part" (defArgs s_read_part) (defBody s_read_part) (defScope s_read_part) .none kV_read_part dc_read_part pm_read_part an_read_part cd_read_part ct_read_part), sl_read_part⟩)
    (c_read_part : PySem.W.codeIn K cd_read_part "read_part" = true)
    (k_read_part : PySem.W.keepIn K (.ref f_read_part) = true)
    (a_read_test : PySem.W.nsIn K mainGlobals "read_test" = some (some (.ref f_read_test)))
    (l_read_test : K.lookup f_read_test = some ⟨oc_read_test, od_read_test, .func (PySem.W.fnOf "read_test" "read_test" (defArgs s_read_test) (defBody s_read_test) (defScope s_read_test) .none kV_read_test dc_read_test pm_read_test an_read_test cd_read_test ct_read_test), sl_read_test⟩)
    (c_read_test : PySem.W.codeIn K cd_read_test "read_test" = true)
    (k_read_test : PySem.W.keepIn K (.ref f_read_test) = true)
    (a_names_given : PySem.W.nsIn K mainGlobals "names_given" = some (some (.ref f_names_given)))
    (l_names_given : K.lookup f_names_given = some ⟨oc_names_given, od_names_given, .func (PySem.W.fnOf "names_given" "names_given" (defArgs s_names_given) (defBody s_names_given) (defScope s_names_given) .none kV_names_given dc_names_given pm_names_given an_names_given cd_names_given ct_names_given), sl_names_given⟩)
    (c_names_given : PySem.W.codeIn K cd_names_given "names_given" = true)
    (k_names_given : PySem.W.keepIn K (.ref f_names_given) = true)
    (a_row_with_test : PySem.W.nsIn K mainGlobals "row_with_test" = some (some (.ref f_row_with_test)))
    (l_row_with_test : K.lookup f_row_with_test = some ⟨oc_row_with_test, od_row_with_test, .func (PySem.W.fnOf "row_with_test" "row_with_test" (defArgs s_row_with_test) (defBody s_row_with_test) (defScope s_row_with_test) .none kV_row_with_test dc_row_with_test pm_row_with_test an_row_with_test cd_row_with_test ct_row_with_test), sl_row_with_test⟩)
    (c_row_with_test : PySem.W.codeIn K cd_row_with_test "row_with_test" = true)
    (k_row_with_test : PySem.W.keepIn K (.ref f_row_with_test) = true)
    (a_row_of_block_word : PySem.W.nsIn K mainGlobals "row_of_block_word" = some (some (.ref f_row_of_block_word)))
    (l_row_of_block_word : K.lookup f_row_of_block_word = some ⟨oc_row_of_block_word, od_row_of_block_word, .func (PySem.W.fnOf "row_of_block_word" "row_of_block_word" (defArgs s_row_of_block_word) (defBody s_row_of_block_word) (defScope s_row_of_block_word) .none kV_row_of_block_word dc_row_of_block_word pm_row_of_block_word an_row_of_block_word cd_row_of_block_word ct_row_of_block_word), sl_row_of_block_word⟩)
    (c_row_of_block_word : PySem.W.codeIn K cd_row_of_block_word "row_of_block_word" = true)
    (k_row_of_block_word : PySem.W.keepIn K (.ref f_row_of_block_word) = true)
    (a_read_row : PySem.W.nsIn K mainGlobals "read_row" = some (some (.ref f_read_row)))
    (l_read_row : K.lookup f_read_row = some ⟨oc_read_row, od_read_row, .func (PySem.W.fnOf "read_row" "read_row" (defArgs s_read_row) (defBody s_read_row) (defScope s_read_row) .none kV_read_row dc_read_row pm_read_row an_read_row cd_read_row ct_read_row), sl_read_row⟩)
    (c_read_row : PySem.W.codeIn K cd_read_row "read_row" = true)
    (k_read_row : PySem.W.keepIn K (.ref f_read_row) = true)
    (a_blocks_behind : PySem.W.nsIn K mainGlobals "blocks_behind" = some (some (.ref f_blocks_behind)))
    (l_blocks_behind : K.lookup f_blocks_behind = some ⟨oc_blocks_behind, od_blocks_behind, .func (PySem.W.fnOf "blocks_behind" "blocks_behind" (defArgs s_blocks_behind) (defBody s_blocks_behind) (defScope s_blocks_behind) .none kV_blocks_behind dc_blocks_behind pm_blocks_behind an_blocks_behind cd_blocks_behind ct_blocks_behind), sl_blocks_behind⟩)
    (c_blocks_behind : PySem.W.codeIn K cd_blocks_behind "blocks_behind" = true)
    (k_blocks_behind : PySem.W.keepIn K (.ref f_blocks_behind) = true)
    (a_read_rows : PySem.W.nsIn K mainGlobals "read_rows" = some (some (.ref f_read_rows)))
    (l_read_rows : K.lookup f_read_rows = some ⟨oc_read_rows, od_read_rows, .func (PySem.W.fnOf "read_rows" "read_rows" (defArgs s_read_rows) (defBody s_read_rows) (defScope s_read_rows) .none kV_read_rows dc_read_rows pm_read_rows an_read_rows cd_read_rows ct_read_rows), sl_read_rows⟩)
    (c_read_rows : PySem.W.codeIn K cd_read_rows "read_rows" = true)
    (k_read_rows : PySem.W.keepIn K (.ref f_read_rows) = true)
    (a_match_blocks : PySem.W.nsIn K mainGlobals "match_blocks" = some (some (.ref f_match_blocks)))
    (l_match_blocks : K.lookup f_match_blocks = some ⟨oc_match_blocks, od_match_blocks, .func (PySem.W.fnOf "match_blocks" "match_blocks" (defArgs s_match_blocks) (defBody s_match_blocks) (defScope s_match_blocks) .none kV_match_blocks dc_match_blocks pm_match_blocks an_match_blocks cd_match_blocks ct_match_blocks), sl_match_blocks⟩)
    (c_match_blocks : PySem.W.codeIn K cd_match_blocks "match_blocks" = true)
    (k_match_blocks : PySem.W.keepIn K (.ref f_match_blocks) = true)
    (a_keeps_order : PySem.W.nsIn K mainGlobals "keeps_order" = some (some (.ref f_keeps_order)))
    (l_keeps_order : K.lookup f_keeps_order = some ⟨oc_keeps_order, od_keeps_order, .func (PySem.W.fnOf "keeps_order" "keeps_order" (defArgs s_keeps_order) (defBody s_keeps_order) (defScope s_keeps_order) .none kV_keeps_order dc_keeps_order pm_keeps_order an_keeps_order cd_keeps_order ct_keeps_order), sl_keeps_order⟩)
    (c_keeps_order : PySem.W.codeIn K cd_keeps_order "keeps_order" = true)
    (k_keeps_order : PySem.W.keepIn K (.ref f_keeps_order) = true)
    (a_way_behind : PySem.W.nsIn K mainGlobals "way_behind" = some (some (.ref f_way_behind)))
    (l_way_behind : K.lookup f_way_behind = some ⟨oc_way_behind, od_way_behind, .func (PySem.W.fnOf "way_behind" "way_behind" (defArgs s_way_behind) (defBody s_way_behind) (defScope s_way_behind) .none kV_way_behind dc_way_behind pm_way_behind an_way_behind cd_way_behind ct_way_behind), sl_way_behind⟩)
    (c_way_behind : PySem.W.codeIn K cd_way_behind "way_behind" = true)
    (k_way_behind : PySem.W.keepIn K (.ref f_way_behind) = true)
    (a_least_break : PySem.W.nsIn K mainGlobals "least_break" = some (some (.ref f_least_break)))
    (l_least_break : K.lookup f_least_break = some ⟨oc_least_break, od_least_break, .func (PySem.W.fnOf "least_break" "least_break" (defArgs s_least_break) (defBody s_least_break) (defScope s_least_break) .none kV_least_break dc_least_break pm_least_break an_least_break cd_least_break ct_least_break), sl_least_break⟩)
    (c_least_break : PySem.W.codeIn K cd_least_break "least_break" = true)
    (k_least_break : PySem.W.keepIn K (.ref f_least_break) = true)
    (a_Lbag : PySem.W.nsIn K mainGlobals "_law_bag" = some (some (.ref f_Lbag)))
    (l_Lbag : K.lookup f_Lbag = some ⟨oc_Lbag, od_Lbag, .func (PySem.W.fnOf "_law_bag" "_law_bag" (defArgs sBag) (defBody sBag) (defScope sBag) .none kV_Lbag dc_Lbag pm_Lbag an_Lbag cd_Lbag ct_Lbag), sl_Lbag⟩)
    (c_Lbag : PySem.W.codeIn K cd_Lbag "_law_bag" = true)
    (k_Lbag : PySem.W.keepIn K (.ref f_Lbag) = true)
    (a_Ldraw : PySem.W.nsIn K mainGlobals "_law_draw" = some (some (.ref f_Ldraw)))
    (l_Ldraw : K.lookup f_Ldraw = some ⟨oc_Ldraw, od_Ldraw, .func (PySem.W.fnOf "_law_draw" "_law_draw" (defArgs sDraw) (defBody sDraw) (defScope sDraw) .none kV_Ldraw dc_Ldraw pm_Ldraw an_Ldraw cd_Ldraw ct_Ldraw), sl_Ldraw⟩)
    (c_Ldraw : PySem.W.codeIn K cd_Ldraw "_law_draw" = true)
    (k_Ldraw : PySem.W.keepIn K (.ref f_Ldraw) = true)
    (a_Ltold : PySem.W.nsIn K mainGlobals "_law_told" = some (some (.ref f_Ltold)))
    (l_Ltold : K.lookup f_Ltold = some ⟨oc_Ltold, od_Ltold, .func (PySem.W.fnOf "_law_told" "_law_told" (defArgs s_Ltold) (defBody s_Ltold) (defScope s_Ltold) .none kV_Ltold dc_Ltold pm_Ltold an_Ltold cd_Ltold ct_Ltold), sl_Ltold⟩)
    (c_Ltold : PySem.W.codeIn K cd_Ltold "_law_told" = true)
    (k_Ltold : PySem.W.keepIn K (.ref f_Ltold) = true)
    (a_Llines : PySem.W.nsIn K mainGlobals "_law_lines" = some (some (.ref f_Llines)))
    (l_Llines : K.lookup f_Llines = some ⟨oc_Llines, od_Llines, .func (PySem.W.fnOf "_law_lines" "_law_lines" (defArgs s_Llines) (defBody s_Llines) (defScope s_Llines) .none kV_Llines dc_Llines pm_Llines an_Llines cd_Llines ct_Llines), sl_Llines⟩)
    (c_Llines : PySem.W.codeIn K cd_Llines "_law_lines" = true)
    (k_Llines : PySem.W.keepIn K (.ref f_Llines) = true)
    (a_Lkinds_right : PySem.W.nsIn K mainGlobals "_law_kinds_right" = some (some (.ref f_Lkinds_right)))
    (l_Lkinds_right : K.lookup f_Lkinds_right = some ⟨oc_Lkinds_right, od_Lkinds_right, .func (PySem.W.fnOf "_law_kinds_right" "_law_kinds_right" (defArgs s_Lkinds_right) (defBody s_Lkinds_right) (defScope s_Lkinds_right) .none kV_Lkinds_right dc_Lkinds_right pm_Lkinds_right an_Lkinds_right cd_Lkinds_right ct_Lkinds_right), sl_Lkinds_right⟩)
    (c_Lkinds_right : PySem.W.codeIn K cd_Lkinds_right "_law_kinds_right" = true)
    (k_Lkinds_right : PySem.W.keepIn K (.ref f_Lkinds_right) = true)
    (a_law : PySem.W.nsIn K mainGlobals "law" = some (some (.ref f_law)))
    (l_law : K.lookup f_law = some ⟨oc_law, od_law, .func (PySem.W.fnOf "law" "law" (defArgs s_law) (defBody s_law) (defScope s_law) .none kV_law dc_law pm_law an_law cd_law ct_law), sl_law⟩)
    (c_law : PySem.W.codeIn K cd_law "law" = true)
    (k_law : PySem.W.keepIn K (.ref f_law) = true)
    (aR : PySem.W.nsIn K mainGlobals "Row" = some (some (.ref CR)))
    (aRi : PySem.W.findIn K (.ref CR) "__init__" = some (some (.ref IR)))
    (lR : K.lookup IR = some ⟨ocR, odR, .func (PySem.W.fnOf "__init__" "Row.__init__" (defArgs s_Row_init) (defBody s_Row_init) (defScope s_Row_init) (.ref TD) kVR dcR pmR anR cdR ctR), slR⟩)
    (cR : PySem.W.codeIn K cdR "Row.__init__" = true)
    (kR : PySem.W.keepIn K (.ref IR) = true)
    (bR : clB K CR IR ["word", "place", "number", "test"] = true)
    (dR : dflB K TD = true)
    (aW : PySem.W.nsIn K mainGlobals "Walk" = some (some (.ref CW)))
    (uW0 : PySem.W.findIn K (.ref CW) "__init__" = some (some (.ref W0)))
    (lW0 : K.lookup W0 = some ⟨ocW0, odW0, .func (PySem.W.fnOf "__init__" "Walk.__init__" (defArgs s_Walk_init) (defBody s_Walk_init) (defScope s_Walk_init) .none kVW0 dcW0 pmW0 anW0 cdW0 ctW0), slW0⟩)
    (cW0 : PySem.W.codeIn K cdW0 "Walk.__init__" = true)
    (kW0 : PySem.W.keepIn K (.ref W0) = true)
    (bW0 : methB K CW "__init__" W0 = true)
    (uW1 : PySem.W.findIn K (.ref CW) "step" = some (some (.ref W1)))
    (lW1 : K.lookup W1 = some ⟨ocW1, odW1, .func (PySem.W.fnOf "step" "Walk.step" (defArgs s_Walk_step) (defBody s_Walk_step) (defScope s_Walk_step) .none kVW1 dcW1 pmW1 anW1 cdW1 ctW1), slW1⟩)
    (cW1 : PySem.W.codeIn K cdW1 "Walk.step" = true)
    (kW1 : PySem.W.keepIn K (.ref W1) = true)
    (bW1 : methB K CW "step" W1 = true)
    (uW4 : PySem.W.findIn K (.ref CW) "fork" = some (some (.ref W4)))
    (lW4 : K.lookup W4 = some ⟨ocW4, odW4, .func (PySem.W.fnOf "fork" "Walk.fork" (defArgs s_Walk_fork) (defBody s_Walk_fork) (defScope s_Walk_fork) .none kVW4 dcW4 pmW4 anW4 cdW4 ctW4), slW4⟩)
    (cW4 : PySem.W.codeIn K cdW4 "Walk.fork" = true)
    (kW4 : PySem.W.keepIn K (.ref W4) = true)
    (bW4 : methB K CW "fork" W4 = true)
    (uW5 : PySem.W.findIn K (.ref CW) "pass_line" = some (some (.ref W5)))
    (lW5 : K.lookup W5 = some ⟨ocW5, odW5, .func (PySem.W.fnOf "pass_line" "Walk.pass_line" (defArgs s_Walk_pass_line) (defBody s_Walk_pass_line) (defScope s_Walk_pass_line) .none kVW5 dcW5 pmW5 anW5 cdW5 ctW5), slW5⟩)
    (cW5 : PySem.W.codeIn K cdW5 "Walk.pass_line" = true)
    (kW5 : PySem.W.keepIn K (.ref W5) = true)
    (bW5 : methB K CW "pass_line" W5 = true)
    (uW6 : PySem.W.findIn K (.ref CW) "end_ways" = some (some (.ref W6)))
    (lW6 : K.lookup W6 = some ⟨ocW6, odW6, .func (PySem.W.fnOf "end_ways" "Walk.end_ways" (defArgs s_Walk_end_ways) (defBody s_Walk_end_ways) (defScope s_Walk_end_ways) .none kVW6 dcW6 pmW6 anW6 cdW6 ctW6), slW6⟩)
    (cW6 : PySem.W.codeIn K cdW6 "Walk.end_ways" = true)
    (kW6 : PySem.W.keepIn K (.ref W6) = true)
    (bW6 : methB K CW "end_ways" W6 = true)
    (bW : clB K CW W0 ["kind", "broken", "ways", "forks", "turning"] = true)
    (aY : PySem.W.nsIn K mainGlobals "Flow" = some (some (.ref CY)))
    (uY0 : PySem.W.findIn K (.ref CY) "__init__" = some (some (.ref Y0)))
    (lY0 : K.lookup Y0 = some ⟨ocY0, odY0, .func (PySem.W.fnOf "__init__" "Flow.__init__" (defArgs s_Flow_init) (defBody s_Flow_init) (defScope s_Flow_init) .none kVY0 dcY0 pmY0 anY0 cdY0 ctY0), slY0⟩)
    (cY0 : PySem.W.codeIn K cdY0 "Flow.__init__" = true)
    (kY0 : PySem.W.keepIn K (.ref Y0) = true)
    (bY0 : methB K CY "__init__" Y0 = true)
    (uY1 : PySem.W.findIn K (.ref CY) "landing" = some (some (.ref Y1)))
    (lY1 : K.lookup Y1 = some ⟨ocY1, odY1, .func (PySem.W.fnOf "landing" "Flow.landing" (defArgs s_Flow_landing) (defBody s_Flow_landing) (defScope s_Flow_landing) .none kVY1 dcY1 pmY1 anY1 cdY1 ctY1), slY1⟩)
    (cY1 : PySem.W.codeIn K cdY1 "Flow.landing" = true)
    (kY1 : PySem.W.keepIn K (.ref Y1) = true)
    (bY1 : methB K CY "landing" Y1 = true)
    (uY2 : PySem.W.findIn K (.ref CY) "way_past" = some (some (.ref Y2)))
    (lY2 : K.lookup Y2 = some ⟨ocY2, odY2, .func (PySem.W.fnOf "way_past" "Flow.way_past" (defArgs s_Flow_way_past) (defBody s_Flow_way_past) (defScope s_Flow_way_past) .none kVY2 dcY2 pmY2 anY2 cdY2 ctY2), slY2⟩)
    (cY2 : PySem.W.codeIn K cdY2 "Flow.way_past" = true)
    (kY2 : PySem.W.keepIn K (.ref Y2) = true)
    (bY2 : methB K CY "way_past" Y2 = true)
    (uY3 : PySem.W.findIn K (.ref CY) "find_loops" = some (some (.ref Y3)))
    (lY3 : K.lookup Y3 = some ⟨ocY3, odY3, .func (PySem.W.fnOf "find_loops" "Flow.find_loops" (defArgs s_Flow_find_loops) (defBody s_Flow_find_loops) (defScope s_Flow_find_loops) .none kVY3 dcY3 pmY3 anY3 cdY3 ctY3), slY3⟩)
    (cY3 : PySem.W.codeIn K cdY3 "Flow.find_loops" = true)
    (kY3 : PySem.W.keepIn K (.ref Y3) = true)
    (bY3 : methB K CY "find_loops" Y3 = true)
    (bY : clB K CY Y0 ["rows", "size", "heads", "ends", "after", "other", "loop_of"] = true)
    (aZ : PySem.W.nsIn K mainGlobals "Code" = some (some (.ref CZ)))
    (uZ0 : PySem.W.findIn K (.ref CZ) "__init__" = some (some (.ref Z0)))
    (lZ0 : K.lookup Z0 = some ⟨ocZ0, odZ0, .func (PySem.W.fnOf "__init__" "Code.__init__" (defArgs s_Code_init) (defBody s_Code_init) (defScope s_Code_init) .none kVZ0 dcZ0 pmZ0 anZ0 cdZ0 ctZ0), slZ0⟩)
    (cZ0 : PySem.W.codeIn K cdZ0 "Code.__init__" = true)
    (kZ0 : PySem.W.keepIn K (.ref Z0) = true)
    (bZ0 : methB K CZ "__init__" Z0 = true)
    (uZ1 : PySem.W.findIn K (.ref CZ) "__len__" = some (some (.ref Z1)))
    (lZ1 : K.lookup Z1 = some ⟨ocZ1, odZ1, .func (PySem.W.fnOf "__len__" "Code.__len__" (defArgs s_Code_len) (defBody s_Code_len) (defScope s_Code_len) .none kVZ1 dcZ1 pmZ1 anZ1 cdZ1 ctZ1), slZ1⟩)
    (cZ1 : PySem.W.codeIn K cdZ1 "Code.__len__" = true)
    (kZ1 : PySem.W.keepIn K (.ref Z1) = true)
    (bZ1 : methB K CZ "__len__" Z1 = true)
    (uZ2 : PySem.W.findIn K (.ref CZ) "__getitem__" = some (some (.ref Z2)))
    (lZ2 : K.lookup Z2 = some ⟨ocZ2, odZ2, .func (PySem.W.fnOf "__getitem__" "Code.__getitem__" (defArgs s_Code_getitem) (defBody s_Code_getitem) (defScope s_Code_getitem) .none kVZ2 dcZ2 pmZ2 anZ2 cdZ2 ctZ2), slZ2⟩)
    (cZ2 : PySem.W.codeIn K cdZ2 "Code.__getitem__" = true)
    (kZ2 : PySem.W.keepIn K (.ref Z2) = true)
    (bZ2 : methB K CZ "__getitem__" Z2 = true)
    (uZ4 : PySem.W.findIn K (.ref CZ) "__eq__" = some (some (.ref Z4)))
    (lZ4 : K.lookup Z4 = some ⟨ocZ4, odZ4, .func (PySem.W.fnOf "__eq__" "Code.__eq__" (defArgs s_Code_eq) (defBody s_Code_eq) (defScope s_Code_eq) .none kVZ4 dcZ4 pmZ4 anZ4 cdZ4 ctZ4), slZ4⟩)
    (cZ4 : PySem.W.codeIn K cdZ4 "Code.__eq__" = true)
    (kZ4 : PySem.W.keepIn K (.ref Z4) = true)
    (bZ4 : methB K CZ "__eq__" Z4 = true)
    (uZ5 : PySem.W.findIn K (.ref CZ) "as_kind" = some (some (.ref Z5)))
    (lZ5 : K.lookup Z5 = some ⟨ocZ5, odZ5, .func (PySem.W.fnOf "as_kind" "Code.as_kind" (defArgs s_Code_as_kind) (defBody s_Code_as_kind) (defScope s_Code_as_kind) .none kVZ5 dcZ5 pmZ5 anZ5 cdZ5 ctZ5), slZ5⟩)
    (cZ5 : PySem.W.codeIn K cdZ5 "Code.as_kind" = true)
    (kZ5 : PySem.W.keepIn K (.ref Z5) = true)
    (bZ5 : methB K CZ "as_kind" Z5 = true)
    (bZ : clB K CZ Z0 ["kind", "width", "text", "flow", "memory", "_lines"] = true)
    (bCd : codeB K CZ = true)
    (aB : PySem.W.nsIn K mainGlobals "HeapError" = some (some (.ref D)))
    (rB : PySem.W.readsIn K D (.type "type") = true)
    (gB : PySem.W.specialIn K (.ref D) "__getattribute__" = some (some (.builtin "type.__getattribute__")))
    (fB : PySem.W.findCls K (.ref D) (.type "type") "__init__" = some (.val (.builtin "ValueError.__init__")))
    (z_int : PySem.W.nsIn K mainGlobals "int" = some none)
    (z_list : PySem.W.nsIn K mainGlobals "list" = some none)
    (z_len : PySem.W.nsIn K mainGlobals "len" = some none)
    (z_isinstance : PySem.W.nsIn K mainGlobals "isinstance" = some none)
    (z_range : PySem.W.nsIn K mainGlobals "range" = some none)
    (z_str : PySem.W.nsIn K mainGlobals "str" = some none)
    (z_tuple : PySem.W.nsIn K mainGlobals "tuple" = some none)
    (z_any : PySem.W.nsIn K mainGlobals "any" = some none)
    (z_enumerate : PySem.W.nsIn K mainGlobals "enumerate" = some none)
    (z_min : PySem.W.nsIn K mainGlobals "min" = some none)
    (pB : pairsB K D [C0, C1, C2, C3, C4] = true)
    (p2 : decide (PySem.W.kitAny K (.ref C2) [.ref C2, .ref C3] = some true) = true)
    (aKINDS : PySem.W.nsIn K mainGlobals "KINDS" = some (some (.ref tKINDS)))
    (bKINDS : tupB K tKINDS kindsV = true)
    (aWIDTHS : PySem.W.nsIn K mainGlobals "WIDTHS" = some (some (.ref tWIDTHS)))
    (bWIDTHS : tupB K tWIDTHS widthsV = true)
    (aGIVEN : PySem.W.nsIn K mainGlobals "GIVEN" = some (some (.ref tGIVEN)))
    (bGIVEN : tupB K tGIVEN [.str "given", .int 0] = true)
    (aLOOPS : PySem.W.nsIn K mainGlobals "LOOPS" = some (some (.ref tLOOPS)))
    (bLOOPS : tupB K tLOOPS loopsV = true)
    (aTOP_WORDS : PySem.W.nsIn K mainGlobals "TOP_WORDS" = some (some (.ref tTOP_WORDS)))
    (bTOP_WORDS : tupB K tTOP_WORDS topV = true)
    (aONCE : PySem.W.nsIn K mainGlobals "ONCE" = some (some (.ref tONCE)))
    (bONCE : tupB K tONCE onceV = true)
    (aAHEAD_OF_LOOPS : PySem.W.nsIn K mainGlobals "AHEAD_OF_LOOPS" = some (some (.ref tAHEAD_OF_LOOPS)))
    (bAHEAD_OF_LOOPS : tupB K tAHEAD_OF_LOOPS aheadV = true)
    (aFRESH : PySem.W.nsIn K mainGlobals "FRESH" = some (some (.ref tF)))
    (bFRESH : wayB K tF = true)
    (a60 : PySem.W.nsIn K mainGlobals "MOST_LINES" = some (some (.int 60 tk60)))
    (aA : PySem.W.nsIn K mainGlobals "ALLOWED" = some (some (.ref dA)))
    (lA : K.lookup dA = some ⟨.type "dict", none, .dict esA nA, #[]⟩)
    (kA : PySem.W.KeysLit w.params esA.toList)
    (sA : (dA == sysModules) = false)
    (n_tell : PySem.W.nsIn K dA "tell" = some none)
    (n_grab : PySem.W.nsIn K dA "grab" = some none)
    (n_note : PySem.W.nsIn K dA "note" = some none)
    (n_quit : PySem.W.nsIn K dA "quit" = some none)
    : ∃ fd : FuncData, (∀ (s : Shared) (v : Value), BindsTo s fd ⟨[v], []⟩ [("_law_script", v)]) ∧ ∀ base : Heap, K.In base → base.Ns mainGlobals mg → FnOk P w K mg base CX0 11 fa fd ["_law_script"] (spLaw K) := by
  have e := hfa.symm.trans (PySem.W.mg_of X G a_law)
  cases e
  have F_is_kind := fun_mk (st := s_is_kind) l_is_kind c_is_kind k_is_kind
  have b_is_kind := F_is_kind.binds (ps := ["value"]) fun _ _ _ _ _ _ us hl => match us, hl with | [_], _ => rfl
  have m_is_kind := PySem.W.mg_of X G a_is_kind
  have T_is_kind : FT K mg "is_kind" s_is_kind ["value"] f_is_kind := ⟨m_is_kind, _, F_is_kind, b_is_kind⟩
  have F_is_width := fun_mk (st := s_is_width) l_is_width c_is_width k_is_width
  have b_is_width := F_is_width.binds (ps := ["value"]) fun _ _ _ _ _ _ us hl => match us, hl with | [_], _ => rfl
  have m_is_width := PySem.W.mg_of X G a_is_width
  have T_is_width : FT K mg "is_width" s_is_width ["value"] f_is_width := ⟨m_is_width, _, F_is_width, b_is_width⟩
  have F_allows := fun_mk (st := s_allows) l_allows c_allows k_allows
  have b_allows := F_allows.binds (ps := ["kind", "word"]) fun _ _ _ _ _ _ us hl => match us, hl with | [_, _], _ => rfl
  have m_allows := PySem.W.mg_of X G a_allows
  have T_allows : FT K mg "allows" s_allows ["kind", "word"] f_allows := ⟨m_allows, _, F_allows, b_allows⟩
  have F_read_plain_part := fun_mk (st := s_read_plain_part) l_read_plain_part c_read_plain_part k_read_plain_part
  have b_read_plain_part := F_read_plain_part.binds (ps := ["text", "place", "width"]) fun _ _ _ _ _ _ us hl => match us, hl with | [_, _, _], _ => rfl
  have m_read_plain_part := PySem.W.mg_of X G a_read_plain_part
  have T_read_plain_part : FT K mg "read_plain_part" s_read_plain_part ["text", "place", "width"] f_read_plain_part := ⟨m_read_plain_part, _, F_read_plain_part, b_read_plain_part⟩
  have F_read_part := fun_mk (st := s_read_part) l_read_part c_read_part k_read_part
  have b_read_part := F_read_part.binds (ps := ["text", "place", "width"]) fun _ _ _ _ _ _ us hl => match us, hl with | [_, _, _], _ => rfl
  have m_read_part := PySem.W.mg_of X G a_read_part
  have T_read_part : FT K mg "read_part" s_read_part ["text", "place", "width"] f_read_part := ⟨m_read_part, _, F_read_part, b_read_part⟩
  have F_read_test := fun_mk (st := s_read_test) l_read_test c_read_test k_read_test
  have b_read_test := F_read_test.binds (ps := ["text", "place", "width"]) fun _ _ _ _ _ _ us hl => match us, hl with | [_, _, _], _ => rfl
  have m_read_test := PySem.W.mg_of X G a_read_test
  have T_read_test : FT K mg "read_test" s_read_test ["text", "place", "width"] f_read_test := ⟨m_read_test, _, F_read_test, b_read_test⟩
  have F_names_given := fun_mk (st := s_names_given) l_names_given c_names_given k_names_given
  have b_names_given := F_names_given.binds (ps := ["test"]) fun _ _ _ _ _ _ us hl => match us, hl with | [_], _ => rfl
  have m_names_given := PySem.W.mg_of X G a_names_given
  have T_names_given : FT K mg "names_given" s_names_given ["test"] f_names_given := ⟨m_names_given, _, F_names_given, b_names_given⟩
  have F_row_with_test := fun_mk (st := s_row_with_test) l_row_with_test c_row_with_test k_row_with_test
  have b_row_with_test := F_row_with_test.binds (ps := ["word", "place", "text", "width"]) fun _ _ _ _ _ _ us hl => match us, hl with | [_, _, _, _], _ => rfl
  have m_row_with_test := PySem.W.mg_of X G a_row_with_test
  have T_row_with_test : FT K mg "row_with_test" s_row_with_test ["word", "place", "text", "width"] f_row_with_test := ⟨m_row_with_test, _, F_row_with_test, b_row_with_test⟩
  have F_row_of_block_word := fun_mk (st := s_row_of_block_word) l_row_of_block_word c_row_of_block_word k_row_of_block_word
  have b_row_of_block_word := F_row_of_block_word.binds (ps := ["word", "place", "opened"]) fun _ _ _ _ _ _ us hl => match us, hl with | [_, _, _], _ => rfl
  have m_row_of_block_word := PySem.W.mg_of X G a_row_of_block_word
  have T_row_of_block_word : FT K mg "row_of_block_word" s_row_of_block_word ["word", "place", "opened"] f_row_of_block_word := ⟨m_row_of_block_word, _, F_row_of_block_word, b_row_of_block_word⟩
  have F_read_row := fun_mk (st := s_read_row) l_read_row c_read_row k_read_row
  have b_read_row := F_read_row.binds (ps := ["line", "opened", "width"]) fun _ _ _ _ _ _ us hl => match us, hl with | [_, _, _], _ => rfl
  have m_read_row := PySem.W.mg_of X G a_read_row
  have T_read_row : FT K mg "read_row" s_read_row ["line", "opened", "width"] f_read_row := ⟨m_read_row, _, F_read_row, b_read_row⟩
  have F_blocks_behind := fun_mk (st := s_blocks_behind) l_blocks_behind c_blocks_behind k_blocks_behind
  have b_blocks_behind := F_blocks_behind.binds (ps := ["word", "opened"]) fun _ _ _ _ _ _ us hl => match us, hl with | [_, _], _ => rfl
  have m_blocks_behind := PySem.W.mg_of X G a_blocks_behind
  have T_blocks_behind : FT K mg "blocks_behind" s_blocks_behind ["word", "opened"] f_blocks_behind := ⟨m_blocks_behind, _, F_blocks_behind, b_blocks_behind⟩
  have F_read_rows := fun_mk (st := s_read_rows) l_read_rows c_read_rows k_read_rows
  have b_read_rows := F_read_rows.binds (ps := ["lines", "width"]) fun _ _ _ _ _ _ us hl => match us, hl with | [_, _], _ => rfl
  have m_read_rows := PySem.W.mg_of X G a_read_rows
  have T_read_rows : FT K mg "read_rows" s_read_rows ["lines", "width"] f_read_rows := ⟨m_read_rows, _, F_read_rows, b_read_rows⟩
  have F_match_blocks := fun_mk (st := s_match_blocks) l_match_blocks c_match_blocks k_match_blocks
  have b_match_blocks := F_match_blocks.binds (ps := ["rows"]) fun _ _ _ _ _ _ us hl => match us, hl with | [_], _ => rfl
  have m_match_blocks := PySem.W.mg_of X G a_match_blocks
  have T_match_blocks : FT K mg "match_blocks" s_match_blocks ["rows"] f_match_blocks := ⟨m_match_blocks, _, F_match_blocks, b_match_blocks⟩
  have F_keeps_order := fun_mk (st := s_keeps_order) l_keeps_order c_keeps_order k_keeps_order
  have b_keeps_order := F_keeps_order.binds (ps := ["way", "word"]) fun _ _ _ _ _ _ us hl => match us, hl with | [_, _], _ => rfl
  have m_keeps_order := PySem.W.mg_of X G a_keeps_order
  have T_keeps_order : FT K mg "keeps_order" s_keeps_order ["way", "word"] f_keeps_order := ⟨m_keeps_order, _, F_keeps_order, b_keeps_order⟩
  have F_way_behind := fun_mk (st := s_way_behind) l_way_behind c_way_behind k_way_behind
  have b_way_behind := F_way_behind.binds (ps := ["way", "line", "word"]) fun _ _ _ _ _ _ us hl => match us, hl with | [_, _, _], _ => rfl
  have m_way_behind := PySem.W.mg_of X G a_way_behind
  have T_way_behind : FT K mg "way_behind" s_way_behind ["way", "line", "word"] f_way_behind := ⟨m_way_behind, _, F_way_behind, b_way_behind⟩
  have F_least_break := fun_mk (st := s_least_break) l_least_break c_least_break k_least_break
  have b_least_break := F_least_break.binds (ps := ["kind", "rows"]) fun _ _ _ _ _ _ us hl => match us, hl with | [_, _], _ => rfl
  have m_least_break := PySem.W.mg_of X G a_least_break
  have T_least_break : FT K mg "least_break" s_least_break ["kind", "rows"] f_least_break := ⟨m_least_break, _, F_least_break, b_least_break⟩
  have F_Lbag := fun_mk (st := sBag) l_Lbag c_Lbag k_Lbag
  have b_Lbag := F_Lbag.binds (ps := ["_law_script"]) fun _ _ _ _ _ _ us hl => match us, hl with | [_], _ => rfl
  have m_Lbag := PySem.W.mg_of X G a_Lbag
  have T_Lbag : FT K mg "_law_bag" sBag ["_law_script"] f_Lbag := ⟨m_Lbag, _, F_Lbag, b_Lbag⟩
  have F_Ldraw := fun_mk (st := sDraw) l_Ldraw c_Ldraw k_Ldraw
  have b_Ldraw := F_Ldraw.binds (ps := ["_law_bag_here", "_law_limit"]) fun _ _ _ _ _ _ us hl => match us, hl with | [_, _], _ => rfl
  have m_Ldraw := PySem.W.mg_of X G a_Ldraw
  have T_Ldraw : FT K mg "_law_draw" sDraw ["_law_bag_here", "_law_limit"] f_Ldraw := ⟨m_Ldraw, _, F_Ldraw, b_Ldraw⟩
  have F_Ltold := fun_mk (st := s_Ltold) l_Ltold c_Ltold k_Ltold
  have b_Ltold := F_Ltold.binds (ps := ["_law_kind", "_law_width", "_law_text"]) fun _ _ _ _ _ _ us hl => match us, hl with | [_, _, _], _ => rfl
  have m_Ltold := PySem.W.mg_of X G a_Ltold
  have T_Ltold : FT K mg "_law_told" s_Ltold ["_law_kind", "_law_width", "_law_text"] f_Ltold := ⟨m_Ltold, _, F_Ltold, b_Ltold⟩
  have F_Llines := fun_mk (st := s_Llines) l_Llines c_Llines k_Llines
  have b_Llines := F_Llines.binds (ps := ["_law_bag_here"]) fun _ _ _ _ _ _ us hl => match us, hl with | [_], _ => rfl
  have m_Llines := PySem.W.mg_of X G a_Llines
  have T_Llines : FT K mg "_law_lines" s_Llines ["_law_bag_here"] f_Llines := ⟨m_Llines, _, F_Llines, b_Llines⟩
  have F_Lkinds_right := fun_mk (st := s_Lkinds_right) l_Lkinds_right c_Lkinds_right k_Lkinds_right
  have b_Lkinds_right := F_Lkinds_right.binds (ps := ["_law_code", "_law_lines_here"]) fun _ _ _ _ _ _ us hl => match us, hl with | [_, _], _ => rfl
  have m_Lkinds_right := PySem.W.mg_of X G a_Lkinds_right
  have T_Lkinds_right : FT K mg "_law_kinds_right" s_Lkinds_right ["_law_code", "_law_lines_here"] f_Lkinds_right := ⟨m_Lkinds_right, _, F_Lkinds_right, b_Lkinds_right⟩
  have F_law := fun_mk (st := s_law) l_law c_law k_law
  have b_law := F_law.binds (ps := ["_law_script"]) fun _ _ _ _ _ _ us hl => match us, hl with | [_], _ => rfl
  have m_law := PySem.W.mg_of X G a_law
  have y_int := PySem.W.mg_none_of X G z_int
  have y_list := PySem.W.mg_none_of X G z_list
  have y_len := PySem.W.mg_none_of X G z_len
  have y_isinstance := PySem.W.mg_none_of X G z_isinstance
  have y_range := PySem.W.mg_none_of X G z_range
  have y_str := PySem.W.mg_none_of X G z_str
  have y_tuple := PySem.W.mg_none_of X G z_tuple
  have y_any := PySem.W.mg_none_of X G z_any
  have y_enumerate := PySem.W.mg_none_of X G z_enumerate
  have y_min := PySem.W.mg_none_of X G z_min
  have B : BltT mg := ⟨y_int, y_list, y_len⟩
  have T0 : ClT K mg "BadKind" "BadKind.__init__" iBadKind ["self", "kind"] ["kind"] C0 I0 := cl_mk X G aC0 xL0 lI0 cI0 kI0 (fun _ _ _ _ _ _ us hl => match us, hl with | [_, _], _ => rfl) bC0
  have T1 : ClT K mg "BadWidth" "BadWidth.__init__" iBadWidth ["self", "width"] ["width"] C1 I1 := cl_mk X G aC1 xL1 lI1 cI1 kI1 (fun _ _ _ _ _ _ us hl => match us, hl with | [_, _], _ => rfl) bC1
  have T2 : ClT K mg "BadLine" "BadLine.__init__" iBadLine ["self", "line"] ["line"] C2 I2 := cl_mk X G aC2 xL2 lI2 cI2 kI2 (fun _ _ _ _ _ _ us hl => match us, hl with | [_, _], _ => rfl) bC2
  have T3 : ClT K mg "Refused" "Refused.__init__" iRefused ["self", "line"] ["line"] C3 I3 := cl_mk X G aC3 xL3 lI3 cI3 kI3 (fun _ _ _ _ _ _ us hl => match us, hl with | [_, _], _ => rfl) bC3
  have T4 : ClT K mg "TooMany" "TooMany.__init__" iTooMany ["self", "what", "many", "most"] ["what", "many", "most"] C4 I4 := cl_mk X G aC4 xL4 lI4 cI4 kI4 (fun _ _ _ _ _ _ us hl => match us, hl with | [_, _, _, _], _ => rfl) bC4
  have ET : ErrT K mg D (fun i => [C0, C1, C2, C3, C4].getD i 0) (fun i => [I0, I1, I2, I3, I4].getD i 0) := ⟨⟨PySem.W.mg_of X G aB, ⟨rB, gB⟩, fB⟩, T0, T1, T2, T3, T4⟩
  have KT : KitT K D (fun i => [C0, C1, C2, C3, C4].getD i 0) := ⟨fun j k hj hk => ((pairs_of pB (j := j) hj).2.2 k hk).2, fun j hj => (pairs_of pB (j := j) hj).1, ((pairs_of pB (j := 0) (by show 0 < 5; decide)).2.2 0 (by show 0 < 5; decide)).1, of_decide_eq_true p2⟩
  obtain ⟨tt, hD⟩ := dfl_of dR
  have FR := fund_mk (st := s_Row_init) lR cR kR hD
  obtain ⟨rmak, rcl, rnf⟩ := cl_of bR
  have R : RowT K mg CR IR tt := ⟨PySem.W.mg_of X G aR, rmak, rcl, rnf _ (by simp), rnf _ (by simp), rnf _ (by simp), rnf _ (by simp), _, FR⟩
  have FW0 := fun_mk (st := s_Walk_init) lW0 cW0 kW0
  have qW0 := FW0.binds (ps := ["self", "kind"]) fun _ _ _ _ _ _ us hl => match us, hl with | [_, _], _ => rfl
  obtain ⟨eW0, nW0⟩ := meth_of bW0
  have FW1 := fun_mk (st := s_Walk_step) lW1 cW1 kW1
  have qW1 := FW1.binds (ps := ["self", "line", "row"]) fun _ _ _ _ _ _ us hl => match us, hl with | [_, _, _], _ => rfl
  obtain ⟨eW1, nW1⟩ := meth_of bW1
  have FW4 := fun_mk (st := s_Walk_fork) lW4 cW4 kW4
  have qW4 := FW4.binds (ps := ["self", "line", "row"]) fun _ _ _ _ _ _ us hl => match us, hl with | [_, _, _], _ => rfl
  obtain ⟨eW4, nW4⟩ := meth_of bW4
  have FW5 := fun_mk (st := s_Walk_pass_line) lW5 cW5 kW5
  have qW5 := FW5.binds (ps := ["self", "line", "word"]) fun _ _ _ _ _ _ us hl => match us, hl with | [_, _, _], _ => rfl
  obtain ⟨eW5, nW5⟩ := meth_of bW5
  have FW6 := fun_mk (st := s_Walk_end_ways) lW6 cW6 kW6
  have qW6 := FW6.binds (ps := ["self"]) fun _ _ _ _ _ _ us hl => match us, hl with | [_], _ => rfl
  obtain ⟨eW6, nW6⟩ := meth_of bW6
  obtain ⟨makW, clW, nfW⟩ := cl_of bW
  have FY0 := fun_mk (st := s_Flow_init) lY0 cY0 kY0
  have qY0 := FY0.binds (ps := ["self", "rows"]) fun _ _ _ _ _ _ us hl => match us, hl with | [_, _], _ => rfl
  obtain ⟨eY0, nY0⟩ := meth_of bY0
  have FY1 := fun_mk (st := s_Flow_landing) lY1 cY1 kY1
  have qY1 := FY1.binds (ps := ["self", "at"]) fun _ _ _ _ _ _ us hl => match us, hl with | [_, _], _ => rfl
  obtain ⟨eY1, nY1⟩ := meth_of bY1
  have FY2 := fun_mk (st := s_Flow_way_past) lY2 cY2 kY2
  have qY2 := FY2.binds (ps := ["self", "at"]) fun _ _ _ _ _ _ us hl => match us, hl with | [_, _], _ => rfl
  obtain ⟨eY2, nY2⟩ := meth_of bY2
  have FY3 := fun_mk (st := s_Flow_find_loops) lY3 cY3 kY3
  have qY3 := FY3.binds (ps := ["self"]) fun _ _ _ _ _ _ us hl => match us, hl with | [_], _ => rfl
  obtain ⟨eY3, nY3⟩ := meth_of bY3
  obtain ⟨makY, clY, nfY⟩ := cl_of bY
  have FZ0 := fun_mk (st := s_Code_init) lZ0 cZ0 kZ0
  have qZ0 := FZ0.binds (ps := ["self", "kind", "width", "text"]) fun _ _ _ _ _ _ us hl => match us, hl with | [_, _, _, _], _ => rfl
  obtain ⟨eZ0, nZ0⟩ := meth_of bZ0
  have FZ1 := fun_mk (st := s_Code_len) lZ1 cZ1 kZ1
  have qZ1 := FZ1.binds (ps := ["self"]) fun _ _ _ _ _ _ us hl => match us, hl with | [_], _ => rfl
  obtain ⟨eZ1, nZ1⟩ := meth_of bZ1
  have FZ2 := fun_mk (st := s_Code_getitem) lZ2 cZ2 kZ2
  have qZ2 := FZ2.binds (ps := ["self", "at"]) fun _ _ _ _ _ _ us hl => match us, hl with | [_, _], _ => rfl
  obtain ⟨eZ2, nZ2⟩ := meth_of bZ2
  have FZ4 := fun_mk (st := s_Code_eq) lZ4 cZ4 kZ4
  have qZ4 := FZ4.binds (ps := ["self", "other"]) fun _ _ _ _ _ _ us hl => match us, hl with | [_, _], _ => rfl
  obtain ⟨eZ4, nZ4⟩ := meth_of bZ4
  have FZ5 := fun_mk (st := s_Code_as_kind) lZ5 cZ5 kZ5
  have qZ5 := FZ5.binds (ps := ["self", "kind"]) fun _ _ _ _ _ _ us hl => match us, hl with | [_, _], _ => rfl
  obtain ⟨eZ5, nZ5⟩ := meth_of bZ5
  obtain ⟨makZ, clZ, nfZ⟩ := cl_of bZ
  have W : WalkT K mg CW (fun i => [W0, W1, 0, 0, W4, W5, W6].getD i 0) := ⟨PySem.W.mg_of X G aW, makW, clW, nfW _ (by simp), nfW _ (by simp), nfW _ (by simp), nfW _ (by simp), nfW _ (by simp), ⟨_, FW0, qW0⟩, ⟨eW1, _, FW1, qW1⟩, ⟨eW4, _, FW4, qW4⟩, ⟨eW5, _, FW5, qW5⟩, ⟨eW6, _, FW6, qW6⟩⟩
  obtain ⟨x1, x2, x3, x4, x5, x6, x7, x8⟩ := code_of bCd
  have FY : FlowT K mg CY (fun i => [Y0, Y1, Y2, Y3].getD i 0) := ⟨PySem.W.mg_of X G aY, makY, clY, nfY _ (by simp), nfY _ (by simp), nfY _ (by simp), nfY _ (by simp), nfY _ (by simp), nfY _ (by simp), nfY _ (by simp), ⟨_, FY0, qY0⟩, ⟨eY1, _, FY1, qY1⟩, ⟨eY2, _, FY2, qY2⟩, ⟨eY3, _, FY3, qY3⟩⟩
  have CT : CodeT K mg CZ (fun i => [Z0, Z1, Z2, 0, Z4, Z5].getD i 0) := ⟨PySem.W.mg_of X G aZ, makZ, clZ, nfZ _ (by simp), nfZ _ (by simp), nfZ _ (by simp), nfZ _ (by simp), nfZ _ (by simp), nfZ _ (by simp), ⟨_, FZ0, qZ0⟩, ⟨_, FZ1, qZ1⟩, ⟨_, FZ2, qZ2⟩, ⟨_, FZ4, qZ4⟩, ⟨eZ5, _, FZ5, qZ5⟩, nZ1, nZ2, nZ4, x1, x2, x3, x4, x5, x6, x7, x8⟩
  have t_KINDS : TupT K mg "KINDS" tKINDS kindsV := ⟨PySem.W.mg_of X G aKINDS, tup_of bKINDS⟩
  have t_WIDTHS : TupT K mg "WIDTHS" tWIDTHS widthsV := ⟨PySem.W.mg_of X G aWIDTHS, tup_of bWIDTHS⟩
  have t_GIVEN : TupT K mg "GIVEN" tGIVEN [.str "given", .int 0] := ⟨PySem.W.mg_of X G aGIVEN, tup_of bGIVEN⟩
  have t_LOOPS : TupT K mg "LOOPS" tLOOPS loopsV := ⟨PySem.W.mg_of X G aLOOPS, tup_of bLOOPS⟩
  have t_TOP_WORDS : TupT K mg "TOP_WORDS" tTOP_WORDS topV := ⟨PySem.W.mg_of X G aTOP_WORDS, tup_of bTOP_WORDS⟩
  have t_ONCE : TupT K mg "ONCE" tONCE onceV := ⟨PySem.W.mg_of X G aONCE, tup_of bONCE⟩
  have t_AHEAD_OF_LOOPS : TupT K mg "AHEAD_OF_LOOPS" tAHEAD_OF_LOOPS aheadV := ⟨PySem.W.mg_of X G aAHEAD_OF_LOOPS, tup_of bAHEAD_OF_LOOPS⟩
  have cF : FreshT K mg tF := ⟨PySem.W.mg_of X G aFRESH, way_of bFRESH⟩
  have cA : AllT K w mg dA := ⟨PySem.W.mg_of X G aA, ⟨_, _, lA, kA, sA⟩, fun x hx => ?al⟩
  case al =>
    rcases free_cases hx with rfl | rfl | rfl | rfl
    · exact n_tell
    · exact n_grab
    · exact n_note
    · exact n_quit
  refine ⟨PySem.W.fnOf "law" "law" (defArgs s_law) (defBody s_law) (defScope s_law) .none kV_law dc_law pm_law an_law cd_law ct_law, fun s v => .of_eq rfl, fun base _ _ => ?_⟩
  obtain ⟨d1, F1, b1, G1⟩ := ok_is_kind (P := P) (w := w) (base := base) T_is_kind y_isinstance y_str t_KINDS
  obtain ⟨d2, F2, b2, G2⟩ := ok_is_width (P := P) (w := w) (base := base) T_is_width y_isinstance y_int t_WIDTHS
  obtain ⟨d3, F3, b3, G3⟩ := ok_allows (P := P) (w := w) (base := base) T_allows cA
  obtain ⟨d4, F4, b4, G4⟩ := ok_test (P := P) (w := w) (base := base) T_read_test T_read_part T_read_plain_part y_tuple
  obtain ⟨d5, F5, b5, G5⟩ := ok_names (P := P) (w := w) (base := base) T_names_given t_GIVEN y_any
  obtain ⟨d6, F6, b6, G6⟩ := ok_rowTest (P := P) (w := w) (base := base) T_row_with_test F4 b4 m_read_test G4 R
  obtain ⟨d7, F7, b7, G7⟩ := ok_block (P := P) (w := w) (base := base) T_row_of_block_word R
  obtain ⟨d8, F8, b8, G8⟩ := ok_read_row (P := P) (w := w) (base := base) T_read_row F6 b6 m_row_with_test G6 F7 b7 m_row_of_block_word G7 R t_LOOPS t_TOP_WORDS
  obtain ⟨d9, F9, b9, G9⟩ := ok_blocks (P := P) (w := w) (base := base) T_blocks_behind t_LOOPS
  obtain ⟨d10, F10, b10, G10⟩ := ok_read_rows (P := P) (w := w) (base := base) T_read_rows ET R y_enumerate F8 b8 m_read_row G8 F9 b9 m_blocks_behind G9
  obtain ⟨d11, F11, b11, G11⟩ := ok_keeps (P := P) (w := w) (base := base) T_keeps_order t_AHEAD_OF_LOOPS
  obtain ⟨d12, F12, b12, G12⟩ := ok_behind (P := P) (w := w) (base := base) T_way_behind t_ONCE y_tuple
  obtain ⟨d13, F13, b13, G13⟩ := ok_pass (P := P) (w := w) (base := base) W y_list F3 b3 m_allows G3 F11 b11 m_keeps_order G11 F12 b12 m_way_behind G12
  obtain ⟨d14, F14, b14, G14⟩ := ok_fork (P := P) (w := w) (base := base) W R y_list F5 b5 m_names_given G5
  obtain ⟨d15, F15, b15, G15⟩ := ok_step (P := P) (w := w) (base := base) W R t_LOOPS F14 b14 G14 F13 b13 G13
  obtain ⟨d16, F16, b16, G16⟩ := ok_least (P := P) (w := w) (base := base) T_least_break W R cF y_list y_enumerate y_min F15 b15 G15
  obtain ⟨dM, FM, bM, GM⟩ := ok_mb (P := P) (w := w) (base := base) T_match_blocks R t_LOOPS y_enumerate
  obtain ⟨dY, FYi, bYi, GYi⟩ := ok_Flow (P := P) (w := w) (base := base) FY R t_LOOPS y_range y_len y_tuple FM bM m_match_blocks GM
  obtain ⟨d17, F17, b17, G17⟩ := ok_Code (P := P) (w := w) (base := base) FY FYi bYi CT ET y_len y_tuple GYi (PySem.W.mg_of X G a60) ⟨_, rfl⟩ F1 b1 m_is_kind G1 F2 b2 m_is_width G2 F10 b10 m_read_rows G10 F16 b16 m_least_break G16
  obtain ⟨d18, F18, b18, G18⟩ := ok_as (P := P) (w := w) (base := base) CT F17 b17 G17
  obtain ⟨d19, F19, b19, G19⟩ := ok_told (P := P) (w := w) (base := base) T_Ltold CT ET KT y_isinstance y_len F17 b17 G17
  obtain ⟨d20, F20, b20, G20⟩ := ok_lines (P := P) (w := w) (base := base) T_Llines y_range B F_Ldraw b_Ldraw m_Ldraw
  obtain ⟨d21, F21, b21, G21⟩ := ok_right (P := P) (w := w) (base := base) T_Lkinds_right CT ET KT y_isinstance y_len F18 b18 G18
  exact ok_law F_law B y_range y_isinstance CT F_Lbag b_Lbag m_Lbag F_Ldraw b_Ldraw m_Ldraw F19 b19 m_Ltold G19 F20 b20 m_Llines G20 F21 b21 m_Lkinds_right G21 F17 b17 G17
theorem walk {l : PySem.W.OpenLaw} {q : Program} {loose : List Str} {XP : (Str → Option Value) → Heap → Prop} {YP : World → Heap → Prop} {d : DefRec} {K : Params → PySem.W.Frag} (hn : l.most = some 63) (hdf : d.params.defaults = [])
    (hY : ∀ (w : World) (h : Heap), YP w h → (K w.params).In h)
    (F : ∀ (w : World) (mg : Str → Option Value) (fa : Addr) (h : Heap), (K w.params).In h → h.Ns mainGlobals mg → mg d.name = some (.ref fa) →
      ∃ fd : FuncData, (∀ (s : Shared) (u : Value), BindsTo s fd ⟨[u], []⟩ [("_law_script", u)]) ∧ ∀ base : Heap, (K w.params).In base → base.Ns mainGlobals mg → FnOk l.prog w (K w.params) mg base CX0 11 fa fd ["_law_script"] (spLaw (K w.params))) :
    PySem.W.WalkO q loose XP YP l.row.toRowW d [] (fun f vs => PySem.call f vs) :=
  L2.walk_of (n := 63) (k := 11) (x := "_law_script") (CX := fun _ => CX0) (sp := fun w => spLaw (K w.params)) hn (by decide) hdf ⟨rfl, by decide, by decide⟩ hY F (fun _ _ a ns hl _ hS => ⟨a, ns, rfl, hS, hl, fun _ => rfl⟩) fun _ _ _ _ _ z => z
end H1
open PySem PySem.W PyProof.Rows
set_option maxRecDepth 100000 in
set_option maxHeartbeats 0 in
theorem PySem.Challenge.cw_heapcode_k01_codes_made_and_refused_holds : PySem.Challenge.rw_heapcode_k01_codes_made_and_refused.Holds := by
  w_on; o_law; k_head; (case hw => w_witness2)
  k_fill
  refine H1.walk (l := PySem.Challenge.rw_heapcode_k01_codes_made_and_refused) rfl rfl (fun w h Y => PySem.W.kIn_of Y) ?F
  case F =>
    intro w mg fa h KX G hmg
    refine' H1.all_mk KX G hmg ?aC0 ?xL0 ?aI0 ?lI0 ?cI0 ?kI0 ?bC0 ?aC1 ?xL1 ?aI1 ?lI1 ?cI1 ?kI1 ?bC1 ?aC2 ?xL2 ?aI2 ?lI2 ?cI2 ?kI2 ?bC2 ?aC3 ?xL3 ?aI3 ?lI3 ?cI3 ?kI3 ?bC3 ?aC4 ?xL4 ?aI4 ?lI4 ?cI4 ?kI4 ?bC4 ?a_is_kind ?l_is_kind ?c_is_kind ?k_is_kind ?a_is_width ?l_is_width ?c_is_width ?k_is_width ?a_allows ?l_allows ?c_allows ?k_allows ?a_read_plain_part ?l_read_plain_part ?c_read_plain_part ?k_read_plain_part ?a_read_part ?l_read_part ?c_read_part ?k_read_part ?a_read_test ?l_read_test ?c_read_test ?k_read_test ?a_names_given ?l_names_given ?c_names_given ?k_names_given ?a_row_with_test ?l_row_with_test ?c_row_with_test ?k_row_with_test ?a_row_of_block_word ?l_row_of_block_word ?c_row_of_block_word ?k_row_of_block_word ?a_read_row ?l_read_row ?c_read_row ?k_read_row ?a_blocks_behind ?l_blocks_behind ?c_blocks_behind ?k_blocks_behind ?a_read_rows ?l_read_rows ?c_read_rows ?k_read_rows ?a_match_blocks ?l_match_blocks ?c_match_blocks ?k_match_blocks ?a_keeps_order ?l_keeps_order ?c_keeps_order ?k_keeps_order ?a_way_behind ?l_way_behind ?c_way_behind ?k_way_behind ?a_least_break ?l_least_break ?c_least_break ?k_least_break ?a_Lbag ?l_Lbag ?c_Lbag ?k_Lbag ?a_Ldraw ?l_Ldraw ?c_Ldraw ?k_Ldraw ?a_Ltold ?l_Ltold ?c_Ltold ?k_Ltold ?a_Llines ?l_Llines ?c_Llines ?k_Llines ?a_Lkinds_right ?l_Lkinds_right ?c_Lkinds_right ?k_Lkinds_right ?a_law ?l_law ?c_law ?k_law ?aR ?aRi ?lR ?cR ?kR ?bR ?dR ?aW ?uW0 ?lW0 ?cW0 ?kW0 ?bW0 ?uW1 ?lW1 ?cW1 ?kW1 ?bW1 ?uW4 ?lW4 ?cW4 ?kW4 ?bW4 ?uW5 ?lW5 ?cW5 ?kW5 ?bW5 ?uW6 ?lW6 ?cW6 ?kW6 ?bW6 ?bW ?aY ?uY0 ?lY0 ?cY0 ?kY0 ?bY0 ?uY1 ?lY1 ?cY1 ?kY1 ?bY1 ?uY2 ?lY2 ?cY2 ?kY2 ?bY2 ?uY3 ?lY3 ?cY3 ?kY3 ?bY3 ?bY ?aZ ?uZ0 ?lZ0 ?cZ0 ?kZ0 ?bZ0 ?uZ1 ?lZ1 ?cZ1 ?kZ1 ?bZ1 ?uZ2 ?lZ2 ?cZ2 ?kZ2 ?bZ2 ?uZ4 ?lZ4 ?cZ4 ?kZ4 ?bZ4 ?uZ5 ?lZ5 ?cZ5 ?kZ5 ?bZ5 ?bZ ?bCd ?aB ?rB ?gB ?fB ?z_int ?z_list ?z_len ?z_isinstance ?z_range ?z_str ?z_tuple ?z_any ?z_enumerate ?z_min ?pB ?p2 ?aKINDS ?bKINDS ?aWIDTHS ?bWIDTHS ?aGIVEN ?bGIVEN ?aLOOPS ?bLOOPS ?aTOP_WORDS ?bTOP_WORDS ?aONCE ?bONCE ?aAHEAD_OF_LOOPS ?bAHEAD_OF_LOOPS ?aFRESH ?bFRESH ?a60 ?aA ?lA ?kA ?sA ?n_tell ?n_grab ?n_note ?n_quit
    (case aC0 => k_is)
    (case xL0 => k_is)
    (case aI0 => k_is)
    (case lI0 => k_is)
    (case cI0 => k_is)
    (case kI0 => k_is)
    (case aC1 => k_is)
    (case xL1 => k_is)
    (case aI1 => k_is)
    (case lI1 => k_is)
    (case cI1 => k_is)
    (case kI1 => k_is)
    (case aC2 => k_is)
    (case xL2 => k_is)
    (case aI2 => k_is)
    (case lI2 => k_is)
    (case cI2 => k_is)
    (case kI2 => k_is)
    (case aC3 => k_is)
    (case xL3 => k_is)
    (case aI3 => k_is)
    (case lI3 => k_is)
    (case cI3 => k_is)
    (case kI3 => k_is)
    (case aC4 => k_is)
    (case xL4 => k_is)
    (case aI4 => k_is)
    (case lI4 => k_is)
    (case cI4 => k_is)
    (case kI4 => k_is)
    (case a_is_kind => k_is)
    (case l_is_kind => k_is)
    (case c_is_kind => k_is)
    (case k_is_kind => k_is)
    (case a_is_width => k_is)
    (case l_is_width => k_is)
    (case c_is_width => k_is)
    (case k_is_width => k_is)
    (case a_allows => k_is)
    (case l_allows => k_is)
    (case c_allows => k_is)
    (case k_allows => k_is)
    (case a_read_plain_part => k_is)
    (case l_read_plain_part => k_is)
    (case c_read_plain_part => k_is)
    (case k_read_plain_part => k_is)
    (case a_read_part => k_is)
    (case l_read_part => k_is)
    (case c_read_part => k_is)
    (case k_read_part => k_is)
    (case a_read_test => k_is)
    (case l_read_test => k_is)
    (case c_read_test => k_is)
    (case k_read_test => k_is)
    (case a_names_given => k_is)
    (case l_names_given => k_is)
    (case c_names_given => k_is)
    (case k_names_given => k_is)
    (case a_row_with_test => k_is)
    (case l_row_with_test => k_is)
    (case c_row_with_test => k_is)
    (case k_row_with_test => k_is)
    (case a_row_of_block_word => k_is)
    (case l_row_of_block_word => k_is)
    (case c_row_of_block_word => k_is)
    (case k_row_of_block_word => k_is)
    (case a_read_row => k_is)
    (case l_read_row => k_is)
    (case c_read_row => k_is)
    (case k_read_row => k_is)
    (case a_blocks_behind => k_is)
    (case l_blocks_behind => k_is)
    (case c_blocks_behind => k_is)
    (case k_blocks_behind => k_is)
    (case a_read_rows => k_is)
    (case l_read_rows => k_is)
    (case c_read_rows => k_is)
    (case k_read_rows => k_is)
    (case a_match_blocks => k_is)
    (case l_match_blocks => k_is)
    (case c_match_blocks => k_is)
    (case k_match_blocks => k_is)
    (case a_keeps_order => k_is)
    (case l_keeps_order => k_is)
    (case c_keeps_order => k_is)
    (case k_keeps_order => k_is)
    (case a_way_behind => k_is)
    (case l_way_behind => k_is)
    (case c_way_behind => k_is)
    (case k_way_behind => k_is)
    (case a_least_break => k_is)
    (case l_least_break => k_is)
    (case c_least_break => k_is)
    (case k_least_break => k_is)
    (case a_Lbag => k_is)
    (case l_Lbag => k_is)
    (case c_Lbag => k_is)
    (case k_Lbag => k_is)
    (case a_Ldraw => k_is)
    (case l_Ldraw => k_is)
    (case c_Ldraw => k_is)
    (case k_Ldraw => k_is)
    (case a_Ltold => k_is)
    (case l_Ltold => k_is)
    (case c_Ltold => k_is)
    (case k_Ltold => k_is)
    (case a_Llines => k_is)
    (case l_Llines => k_is)
    (case c_Llines => k_is)
    (case k_Llines => k_is)
    (case a_Lkinds_right => k_is)
    (case l_Lkinds_right => k_is)
    (case c_Lkinds_right => k_is)
    (case k_Lkinds_right => k_is)
    (case a_law => k_is)
    (case l_law => k_is)
    (case c_law => k_is)
    (case k_law => k_is)
    (case aR => k_is)
    (case aRi => k_is)
    (case lR => k_is)
    (case cR => k_is)
    (case kR => k_is)
    (case aW => k_is)
    (case uW0 => k_is)
    (case lW0 => k_is)
    (case cW0 => k_is)
    (case kW0 => k_is)
    (case uW1 => k_is)
    (case lW1 => k_is)
    (case cW1 => k_is)
    (case kW1 => k_is)
    (case uW4 => k_is)
    (case lW4 => k_is)
    (case cW4 => k_is)
    (case kW4 => k_is)
    (case uW5 => k_is)
    (case lW5 => k_is)
    (case cW5 => k_is)
    (case kW5 => k_is)
    (case uW6 => k_is)
    (case lW6 => k_is)
    (case cW6 => k_is)
    (case kW6 => k_is)
    (case aY => k_is)
    (case uY0 => k_is)
    (case lY0 => k_is)
    (case cY0 => k_is)
    (case kY0 => k_is)
    (case uY1 => k_is)
    (case lY1 => k_is)
    (case cY1 => k_is)
    (case kY1 => k_is)
    (case uY2 => k_is)
    (case lY2 => k_is)
    (case cY2 => k_is)
    (case kY2 => k_is)
    (case uY3 => k_is)
    (case lY3 => k_is)
    (case cY3 => k_is)
    (case kY3 => k_is)
    (case aZ => k_is)
    (case uZ0 => k_is)
    (case lZ0 => k_is)
    (case cZ0 => k_is)
    (case kZ0 => k_is)
    (case uZ1 => k_is)
    (case lZ1 => k_is)
    (case cZ1 => k_is)
    (case kZ1 => k_is)
    (case uZ2 => k_is)
    (case lZ2 => k_is)
    (case cZ2 => k_is)
    (case kZ2 => k_is)
    (case uZ4 => k_is)
    (case lZ4 => k_is)
    (case cZ4 => k_is)
    (case kZ4 => k_is)
    (case uZ5 => k_is)
    (case lZ5 => k_is)
    (case cZ5 => k_is)
    (case kZ5 => k_is)
    (case aB => k_is)
    (case rB => k_is)
    (case gB => k_is)
    (case fB => k_is)
    (case z_int => k_is)
    (case z_list => k_is)
    (case z_len => k_is)
    (case z_isinstance => k_is)
    (case z_range => k_is)
    (case z_str => k_is)
    (case z_tuple => k_is)
    (case z_any => k_is)
    (case z_enumerate => k_is)
    (case z_min => k_is)
    (case aKINDS => k_is)
    (case aWIDTHS => k_is)
    (case aGIVEN => k_is)
    (case aLOOPS => k_is)
    (case aTOP_WORDS => k_is)
    (case aONCE => k_is)
    (case aAHEAD_OF_LOOPS => k_is)
    (case aFRESH => k_is)
    (case a60 => k_is)
    (case aA => k_is)
    (case lA => k_is)
    (case n_tell => k_is)
    (case n_grab => k_is)
    (case n_note => k_is)
    (case n_quit => k_is)
    (case bC0 => kernel_rfl)
    (case bC1 => kernel_rfl)
    (case bC2 => kernel_rfl)
    (case bC3 => kernel_rfl)
    (case bC4 => kernel_rfl)
    (case bR => kernel_rfl)
    (case dR => kernel_rfl)
    (case bW0 => kernel_rfl)
    (case bW1 => kernel_rfl)
    (case bW4 => kernel_rfl)
    (case bW5 => kernel_rfl)
    (case bW6 => kernel_rfl)
    (case bW => kernel_rfl)
    (case bY0 => kernel_rfl)
    (case bY1 => kernel_rfl)
    (case bY2 => kernel_rfl)
    (case bY3 => kernel_rfl)
    (case bY => kernel_rfl)
    (case bZ0 => kernel_rfl)
    (case bZ1 => kernel_rfl)
    (case bZ2 => kernel_rfl)
    (case bZ4 => kernel_rfl)
    (case bZ5 => kernel_rfl)
    (case bZ => kernel_rfl)
    (case bCd => kernel_rfl)
    (case pB => kernel_rfl)
    (case p2 => kernel_rfl)
    (case bKINDS => kernel_rfl)
    (case bWIDTHS => kernel_rfl)
    (case bGIVEN => kernel_rfl)
    (case bLOOPS => kernel_rfl)
    (case bTOP_WORDS => kernel_rfl)
    (case bONCE => kernel_rfl)
    (case bAHEAD_OF_LOOPS => kernel_rfl)
    (case bFRESH => kernel_rfl)
    (case kA => exact ⟨⟨_, _, rfl, rfl⟩, ⟨_, _, rfl, rfl⟩, ⟨_, _, rfl, rfl⟩, ⟨_, _, rfl, rfl⟩, ⟨_, _, rfl, rfl⟩, ⟨_, _, rfl, rfl⟩, ⟨_, _, rfl, rfl⟩, trivial⟩)
    (case sA => decide)
