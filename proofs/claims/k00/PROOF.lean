import PyProof.Rows.All
import Wide.All
import OpenK.AllK
import Wide.FinOn
import HandS.ForMost
import HandS.ForExc
import HandS.ExcInit
import HandS.ExcField
import HandS.ClsMeth
import HandS.TryMany
import HandS.ExcIs
import HandS.IsInst
import HandS.Wide
import HandS.Evl
import HandS.Style
import HandS.HotCalls
import PySem.Challenge.RW_heapcode_k00_errors_made_from_their_fiel
set_option Elab.async false
set_option linter.all false
set_option maxRecDepth 100000
set_option maxHeartbeats 4000000
/-! ## Errors over an own base class: Base.__init__(self, 'text') and fields -/
namespace Hx
open PySem PySem.Spec PyProof.Rows L2
section
variable {X : Cx} {e : Expr} {es : List Expr} {ta : TA} {p1 p2 pos : Pos}
/-- Base.__init__(self, ..), Base an own class at D that leaves __init__ to ValueError -/
theorem pe_binit {x : Str} {D : Addr} {pl : Sem Bool} (hD : X.mg x = some (.ref D)) (rd : ClX.CRead X.K D (.type "type"))
    (fc : PySem.W.findCls X.K (.ref D) (.type "type") "__init__" = some (.val (.builtin "ValueError.__init__"))) (ha : PA X (e :: es) ta) (hg : Gl X x := by rfl)
    (hdb : (x == ("__debug__" : Str)) = false := by decide)
    (hc : eval (.Call (.Attribute (.Name x p1) "__init__" p2) (e :: es) [] pos) X.env = (do
      let vv ← eval (.Name x p1) X.env
      standAt p2.atName
      let (g, hd) ← holding [vv] (getMethod vv "__init__" pl)
      callWith pos g hd (backTo pos (starEach (e :: es) X.env)) (backToKw pos (keywordEach [] X.env))) := by rfl)
    (hs : starEach (e :: es) X.env = (false, eval e X.env) :: starEach es X.env := by rfl) (hp : (backTo pos (starEach es X.env)).any (·.1) = false := by rfl) :
    PE X (.Call (.Attribute (.Name x p1) "__init__" p2) (e :: es) [] pos) (tVeI X.K ta) := by
  constructor
  intro pins s σ H Q I0 hq
  refine PySem.W.methodCall_KW (ld_glob I0 hg hD ?_ hdb) hc
  refine PySem.W.method_cls I0.kIn rd.ga ?_
  refine PySem.W.cls_value I0.kIn rd.rd fc rfl ?_
  refine PyProof.Rows.callWith_method1 (thn (ha.run pos pins _ σ H _ (I0.tok _) hq) ?_) hs hp
  rintro us s2 ⟨vs, H2, I2, rv, a, C, ws, rfl, hl, T, ea, q⟩
  cases rv with
  | @cons _ u0 _ ur ra rw' =>
    cases (show u0 = Value.ref a from ra)
    have hz : ur.length ≤ sizeLine := by rw [← Paired.length rw', sizeLine_eq]; omega
    exact oinit_ok T I2 ea hz fun s3 J => ⟨V.non, H2, J, rfl, q⟩
end
end Hx
/-! ## try with any number of clauses, named or not -/
namespace Hx
open PySem PySem.Spec PyProof.Rows L2
/-- a clause: the class, the slot of its name if it has one, the suite's reading -/
structure Cla where
  c : Value
  o : Option Nat
  ts : Addr → Value → Option Addr → TS
/-- behind the suite the name is gone -/
def endsOf (o : Option Nat) (D : Ends) : Ends := match o with
  | none => D
  | some i => { nx := fun ρ G => D.nx (ρ.set i none) G, rt := D.rt, bk := fun ρ G => D.bk (ρ.set i none) G, ct := fun ρ G => D.ct (ρ.set i none) G }
def named (o : Option Nat) (σ : L2.St) (a : Addr) : L2.St := match o with
  | none => σ
  | some i => σ.set i (some (.ref a))
def wAny (K : PySem.W.Frag) (Wout : WX) (D : Ends) : List Cla → WX
  | [] => Wout
  | k :: r => fun cls d σ H => ∃ b, PySem.W.exmOne K cls k.c = some b ∧ (b = true → ∀ a, H a = none → k.ts a cls d (endsOf k.o D) (named k.o σ a) H) ∧ (b = false → wAny K Wout D r cls d σ H)
inductive ClaOk (X : Cx) : List ExceptHandler → List Cla → Prop
  | nil : ClaOk X [] []
  | bare {x : Str} {c : Value} {ts : Addr → Value → Option Addr → TS} {s₀ : Stmt} {su : List Stmt} {np q : Pos} {hs : List ExceptHandler} {l : List Cla} (hc : Names X x c)
      (hsu : ∀ (a : Addr) (oe : Obj) (cls : Value) (d : Option Addr) (pn : List (Addr × Obj)), Zc cls d oe → (∃ vs, oe.data = .fields vs) → PSs (X.suite a ((a, oe) :: pn)) (s₀ :: su) (ts a cls d)) (r : ClaOk X hs l) :
      ClaOk X (.ExceptHandler (some (.Name x np)) none (s₀ :: su) q :: hs) (⟨c, none, ts⟩ :: l)
  | as {x n : Str} {i : Nat} {c : Value} {ts : Addr → Value → Option Addr → TS} {s₀ : Stmt} {su : List Stmt} {np q : Pos} {hs : List ExceptHandler} {l : List Cla} (hN : X.N.Nodup) (hi : X.N[i]? = some n) (hln : X.env.kindOf n = some .local) (hc : Names X x c)
      (hsu : ∀ (a : Addr) (oe : Obj) (cls : Value) (d : Option Addr) (pn : List (Addr × Obj)), Zc cls d oe → (∃ vs, oe.data = .fields vs) → PSs (X.suite a ((a, oe) :: pn)) (s₀ :: su) (ts a cls d)) (r : ClaOk X hs l) :
      ClaOk X (.ExceptHandler (some (.Name x np)) (some n) (s₀ :: su) q :: hs) (⟨c, some i, ts⟩ :: l)
section
variable {X : Cx} {body : List Stmt} {h₀ : ExceptHandler} {hds : List ExceptHandler} {l : List Cla} {pos : Pos} {tb : WX → TS} {Wout : WX}
theorem ps_try_any (hstk : X.stack = X.env :: X.outer) (hfrm : X.env.frame = some X.env.locals) (tkO : Takes X Wout)
    (hbody : ∀ (W : WX) (pn : List (Addr × Obj)) (xe : Value → Shared → Prop), Takes (X.tr pn xe) W → PassesOwn (model X.prog X.w) X.A X.env xe → PSs (X.tr pn xe) body (tb W))
    (hcl : ClaOk X (h₀ :: hds) l) : PS X (.Try body (h₀ :: hds) [] [] pos) (fun D σ H => tb (wAny X.K Wout D l) D σ H) := by
  constructor
  intro pins s σ H D I0 hrd
  have ok := I0.ok
  have hA : X.A.frames = some (X.env :: X.outer) := by rw [ok.frames, hstk]
  refine wpAny_Try_except ?_
  refine wpAny_mono ((hbody (wAny X.K Wout D l) (X.pn ++ pins) (fun e t1 => wpAny (model X.prog X.w) X.A (noteFrame e X.env) (fun _ t2 =>
    wpAny (model X.prog X.w) X.A (setFlight e none) (fun _ t3 =>
      wpAny (model X.prog X.w) X.A (handleBy e X.env (h₀ :: hds)) (SP X pins D) X.xe t3) X.xe t2) X.xe t1) ?raised PassesOwn.looking).run [] s σ H D (I0.toTry _) hrd) ?through (fun _ _ z => z)
  case through =>
    intro f t hsp
    cases f with
    | next => obtain ⟨ρ, G, J, q⟩ := hsp; exact wpAny_execs_nil ⟨ρ, G, J.ofTry ok, q⟩
    | brk => obtain ⟨ρ, G, J, q⟩ := hsp; exact ⟨ρ, G, J.ofTry ok, q⟩
    | cont => obtain ⟨ρ, G, J, q⟩ := hsp; exact ⟨ρ, G, J.ofTry ok, q⟩
    | ret u => obtain ⟨v, ρ, G, J, r, q⟩ := hsp; exact ⟨v, ρ, G, J.ofTry ok, r, q⟩
  case raised =>
    rintro u t ⟨a, B, sI, pins', ρ, G, cls, d, rfl, JT, nb, up, sky0, na, os, ag, hw⟩
    have J : Inv X pins ρ G sI := JT.ofTry ok
    have sky : Sky B (X.env :: X.outer) a (Zc cls d) X.env.locals t.heap := by rw [← hstk]; exact sky0
    show wpAny (model X.prog X.w) X.A (noteFrame (.ref a) X.env) _ _ _
    refine Sky.land Zc.steady hA hfrm sky fun g3 fl up3 => ?_
    have J3 : Inv X pins ρ G { t with heap := g3 } := J.landed nb fl.1 (up.trans up3) os ag
    obtain ⟨ob, vz, hob, hz, hdz⟩ := fl.there
    have nIn : ∀ L ∈ frs (X.env :: X.outer), a ≠ L := by
      intro L hL e
      subst e
      obtain ⟨_, o2, e2, nf⟩ := fl.2.2.1.mem hL
      rw [hob] at e2
      cases e2
      exact nf _ hdz
    have nL : a ≠ X.env.locals := nIn _ (List.mem_filterMap.mpr ⟨X.env, List.mem_cons_self, hfrm⟩)
    have nF : a ∉ X.fs := fun hm => by
      obtain ⟨e, he, q⟩ := List.mem_filterMap.mp hm
      exact nIn a (List.mem_filterMap.mpr ⟨e, List.mem_cons_of_mem _ he, q⟩) rfl
    have S3 := J3.suite hob hdz na nL nF
    have LT : PySem.W.Looks (model X.prog X.w) g3 (typeOf (.ref a)) cls := fun A Q E s k q => wpAny_typeOf_ref (k _ _ hob) (by rw [hz.1]; exact q)
    -- the class that a clause names is found
    have find : ∀ {x : Str} {c : Value} {np : Pos}, Names X x c → ∀ {Q E : Value → Shared → Prop}, Q c { t with heap := g3 } → wpAny (model X.prog X.w) (X.A.mark (some (.ref a))) (eval (.Name x np) X.env) Q E { t with heap := g3 } := by
      rintro x c np ⟨hg, hdb, hm | ⟨hm, hv, hnn⟩⟩ Q E q
      · exact ld_glob (X := X.suite a ((a, ob) :: (X.pn ++ pins))) S3 hg hm q hdb
      · exact ld_blt (X := X.suite a ((a, ob) :: (X.pn ++ pins))) S3 hg hm hv q hnn hdb
    have run : ∀ {hs : List ExceptHandler} {m : List Cla}, ClaOk X hs m → wAny X.K Wout D m cls d ρ G →
        wpAny (model X.prog X.w) X.A (handleBy (.ref a) X.env hs) (SP X pins D) X.xe { t with heap := g3 } := by
      intro hs m hk
      induction hk with
      | nil =>
        intro hw
        refine wpAny_handleBy_nil ?_
        obtain ⟨_, _, _, oe, vs, T, oT, ts', he, _, hd', h1, _⟩ := id fl
        unfold PySem.passOn
        refine wpAny_bind (wpAny_field he hd' h1 ?_)
        rw [if_neg (show ¬ ((Value.ref T == Value.none) = true) from by simp)]
        have off : wpAny (model X.prog X.w) X.A (setFlight (.ref a) X.env.frame) (fun _ t4 => wpAny (model X.prog X.w) X.A (throw (.ref a) : Sem Flow) (SP X pins D) X.xe t4) X.xe { t with heap := g3 } := by
          rw [hfrm]
          refine HandSPX.setFlight_upZ fl fun g4 held up4 => wpAny_throw (tkO _ _ ?_)
          exact ⟨a, B, sI, pins, ρ, G, cls, d, rfl, J, nb, (up.trans up3).trans up4, .inr (.inr (by rw [hstk]; exact held)), na, os, ag, hw⟩
        first
          | exact wpAny_bind (wpAny_pure (wpAny_bind off))
          | exact wpAny_bind off
      | bare hc hsu r ih =>
        rintro ⟨b, hb1, hyes, hno⟩
        refine wpAny_handleBy_cons (codeAny_handlers_test ?_) (by intro q; cases q)
        refine find hc ((PySem.W.exm_one (M := model X.prog X.w) J3.kIn LT hb1).here ?_)
        cases b with
        | false => exact ih (hno rfl)
        | true =>
          refine codeAny_handlers_suite (HandSPX.lands_againZ fl fun g4 fl4 up4 => ?_)
          have J4 : Inv X pins ρ G { t with heap := g4 } := J.landed nb fl4.1 ((up.trans up3).trans up4) os ag
          obtain ⟨o4, v4, he4, hz4, hd4⟩ := fl4.there
          refine wpAny_mono ((hsu a o4 cls d (X.pn ++ pins) hz4 ⟨_, hd4⟩).run [] _ _ G _ (J4.suite he4 hd4 na nL nF) (hyes rfl a na)) (fun f t6 hsp => ?_) (fun _ _ z => False.elim z)
          cases f with
          | next => obtain ⟨ρ6, G6, S6, q6⟩ := hsp; exact ⟨ρ6, G6, S6.unsuite ok, q6⟩
          | brk => obtain ⟨ρ6, G6, S6, q6⟩ := hsp; exact ⟨ρ6, G6, S6.unsuite ok, q6⟩
          | cont => obtain ⟨ρ6, G6, S6, q6⟩ := hsp; exact ⟨ρ6, G6, S6.unsuite ok, q6⟩
          | ret u => obtain ⟨v6, ρ6, G6, S6, r6, q6⟩ := hsp; exact ⟨v6, ρ6, G6, S6.unsuite ok, r6, q6⟩
      | @as x n i c ts s₀ su np q hs l hN hi hln hc hsu r ih =>
        rintro ⟨b, hb1, hyes, hno⟩
        refine wpAny_handleBy_cons (codeAny_handlers_test ?_) (by intro q; cases q)
        refine find hc ((PySem.W.exm_one (M := model X.prog X.w) J3.kIn LT hb1).here ?_)
        cases b with
        | false => exact ih (hno rfl)
        | true =>
          refine codeAny_handlers_suite_as (HandSPX.lands_againZ fl fun g4 fl4 up4 => ?_)
          have J4 : Inv X pins ρ G { t with heap := g4 } := J.landed nb fl4.1 ((up.trans up3).trans up4) os ag
          obtain ⟨o4, v4, he4, hz4, hd4⟩ := fl4.there
          refine store_ok (X := X.suite a ((a, o4) :: (X.pn ++ pins))) (v := .ref a) (J4.suite he4 hd4 na nL nF) hN hi (.inl hln) rfl (fun t5 S5 => ?_) (.inr hln)
          refine wpAny_mono ((hsu a o4 cls d (X.pn ++ pins) hz4 ⟨_, hd4⟩).run [] t5 _ G _ S5 (hyes rfl a na)) (fun f t6 hsp => ?_) (fun _ _ z => False.elim z)
          cases f with
          | next => obtain ⟨ρ6, G6, S6, q6⟩ := hsp; exact gone_ok (S6.unsuite ok) hN hi hln fun t7 J7 => ⟨_, _, J7, q6⟩
          | brk => obtain ⟨ρ6, G6, S6, q6⟩ := hsp; exact gone_ok (S6.unsuite ok) hN hi hln fun t7 J7 => ⟨_, _, J7, q6⟩
          | cont => obtain ⟨ρ6, G6, S6, q6⟩ := hsp; exact gone_ok (S6.unsuite ok) hN hi hln fun t7 J7 => ⟨_, _, J7, q6⟩
          | ret u => obtain ⟨v6, ρ6, G6, S6, r6, q6⟩ := hsp; exact gone_ok (S6.unsuite ok) hN hi hln fun t7 J7 => ⟨_, _, _, J7, r6, q6⟩
    exact run hcl hw
end
end Hx
/-! ## isinstance of an error that has its own dict -/
namespace Hx
open PySem PySem.Spec PySem.Calls PyProof.Rows PySem.W
section
variable {prog : Program} {w : World} {A : Around} {E : Value → Shared → Prop} {s : Shared} {K : Frag} {x D : Addr} {ox : Obj} {od : Option Obj}
theorem bind_found {C : Addr} {nm : Str} {a g : Value} (hc : (clsIn K C).isSome = true) (ha : findIn K (.ref C) nm = some (some a)) (hg : specialIn K a "__get__" = some (some g)) (ht : takesIn K a = some true) :
    findObj K C od nm = some (.bind g a) := by
  obtain ⟨cd, hcd⟩ := Option.isSome_iff_exists.mp hc
  show (clsIn K C).bind _ = _
  rw [hcd, Option.bind_some, ha]
  simp [hg, ht]
theorem class_of_err {Q : Option Value → Shared → Prop} (T : L2.ExcC K D) (X : K.In s.heap) (I : InstAt s.heap x ox D od) (h : Q (some (.ref D)) { s with toks := s.toks + 1 }) :
    wpAny (model prog w) A (getAttr? (.ref x) "__class__") Q E s := by
  have hf : findObj K D od "__class__" = some (.bind (.builtin "getset_descriptor.__get__") (.builtin "object.__class__")) :=
    bind_found (by obtain ⟨cd, hc, _⟩ := any_some T.hd; rw [hc]; rfl) T.ha T.hn T.ht
  obtain ⟨hp, gs, dr, tk, os⟩ := s
  have K0 := I.type (M := model prog w)
  have K1 := looks_findIn (M := model prog w) X T.hg
  have K2 := looks_findIn (M := model prog w) X T.hk
  have K3 := looks_find (M := model prog w) X I hf
  have isB : Looks (model prog w) hp (isInstance (.ref x) (.type "BaseException")) true := K0.andThen (looks_subIn X T.hs)
  have ne2 : (Value.builtin "BaseException.__getattribute__" == Value.builtin "object.__getattribute__") = false := by decide +kernel
  have ne1 : (onTheHeap (Value.ref D) && Value.builtin "BaseException.__getattribute__" == Value.builtin "object.__getattribute__") = false := by rw [ne2]; rfl
  have ne0 : (false && onTheHeap (Value.builtin "BaseException.__getattribute__")) = false := rfl
  unfold getAttr? getAttrBy? getAttrBy
  refine wpAny_bind (wpAny_mkText (wpAny_bind (wpAny_attempt (wpAny_holding (wpAny_bind (K0.at (wpAny_bind (K1.at ?_))))))))
  show wpAny _ _ (if (onTheHeap (Value.ref D) && Value.builtin "BaseException.__getattribute__" == Value.builtin "object.__getattribute__") = true then _ else _) _ _ _
  rw [ne1, if_neg Bool.false_ne_true]
  unfold getAttrByItsOwn hookBefore
  refine wpAny_bind ?_
  rw [if_pos (show onTheHeap (Value.ref D) = true from rfl)]
  refine K2.at (wpAny_bind (wpAny_attempt (wpAny_holding ?_)))
  unfold callGetattribute
  rw [ne0, if_neg Bool.false_ne_true]
  unfold boundAndCalled
  rw [F.excAttr_ValueError.ga.bind (.ref x)]
  refine wpAny_bind (wpAny_pure ?_)
  show wpAny _ _ (call (.builtin "BaseException.__getattribute__") [.ref x, .str "__class__" tk]) _ _ _
  refine wpAny_call (codeAny_call_builtin F.excAttr_ValueError.ga.plain F.entry_bexc_ga (@check_slot (model prog w) _ _ ⟨hp, gs, dr, tk + 1, os⟩ "BaseException.__getattribute__" "BaseException" "__getattribute__" (.ref x) [.str "__class__" tk] [] _ (by decide +kernel) (by decide +kernel) isB (F.args_bexc_ga (.ref x) (.str "__class__" tk)) ?_))
  unfold Builtin.«object.__getattribute__»
  refine wpAny_bind (wpAny_of_eq (a := ((Value.ref x : Value), [Value.str "__class__" tk])) (by first | rfl | (simp only [slotArgs]; rfl)) (wpAny_bind (wpAny_pure (wpAny_bind (K0.at (wpAny_bind (K3.at ?_)))))))
  show wpAny _ _ (holding [Value.builtin "object.__class__"] (call (.builtin "getset_descriptor.__get__") [.builtin "object.__class__", .ref x, .ref D]) >>= ret) _ _ _
  refine wpAny_bind (wpAny_holding (wpAny_call (class_get (s := ⟨hp, gs, dr, tk + 1, os⟩) (ox := ox) (od := od) X I T.hm (wpAny_pure ?_))))
  show wpAny _ _ (handedOut (.ref D)) _ _ _
  rw [handedOut_of (v := .ref D) rfl]
  first
    | exact wpAny_pure (wpAny_pure h)
    | exact wpAny_pure h
    | exact wpAny_pure (wpAny_bind (wpAny_pure (wpAny_pure h)))
theorem kit_err (T : L2.ExcC K D) : KitX K (.ref x) (.ref D) (fun h => ∃ ox od, InstAt h x ox D od) where
  ty := fun _ _ _ ⟨_, _, I⟩ => I.type
  it := by
    intro M h X _ A' Q' E' s' k q
    obtain ⟨cd, hc, _⟩ := any_some T.hd
    unfold clsIn at hc
    split at hc
    · rename_i _ _ _ _ ho
      unfold isType loadHead
      exact wpAny_bind (wpAny_loadPart (k _ _ (X _ _ ho)) (wpAny_pure q))
    · cases hc
  ne := by
    intro h tp dd its n sl X htp
    obtain ⟨cd, hc, _⟩ := any_some T.hd
    refine Bool.eq_false_iff.mpr fun q => ?_
    cases (Value.ref.inj (beq_iff_eq.mp q) : D = tp)
    unfold clsIn at hc
    split at hc
    · rename_i _ _ _ _ ho
      cases ((X _ _ ho).symm.trans htp)
    · cases hc
  ca := fun X ⟨_, _, I⟩ k => class_of_err T X I k
end
end Hx
namespace Hx
open PySem PySem.Spec PyProof.Rows L2
/-- the error at a, of the class at D, with a dict at d or with none, as the heap has it -/
def errAt (D a : Addr) (d : Option Addr) (oe : Obj) : Prop := Zc (.ref D) d oe ∧ ∃ vs, oe.data = .fields vs
/-- isinstance(e, c), e the error whose object is pinned -/
def rIsD (K : PySem.W.Frag) (D a : Addr) (d : Option Addr) : List V → Hp → VK → Prop := fun xs H Q => ∃ (c : V) (cv : Value) (b : Bool), xs = [.ref a, c] ∧ ClsV c cv ∧ (∀ z, d = some z → ∃ fs, H z = some (.xd fs)) ∧ PySem.W.kitOne K (.ref D) cv = some b ∧ Q (.bl b) H
def rIsDT (K : PySem.W.Frag) (D a : Addr) (d : Option Addr) : List V → Hp → VK → Prop := fun xs H Q => ∃ (tp : Addr) (cs : List V) (us : List Value) (b : Bool), xs = [.ref a, .ref tp] ∧ H tp = some (.tup cs) ∧ Paired ClsV cs us ∧ (∀ z, d = some z → ∃ fs, H z = some (.xd fs)) ∧
  PySem.W.kitAny K (.ref D) us = some b ∧ Q (.bl b) H
section
variable {X : Cx} {a D : Addr} {d : Option Addr} {oe : Obj}
theorem inst_err {pins : List (Addr × Obj)} {σ : L2.St} {H : Hp} {s : Shared} (I : Inv X pins σ H s) (hp : (a, oe) ∈ X.pn ++ pins) (he : errAt D a d oe) (hd : ∀ z, d = some z → ∃ fs, H z = some (.xd fs)) :
    ∃ ox od, PySem.W.InstAt s.heap a ox D od := by
  obtain ⟨hget, _⟩ := I.pin (a, oe) hp
  obtain ⟨⟨h1, h2⟩, vs, hv⟩ := he
  obtain ⟨oc, odd, oda, osl⟩ := oe
  dsimp only at h1 h2 hv
  subst h1 h2 hv
  cases odd with
  | none => exact ⟨_, none, hget, rfl, rfl, trivial⟩
  | some z =>
    obtain ⟨fs, hz⟩ := hd z rfl
    obtain ⟨mA, ⟨o, es, ep, e1, e2⟩, _⟩ := (show ObjOk X.prog X.w H s.heap z (.xd fs) from I.hok z _ hz)
    exact ⟨_, some o, hget, rfl, rfl, e1⟩
theorem call_isD (T : ExcC X.K D) (hp : (a, oe) ∈ X.pn) (he : errAt D a d oe) : CallR X (.builtin "isinstance") (rIsD X.K D a d) := by
  intro pins s σ H xs us Q I r h
  obtain ⟨c, cv, b, rfl, k, hd, e, q⟩ := h
  obtain ⟨u1, u2, rfl, r1, r2⟩ := vals2 r
  cases (show u1 = Value.ref a from r1)
  cases k.eq r2
  exact PySem.W.kia_one (kit_err T) I.kIn (inst_err I (List.mem_append_left _ hp) he hd) e (fun z => nomatch z) fun tk => ⟨.bl b, H, I.tok tk, rfl, q⟩
theorem call_isDT (T : ExcC X.K D) (hp : (a, oe) ∈ X.pn) (he : errAt D a d oe) : CallR X (.builtin "isinstance") (rIsDT X.K D a d) := by
  intro pins s σ H xs us Q I r h
  obtain ⟨tp, cs, ws, b, rfl, hT, k, hd, e, q⟩ := h
  obtain ⟨u1, u2, rfl, r1, r2⟩ := vals2 r
  cases (show u1 = Value.ref a from r1)
  cases (show u2 = Value.ref tp from r2)
  obtain ⟨_, its, rv, o, h1, h2, n, h3⟩ := (show ObjOk X.prog X.w H s.heap tp (.tup cs) from I.hok tp _ hT)
  cases ClsV.all k rv
  obtain ⟨oc, odd, dt, sl⟩ := o
  simp only at h2 h3
  subst h2 h3
  exact PySem.W.kia_tup (kit_err T) I.kIn (inst_err I (List.mem_append_left _ hp) he hd) h1 e (fun z => nomatch z) fun tk => ⟨.bl b, H, I.tok tk, rfl, q⟩
end
end Hx
namespace Hx
open PySem PySem.Spec PyProof.Rows L2
/-- what the base class of the errors must have, at D -/
structure BaseT (K : PySem.W.Frag) (mg : Str → Option Value) (D : Addr) : Prop where
  gB : mg "HeapError" = some (.ref D)
  rdB : ClX.CRead K D (.type "type")
  fcB : PySem.W.findCls K (.ref D) (.type "type") "__init__" = some (.val (.builtin "ValueError.__init__"))
/-- __init__ without, with one, with three fields -/
def spI0 (K : PySem.W.Frag) : Sp := fun vs H Q _ => ∃ (a C : Addr), vs = [.ref a] ∧ OexC K C ∧ H a = some (exo a C none) ∧ Q .non H
def spI1 (K : PySem.W.Frag) (f : Str) : Sp := fun vs H Q _ => ∃ (a C : Addr) (v : V), vs = [.ref a, v] ∧ OexC K C ∧ PySem.W.findIn K (.ref C) f = some none ∧ H a = some (exo a C none) ∧
  ∀ d, H d = none → d ≠ a → Q .non (upd (upd H d (exd d [(f, v)])) a (exo a C (some d)))
def spI3 (K : PySem.W.Frag) (f g k : Str) : Sp := fun vs H Q _ => ∃ (a C : Addr) (u v z : V), vs = [.ref a, u, v, z] ∧ OexC K C ∧ PySem.W.findIn K (.ref C) f = some none ∧ PySem.W.findIn K (.ref C) g = some none ∧ PySem.W.findIn K (.ref C) k = some none ∧
  H a = some (exo a C none) ∧ ∀ d, H d = none → d ≠ a → Q .non (upd (upd (upd (upd H d (exd d [(f, u)])) a (exo a C (some d))) d (exd d [(g, v), (f, u)])) d (exd d [(k, z), (g, v), (f, u)]))
end Hx
/-! ## raising such errors -/
namespace Hx
open PySem PySem.Spec PyProof.Rows L2
/-- what is known of an error class: its name x, at C, its __init__ at fI -/
structure ExT (K : PySem.W.Frag) (mg : Str → Option Value) (x : Str) (C fI : Addr) : Prop where
  oex : OexC K C
  gC : mg x = some (.ref C)
  iC : PySem.W.findIn K (.ref C) "__init__" = some (some (.ref fI))
  tI : PySem.W.typeIn K (.ref fI) = some (.type "function")
theorem drop_new {H1 : Hp} {a d C : Addr} {fs gs : List (Str × V)} (na : H1 a = none) (nad : d ≠ a) :
    upd (del (upd (upd H1 d (exd d fs)) a (exo a C (some d))) a) d (.xd gs) = upd H1 d (.xd gs) := by
  funext b
  by_cases hb : b = d
  · rw [hb, upd_same, upd_same]
  · rw [upd_ne hb, upd_ne hb]
    by_cases ha : b = a
    · rw [ha, del_same, na]
    · rw [del_ne ha, upd_ne ha, upd_ne hb]
theorem mk1 {K : PySem.W.Frag} {H1 : Hp} {C : Addr} {f : Str} {v : V} {Q : XK} (T : OexC K C) (nf : PySem.W.findIn K (.ref C) f = some none) (h : ∀ d, H1 d = none → Q (.ref C) (some d) (upd H1 d (.xd [(f, v)]))) :
    ([v] : List V).length ≤ 1000 ∧ ∀ a, H1 a = none → spI1 K f (.ref a :: ([v] ++ [])) (upd H1 a (exo a C none))
      (fun r H2 => r = .non ∧ ∃ (d : Addr) (fs : List (Str × V)), H2 a = some (exo a C (some d)) ∧ H2 d = some (exd d fs) ∧ H1 d = none ∧ Q (.ref C) (some d) (upd (del H2 a) d (.xd fs))) (fun _ _ _ => False) := by
  refine ⟨by show 1 ≤ 1000; decide, fun a na => ⟨a, C, v, rfl, T, nf, upd_same, fun d nd ne => ⟨rfl, d, [(f, v)], upd_same, ?_, ?_, ?_⟩⟩⟩
  · rw [upd_ne ne, upd_same]
  · rw [upd_ne ne] at nd
    exact nd
  · rw [upd_ne ne] at nd
    have e : upd (del (upd (upd (upd H1 a (exo a C none)) d (exd d [(f, v)])) a (exo a C (some d))) a) d (.xd [(f, v)]) = upd H1 d (.xd [(f, v)]) := by
      funext b
      by_cases hb : b = d
      · rw [hb, upd_same, upd_same]
      · rw [upd_ne hb, upd_ne hb]
        by_cases ha : b = a
        · rw [ha, del_same, na]
        · rw [del_ne ha, upd_ne ha, upd_ne hb, upd_ne ha]
    rw [e]
    exact h d nd
theorem mk3 {K : PySem.W.Frag} {H1 : Hp} {C : Addr} {f g k : Str} {u v z : V} {Q : XK} (T : OexC K C) (n1 : PySem.W.findIn K (.ref C) f = some none) (n2 : PySem.W.findIn K (.ref C) g = some none) (n3 : PySem.W.findIn K (.ref C) k = some none)
    (h : ∀ d, H1 d = none → Q (.ref C) (some d) (upd H1 d (.xd [(k, z), (g, v), (f, u)]))) :
    ([u, v, z] : List V).length ≤ 1000 ∧ ∀ a, H1 a = none → spI3 K f g k (.ref a :: ([u, v, z] ++ [])) (upd H1 a (exo a C none))
      (fun r H2 => r = .non ∧ ∃ (d : Addr) (fs : List (Str × V)), H2 a = some (exo a C (some d)) ∧ H2 d = some (exd d fs) ∧ H1 d = none ∧ Q (.ref C) (some d) (upd (del H2 a) d (.xd fs))) (fun _ _ _ => False) := by
  refine ⟨by show 3 ≤ 1000; decide, fun a na => ⟨a, C, u, v, z, rfl, T, n1, n2, n3, upd_same, fun d nd ne => ⟨rfl, d, [(k, z), (g, v), (f, u)], ?_, upd_same, ?_, ?_⟩⟩⟩
  · rw [upd_ne ne.symm, upd_ne ne.symm, upd_same]
  · rw [upd_ne ne] at nd
    exact nd
  · rw [upd_ne ne] at nd
    have e : upd (del (upd (upd (upd (upd (upd H1 a (exo a C none)) d (exd d [(f, u)])) a (exo a C (some d))) d (exd d [(g, v), (f, u)])) d (exd d [(k, z), (g, v), (f, u)])) a) d (.xd [(k, z), (g, v), (f, u)]) = upd H1 d (.xd [(k, z), (g, v), (f, u)]) := by
      funext b
      by_cases hb : b = d
      · rw [hb, upd_same, upd_same]
      · rw [upd_ne hb, upd_ne hb]
        by_cases ha : b = a
        · rw [ha, del_same, na]
        · rw [del_ne ha, upd_ne hb, upd_ne hb, upd_ne ha, upd_ne hb, upd_ne ha]
    rw [e]
    exact h d nd
/-- C(), the error has no dict -/
def tMk0 (C : Addr) : L2.St → Hp → XK → Prop := fun _ H Q => Q (.ref C) none H
section
variable {X : Cx} {p pos : Pos}
theorem pmk_none {x : Str} {C fI : Addr} {k : Nat} {fd : FuncData} (T : ExT X.K X.mg x C fI) (F1 : FnOk X.prog X.w X.K X.mg X.base CX0 k fI fd ["self"] (spI0 X.K)) (hr : Room (k + 1) X.A) (hb : Binds X.K fd ["self"] []) (hg : Gl X x := by rfl)
    (hdb : (x == ("__debug__" : Str)) = false := by decide) : PMk X (.Call (.Name x p) [] [] pos) (tMk0 C) := by
  intro pins s σ H Q I h
  obtain ⟨nm, q, N, bs, bm, sn, sub, ab, col, dd, k0, k1, k2, k3, k5, hC, hbm⟩ := T.oex.cls
  refine wpAny_Call_Name_kw (ld_glob I hg T.gC ?_ hdb)
  refine PySem.W.callWith_K0 I.kIn T.oex.kC ?_
  show wpAny _ _ (call (.ref C) []) _ _ _
  obtain ⟨hp, g, dr, tk, os⟩ := s
  have na : H (hp.objs.size + 1) = none := I.hok.fresh (Nat.le_succ _)
  have stay : ∀ b o, hp.get? b = some o → ((hp.push (PySem.W.kdv_tup [])).push (PySem.HandSPX.excO C hp.objs.size)).get? b = some o := fun b o e => Heap.get?_push_of_some _ (Heap.get?_push_of_some _ e)
  have atE : ((hp.push (PySem.W.kdv_tup [])).push (PySem.HandSPX.excO C hp.objs.size)).get? (hp.objs.size + 1) = some (PySem.HandSPX.excO C hp.objs.size) := by heap_get
  have I2 := I.laid (t' := tk) (a := hp.objs.size + 1) (o := exo (hp.objs.size + 1) C none) stay (Nat.le_succ _) (exo_ok atE)
  have hq : spI0 X.K [.ref (hp.objs.size + 1)] (upd H (hp.objs.size + 1) (exo (hp.objs.size + 1) C none)) (fun v H2 => v = .non ∧ H2 = upd H (hp.objs.size + 1) (exo (hp.objs.size + 1) C none)) (fun _ _ _ => False) :=
    ⟨_, C, rfl, T.oex, upd_same, rfl, rfl⟩
  have bd := hb _ [Value.ref (hp.objs.size + 1)] I2.kIn rfl
  refine wpAny_call (PySem.HandSPX.call_own F.excBase_ValueError (fun Y => PySem.HandSPX.refsVE_contains Y bm hbm) (I.kIn _ _ hC) (PySem.W.looks_findIn I.kIn T.iC) (fun self => PySem.W.bind_fn I.kIn self T.tI) (Nat.zero_le _)
    (codeAny_mono (F1.run _ X.stack _ _ ⟨[Value.ref (hp.objs.size + 1)], []⟩ [Value.ref (hp.objs.size + 1)] [V.ref (hp.objs.size + 1)] _ (fun _ _ _ => False) (hr.make C [] []) (I2.env0.make C [] []) bd (.cons (show L2.RelV (V.ref (hp.objs.size + 1)) (Value.ref (hp.objs.size + 1)) from rfl) .nil) hq) fun r s' hq' => ?_))
  cases r with
  | error er => exact hq'.elim
  | ok fl =>
    cases fl with
    | next => exact False.elim hq'
    | brk => exact False.elim hq'
    | cont => exact False.elim hq'
    | ret u =>
      obtain ⟨v, H2, os2, bare2, un, hok, rv, ev, eH⟩ := hq'
      subst ev eH
      obtain ⟨h2, g2, d2, t2, os'⟩ := s'
      have ea : upd H (hp.objs.size + 1) (exo (hp.objs.size + 1) C none) (hp.objs.size + 1) = some (exo (hp.objs.size + 1) C none) := upd_same
      obtain ⟨t0, hoe⟩ := exo_at hok ea
      obtain ⟨G, gi, gn⟩ := restrict h2 fun b => decide (b ≠ hp.objs.size + 1)
      have gk : ∀ b, b ≠ hp.objs.size + 1 → G.get? b = h2.get? b := fun b hb => gi b (decide_eq_true hb)
      have ge : G.get? (hp.objs.size + 1) = none := gn _ (by simp)
      have old : ∀ {b : Addr} {o : Obj}, hp.get? b = some o → b ≠ hp.objs.size + 1 := fun z => Nat.ne_of_lt (Nat.lt_succ_of_lt (Heap.lt_size z))
      have U : Un (frs X.stack) [] H H hp G := by
        refine ⟨fun b o z n hf hx => ?_, fun b o z n hf hx => ?_, fun b o z n _ => n, fun b o z hx => ?_, fun _ _ z => z, fun _ _ _ z => z, fun b ps z => ⟨#[], by rw [z]; simp⟩⟩
        · rw [gk b (old z)]; exact un.keep b o (stay b o z) (by rw [upd_ne (old z)]; exact n) hf hx
        · rw [gk b (old z)]; exact un.slot b o (stay b o z) (by rw [upd_ne (old z)]; exact n) hf hx
        · rw [gk b (old z)]; exact un.there b o (stay b o z) hx
      have hokG : HOk X.prog X.w H G := fun b o z => by
        have nb : b ≠ hp.objs.size + 1 := ne_of_none z na
        refine (hok b o (by rw [upd_ne nb]; exact z)).stay (fun c v hc y => ?_) (fun c hc => ?_) (fun c xs hc => ?_)
        · have nc : c ≠ hp.objs.size + 1 := by
            rcases hc with hc | hc
            · rw [hc]; exact nb
            · exact at_ne ea hc exo_own
          rw [gk c nc]; exact y
        · have nc := at_ne ea hc exo_own
          rw [upd_ne nc] at hc; exact hc
        · have nc := at_ne ea hc exo_tup
          rw [upd_ne nc] at hc; exact hc
      have J : Inv X pins σ H ⟨G, g2, d2, t2, os'⟩ := I.call' (ch := []) os2 U hokG bare2 (fun b z => absurd z (by simp))
      refine ⟨rv, hp.objs.size + 1, _, _, ⟨G, g2, d2, t2, os'⟩, H, .ref C, none, rfl, J, fun b o z => ?_, ge, hoe, ⟨rfl, rfl⟩, rfl, rfl, na, rfl, bare2, raises_own T.oex.exC T.oex.tyC, h⟩
      by_cases hb : b = hp.objs.size + 1
      · rw [hb, ge] at z; cases z
      · exact (gk b hb).symm.trans z
end
end Hx
/-! ## The bag of draws -/
namespace Hx
open PySem PySem.Spec PyProof.Rows L2
abbrev kC : Key := Sum.inr ("cells" : Str)
abbrev kA : Key := Sum.inr ("at" : Str)
abbrev kD : Key := Sum.inr ("digits" : Str)
abbrev kN : Key := Sum.inr ("count" : Str)
abbrev kF : Key := Sum.inr ("fold" : Str)
def bagK (l : Addr) (i dg ct fd : Int) : List (Key × V) := [(kC, .ref l), (kA, .int i), (kD, .int dg), (kN, .int ct), (kF, .int fd)]
theorem nCA : ¬ kC = kA := by decide +kernel
theorem nCD : ¬ kC = kD := by decide +kernel
theorem nCN : ¬ kC = kN := by decide +kernel
theorem nCF : ¬ kC = kF := by decide +kernel
theorem nAD : ¬ kA = kD := by decide +kernel
theorem nAN : ¬ kA = kN := by decide +kernel
theorem nAF : ¬ kA = kF := by decide +kernel
theorem nDN : ¬ kD = kN := by decide +kernel
theorem nDF : ¬ kD = kF := by decide +kernel
theorem nNF : ¬ kN = kF := by decide +kernel
theorem strN {x y : Str} (h : ¬ (Sum.inr x : Key) = Sum.inr y) : ¬ x = y := fun e => h (by rw [e])
theorem strN' {x y : Str} (h : ¬ (Sum.inr x : Key) = Sum.inr y) : ¬ y = x := fun e => h (by rw [e])
section
variable (l : Addr) (i dg ct fd z : Int)
theorem gC : valV (bagK l i dg ct fd) kC = some (.ref l) := valV_pos rfl
theorem gA : valV (bagK l i dg ct fd) kA = some (.int i) := by unfold bagK; rw [valV_neg nCA, valV_pos rfl]
theorem gD : valV (bagK l i dg ct fd) kD = some (.int dg) := by unfold bagK; rw [valV_neg nCD, valV_neg nAD, valV_pos rfl]
theorem gN : valV (bagK l i dg ct fd) kN = some (.int ct) := by unfold bagK; rw [valV_neg nCN, valV_neg nAN, valV_neg nDN, valV_pos rfl]
theorem gF : valV (bagK l i dg ct fd) kF = some (.int fd) := by unfold bagK; rw [valV_neg nCF, valV_neg nAF, valV_neg nDF, valV_neg nNF, valV_pos rfl]
theorem pA : putK (bagK l i dg ct fd) kA (.int z) = bagK l z dg ct fd := by
  unfold putK
  rw [valV_any, gA, Option.isSome_some, if_pos rfl]
  simp [bagK, strN nCA, strN' nAD, strN' nAN, strN' nAF]
theorem pD : putK (bagK l i dg ct fd) kD (.int z) = bagK l i z ct fd := by
  unfold putK
  rw [valV_any, gD, Option.isSome_some, if_pos rfl]
  simp [bagK, strN nCD, strN nAD, strN' nDN, strN' nDF]
theorem pN : putK (bagK l i dg ct fd) kN (.int z) = bagK l i dg z fd := by
  unfold putK
  rw [valV_any, gN, Option.isSome_some, if_pos rfl]
  simp [bagK, strN nCN, strN nAN, strN nDN, strN' nNF]
theorem pF : putK (bagK l i dg ct fd) kF (.int z) = bagK l i dg ct z := by
  unfold putK
  rw [valV_any, gF, Option.isSome_some, if_pos rfl]
  simp [bagK, strN nCF, strN nAF, strN nDF, strN nNF]
end
/-- a bag stands at p, n draws were taken -/
def Bag (H : Hp) (p : Addr) (n : Nat) : Prop := ∃ (l : Addr) (ns : List Int) (i dg fd : Int), H p = some (.dK (bagK l i dg (n : Int) fd)) ∧ H l = some (.lst (ns.map V.int)) ∧ ns.length ≤ 63 ∧ 0 ≤ i ∧ 0 ≤ dg ∧ 0 ≤ fd ∧ fd < 2147483587
theorem Bag.keep {H H' : Hp} {p : Addr} {n : Nat} (b : Bag H p n) (e : Same H H') : Bag H' p n := by
  obtain ⟨l, ns, i, dg, fd, h1, h2, q⟩ := b
  exact ⟨l, ns, i, dg, fd, e _ _ h1, e _ _ h2, q⟩
theorem Bag.at {H : Hp} {p : Addr} {n : Nat} (b : Bag H p n) : ∃ o, H p = some o := by
  obtain ⟨l, ns, i, dg, fd, h1, _⟩ := b
  exact ⟨_, h1⟩
/-- all but p as it was -/
def But (p : Addr) (H H' : Hp) : Prop := ∀ b o, b ≠ p → H b = some o → H' b = some o
theorem But.refl (p : Addr) (H : Hp) : But p H H := fun _ _ _ e => e
theorem But.trans {p : Addr} {H H1 H2 : Hp} (a : But p H H1) (b : But p H1 H2) : But p H H2 := fun c o n e => b c o n (a c o n e)
theorem Same.but {p : Addr} {H H' : Hp} (e : Same H H') : But p H H' := fun b o _ h => e b o h
theorem But.upd {p : Addr} {H : Hp} {o : HO} : But p H (upd H p o) := fun b u n e => by rw [upd_ne n]; exact e
theorem But.free {p : Addr} {H H' : Hp} {n : Nat} (e : But p H H') (b : Bag H' p n) {x : Addr} (h : H' x = none) : H x = none := by
  cases q : H x with
  | none => rfl
  | some o =>
    by_cases z : x = p
    · obtain ⟨u, hu⟩ := b.at
      rw [z, hu] at h
      cases h
    · rw [e x o z q] at h
      cases h
theorem new_same {H : Hp} {p : Addr} {o : HO} (h : H p = none) : Same H (upd H p o) := fun b u q => by rw [upd_ne (ne_of_none q h)]; exact q
/-- _law_draw -/
def spDraw : Sp := fun vs H Q _ => ∃ (p : Addr) (n : Nat) (m : Int), vs = [.ref p, .int m] ∧ Bag H p n ∧ n ≤ 1000000 ∧ 0 < m ∧ m.natAbs < 2 ^ 8000 ∧
  ∀ (r : Int) (H' : Hp), 0 ≤ r → r < m → Bag H' p (n + 1) → But p H H' → Q (.int r) H'
/-- _law_bag -/
def spBag (K : PySem.W.Frag) : Sp := fun vs H Q _ => ∃ (a : Addr) (ns : List Int), vs = [.ref a] ∧ SqL K H a (ns.map V.int) ∧ ns.length ≤ 63 ∧
  ∀ (p : Addr) (H' : Hp), H p = none → Same H H' → Bag H' p 0 → Q (.ref p) H'
/-- built-ins that the draws use -/
structure BltT (mg : Str → Option Value) : Prop where
  int : mg "int" = none
  list : mg "list" = none
  len : mg "len" = none
theorem big17 {x : Int} (h0 : 0 ≤ x) (h : x < 18446744073709551616) : 0 ≤ (17 : Int) ∧ (17 : Int) ≤ 1000000 ∧ x.natAbs < 2 ^ 64 := ⟨by decide, by decide, by omega⟩
end Hx
/-! ## An error class with all that is asked of it -/
namespace Hx
open PySem PySem.Spec PyProof.Rows L2
structure ClT (K : PySem.W.Frag) (mg : Str → Option Value) (x qual : Str) (st : Stmt) (ps fl : List Str) (C fI : Addr) : Prop where
  ex : ExT K mg x C fI
  fn : ∃ fd, Fun K "__init__" qual st fI fd ∧ Binds K fd ps []
  nf : ∀ f ∈ fl, PySem.W.findIn K (.ref C) f = some none
  xf : XfC K C
  is : ExcC K C
/-- how an error that was made from a, b, c leaves: field f of the class at C -/
def err1 (C : Addr) (f : Str) (a : V) (H : Hp) (E : XK) : Prop := ∀ d, H d = none → E (.ref C) (some d) (upd H d (.xd [(f, a)]))
def err3 (C : Addr) (f g k : Str) (a b c : V) (H : Hp) (E : XK) : Prop := ∀ d, H d = none → E (.ref C) (some d) (upd H d (.xd [(k, c), (g, b), (f, a)]))
section
variable {X : Cx} {e : Expr} {es : List Expr} {ta : TA} {p pos pos2 : Pos} {W : WX}
/-- raise C(..) -/
def tRz (C : Addr) (sp : Sp) (W : WX) (ta : TA) : TS := fun _ σ H => tMkO C sp [] ta σ H fun cls d H' => W cls d σ H'
theorem rd1 {K : PySem.W.Frag} {C : Addr} {f : Str} {i : Nat} {W : WX} {D : Ends} {σ : L2.St} {H : Hp} {v : V} (T : OexC K C) (nf : PySem.W.findIn K (.ref C) f = some none) (hi : σ[i]? = some (some v)) (h : err1 C f v H fun cls d H' => W cls d σ H') :
    tRz C (spI1 K f) W (tCons (tVar i) tNil) D σ H := ⟨v, hi, mk1 (Q := fun cls d H' => W cls d σ H') T nf h⟩
theorem rd3 {K : PySem.W.Frag} {C : Addr} {f g h : Str} {i j k : Nat} {W : WX} {D : Ends} {σ : L2.St} {H : Hp} {u v z : V} (T : OexC K C) (n1 : PySem.W.findIn K (.ref C) f = some none) (n2 : PySem.W.findIn K (.ref C) g = some none) (n3 : PySem.W.findIn K (.ref C) h = some none)
    (hi : σ[i]? = some (some u)) (hj : σ[j]? = some (some v)) (hk : σ[k]? = some (some z)) (q : err3 C f g h u v z H fun cls d H' => W cls d σ H') :
    tRz C (spI3 K f g h) W (tCons (tVar i) (tCons (tVar j) (tCons (tVar k) tNil))) D σ H := ⟨u, hi, v, hj, z, hk, mk3 (Q := fun cls d H' => W cls d σ H') T n1 n2 n3 q⟩
theorem ps_rz {x qual : Str} {st : Stmt} {ps fl : List Str} {sp : Sp} {C fI : Addr} (hc : X.calm = true) (tk : Takes X W) (T : ClT X.K X.mg x qual st ps fl C fI) (ok : ∀ fd, Fun X.K "__init__" qual st fI fd → FnOk X.prog X.w X.K X.mg X.base CX0 1 fI fd ps sp) (hr : Room 2 X.A)
    (ha : PA X (e :: es) ta) (hg : Gl X x := by rfl) (hdb : (x == ("__debug__" : Str)) = false := by decide) (hs : starEach (e :: es) X.env = (false, eval e X.env) :: starEach es X.env := by rfl) (hp : (backTo pos (starEach es X.env)).any (·.1) = false := by rfl) :
    PS X (.Raise (some (.Call (.Name x p) (e :: es) [] pos)) none pos2) (tRz C sp W ta) := by
  obtain ⟨fd, F, b⟩ := T.fn
  exact ps_raise hc tk (pmk_oex T.ex.oex T.ex.iC T.ex.tI (ok fd F) hr b .nil pass0 hg T.ex.gC ha hdb hs hp)
/-- raise C() -/
def tR0 (C : Addr) (W : WX) : TS := fun _ σ H => W (.ref C) none σ H
theorem ps_r0 {x qual : Str} {st : Stmt} {C fI : Addr} (hc : X.calm = true) (tk : Takes X W) (T : ClT X.K X.mg x qual st ["self"] [] C fI) (ok : ∀ fd, Fun X.K "__init__" qual st fI fd → FnOk X.prog X.w X.K X.mg X.base CX0 1 fI fd ["self"] (spI0 X.K)) (hr : Room 2 X.A) (hg : Gl X x := by rfl)
    (hdb : (x == ("__debug__" : Str)) = false := by decide) : PS X (.Raise (some (.Call (.Name x p) [] [] pos)) none pos2) (tR0 C W) := by
  obtain ⟨fd, F, b⟩ := T.fn
  exact ps_raise hc tk (pmk_none T.ex (ok fd F) hr b hg hdb)
end
end Hx
/-! ## A def that is handed the error that its caller's suite holds -/
namespace Hx
open PySem PySem.Spec PyProof.Rows L2
/-- as FnOk, while an error is handled; its object p stands still and may be looked at -/
structure FnP (P : Program) (w : World) (K : PySem.W.Frag) (mg : Str → Option Value) (base : Heap) (k : Nat) (f : Addr) (fd : FuncData) (ps : List Str) (sp : Addr × Obj → Sp) : Prop where
  len : ∀ p vs H Q E, sp p vs H Q E → vs.length = ps.length
  run : ∀ (p : Addr × Obj) (A : Around) (outer : List Env) (s : Shared) (H : Hp) (args : Args) (us : List Value) (vs : List V) (Q : VK) (E : XK), L2H.RoomH k A → L2H.PinOk outer H s p → Env0 P w K mg base A outer s H → BindsTo s fd args (ps.zip us) → Vals vs us → sp p vs H Q E →
    codeAny (model P w) A (.call (.ref f) args) (CR CX0 outer P w H s Q E) s
theorem fnP_of {P : Program} {w : World} {K : PySem.W.Frag} {mg : Str → Option Value} {base : Heap} {k : Nat} {x qual : Str} {st : Stmt} {f : Addr} {fd : FuncData} {N ps : List Str} {sp : Addr × Obj → Sp} (F : Fun K x qual st f fd) (S : FnScope N ps (defScope st)) (ln : ∀ p vs H Q E, sp p vs H Q E → vs.length = ps.length)
    (hb : ∀ (p : Addr × Obj) (cdv : Value) (A : Around) (outer : List Env) (s : Shared) (H : Hp) (vs : List V) (Q : VK) (E : XK), L2H.RoomH k (A.deeper (envOfC qual (defScope st) s.heap.objs.size f cdv)) → sp p vs H Q E →
      ∃ t, PSs (L2H.cxH CX0 P w K mg base N qual (defScope st) f cdv A outer s H E p).nox (defBody st) t ∧ t { nx := fun _ G => Q .non G, rt := Q } (L2.start N vs) H) : FnP P w K mg base (k + 1) f fd ps sp := by
  obtain ⟨oc, od, kV, doc, pm, an, cdv, ct, osl, rfl, lk, hcd⟩ := F.ex
  constructor
  · exact ln
  intro p A outer s H args us vs Q E hr pin e0 bd rv hsp
  have KX : K.In s.heap := e0.mod.kin.keeps fun b o z => (e0.bs b o z).1
  refine codeAny_call_function hr.depth (KX _ _ lk) rfl S.co S.gen rfl (PySem.W.codeRec_of KX hcd) (bd _ _ _ _ (wpAny_newFunctionEnv_cells S.kind ?_ fun env he t1 ic => ?_))
  · rintro ⟨n, v⟩ hy
    rcases S.par n (List.of_mem_zip hy).1 with z | z
    · exact .inl z
    · exact .inr ⟨z, PySem.W.cellsFrom_some _ _ _ (.inl z)⟩
  subst he
  refine ⟨(e0.mod.nolimit.keeps fun b o z => (e0.bs b o z).1).keeps ic.toInCall.keep, codeAny_func ?_⟩
  obtain ⟨t, ht, hq⟩ := hb p cdv A outer s H vs Q E (hr.deeper _) hsp
  have I := L2H.inv_startH (CX := CX0) (E := E) S pin e0 (ln _ _ _ _ _ hsp) rv ic
  refine wpAny_mono (ht.nox.run [] t1 _ H _ I hq) (fun fl s' hs => ?_) fun _ _ z => z
  cases fl with
  | ret u => obtain ⟨v, ρ, G, J, r, q⟩ := hs; exact ⟨v, G, J.os, J.bare, J.base, J.hok, r, q⟩
  | next => obtain ⟨ρ, G, J, q⟩ := hs; exact ⟨.non, G, J.os, J.bare, J.base, J.hok, rfl, q⟩
  | brk => obtain ⟨ρ, G, J, z⟩ := hs; exact False.elim z
  | cont => obtain ⟨ρ, G, J, z⟩ := hs; exact False.elim z
section
variable {X : Cx} {k : Nat} {f : Addr} {fd : FuncData} {ps : List Str} {sp : Addr × Obj → Sp} {x : Str} {q pos : Pos} {e : Expr} {es : List Expr} {t : TA} {p : Addr × Obj}
theorem pe_callP (F : FnP X.prog X.w X.K X.mg X.base k f fd ps sp) (hp : p ∈ X.pn) (hr : L2H.RoomH k X.A) (hm : X.mg x = some (.ref f)) (hk : PySem.W.keepIn X.K (.ref f) = true) (hb : Binds X.K fd ps []) (ha : PA X (e :: es) t) (hg : Gl X x := by rfl)
    (hdb : (x == ("__debug__" : Str)) = false := by decide) (h1 : starEach (e :: es) X.env = (false, eval e X.env) :: starEach es X.env := by rfl) (h2 : (backTo pos (starEach es X.env)).any (·.1) = false := by rfl) :
    PE X (.Call (.Name x q) (e :: es) [] pos) (tCallS (sp p) (fun _ _ _ _ => False) t) := by
  constructor
  intro pins s σ H Q I h
  refine wpAny_Call_Name_kw (ld_glob I hg hm ?_ hdb)
  refine PySem.W.callWith_K (h₀ := X.base) I.ok.mod.kin hk (thn (ha.run pos pins s σ H _ I h) ?_) h1 h2
  rintro us s1 ⟨vs, H1, I1, r, hsp⟩
  refine ⟨I1.kIn, ?_⟩
  have hl : us.length = ps.length := by rw [← r.length]; exact F.len _ _ _ _ _ hsp
  have bd := hb s1 us I1.kIn (by rw [List.append_nil]; exact hl)
  rw [List.append_nil] at bd
  have pn := I1.pin p (List.mem_append_left _ hp)
  have pin : L2H.PinOk X.stack H1 s1 p := ⟨pn.1, pn.2.1, fun hm => (List.mem_cons.mp (I1.stkSub p.1 hm)).elim pn.2.2.1 pn.2.2.2.1, pn.2.2.2.2⟩
  refine wpAny_call (codeAny_mono (F.run p X.A X.stack s1 H1 ⟨us, []⟩ us vs Q (fun _ _ _ => False) hr pin I1.env0 bd r hsp) fun r s' hq => ?_)
  cases r with
  | error er => exact hq.elim
  | ok fl =>
    cases fl with
    | ret u => exact I1.after hq
    | next => exact False.elim hq
    | brk => exact False.elim hq
    | cont => exact False.elim hq
end
end Hx
/-! ## What the top has written, told by two answers -/
namespace Hx
open PySem PySem.Spec PyProof.Rows L2
/-- what is asked of the error class at C, of its __init__ at f, of its fields -/
def clsB (K : PySem.W.Frag) (C f : Addr) (fl : List Str) : Bool :=
  decide (PySem.W.findIn K (.ref C) "__setattr__" = some (some (.builtin "object.__setattr__"))) && (decide (PySem.W.findIn K (.ref C) "__getattribute__" = some (some (.builtin "BaseException.__getattribute__"))) &&
  (decide (PySem.W.findIn K (.ref C) "__getattr__" = some none) && (decide (PySem.W.subIn K (.ref C) (.type "BaseException") = some true) && (decide (PySem.W.typeIn K (.ref C) = some (.type "type")) && (PySem.W.hasDictIn K C && (PySem.W.keepIn K (.ref C) &&
  (decide (PySem.W.findIn K (.ref C) "__class__" = some (some (.builtin "object.__class__"))) && (decide (PySem.W.specialIn K (.builtin "object.__class__") "__get__" = some (some (.builtin "getset_descriptor.__get__"))) && (decide (PySem.W.takesIn K (.builtin "object.__class__") = some true) &&
  (decide (PySem.W.mroIn K C (.type "object") = some true) && (decide (PySem.W.findIn K (.ref C) "__init__" = some (some (.ref f))) && (decide (PySem.W.typeIn K (.ref f) = some (.type "function")) && fl.all fun x => decide (PySem.W.findIn K (.ref C) x = some none)))))))))))))
theorem cl_mk {K : PySem.W.Frag} {h : Heap} {mg : Str → Option Value} {x qual : Str} {st : Stmt} {ps fl : List Str} {C f D : Addr} (X : K.In h) (G : h.Ns mainGlobals mg) (aC : PySem.W.nsIn K mainGlobals x = some (some (.ref C))) {nm q : Str} {N : Addr} {bs : List Value} {sn : List Str} {sub : List Value} {ab : Bool} {col : Option Bool} {dd : Option Addr} {m0 m1 m2 m3 m5 : Option Value}
    (xL : K.lookup C = some (excClassObj nm q C N bs [.ref D, .type "ValueError", .type "Exception", .type "BaseException", .type "object"] true sn sub ab col dd m0 m1 m2 m3 m5 "ValueError.__new__")) {oc : Value} {od an : Option Addr} {osl : Array (Option Value)} {kV doc pm cdv ct : Value}
    (lf : K.lookup f = some ⟨oc, od, .func (PySem.W.fnOf "__init__" qual (defArgs st) (defBody st) (defScope st) .none kV doc pm an cdv ct), osl⟩) (cf : PySem.W.codeIn K cdv qual = true) (kf : PySem.W.keepIn K (.ref f) = true)
    (hb : ∀ (kV doc pm : Value) (an : Option Addr) (cdv ct : Value) (us : List Value), us.length = ps.length → bindArgs (PySem.W.fnOf "__init__" qual (defArgs st) (defBody st) (defScope st) .none kV doc pm an cdv ct) ⟨us, []⟩ = pure (ps.zip us)) (b : clsB K C f fl = true) :
    ClT K mg x qual st ps fl C f := by
  unfold clsB at b
  simp only [Bool.and_eq_true, decide_eq_true_eq, List.all_eq_true] at b
  obtain ⟨sa, ga, gg, eC, tC, hC, kC, cc, cn, ct', mo, iC, tI, nf⟩ := b
  have F := fun_mk (st := st) lf cf kf
  exact ⟨⟨⟨⟨nm, q, N, bs, _, sn, sub, ab, col, dd, m0, m1, m2, m3, m5, xL, by rfl⟩, sa, eC, tC, kC⟩, PySem.W.mg_of X G aC, iC, tI⟩, ⟨_, F, F.binds hb⟩, nf, ⟨ga, gg, eC, hC⟩, ⟨ga, gg, eC, hC, cc, cn, ct', mo⟩⟩
/-- which error is of which class -/
def pairsB (K : PySem.W.Frag) (D : Addr) (Cs : List Addr) : Bool := (List.range Cs.length).all fun j => decide (PySem.W.exmOne K (.ref (Cs.getD j 0)) (.ref D) = some true) && (decide (PySem.W.kitOne K (.ref (Cs.getD j 0)) (.type "ValueError") = some true) && (List.range Cs.length).all fun k =>
  decide (PySem.W.exmOne K (.ref (Cs.getD j 0)) (.ref (Cs.getD k 0)) = some (decide (j = k))) && decide (PySem.W.kitOne K (.ref (Cs.getD j 0)) (.ref (Cs.getD k 0)) = some (decide (j = k))))
theorem pairs_of {K : PySem.W.Frag} {D : Addr} {Cs : List Addr} (b : pairsB K D Cs = true) {j : Nat} (hj : j < Cs.length) : PySem.W.exmOne K (.ref (Cs.getD j 0)) (.ref D) = some true ∧ PySem.W.kitOne K (.ref (Cs.getD j 0)) (.type "ValueError") = some true ∧
    ∀ k, k < Cs.length → PySem.W.exmOne K (.ref (Cs.getD j 0)) (.ref (Cs.getD k 0)) = some (decide (j = k)) ∧ PySem.W.kitOne K (.ref (Cs.getD j 0)) (.ref (Cs.getD k 0)) = some (decide (j = k)) := by
  unfold pairsB at b
  rw [List.all_eq_true] at b
  have z := b j (List.mem_range.mpr hj)
  simp only [Bool.and_eq_true, decide_eq_true_eq, List.all_eq_true] at z
  exact ⟨z.1, z.2.1, fun k hk => z.2.2 k (List.mem_range.mpr hk)⟩
end Hx

namespace H0
open PySem PySem.Spec PyProof.Rows L2 Hx
def top (i : Nat) : Stmt := PySem.Challenge.pw_heapcode_k00_errors_made_from_their_fiel.main.body.getD i (.Pass ⟨0, 0, 0, 0⟩)
abbrev sBag : Stmt := top 18
abbrev sDraw : Stmt := top 19
abbrev sthing : Stmt := top 20
abbrev sraised_0 : Stmt := top 21
abbrev sraised_1 : Stmt := top 22
abbrev sraised : Stmt := top 23
abbrev skinds_of : Stmt := top 24
abbrev scaught : Stmt := top 25
abbrev sfields_0 : Stmt := top 26
abbrev sfields_1 : Stmt := top 27
abbrev sfields : Stmt := top 28
abbrev slaw : Stmt := top 29
section
variable {P : Program} {w : World} {K : PySem.W.Frag} {mg : Str → Option Value} {base : Heap} {D : Addr}
abbrev iBadKind : Stmt := inClass (top 2) 0
theorem scBadKind : FnScope ["self", "kind"] ["self", "kind"] (defScope iBadKind) := ⟨rfl, rfl, rfl, by decide +kernel, rfl, by decide +kernel, by decide +kernel⟩
theorem okBadKind {fI : Addr} {fd : FuncData} (F : Fun K "__init__" "BadKind.__init__" iBadKind fI fd) (B : BaseT K mg D) : FnOk P w K mg base CX0 1 fI fd ["self", "kind"] (spI1 K "kind") := by
  refine F.ok scBadKind (fun vs H Q E h => ?_) (fun cdv A outer s H vs Q E hr h => ?_)
  · obtain ⟨a, C, v, rfl, _⟩ := h
    rfl
  · obtain ⟨a, C, v, rfl, T, n1, ea, q⟩ := h
    refine ⟨_, pss_cons (ps_expr (pe_binit B.gB B.rdB B.fcB (pa_cons (pv 0) (pa_cons pe_str pa_nil)))) (pss_one (ps_ost (pv 0) (pv 1))), ?_⟩
    refine ⟨_, rfl, a, C, _, rfl, (by show 1 ≤ 1000; decide), T, ea, _, rfl, _, rfl, a, C, rfl, T, n1, .inl ⟨ea, fun dx nd ne => ?_⟩⟩
    exact q dx nd ne
abbrev iBadWidth : Stmt := inClass (top 3) 0
theorem scBadWidth : FnScope ["self", "width"] ["self", "width"] (defScope iBadWidth) := ⟨rfl, rfl, rfl, by decide +kernel, rfl, by decide +kernel, by decide +kernel⟩
theorem okBadWidth {fI : Addr} {fd : FuncData} (F : Fun K "__init__" "BadWidth.__init__" iBadWidth fI fd) (B : BaseT K mg D) : FnOk P w K mg base CX0 1 fI fd ["self", "width"] (spI1 K "width") := by
  refine F.ok scBadWidth (fun vs H Q E h => ?_) (fun cdv A outer s H vs Q E hr h => ?_)
  · obtain ⟨a, C, v, rfl, _⟩ := h
    rfl
  · obtain ⟨a, C, v, rfl, T, n1, ea, q⟩ := h
    refine ⟨_, pss_cons (ps_expr (pe_binit B.gB B.rdB B.fcB (pa_cons (pv 0) (pa_cons pe_str pa_nil)))) (pss_one (ps_ost (pv 0) (pv 1))), ?_⟩
    refine ⟨_, rfl, a, C, _, rfl, (by show 1 ≤ 1000; decide), T, ea, _, rfl, _, rfl, a, C, rfl, T, n1, .inl ⟨ea, fun dx nd ne => ?_⟩⟩
    exact q dx nd ne
abbrev iBadLine : Stmt := inClass (top 4) 0
theorem scBadLine : FnScope ["self", "line"] ["self", "line"] (defScope iBadLine) := ⟨rfl, rfl, rfl, by decide +kernel, rfl, by decide +kernel, by decide +kernel⟩
theorem okBadLine {fI : Addr} {fd : FuncData} (F : Fun K "__init__" "BadLine.__init__" iBadLine fI fd) (B : BaseT K mg D) : FnOk P w K mg base CX0 1 fI fd ["self", "line"] (spI1 K "line") := by
  refine F.ok scBadLine (fun vs H Q E h => ?_) (fun cdv A outer s H vs Q E hr h => ?_)
  · obtain ⟨a, C, v, rfl, _⟩ := h
    rfl
  · obtain ⟨a, C, v, rfl, T, n1, ea, q⟩ := h
    refine ⟨_, pss_cons (ps_expr (pe_binit B.gB B.rdB B.fcB (pa_cons (pv 0) (pa_cons pe_str pa_nil)))) (pss_one (ps_ost (pv 0) (pv 1))), ?_⟩
    refine ⟨_, rfl, a, C, _, rfl, (by show 1 ≤ 1000; decide), T, ea, _, rfl, _, rfl, a, C, rfl, T, n1, .inl ⟨ea, fun dx nd ne => ?_⟩⟩
    exact q dx nd ne
abbrev iRefused : Stmt := inClass (top 5) 0
theorem scRefused : FnScope ["self", "line"] ["self", "line"] (defScope iRefused) := ⟨rfl, rfl, rfl, by decide +kernel, rfl, by decide +kernel, by decide +kernel⟩
theorem okRefused {fI : Addr} {fd : FuncData} (F : Fun K "__init__" "Refused.__init__" iRefused fI fd) (B : BaseT K mg D) : FnOk P w K mg base CX0 1 fI fd ["self", "line"] (spI1 K "line") := by
  refine F.ok scRefused (fun vs H Q E h => ?_) (fun cdv A outer s H vs Q E hr h => ?_)
  · obtain ⟨a, C, v, rfl, _⟩ := h
    rfl
  · obtain ⟨a, C, v, rfl, T, n1, ea, q⟩ := h
    refine ⟨_, pss_cons (ps_expr (pe_binit B.gB B.rdB B.fcB (pa_cons (pv 0) (pa_cons pe_str pa_nil)))) (pss_one (ps_ost (pv 0) (pv 1))), ?_⟩
    refine ⟨_, rfl, a, C, _, rfl, (by show 1 ≤ 1000; decide), T, ea, _, rfl, _, rfl, a, C, rfl, T, n1, .inl ⟨ea, fun dx nd ne => ?_⟩⟩
    exact q dx nd ne
abbrev iBadItem : Stmt := inClass (top 6) 0
theorem scBadItem : FnScope ["self", "index"] ["self", "index"] (defScope iBadItem) := ⟨rfl, rfl, rfl, by decide +kernel, rfl, by decide +kernel, by decide +kernel⟩
theorem okBadItem {fI : Addr} {fd : FuncData} (F : Fun K "__init__" "BadItem.__init__" iBadItem fI fd) (B : BaseT K mg D) : FnOk P w K mg base CX0 1 fI fd ["self", "index"] (spI1 K "index") := by
  refine F.ok scBadItem (fun vs H Q E h => ?_) (fun cdv A outer s H vs Q E hr h => ?_)
  · obtain ⟨a, C, v, rfl, _⟩ := h
    rfl
  · obtain ⟨a, C, v, rfl, T, n1, ea, q⟩ := h
    refine ⟨_, pss_cons (ps_expr (pe_binit B.gB B.rdB B.fcB (pa_cons (pv 0) (pa_cons pe_str pa_nil)))) (pss_one (ps_ost (pv 0) (pv 1))), ?_⟩
    refine ⟨_, rfl, a, C, _, rfl, (by show 1 ≤ 1000; decide), T, ea, _, rfl, _, rfl, a, C, rfl, T, n1, .inl ⟨ea, fun dx nd ne => ?_⟩⟩
    exact q dx nd ne
abbrev iBadCase : Stmt := inClass (top 7) 0
theorem scBadCase : FnScope ["self", "what"] ["self", "what"] (defScope iBadCase) := ⟨rfl, rfl, rfl, by decide +kernel, rfl, by decide +kernel, by decide +kernel⟩
theorem okBadCase {fI : Addr} {fd : FuncData} (F : Fun K "__init__" "BadCase.__init__" iBadCase fI fd) (B : BaseT K mg D) : FnOk P w K mg base CX0 1 fI fd ["self", "what"] (spI1 K "what") := by
  refine F.ok scBadCase (fun vs H Q E h => ?_) (fun cdv A outer s H vs Q E hr h => ?_)
  · obtain ⟨a, C, v, rfl, _⟩ := h
    rfl
  · obtain ⟨a, C, v, rfl, T, n1, ea, q⟩ := h
    refine ⟨_, pss_cons (ps_expr (pe_binit B.gB B.rdB B.fcB (pa_cons (pv 0) (pa_cons pe_str pa_nil)))) (pss_one (ps_ost (pv 0) (pv 1))), ?_⟩
    refine ⟨_, rfl, a, C, _, rfl, (by show 1 ≤ 1000; decide), T, ea, _, rfl, _, rfl, a, C, rfl, T, n1, .inl ⟨ea, fun dx nd ne => ?_⟩⟩
    exact q dx nd ne
abbrev iBadPromise : Stmt := inClass (top 8) 0
theorem scBadPromise : FnScope ["self", "promise"] ["self", "promise"] (defScope iBadPromise) := ⟨rfl, rfl, rfl, by decide +kernel, rfl, by decide +kernel, by decide +kernel⟩
theorem okBadPromise {fI : Addr} {fd : FuncData} (F : Fun K "__init__" "BadPromise.__init__" iBadPromise fI fd) (B : BaseT K mg D) : FnOk P w K mg base CX0 1 fI fd ["self", "promise"] (spI1 K "promise") := by
  refine F.ok scBadPromise (fun vs H Q E h => ?_) (fun cdv A outer s H vs Q E hr h => ?_)
  · obtain ⟨a, C, v, rfl, _⟩ := h
    rfl
  · obtain ⟨a, C, v, rfl, T, n1, ea, q⟩ := h
    refine ⟨_, pss_cons (ps_expr (pe_binit B.gB B.rdB B.fcB (pa_cons (pv 0) (pa_cons pe_str pa_nil)))) (pss_one (ps_ost (pv 0) (pv 1))), ?_⟩
    refine ⟨_, rfl, a, C, _, rfl, (by show 1 ≤ 1000; decide), T, ea, _, rfl, _, rfl, a, C, rfl, T, n1, .inl ⟨ea, fun dx nd ne => ?_⟩⟩
    exact q dx nd ne
abbrev iNoLine : Stmt := inClass (top 9) 0
theorem scNoLine : FnScope ["self", "line"] ["self", "line"] (defScope iNoLine) := ⟨rfl, rfl, rfl, by decide +kernel, rfl, by decide +kernel, by decide +kernel⟩
theorem okNoLine {fI : Addr} {fd : FuncData} (F : Fun K "__init__" "NoLine.__init__" iNoLine fI fd) (B : BaseT K mg D) : FnOk P w K mg base CX0 1 fI fd ["self", "line"] (spI1 K "line") := by
  refine F.ok scNoLine (fun vs H Q E h => ?_) (fun cdv A outer s H vs Q E hr h => ?_)
  · obtain ⟨a, C, v, rfl, _⟩ := h
    rfl
  · obtain ⟨a, C, v, rfl, T, n1, ea, q⟩ := h
    refine ⟨_, pss_cons (ps_expr (pe_binit B.gB B.rdB B.fcB (pa_cons (pv 0) (pa_cons pe_str pa_nil)))) (pss_one (ps_ost (pv 0) (pv 1))), ?_⟩
    refine ⟨_, rfl, a, C, _, rfl, (by show 1 ≤ 1000; decide), T, ea, _, rfl, _, rfl, a, C, rfl, T, n1, .inl ⟨ea, fun dx nd ne => ?_⟩⟩
    exact q dx nd ne
abbrev iBadSize : Stmt := inClass (top 10) 0
theorem scBadSize : FnScope ["self", "n"] ["self", "n"] (defScope iBadSize) := ⟨rfl, rfl, rfl, by decide +kernel, rfl, by decide +kernel, by decide +kernel⟩
theorem okBadSize {fI : Addr} {fd : FuncData} (F : Fun K "__init__" "BadSize.__init__" iBadSize fI fd) (B : BaseT K mg D) : FnOk P w K mg base CX0 1 fI fd ["self", "n"] (spI1 K "n") := by
  refine F.ok scBadSize (fun vs H Q E h => ?_) (fun cdv A outer s H vs Q E hr h => ?_)
  · obtain ⟨a, C, v, rfl, _⟩ := h
    rfl
  · obtain ⟨a, C, v, rfl, T, n1, ea, q⟩ := h
    refine ⟨_, pss_cons (ps_expr (pe_binit B.gB B.rdB B.fcB (pa_cons (pv 0) (pa_cons pe_str pa_nil)))) (pss_one (ps_ost (pv 0) (pv 1))), ?_⟩
    refine ⟨_, rfl, a, C, _, rfl, (by show 1 ≤ 1000; decide), T, ea, _, rfl, _, rfl, a, C, rfl, T, n1, .inl ⟨ea, fun dx nd ne => ?_⟩⟩
    exact q dx nd ne
abbrev iOtherKinds : Stmt := inClass (top 11) 0
theorem scOtherKinds : FnScope ["self"] ["self"] (defScope iOtherKinds) := ⟨rfl, rfl, rfl, by decide +kernel, rfl, by decide +kernel, by decide +kernel⟩
theorem okOtherKinds {fI : Addr} {fd : FuncData} (F : Fun K "__init__" "OtherKinds.__init__" iOtherKinds fI fd) (B : BaseT K mg D) : FnOk P w K mg base CX0 1 fI fd ["self"] (spI0 K) := by
  refine F.ok scOtherKinds (fun vs H Q E h => ?_) (fun cdv A outer s H vs Q E hr h => ?_)
  · obtain ⟨a, C, rfl, _⟩ := h
    rfl
  · obtain ⟨a, C, rfl, T, ea, q⟩ := h
    refine ⟨_, pss_one (ps_expr (pe_binit B.gB B.rdB B.fcB (pa_cons (pv 0) (pa_cons pe_str pa_nil)))), ?_⟩
    exact ⟨_, rfl, a, C, _, rfl, (by show 1 ≤ 1000; decide), T, ea, q⟩
abbrev iOtherWidths : Stmt := inClass (top 12) 0
theorem scOtherWidths : FnScope ["self"] ["self"] (defScope iOtherWidths) := ⟨rfl, rfl, rfl, by decide +kernel, rfl, by decide +kernel, by decide +kernel⟩
theorem okOtherWidths {fI : Addr} {fd : FuncData} (F : Fun K "__init__" "OtherWidths.__init__" iOtherWidths fI fd) (B : BaseT K mg D) : FnOk P w K mg base CX0 1 fI fd ["self"] (spI0 K) := by
  refine F.ok scOtherWidths (fun vs H Q E h => ?_) (fun cdv A outer s H vs Q E hr h => ?_)
  · obtain ⟨a, C, rfl, _⟩ := h
    rfl
  · obtain ⟨a, C, rfl, T, ea, q⟩ := h
    refine ⟨_, pss_one (ps_expr (pe_binit B.gB B.rdB B.fcB (pa_cons (pv 0) (pa_cons pe_str pa_nil)))), ?_⟩
    exact ⟨_, rfl, a, C, _, rfl, (by show 1 ≤ 1000; decide), T, ea, q⟩
abbrev iBadName : Stmt := inClass (top 13) 0
theorem scBadName : FnScope ["self", "name"] ["self", "name"] (defScope iBadName) := ⟨rfl, rfl, rfl, by decide +kernel, rfl, by decide +kernel, by decide +kernel⟩
theorem okBadName {fI : Addr} {fd : FuncData} (F : Fun K "__init__" "BadName.__init__" iBadName fI fd) (B : BaseT K mg D) : FnOk P w K mg base CX0 1 fI fd ["self", "name"] (spI1 K "name") := by
  refine F.ok scBadName (fun vs H Q E h => ?_) (fun cdv A outer s H vs Q E hr h => ?_)
  · obtain ⟨a, C, v, rfl, _⟩ := h
    rfl
  · obtain ⟨a, C, v, rfl, T, n1, ea, q⟩ := h
    refine ⟨_, pss_cons (ps_expr (pe_binit B.gB B.rdB B.fcB (pa_cons (pv 0) (pa_cons pe_str pa_nil)))) (pss_one (ps_ost (pv 0) (pv 1))), ?_⟩
    refine ⟨_, rfl, a, C, _, rfl, (by show 1 ≤ 1000; decide), T, ea, _, rfl, _, rfl, a, C, rfl, T, n1, .inl ⟨ea, fun dx nd ne => ?_⟩⟩
    exact q dx nd ne
abbrev iNoDeed : Stmt := inClass (top 14) 0
theorem scNoDeed : FnScope ["self", "name"] ["self", "name"] (defScope iNoDeed) := ⟨rfl, rfl, rfl, by decide +kernel, rfl, by decide +kernel, by decide +kernel⟩
theorem okNoDeed {fI : Addr} {fd : FuncData} (F : Fun K "__init__" "NoDeed.__init__" iNoDeed fI fd) (B : BaseT K mg D) : FnOk P w K mg base CX0 1 fI fd ["self", "name"] (spI1 K "name") := by
  refine F.ok scNoDeed (fun vs H Q E h => ?_) (fun cdv A outer s H vs Q E hr h => ?_)
  · obtain ⟨a, C, v, rfl, _⟩ := h
    rfl
  · obtain ⟨a, C, v, rfl, T, n1, ea, q⟩ := h
    refine ⟨_, pss_cons (ps_expr (pe_binit B.gB B.rdB B.fcB (pa_cons (pv 0) (pa_cons pe_str pa_nil)))) (pss_one (ps_ost (pv 0) (pv 1))), ?_⟩
    refine ⟨_, rfl, a, C, _, rfl, (by show 1 ≤ 1000; decide), T, ea, _, rfl, _, rfl, a, C, rfl, T, n1, .inl ⟨ea, fun dx nd ne => ?_⟩⟩
    exact q dx nd ne
abbrev iNothingToUndo : Stmt := inClass (top 15) 0
theorem scNothingToUndo : FnScope ["self"] ["self"] (defScope iNothingToUndo) := ⟨rfl, rfl, rfl, by decide +kernel, rfl, by decide +kernel, by decide +kernel⟩
theorem okNothingToUndo {fI : Addr} {fd : FuncData} (F : Fun K "__init__" "NothingToUndo.__init__" iNothingToUndo fI fd) (B : BaseT K mg D) : FnOk P w K mg base CX0 1 fI fd ["self"] (spI0 K) := by
  refine F.ok scNothingToUndo (fun vs H Q E h => ?_) (fun cdv A outer s H vs Q E hr h => ?_)
  · obtain ⟨a, C, rfl, _⟩ := h
    rfl
  · obtain ⟨a, C, rfl, T, ea, q⟩ := h
    refine ⟨_, pss_one (ps_expr (pe_binit B.gB B.rdB B.fcB (pa_cons (pv 0) (pa_cons pe_str pa_nil)))), ?_⟩
    exact ⟨_, rfl, a, C, _, rfl, (by show 1 ≤ 1000; decide), T, ea, q⟩
abbrev iTooMany : Stmt := inClass (top 16) 0
theorem scTooMany : FnScope ["self", "what", "many", "most"] ["self", "what", "many", "most"] (defScope iTooMany) := ⟨rfl, rfl, rfl, by decide +kernel, rfl, by decide +kernel, by decide +kernel⟩
theorem okTooMany {fI : Addr} {fd : FuncData} (F : Fun K "__init__" "TooMany.__init__" iTooMany fI fd) (B : BaseT K mg D) : FnOk P w K mg base CX0 1 fI fd ["self", "what", "many", "most"] (spI3 K "what" "many" "most") := by
  refine F.ok scTooMany (fun vs H Q E h => ?_) (fun cdv A outer s H vs Q E hr h => ?_)
  · obtain ⟨a, C, u, v, z, rfl, _⟩ := h
    rfl
  · obtain ⟨a, C, u, v, z, rfl, T, n1, n2, n3, ea, q⟩ := h
    refine ⟨_, pss_cons (ps_expr (pe_binit B.gB B.rdB B.fcB (pa_cons (pv 0) (pa_cons pe_str pa_nil)))) (pss_cons (ps_ost (pv 0) (pv 1)) (pss_cons (ps_ost (pv 0) (pv 2)) (pss_one (ps_ost (pv 0) (pv 3))))), ?_⟩
    refine ⟨_, rfl, a, C, _, rfl, (by show 1 ≤ 1000; decide), T, ea, _, rfl, _, rfl, a, C, rfl, T, n1, .inl ⟨ea, fun dx nd ne => ?_⟩⟩
    refine ⟨_, rfl, _, rfl, a, C, rfl, T, n2, .inr ⟨dx, _, upd_same, (by rw [upd_ne ne, upd_same]), (by show 1 ≤ 900; decide), ?_⟩⟩
    refine ⟨_, rfl, _, rfl, a, C, rfl, T, n3, .inr ⟨dx, _, (by rw [upd_ne ne.symm, upd_same]), upd_same, (by show 2 ≤ 900; decide), ?_⟩⟩
    exact q dx nd ne
theorem scBag : FnScope ["_law_script", "_law_fold", "_law_cell"] ["_law_script"] (defScope sBag) := ⟨rfl, rfl, rfl, by decide +kernel, rfl, by decide +kernel, by decide +kernel⟩
theorem ok_bag {f : Addr} {fd : FuncData} (F : Fun K "_law_bag" "_law_bag" sBag f fd) (B : BltT mg) : FnOk P w K mg base CX0 1 f fd ["_law_script"] (spBag K) := by
  refine F.ok scBag (fun vs H Q E h => ?_) (fun cdv A outer s H vs Q E hr h => ?_)
  · obtain ⟨a, ns, rfl, _⟩ := h
    rfl
  · obtain ⟨a, ns, rfl, hS, hl, q⟩ := h
    refine ⟨_, pss_cons (ps_set (i := 1) scBag.nd rfl (Or.inl rfl) pe_int)
      (pss_cons (ps_for PassesOwn.never rfl (pi_list (pv 0)) (pg_name (i := 2) scBag.nd rfl (Or.inl rfl))
        (pss_one (ps_set (i := 1) scBag.nd rfl (Or.inl rfl) (pe_op op_mod (pe_callTy call_int1 (by rfl) B.int (by decide +kernel) (pa_cons (pe_op op_add (pe_op op_mul (pv 1) pe_int) (pv 2)) pa_nil)) pe_int))))
      (pss_one (ps_ret (pe_disp (pps_cons pe_str (pe_callTy call_list_of (by rfl) B.list (by decide +kernel) (pa_cons (pv 0) pa_nil)) (pps_cons pe_str pe_int (pps_cons pe_str pe_int (pps_cons pe_str pe_int (pps_cons pe_str (pv 1) pps_nil))))) (by rfl) (by rfl) (fun z => by cases z) (by decide))))), ?_⟩
    refine ⟨_, rfl, a, rfl, ⟨_, hS⟩, for_list (K := K) (a := a) (xs := ns.map V.int) (fun i σ H' => H' = H ∧ ∃ (fo : Int) (v : Option V), σ = [some (.ref a), some (.int fo), v] ∧ 0 ≤ fo ∧ fo < 1000000009)
      ⟨rfl, 0, none, rfl, by decide, by decide⟩ (fun i σ H' _ ⟨e, _⟩ => by rw [e]; exact hS) ?_ ?_⟩
    · rintro i y σ H' hi ⟨rfl, fo, v, rfl, h0, h1⟩
      obtain ⟨u, rfl⟩ : ∃ u, y = V.int u := by
        rw [List.getElem?_map] at hi
        cases e : ns[i]? with
        | none => rw [e] at hi; cases hi
        | some u => rw [e] at hi; exact ⟨u, (Option.some.inj hi).symm⟩
      refine ⟨_, rfl, _, _, rfl, rfl, .inl ⟨by omega, by omega⟩, _, rfl, _, _, rfl, rfl, .inl ⟨_, rfl, _, _, rfl, rfl, (by show (0 : Int) < 1000000009; decide), ?_⟩⟩
      exact ⟨rfl, _, _, rfl, Int.emod_nonneg _ (by decide), Int.emod_lt_of_pos _ (by decide)⟩
    · rintro σ H' ⟨rfl, fo, v, rfl, h0, h1⟩
      refine fun p hp => ?_
      refine ⟨_, rfl, a, _, rfl, .inl (L2.Same.seq (new_same hp) hS), fun l hl' => ?_⟩
      have npl : p ≠ l := fun e => by rw [e, upd_same] at hl'; cases hl'
      have lnone : H' l = none := by rw [upd_ne npl.symm] at hl'; exact hl'
      refine ⟨_, rfl, ?_, [(kC, .ref l), (kA, .int 0), (kD, .int 0), (kN, .int 0), (kF, .int fo)], rfl, (by show 5 ≤ 15; decide), ?_⟩
      · rw [upd_ne npl, upd_same]
      · have em : mergeK [] [(kC, V.ref l), (kA, .int 0), (kD, .int 0), (kN, .int 0), (kF, .int fo)] = bagK l 0 0 0 fo := by
          simp [mergeK, putK, bagK, strN nCA, strN nCD, strN nCN, strN nCF, strN nAD, strN nAN, strN nAF, strN nDN, strN nDF, strN nNF]
        refine q p _ hp (fun b o e => ?_) ⟨l, ns, 0, 0, fo, (by rw [upd_same, em]; rfl), (by rw [upd_ne npl.symm, upd_same]), hl, by decide, by decide, h0, by omega⟩
        rw [upd_ne (ne_of_none e hp), upd_ne (ne_of_none e lnone), upd_ne (ne_of_none e hp)]
        exact e
theorem scDraw : FnScope ["_law_bag_here", "_law_limit", "_law_cell", "_law_digit", "_law_base"] ["_law_bag_here", "_law_limit"] (defScope sDraw) := ⟨rfl, rfl, rfl, by decide +kernel, rfl, by decide +kernel, by decide +kernel⟩
theorem ok_draw {f : Addr} {fd : FuncData} (F : Fun K "_law_draw" "_law_draw" sDraw f fd) (B : BltT mg) : FnOk P w K mg base CX0 1 f fd ["_law_bag_here", "_law_limit"] spDraw := by
  refine F.ok scDraw (fun vs H Q E h => ?_) (fun cdv A outer s H vs Q E hr h => ?_)
  · obtain ⟨p, n, m, rfl, _⟩ := h
    rfl
  · obtain ⟨p, n, m, rfl, ⟨l, ns, i, dg, fo, hp, hl, hlen, i0, d0, f0, f1⟩, hn, m0, m1, q⟩ := h
    have hu := hu_of hr
    have npl : l ≠ p := ne_of hl hp (by intro z; cases z)
    refine ⟨_, pss_cons (ps_dput hu (pv 0) pe_str (pe_op op_add (pe_dget hu (pv 0) pe_str (fun _ _ => rfl)) pe_int) rfl)
      (Evl.pss_cut (ps_if (PW.pt (pw_and (pt_cmpR op_eq (pe_dget hu (pv 0) pe_str (fun _ _ => rfl)) pe_int (nomark _)) (pw_and1 (pt_cmpR op_lt (pe_dget hu (pv 0) pe_str (fun _ _ => rfl)) (pe_callB call_len_seq (by rfl) B.len PySem.boot_len (pa_cons (pe_dget hu (pv 0) pe_str (fun _ _ => rfl)) pa_nil)) (nomark _)))))
          (pss_cons (ps_set (i := 2) scDraw.nd rfl (Or.inl rfl) (pe_ix ix_list (pe_dget hu (pv 0) pe_str (fun _ _ => rfl)) (pe_dget hu (pv 0) pe_str (fun _ _ => rfl)) (fun _ _ => rfl)))
          (pss_cons (ps_dput hu (pv 0) pe_str (pe_op op_add (pe_dget hu (pv 0) pe_str (fun _ _ => rfl)) pe_int) rfl)
          (pss_one (ps_if (pt_cmpR op_ge (pv 2) (pe_op op_pow pe_int pe_int) (nomark _))
            (pss_one (ps_dput hu (pv 0) pe_str (pe_op op_sub (pv 2) (pe_op op_pow pe_int pe_int)) rfl))
            (pss_one (ps_dput hu (pv 0) pe_str (pe_op op_mod (pe_callTy call_int1 (by rfl) B.int (by decide +kernel) (pa_cons (pe_op op_add (pe_op op_mul (pe_dget hu (pv 0) pe_str (fun _ _ => rfl)) pe_int) (pv 2)) pa_nil)) pe_int) rfl))))))
          pss_nil)
      (pss_cons (ps_if (pt_cmpR op_gt (pe_dget hu (pv 0) pe_str (fun _ _ => rfl)) pe_int (nomark _))
          (pss_cons (ps_set (i := 3) scDraw.nd rfl (Or.inl rfl) (pe_op op_mod (pe_callTy call_int1 (by rfl) B.int (by decide +kernel) (pa_cons (pe_dget hu (pv 0) pe_str (fun _ _ => rfl)) pa_nil)) (pv 1)))
          (pss_cons (ps_dput hu (pv 0) pe_str (pe_op op_fdivW (pe_dget hu (pv 0) pe_str (fun _ _ => rfl)) (pv 1)) rfl)
          (pss_one (ps_ret (pv 3)))))
          pss_nil)
      (pss_cons (ps_set (i := 4) scDraw.nd rfl (Or.inl rfl) (pe_op op_add (pe_op op_add (pe_dget hu (pv 0) pe_str (fun _ _ => rfl)) (pe_op op_mul (pe_dget hu (pv 0) pe_str (fun _ _ => rfl)) pe_int)) pe_int))
      (pss_one (ps_ret (pe_op op_mod (pe_op op_fdiv (pe_callTy call_int1 (by rfl) B.int (by decide +kernel) (pa_cons (pe_op op_mod (pe_op op_pow (pv 4) pe_int) pe_int) pa_nil)) pe_int) (pv 1))))))), ?_⟩
    have five : ∀ {l i dg ct fo}, (bagK l i dg ct fo).length < sizeLine := fun {l i dg ct fo} => by show 5 < sizeLine; decide
    -- bag["count"] = bag["count"] + 1
    refine ⟨_, rfl, p, _, rfl, (show DGet _ _ (kV kN) _ from by rw [← gN l i dg n fo]; exact DGet.k hp), _, _, rfl, rfl, _, rfl, p, _, rfl, DPut.k (k := kN) hp five, ?_⟩
    rw [pN]
    -- Mid: a bag again, with one more
    refine ⟨fun σ G => ∃ v : Option V, σ = [some (.ref p), some (.int m), v, none, none] ∧ Bag G p (n + 1) ∧ But p H G, ?_, ?_⟩
    · have hp1 : (upd H p (.dK (bagK l i dg ((n : Int) + 1) fo))) p = some (.dK (bagK l i dg ((n : Int) + 1) fo)) := upd_same
      have hl1 : ∀ o, (upd H p o) l = some (.lst (ns.map V.int)) := fun o => by rw [upd_ne npl]; exact hl
      have en : ((n : Int) + 1) = ((n + 1 : Nat) : Int) := by omega
      have mid : ∀ (i dg fo : Int), 0 ≤ i → 0 ≤ dg → 0 ≤ fo → fo < 2147483587 → Bag (upd H p (.dK (bagK l i dg ((n : Int) + 1) fo))) p (n + 1) := fun i dg fo a b c d =>
        ⟨l, ns, i, dg, fo, (by rw [upd_same, en]), hl1 _, hlen, a, b, c, d⟩
      refine ⟨_, rfl, p, _, rfl, (show DGet _ _ (kV kD) _ from by rw [← gD l i dg ((n : Int) + 1) fo]; exact DGet.k hp1), rfl, _, rfl, ?_⟩
      refine ite2 (fun c => ?_) (fun c => ?_)
      · refine ⟨_, rfl, p, _, rfl, (show DGet _ _ (kV kA) _ from by rw [← gA l i dg ((n : Int) + 1) fo]; exact DGet.k hp1), _, rfl, p, _, rfl, (show DGet _ _ (kV kC) _ from by rw [← gC l i dg ((n : Int) + 1) fo]; exact DGet.k hp1), l, _, rfl, .inl (SqL.of (hl1 _)), _, _, rfl, rfl, _, rfl, ?_⟩
        refine ite2 (fun c2 => ?_) (fun c2 => ?_)
        · have c3 : i < (ns.length : Int) := by
            have z := of_decide_eq_true c2
            rw [List.length_map] at z
            exact z
          obtain ⟨v, hv⟩ : ∃ v, ns[i.toNat]? = some v := ⟨_, List.getElem?_eq_getElem (by omega)⟩
          have hat : atI (ns.map V.int) i = some (.int v) := at_of (j := i.toNat) (by omega) (by rw [List.getElem?_map, hv] <;> rfl)
          refine ⟨_, rfl, p, _, rfl, (show DGet _ _ (kV kC) _ from by rw [← gC l i dg ((n : Int) + 1) fo]; exact DGet.k hp1), _, rfl, p, _, rfl, (show DGet _ _ (kV kA) _ from by rw [← gA l i dg ((n : Int) + 1) fo]; exact DGet.k hp1), l, _, _, _, rfl, rfl, SqL.of (hl1 _), hat, ?_⟩
          refine ⟨_, rfl, p, _, rfl, (show DGet _ _ (kV kA) _ from by rw [← gA l i dg ((n : Int) + 1) fo]; exact DGet.k hp1), _, _, rfl, rfl, _, rfl, p, _, rfl, DPut.k (k := kA) hp1 five, ?_⟩
          rw [pA, upd_upd]
          have hp2 : (upd H p (.dK (bagK l (i + 1) dg ((n : Int) + 1) fo))) p = some (.dK (bagK l (i + 1) dg ((n : Int) + 1) fo)) := upd_same
          refine ⟨_, rfl, _, _, rfl, rfl, ⟨by decide, by decide, by decide⟩, _, _, rfl, rfl, _, rfl, ?_⟩
          refine ite2 (fun c4 => ?_) (fun c4 => ?_)
          · have c5 : v ≥ (10 : Int) ^ (18 : Int).toNat := of_decide_eq_true c4
            refine ⟨_, rfl, _, _, rfl, rfl, ⟨by decide, by decide, by decide⟩, _, _, rfl, rfl, _, rfl, p, _, rfl, DPut.k (k := kD) hp2 five, ?_⟩
            rw [pD, upd_upd]
            exact ⟨_, rfl, mid _ _ _ (by omega) (Int.sub_nonneg_of_le c5) f0 f1, But.upd⟩
          · refine ⟨_, rfl, p, _, rfl, (show DGet _ _ (kV kF) _ from by rw [← gF l (i + 1) dg ((n : Int) + 1) fo]; exact DGet.k hp2), _, _, rfl, rfl, .inl ⟨by omega, by omega⟩, _, rfl, _, _, rfl, rfl, .inl ⟨_, rfl, _, _, rfl, rfl, (by show (0 : Int) < 2147483587; decide), _, rfl, p, _, rfl, DPut.k (k := kF) hp2 five, ?_⟩⟩
            rw [pF, upd_upd]
            exact ⟨_, rfl, mid _ _ _ (by omega) d0 (Int.emod_nonneg _ (by decide)) (Int.emod_lt_of_pos _ (by decide)), But.upd⟩
        · exact ⟨_, rfl, mid _ _ _ i0 d0 f0 f1, But.upd⟩
      · exact ⟨_, rfl, mid _ _ _ i0 d0 f0 f1, But.upd⟩
    · rintro σ G ⟨v, rfl, ⟨l, ns, i, dg, fo, hp, hl, hlen, i0, d0, f0, f1⟩, hB⟩
      have npl : l ≠ p := ne_of hl hp (by intro z; cases z)
      have hc : ((n + 1 : Nat) : Int) = (n : Int) + 1 := by omega
      refine ⟨_, rfl, p, _, rfl, (show DGet _ _ (kV kD) _ from by rw [← gD l i dg ((n + 1 : Nat) : Int) fo]; exact DGet.k hp), _, _, rfl, rfl, _, rfl, ?_⟩
      refine ite2 (fun c => ?_) (fun c => ?_)
      · refine ⟨_, rfl, p, _, rfl, (show DGet _ _ (kV kD) _ from by rw [← gD l i dg ((n + 1 : Nat) : Int) fo]; exact DGet.k hp), .inl ⟨_, rfl, _, rfl, _, _, rfl, rfl, m0, ?_⟩⟩
        refine ⟨_, rfl, p, _, rfl, (show DGet _ _ (kV kD) _ from by rw [← gD l i dg ((n + 1 : Nat) : Int) fo]; exact DGet.k hp), _, rfl, _, _, rfl, rfl, wide_div m0 m1 (by decide) (by decide), _, rfl, p, _, rfl, DPut.k (k := kD) hp five, ?_⟩
        rw [pD]
        refine ⟨_, rfl, ?_⟩
        refine q _ _ (Int.emod_nonneg _ (by omega)) (Int.emod_lt_of_pos _ m0) ⟨l, ns, i, dg / m, fo, upd_same, by rw [upd_ne npl]; exact hl, hlen, i0, Int.ediv_nonneg d0 (by omega), f0, f1⟩ (hB.trans But.upd)
      · refine ⟨_, rfl, p, _, rfl, (show DGet _ _ (kV kF) _ from by rw [← gF l i dg ((n + 1 : Nat) : Int) fo]; exact DGet.k hp), _, rfl, p, _, rfl, (show DGet _ _ (kV kN) _ from by rw [← gN l i dg ((n + 1 : Nat) : Int) fo]; exact DGet.k hp), _, _, rfl, rfl, .inl ⟨by omega, by omega⟩, _, _, rfl, rfl, _, _, rfl, rfl, ?_⟩
        refine ⟨_, rfl, _, _, rfl, rfl, big17 (by omega) (by omega), _, _, rfl, rfl, (by show (0 : Int) < 2305843009213693951; decide), .inl ⟨_, rfl, _, _, rfl, rfl, ⟨by decide, by decide⟩, _, rfl, _, _, rfl, rfl, m0, ?_⟩⟩
        exact q _ _ (Int.emod_nonneg _ (by omega)) (Int.emod_lt_of_pos _ m0) ⟨l, ns, i, dg, fo, hp, hl, hlen, i0, d0, f0, f1⟩ hB
/-- all that the top has written of the errors: the base at D, class k at C k, its __init__ at I k -/
structure AllT (K : PySem.W.Frag) (mg : Str → Option Value) (D : Addr) (C I : Nat → Addr) : Prop where
  base : BaseT K mg D
  blt : BltT mg
  isi : mg "isinstance" = none
  vE : mg "ValueError" = none
  rng : mg "range" = none
  t0 : ClT K mg "BadKind" "BadKind.__init__" iBadKind ["self", "kind"] ["kind"] (C 0) (I 0)
  t1 : ClT K mg "BadWidth" "BadWidth.__init__" iBadWidth ["self", "width"] ["width"] (C 1) (I 1)
  t2 : ClT K mg "BadLine" "BadLine.__init__" iBadLine ["self", "line"] ["line"] (C 2) (I 2)
  t3 : ClT K mg "Refused" "Refused.__init__" iRefused ["self", "line"] ["line"] (C 3) (I 3)
  t4 : ClT K mg "BadItem" "BadItem.__init__" iBadItem ["self", "index"] ["index"] (C 4) (I 4)
  t5 : ClT K mg "BadCase" "BadCase.__init__" iBadCase ["self", "what"] ["what"] (C 5) (I 5)
  t6 : ClT K mg "BadPromise" "BadPromise.__init__" iBadPromise ["self", "promise"] ["promise"] (C 6) (I 6)
  t7 : ClT K mg "NoLine" "NoLine.__init__" iNoLine ["self", "line"] ["line"] (C 7) (I 7)
  t8 : ClT K mg "BadSize" "BadSize.__init__" iBadSize ["self", "n"] ["n"] (C 8) (I 8)
  t9 : ClT K mg "OtherKinds" "OtherKinds.__init__" iOtherKinds ["self"] [] (C 9) (I 9)
  t10 : ClT K mg "OtherWidths" "OtherWidths.__init__" iOtherWidths ["self"] [] (C 10) (I 10)
  t11 : ClT K mg "BadName" "BadName.__init__" iBadName ["self", "name"] ["name"] (C 11) (I 11)
  t12 : ClT K mg "NoDeed" "NoDeed.__init__" iNoDeed ["self", "name"] ["name"] (C 12) (I 12)
  t13 : ClT K mg "NothingToUndo" "NothingToUndo.__init__" iNothingToUndo ["self"] [] (C 13) (I 13)
  t14 : ClT K mg "TooMany" "TooMany.__init__" iTooMany ["self", "what", "many", "most"] ["what", "many", "most"] (C 14) (I 14)
  exm : ∀ j k, j < 15 → k < 15 → PySem.W.exmOne K (.ref (C j)) (.ref (C k)) = some (decide (j = k))
  kit : ∀ j k, j < 15 → k < 15 → PySem.W.kitOne K (.ref (C j)) (.ref (C k)) = some (decide (j = k))
  exB : ∀ j, j < 15 → PySem.W.exmOne K (.ref (C j)) (.ref D) = some true
  kiV : ∀ j, j < 15 → PySem.W.kitOne K (.ref (C j)) (.type "ValueError") = some true
  is : ∀ j, j < 15 → ExcC K (C j)
/-- how error k leaves, made from a, b, c -/
def errK (C : Nat → Addr) (a b c : V) (H : Hp) (E : XK) : Nat → Prop
  | 0 => err1 (C 0) "kind" a H E
  | 1 => err1 (C 1) "width" a H E
  | 2 => err1 (C 2) "line" a H E
  | 3 => err1 (C 3) "line" a H E
  | 4 => err1 (C 4) "index" a H E
  | 5 => err1 (C 5) "what" a H E
  | 6 => err1 (C 6) "promise" a H E
  | 7 => err1 (C 7) "line" a H E
  | 8 => err1 (C 8) "n" a H E
  | 9 => E (.ref (C 9)) none H
  | 10 => E (.ref (C 10)) none H
  | 11 => err1 (C 11) "name" a H E
  | 12 => err1 (C 12) "name" a H E
  | 13 => E (.ref (C 13)) none H
  | 14 => err3 (C 14) "what" "many" "most" a b c H E
  | _ => True
def spRaised (C : Nat → Addr) (lo hi : Nat) : Sp := fun vs H _ E => ∃ (k : Nat) (a b c : V), vs = [.int (k : Int), a, b, c] ∧ lo ≤ k ∧ k < hi ∧ errK C a b c H E k
theorem ne_k {k : Nat} {j : Int} (h : ¬ decide (V.int (k : Int) = V.int j) = true) : (k : Int) ≠ j := fun e => h (decide_eq_true (by rw [e]))
theorem eq_k {k : Nat} {j : Int} (h : decide (V.int (k : Int) = V.int j) = true) : (k : Int) = j := V.int.inj (of_decide_eq_true h)
section
variable {C I : Nat → Addr}
theorem scraised_0 : FnScope ["_law_k", "_law_a", "_law_b", "_law_c"] ["_law_k", "_law_a", "_law_b", "_law_c"] (defScope sraised_0) := ⟨rfl, rfl, rfl, by decide +kernel, rfl, by decide +kernel, by decide +kernel⟩
theorem okraised_0 {f : Addr} {fd : FuncData} (F : Fun K "_law_raised_0" "_law_raised_0" sraised_0 f fd) (T : AllT K mg D C I) : FnOk P w K mg base (L2.CX P w) 3 f fd ["_law_k", "_law_a", "_law_b", "_law_c"] (spRaised C 0 8) := by
  refine F.okX scraised_0 (fun vs H Q E h => ?_) (fun cdv A outer s H vs Q E hr h => ?_)
  · obtain ⟨k, a, b, c, rfl, _⟩ := h
    rfl
  · obtain ⟨k, a, b, c, rfl, h0, h1, he⟩ := h
    have tk : Takes (cxOf (L2.CX P w) P w K mg base ["_law_k", "_law_a", "_law_b", "_law_c"] "_law_raised_0" (defScope sraised_0) f cdv A outer s H E) (fun cls d _ G => E cls d G) := takes_of rfl rfl rfl rfl
    refine ⟨_, pss_cons (ps_if (pt_cmpR op_eq (pv 0) pe_int (nomark _)) (pss_one (ps_rz rfl tk T.t0 (fun fd F => okBadKind F T.base) hr (pa_cons (pv 1) pa_nil))) pss_nil) 
      (pss_cons (ps_if (pt_cmpR op_eq (pv 0) pe_int (nomark _)) (pss_one (ps_rz rfl tk T.t1 (fun fd F => okBadWidth F T.base) hr (pa_cons (pv 1) pa_nil))) pss_nil) 
      (pss_cons (ps_if (pt_cmpR op_eq (pv 0) pe_int (nomark _)) (pss_one (ps_rz rfl tk T.t2 (fun fd F => okBadLine F T.base) hr (pa_cons (pv 1) pa_nil))) pss_nil) 
      (pss_cons (ps_if (pt_cmpR op_eq (pv 0) pe_int (nomark _)) (pss_one (ps_rz rfl tk T.t3 (fun fd F => okRefused F T.base) hr (pa_cons (pv 1) pa_nil))) pss_nil) 
      (pss_cons (ps_if (pt_cmpR op_eq (pv 0) pe_int (nomark _)) (pss_one (ps_rz rfl tk T.t4 (fun fd F => okBadItem F T.base) hr (pa_cons (pv 1) pa_nil))) pss_nil) 
      (pss_cons (ps_if (pt_cmpR op_eq (pv 0) pe_int (nomark _)) (pss_one (ps_rz rfl tk T.t5 (fun fd F => okBadCase F T.base) hr (pa_cons (pv 1) pa_nil))) pss_nil) 
      (pss_cons (ps_if (pt_cmpR op_eq (pv 0) pe_int (nomark _)) (pss_one (ps_rz rfl tk T.t6 (fun fd F => okBadPromise F T.base) hr (pa_cons (pv 1) pa_nil))) pss_nil) 
      (pss_cons (ps_if (pt_cmpR op_eq (pv 0) pe_int (nomark _)) (pss_one (ps_rz rfl tk T.t7 (fun fd F => okNoLine F T.base) hr (pa_cons (pv 1) pa_nil))) pss_nil) (pss_one (ps_ret pe_non))))))))), ?_⟩
    refine ⟨_, rfl, rfl, _, rfl, ?_⟩
    refine ite2 (fun z => ?_) (fun z0 => ?_)
    · obtain rfl : k = 0 := by have := eq_k z; omega
      exact rd1 T.t0.ex.oex (T.t0.nf _ (by simp)) rfl he
    refine ⟨_, rfl, rfl, _, rfl, ?_⟩
    refine ite2 (fun z => ?_) (fun z1 => ?_)
    · obtain rfl : k = 1 := by have := eq_k z; omega
      exact rd1 T.t1.ex.oex (T.t1.nf _ (by simp)) rfl he
    refine ⟨_, rfl, rfl, _, rfl, ?_⟩
    refine ite2 (fun z => ?_) (fun z2 => ?_)
    · obtain rfl : k = 2 := by have := eq_k z; omega
      exact rd1 T.t2.ex.oex (T.t2.nf _ (by simp)) rfl he
    refine ⟨_, rfl, rfl, _, rfl, ?_⟩
    refine ite2 (fun z => ?_) (fun z3 => ?_)
    · obtain rfl : k = 3 := by have := eq_k z; omega
      exact rd1 T.t3.ex.oex (T.t3.nf _ (by simp)) rfl he
    refine ⟨_, rfl, rfl, _, rfl, ?_⟩
    refine ite2 (fun z => ?_) (fun z4 => ?_)
    · obtain rfl : k = 4 := by have := eq_k z; omega
      exact rd1 T.t4.ex.oex (T.t4.nf _ (by simp)) rfl he
    refine ⟨_, rfl, rfl, _, rfl, ?_⟩
    refine ite2 (fun z => ?_) (fun z5 => ?_)
    · obtain rfl : k = 5 := by have := eq_k z; omega
      exact rd1 T.t5.ex.oex (T.t5.nf _ (by simp)) rfl he
    refine ⟨_, rfl, rfl, _, rfl, ?_⟩
    refine ite2 (fun z => ?_) (fun z6 => ?_)
    · obtain rfl : k = 6 := by have := eq_k z; omega
      exact rd1 T.t6.ex.oex (T.t6.nf _ (by simp)) rfl he
    refine ⟨_, rfl, rfl, _, rfl, ?_⟩
    refine ite2 (fun z => ?_) (fun z7 => ?_)
    · obtain rfl : k = 7 := by have := eq_k z; omega
      exact rd1 T.t7.ex.oex (T.t7.nf _ (by simp)) rfl he
    exfalso
    have y0 := ne_k z0
    have y1 := ne_k z1
    have y2 := ne_k z2
    have y3 := ne_k z3
    have y4 := ne_k z4
    have y5 := ne_k z5
    have y6 := ne_k z6
    have y7 := ne_k z7
    omega
theorem scraised_1 : FnScope ["_law_k", "_law_a", "_law_b", "_law_c"] ["_law_k", "_law_a", "_law_b", "_law_c"] (defScope sraised_1) := ⟨rfl, rfl, rfl, by decide +kernel, rfl, by decide +kernel, by decide +kernel⟩
theorem okraised_1 {f : Addr} {fd : FuncData} (F : Fun K "_law_raised_1" "_law_raised_1" sraised_1 f fd) (T : AllT K mg D C I) : FnOk P w K mg base (L2.CX P w) 3 f fd ["_law_k", "_law_a", "_law_b", "_law_c"] (spRaised C 8 15) := by
  refine F.okX scraised_1 (fun vs H Q E h => ?_) (fun cdv A outer s H vs Q E hr h => ?_)
  · obtain ⟨k, a, b, c, rfl, _⟩ := h
    rfl
  · obtain ⟨k, a, b, c, rfl, h0, h1, he⟩ := h
    have tk : Takes (cxOf (L2.CX P w) P w K mg base ["_law_k", "_law_a", "_law_b", "_law_c"] "_law_raised_1" (defScope sraised_1) f cdv A outer s H E) (fun cls d _ G => E cls d G) := takes_of rfl rfl rfl rfl
    refine ⟨_, pss_cons (ps_if (pt_cmpR op_eq (pv 0) pe_int (nomark _)) (pss_one (ps_rz rfl tk T.t8 (fun fd F => okBadSize F T.base) hr (pa_cons (pv 1) pa_nil))) pss_nil) 
      (pss_cons (ps_if (pt_cmpR op_eq (pv 0) pe_int (nomark _)) (pss_one (ps_r0 rfl tk T.t9 (fun fd F => okOtherKinds F T.base) hr)) pss_nil) 
      (pss_cons (ps_if (pt_cmpR op_eq (pv 0) pe_int (nomark _)) (pss_one (ps_r0 rfl tk T.t10 (fun fd F => okOtherWidths F T.base) hr)) pss_nil) 
      (pss_cons (ps_if (pt_cmpR op_eq (pv 0) pe_int (nomark _)) (pss_one (ps_rz rfl tk T.t11 (fun fd F => okBadName F T.base) hr (pa_cons (pv 1) pa_nil))) pss_nil) 
      (pss_cons (ps_if (pt_cmpR op_eq (pv 0) pe_int (nomark _)) (pss_one (ps_rz rfl tk T.t12 (fun fd F => okNoDeed F T.base) hr (pa_cons (pv 1) pa_nil))) pss_nil) 
      (pss_cons (ps_if (pt_cmpR op_eq (pv 0) pe_int (nomark _)) (pss_one (ps_r0 rfl tk T.t13 (fun fd F => okNothingToUndo F T.base) hr)) pss_nil) 
      (pss_cons (ps_if (pt_cmpR op_eq (pv 0) pe_int (nomark _)) (pss_one (ps_rz rfl tk T.t14 (fun fd F => okTooMany F T.base) hr (pa_cons (pv 1) (pa_cons (pv 2) (pa_cons (pv 3) pa_nil))))) pss_nil) (pss_one (ps_ret pe_non)))))))), ?_⟩
    refine ⟨_, rfl, rfl, _, rfl, ?_⟩
    refine ite2 (fun z => ?_) (fun z8 => ?_)
    · obtain rfl : k = 8 := by have := eq_k z; omega
      exact rd1 T.t8.ex.oex (T.t8.nf _ (by simp)) rfl he
    refine ⟨_, rfl, rfl, _, rfl, ?_⟩
    refine ite2 (fun z => ?_) (fun z9 => ?_)
    · obtain rfl : k = 9 := by have := eq_k z; omega
      exact he
    refine ⟨_, rfl, rfl, _, rfl, ?_⟩
    refine ite2 (fun z => ?_) (fun z10 => ?_)
    · obtain rfl : k = 10 := by have := eq_k z; omega
      exact he
    refine ⟨_, rfl, rfl, _, rfl, ?_⟩
    refine ite2 (fun z => ?_) (fun z11 => ?_)
    · obtain rfl : k = 11 := by have := eq_k z; omega
      exact rd1 T.t11.ex.oex (T.t11.nf _ (by simp)) rfl he
    refine ⟨_, rfl, rfl, _, rfl, ?_⟩
    refine ite2 (fun z => ?_) (fun z12 => ?_)
    · obtain rfl : k = 12 := by have := eq_k z; omega
      exact rd1 T.t12.ex.oex (T.t12.nf _ (by simp)) rfl he
    refine ⟨_, rfl, rfl, _, rfl, ?_⟩
    refine ite2 (fun z => ?_) (fun z13 => ?_)
    · obtain rfl : k = 13 := by have := eq_k z; omega
      exact he
    refine ⟨_, rfl, rfl, _, rfl, ?_⟩
    refine ite2 (fun z => ?_) (fun z14 => ?_)
    · obtain rfl : k = 14 := by have := eq_k z; omega
      exact rd3 T.t14.ex.oex (T.t14.nf _ (by simp)) (T.t14.nf _ (by simp)) (T.t14.nf _ (by simp)) rfl rfl rfl he
    exfalso
    have y8 := ne_k z8
    have y9 := ne_k z9
    have y10 := ne_k z10
    have y11 := ne_k z11
    have y12 := ne_k z12
    have y13 := ne_k z13
    have y14 := ne_k z14
    omega
theorem scraised : FnScope ["_law_k", "_law_a", "_law_b", "_law_c"] ["_law_k", "_law_a", "_law_b", "_law_c"] (defScope sraised) := ⟨rfl, rfl, rfl, by decide +kernel, rfl, by decide +kernel, by decide +kernel⟩
theorem okraised {f f0 f1 : Addr} {fd fd0 fd1 : FuncData} (F : Fun K "_law_raised" "_law_raised" sraised f fd) (T : AllT K mg D C I) (F0 : Fun K "_law_raised_0" "_law_raised_0" sraised_0 f0 fd0) (b0 : Binds K fd0 ["_law_k", "_law_a", "_law_b", "_law_c"] []) (m0 : mg "_law_raised_0" = some (.ref f0))
    (F1 : Fun K "_law_raised_1" "_law_raised_1" sraised_1 f1 fd1) (b1 : Binds K fd1 ["_law_k", "_law_a", "_law_b", "_law_c"] []) (m1 : mg "_law_raised_1" = some (.ref f1)) : FnOk P w K mg base (L2.CX P w) 4 f fd ["_law_k", "_law_a", "_law_b", "_law_c"] (spRaised C 0 15) := by
  have G0 : FnOk P w K mg base (L2.CX P w) 3 f0 fd0 ["_law_k", "_law_a", "_law_b", "_law_c"] (spRaised C 0 8) := okraised_0 F0 T
  have G1 : FnOk P w K mg base (L2.CX P w) 3 f1 fd1 ["_law_k", "_law_a", "_law_b", "_law_c"] (spRaised C 8 15) := okraised_1 F1 T
  refine F.okX scraised (fun vs H Q E h => ?_) (fun cdv A outer s H vs Q E hr h => ?_)
  · obtain ⟨k, a, b, c, rfl, _⟩ := h
    rfl
  · obtain ⟨k, a, b, c, rfl, h0, h1, he⟩ := h
    have tk : Takes (cxOf (L2.CX P w) P w K mg base ["_law_k", "_law_a", "_law_b", "_law_c"] "_law_raised" (defScope sraised) f cdv A outer s H E) (fun cls d _ G => E cls d G) := takes_of rfl rfl rfl rfl
    refine ⟨_, pss_cons (ps_if (pt_cmpR op_lt (pv 0) pe_int (nomark _)) (pss_one (ps_ret (pe_callS G0 hr rfl m0 F0.kp b0 (fun σ => passAt tk σ) (pa_cons (pv 0) (pa_cons (pv 1) (pa_cons (pv 2) (pa_cons (pv 3) pa_nil))))))) pss_nil)
      (pss_one (ps_ret (pe_callS G1 hr rfl m1 F1.kp b1 (fun σ => passAt tk σ) (pa_cons (pv 0) (pa_cons (pv 1) (pa_cons (pv 2) (pa_cons (pv 3) pa_nil))))))), ?_⟩
    refine ⟨_, rfl, _, _, rfl, rfl, _, rfl, ?_⟩
    refine ite2 (fun z => ?_) (fun z => ?_)
    · have y : (k : Int) < 8 := of_decide_eq_true z
      exact ⟨_, rfl, _, rfl, _, rfl, _, rfl, k, a, b, c, rfl, h0, by omega, he⟩
    · have y : ¬ (k : Int) < 8 := of_decide_eq_false (Bool.eq_false_iff.mpr z)
      exact ⟨_, rfl, _, rfl, _, rfl, _, rfl, k, a, b, c, rfl, by omega, h1, he⟩
end
/-- the fields of error k -/
def fieldsOf (a b c : V) : Nat → List V
  | 9 => []
  | 10 => []
  | 13 => []
  | 14 => [a, b, c]
  | _ => [a]
def spFields (lo hi : Nat) : Sp := fun vs H Q _ => ∃ (k : Nat) (a b c : V), vs = [.int (k : Int), a, b, c] ∧ lo ≤ k ∧ k < hi ∧ ∀ p H', H p = none → Same H H' → H' p = some (.lst (fieldsOf a b c k)) → Q (.ref p) H'
theorem look1 {f : Str} {a : V} : List.lookup f [(f, a)] = some a := by simp [List.lookup]
section
variable {C I : Nat → Addr}
theorem scfields_0 : FnScope ["_law_k", "_law_a", "_law_b", "_law_c", "_law_told", "_law_e"] ["_law_k", "_law_a", "_law_b", "_law_c"] (defScope sfields_0) := ⟨rfl, rfl, rfl, by decide +kernel, rfl, by decide +kernel, by decide +kernel⟩
theorem okfields_0 {f g : Addr} {fd gd : FuncData} (F : Fun K "_law_fields_0" "_law_fields_0" sfields_0 f fd) (T : AllT K mg D C I) (FR : Fun K "_law_raised_0" "_law_raised_0" sraised_0 g gd) (bR : Binds K gd ["_law_k", "_law_a", "_law_b", "_law_c"] []) (mR : mg "_law_raised_0" = some (.ref g)) : FnOk P w K mg base CX0 4 f fd ["_law_k", "_law_a", "_law_b", "_law_c"] (spFields 0 8) := by
  have GR : FnOk P w K mg base (L2.CX P w) 3 g gd ["_law_k", "_law_a", "_law_b", "_law_c"] (spRaised C 0 8) := okraised_0 FR T
  refine F.ok scfields_0 (fun vs H Q E h => ?_) (fun cdv A outer s H vs Q E hr h => ?_)
  · obtain ⟨k, a, b, c, rfl, _⟩ := h
    rfl
  · obtain ⟨k, a, b, c, rfl, h0, h1, q⟩ := h
    refine ⟨_, pss_cons (ps_set (i := 4) scfields_0.nd rfl (Or.inl rfl) (pe_lst pa_nil)) (pss_cons (ps_try_any (Wout := fun _ _ _ _ => False) (tb := fun W => tDrop (tCallS (spRaised C 0 8) (WE W) (tCons (tVar 0) (tCons (tVar 1) (tCons (tVar 2) (tCons (tVar 3) tNil)))))) rfl rfl takes0
        (fun W pn xe tk _ => pss_one (ps_expr (pe_callS GR hr rfl mR FR.kp bR (fun σ => passAt tk σ) (pa_cons (pv 0) (pa_cons (pv 1) (pa_cons (pv 2) (pa_cons (pv 3) pa_nil))))))) 
        (.as (i := 5) scfields_0.nd rfl rfl ⟨rfl, by decide, .inl T.t0.ex.gC⟩ (fun a oe cls d pn hz hf => pss_one (ps_set (i := 4) scfields_0.nd rfl (Or.inl rfl) (pe_lst (pa_cons (pe_xf T.t0.xf (T.t0.nf _ (by simp)) hz hf (pv 5)) pa_nil)))) 
        (.as (i := 5) scfields_0.nd rfl rfl ⟨rfl, by decide, .inl T.t1.ex.gC⟩ (fun a oe cls d pn hz hf => pss_one (ps_set (i := 4) scfields_0.nd rfl (Or.inl rfl) (pe_lst (pa_cons (pe_xf T.t1.xf (T.t1.nf _ (by simp)) hz hf (pv 5)) pa_nil)))) 
        (.as (i := 5) scfields_0.nd rfl rfl ⟨rfl, by decide, .inl T.t2.ex.gC⟩ (fun a oe cls d pn hz hf => pss_one (ps_set (i := 4) scfields_0.nd rfl (Or.inl rfl) (pe_lst (pa_cons (pe_xf T.t2.xf (T.t2.nf _ (by simp)) hz hf (pv 5)) pa_nil)))) 
        (.as (i := 5) scfields_0.nd rfl rfl ⟨rfl, by decide, .inl T.t3.ex.gC⟩ (fun a oe cls d pn hz hf => pss_one (ps_set (i := 4) scfields_0.nd rfl (Or.inl rfl) (pe_lst (pa_cons (pe_xf T.t3.xf (T.t3.nf _ (by simp)) hz hf (pv 5)) pa_nil)))) 
        (.as (i := 5) scfields_0.nd rfl rfl ⟨rfl, by decide, .inl T.t4.ex.gC⟩ (fun a oe cls d pn hz hf => pss_one (ps_set (i := 4) scfields_0.nd rfl (Or.inl rfl) (pe_lst (pa_cons (pe_xf T.t4.xf (T.t4.nf _ (by simp)) hz hf (pv 5)) pa_nil)))) 
        (.as (i := 5) scfields_0.nd rfl rfl ⟨rfl, by decide, .inl T.t5.ex.gC⟩ (fun a oe cls d pn hz hf => pss_one (ps_set (i := 4) scfields_0.nd rfl (Or.inl rfl) (pe_lst (pa_cons (pe_xf T.t5.xf (T.t5.nf _ (by simp)) hz hf (pv 5)) pa_nil)))) 
        (.as (i := 5) scfields_0.nd rfl rfl ⟨rfl, by decide, .inl T.t6.ex.gC⟩ (fun a oe cls d pn hz hf => pss_one (ps_set (i := 4) scfields_0.nd rfl (Or.inl rfl) (pe_lst (pa_cons (pe_xf T.t6.xf (T.t6.nf _ (by simp)) hz hf (pv 5)) pa_nil)))) 
        (.as (i := 5) scfields_0.nd rfl rfl ⟨rfl, by decide, .inl T.t7.ex.gC⟩ (fun a oe cls d pn hz hf => pss_one (ps_set (i := 4) scfields_0.nd rfl (Or.inl rfl) (pe_lst (pa_cons (pe_xf T.t7.xf (T.t7.nf _ (by simp)) hz hf (pv 5)) pa_nil)))) .nil))))))))) (pss_one (ps_ret (pv 4)))), ?_⟩
    refine ⟨Nat.zero_le _, fun l0 n0 => ?_⟩
    refine ⟨_, rfl, _, rfl, _, rfl, _, rfl, k, a, b, c, rfl, h0, h1, ?_⟩
    have hk : k = 0 ∨ k = 1 ∨ k = 2 ∨ k = 3 ∨ k = 4 ∨ k = 5 ∨ k = 6 ∨ k = 7 := by omega
    rcases hk with rfl | rfl | rfl | rfl | rfl | rfl | rfl | rfl
    · refine fun d nd => ⟨true, T.exm 0 0 (by decide) (by decide), fun _ a0 na => ?_, (fun z => Bool.noConfusion z)⟩
      refine ⟨_, rfl, rfl, rfl, d, _, _, rfl, upd_same, look1, (by show 1 ≤ sizeLine; decide), fun l1 n1 => ⟨_, rfl, q l1 _ ?_ ?_ upd_same⟩⟩
      · exact (new_same n0 : Same H _).free ((new_same nd : Same _ _).free n1)
      · exact ((new_same n0 : Same H _).trans (new_same nd)).trans (new_same n1)
    · refine fun d nd => ⟨false, T.exm 1 0 (by decide) (by decide), (fun z => Bool.noConfusion z), fun _ => ⟨true, T.exm 1 1 (by decide) (by decide), fun _ a0 na => ?_, (fun z => Bool.noConfusion z)⟩⟩
      refine ⟨_, rfl, rfl, rfl, d, _, _, rfl, upd_same, look1, (by show 1 ≤ sizeLine; decide), fun l1 n1 => ⟨_, rfl, q l1 _ ?_ ?_ upd_same⟩⟩
      · exact (new_same n0 : Same H _).free ((new_same nd : Same _ _).free n1)
      · exact ((new_same n0 : Same H _).trans (new_same nd)).trans (new_same n1)
    · refine fun d nd => ⟨false, T.exm 2 0 (by decide) (by decide), (fun z => Bool.noConfusion z), fun _ => ⟨false, T.exm 2 1 (by decide) (by decide), (fun z => Bool.noConfusion z), fun _ => ⟨true, T.exm 2 2 (by decide) (by decide), fun _ a0 na => ?_, (fun z => Bool.noConfusion z)⟩⟩⟩
      refine ⟨_, rfl, rfl, rfl, d, _, _, rfl, upd_same, look1, (by show 1 ≤ sizeLine; decide), fun l1 n1 => ⟨_, rfl, q l1 _ ?_ ?_ upd_same⟩⟩
      · exact (new_same n0 : Same H _).free ((new_same nd : Same _ _).free n1)
      · exact ((new_same n0 : Same H _).trans (new_same nd)).trans (new_same n1)
    · refine fun d nd => ⟨false, T.exm 3 0 (by decide) (by decide), (fun z => Bool.noConfusion z), fun _ => ⟨false, T.exm 3 1 (by decide) (by decide), (fun z => Bool.noConfusion z), fun _ => ⟨false, T.exm 3 2 (by decide) (by decide), (fun z => Bool.noConfusion z), fun _ => ⟨true, T.exm 3 3 (by decide) (by decide), fun _ a0 na => ?_, (fun z => Bool.noConfusion z)⟩⟩⟩⟩
      refine ⟨_, rfl, rfl, rfl, d, _, _, rfl, upd_same, look1, (by show 1 ≤ sizeLine; decide), fun l1 n1 => ⟨_, rfl, q l1 _ ?_ ?_ upd_same⟩⟩
      · exact (new_same n0 : Same H _).free ((new_same nd : Same _ _).free n1)
      · exact ((new_same n0 : Same H _).trans (new_same nd)).trans (new_same n1)
    · refine fun d nd => ⟨false, T.exm 4 0 (by decide) (by decide), (fun z => Bool.noConfusion z), fun _ => ⟨false, T.exm 4 1 (by decide) (by decide), (fun z => Bool.noConfusion z), fun _ => ⟨false, T.exm 4 2 (by decide) (by decide), (fun z => Bool.noConfusion z), fun _ => ⟨false, T.exm 4 3 (by decide) (by decide), (fun z => Bool.noConfusion z), fun _ => ⟨true, T.exm 4 4 (by decide) (by decide), fun _ a0 na => ?_, (fun z => Bool.noConfusion z)⟩⟩⟩⟩⟩
      refine ⟨_, rfl, rfl, rfl, d, _, _, rfl, upd_same, look1, (by show 1 ≤ sizeLine; decide), fun l1 n1 => ⟨_, rfl, q l1 _ ?_ ?_ upd_same⟩⟩
      · exact (new_same n0 : Same H _).free ((new_same nd : Same _ _).free n1)
      · exact ((new_same n0 : Same H _).trans (new_same nd)).trans (new_same n1)
    · refine fun d nd => ⟨false, T.exm 5 0 (by decide) (by decide), (fun z => Bool.noConfusion z), fun _ => ⟨false, T.exm 5 1 (by decide) (by decide), (fun z => Bool.noConfusion z), fun _ => ⟨false, T.exm 5 2 (by decide) (by decide), (fun z => Bool.noConfusion z), fun _ => ⟨false, T.exm 5 3 (by decide) (by decide), (fun z => Bool.noConfusion z), fun _ => ⟨false, T.exm 5 4 (by decide) (by decide), (fun z => Bool.noConfusion z), fun _ => ⟨true, T.exm 5 5 (by decide) (by decide), fun _ a0 na => ?_, (fun z => Bool.noConfusion z)⟩⟩⟩⟩⟩⟩
      refine ⟨_, rfl, rfl, rfl, d, _, _, rfl, upd_same, look1, (by show 1 ≤ sizeLine; decide), fun l1 n1 => ⟨_, rfl, q l1 _ ?_ ?_ upd_same⟩⟩
      · exact (new_same n0 : Same H _).free ((new_same nd : Same _ _).free n1)
      · exact ((new_same n0 : Same H _).trans (new_same nd)).trans (new_same n1)
    · refine fun d nd => ⟨false, T.exm 6 0 (by decide) (by decide), (fun z => Bool.noConfusion z), fun _ => ⟨false, T.exm 6 1 (by decide) (by decide), (fun z => Bool.noConfusion z), fun _ => ⟨false, T.exm 6 2 (by decide) (by decide), (fun z => Bool.noConfusion z), fun _ => ⟨false, T.exm 6 3 (by decide) (by decide), (fun z => Bool.noConfusion z), fun _ => ⟨false, T.exm 6 4 (by decide) (by decide), (fun z => Bool.noConfusion z), fun _ => ⟨false, T.exm 6 5 (by decide) (by decide), (fun z => Bool.noConfusion z), fun _ => ⟨true, T.exm 6 6 (by decide) (by decide), fun _ a0 na => ?_, (fun z => Bool.noConfusion z)⟩⟩⟩⟩⟩⟩⟩
      refine ⟨_, rfl, rfl, rfl, d, _, _, rfl, upd_same, look1, (by show 1 ≤ sizeLine; decide), fun l1 n1 => ⟨_, rfl, q l1 _ ?_ ?_ upd_same⟩⟩
      · exact (new_same n0 : Same H _).free ((new_same nd : Same _ _).free n1)
      · exact ((new_same n0 : Same H _).trans (new_same nd)).trans (new_same n1)
    · refine fun d nd => ⟨false, T.exm 7 0 (by decide) (by decide), (fun z => Bool.noConfusion z), fun _ => ⟨false, T.exm 7 1 (by decide) (by decide), (fun z => Bool.noConfusion z), fun _ => ⟨false, T.exm 7 2 (by decide) (by decide), (fun z => Bool.noConfusion z), fun _ => ⟨false, T.exm 7 3 (by decide) (by decide), (fun z => Bool.noConfusion z), fun _ => ⟨false, T.exm 7 4 (by decide) (by decide), (fun z => Bool.noConfusion z), fun _ => ⟨false, T.exm 7 5 (by decide) (by decide), (fun z => Bool.noConfusion z), fun _ => ⟨false, T.exm 7 6 (by decide) (by decide), (fun z => Bool.noConfusion z), fun _ => ⟨true, T.exm 7 7 (by decide) (by decide), fun _ a0 na => ?_, (fun z => Bool.noConfusion z)⟩⟩⟩⟩⟩⟩⟩⟩
      refine ⟨_, rfl, rfl, rfl, d, _, _, rfl, upd_same, look1, (by show 1 ≤ sizeLine; decide), fun l1 n1 => ⟨_, rfl, q l1 _ ?_ ?_ upd_same⟩⟩
      · exact (new_same n0 : Same H _).free ((new_same nd : Same _ _).free n1)
      · exact ((new_same n0 : Same H _).trans (new_same nd)).trans (new_same n1)
theorem scfields_1 : FnScope ["_law_k", "_law_a", "_law_b", "_law_c", "_law_told", "_law_e"] ["_law_k", "_law_a", "_law_b", "_law_c"] (defScope sfields_1) := ⟨rfl, rfl, rfl, by decide +kernel, rfl, by decide +kernel, by decide +kernel⟩
theorem okfields_1 {f g : Addr} {fd gd : FuncData} (F : Fun K "_law_fields_1" "_law_fields_1" sfields_1 f fd) (T : AllT K mg D C I) (FR : Fun K "_law_raised_1" "_law_raised_1" sraised_1 g gd) (bR : Binds K gd ["_law_k", "_law_a", "_law_b", "_law_c"] []) (mR : mg "_law_raised_1" = some (.ref g)) : FnOk P w K mg base CX0 4 f fd ["_law_k", "_law_a", "_law_b", "_law_c"] (spFields 8 15) := by
  have GR : FnOk P w K mg base (L2.CX P w) 3 g gd ["_law_k", "_law_a", "_law_b", "_law_c"] (spRaised C 8 15) := okraised_1 FR T
  refine F.ok scfields_1 (fun vs H Q E h => ?_) (fun cdv A outer s H vs Q E hr h => ?_)
  · obtain ⟨k, a, b, c, rfl, _⟩ := h
    rfl
  · obtain ⟨k, a, b, c, rfl, h0, h1, q⟩ := h
    refine ⟨_, pss_cons (ps_set (i := 4) scfields_1.nd rfl (Or.inl rfl) (pe_lst pa_nil)) (pss_cons (ps_try_any (Wout := fun _ _ _ _ => False) (tb := fun W => tDrop (tCallS (spRaised C 8 15) (WE W) (tCons (tVar 0) (tCons (tVar 1) (tCons (tVar 2) (tCons (tVar 3) tNil)))))) rfl rfl takes0
        (fun W pn xe tk _ => pss_one (ps_expr (pe_callS GR hr rfl mR FR.kp bR (fun σ => passAt tk σ) (pa_cons (pv 0) (pa_cons (pv 1) (pa_cons (pv 2) (pa_cons (pv 3) pa_nil))))))) 
        (.as (i := 5) scfields_1.nd rfl rfl ⟨rfl, by decide, .inl T.t8.ex.gC⟩ (fun a oe cls d pn hz hf => pss_one (ps_set (i := 4) scfields_1.nd rfl (Or.inl rfl) (pe_lst (pa_cons (pe_xf T.t8.xf (T.t8.nf _ (by simp)) hz hf (pv 5)) pa_nil)))) 
        (.bare ⟨rfl, by decide, .inl T.t9.ex.gC⟩ (fun a oe cls d pn hz hf => pss_one (ps_set (i := 4) scfields_1.nd rfl (Or.inl rfl) (pe_lst pa_nil))) 
        (.bare ⟨rfl, by decide, .inl T.t10.ex.gC⟩ (fun a oe cls d pn hz hf => pss_one (ps_set (i := 4) scfields_1.nd rfl (Or.inl rfl) (pe_lst pa_nil))) 
        (.as (i := 5) scfields_1.nd rfl rfl ⟨rfl, by decide, .inl T.t11.ex.gC⟩ (fun a oe cls d pn hz hf => pss_one (ps_set (i := 4) scfields_1.nd rfl (Or.inl rfl) (pe_lst (pa_cons (pe_xf T.t11.xf (T.t11.nf _ (by simp)) hz hf (pv 5)) pa_nil)))) 
        (.as (i := 5) scfields_1.nd rfl rfl ⟨rfl, by decide, .inl T.t12.ex.gC⟩ (fun a oe cls d pn hz hf => pss_one (ps_set (i := 4) scfields_1.nd rfl (Or.inl rfl) (pe_lst (pa_cons (pe_xf T.t12.xf (T.t12.nf _ (by simp)) hz hf (pv 5)) pa_nil)))) 
        (.bare ⟨rfl, by decide, .inl T.t13.ex.gC⟩ (fun a oe cls d pn hz hf => pss_one (ps_set (i := 4) scfields_1.nd rfl (Or.inl rfl) (pe_lst pa_nil))) 
        (.as (i := 5) scfields_1.nd rfl rfl ⟨rfl, by decide, .inl T.t14.ex.gC⟩ (fun a oe cls d pn hz hf => pss_one (ps_set (i := 4) scfields_1.nd rfl (Or.inl rfl) (pe_lst (pa_cons (pe_xf T.t14.xf (T.t14.nf _ (by simp)) hz hf (pv 5)) (pa_cons (pe_xf T.t14.xf (T.t14.nf _ (by simp)) hz hf (pv 5)) (pa_cons (pe_xf T.t14.xf (T.t14.nf _ (by simp)) hz hf (pv 5)) pa_nil)))))) .nil)))))))) (pss_one (ps_ret (pv 4)))), ?_⟩
    refine ⟨Nat.zero_le _, fun l0 n0 => ?_⟩
    refine ⟨_, rfl, _, rfl, _, rfl, _, rfl, k, a, b, c, rfl, h0, h1, ?_⟩
    have hk : k = 8 ∨ k = 9 ∨ k = 10 ∨ k = 11 ∨ k = 12 ∨ k = 13 ∨ k = 14 := by omega
    rcases hk with rfl | rfl | rfl | rfl | rfl | rfl | rfl
    · refine fun d nd => ⟨true, T.exm 8 8 (by decide) (by decide), fun _ a0 na => ?_, (fun z => Bool.noConfusion z)⟩
      refine ⟨_, rfl, rfl, rfl, d, _, _, rfl, upd_same, look1, (by show 1 ≤ sizeLine; decide), fun l1 n1 => ⟨_, rfl, q l1 _ ?_ ?_ upd_same⟩⟩
      · exact (new_same n0 : Same H _).free ((new_same nd : Same _ _).free n1)
      · exact ((new_same n0 : Same H _).trans (new_same nd)).trans (new_same n1)
    · refine ⟨false, T.exm 9 8 (by decide) (by decide), (fun z => Bool.noConfusion z), fun _ => ⟨true, T.exm 9 9 (by decide) (by decide), fun _ a0 na => ?_, (fun z => Bool.noConfusion z)⟩⟩
      refine ⟨Nat.zero_le _, fun l1 n1 => ⟨_, rfl, q l1 _ ?_ ?_ upd_same⟩⟩
      · exact (new_same n0 : Same H _).free n1
      · exact (new_same n0 : Same H _).trans (new_same n1)
    · refine ⟨false, T.exm 10 8 (by decide) (by decide), (fun z => Bool.noConfusion z), fun _ => ⟨false, T.exm 10 9 (by decide) (by decide), (fun z => Bool.noConfusion z), fun _ => ⟨true, T.exm 10 10 (by decide) (by decide), fun _ a0 na => ?_, (fun z => Bool.noConfusion z)⟩⟩⟩
      refine ⟨Nat.zero_le _, fun l1 n1 => ⟨_, rfl, q l1 _ ?_ ?_ upd_same⟩⟩
      · exact (new_same n0 : Same H _).free n1
      · exact (new_same n0 : Same H _).trans (new_same n1)
    · refine fun d nd => ⟨false, T.exm 11 8 (by decide) (by decide), (fun z => Bool.noConfusion z), fun _ => ⟨false, T.exm 11 9 (by decide) (by decide), (fun z => Bool.noConfusion z), fun _ => ⟨false, T.exm 11 10 (by decide) (by decide), (fun z => Bool.noConfusion z), fun _ => ⟨true, T.exm 11 11 (by decide) (by decide), fun _ a0 na => ?_, (fun z => Bool.noConfusion z)⟩⟩⟩⟩
      refine ⟨_, rfl, rfl, rfl, d, _, _, rfl, upd_same, look1, (by show 1 ≤ sizeLine; decide), fun l1 n1 => ⟨_, rfl, q l1 _ ?_ ?_ upd_same⟩⟩
      · exact (new_same n0 : Same H _).free ((new_same nd : Same _ _).free n1)
      · exact ((new_same n0 : Same H _).trans (new_same nd)).trans (new_same n1)
    · refine fun d nd => ⟨false, T.exm 12 8 (by decide) (by decide), (fun z => Bool.noConfusion z), fun _ => ⟨false, T.exm 12 9 (by decide) (by decide), (fun z => Bool.noConfusion z), fun _ => ⟨false, T.exm 12 10 (by decide) (by decide), (fun z => Bool.noConfusion z), fun _ => ⟨false, T.exm 12 11 (by decide) (by decide), (fun z => Bool.noConfusion z), fun _ => ⟨true, T.exm 12 12 (by decide) (by decide), fun _ a0 na => ?_, (fun z => Bool.noConfusion z)⟩⟩⟩⟩⟩
      refine ⟨_, rfl, rfl, rfl, d, _, _, rfl, upd_same, look1, (by show 1 ≤ sizeLine; decide), fun l1 n1 => ⟨_, rfl, q l1 _ ?_ ?_ upd_same⟩⟩
      · exact (new_same n0 : Same H _).free ((new_same nd : Same _ _).free n1)
      · exact ((new_same n0 : Same H _).trans (new_same nd)).trans (new_same n1)
    · refine ⟨false, T.exm 13 8 (by decide) (by decide), (fun z => Bool.noConfusion z), fun _ => ⟨false, T.exm 13 9 (by decide) (by decide), (fun z => Bool.noConfusion z), fun _ => ⟨false, T.exm 13 10 (by decide) (by decide), (fun z => Bool.noConfusion z), fun _ => ⟨false, T.exm 13 11 (by decide) (by decide), (fun z => Bool.noConfusion z), fun _ => ⟨false, T.exm 13 12 (by decide) (by decide), (fun z => Bool.noConfusion z), fun _ => ⟨true, T.exm 13 13 (by decide) (by decide), fun _ a0 na => ?_, (fun z => Bool.noConfusion z)⟩⟩⟩⟩⟩⟩
      refine ⟨Nat.zero_le _, fun l1 n1 => ⟨_, rfl, q l1 _ ?_ ?_ upd_same⟩⟩
      · exact (new_same n0 : Same H _).free n1
      · exact (new_same n0 : Same H _).trans (new_same n1)
    · refine fun d nd => ⟨false, T.exm 14 8 (by decide) (by decide), (fun z => Bool.noConfusion z), fun _ => ⟨false, T.exm 14 9 (by decide) (by decide), (fun z => Bool.noConfusion z), fun _ => ⟨false, T.exm 14 10 (by decide) (by decide), (fun z => Bool.noConfusion z), fun _ => ⟨false, T.exm 14 11 (by decide) (by decide), (fun z => Bool.noConfusion z), fun _ => ⟨false, T.exm 14 12 (by decide) (by decide), (fun z => Bool.noConfusion z), fun _ => ⟨false, T.exm 14 13 (by decide) (by decide), (fun z => Bool.noConfusion z), fun _ => ⟨true, T.exm 14 14 (by decide) (by decide), fun _ a0 na => ?_, (fun z => Bool.noConfusion z)⟩⟩⟩⟩⟩⟩⟩
      refine ⟨_, rfl, rfl, rfl, d, _, _, rfl, upd_same, (by rw [lookup_put, if_neg (by decide +kernel), lookup_put, if_neg (by decide +kernel), lookup_put, if_pos rfl]), _, rfl, rfl, rfl, d, _, _, rfl, upd_same, (by rw [lookup_put, if_neg (by decide +kernel), lookup_put, if_pos rfl]), _, rfl, rfl, rfl, d, _, _, rfl, upd_same, (by rw [lookup_put, if_pos rfl]), (by show 3 ≤ sizeLine; decide), fun l1 n1 => ⟨_, rfl, q l1 _ ?_ ?_ upd_same⟩⟩
      · exact (new_same n0 : Same H _).free ((new_same nd : Same _ _).free n1)
      · exact ((new_same n0 : Same H _).trans (new_same nd)).trans (new_same n1)
theorem scfields : FnScope ["_law_k", "_law_a", "_law_b", "_law_c"] ["_law_k", "_law_a", "_law_b", "_law_c"] (defScope sfields) := ⟨rfl, rfl, rfl, by decide +kernel, rfl, by decide +kernel, by decide +kernel⟩
theorem okfields {f f0 f1 : Addr} {fd fd0 fd1 : FuncData} (F : Fun K "_law_fields" "_law_fields" sfields f fd) (F0 : Fun K "_law_fields_0" "_law_fields_0" sfields_0 f0 fd0) (b0 : Binds K fd0 ["_law_k", "_law_a", "_law_b", "_law_c"] []) (m0 : mg "_law_fields_0" = some (.ref f0)) (G0 : FnOk P w K mg base CX0 4 f0 fd0 ["_law_k", "_law_a", "_law_b", "_law_c"] (spFields 0 8))
    (F1 : Fun K "_law_fields_1" "_law_fields_1" sfields_1 f1 fd1) (b1 : Binds K fd1 ["_law_k", "_law_a", "_law_b", "_law_c"] []) (m1 : mg "_law_fields_1" = some (.ref f1)) (G1 : FnOk P w K mg base CX0 4 f1 fd1 ["_law_k", "_law_a", "_law_b", "_law_c"] (spFields 8 15)) : FnOk P w K mg base CX0 5 f fd ["_law_k", "_law_a", "_law_b", "_law_c"] (spFields 0 15) := by
  refine F.ok scfields (fun vs H Q E h => ?_) (fun cdv A outer s H vs Q E hr h => ?_)
  · obtain ⟨k, a, b, c, rfl, _⟩ := h
    rfl
  · obtain ⟨k, a, b, c, rfl, h0, h1, q⟩ := h
    refine ⟨_, pss_cons (ps_if (pt_cmpR op_lt (pv 0) pe_int (nomark _)) (pss_one (ps_ret (pe_call G0 hr rfl m0 F0.kp b0 .nil pass0 (pa_cons (pv 0) (pa_cons (pv 1) (pa_cons (pv 2) (pa_cons (pv 3) pa_nil))))))) pss_nil)
      (pss_one (ps_ret (pe_call G1 hr rfl m1 F1.kp b1 .nil pass0 (pa_cons (pv 0) (pa_cons (pv 1) (pa_cons (pv 2) (pa_cons (pv 3) pa_nil))))))), ?_⟩
    refine ⟨_, rfl, _, _, rfl, rfl, _, rfl, ?_⟩
    refine ite2 (fun z => ?_) (fun z => ?_)
    · have y : (k : Int) < 8 := of_decide_eq_true z
      exact ⟨_, rfl, _, rfl, _, rfl, _, rfl, k, a, b, c, rfl, h0, by omega, q⟩
    · have y : ¬ (k : Int) < 8 := of_decide_eq_false (Bool.eq_false_iff.mpr z)
      exact ⟨_, rfl, _, rfl, _, rfl, _, rfl, k, a, b, c, rfl, by omega, h1, q⟩
end
/-- which of the 15 classes: error j is of class j alone -/
def kindsOf (j : Nat) : List V := (List.range 15).map fun k => V.bl (decide (j = k))
def spKinds (C : Nat → Addr) (p : Addr × Obj) : Sp := fun vs H Q _ => ∃ (j : Nat) (d : Option Addr), vs = [.ref p.1] ∧ j < 15 ∧ errAt (C j) p.1 d p.2 ∧ (∀ z, d = some z → ∃ fs, H z = some (.xd fs)) ∧
  ∀ l H', H l = none → Same H H' → H' l = some (.lst (kindsOf j)) → Q (.ref l) H'
section
variable {C I : Nat → Addr}
theorem sckinds : FnScope ["_law_e", "_law_found"] ["_law_e"] (defScope skinds_of) := ⟨rfl, rfl, rfl, by decide +kernel, rfl, by decide +kernel, by decide +kernel⟩
theorem okkinds {f : Addr} {fd : FuncData} (F : Fun K "_law_kinds_of" "_law_kinds_of" skinds_of f fd) (T : AllT K mg D C I) : FnP P w K mg base 1 f fd ["_law_e"] (spKinds C) := by
  refine fnP_of F sckinds (fun p vs H Q E h => ?_) (fun p cdv A outer s H vs Q E hr h => ?_)
  · obtain ⟨j, d, rfl, _⟩ := h
    rfl
  obtain ⟨a, oe⟩ := p
  obtain ⟨j, d, rfl, hj, he, hd, q⟩ := h
  refine ⟨_, pss_cons (ps_set (i := 1) sckinds.nd rfl (Or.inl rfl) (pe_lst (pa_cons (pe_callB (call_isD (T.is j hj) List.mem_cons_self he) (by rfl) T.isi (by decide +kernel) (pa_cons (pv 0) (pa_cons (pe_glob (v := .ref (C 0)) rfl T.t0.ex.gC rfl) pa_nil))) (pa_cons (pe_callB (call_isD (T.is j hj) List.mem_cons_self he) (by rfl) T.isi (by decide +kernel) (pa_cons (pv 0) (pa_cons (pe_glob (v := .ref (C 1)) rfl T.t1.ex.gC rfl) pa_nil))) (pa_cons (pe_callB (call_isD (T.is j hj) List.mem_cons_self he) (by rfl) T.isi (by decide +kernel) (pa_cons (pv 0) (pa_cons (pe_glob (v := .ref (C 2)) rfl T.t2.ex.gC rfl) pa_nil))) pa_nil)))))
    (pss_cons (ps_set (i := 1) sckinds.nd rfl (Or.inl rfl) (pe_op op_cat (pv 1) (pe_lst (pa_cons (pe_callB (call_isD (T.is j hj) List.mem_cons_self he) (by rfl) T.isi (by decide +kernel) (pa_cons (pv 0) (pa_cons (pe_glob (v := .ref (C 3)) rfl T.t3.ex.gC rfl) pa_nil))) (pa_cons (pe_callB (call_isD (T.is j hj) List.mem_cons_self he) (by rfl) T.isi (by decide +kernel) (pa_cons (pv 0) (pa_cons (pe_glob (v := .ref (C 4)) rfl T.t4.ex.gC rfl) pa_nil))) (pa_cons (pe_callB (call_isD (T.is j hj) List.mem_cons_self he) (by rfl) T.isi (by decide +kernel) (pa_cons (pv 0) (pa_cons (pe_glob (v := .ref (C 5)) rfl T.t5.ex.gC rfl) pa_nil))) pa_nil))))))
    (pss_cons (ps_set (i := 1) sckinds.nd rfl (Or.inl rfl) (pe_op op_cat (pv 1) (pe_lst (pa_cons (pe_callB (call_isD (T.is j hj) List.mem_cons_self he) (by rfl) T.isi (by decide +kernel) (pa_cons (pv 0) (pa_cons (pe_glob (v := .ref (C 6)) rfl T.t6.ex.gC rfl) pa_nil))) (pa_cons (pe_callB (call_isD (T.is j hj) List.mem_cons_self he) (by rfl) T.isi (by decide +kernel) (pa_cons (pv 0) (pa_cons (pe_glob (v := .ref (C 7)) rfl T.t7.ex.gC rfl) pa_nil))) (pa_cons (pe_callB (call_isD (T.is j hj) List.mem_cons_self he) (by rfl) T.isi (by decide +kernel) (pa_cons (pv 0) (pa_cons (pe_glob (v := .ref (C 8)) rfl T.t8.ex.gC rfl) pa_nil))) pa_nil))))))
    (pss_cons (ps_set (i := 1) sckinds.nd rfl (Or.inl rfl) (pe_op op_cat (pv 1) (pe_lst (pa_cons (pe_callB (call_isD (T.is j hj) List.mem_cons_self he) (by rfl) T.isi (by decide +kernel) (pa_cons (pv 0) (pa_cons (pe_glob (v := .ref (C 9)) rfl T.t9.ex.gC rfl) pa_nil))) (pa_cons (pe_callB (call_isD (T.is j hj) List.mem_cons_self he) (by rfl) T.isi (by decide +kernel) (pa_cons (pv 0) (pa_cons (pe_glob (v := .ref (C 10)) rfl T.t10.ex.gC rfl) pa_nil))) (pa_cons (pe_callB (call_isD (T.is j hj) List.mem_cons_self he) (by rfl) T.isi (by decide +kernel) (pa_cons (pv 0) (pa_cons (pe_glob (v := .ref (C 11)) rfl T.t11.ex.gC rfl) pa_nil))) pa_nil))))))
    (pss_cons (ps_set (i := 1) sckinds.nd rfl (Or.inl rfl) (pe_op op_cat (pv 1) (pe_lst (pa_cons (pe_callB (call_isD (T.is j hj) List.mem_cons_self he) (by rfl) T.isi (by decide +kernel) (pa_cons (pv 0) (pa_cons (pe_glob (v := .ref (C 12)) rfl T.t12.ex.gC rfl) pa_nil))) (pa_cons (pe_callB (call_isD (T.is j hj) List.mem_cons_self he) (by rfl) T.isi (by decide +kernel) (pa_cons (pv 0) (pa_cons (pe_glob (v := .ref (C 13)) rfl T.t13.ex.gC rfl) pa_nil))) (pa_cons (pe_callB (call_isD (T.is j hj) List.mem_cons_self he) (by rfl) T.isi (by decide +kernel) (pa_cons (pv 0) (pa_cons (pe_glob (v := .ref (C 14)) rfl T.t14.ex.gC rfl) pa_nil))) pa_nil))))))
    (pss_one (ps_ret (pv 1))))))), ?_⟩
  have keep : ∀ {G : Hp}, Same H G → ∀ z, d = some z → ∃ fs, G z = some (.xd fs) := fun e z hz => by
    obtain ⟨fs, h⟩ := hd z hz
    exact ⟨fs, e z _ h⟩
  refine ⟨_, rfl, .ref (C 0), .ref (C 0), _, rfl, .own _, hd, T.kit j 0 hj (by decide), _, rfl, .ref (C 1), .ref (C 1), _, rfl, .own _, hd, T.kit j 1 hj (by decide), _, rfl, .ref (C 2), .ref (C 2), _, rfl, .own _, hd, T.kit j 2 hj (by decide), (by show 3 ≤ sizeLine; decide), fun l1 n1 => ?_⟩
  obtain ⟨G1, hG1⟩ : ∃ G, G = upd H l1 (.lst [.bl (decide (j = 0)), .bl (decide (j = 1)), .bl (decide (j = 2))]) := ⟨_, rfl⟩
  rw [← hG1]
  have s1 : Same H G1 := by rw [hG1]; exact new_same n1
  have f1 : H l1 = none := n1
  have e1 : G1 l1 = some (.lst [.bl (decide (j = 0)), .bl (decide (j = 1)), .bl (decide (j = 2))]) := by rw [hG1]; exact upd_same
  refine ⟨_, rfl, _, rfl, .ref (C 3), .ref (C 3), _, rfl, .own _, keep s1, T.kit j 3 hj (by decide), _, rfl, .ref (C 4), .ref (C 4), _, rfl, .own _, keep s1, T.kit j 4 hj (by decide), _, rfl, .ref (C 5), .ref (C 5), _, rfl, .own _, keep s1, T.kit j 5 hj (by decide), (by show 3 ≤ sizeLine; decide), fun m1 o1 => ?_⟩
  refine ⟨l1, m1, _, _, rfl, rfl, (new_same o1) _ _ e1, upd_same, (by show 3 + 3 ≤ sizeLine; decide), fun l2 n2 => ?_⟩
  obtain ⟨G2, hG2⟩ : ∃ G, G = upd (upd G1 m1 (.lst [.bl (decide (j = 3)), .bl (decide (j = 4)), .bl (decide (j = 5))])) l2 (.lst [.bl (decide (j = 0)), .bl (decide (j = 1)), .bl (decide (j = 2)), .bl (decide (j = 3)), .bl (decide (j = 4)), .bl (decide (j = 5))]) := ⟨_, rfl⟩
  have s2 : Same H G2 := by rw [hG2]; exact (s1.trans (new_same o1)).trans (new_same n2)
  have f2 : H l2 = none := s1.free (Same.free (new_same o1) n2)
  have e2 : G2 l2 = some (.lst [.bl (decide (j = 0)), .bl (decide (j = 1)), .bl (decide (j = 2)), .bl (decide (j = 3)), .bl (decide (j = 4)), .bl (decide (j = 5))]) := by rw [hG2]; exact upd_same
  rw [show (upd (upd G1 m1 (.lst [.bl (decide (j = 3)), .bl (decide (j = 4)), .bl (decide (j = 5))])) l2 (.lst ([.bl (decide (j = 0)), .bl (decide (j = 1)), .bl (decide (j = 2))] ++ [.bl (decide (j = 3)), .bl (decide (j = 4)), .bl (decide (j = 5))]))) = G2 from hG2.symm]
  refine ⟨_, rfl, _, rfl, .ref (C 6), .ref (C 6), _, rfl, .own _, keep s2, T.kit j 6 hj (by decide), _, rfl, .ref (C 7), .ref (C 7), _, rfl, .own _, keep s2, T.kit j 7 hj (by decide), _, rfl, .ref (C 8), .ref (C 8), _, rfl, .own _, keep s2, T.kit j 8 hj (by decide), (by show 3 ≤ sizeLine; decide), fun m2 o2 => ?_⟩
  refine ⟨l2, m2, _, _, rfl, rfl, (new_same o2) _ _ e2, upd_same, (by show 6 + 3 ≤ sizeLine; decide), fun l3 n3 => ?_⟩
  obtain ⟨G3, hG3⟩ : ∃ G, G = upd (upd G2 m2 (.lst [.bl (decide (j = 6)), .bl (decide (j = 7)), .bl (decide (j = 8))])) l3 (.lst [.bl (decide (j = 0)), .bl (decide (j = 1)), .bl (decide (j = 2)), .bl (decide (j = 3)), .bl (decide (j = 4)), .bl (decide (j = 5)), .bl (decide (j = 6)), .bl (decide (j = 7)), .bl (decide (j = 8))]) := ⟨_, rfl⟩
  have s3 : Same H G3 := by rw [hG3]; exact (s2.trans (new_same o2)).trans (new_same n3)
  have f3 : H l3 = none := s2.free (Same.free (new_same o2) n3)
  have e3 : G3 l3 = some (.lst [.bl (decide (j = 0)), .bl (decide (j = 1)), .bl (decide (j = 2)), .bl (decide (j = 3)), .bl (decide (j = 4)), .bl (decide (j = 5)), .bl (decide (j = 6)), .bl (decide (j = 7)), .bl (decide (j = 8))]) := by rw [hG3]; exact upd_same
  rw [show (upd (upd G2 m2 (.lst [.bl (decide (j = 6)), .bl (decide (j = 7)), .bl (decide (j = 8))])) l3 (.lst ([.bl (decide (j = 0)), .bl (decide (j = 1)), .bl (decide (j = 2)), .bl (decide (j = 3)), .bl (decide (j = 4)), .bl (decide (j = 5))] ++ [.bl (decide (j = 6)), .bl (decide (j = 7)), .bl (decide (j = 8))]))) = G3 from hG3.symm]
  refine ⟨_, rfl, _, rfl, .ref (C 9), .ref (C 9), _, rfl, .own _, keep s3, T.kit j 9 hj (by decide), _, rfl, .ref (C 10), .ref (C 10), _, rfl, .own _, keep s3, T.kit j 10 hj (by decide), _, rfl, .ref (C 11), .ref (C 11), _, rfl, .own _, keep s3, T.kit j 11 hj (by decide), (by show 3 ≤ sizeLine; decide), fun m3 o3 => ?_⟩
  refine ⟨l3, m3, _, _, rfl, rfl, (new_same o3) _ _ e3, upd_same, (by show 9 + 3 ≤ sizeLine; decide), fun l4 n4 => ?_⟩
  obtain ⟨G4, hG4⟩ : ∃ G, G = upd (upd G3 m3 (.lst [.bl (decide (j = 9)), .bl (decide (j = 10)), .bl (decide (j = 11))])) l4 (.lst [.bl (decide (j = 0)), .bl (decide (j = 1)), .bl (decide (j = 2)), .bl (decide (j = 3)), .bl (decide (j = 4)), .bl (decide (j = 5)), .bl (decide (j = 6)), .bl (decide (j = 7)), .bl (decide (j = 8)), .bl (decide (j = 9)), .bl (decide (j = 10)), .bl (decide (j = 11))]) := ⟨_, rfl⟩
  have s4 : Same H G4 := by rw [hG4]; exact (s3.trans (new_same o3)).trans (new_same n4)
  have f4 : H l4 = none := s3.free (Same.free (new_same o3) n4)
  have e4 : G4 l4 = some (.lst [.bl (decide (j = 0)), .bl (decide (j = 1)), .bl (decide (j = 2)), .bl (decide (j = 3)), .bl (decide (j = 4)), .bl (decide (j = 5)), .bl (decide (j = 6)), .bl (decide (j = 7)), .bl (decide (j = 8)), .bl (decide (j = 9)), .bl (decide (j = 10)), .bl (decide (j = 11))]) := by rw [hG4]; exact upd_same
  rw [show (upd (upd G3 m3 (.lst [.bl (decide (j = 9)), .bl (decide (j = 10)), .bl (decide (j = 11))])) l4 (.lst ([.bl (decide (j = 0)), .bl (decide (j = 1)), .bl (decide (j = 2)), .bl (decide (j = 3)), .bl (decide (j = 4)), .bl (decide (j = 5)), .bl (decide (j = 6)), .bl (decide (j = 7)), .bl (decide (j = 8))] ++ [.bl (decide (j = 9)), .bl (decide (j = 10)), .bl (decide (j = 11))]))) = G4 from hG4.symm]
  refine ⟨_, rfl, _, rfl, .ref (C 12), .ref (C 12), _, rfl, .own _, keep s4, T.kit j 12 hj (by decide), _, rfl, .ref (C 13), .ref (C 13), _, rfl, .own _, keep s4, T.kit j 13 hj (by decide), _, rfl, .ref (C 14), .ref (C 14), _, rfl, .own _, keep s4, T.kit j 14 hj (by decide), (by show 3 ≤ sizeLine; decide), fun m4 o4 => ?_⟩
  refine ⟨l4, m4, _, _, rfl, rfl, (new_same o4) _ _ e4, upd_same, (by show 12 + 3 ≤ sizeLine; decide), fun l5 n5 => ?_⟩
  obtain ⟨G5, hG5⟩ : ∃ G, G = upd (upd G4 m4 (.lst [.bl (decide (j = 12)), .bl (decide (j = 13)), .bl (decide (j = 14))])) l5 (.lst [.bl (decide (j = 0)), .bl (decide (j = 1)), .bl (decide (j = 2)), .bl (decide (j = 3)), .bl (decide (j = 4)), .bl (decide (j = 5)), .bl (decide (j = 6)), .bl (decide (j = 7)), .bl (decide (j = 8)), .bl (decide (j = 9)), .bl (decide (j = 10)), .bl (decide (j = 11)), .bl (decide (j = 12)), .bl (decide (j = 13)), .bl (decide (j = 14))]) := ⟨_, rfl⟩
  have s5 : Same H G5 := by rw [hG5]; exact (s4.trans (new_same o4)).trans (new_same n5)
  have f5 : H l5 = none := s4.free (Same.free (new_same o4) n5)
  have e5 : G5 l5 = some (.lst [.bl (decide (j = 0)), .bl (decide (j = 1)), .bl (decide (j = 2)), .bl (decide (j = 3)), .bl (decide (j = 4)), .bl (decide (j = 5)), .bl (decide (j = 6)), .bl (decide (j = 7)), .bl (decide (j = 8)), .bl (decide (j = 9)), .bl (decide (j = 10)), .bl (decide (j = 11)), .bl (decide (j = 12)), .bl (decide (j = 13)), .bl (decide (j = 14))]) := by rw [hG5]; exact upd_same
  rw [show (upd (upd G4 m4 (.lst [.bl (decide (j = 12)), .bl (decide (j = 13)), .bl (decide (j = 14))])) l5 (.lst ([.bl (decide (j = 0)), .bl (decide (j = 1)), .bl (decide (j = 2)), .bl (decide (j = 3)), .bl (decide (j = 4)), .bl (decide (j = 5)), .bl (decide (j = 6)), .bl (decide (j = 7)), .bl (decide (j = 8)), .bl (decide (j = 9)), .bl (decide (j = 10)), .bl (decide (j = 11))] ++ [.bl (decide (j = 12)), .bl (decide (j = 13)), .bl (decide (j = 14))]))) = G5 from hG5.symm]
  exact ⟨_, rfl, q l5 _ f5 s5 e5⟩
theorem errK_of {a b c : V} {H : Hp} {E : XK} {k : Nat} (hk : k < 15) (h1 : ∀ z G, Same H G → (∀ y, some z = some y → ∃ fs, G y = some (.xd fs)) → E (.ref (C k)) (some z) G)
    (h0 : ∀ G, Same H G → (∀ y, (none : Option Addr) = some y → ∃ fs, G y = some (.xd fs)) → E (.ref (C k)) none G) : errK C a b c H E k := by
  have s1 : ∀ {f : Str} {v : V}, (∀ z G, Same H G → (∀ y, some z = some y → ∃ fs, G y = some (.xd fs)) → E (.ref (C k)) (some z) G) → err1 (C k) f v H E := fun h d nd => h d _ (new_same nd) fun y e => by
    cases e
    exact ⟨_, upd_same⟩
  have s3 : ∀ {f g i : Str} {u v w : V}, (∀ z G, Same H G → (∀ y, some z = some y → ∃ fs, G y = some (.xd fs)) → E (.ref (C k)) (some z) G) → err3 (C k) f g i u v w H E := fun h d nd => h d _ (new_same nd) fun y e => by
    cases e
    exact ⟨_, upd_same⟩
  have z0 := h0 H (Same.refl H) (fun y e => nomatch e)
  have hh : k = 0 ∨ k = 1 ∨ k = 2 ∨ k = 3 ∨ k = 4 ∨ k = 5 ∨ k = 6 ∨ k = 7 ∨ k = 8 ∨ k = 9 ∨ k = 10 ∨ k = 11 ∨ k = 12 ∨ k = 13 ∨ k = 14 := by omega
  rcases hh with rfl | rfl | rfl | rfl | rfl | rfl | rfl | rfl | rfl | rfl | rfl | rfl | rfl | rfl | rfl <;> first | exact s1 h1 | exact s3 h1 | exact z0
/-- what _law_caught tells of error k -/
def spCaught : Sp := fun vs H Q _ => ∃ (k : Nat) (a b c : V), vs = [.int (k : Int), a, b, c] ∧ k < 15 ∧ ∀ p H', H p = none → Same H H' → H' p = some (.lst ([V.bl true] ++ kindsOf k)) → Q (.ref p) H'
theorem sccaught : FnScope ["_law_k", "_law_a", "_law_b", "_law_c", "_law_e"] ["_law_k", "_law_a", "_law_b", "_law_c"] (defScope scaught) := ⟨rfl, rfl, rfl, by decide +kernel, rfl, by decide +kernel, by decide +kernel⟩
theorem okcaught {f g h : Addr} {fd gd hd : FuncData} (F : Fun K "_law_caught" "_law_caught" scaught f fd) (T : AllT K mg D C I) (FR : Fun K "_law_raised" "_law_raised" sraised g gd) (bR : Binds K gd ["_law_k", "_law_a", "_law_b", "_law_c"] []) (mR : mg "_law_raised" = some (.ref g)) (GR : FnOk P w K mg base (L2.CX P w) 4 g gd ["_law_k", "_law_a", "_law_b", "_law_c"] (spRaised C 0 15))
    (FK : Fun K "_law_kinds_of" "_law_kinds_of" skinds_of h hd) (bK : Binds K hd ["_law_e"] []) (mK : mg "_law_kinds_of" = some (.ref h)) : FnOk P w K mg base CX0 5 f fd ["_law_k", "_law_a", "_law_b", "_law_c"] spCaught := by
  have GK : FnP P w K mg base 1 h hd ["_law_e"] (spKinds C) := okkinds FK T
  refine F.ok sccaught (fun vs H Q E h => ?_) (fun cdv A outer s H vs Q E hr h => ?_)
  · obtain ⟨k, a, b, c, rfl, _⟩ := h
    rfl
  obtain ⟨k, a, b, c, rfl, hk, q⟩ := h
  have hr1 : Room 1 _ := hr.mono (by decide)
  have hu := hu_of hr
  refine ⟨_, pss_cons (ps_try_any (Wout := fun _ _ _ _ => False) (tb := fun W => tDrop (tCallS (spRaised C 0 15) (WE W) (tCons (tVar 0) (tCons (tVar 1) (tCons (tVar 2) (tCons (tVar 3) tNil)))))) rfl rfl takes0
        (fun W pn xe tk _ => pss_one (ps_expr (pe_callS GR hr rfl mR FR.kp bR (fun σ => passAt tk σ) (pa_cons (pv 0) (pa_cons (pv 1) (pa_cons (pv 2) (pa_cons (pv 3) pa_nil)))))))
        (.as (i := 4) (ts := fun a cls d => fun D σ H => cls = .ref (C k) ∧ ∀ oe : Obj, errAt (C k) a d oe → tRet (tOp rCat (tLst (tCons (tCB (rIsD K (C k) a d) (tCons (tVar 4) (tCons (tC (.ty "ValueError")) tNil))) tNil)) (tCallS (spKinds C (a, oe)) (fun _ _ _ _ => False) (tCons (tVar 4) tNil))) D σ H) sccaught.nd rfl rfl ⟨rfl, by decide, .inl T.base.gB⟩
          (fun a oe cls d pn hz hf => ?_) .nil)) (pss_one (ps_ret (pe_lst pa_nil))), ?_⟩
  · refine ⟨fun pins s σ H D I h => ?_⟩
    obtain ⟨rfl, h⟩ := h
    have he : errAt (C k) a d oe := ⟨hz, hf⟩
    refine PSs.run ?_ pins s σ H D I (h oe he)
    exact pss_one (ps_ret (pe_op op_cat (pe_lst (pa_cons (pe_callB (call_isD (T.is k hk) List.mem_cons_self he) (by rfl) T.isi (by decide +kernel) (pa_cons (pv 4) (pa_cons (pe_bltn (x := "ValueError") (v := .ty "ValueError") rfl T.vE (by decide +kernel) rfl) pa_nil))) pa_nil)) (pe_callP GK List.mem_cons_self ⟨hr1.dp, hr1.un⟩ mK FK.kp bK (pa_cons (pv 4) pa_nil))))
  -- every way in which an error comes: its class k, its dict d
  have come : ∀ (d : Option Addr) (G : Hp), Same H G → (∀ z, d = some z → ∃ fs, G z = some (.xd fs)) → WE (wAny K (fun _ _ _ _ => False) { nx := fun σ' G' => tRet (tLst tNil) { nx := fun _ H' => Q .non H', rt := Q } σ' G', rt := Q } [⟨.ref D, some 4, fun a cls d => fun D σ H => cls = .ref (C k) ∧ ∀ oe : Obj, errAt (C k) a d oe → tRet (tOp rCat (tLst (tCons (tCB (rIsD K (C k) a d) (tCons (tVar 4) (tCons (tC (.ty "ValueError")) tNil))) tNil)) (tCallS (spKinds C (a, oe)) (fun _ _ _ _ => False) (tCons (tVar 4) tNil))) D σ H⟩])
      (L2.start ["_law_k", "_law_a", "_law_b", "_law_c", "_law_e"] [.int (k : Int), a, b, c]) (.ref (C k)) d G := by
    intro d G sG hd
    refine ⟨true, T.exB k hk, fun _ x nx => ⟨rfl, fun oe he => ?_⟩, fun z => Bool.noConfusion z⟩
    refine ⟨_, rfl, .ty "ValueError", .type "ValueError", _, rfl, .ty _, hd, T.kiV k hk, (by show 1 ≤ sizeLine; decide), fun l1 n1 => ?_⟩
    refine ⟨_, rfl, k, d, rfl, hk, he, fun z hz => ?_, fun l2 G2 n2 s2 e2 => ?_⟩
    · obtain ⟨fs, hf⟩ := hd z hz
      exact ⟨fs, (new_same n1) _ _ hf⟩
    · refine ⟨l1, l2, _, _, rfl, rfl, s2 _ _ upd_same, e2, (by show 1 + 15 ≤ sizeLine; decide), fun p np => ?_⟩
      exact q p _ (sG.free (Same.free (new_same n1) (s2.free np))) (((sG.trans (new_same n1)).trans s2).trans (new_same np)) upd_same
  refine ⟨_, rfl, _, rfl, _, rfl, _, rfl, k, a, b, c, rfl, Nat.zero_le _, hk, ?_⟩
  exact errK_of hk (fun d => come (some d)) (come none)
end
/-! ### what is drawn as a field -/
/-- data that == can tell, three deep at most -/
def Th (K : PySem.W.Frag) (H : Hp) (v : V) : Prop := ∃ d : PyData, Dp K H v d ∧ d.canLay0 = true ∧ d.depth ≤ 3
section
variable {H H' : Hp} {p : Addr}
theorem rd_but {a : Addr} {u : HO} (b : But p H H') (hp : ∃ kvs, H p = some (.dK kvs)) (hu : ∀ kvs, u ≠ .dK kvs) (h : Rd H a u) : Rd H' a u := by
  obtain ⟨kvs, hk⟩ := hp
  rcases h with h | ⟨o, h⟩
  · exact .inl (b a _ (fun e => by rw [e, hk] at h; exact hu kvs (Option.some.inj h).symm) h)
  · exact .inr ⟨o, b a _ (fun e => by rw [e, hk] at h; cases h) h⟩
theorem sql_but {a : Addr} {xs : List V} (b : But p H H') (hp : ∃ kvs, H p = some (.dK kvs)) (h : SqL K H a xs) : SqL K H' a xs := by
  rcases h with h | h
  · exact .inl (rd_but b hp (fun _ e => nomatch e) h)
  · exact .inr h
theorem sqt_but {a : Addr} {xs : List V} (b : But p H H') (hp : ∃ kvs, H p = some (.dK kvs)) (h : SqT K H a xs) : SqT K H' a xs := by
  rcases h with h | h
  · exact .inl (rd_but b hp (fun _ e => nomatch e) h)
  · exact .inr h
mutual
theorem dp_but (b : But p H H') (hp : ∃ kvs, H p = some (.dK kvs)) : ∀ (d : PyData) (v : V), Dp K H v d → Dp K H' v d
  | .none, _, h => by cases h; exact .non
  | .bool b, _, h => by cases h; exact .bl _
  | .int i, _, h => by cases h; exact .int _
  | .str x, _, h => by cases h; exact .str _
  | .list ds, _, h => by
    cases h with
    | lst h1 h2 => exact .lst (sql_but b hp h1) (dpall_but b hp ds _ h2)
  | .tuple ds, _, h => by
    cases h with
    | tup h1 h2 => exact .tup (sqt_but b hp h1) (dpall_but b hp ds _ h2)
  | .dict _, _, h => by cases h
theorem dpall_but (b : But p H H') (hp : ∃ kvs, H p = some (.dK kvs)) : ∀ (ds : List PyData) (vs : List V), DpAll K H vs ds → DpAll K H' vs ds
  | [], _, h => by cases h; exact .nil
  | d :: ds, _, h => by
    cases h with
    | cons h1 h2 => exact .cons (dp_but b hp d _ h1) (dpall_but b hp ds _ h2)
end
theorem bag_dk {n : Nat} (b : Bag H p n) : ∃ kvs, H p = some (.dK kvs) := by
  obtain ⟨l, ns, i, dg, fd, h1, _⟩ := b
  exact ⟨_, h1⟩
theorem th_but {v : V} {n : Nat} (t : Th K H v) (b : But p H H') (g : Bag H p n) : Th K H' v := by
  obtain ⟨d, h, q⟩ := t
  exact ⟨d, dp_but b (bag_dk g) d v h, q⟩
end
def spThing (K : PySem.W.Frag) : Sp := fun vs H Q _ => ∃ (p : Addr) (n : Nat), vs = [.ref p] ∧ Bag H p n ∧ n ≤ 900000 ∧ ∀ (v : V) (H' : Hp), Th K H' v → Bag H' p (n + 2) → But p H H' → Q v H'
theorem pow20 : ((10 : Int) ^ (20 : Int).toNat).natAbs < 2 ^ 8000 := by
  have h : ((10 : Int) ^ (20 : Int).toNat).natAbs < 2 ^ 67 := by decide +kernel
  exact Nat.lt_of_lt_of_le h (Nat.pow_le_pow_right (by decide) (by decide))
theorem nine : (9 : Int).natAbs < 2 ^ 8000 := by
  have h : (9 : Int).natAbs < 2 ^ 4 := by decide
  exact Nat.lt_of_lt_of_le h (Nat.pow_le_pow_right (by decide) (by decide))
theorem scthing : FnScope ["_law_bag_here"] ["_law_bag_here"] (defScope sthing) := ⟨rfl, rfl, rfl, by decide +kernel, rfl, by decide +kernel, by decide +kernel⟩
theorem okthing {f g : Addr} {fd gd : FuncData} (F : Fun K "_law_thing" "_law_thing" sthing f fd) (B : BltT mg) (FD : Fun K "_law_draw" "_law_draw" sDraw g gd) (bD : Binds K gd ["_law_bag_here", "_law_limit"] []) (mD : mg "_law_draw" = some (.ref g)) : FnOk P w K mg base CX0 2 f fd ["_law_bag_here"] (spThing K) := by
  have GD : FnOk P w K mg base CX0 1 g gd ["_law_bag_here", "_law_limit"] spDraw := ok_draw FD B
  refine F.ok scthing (fun vs H Q E h => ?_) (fun cdv A outer s H vs Q E hr h => ?_)
  · obtain ⟨p, n, rfl, _⟩ := h
    rfl
  obtain ⟨p, n, rfl, hb, hn, q⟩ := h
  refine ⟨_, pss_one (ps_ret (pe_ix ix_list (pe_lst (pa_cons (pe_op op_sub (pe_call GD hr rfl mD FD.kp bD .nil pass0 (pa_cons (pv 0) (pa_cons (pe_op op_pow pe_int pe_int) pa_nil))) (pe_op op_pow pe_int pe_int))
    (pa_cons pe_str (pa_cons pe_str (pa_cons pe_non (pa_cons pe_bl (pa_cons (pe_tup (pa_cons pe_int (pa_cons pe_str pa_nil))) (pa_cons (pe_lst pa_nil) (pa_cons (pe_lst (pa_cons pe_int pa_nil)) (pa_cons pe_int pa_nil))))))))))
    (pe_call GD hr rfl mD FD.kp bD .nil pass0 (pa_cons (pv 0) (pa_cons pe_int pa_nil))) (fun _ _ => rfl))), ?_⟩
  refine ⟨_, rfl, _, _, rfl, rfl, ⟨by decide, by decide, by decide⟩, p, n, _, rfl, hb, by omega, by decide, pow20, fun r0 H1 _ _ b1 u1 => ?_⟩
  refine ⟨_, _, rfl, rfl, ⟨by decide, by decide, by decide⟩, _, _, rfl, rfl, (by show 2 ≤ sizeLine; decide), fun t nt => ⟨Nat.zero_le _, fun l1 n1 => ⟨(by show 1 ≤ sizeLine; decide), fun l2 n2 => ⟨(by show 9 ≤ sizeLine; decide), fun L nL => ?_⟩⟩⟩⟩
  have s1 : Same H1 (upd H1 t (.tup [.int 1, .str "a"])) := new_same nt
  have s2 := s1.trans (new_same (o := .lst []) n1)
  have s3 := s2.trans (new_same (o := .lst [.int 3]) n2)
  have s4 := s3.trans (new_same (o := .lst [.int (r0 - 10 ^ (19 : Int).toNat), .str "", .str "p1", .non, .bl true, .ref t, .ref l1, .ref l2, .int 0]) nL)
  have b4 := b1.keep s4
  refine ⟨_, rfl, p, n + 1, 9, rfl, b4, by omega, by decide, nine, fun r H5 r0' r9 b5 u5 => ?_⟩
  have dk := bag_dk b4
  have eL := sql_but (K := K) u5 dk (SqL.of upd_same)
  have eT := sqt_but (K := K) u5 dk (SqT.of ((new_same nL) _ _ ((new_same n2) _ _ ((new_same n1) _ _ upd_same))))
  have e1 := sql_but (K := K) u5 dk (SqL.of ((new_same nL) _ _ ((new_same n2) _ _ upd_same)))
  have e2 := sql_but (K := K) u5 dk (SqL.of ((new_same nL) _ _ upd_same))
  have fin : ∀ v : V, Th K H5 v → Q v H5 := fun v t => q v H5 t b5 ((u1.trans (Hx.Same.but s4)).trans u5)
  have hh : r = 0 ∨ r = 1 ∨ r = 2 ∨ r = 3 ∨ r = 4 ∨ r = 5 ∨ r = 6 ∨ r = 7 ∨ r = 8 := by omega
  rcases hh with rfl | rfl | rfl | rfl | rfl | rfl | rfl | rfl | rfl
  · exact ⟨L, _, _, _, rfl, rfl, eL, at_of (j := 0) rfl rfl, fin _ ⟨_, .int _, rfl, Nat.zero_le _⟩⟩
  · exact ⟨L, _, _, _, rfl, rfl, eL, at_of (j := 1) rfl rfl, fin _ ⟨_, .str _, by decide +kernel, by decide⟩⟩
  · exact ⟨L, _, _, _, rfl, rfl, eL, at_of (j := 2) rfl rfl, fin _ ⟨_, .str _, by decide +kernel, by decide⟩⟩
  · exact ⟨L, _, _, _, rfl, rfl, eL, at_of (j := 3) rfl rfl, fin _ ⟨_, .non, rfl, by decide⟩⟩
  · exact ⟨L, _, _, _, rfl, rfl, eL, at_of (j := 4) rfl rfl, fin _ ⟨_, .bl _, rfl, by decide⟩⟩
  · exact ⟨L, _, _, _, rfl, rfl, eL, at_of (j := 5) rfl rfl, fin _ ⟨_, .tup eT (.cons (.int _) (.cons (.str _) .nil)), by decide +kernel, by decide +kernel⟩⟩
  · exact ⟨L, _, _, _, rfl, rfl, eL, at_of (j := 6) rfl rfl, fin _ ⟨_, .lst e1 .nil, by decide +kernel, by decide +kernel⟩⟩
  · exact ⟨L, _, _, _, rfl, rfl, eL, at_of (j := 7) rfl rfl, fin _ ⟨_, .lst e2 (.cons (.int _) .nil), by decide +kernel, by decide +kernel⟩⟩
  · exact ⟨L, _, _, _, rfl, rfl, eL, at_of (j := 8) rfl rfl, fin _ ⟨_, .int _, rfl, Nat.zero_le _⟩⟩
/-! ### the law -/
def szs : List Int := [1, 1, 1, 1, 1, 1, 1, 1, 1, 0, 0, 1, 1, 0, 3]
/-- the fields are a cut of the three values -/
theorem cut_fields (a b c : V) {i : Nat} (hi : i < 15) : ∃ (z : Int) (xs : List V), szs[i]? = some z ∧ fieldsOf a b c i = xs ∧ cutV [a, b, c] none (some z) = xs ∧ (xs = [] ∨ xs = [a] ∨ xs = [a, b, c]) := by
  have hh : i = 0 ∨ i = 1 ∨ i = 2 ∨ i = 3 ∨ i = 4 ∨ i = 5 ∨ i = 6 ∨ i = 7 ∨ i = 8 ∨ i = 9 ∨ i = 10 ∨ i = 11 ∨ i = 12 ∨ i = 13 ∨ i = 14 := by omega
  rcases hh with rfl | rfl | rfl | rfl | rfl | rfl | rfl | rfl | rfl | rfl | rfl | rfl | rfl | rfl | rfl
  all_goals first
    | exact ⟨1, [a], rfl, rfl, rfl, .inr (.inl rfl)⟩
    | exact ⟨0, [], rfl, rfl, rfl, .inl rfl⟩
    | exact ⟨3, [a, b, c], rfl, rfl, rfl, .inr (.inr rfl)⟩
theorem shaped_of {ds : List PyData} (h1 : PyData.canLayAll0 ds = true) (h2 : PyData.depthAll ds ≤ 3) : SeqAt.shaped (.list ds) = true := by
  unfold SeqAt.shaped
  rw [Bool.and_eq_true]
  refine ⟨by rw [PyData.canLay0]; exact h1, decide_eq_true ?_⟩
  rw [PyData.depth]
  omega
/-- such a list of drawn values is data -/
theorem th_list {H : Hp} {a b c : V} {xs : List V} (ha : Th K H a) (hb : Th K H b) (hc : Th K H c) (hx : xs = [] ∨ xs = [a] ∨ xs = [a, b, c]) : ∃ ds, DpAll K H xs ds ∧ SeqAt.shaped (.list ds) = true ∧ PyData.eqv (.list ds) (.list ds) = true := by
  obtain ⟨da, a1, a2, a3⟩ := ha
  obtain ⟨db, b1, b2, b3⟩ := hb
  obtain ⟨dc, c1, c2, c3⟩ := hc
  have fin : ∀ ds : List PyData, DpAll K H xs ds → PyData.canLayAll0 ds = true → PyData.depthAll ds ≤ 3 → ∃ ds, DpAll K H xs ds ∧ SeqAt.shaped (.list ds) = true ∧ PyData.eqv (.list ds) (.list ds) = true := fun ds h1 h2 h3 =>
    ⟨ds, h1, shaped_of h2 h3, SeqAt.eqv_refl _ (by rw [PyData.canLay0]; exact h2)⟩
  rcases hx with rfl | rfl | rfl
  · exact fin [] .nil (by rw [PyData.canLayAll0]) (by rw [PyData.depthAll]; decide)
  · refine fin [da] (.cons a1 .nil) (by simp [PyData.canLayAll0, a2]) ?_
    simp only [PyData.depthAll]
    omega
  · refine fin [da, db, dc] (.cons a1 (.cons b1 (.cons c1 .nil))) (by simp [PyData.canLayAll0, a2, b2, c2]) ?_
    simp only [PyData.depthAll]
    omega
/-- a list of answers is data -/
theorem bl_list {H : Hp} (bs : List Bool) : DpAll K H (bs.map V.bl) (bs.map PyData.bool) := by
  induction bs with
  | nil => exact .nil
  | cons b r ih => exact .cons (.bl b) ih
theorem bl_lay (bs : List Bool) : PyData.canLayAll0 (bs.map PyData.bool) = true := by
  induction bs with
  | nil => rw [List.map_nil, PyData.canLayAll0]
  | cons b r ih => rw [List.map_cons, PyData.canLayAll0, ih, PyData.canLay0]; rfl
theorem bl_deep (bs : List Bool) : PyData.depthAll (bs.map PyData.bool) = 0 := by
  induction bs with
  | nil => rw [List.map_nil, PyData.depthAll]
  | cons b r ih => rw [List.map_cons, PyData.depthAll, ih, PyData.depth]; rfl
def spLaw (K : PySem.W.Frag) : Sp := fun vs H Q _ => ∃ (a : Addr) (ns : List Int), vs = [.ref a] ∧ SqL K H a (ns.map V.int) ∧ ns.length ≤ 63 ∧ ∀ H', Q (.bl true) H'
theorem sclaw : FnScope ["_law_script", "_law_bag_here", "_law_sizes", "_law_k", "_law_a", "_law_b", "_law_c", "_law_j"] ["_law_script"] (defScope slaw) := ⟨rfl, rfl, rfl, by decide +kernel, rfl, by decide +kernel, by decide +kernel⟩
theorem oklaw {f g1 g2 g3 g4 : Addr} {fd d1 d2 d3 d4 : FuncData} (F : Fun K "law" "law" slaw f fd) (B : BltT mg) (rng : mg "range" = none)
    (F1 : Fun K "_law_bag" "_law_bag" sBag g1 d1) (b1 : Binds K d1 ["_law_script"] []) (m1 : mg "_law_bag" = some (.ref g1))
    (F2 : Fun K "_law_thing" "_law_thing" sthing g2 d2) (b2 : Binds K d2 ["_law_bag_here"] []) (m2 : mg "_law_thing" = some (.ref g2)) (G2 : FnOk P w K mg base CX0 2 g2 d2 ["_law_bag_here"] (spThing K))
    (F3 : Fun K "_law_fields" "_law_fields" sfields g3 d3) (b3 : Binds K d3 ["_law_k", "_law_a", "_law_b", "_law_c"] []) (m3 : mg "_law_fields" = some (.ref g3)) (G3 : FnOk P w K mg base CX0 5 g3 d3 ["_law_k", "_law_a", "_law_b", "_law_c"] (spFields 0 15))
    (F4 : Fun K "_law_caught" "_law_caught" scaught g4 d4) (b4 : Binds K d4 ["_law_k", "_law_a", "_law_b", "_law_c"] []) (m4 : mg "_law_caught" = some (.ref g4)) (G4 : FnOk P w K mg base CX0 5 g4 d4 ["_law_k", "_law_a", "_law_b", "_law_c"] spCaught) : FnOk P w K mg base CX0 6 f fd ["_law_script"] (spLaw K) := by
  have G1 : FnOk P w K mg base CX0 1 g1 d1 ["_law_script"] (spBag K) := ok_bag F1 B
  refine F.ok sclaw (fun vs H Q E h => ?_) (fun cdv A outer s H vs Q E hr h => ?_)
  · obtain ⟨a, ns, rfl, _⟩ := h
    rfl
  obtain ⟨a, ns, rfl, hS, hlen, q⟩ := h
  have hr1 : Room 1 _ := hr.mono (by decide)
  have hr2 : Room 2 _ := hr.mono (by decide)
  have hu := hr.units
  refine ⟨_, pss_cons (ps_set (i := 1) sclaw.nd rfl (Or.inl rfl) (pe_call G1 hr1 rfl m1 F1.kp b1 .nil pass0 (pa_cons (pv 0) pa_nil)))
    (pss_cons (ps_set (i := 2) sclaw.nd rfl (Or.inl rfl) (pe_lst (pa_cons pe_int (pa_cons pe_int (pa_cons pe_int (pa_cons pe_int (pa_cons pe_int (pa_cons pe_int (pa_cons pe_int (pa_cons pe_int (pa_cons pe_int (pa_cons pe_int (pa_cons pe_int (pa_cons pe_int (pa_cons pe_int (pa_cons pe_int (pa_cons pe_int pa_nil)))))))))))))))))
    (pss_cons (ps_for PassesOwn.never rfl (pi_range1 rfl rng (pa_cons pe_int pa_nil)) (pg_name (i := 3) sclaw.nd rfl (Or.inr rfl))
      (pss_cons (ps_par3 (i := 4) (j := 5) (l := 6) rfl sclaw.nd rfl rfl rfl (by decide) (by decide) (by decide) rfl rfl rfl
          (pa_cons (pe_call G2 hr2 rfl m2 F2.kp b2 .nil pass0 (pa_cons (pv 1) pa_nil)) (pa_cons (pe_call G2 hr2 rfl m2 F2.kp b2 .nil pass0 (pa_cons (pv 1) pa_nil)) (pa_cons (pe_call G2 hr2 rfl m2 F2.kp b2 .nil pass0 (pa_cons (pv 1) pa_nil)) pa_nil))) (by rfl))
      (pss_cons (ps_if (pt_cmpR (op_neD hu) (pe_call G3 hr rfl m3 F3.kp b3 .nil pass0 (pa_cons (pv 3) (pa_cons (pv 4) (pa_cons (pv 5) (pa_cons (pv 6) pa_nil)))))
          (pe_slice sl_list (pe_lst (pa_cons (pv 4) (pa_cons (pv 5) (pa_cons (pv 6) pa_nil)))) po_none (po_some (pe_ix ix_list (pv 2) (pv 3) (fun _ _ => rfl)))) (nomark _)) (pss_one (ps_ret pe_bl)) pss_nil)
      (pss_one (ps_if (pt_cmpR (op_neD hu) (pe_call G4 hr rfl m4 F4.kp b4 .nil pass0 (pa_cons (pv 3) (pa_cons (pv 4) (pa_cons (pv 5) (pa_cons (pv 6) pa_nil)))))
          (pe_op op_cat (pe_lst (pa_cons pe_bl pa_nil)) (pe_lc (own := [("_law_j", 7)]) (g := gName 7) (tt := tYes) rfl sclaw.nd (pi_range1 rfl rng (pa_cons pe_int pa_nil)) (blkOk_by (own := [("_law_j", 7)]) (N := ["_law_script", "_law_bag_here", "_law_sizes", "_law_k", "_law_a", "_law_b", "_law_c", "_law_j"]) (sc := defScope slaw) (by decide +kernel))
            (fun _ _ _ _ _ => pg_name (i := 7) sclaw.nd rfl (Or.inl rfl)) (fun _ _ _ _ _ => pts_nil) (fun _ _ _ _ _ => pe_cmpR op_eq (pv 7) (pv 3) (nomark _)))) (nomark _)) (pss_one (ps_ret pe_bl)) pss_nil)))))
    (pss_one (ps_ret pe_bl)))), ?_⟩
  refine ⟨_, rfl, a, ns, rfl, hS, hlen, fun p H1 np s1 b1 => ?_⟩
  refine ⟨(by show 15 ≤ sizeLine; decide), fun z nz => ?_⟩
  have npz : z ≠ p := fun e => by
    obtain ⟨o, ho⟩ := b1.at
    rw [e, ho] at nz
    cases nz
  refine ⟨15, rfl, by decide, by decide, for_range (n := 15) (fun i σ G => ∃ (v3 v4 v5 v6 v7 : Option V), σ = [some (.ref a), some (.ref p), some (.ref z), v3, v4, v5, v6, v7] ∧ Bag G p (6 * i) ∧ G z = some (.lst (szs.map V.int)))
    ⟨none, none, none, none, none, rfl, b1.keep (new_same nz), upd_same⟩ ?_ ?_⟩
  · rintro i σ G hi ⟨v3, v4, v5, v6, v7, rfl, bg, ez⟩
    refine ⟨_, rfl, p, 6 * i, rfl, bg, by omega, fun x1 G1 t1 c1 u1 => ?_⟩
    refine ⟨_, rfl, p, 6 * i + 2, rfl, c1, by omega, fun x2 G2 t2 c2 u2 => ?_⟩
    refine ⟨_, rfl, p, 6 * i + 2 + 2, rfl, c2, by omega, fun x3 G3 t3 c3 u3 => ?_⟩
    have w1 : Th K G3 x1 := th_but (th_but t1 u2 c1) u3 c2
    have w2 : Th K G3 x2 := th_but t2 u3 c2
    have ez3 : G3 z = some (.lst (szs.map V.int)) := u3 z _ npz (u2 z _ npz (u1 z _ npz ez))
    obtain ⟨sz, xs, hsz, hfx, hcx, hxx⟩ := cut_fields x1 x2 x3 hi
    refine ⟨x1, x2, x3, rfl, ?_⟩
    have e0 : ((0 : Int) + (i : Int)) = (i : Int) := Int.zero_add _
    refine ⟨_, rfl, _, rfl, _, rfl, _, rfl, i, x1, x2, x3, (by rw [e0]; rfl), Nat.zero_le _, hi, fun pf G4 nf s4 ef => ?_⟩
    refine ⟨_, rfl, _, rfl, _, rfl, (by show 3 ≤ sizeLine; decide), fun L nL => ?_⟩
    have g4 : G4 z = some (.lst (szs.map V.int)) := s4 _ _ ez3
    have at4 : atI (szs.map V.int) ((0 : Int) + (i : Int)) = some (.int sz) := at_of (j := i) e0 (by rw [List.getElem?_map, hsz] <;> rfl)
    refine ⟨_, rfl, _, rfl, z, _, _, _, rfl, rfl, SqL.of ((new_same nL) _ _ g4), at4, sz, rfl, L, _, rfl, SqL.of upd_same, fun m nm => ?_⟩
    have sb : Same G3 (upd (upd G4 L (.lst [x1, x2, x3])) m (.lst (cutV [x1, x2, x3] none (some sz)))) := (s4.trans (new_same nL)).trans (new_same nm)
    have y1 := th_but w1 (Hx.Same.but sb (p := p)) c3
    have y2 := th_but w2 (Hx.Same.but sb (p := p)) c3
    have y3 := th_but t3 (Hx.Same.but sb (p := p)) c3
    obtain ⟨ds, dp, dsh, deq⟩ := th_list y1 y2 y3 hxx
    rw [hfx] at ef
    rw [hcx] at dp ⊢
    refine ⟨.list ds, .list ds, .lst (SqL.of ((new_same nm) _ _ ((new_same nL) _ _ ef))) dp, .lst (SqL.of upd_same) dp, dsh, dsh, _, rfl, ?_⟩
    rw [deq]
    refine iteF ?_
    -- caught against the list of answers
    obtain ⟨G5, hG5⟩ : ∃ G, G = upd (upd G4 L (.lst [x1, x2, x3])) m (.lst xs) := ⟨_, rfl⟩
    rw [hcx] at sb
    rw [← hG5] at sb ⊢
    refine ⟨_, rfl, _, rfl, _, rfl, _, rfl, i, x1, x2, x3, (by rw [e0]; rfl), hi, fun pc G6 nc s6 ec => ?_⟩
    refine ⟨(by show 1 ≤ sizeLine; decide), fun l1 n1 => ?_⟩
    have s7 : Same G6 (upd G6 l1 (.lst [.bl true])) := new_same n1
    refine ⟨15, rfl, by decide, by decide, fun Dl nD => lc_range (lo := 0) (n := 15) (fun j G' => Same (upd G6 l1 (.lst [.bl true])) G' ∧ G' Dl = some (.lst ((List.range j).map fun k => V.bl (decide (i = k)))))
      ⟨new_same nD, upd_same⟩ (fun j G' hj ⟨sj, ej⟩ => ?_) (fun G' ⟨sj, ej⟩ => ?_)⟩
    · refine ⟨rfl, ?_⟩
      unfold tYes
      dsimp only
      rw [if_pos rfl]
      refine ⟨_, rfl, _, rfl, rfl, _, ej, (by rw [List.length_map, List.length_range]; exact Nat.lt_of_lt_of_le hj (by decide)), ?_, ?_⟩
      · exact fun b o e => by rw [upd_ne (ne_of_none e nD)]; exact sj b o e
      · rw [upd_same, List.range_succ, List.map_append]
        have eb : decide (V.int ((0 : Int) + (j : Int)) = V.int ((0 : Int) + (i : Int))) = decide (i = j) := by
          rw [e0, Int.zero_add]
          by_cases c : i = j
          · rw [c]; simp
          · rw [decide_eq_false c, decide_eq_false]
            intro z
            have := V.int.inj z
            exact c (by omega)
        rw [eb]
        rfl
    · refine ⟨l1, Dl, _, _, rfl, rfl, sj _ _ upd_same, ej, (by show 1 + 15 ≤ sizeLine; decide), fun pr npr => ?_⟩
      have s9 : Same G3 (upd G' pr (.lst ([.bl true] ++ (List.range 15).map fun k => V.bl (decide (i = k))))) := (((sb.trans s6).trans s7).trans sj).trans (new_same npr)
      have eq1 : ([V.bl true] ++ kindsOf i) = (([true] ++ (List.range 15).map fun k => decide (i = k)).map V.bl) := by
        unfold kindsOf
        rw [List.map_append, List.map_map]
        rfl
      have dc := bl_list (K := K) (H := upd G' pr (.lst ([.bl true] ++ (List.range 15).map fun k => V.bl (decide (i = k))))) ([true] ++ (List.range 15).map fun k => decide (i = k))
      have sh : SeqAt.shaped (.list (([true] ++ (List.range 15).map fun k => decide (i = k)).map PyData.bool)) = true := shaped_of (bl_lay _) (by rw [bl_deep]; decide)
      have dq : PyData.eqv (.list (([true] ++ (List.range 15).map fun k => decide (i = k)).map PyData.bool)) (.list (([true] ++ (List.range 15).map fun k => decide (i = k)).map PyData.bool)) = true := SeqAt.eqv_refl _ (by rw [PyData.canLay0]; exact bl_lay _)
      refine ⟨_, _, .lst (SqL.of ((new_same npr) _ _ (sj _ _ (s7 _ _ ec)))) (by rw [eq1]; exact dc), .lst (SqL.of upd_same) (by
        have e2 : ([V.bl true] ++ (List.range 15).map fun k => V.bl (decide (i = k))) = (([true] ++ (List.range 15).map fun k => decide (i = k)).map V.bl) := eq1
        rw [e2]; exact dc), sh, sh, _, rfl, ?_⟩
      rw [dq]
      refine iteF ?_
      refine ⟨_, _, _, _, _, rfl, ?_, s9 _ _ ez3⟩
      have b9 := c3.keep s9
      have en : 6 * (i + 1) = 6 * i + 2 + 2 + 2 := by omega
      rw [en]
      exact b9
  · rintro σ G ⟨v3, v4, v5, v6, v7, rfl, bg, ez⟩
    exact q _
end
end H0
namespace H0
open PySem PySem.Spec PyProof.Rows L2 Hx
/-! ### what the top has written -/
theorem all_mk {P : Program} {w : World} {K : PySem.W.Frag} {h : Heap} {mg : Str → Option Value} {fa D : Addr} (X : K.In h) (G : h.Ns mainGlobals mg) (hfa : mg "law" = some (.ref fa))
    {nm0 q0 : Str} {N0 C0 I0 : Addr} {bs0 : List Value} {sn0 : List Str} {sub0 : List Value} {ab0 : Bool} {col0 : Option Bool} {dd0 : Option Addr} {m00 m10 m20 m30 m50 : Option Value} {ioc0 ikV0 idc0 ipm0 icd0 ict0 : Value} {iod0 ian0 : Option Addr} {isl0 : Array (Option Value)}
    {nm1 q1 : Str} {N1 C1 I1 : Addr} {bs1 : List Value} {sn1 : List Str} {sub1 : List Value} {ab1 : Bool} {col1 : Option Bool} {dd1 : Option Addr} {m01 m11 m21 m31 m51 : Option Value} {ioc1 ikV1 idc1 ipm1 icd1 ict1 : Value} {iod1 ian1 : Option Addr} {isl1 : Array (Option Value)}
    {nm2 q2 : Str} {N2 C2 I2 : Addr} {bs2 : List Value} {sn2 : List Str} {sub2 : List Value} {ab2 : Bool} {col2 : Option Bool} {dd2 : Option Addr} {m02 m12 m22 m32 m52 : Option Value} {ioc2 ikV2 idc2 ipm2 icd2 ict2 : Value} {iod2 ian2 : Option Addr} {isl2 : Array (Option Value)}
    {nm3 q3 : Str} {N3 C3 I3 : Addr} {bs3 : List Value} {sn3 : List Str} {sub3 : List Value} {ab3 : Bool} {col3 : Option Bool} {dd3 : Option Addr} {m03 m13 m23 m33 m53 : Option Value} {ioc3 ikV3 idc3 ipm3 icd3 ict3 : Value} {iod3 ian3 : Option Addr} {isl3 : Array (Option Value)}
    {nm4 q4 : Str} {N4 C4 I4 : Addr} {bs4 : List Value} {sn4 : List Str} {sub4 : List Value} {ab4 : Bool} {col4 : Option Bool} {dd4 : Option Addr} {m04 m14 m24 m34 m54 : Option Value} {ioc4 ikV4 idc4 ipm4 icd4 ict4 : Value} {iod4 ian4 : Option Addr} {isl4 : Array (Option Value)}
    {nm5 q5 : Str} {N5 C5 I5 : Addr} {bs5 : List Value} {sn5 : List Str} {sub5 : List Value} {ab5 : Bool} {col5 : Option Bool} {dd5 : Option Addr} {m05 m15 m25 m35 m55 : Option Value} {ioc5 ikV5 idc5 ipm5 icd5 ict5 : Value} {iod5 ian5 : Option Addr} {isl5 : Array (Option Value)}
    {nm6 q6 : Str} {N6 C6 I6 : Addr} {bs6 : List Value} {sn6 : List Str} {sub6 : List Value} {ab6 : Bool} {col6 : Option Bool} {dd6 : Option Addr} {m06 m16 m26 m36 m56 : Option Value} {ioc6 ikV6 idc6 ipm6 icd6 ict6 : Value} {iod6 ian6 : Option Addr} {isl6 : Array (Option Value)}
    {nm7 q7 : Str} {N7 C7 I7 : Addr} {bs7 : List Value} {sn7 : List Str} {sub7 : List Value} {ab7 : Bool} {col7 : Option Bool} {dd7 : Option Addr} {m07 m17 m27 m37 m57 : Option Value} {ioc7 ikV7 idc7 ipm7 icd7 ict7 : Value} {iod7 ian7 : Option Addr} {isl7 : Array (Option Value)}
    {nm8 q8 : Str} {N8 C8 I8 : Addr} {bs8 : List Value} {sn8 : List Str} {sub8 : List Value} {ab8 : Bool} {col8 : Option Bool} {dd8 : Option Addr} {m08 m18 m28 m38 m58 : Option Value} {ioc8 ikV8 idc8 ipm8 icd8 ict8 : Value} {iod8 ian8 : Option Addr} {isl8 : Array (Option Value)}
    {nm9 q9 : Str} {N9 C9 I9 : Addr} {bs9 : List Value} {sn9 : List Str} {sub9 : List Value} {ab9 : Bool} {col9 : Option Bool} {dd9 : Option Addr} {m09 m19 m29 m39 m59 : Option Value} {ioc9 ikV9 idc9 ipm9 icd9 ict9 : Value} {iod9 ian9 : Option Addr} {isl9 : Array (Option Value)}
    {nm10 q10 : Str} {N10 C10 I10 : Addr} {bs10 : List Value} {sn10 : List Str} {sub10 : List Value} {ab10 : Bool} {col10 : Option Bool} {dd10 : Option Addr} {m010 m110 m210 m310 m510 : Option Value} {ioc10 ikV10 idc10 ipm10 icd10 ict10 : Value} {iod10 ian10 : Option Addr} {isl10 : Array (Option Value)}
    {nm11 q11 : Str} {N11 C11 I11 : Addr} {bs11 : List Value} {sn11 : List Str} {sub11 : List Value} {ab11 : Bool} {col11 : Option Bool} {dd11 : Option Addr} {m011 m111 m211 m311 m511 : Option Value} {ioc11 ikV11 idc11 ipm11 icd11 ict11 : Value} {iod11 ian11 : Option Addr} {isl11 : Array (Option Value)}
    {nm12 q12 : Str} {N12 C12 I12 : Addr} {bs12 : List Value} {sn12 : List Str} {sub12 : List Value} {ab12 : Bool} {col12 : Option Bool} {dd12 : Option Addr} {m012 m112 m212 m312 m512 : Option Value} {ioc12 ikV12 idc12 ipm12 icd12 ict12 : Value} {iod12 ian12 : Option Addr} {isl12 : Array (Option Value)}
    {nm13 q13 : Str} {N13 C13 I13 : Addr} {bs13 : List Value} {sn13 : List Str} {sub13 : List Value} {ab13 : Bool} {col13 : Option Bool} {dd13 : Option Addr} {m013 m113 m213 m313 m513 : Option Value} {ioc13 ikV13 idc13 ipm13 icd13 ict13 : Value} {iod13 ian13 : Option Addr} {isl13 : Array (Option Value)}
    {nm14 q14 : Str} {N14 C14 I14 : Addr} {bs14 : List Value} {sn14 : List Str} {sub14 : List Value} {ab14 : Bool} {col14 : Option Bool} {dd14 : Option Addr} {m014 m114 m214 m314 m514 : Option Value} {ioc14 ikV14 idc14 ipm14 icd14 ict14 : Value} {iod14 ian14 : Option Addr} {isl14 : Array (Option Value)}
    {f_bag : Addr} {oc_bag kV_bag dc_bag pm_bag cd_bag ct_bag : Value} {od_bag an_bag : Option Addr} {sl_bag : Array (Option Value)}
    {f_draw : Addr} {oc_draw kV_draw dc_draw pm_draw cd_draw ct_draw : Value} {od_draw an_draw : Option Addr} {sl_draw : Array (Option Value)}
    {f_thing : Addr} {oc_thing kV_thing dc_thing pm_thing cd_thing ct_thing : Value} {od_thing an_thing : Option Addr} {sl_thing : Array (Option Value)}
    {f_raised_0 : Addr} {oc_raised_0 kV_raised_0 dc_raised_0 pm_raised_0 cd_raised_0 ct_raised_0 : Value} {od_raised_0 an_raised_0 : Option Addr} {sl_raised_0 : Array (Option Value)}
    {f_raised_1 : Addr} {oc_raised_1 kV_raised_1 dc_raised_1 pm_raised_1 cd_raised_1 ct_raised_1 : Value} {od_raised_1 an_raised_1 : Option Addr} {sl_raised_1 : Array (Option Value)}
    {f_raised : Addr} {oc_raised kV_raised dc_raised pm_raised cd_raised ct_raised : Value} {od_raised an_raised : Option Addr} {sl_raised : Array (Option Value)}
    {f_kinds : Addr} {oc_kinds kV_kinds dc_kinds pm_kinds cd_kinds ct_kinds : Value} {od_kinds an_kinds : Option Addr} {sl_kinds : Array (Option Value)}
    {f_caught : Addr} {oc_caught kV_caught dc_caught pm_caught cd_caught ct_caught : Value} {od_caught an_caught : Option Addr} {sl_caught : Array (Option Value)}
    {f_fields_0 : Addr} {oc_fields_0 kV_fields_0 dc_fields_0 pm_fields_0 cd_fields_0 ct_fields_0 : Value} {od_fields_0 an_fields_0 : Option Addr} {sl_fields_0 : Array (Option Value)}
    {f_fields_1 : Addr} {oc_fields_1 kV_fields_1 dc_fields_1 pm_fields_1 cd_fields_1 ct_fields_1 : Value} {od_fields_1 an_fields_1 : Option Addr} {sl_fields_1 : Array (Option Value)}
    {f_fields : Addr} {oc_fields kV_fields dc_fields pm_fields cd_fields ct_fields : Value} {od_fields an_fields : Option Addr} {sl_fields : Array (Option Value)}
    {f_law : Addr} {oc_law kV_law dc_law pm_law cd_law ct_law : Value} {od_law an_law : Option Addr} {sl_law : Array (Option Value)}
    (aC0 : PySem.W.nsIn K mainGlobals "BadKind" = some (some (.ref C0)))
    (xL0 : K.lookup C0 = some (excClassObj nm0 q0 C0 N0 bs0 [.ref D, .type "ValueError", .type "Exception", .type "BaseException", .type "object"] true sn0 sub0 ab0 col0 dd0 m00 m10 m20 m30 m50 "ValueError.__new__"))
    (aI0 : PySem.W.findIn K (.ref C0) "__init__" = some (some (.ref I0)))
    (lI0 : K.lookup I0 = some ⟨ioc0, iod0, .func (PySem.W.fnOf "__init__" "BadKind.__init__" (defArgs iBadKind) (defBody iBadKind) (defScope iBadKind) .none ikV0 idc0 ipm0 ian0 icd0 ict0), isl0⟩)
    (cI0 : PySem.W.codeIn K icd0 "BadKind.__init__" = true)
    (kI0 : PySem.W.keepIn K (.ref I0) = true)
    (bC0 : clsB K C0 I0 ["kind"] = true)
    (aC1 : PySem.W.nsIn K mainGlobals "BadWidth" = some (some (.ref C1)))
    (xL1 : K.lookup C1 = some (excClassObj nm1 q1 C1 N1 bs1 [.ref D, .type "ValueError", .type "Exception", .type "BaseException", .type "object"] true sn1 sub1 ab1 col1 dd1 m01 m11 m21 m31 m51 "ValueError.__new__"))
    (aI1 : PySem.W.findIn K (.ref C1) "__init__" = some (some (.ref I1)))
    (lI1 : K.lookup I1 = some ⟨ioc1, iod1, .func (PySem.W.fnOf "__init__" "BadWidth.__init__" (defArgs iBadWidth) (defBody iBadWidth) (defScope iBadWidth) .none ikV1 idc1 ipm1 ian1 icd1 ict1), isl1⟩)
    (cI1 : PySem.W.codeIn K icd1 "BadWidth.__init__" = true)
    (kI1 : PySem.W.keepIn K (.ref I1) = true)
    (bC1 : clsB K C1 I1 ["width"] = true)
    (aC2 : PySem.W.nsIn K mainGlobals "BadLine" = some (some (.ref C2)))
    (xL2 : K.lookup C2 = some (excClassObj nm2 q2 C2 N2 bs2 [.ref D, .type "ValueError", .type "Exception", .type "BaseException", .type "object"] true sn2 sub2 ab2 col2 dd2 m02 m12 m22 m32 m52 "ValueError.__new__"))
    (aI2 : PySem.W.findIn K (.ref C2) "__init__" = some (some (.ref I2)))
    (lI2 : K.lookup I2 = some ⟨ioc2, iod2, .func (PySem.W.fnOf "__init__" "BadLine.__init__" (defArgs iBadLine) (defBody iBadLine) (defScope iBadLine) .none ikV2 idc2 ipm2 ian2 icd2 ict2), isl2⟩)
    (cI2 : PySem.W.codeIn K icd2 "BadLine.__init__" = true)
    (kI2 : PySem.W.keepIn K (.ref I2) = true)
    (bC2 : clsB K C2 I2 ["line"] = true)
    (aC3 : PySem.W.nsIn K mainGlobals "Refused" = some (some (.ref C3)))
    (xL3 : K.lookup C3 = some (excClassObj nm3 q3 C3 N3 bs3 [.ref D, .type "ValueError", .type "Exception", .type "BaseException", .type "object"] true sn3 sub3 ab3 col3 dd3 m03 m13 m23 m33 m53 "ValueError.__new__"))
    (aI3 : PySem.W.findIn K (.ref C3) "__init__" = some (some (.ref I3)))
    (lI3 : K.lookup I3 = some ⟨ioc3, iod3, .func (PySem.W.fnOf "__init__" "Refused.__init__" (defArgs iRefused) (defBody iRefused) (defScope iRefused) .none ikV3 idc3 ipm3 ian3 icd3 ict3), isl3⟩)
    (cI3 : PySem.W.codeIn K icd3 "Refused.__init__" = true)
    (kI3 : PySem.W.keepIn K (.ref I3) = true)
    (bC3 : clsB K C3 I3 ["line"] = true)
    (aC4 : PySem.W.nsIn K mainGlobals "BadItem" = some (some (.ref C4)))
    (xL4 : K.lookup C4 = some (excClassObj nm4 q4 C4 N4 bs4 [.ref D, .type "ValueError", .type "Exception", .type "BaseException", .type "object"] true sn4 sub4 ab4 col4 dd4 m04 m14 m24 m34 m54 "ValueError.__new__"))
    (aI4 : PySem.W.findIn K (.ref C4) "__init__" = some (some (.ref I4)))
    (lI4 : K.lookup I4 = some ⟨ioc4, iod4, .func (PySem.W.fnOf "__init__" "BadItem.__init__" (defArgs iBadItem) (defBody iBadItem) (defScope iBadItem) .none ikV4 idc4 ipm4 ian4 icd4 ict4), isl4⟩)
    (cI4 : PySem.W.codeIn K icd4 "BadItem.__init__" = true)
    (kI4 : PySem.W.keepIn K (.ref I4) = true)
    (bC4 : clsB K C4 I4 ["index"] = true)
    (aC5 : PySem.W.nsIn K mainGlobals "BadCase" = some (some (.ref C5)))
    (xL5 : K.lookup C5 = some (excClassObj nm5 q5 C5 N5 bs5 [.ref D, .type "ValueError", .type "Exception", .type "BaseException", .type "object"] true sn5 sub5 ab5 col5 dd5 m05 m15 m25 m35 m55 "ValueError.__new__"))
    (aI5 : PySem.W.findIn K (.ref C5) "__init__" = some (some (.ref I5)))
    (lI5 : K.lookup I5 = some ⟨ioc5, iod5, .func (PySem.W.fnOf "__init__" "BadCase.__init__" (defArgs iBadCase) (defBody iBadCase) (defScope iBadCase) .none ikV5 idc5 ipm5 ian5 icd5 ict5), isl5⟩)
    (cI5 : PySem.W.codeIn K icd5 "BadCase.__init__" = true)
    (kI5 : PySem.W.keepIn K (.ref I5) = true)
    (bC5 : clsB K C5 I5 ["what"] = true)
    (aC6 : PySem.W.nsIn K mainGlobals "BadPromise" = some (some (.ref C6)))
    (xL6 : K.lookup C6 = some (excClassObj nm6 q6 C6 N6 bs6 [.ref D, .type "ValueError", .type "Exception", .type "BaseException", .type "object"] true sn6 sub6 ab6 col6 dd6 m06 m16 m26 m36 m56 "ValueError.__new__"))
    (aI6 : PySem.W.findIn K (.ref C6) "__init__" = some (some (.ref I6)))
    (lI6 : K.lookup I6 = some ⟨ioc6, iod6, .func (PySem.W.fnOf "__init__" "BadPromise.__init__" (defArgs iBadPromise) (defBody iBadPromise) (defScope iBadPromise) .none ikV6 idc6 ipm6 ian6 icd6 ict6), isl6⟩)
    (cI6 : PySem.W.codeIn K icd6 "BadPromise.__init__" = true)
    (kI6 : PySem.W.keepIn K (.ref I6) = true)
    (bC6 : clsB K C6 I6 ["promise"] = true)
    (aC7 : PySem.W.nsIn K mainGlobals "NoLine" = some (some (.ref C7)))
    (xL7 : K.lookup C7 = some (excClassObj nm7 q7 C7 N7 bs7 [.ref D, .type "ValueError", .type "Exception", .type "BaseException", .type "object"] true sn7 sub7 ab7 col7 dd7 m07 m17 m27 m37 m57 "ValueError.__new__"))
    (aI7 : PySem.W.findIn K (.ref C7) "__init__" = some (some (.ref I7)))
    (lI7 : K.lookup I7 = some ⟨ioc7, iod7, .func (PySem.W.fnOf "__init__" "NoLine.__init__" (defArgs iNoLine) (defBody iNoLine) (defScope iNoLine) .none ikV7 idc7 ipm7 ian7 icd7 ict7), isl7⟩)
    (cI7 : PySem.W.codeIn K icd7 "NoLine.__init__" = true)
    (kI7 : PySem.W.keepIn K (.ref I7) = true)
    (bC7 : clsB K C7 I7 ["line"] = true)
    (aC8 : PySem.W.nsIn K mainGlobals "BadSize" = some (some (.ref C8)))
    (xL8 : K.lookup C8 = some (excClassObj nm8 q8 C8 N8 bs8 [.ref D, .type "ValueError", .type "Exception", .type "BaseException", .type "object"] true sn8 sub8 ab8 col8 dd8 m08 m18 m28 m38 m58 "ValueError.__new__"))
    (aI8 : PySem.W.findIn K (.ref C8) "__init__" = some (some (.ref I8)))
    (lI8 : K.lookup I8 = some ⟨ioc8, iod8, .func (PySem.W.fnOf "__init__" "BadSize.__init__" (defArgs iBadSize) (defBody iBadSize) (defScope iBadSize) .none ikV8 idc8 ipm8 ian8 icd8 ict8), isl8⟩)
    (cI8 : PySem.W.codeIn K icd8 "BadSize.__init__" = true)
    (kI8 : PySem.W.keepIn K (.ref I8) = true)
    (bC8 : clsB K C8 I8 ["n"] = true)
    (aC9 : PySem.W.nsIn K mainGlobals "OtherKinds" = some (some (.ref C9)))
    (xL9 : K.lookup C9 = some (excClassObj nm9 q9 C9 N9 bs9 [.ref D, .type "ValueError", .type "Exception", .type "BaseException", .type "object"] true sn9 sub9 ab9 col9 dd9 m09 m19 m29 m39 m59 "ValueError.__new__"))
    (aI9 : PySem.W.findIn K (.ref C9) "__init__" = some (some (.ref I9)))
    (lI9 : K.lookup I9 = some ⟨ioc9, iod9, .func (PySem.W.fnOf "__init__" "OtherKinds.__init__" (defArgs iOtherKinds) (defBody iOtherKinds) (defScope iOtherKinds) .none ikV9 idc9 ipm9 ian9 icd9 ict9), isl9⟩)
    (cI9 : PySem.W.codeIn K icd9 "OtherKinds.__init__" = true)
    (kI9 : PySem.W.keepIn K (.ref I9) = true)
    (bC9 : clsB K C9 I9 [] = true)
    (aC10 : PySem.W.nsIn K mainGlobals "OtherWidths" = some (some (.ref C10)))
    (xL10 : K.lookup C10 = some (excClassObj nm10 q10 C10 N10 bs10 [.ref D, .type "ValueError", .type "Exception", .type "BaseException", .type "object"] true sn10 sub10 ab10 col10 dd10 m010 m110 m210 m310 m510 "ValueError.__new__"))
    (aI10 : PySem.W.findIn K (.ref C10) "__init__" = some (some (.ref I10)))
    (lI10 : K.lookup I10 = some ⟨ioc10, iod10, .func (PySem.W.fnOf "__init__" "OtherWidths.__init__" (defArgs iOtherWidths) (defBody iOtherWidths) (defScope iOtherWidths) .none ikV10 idc10 ipm10 ian10 icd10 ict10), isl10⟩)
    (cI10 : PySem.W.codeIn K icd10 "OtherWidths.__init__" = true)
    (kI10 : PySem.W.keepIn K (.ref I10) = true)
    (bC10 : clsB K C10 I10 [] = true)
    (aC11 : PySem.W.nsIn K mainGlobals "BadName" = some (some (.ref C11)))
    (xL11 : K.lookup C11 = some (excClassObj nm11 q11 C11 N11 bs11 [.ref D, .type "ValueError", .type "Exception", .type "BaseException", .type "object"] true sn11 sub11 ab11 col11 dd11 m011 m111 m211 m311 m511 "ValueError.__new__"))
    (aI11 : PySem.W.findIn K (.ref C11) "__init__" = some (some (.ref I11)))
    (lI11 : K.lookup I11 = some ⟨ioc11, iod11, .func (PySem.W.fnOf "__init__" "BadName.__init__" (defArgs iBadName) (defBody iBadName) (defScope iBadName) .none ikV11 idc11 ipm11 ian11 icd11 ict11), isl11⟩)
    (cI11 : PySem.W.codeIn K icd11 "BadName.__init__" = true)
    (kI11 : PySem.W.keepIn K (.ref I11) = true)
    (bC11 : clsB K C11 I11 ["name"] = true)
    (aC12 : PySem.W.nsIn K mainGlobals "NoDeed" = some (some (.ref C12)))
    (xL12 : K.lookup C12 = some (excClassObj nm12 q12 C12 N12 bs12 [.ref D, .type "ValueError", .type "Exception", .type "BaseException", .type "object"] true sn12 sub12 ab12 col12 dd12 m012 m112 m212 m312 m512 "ValueError.__new__"))
    (aI12 : PySem.W.findIn K (.ref C12) "__init__" = some (some (.ref I12)))
    (lI12 : K.lookup I12 = some ⟨ioc12, iod12, .func (PySem.W.fnOf "__init__" "NoDeed.__init__" (defArgs iNoDeed) (defBody iNoDeed) (defScope iNoDeed) .none ikV12 idc12 ipm12 ian12 icd12 ict12), isl12⟩)
    (cI12 : PySem.W.codeIn K icd12 "NoDeed.__init__" = true)
    (kI12 : PySem.W.keepIn K (.ref I12) = true)
    (bC12 : clsB K C12 I12 ["name"] = true)
    (aC13 : PySem.W.nsIn K mainGlobals "NothingToUndo" = some (some (.ref C13)))
    (xL13 : K.lookup C13 = some (excClassObj nm13 q13 C13 N13 bs13 [.ref D, .type "ValueError", .type "Exception", .type "BaseException", .type "object"] true sn13 sub13 ab13 col13 dd13 m013 m113 m213 m313 m513 "ValueError.__new__"))
    (aI13 : PySem.W.findIn K (.ref C13) "__init__" = some (some (.ref I13)))
    (lI13 : K.lookup I13 = some ⟨ioc13, iod13, .func (PySem.W.fnOf "__init__" "NothingToUndo.__init__" (defArgs iNothingToUndo) (defBody iNothingToUndo) (defScope iNothingToUndo) .none ikV13 idc13 ipm13 ian13 icd13 ict13), isl13⟩)
    (cI13 : PySem.W.codeIn K icd13 "NothingToUndo.__init__" = true)
    (kI13 : PySem.W.keepIn K (.ref I13) = true)
    (bC13 : clsB K C13 I13 [] = true)
    (aC14 : PySem.W.nsIn K mainGlobals "TooMany" = some (some (.ref C14)))
    (xL14 : K.lookup C14 = some (excClassObj nm14 q14 C14 N14 bs14 [.ref D, .type "ValueError", .type "Exception", .type "BaseException", .type "object"] true sn14 sub14 ab14 col14 dd14 m014 m114 m214 m314 m514 "ValueError.__new__"))
    (aI14 : PySem.W.findIn K (.ref C14) "__init__" = some (some (.ref I14)))
    (lI14 : K.lookup I14 = some ⟨ioc14, iod14, .func (PySem.W.fnOf "__init__" "TooMany.__init__" (defArgs iTooMany) (defBody iTooMany) (defScope iTooMany) .none ikV14 idc14 ipm14 ian14 icd14 ict14), isl14⟩)
    (cI14 : PySem.W.codeIn K icd14 "TooMany.__init__" = true)
    (kI14 : PySem.W.keepIn K (.ref I14) = true)
    (bC14 : clsB K C14 I14 ["what", "many", "most"] = true)
    (a_bag : PySem.W.nsIn K mainGlobals "_law_bag" = some (some (.ref f_bag)))
    (l_bag : K.lookup f_bag = some ⟨oc_bag, od_bag, .func (PySem.W.fnOf "_law_bag" "_law_bag" (defArgs sBag) (defBody sBag) (defScope sBag) .none kV_bag dc_bag pm_bag an_bag cd_bag ct_bag), sl_bag⟩)
    (c_bag : PySem.W.codeIn K cd_bag "_law_bag" = true)
    (k_bag : PySem.W.keepIn K (.ref f_bag) = true)
    (a_draw : PySem.W.nsIn K mainGlobals "_law_draw" = some (some (.ref f_draw)))
    (l_draw : K.lookup f_draw = some ⟨oc_draw, od_draw, .func (PySem.W.fnOf "_law_draw" "_law_draw" (defArgs sDraw) (defBody sDraw) (defScope sDraw) .none kV_draw dc_draw pm_draw an_draw cd_draw ct_draw), sl_draw⟩)
    (c_draw : PySem.W.codeIn K cd_draw "_law_draw" = true)
    (k_draw : PySem.W.keepIn K (.ref f_draw) = true)
    (a_thing : PySem.W.nsIn K mainGlobals "_law_thing" = some (some (.ref f_thing)))
    (l_thing : K.lookup f_thing = some ⟨oc_thing, od_thing, .func (PySem.W.fnOf "_law_thing" "_law_thing" (defArgs sthing) (defBody sthing) (defScope sthing) .none kV_thing dc_thing pm_thing an_thing cd_thing ct_thing), sl_thing⟩)
    (c_thing : PySem.W.codeIn K cd_thing "_law_thing" = true)
    (k_thing : PySem.W.keepIn K (.ref f_thing) = true)
    (a_raised_0 : PySem.W.nsIn K mainGlobals "_law_raised_0" = some (some (.ref f_raised_0)))
    (l_raised_0 : K.lookup f_raised_0 = some ⟨oc_raised_0, od_raised_0, .func (PySem.W.fnOf "_law_raised_0" "_law_raised_0" (defArgs sraised_0) (defBody sraised_0) (defScope sraised_0) .none kV_raised_0 dc_raised_0 pm_raised_0 an_raised_0 cd_raised_0 ct_raised_0), sl_raised_0⟩)
    (c_raised_0 : PySem.W.codeIn K cd_raised_0 "_law_raised_0" = true)
    (k_raised_0 : PySem.W.keepIn K (.ref f_raised_0) = true)
    (a_raised_1 : PySem.W.nsIn K mainGlobals "_law_raised_1" = some (some (.ref f_raised_1)))
    (l_raised_1 : K.lookup f_raised_1 = some ⟨oc_raised_1, od_raised_1, .func (PySem.W.fnOf "_law_raised_1" "_law_raised_1" (defArgs sraised_1) (defBody sraised_1) (defScope sraised_1) .none kV_raised_1 dc_raised_1 pm_raised_1 an_raised_1 cd_raised_1 ct_raised_1), sl_raised_1⟩)
    (c_raised_1 : PySem.W.codeIn K cd_raised_1 "_law_raised_1" = true)
    (k_raised_1 : PySem.W.keepIn K (.ref f_raised_1) = true)
    (a_raised : PySem.W.nsIn K mainGlobals "_law_raised" = some (some (.ref f_raised)))
    (l_raised : K.lookup f_raised = some ⟨oc_raised, od_raised, .func (PySem.W.fnOf "_law_raised" "_law_raised" (defArgs sraised) (defBody sraised) (defScope sraised) .none kV_raised dc_raised pm_raised an_raised cd_raised ct_raised), sl_raised⟩)
    (c_raised : PySem.W.codeIn K cd_raised "_law_raised" = true)
    (k_raised : PySem.W.keepIn K (.ref f_raised) = true)
    (a_kinds : PySem.W.nsIn K mainGlobals "_law_kinds_of" = some (some (.ref f_kinds)))
    (l_kinds : K.lookup f_kinds = some ⟨oc_kinds, od_kinds, .func (PySem.W.fnOf "_law_kinds_of" "_law_kinds_of" (defArgs skinds_of) (defBody skinds_of) (defScope skinds_of) .none kV_kinds dc_kinds pm_kinds an_kinds cd_kinds ct_kinds), sl_kinds⟩)
    (c_kinds : PySem.W.codeIn K cd_kinds "_law_kinds_of" = true)
    (k_kinds : PySem.W.keepIn K (.ref f_kinds) = true)
    (a_caught : PySem.W.nsIn K mainGlobals "_law_caught" = some (some (.ref f_caught)))
    (l_caught : K.lookup f_caught = some ⟨oc_caught, od_caught, .func (PySem.W.fnOf "_law_caught" "_law_caught" (defArgs scaught) (defBody scaught) (defScope scaught) .none kV_caught dc_caught pm_caught an_caught cd_caught ct_caught), sl_caught⟩)
    (c_caught : PySem.W.codeIn K cd_caught "_law_caught" = true)
    (k_caught : PySem.W.keepIn K (.ref f_caught) = true)
    (a_fields_0 : PySem.W.nsIn K mainGlobals "_law_fields_0" = some (some (.ref f_fields_0)))
    (l_fields_0 : K.lookup f_fields_0 = some ⟨oc_fields_0, od_fields_0, .func (PySem.W.fnOf "_law_fields_0" "_law_fields_0" (defArgs sfields_0) (defBody sfields_0) (defScope sfields_0) .none kV_fields_0 dc_fields_0 pm_fields_0 an_fields_0 cd_fields_0 ct_fields_0), sl_fields_0⟩)
    (c_fields_0 : PySem.W.codeIn K cd_fields_0 "_law_fields_0" = true)
    (k_fields_0 : PySem.W.keepIn K (.ref f_fields_0) = true)
    (a_fields_1 : PySem.W.nsIn K mainGlobals "_law_fields_1" = some (some (.ref f_fields_1)))
    (l_fields_1 : K.lookup f_fields_1 = some ⟨oc_fields_1, od_fields_1, .func (PySem.W.fnOf "_law_fields_1" "_law_fields_1" (defArgs sfields_1) (defBody sfields_1) (defScope sfields_1) .none kV_fields_1 dc_fields_1 pm_fields_1 an_fields_1 cd_fields_1 ct_fields_1), sl_fields_1⟩)
    (c_fields_1 : PySem.W.codeIn K cd_fields_1 "_law_fields_1" = true)
    (k_fields_1 : PySem.W.keepIn K (.ref f_fields_1) = true)
    (a_fields : PySem.W.nsIn K mainGlobals "_law_fields" = some (some (.ref f_fields)))
    (l_fields : K.lookup f_fields = some ⟨oc_fields, od_fields, .func (PySem.W.fnOf "_law_fields" "_law_fields" (defArgs sfields) (defBody sfields) (defScope sfields) .none kV_fields dc_fields pm_fields an_fields cd_fields ct_fields), sl_fields⟩)
    (c_fields : PySem.W.codeIn K cd_fields "_law_fields" = true)
    (k_fields : PySem.W.keepIn K (.ref f_fields) = true)
    (a_law : PySem.W.nsIn K mainGlobals "law" = some (some (.ref f_law)))
    (l_law : K.lookup f_law = some ⟨oc_law, od_law, .func (PySem.W.fnOf "law" "law" (defArgs slaw) (defBody slaw) (defScope slaw) .none kV_law dc_law pm_law an_law cd_law ct_law), sl_law⟩)
    (c_law : PySem.W.codeIn K cd_law "law" = true)
    (k_law : PySem.W.keepIn K (.ref f_law) = true)
    (aB : PySem.W.nsIn K mainGlobals "HeapError" = some (some (.ref D)))
    (rB : PySem.W.readsIn K D (.type "type") = true)
    (gB : PySem.W.specialIn K (.ref D) "__getattribute__" = some (some (.builtin "type.__getattribute__")))
    (fB : PySem.W.findCls K (.ref D) (.type "type") "__init__" = some (.val (.builtin "ValueError.__init__")))
    (z_int : PySem.W.nsIn K mainGlobals "int" = some none)
    (z_list : PySem.W.nsIn K mainGlobals "list" = some none)
    (z_len : PySem.W.nsIn K mainGlobals "len" = some none)
    (z_isinstance : PySem.W.nsIn K mainGlobals "isinstance" = some none)
    (z_ValueError : PySem.W.nsIn K mainGlobals "ValueError" = some none)
    (z_range : PySem.W.nsIn K mainGlobals "range" = some none)
    (pB : pairsB K D [C0, C1, C2, C3, C4, C5, C6, C7, C8, C9, C10, C11, C12, C13, C14] = true)
    : ∃ fd : FuncData, (∀ (s : Shared) (v : Value), BindsTo s fd ⟨[v], []⟩ [("_law_script", v)]) ∧ ∀ base : Heap, K.In base → base.Ns mainGlobals mg → FnOk P w K mg base CX0 6 fa fd ["_law_script"] (spLaw K) := by
  have e := hfa.symm.trans (PySem.W.mg_of X G a_law)
  cases e
  have F_bag := fun_mk (st := sBag) l_bag c_bag k_bag
  have b_bag := F_bag.binds (ps := ["_law_script"]) fun _ _ _ _ _ _ us hl => match us, hl with | [_], _ => rfl
  have m_bag := PySem.W.mg_of X G a_bag
  have F_draw := fun_mk (st := sDraw) l_draw c_draw k_draw
  have b_draw := F_draw.binds (ps := ["_law_bag_here", "_law_limit"]) fun _ _ _ _ _ _ us hl => match us, hl with | [_, _], _ => rfl
  have m_draw := PySem.W.mg_of X G a_draw
  have F_thing := fun_mk (st := sthing) l_thing c_thing k_thing
  have b_thing := F_thing.binds (ps := ["_law_bag_here"]) fun _ _ _ _ _ _ us hl => match us, hl with | [_], _ => rfl
  have m_thing := PySem.W.mg_of X G a_thing
  have F_raised_0 := fun_mk (st := sraised_0) l_raised_0 c_raised_0 k_raised_0
  have b_raised_0 := F_raised_0.binds (ps := ["_law_k", "_law_a", "_law_b", "_law_c"]) fun _ _ _ _ _ _ us hl => match us, hl with | [_, _, _, _], _ => rfl
  have m_raised_0 := PySem.W.mg_of X G a_raised_0
  have F_raised_1 := fun_mk (st := sraised_1) l_raised_1 c_raised_1 k_raised_1
  have b_raised_1 := F_raised_1.binds (ps := ["_law_k", "_law_a", "_law_b", "_law_c"]) fun _ _ _ _ _ _ us hl => match us, hl with | [_, _, _, _], _ => rfl
  have m_raised_1 := PySem.W.mg_of X G a_raised_1
  have F_raised := fun_mk (st := sraised) l_raised c_raised k_raised
  have b_raised := F_raised.binds (ps := ["_law_k", "_law_a", "_law_b", "_law_c"]) fun _ _ _ _ _ _ us hl => match us, hl with | [_, _, _, _], _ => rfl
  have m_raised := PySem.W.mg_of X G a_raised
  have F_kinds := fun_mk (st := skinds_of) l_kinds c_kinds k_kinds
  have b_kinds := F_kinds.binds (ps := ["_law_e"]) fun _ _ _ _ _ _ us hl => match us, hl with | [_], _ => rfl
  have m_kinds := PySem.W.mg_of X G a_kinds
  have F_caught := fun_mk (st := scaught) l_caught c_caught k_caught
  have b_caught := F_caught.binds (ps := ["_law_k", "_law_a", "_law_b", "_law_c"]) fun _ _ _ _ _ _ us hl => match us, hl with | [_, _, _, _], _ => rfl
  have m_caught := PySem.W.mg_of X G a_caught
  have F_fields_0 := fun_mk (st := sfields_0) l_fields_0 c_fields_0 k_fields_0
  have b_fields_0 := F_fields_0.binds (ps := ["_law_k", "_law_a", "_law_b", "_law_c"]) fun _ _ _ _ _ _ us hl => match us, hl with | [_, _, _, _], _ => rfl
  have m_fields_0 := PySem.W.mg_of X G a_fields_0
  have F_fields_1 := fun_mk (st := sfields_1) l_fields_1 c_fields_1 k_fields_1
  have b_fields_1 := F_fields_1.binds (ps := ["_law_k", "_law_a", "_law_b", "_law_c"]) fun _ _ _ _ _ _ us hl => match us, hl with | [_, _, _, _], _ => rfl
  have m_fields_1 := PySem.W.mg_of X G a_fields_1
  have F_fields := fun_mk (st := sfields) l_fields c_fields k_fields
  have b_fields := F_fields.binds (ps := ["_law_k", "_law_a", "_law_b", "_law_c"]) fun _ _ _ _ _ _ us hl => match us, hl with | [_, _, _, _], _ => rfl
  have m_fields := PySem.W.mg_of X G a_fields
  have F_law := fun_mk (st := slaw) l_law c_law k_law
  have b_law := F_law.binds (ps := ["_law_script"]) fun _ _ _ _ _ _ us hl => match us, hl with | [_], _ => rfl
  have m_law := PySem.W.mg_of X G a_law
  have B : BltT mg := ⟨PySem.W.mg_none_of X G z_int, PySem.W.mg_none_of X G z_list, PySem.W.mg_none_of X G z_len⟩
  have T0 : ClT K mg "BadKind" "BadKind.__init__" iBadKind ["self", "kind"] ["kind"] C0 I0 := cl_mk X G aC0 xL0 lI0 cI0 kI0 (fun _ _ _ _ _ _ us hl => match us, hl with | [_, _], _ => rfl) bC0
  have T1 : ClT K mg "BadWidth" "BadWidth.__init__" iBadWidth ["self", "width"] ["width"] C1 I1 := cl_mk X G aC1 xL1 lI1 cI1 kI1 (fun _ _ _ _ _ _ us hl => match us, hl with | [_, _], _ => rfl) bC1
  have T2 : ClT K mg "BadLine" "BadLine.__init__" iBadLine ["self", "line"] ["line"] C2 I2 := cl_mk X G aC2 xL2 lI2 cI2 kI2 (fun _ _ _ _ _ _ us hl => match us, hl with | [_, _], _ => rfl) bC2
  have T3 : ClT K mg "Refused" "Refused.__init__" iRefused ["self", "line"] ["line"] C3 I3 := cl_mk X G aC3 xL3 lI3 cI3 kI3 (fun _ _ _ _ _ _ us hl => match us, hl with | [_, _], _ => rfl) bC3
  have T4 : ClT K mg "BadItem" "BadItem.__init__" iBadItem ["self", "index"] ["index"] C4 I4 := cl_mk X G aC4 xL4 lI4 cI4 kI4 (fun _ _ _ _ _ _ us hl => match us, hl with | [_, _], _ => rfl) bC4
  have T5 : ClT K mg "BadCase" "BadCase.__init__" iBadCase ["self", "what"] ["what"] C5 I5 := cl_mk X G aC5 xL5 lI5 cI5 kI5 (fun _ _ _ _ _ _ us hl => match us, hl with | [_, _], _ => rfl) bC5
  have T6 : ClT K mg "BadPromise" "BadPromise.__init__" iBadPromise ["self", "promise"] ["promise"] C6 I6 := cl_mk X G aC6 xL6 lI6 cI6 kI6 (fun _ _ _ _ _ _ us hl => match us, hl with | [_, _], _ => rfl) bC6
  have T7 : ClT K mg "NoLine" "NoLine.__init__" iNoLine ["self", "line"] ["line"] C7 I7 := cl_mk X G aC7 xL7 lI7 cI7 kI7 (fun _ _ _ _ _ _ us hl => match us, hl with | [_, _], _ => rfl) bC7
  have T8 : ClT K mg "BadSize" "BadSize.__init__" iBadSize ["self", "n"] ["n"] C8 I8 := cl_mk X G aC8 xL8 lI8 cI8 kI8 (fun _ _ _ _ _ _ us hl => match us, hl with | [_, _], _ => rfl) bC8
  have T9 : ClT K mg "OtherKinds" "OtherKinds.__init__" iOtherKinds ["self"] [] C9 I9 := cl_mk X G aC9 xL9 lI9 cI9 kI9 (fun _ _ _ _ _ _ us hl => match us, hl with | [_], _ => rfl) bC9
  have T10 : ClT K mg "OtherWidths" "OtherWidths.__init__" iOtherWidths ["self"] [] C10 I10 := cl_mk X G aC10 xL10 lI10 cI10 kI10 (fun _ _ _ _ _ _ us hl => match us, hl with | [_], _ => rfl) bC10
  have T11 : ClT K mg "BadName" "BadName.__init__" iBadName ["self", "name"] ["name"] C11 I11 := cl_mk X G aC11 xL11 lI11 cI11 kI11 (fun _ _ _ _ _ _ us hl => match us, hl with | [_, _], _ => rfl) bC11
  have T12 : ClT K mg "NoDeed" "NoDeed.__init__" iNoDeed ["self", "name"] ["name"] C12 I12 := cl_mk X G aC12 xL12 lI12 cI12 kI12 (fun _ _ _ _ _ _ us hl => match us, hl with | [_, _], _ => rfl) bC12
  have T13 : ClT K mg "NothingToUndo" "NothingToUndo.__init__" iNothingToUndo ["self"] [] C13 I13 := cl_mk X G aC13 xL13 lI13 cI13 kI13 (fun _ _ _ _ _ _ us hl => match us, hl with | [_], _ => rfl) bC13
  have T14 : ClT K mg "TooMany" "TooMany.__init__" iTooMany ["self", "what", "many", "most"] ["what", "many", "most"] C14 I14 := cl_mk X G aC14 xL14 lI14 cI14 kI14 (fun _ _ _ _ _ _ us hl => match us, hl with | [_, _, _, _], _ => rfl) bC14
  have T : AllT K mg D (fun i => [C0, C1, C2, C3, C4, C5, C6, C7, C8, C9, C10, C11, C12, C13, C14].getD i 0) (fun i => [I0, I1, I2, I3, I4, I5, I6, I7, I8, I9, I10, I11, I12, I13, I14].getD i 0) := ⟨⟨PySem.W.mg_of X G aB, ⟨rB, gB⟩, fB⟩, B, PySem.W.mg_none_of X G z_isinstance, PySem.W.mg_none_of X G z_ValueError, PySem.W.mg_none_of X G z_range, T0, T1, T2, T3, T4, T5, T6, T7, T8, T9, T10, T11, T12, T13, T14,
    fun j k hj hk => ((pairs_of pB (j := j) hj).2.2 k hk).1, fun j k hj hk => ((pairs_of pB (j := j) hj).2.2 k hk).2, fun j hj => (pairs_of pB (j := j) hj).1, fun j hj => (pairs_of pB (j := j) hj).2.1, fun j hj => ?is⟩
  case is =>
    have hh : j = 0 ∨ j = 1 ∨ j = 2 ∨ j = 3 ∨ j = 4 ∨ j = 5 ∨ j = 6 ∨ j = 7 ∨ j = 8 ∨ j = 9 ∨ j = 10 ∨ j = 11 ∨ j = 12 ∨ j = 13 ∨ j = 14 := by omega
    rcases hh with rfl | rfl | rfl | rfl | rfl | rfl | rfl | rfl | rfl | rfl | rfl | rfl | rfl | rfl | rfl
    · exact T0.is
    · exact T1.is
    · exact T2.is
    · exact T3.is
    · exact T4.is
    · exact T5.is
    · exact T6.is
    · exact T7.is
    · exact T8.is
    · exact T9.is
    · exact T10.is
    · exact T11.is
    · exact T12.is
    · exact T13.is
    · exact T14.is
  refine ⟨PySem.W.fnOf "law" "law" (defArgs slaw) (defBody slaw) (defScope slaw) .none kV_law dc_law pm_law an_law cd_law ct_law, fun s v => .of_eq rfl, fun base _ _ => ?_⟩
  have G0 := okfields_0 (P := P) (w := w) (base := base) F_fields_0 T F_raised_0 b_raised_0 m_raised_0
  have G1 := okfields_1 (P := P) (w := w) (base := base) F_fields_1 T F_raised_1 b_raised_1 m_raised_1
  have GR := okraised (P := P) (w := w) (base := base) F_raised T F_raised_0 b_raised_0 m_raised_0 F_raised_1 b_raised_1 m_raised_1
  exact oklaw F_law B (PySem.W.mg_none_of X G z_range) F_bag b_bag m_bag F_thing b_thing m_thing (okthing F_thing B F_draw b_draw m_draw) F_fields b_fields m_fields (okfields F_fields F_fields_0 b_fields_0 m_fields_0 G0 F_fields_1 b_fields_1 m_fields_1 G1)
    F_caught b_caught m_caught (okcaught F_caught T F_raised b_raised m_raised GR F_kinds b_kinds m_kinds)
theorem walk {l : PySem.W.OpenLaw} {q : Program} {loose : List Str} {XP : (Str → Option Value) → Heap → Prop} {YP : World → Heap → Prop} {d : DefRec} {K : Params → PySem.W.Frag} (hn : l.most = some 63) (hdf : d.params.defaults = [])
    (hY : ∀ (w : World) (h : Heap), YP w h → (K w.params).In h)
    (F : ∀ (w : World) (mg : Str → Option Value) (fa : Addr) (h : Heap), (K w.params).In h → h.Ns mainGlobals mg → mg d.name = some (.ref fa) →
      ∃ fd : FuncData, (∀ (s : Shared) (u : Value), BindsTo s fd ⟨[u], []⟩ [("_law_script", u)]) ∧ ∀ base : Heap, (K w.params).In base → base.Ns mainGlobals mg → FnOk l.prog w (K w.params) mg base CX0 6 fa fd ["_law_script"] (spLaw (K w.params))) :
    PySem.W.WalkO q loose XP YP l.row.toRowW d [] (fun f vs => PySem.call f vs) :=
  L2.walk_of (n := 63) (k := 6) (x := "_law_script") (CX := fun _ => CX0) (sp := fun w => spLaw (K w.params)) hn (by decide) hdf ⟨rfl, by decide, by decide⟩ hY F (fun _ _ a ns hl _ hS => ⟨a, ns, rfl, hS, hl, fun _ => rfl⟩) fun _ _ _ _ _ z => z
end H0
open PySem PySem.W PyProof.Rows
set_option maxRecDepth 100000 in
set_option maxHeartbeats 0 in
theorem PySem.Challenge.cw_heapcode_k00_errors_made_from_their_fiel_holds : PySem.Challenge.rw_heapcode_k00_errors_made_from_their_fiel.Holds := by
  w_on; o_law; k_head; (case hw => w_witness2)
  k_fill
  refine H0.walk (l := PySem.Challenge.rw_heapcode_k00_errors_made_from_their_fiel) rfl rfl (fun w h Y => PySem.W.kIn_of Y) ?F
  case F =>
    intro w mg fa h KX G hmg
    refine' H0.all_mk KX G hmg ?aC0 ?xL0 ?aI0 ?lI0 ?cI0 ?kI0 ?bC0 ?aC1 ?xL1 ?aI1 ?lI1 ?cI1 ?kI1 ?bC1 ?aC2 ?xL2 ?aI2 ?lI2 ?cI2 ?kI2 ?bC2 ?aC3 ?xL3 ?aI3 ?lI3 ?cI3 ?kI3 ?bC3 ?aC4 ?xL4 ?aI4 ?lI4 ?cI4 ?kI4 ?bC4 ?aC5 ?xL5 ?aI5 ?lI5 ?cI5 ?kI5 ?bC5 ?aC6 ?xL6 ?aI6 ?lI6 ?cI6 ?kI6 ?bC6 ?aC7 ?xL7 ?aI7 ?lI7 ?cI7 ?kI7 ?bC7 ?aC8 ?xL8 ?aI8 ?lI8 ?cI8 ?kI8 ?bC8 ?aC9 ?xL9 ?aI9 ?lI9 ?cI9 ?kI9 ?bC9 ?aC10 ?xL10 ?aI10 ?lI10 ?cI10 ?kI10 ?bC10 ?aC11 ?xL11 ?aI11 ?lI11 ?cI11 ?kI11 ?bC11 ?aC12 ?xL12 ?aI12 ?lI12 ?cI12 ?kI12 ?bC12 ?aC13 ?xL13 ?aI13 ?lI13 ?cI13 ?kI13 ?bC13 ?aC14 ?xL14 ?aI14 ?lI14 ?cI14 ?kI14 ?bC14 ?a_bag ?l_bag ?c_bag ?k_bag ?a_draw ?l_draw ?c_draw ?k_draw ?a_thing ?l_thing ?c_thing ?k_thing ?a_raised_0 ?l_raised_0 ?c_raised_0 ?k_raised_0 ?a_raised_1 ?l_raised_1 ?c_raised_1 ?k_raised_1 ?a_raised ?l_raised ?c_raised ?k_raised ?a_kinds ?l_kinds ?c_kinds ?k_kinds ?a_caught ?l_caught ?c_caught ?k_caught ?a_fields_0 ?l_fields_0 ?c_fields_0 ?k_fields_0 ?a_fields_1 ?l_fields_1 ?c_fields_1 ?k_fields_1 ?a_fields ?l_fields ?c_fields ?k_fields ?a_law ?l_law ?c_law ?k_law ?aB ?rB ?gB ?fB ?z_int ?z_list ?z_len ?z_isinstance ?z_ValueError ?z_range ?pB
    (case aC0 => k_is)
    (case xL0 => k_is)
    (case aI0 => k_is)
    (case lI0 => k_is)
    (case cI0 => k_is)
    (case kI0 => k_is)
    (case aC1 => k_is)
    (case xL1 => k_is)
    (case aI1 => k_is)
    (case lI1 => k_is)
    (case cI1 => k_is)
    (case kI1 => k_is)
    (case aC2 => k_is)
    (case xL2 => k_is)
    (case aI2 => k_is)
    (case lI2 => k_is)
    (case cI2 => k_is)
    (case kI2 => k_is)
    (case aC3 => k_is)
    (case xL3 => k_is)
    (case aI3 => k_is)
    (case lI3 => k_is)
    (case cI3 => k_is)
    (case kI3 => k_is)
    (case aC4 => k_is)
    (case xL4 => k_is)
    (case aI4 => k_is)
    (case lI4 => k_is)
    (case cI4 => k_is)
    (case kI4 => k_is)
    (case aC5 => k_is)
    (case xL5 => k_is)
    (case aI5 => k_is)
    (case lI5 => k_is)
    (case cI5 => k_is)
    (case kI5 => k_is)
    (case aC6 => k_is)
    (case xL6 => k_is)
    (case aI6 => k_is)
    (case lI6 => k_is)
    (case cI6 => k_is)
    (case kI6 => k_is)
    (case aC7 => k_is)
    (case xL7 => k_is)
    (case aI7 => k_is)
    (case lI7 => k_is)
    (case cI7 => k_is)
    (case kI7 => k_is)
    (case aC8 => k_is)
    (case xL8 => k_is)
    (case aI8 => k_is)
    (case lI8 => k_is)
    (case cI8 => k_is)
    (case kI8 => k_is)
    (case aC9 => k_is)
    (case xL9 => k_is)
    (case aI9 => k_is)
    (case lI9 => k_is)
    (case cI9 => k_is)
    (case kI9 => k_is)
    (case aC10 => k_is)
    (case xL10 => k_is)
    (case aI10 => k_is)
    (case lI10 => k_is)
    (case cI10 => k_is)
    (case kI10 => k_is)
    (case aC11 => k_is)
    (case xL11 => k_is)
    (case aI11 => k_is)
    (case lI11 => k_is)
    (case cI11 => k_is)
    (case kI11 => k_is)
    (case aC12 => k_is)
    (case xL12 => k_is)
    (case aI12 => k_is)
    (case lI12 => k_is)
    (case cI12 => k_is)
    (case kI12 => k_is)
    (case aC13 => k_is)
    (case xL13 => k_is)
    (case aI13 => k_is)
    (case lI13 => k_is)
    (case cI13 => k_is)
    (case kI13 => k_is)
    (case aC14 => k_is)
    (case xL14 => k_is)
    (case aI14 => k_is)
    (case lI14 => k_is)
    (case cI14 => k_is)
    (case kI14 => k_is)
    (case a_bag => k_is)
    (case l_bag => k_is)
    (case c_bag => k_is)
    (case k_bag => k_is)
    (case a_draw => k_is)
    (case l_draw => k_is)
    (case c_draw => k_is)
    (case k_draw => k_is)
    (case a_thing => k_is)
    (case l_thing => k_is)
    (case c_thing => k_is)
    (case k_thing => k_is)
    (case a_raised_0 => k_is)
    (case l_raised_0 => k_is)
    (case c_raised_0 => k_is)
    (case k_raised_0 => k_is)
    (case a_raised_1 => k_is)
    (case l_raised_1 => k_is)
    (case c_raised_1 => k_is)
    (case k_raised_1 => k_is)
    (case a_raised => k_is)
    (case l_raised => k_is)
    (case c_raised => k_is)
    (case k_raised => k_is)
    (case a_kinds => k_is)
    (case l_kinds => k_is)
    (case c_kinds => k_is)
    (case k_kinds => k_is)
    (case a_caught => k_is)
    (case l_caught => k_is)
    (case c_caught => k_is)
    (case k_caught => k_is)
    (case a_fields_0 => k_is)
    (case l_fields_0 => k_is)
    (case c_fields_0 => k_is)
    (case k_fields_0 => k_is)
    (case a_fields_1 => k_is)
    (case l_fields_1 => k_is)
    (case c_fields_1 => k_is)
    (case k_fields_1 => k_is)
    (case a_fields => k_is)
    (case l_fields => k_is)
    (case c_fields => k_is)
    (case k_fields => k_is)
    (case a_law => k_is)
    (case l_law => k_is)
    (case c_law => k_is)
    (case k_law => k_is)
    (case aB => k_is)
    (case rB => k_is)
    (case gB => k_is)
    (case fB => k_is)
    (case z_int => k_is)
    (case z_list => k_is)
    (case z_len => k_is)
    (case z_isinstance => k_is)
    (case z_ValueError => k_is)
    (case z_range => k_is)
    (case bC0 => kernel_rfl)
    (case bC1 => kernel_rfl)
    (case bC2 => kernel_rfl)
    (case bC3 => kernel_rfl)
    (case bC4 => kernel_rfl)
    (case bC5 => kernel_rfl)
    (case bC6 => kernel_rfl)
    (case bC7 => kernel_rfl)
    (case bC8 => kernel_rfl)
    (case bC9 => kernel_rfl)
    (case bC10 => kernel_rfl)
    (case bC11 => kernel_rfl)
    (case bC12 => kernel_rfl)
    (case bC13 => kernel_rfl)
    (case bC14 => kernel_rfl)
    (case pB => kernel_rfl)
